/- Package bierman: the variance of what is measured. -/
import Derived.Test.YtplffehgjdinnaaBieB
import Derived.Test.YtplffehgjdinnaaTHS
namespace Go.Proofs.Ytplffehgjdinnaa
open Go.RowKit

/-- Rows of one's own that stand while flags are set: where, how long, what, of which type. -/
structure Fr (w0 : World) (p o : Nat) (g : Bool) (L : List (Nat × Nat × (Nat → Int) × TypeId)) (w : World) : Prop where
  F : FlW p o g w0 w
  B : ∀ x ∈ L, w0.heap.size ≤ x.1 ∧ Blk w x.1 (rowA x.2.1 x.2.2.1) x.2.2.2
/-- One that has been made since. -/
structure Fresh2 (w0 : World) (L : List (Nat × Nat × (Nat → Int) × TypeId)) (B n : Nat) (f : Nat → Int) (t : TypeId) (w : World) : Prop where
  lo : w0.heap.size ≤ B
  gt : ∀ x ∈ L, x.1 ≠ B
  blk : Blk w B (rowA n f) t
section
variable {w0 : World} {p o : Nat} {g g2 : Bool} {L : List (Nat × Nat × (Nat → Int) × TypeId)} {w w' : World}
theorem Fr.get (s : Fr w0 p o g L w) {b n : Nat} {f : Nat → Int} {t : TypeId} (h : (b, n, f, t) ∈ L) : Blk w b (rowA n f) t := (s.B _ h).2
theorem Fr.flag (s : Fr w0 p o g L w) (hp : p < w0.heap.size) (k : FlW p o g2 w w') : Fr w0 p o g2 L w' := ⟨s.F.trans k, fun x hx => ⟨(s.B x hx).1, (s.B x hx).2.flag (by have := (s.B x hx).1; omega) k⟩⟩
theorem Fr.call (s : Fr w0 p o g L w) (k : Below w.heap.size w w') : Fr w0 p o g L w' := ⟨s.F.then k, fun x hx => ⟨(s.B x hx).1, (s.B x hx).2.call k⟩⟩
theorem Fr.alloc (s : Fr w0 p o g L w) (y : Obj) : Fr w0 p o g L (w.alloc y) := ⟨s.F.alloc _, fun x hx => ⟨(s.B x hx).1, (s.B x hx).2.alloc _⟩⟩
theorem Fr.drew (s : Fr w0 p o g L w) : Fr w0 p o g L w.drew := ⟨s.F.drew, fun x hx => ⟨(s.B x hx).1, (s.B x hx).2.drew⟩⟩
theorem Fr.hit (s : Fr w0 p o g L w) (e : g = g2) : Fr w0 p o g2 L w := e ▸ s
theorem Fr.row (s : Fr w0 p o g L w) {b : Nat} (h : w0.heap.size ≤ b) (hb : ∀ x ∈ L, x.1 ≠ b) (d : Array Value) : Fr w0 p o g L (w.setRow b d) := ⟨s.F.row h _, fun x hx => ⟨(s.B x hx).1, (s.B x hx).2.otherRow (hb x hx)⟩⟩
theorem Fr.other (s : Fr w0 p o g L w) {b i : Nat} (h : w0.heap.size ≤ b) (hb : ∀ x ∈ L, x.1 ≠ b) (v : Value) : Fr w0 p o g L (w.setCell ⟨b, i, none⟩ v) := ⟨s.F.other h _, fun x hx => ⟨(s.B x hx).1, (s.B x hx).2.other (hb x hx) _⟩⟩
theorem Fr.fresh (s : Fr w0 p o g L w) (n : Nat) (t : TypeId) : Fresh2 w0 L w.heap.size n (fun _ => 0) t (w.alloc (.cells (rowA n fun _ => 0) t)) := ⟨s.F.size, fun x hx => Nat.ne_of_lt (s.B x hx).2.lt, Blk.made _ _ _ rfl⟩
variable {B n : Nat} {f r : Nat → Int} {t : TypeId}
theorem Fresh2.flag (s : Fresh2 w0 L B n f t w) (hp : p < w0.heap.size) (k : FlW p o g2 w w') : Fresh2 w0 L B n f t w' := ⟨s.lo, s.gt, s.blk.flag (by have := s.lo; omega) k⟩
theorem Fresh2.call (s : Fresh2 w0 L B n f t w) (k : Below w.heap.size w w') : Fresh2 w0 L B n f t w' := ⟨s.lo, s.gt, s.blk.call k⟩
theorem Fresh2.alloc (s : Fresh2 w0 L B n f t w) (y : Obj) : Fresh2 w0 L B n f t (w.alloc y) := ⟨s.lo, s.gt, s.blk.alloc _⟩
theorem Fresh2.drew (s : Fresh2 w0 L B n f t w) : Fresh2 w0 L B n f t w.drew := ⟨s.lo, s.gt, s.blk.drew⟩
theorem Fresh2.set (s : Fresh2 w0 L B n f t w) : Fresh2 w0 L B n r t (w.setRow B (rowA n r)) := ⟨s.lo, s.gt, s.blk.setRow⟩
theorem Fresh2.put (s : Fresh2 w0 L B n f t w) {k : Nat} (hk : k < n) (v : Int) : Fresh2 w0 L B n (upd f k v) t (w.setCell ⟨B, k, none⟩ (.int .i64 v)) := ⟨s.lo, s.gt, s.blk.setI hk v⟩
theorem Fresh2.otherRow (s : Fresh2 w0 L B n f t w) {C : Nat} (hne : B ≠ C) (d : Array Value) : Fresh2 w0 L B n f t (w.setRow C d) := ⟨s.lo, s.gt, s.blk.otherRow hne⟩
theorem Fresh2.other (s : Fresh2 w0 L B n f t w) {C i : Nat} (hne : B ≠ C) (v : Value) : Fresh2 w0 L B n f t (w.setCell ⟨C, i, none⟩ v) := ⟨s.lo, s.gt, s.blk.other hne _⟩
/-- It joins the others. -/
theorem Fr.join (s : Fr w0 p o g L w) (k : Fresh2 w0 L B n f t w) : Fr w0 p o g ((B, n, f, t) :: L) w := ⟨s.F, fun x hx => by
  rcases List.mem_cons.1 hx with rfl | h
  · exact ⟨k.lo, k.blk⟩
  · exact s.B x h⟩
theorem Fr.drop {x : Nat × Nat × (Nat → Int) × TypeId} (s : Fr w0 p o g (x :: L) w) : Fr w0 p o g L w := ⟨s.F, fun y hy => s.B y (List.mem_cons_of_mem _ hy)⟩
end
theorem lookR_last (f h : Nat → Int) (r : Int) : lookR (condF f) h r 72 = updS f h r := by
  unfold lookR updS
  rw [if_neg (by omega), if_neg (by omega)]
def actI (p o s : Nat) (f h : Nat → Int) (r : Int) (a9 a10 a11 a12 a13 a14 a15 a16 : Value) : Act := ⟨⟨.pointer (some ⟨p, o, none⟩) :: .agg (rowA 300 f) :: .agg (rowA 24 h) :: .int .i64 r :: undef :: .pointer (some ⟨s, 0, none⟩) :: .pointer (some ⟨s + 1, 0, none⟩) :: undef :: .int .i64 0 :: a9 :: a10 :: a11 :: a12 :: a13 :: a14 :: a15 :: a16 :: undef :: undef :: undef :: []⟩, []⟩
set_option maxRecDepth 100000 in
set_option maxHeartbeats 8000000 in
theorem inn_any (p o : Nat) (f h : Nat → Int) (r : Int) (g : Bool) (w : World) (fl : Fl p o g w) :
    Calls Try.prog 91 #[.pointer (some ⟨p, o, none⟩), .agg (rowA 300 f), .agg (rowA 24 h), .int .i64 r] w fun e w' => e = .returned (.int .i64 (updS f h r)) ∧ FlW p o (g || innH f h r) w w' := by
  have hpw := fl.lt
  go_enter Try.func91, Try.ntmps91
  go_upto_region 1 with (fail)
  generalize hW : World.alloc (World.alloc w _) _ = X
  have hs : Fr w p o g [(w.heap.size, 300, f, 79), (w.heap.size + 1, 24, h, 100)] X := by
    subst hW
    refine ⟨((FlW.refl fl).alloc _).alloc _, fun x hx => ?_⟩
    simp only [List.mem_cons, List.not_mem_nil, or_false] at hx
    rcases hx with rfl | rfl
    · exact ⟨Nat.le_refl _, (Blk.made _ _ _ rfl).alloc _⟩
    · exact ⟨Nat.le_succ _, Blk.made _ _ _ (by simp)⟩
  clear hW

  refine wp_join [9, 10, 11, 12, 13, 14, 15, 16] (fun w' u => ∃ B, u 9 = .pointer (some ⟨B, 0, none⟩) ∧ Fr w p o (g || innH f h r) [(w.heap.size, 300, f, 79), (w.heap.size + 1, 24, h, 100)] w' ∧ Fresh2 w [(w.heap.size, 300, f, 79), (w.heap.size + 1, 24, h, 100)] B 73 (lookR (condF f) h r) 165 w')
    (fun u => ⟨⟨.pointer (some ⟨p, o, none⟩) :: .agg (rowA 300 f) :: .agg (rowA 24 h) :: .int .i64 r :: undef :: .pointer (some ⟨w.heap.size, 0, none⟩) :: .pointer (some ⟨w.heap.size + 1, 0, none⟩) :: undef :: .int .i64 0 :: u 9 :: u 10 :: u 11 :: u 12 :: u 13 :: u 14 :: u 15 :: u 16 :: undef :: undef :: undef :: []⟩, []⟩) (fun u => by kernel_rfl) ?_ ?_
  · refine wp_region_held (S := fun w' => ∃ g, Fr w p o g [(w.heap.size, 300, f, 79), (w.heap.size + 1, 24, h, 100)] w') (by kernel_rfl) ?_
    change wpAnyH _ _ _ _ _ _ _ _ (World.drew _)
    replace hs := hs.drew
    generalize World.drew X = W0 at *
    refine wpAnyH_take (i := 0) rfl (by kernel_rfl) (by kernel_rfl) (by kernel_rfl) (fun _ _ _ h => nomatch h.1) (yields_pure (v := .pointer (some ⟨p, o, none⟩)) (by kernel_rfl) (fun _ => by kernel_rfl)) ⟨_, hs⟩ ?_
    refine wpAnyH_as (b := actI p o w.heap.size f h r undef (.pointer (some ⟨p, o, none⟩)) undef undef undef undef undef undef) (by kernel_rfl) ?_
    refine wpAnyH_take (i := 1) rfl (by kernel_rfl) (by kernel_rfl) (by kernel_rfl) (fun _ _ _ h => nomatch h.1) (yields_pure (v := .pointer (some ⟨p, o, none⟩)) (by kernel_rfl) (fun _ => by kernel_rfl)) ⟨_, hs⟩ ?_
    refine wpAnyH_as (b := actI p o w.heap.size f h r undef (.pointer (some ⟨p, o, none⟩)) (.pointer (some ⟨p, o, none⟩)) undef undef undef undef undef) (by kernel_rfl) ?_
    refine wpAnyH_take (i := 2) rfl (by kernel_rfl) (by kernel_rfl) (by kernel_rfl) (fun _ _ _ h => nomatch h.1) (yields_row 79 (.tmp 5) (w.heap.size) 300 (f) 79 _ (by kernel_rfl) rfl (by kernel_rfl) (fun _ ⟨_, s⟩ => s.get (.head _)) Try.underlying79 rfl covSize) ⟨_, hs⟩ ?_
    refine wpAnyH_as (b := actI p o w.heap.size f h r undef (.pointer (some ⟨p, o, none⟩)) (.pointer (some ⟨p, o, none⟩)) (.agg (rowA 300 (f))) undef undef undef undef) (by kernel_rfl) ?_
    refine wpAnyH_take (i := 4) rfl (by kernel_rfl) (by kernel_rfl) (by kernel_rfl) (fun _ _ _ h => nomatch h.1) (yields_row 100 (.tmp 6) (w.heap.size + 1) 24 (h) 100 _ (by kernel_rfl) rfl (by kernel_rfl) (fun _ ⟨_, s⟩ => s.get (.tail _ (.head _))) Try.underlying100 rfl brSize) ⟨_, hs⟩ ?_
    refine wpAnyH_as (b := actI p o w.heap.size f h r undef (.pointer (some ⟨p, o, none⟩)) (.pointer (some ⟨p, o, none⟩)) (.agg (rowA 300 (f))) undef (.agg (rowA 24 (h))) undef undef) (by kernel_rfl) ?_
    refine wpAnyH_take (i := 5) rfl (by kernel_rfl) (by kernel_rfl) (by kernel_rfl) (fun _ _ _ h => nomatch h.1) (yields_pure (v := .int .i64 r) (by kernel_rfl) (fun _ => by kernel_rfl)) ⟨_, hs⟩ ?_
    refine wpAnyH_as (b := actI p o w.heap.size f h r undef (.pointer (some ⟨p, o, none⟩)) (.pointer (some ⟨p, o, none⟩)) (.agg (rowA 300 (f))) undef (.agg (rowA 24 (h))) (.int .i64 r) undef) (by kernel_rfl) ?_
    refine wpAnyH_all (rs := [3, 7]) (by kernel_rfl) (by simp) ?_
    intro i hi
    simp only [List.mem_cons, List.not_mem_nil, or_false] at hi
    rcases hi with rfl | rfl
    · refine wpOp_call (by kernel_rfl) (by kernel_rfl) (by kernel_rfl) (condition_any p o f _ _ (hs.F.fl fl)) ?_
      intro W1 k
      replace hs := hs.flag hpw k
      clear k
      refine ⟨⟨_, hs⟩, ?_⟩
      refine wpAnyH_as (b := actI p o w.heap.size f h r undef (.pointer (some ⟨p, o, none⟩)) (.pointer (some ⟨p, o, none⟩)) (.agg (rowA 300 (f))) (.agg (rowA 300 (condF f))) (.agg (rowA 24 (h))) (.int .i64 r) undef) (by kernel_rfl) ?_
      refine wpAnyH_all (rs := [6, 7]) (by kernel_rfl) (by simp) ?_
      intro i hi
      simp only [List.mem_cons, List.not_mem_nil, or_false] at hi
      rcases hi with rfl | rfl
      · refine wpOp_call (by kernel_rfl) (by kernel_rfl) (by kernel_rfl) (look_any p o (condF f) h r _ _ (hs.F.fl fl)) ?_
        intro W2 k
        replace hs := hs.flag hpw k
        clear k
        refine ⟨⟨_, hs⟩, ?_⟩
        refine wpAnyH_as (b := actI p o w.heap.size f h r undef (.pointer (some ⟨p, o, none⟩)) (.pointer (some ⟨p, o, none⟩)) (.agg (rowA 300 (f))) (.agg (rowA 300 (condF f))) (.agg (rowA 24 (h))) (.int .i64 r) (.agg (rowA 73 (lookR (condF f) h r)))) (by kernel_rfl) ?_
        refine wpAnyH_all (rs := [7]) (by kernel_rfl) (by simp) ?_
        intro i hi
        obtain rfl : i = 7 := by simpa using hi
        refine wpOp_value (by kernel_rfl) (by kernel_rfl) (w' := World.alloc W2 (.cells (rowA 73 fun _ => 0) 165)) (v := .pointer (some ⟨W2.heap.size, 0, none⟩)) (by rw [← zeroSight]; kernel_rfl) ?_
        have fS := hs.fresh 73 165
        replace hs := hs.alloc (.cells (rowA 73 fun _ => 0) 165)
        generalize World.alloc W2 _ = W3 at *
        generalize W2.heap.size = B3 at *
        refine ⟨⟨_, hs⟩, ?_⟩
        refine wpAnyH_as (b := actI p o w.heap.size f h r (.pointer (some ⟨B3, 0, none⟩)) (.pointer (some ⟨p, o, none⟩)) (.pointer (some ⟨p, o, none⟩)) (.agg (rowA 300 (f))) (.agg (rowA 300 (condF f))) (.agg (rowA 24 (h))) (.int .i64 r) (.agg (rowA 73 (lookR (condF f) h r)))) (by kernel_rfl) ?_
        refine wpAnyH_all (rs := [8]) (by kernel_rfl) (by simp) ?_
        intro i hi
        obtain rfl : i = 8 := by simpa using hi
        refine wpOp_store (by kernel_rfl) (by kernel_rfl) 165 (.tmp 9) (.tmp 16) B3 73 (lookR (condF f) h r) (fun _ => 0) 165 (by kernel_rfl) (by kernel_rfl) (by kernel_rfl) fS.blk bsSize ?_
        replace hs := hs.row fS.lo fS.gt (rowA 73 (lookR (condF f) h r))
        replace fS := fS.set (r := (lookR (condF f) h r))
        refine ⟨⟨_, hs⟩, ?_⟩
        refine wpAnyH_done (by kernel_rfl) ?_ _
        exact ⟨rfl, by kernel_rfl, B3, by kernel_rfl, hs.hit (by unfold innH; simp only [Bool.or_assoc]), fS⟩
      · refine wpOp_value (by kernel_rfl) (by kernel_rfl) (w' := World.alloc W1 (.cells (rowA 73 fun _ => 0) 165)) (v := .pointer (some ⟨W1.heap.size, 0, none⟩)) (by rw [← zeroSight]; kernel_rfl) ?_
        have fS := hs.fresh 73 165
        replace hs := hs.alloc (.cells (rowA 73 fun _ => 0) 165)
        generalize World.alloc W1 _ = W5 at *
        generalize W1.heap.size = B5 at *
        refine ⟨⟨_, hs⟩, ?_⟩
        refine wpAnyH_as (b := actI p o w.heap.size f h r (.pointer (some ⟨B5, 0, none⟩)) (.pointer (some ⟨p, o, none⟩)) (.pointer (some ⟨p, o, none⟩)) (.agg (rowA 300 (f))) (.agg (rowA 300 (condF f))) (.agg (rowA 24 (h))) (.int .i64 r) undef) (by kernel_rfl) ?_
        refine wpAnyH_all (rs := [6]) (by kernel_rfl) (by simp) ?_
        intro i hi
        obtain rfl : i = 6 := by simpa using hi
        refine wpOp_call (by kernel_rfl) (by kernel_rfl) (by kernel_rfl) (look_any p o (condF f) h r _ _ (hs.F.fl fl)) ?_
        intro W6 k
        replace hs := hs.flag hpw k
        replace fS := fS.flag hpw k
        clear k
        refine ⟨⟨_, hs⟩, ?_⟩
        refine wpAnyH_as (b := actI p o w.heap.size f h r (.pointer (some ⟨B5, 0, none⟩)) (.pointer (some ⟨p, o, none⟩)) (.pointer (some ⟨p, o, none⟩)) (.agg (rowA 300 (f))) (.agg (rowA 300 (condF f))) (.agg (rowA 24 (h))) (.int .i64 r) (.agg (rowA 73 (lookR (condF f) h r)))) (by kernel_rfl) ?_
        refine wpAnyH_all (rs := [8]) (by kernel_rfl) (by simp) ?_
        intro i hi
        obtain rfl : i = 8 := by simpa using hi
        refine wpOp_store (by kernel_rfl) (by kernel_rfl) 165 (.tmp 9) (.tmp 16) B5 73 (lookR (condF f) h r) (fun _ => 0) 165 (by kernel_rfl) (by kernel_rfl) (by kernel_rfl) fS.blk bsSize ?_
        replace hs := hs.row fS.lo fS.gt (rowA 73 (lookR (condF f) h r))
        replace fS := fS.set (r := (lookR (condF f) h r))
        refine ⟨⟨_, hs⟩, ?_⟩
        refine wpAnyH_done (by kernel_rfl) ?_ _
        exact ⟨rfl, by kernel_rfl, B5, by kernel_rfl, hs.hit (by unfold innH; simp only [Bool.or_assoc]), fS⟩
    · refine wpOp_value (by kernel_rfl) (by kernel_rfl) (w' := World.alloc W0 (.cells (rowA 73 fun _ => 0) 165)) (v := .pointer (some ⟨W0.heap.size, 0, none⟩)) (by rw [← zeroSight]; kernel_rfl) ?_
      have fS := hs.fresh 73 165
      replace hs := hs.alloc (.cells (rowA 73 fun _ => 0) 165)
      generalize World.alloc W0 _ = W8 at *
      generalize W0.heap.size = B8 at *
      refine ⟨⟨_, hs⟩, ?_⟩
      refine wpAnyH_as (b := actI p o w.heap.size f h r (.pointer (some ⟨B8, 0, none⟩)) (.pointer (some ⟨p, o, none⟩)) (.pointer (some ⟨p, o, none⟩)) (.agg (rowA 300 (f))) undef (.agg (rowA 24 (h))) (.int .i64 r) undef) (by kernel_rfl) ?_
      refine wpAnyH_all (rs := [3]) (by kernel_rfl) (by simp) ?_
      intro i hi
      obtain rfl : i = 3 := by simpa using hi
      refine wpOp_call (by kernel_rfl) (by kernel_rfl) (by kernel_rfl) (condition_any p o f _ _ (hs.F.fl fl)) ?_
      intro W9 k
      replace hs := hs.flag hpw k
      replace fS := fS.flag hpw k
      clear k
      refine ⟨⟨_, hs⟩, ?_⟩
      refine wpAnyH_as (b := actI p o w.heap.size f h r (.pointer (some ⟨B8, 0, none⟩)) (.pointer (some ⟨p, o, none⟩)) (.pointer (some ⟨p, o, none⟩)) (.agg (rowA 300 (f))) (.agg (rowA 300 (condF f))) (.agg (rowA 24 (h))) (.int .i64 r) undef) (by kernel_rfl) ?_
      refine wpAnyH_all (rs := [6]) (by kernel_rfl) (by simp) ?_
      intro i hi
      obtain rfl : i = 6 := by simpa using hi
      refine wpOp_call (by kernel_rfl) (by kernel_rfl) (by kernel_rfl) (look_any p o (condF f) h r _ _ (hs.F.fl fl)) ?_
      intro W10 k
      replace hs := hs.flag hpw k
      replace fS := fS.flag hpw k
      clear k
      refine ⟨⟨_, hs⟩, ?_⟩
      refine wpAnyH_as (b := actI p o w.heap.size f h r (.pointer (some ⟨B8, 0, none⟩)) (.pointer (some ⟨p, o, none⟩)) (.pointer (some ⟨p, o, none⟩)) (.agg (rowA 300 (f))) (.agg (rowA 300 (condF f))) (.agg (rowA 24 (h))) (.int .i64 r) (.agg (rowA 73 (lookR (condF f) h r)))) (by kernel_rfl) ?_
      refine wpAnyH_all (rs := [8]) (by kernel_rfl) (by simp) ?_
      intro i hi
      obtain rfl : i = 8 := by simpa using hi
      refine wpOp_store (by kernel_rfl) (by kernel_rfl) 165 (.tmp 9) (.tmp 16) B8 73 (lookR (condF f) h r) (fun _ => 0) 165 (by kernel_rfl) (by kernel_rfl) (by kernel_rfl) fS.blk bsSize ?_
      replace hs := hs.row fS.lo fS.gt (rowA 73 (lookR (condF f) h r))
      replace fS := fS.set (r := (lookR (condF f) h r))
      refine ⟨⟨_, hs⟩, ?_⟩
      refine wpAnyH_done (by kernel_rfl) ?_ _
      exact ⟨rfl, by kernel_rfl, B8, by kernel_rfl, hs.hit (by unfold innH; simp only [Bool.or_assoc]), fS⟩
  · rintro w' u ⟨B, hu, hs, fS⟩
    rw [hu]
    have hc := fS.blk.cell 72
    rw [rowA_get _ (by omega), lookR_last] at hc
    have hF := hs.F
    clear fS hs hu
    go_wp2_with fail
    go_ret
    exact ⟨rfl, hF⟩
end Go.Proofs.Ytplffehgjdinnaa

