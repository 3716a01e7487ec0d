/- Inertial samples are summed. -/
import Derived.Test.YtdndomknjefgkaaDnL
import Derived.Test.YtdndomknjefgkaaRgX
namespace Go.Proofs.Ytdndomknjefgkaa.Rg
open Go.RowKit
def addI (p i : Nat → Int) (j : Nat) : Int := if j = 0 then i 0 else p j + i j
def foldI (p : Nat → Int) : List Sam → Nat → Int
  | [] => p
  | x :: l => foldI (addI p (fn x)) l
theorem foldI_snoc : ∀ (l : List Sam) (p : Nat → Int) (x : Sam), foldI p (l ++ [x]) = addI (foldI p l) (fn x)
  | [], _, _ => rfl
  | _ :: l, _, x => foldI_snoc l _ x
/-- Of moderate size: what is summed. -/
def Mod (n : Int) (f : Nat → Int) : Prop := ∀ j, 1 ≤ j → j < 8 → -(n * 281474976710656) ≤ f j ∧ f j ≤ n * 281474976710656
theorem Mod.add {n : Int} {f g : Nat → Int} (h : Mod n f) (k : Mod 1 g) : Mod (n + 1) (addI f g) := fun j h1 h2 => by
  have a := h j h1 h2
  have b := k j h1 h2
  unfold addI
  rw [if_neg (by omega)]
  omega
theorem Mod.fold {l : List Sam} (h : ∀ y ∈ l, Mod 1 (fn y)) : ∀ k, k ≤ l.length → Mod k (foldI (fun _ => 0) (l.take k))
  | 0, _ => fun j _ _ => by simp [foldI]
  | k + 1, hk => by
    rw [take_snoc l k (by omega), foldI_snoc]
    exact (Mod.fold h k (by omega)).add (h _ (by
      rw [List.getD_eq_getElem?_getD, List.getElem?_eq_getElem (show k < l.length by omega), Option.getD_some]
      exact List.getElem_mem _))
theorem imuSize : (Try.prog.info? 32).map (·.size) = some 8 := by kernel_rfl
/-- The answer lies at r, the sum at s, the sample at q. -/
structure Sm (w : World) (p o : Nat) (h : Bool) (r s q : Nat) (A x : Nat → Int) (W : World) : Prop where
  F : FlW p o h w W
  all : Blk W s (rowA 8 A) 32
  cur : Blk W q (rowA 8 x) 32
  ret : Blk W r (rowA 8 fun _ => 0) 32
theorem Sm.flag {w W W2 : World} {p o : Nat} {h : Bool} {r s q : Nat} {A x : Nat → Int} (m : Sm w p o h r s q A x W) (hs : s ≠ p ∧ q ≠ p ∧ r ≠ p) (k : FlW p o h W W2) : Sm w p o h r s q A x W2 := ⟨m.F.trans k, m.all.flag hs.1 k, m.cur.flag hs.2.1 k, m.ret.flag hs.2.2 k⟩
theorem Sm.alloc {w W : World} {p o : Nat} {h : Bool} {r s q : Nat} {A x : Nat → Int} (m : Sm w p o h r s q A x W) (ob : Obj) : Sm w p o h r s q A x (W.alloc ob) := ⟨m.F.alloc _, m.all.alloc _, m.cur.alloc _, m.ret.alloc _⟩
theorem Sm.drew {w W : World} {p o : Nat} {h : Bool} {r s q : Nat} {A x : Nat → Int} (m : Sm w p o h r s q A x W) : Sm w p o h r s q A x W.drew := ⟨m.F.drew, m.all, m.cur, m.ret⟩
theorem a3Size : (Try.prog.info? 30).map (·.size) = some 3 := by kernel_rfl
def actS (p o s q gg oo n c k : Nat) (x : Nat → Int) (a14 a15 a16 a17 a18 a19 a20 a21 a22 a23 a24 a25 a26 a27 a28 a29 a30 a31 a32 a33 a34 a35 a36 a37 a38 : Value) : Act := ⟨⟨.pointer (some ⟨p, o, none⟩) :: .slice (some ⟨gg, oo, none⟩) n c :: undef :: undef :: .pointer (some ⟨s, 0, none⟩) :: .pointer (some ⟨s + 1, 0, none⟩) :: undef :: .pointer (some ⟨q, 0, none⟩) :: .slice (some ⟨gg, oo, none⟩) n c :: .int .i64 n :: .int .i64 k :: .bool true :: .pointer (some ⟨gg, oo + k * 8, none⟩) :: .agg (rowA 8 x) :: a14 :: a15 :: a16 :: a17 :: a18 :: a19 :: a20 :: a21 :: a22 :: a23 :: a24 :: a25 :: a26 :: a27 :: a28 :: a29 :: a30 :: a31 :: a32 :: a33 :: a34 :: a35 :: a36 :: a37 :: a38 :: undef :: []⟩, []⟩
set_option maxRecDepth 100000 in
set_option maxHeartbeats 16000000 in
theorem sum_any (p o : Nat) (ad : Option Addr) (n c : Nat) (l : List Sam) (h : Bool) (w : World) (f : Fl p o h w) (hl : Arg 8 w ad n l) (hp : ∀ g o', ad = some ⟨g, o', none⟩ → g ≠ p) (hn : n ≤ 1000) (hm : ∀ y ∈ l, Mod 1 (fn y)) :
    Calls Try.prog 30 #[.pointer (some ⟨p, o, none⟩), .slice ad n c] w fun e w' => e = .returned (.agg (rowA 8 (foldI (fun _ => 0) l))) ∧ FlW p o h w w' := by
  have HL := Lib.hid hl
  have HM := Lib.hid hm
  clear hl hm
  go_enter Try.func30, Try.ntmps30
  go_wp2_with fail
  generalize hs : w.heap.size = s at *
  go_loopw [10] (fun i wr => ∃ k : Nat, i = .int .i64 k ∧ k ≤ n ∧ Hid (FlW p o h w wr) ∧ Hid (Blk wr (s + 1) (rowA 8 (foldI (fun _ => 0) (l.take k))) 32) ∧ Hid (Blk wr s (rowA 8 fun _ => 0) 32)) (fun i _ => n - (intOf i).toNat)
  case atStart => exact ⟨0, rfl, Nat.zero_le _, Lib.hid (((FlW.refl f).alloc _).alloc _), Lib.hid (Blk.made _ _ _ (by simp; omega)), Lib.hid ((Blk.made _ _ _ hs).alloc _)⟩
  case round =>
    obtain ⟨k, rfl, hk, hF, hA, hR⟩ := hrel
    have hkI0 : (0 : Int) ≤ (k : Int) := by omega
    by_cases hlt : k < n
    · have hltI : (k : Int) < (n : Int) := by omega
      obtain ⟨gg, oo, y, rfl, hy, hy8, hgw, hI0⟩ := HL.out.one hlt
      have hgp := hp gg oo rfl
      have hI : Ints wr gg (oo + k * 8) 8 (fn y) := hI0.flag hgw hgp hF.out
      clear hI0
      have HY := Lib.hid hy
      clear hy
      have hsz := hA.out.lt
      have hZ : Blk (wr.alloc (.cells #[.int .i64 0, .int .i64 0, .int .i64 0, .int .i64 0, .int .i64 0, .int .i64 0, .int .i64 0, .int .i64 0] 32)) wr.heap.size (rowA 8 fun _ => 0) 32 := Blk.made _ _ _ rfl
      go_upto_region 5 with (first
        | ((with_reducible refine mid_load 32 (.tmp 12) ?_ ?_ gg (oo + k * 8) 8 (fn y) ?_ hI _ Try.underlying32 ?_ imuSize ?_); rfl; rfl; rfl; rfl)
        | ((with_reducible refine row_store 32 (.tmp 7) (.tmp 13) ?_ ?_ wr.heap.size 8 (fn y) (fun _ => 0) 32 ?_ ?_ hZ imuSize ?_); rfl; rfl; rfl; rfl))
      have hs0 : Sm w p o h s (s + 1) wr.heap.size (foldI (fun _ => 0) (l.take k)) (fn y) ((wr.alloc (.cells #[.int .i64 0, .int .i64 0, .int .i64 0, .int .i64 0, .int .i64 0, .int .i64 0, .int .i64 0, .int .i64 0] 32)).setRow wr.heap.size (rowA 8 (fn y))) :=
        ⟨(hF.out.alloc _).row (by have := hF.out.size; omega) _, (hA.out.alloc _).otherRow (by omega), hZ.setRow, (hR.out.alloc _).otherRow (by omega)⟩
      have BA : ∀ j, 1 ≤ j → j < 8 → -288230376151711744 ≤ foldI (fun _ => 0) (l.take k) j ∧ foldI (fun _ => 0) (l.take k) j ≤ 288230376151711744 := fun j h1 h2 => by
        have := Mod.fold HM.out k (by have := HL.out.len; omega) j h1 h2
        omega
      have BX : ∀ j, 1 ≤ j → j < 8 → -288230376151711744 ≤ fn y j ∧ fn y j ≤ 288230376151711744 := fun j h1 h2 => by
        have := HM.out y (by
          rw [HY.out, List.getD_eq_getElem?_getD, List.getElem?_eq_getElem (show k < l.length by have := HL.out.len; omega), Option.getD_some]
          exact List.getElem_mem _) j h1 h2
        omega
      have hpw := f.lt
      have hpq : s + 1 ≠ p ∧ wr.heap.size ≠ p ∧ s ≠ p := by have := hF.out.size; omega
      have hnew := foldI_snoc (l.take k) (fun _ => 0) y
      rw [HY.out, ← take_snoc l k (by have := HL.out.len; omega), ← HY.out] at hnew
      have HN := Lib.hid hnew
      have hqs : s + 1 ≠ wr.heap.size := by omega
      have hRs : s ≠ wr.heap.size := by omega
      clear hnew hI hZ hA hR
      generalize World.setRow _ _ _ = X at *
      generalize wr.heap.size = q at *
      generalize foldI (fun _ => 0) (l.take k) = A at *
      generalize fn y = x at *
      refine wp_join [14, 15, 16, 17, 18, 19, 20, 21, 22, 23, 24, 25, 26, 27, 28, 29, 30, 31, 32, 33, 34, 35, 36, 37] (fun w' u => FlW p o h w w' ∧ Blk w' (s + 1) (rowA 8 (addI A x)) 32 ∧ Blk w' s (rowA 8 fun _ => 0) 32)
        (fun u => actS p o s q gg oo n c k x (u 14) (u 15) (u 16) (u 17) (u 18) (u 19) (u 20) (u 21) (u 22) (u 23) (u 24) (u 25) (u 26) (u 27) (u 28) (u 29) (u 30) (u 31) (u 32) (u 33) (u 34) (u 35) (u 36) (u 37) u38) (fun u => by kernel_rfl) ?_ ?_
      · refine wp_region_last (m := 24) (n := 24) (S := Sm w p o h s (s + 1) q A x) (Q' := fun e b w' => e = .normal ∧ ∃ v21 v28 v35, b = actS p o s q gg oo n c k x (.pointer (some ⟨q, 0, none⟩)) (.int .i64 (x 0)) (.pointer (some ⟨p, o, none⟩)) (.pointer (some ⟨s + 1, 1, none⟩)) (.int .i64 (A 1)) (.pointer (some ⟨q, 1, none⟩)) (.int .i64 (x 1)) (v21) (.int .i64 (A 1 + x 1)) (.pointer (some ⟨p, o, none⟩)) (.pointer (some ⟨s + 1, 2, none⟩)) (.agg #[.int .i64 (A 2), .int .i64 (A 3), .int .i64 (A 4)]) (.pointer (some ⟨q, 2, none⟩)) (.agg #[.int .i64 (x 2), .int .i64 (x 3), .int .i64 (x 4)]) (v28) (.agg #[.int .i64 (A 2 + x 2), .int .i64 (A 3 + x 3), .int .i64 (A 4 + x 4)]) (.pointer (some ⟨p, o, none⟩)) (.pointer (some ⟨s + 1, 5, none⟩)) (.agg #[.int .i64 (A 5), .int .i64 (A 6), .int .i64 (A 7)]) (.pointer (some ⟨q, 5, none⟩)) (.agg #[.int .i64 (x 5), .int .i64 (x 6), .int .i64 (x 7)]) (v35) (.agg #[.int .i64 (A 5 + x 5), .int .i64 (A 6 + x 6), .int .i64 (A 7 + x 7)]) (.agg (rowA 8 (addI A x))) u38 ∧ Sm w p o h s (s + 1) q A x w') (by kernel_rfl) (by kernel_rfl) (fun e a w hne h => absurd h.1 hne) ?_ (by kernel_rfl) ?_
        · rintro a w' ⟨_, v21, v28, v35, rfl, hs⟩
          refine wpOp_store (by kernel_rfl) (by kernel_rfl) 32 (.tmp 5) (.tmp 37) (s + 1) 8 (addI A x) A 32 (by kernel_rfl) (by kernel_rfl) (by kernel_rfl) hs.all imuSize ?_
          exact ⟨rfl, by kernel_rfl, hs.F.row (by omega) _, hs.all.setRow, hs.ret.otherRow (by omega)⟩
        change wpAnyH _ _ _ _ _ _ _ _ (World.drew _)
        replace hs0 := hs0.drew
        generalize World.drew X = W0 at *
        have hs := hs0
        clear hs0
        refine wpAnyH_as (b := actS p o s q gg oo n c k x u14 u15 u16 u17 u18 u19 u20 u21 u22 u23 u24 u25 u26 u27 u28 u29 u30 u31 u32 u33 u34 u35 u36 u37 u38) (by kernel_rfl) ?_
        refine wpAnyH_take (i := 0) rfl (by kernel_rfl) (by kernel_rfl) (by kernel_rfl) (fun _ _ _ h => nomatch h.1) (yields_pure (v := .pointer (some ⟨q, 0, none⟩)) (by kernel_rfl) (fun _ => by kernel_rfl)) hs ?_
        refine wpAnyH_as (b := actS p o s q gg oo n c k x (.pointer (some ⟨q, 0, none⟩)) u15 u16 u17 u18 u19 u20 u21 u22 u23 u24 u25 u26 u27 u28 u29 u30 u31 u32 u33 u34 u35 u36 u37 u38) (by kernel_rfl) ?_
        refine wpAnyH_take (i := 1) rfl (by kernel_rfl) (by kernel_rfl) (by kernel_rfl) (fun _ _ _ h => nomatch h.1) (yields_i64 (.tmp 14) (q) 0 (x 0) (by kernel_rfl) rfl (by kernel_rfl) (fun _ s => s.cur.cell 0)) hs ?_
        refine wpAnyH_as (b := actS p o s q gg oo n c k x (.pointer (some ⟨q, 0, none⟩)) (.int .i64 (x 0)) u16 u17 u18 u19 u20 u21 u22 u23 u24 u25 u26 u27 u28 u29 u30 u31 u32 u33 u34 u35 u36 u37 u38) (by kernel_rfl) ?_
        refine wpAnyH_take (i := 2) rfl (by kernel_rfl) (by kernel_rfl) (by kernel_rfl) (fun _ _ _ h => nomatch h.1) (yields_pure (v := .pointer (some ⟨p, o, none⟩)) (by kernel_rfl) (fun _ => by kernel_rfl)) hs ?_
        refine wpAnyH_as (b := actS p o s q gg oo n c k x (.pointer (some ⟨q, 0, none⟩)) (.int .i64 (x 0)) (.pointer (some ⟨p, o, none⟩)) u17 u18 u19 u20 u21 u22 u23 u24 u25 u26 u27 u28 u29 u30 u31 u32 u33 u34 u35 u36 u37 u38) (by kernel_rfl) ?_
        refine wpAnyH_take (i := 3) rfl (by kernel_rfl) (by kernel_rfl) (by kernel_rfl) (fun _ _ _ h => nomatch h.1) (yields_pure (v := .pointer (some ⟨s + 1, 1, none⟩)) (by kernel_rfl) (fun _ => by kernel_rfl)) hs ?_
        refine wpAnyH_as (b := actS p o s q gg oo n c k x (.pointer (some ⟨q, 0, none⟩)) (.int .i64 (x 0)) (.pointer (some ⟨p, o, none⟩)) (.pointer (some ⟨s + 1, 1, none⟩)) u18 u19 u20 u21 u22 u23 u24 u25 u26 u27 u28 u29 u30 u31 u32 u33 u34 u35 u36 u37 u38) (by kernel_rfl) ?_
        refine wpAnyH_take (i := 4) rfl (by kernel_rfl) (by kernel_rfl) (by kernel_rfl) (fun _ _ _ h => nomatch h.1) (yields_i64 (.tmp 17) (s + 1) 1 (A 1) (by kernel_rfl) rfl (by kernel_rfl) (fun _ s => s.all.cell 1)) hs ?_
        refine wpAnyH_as (b := actS p o s q gg oo n c k x (.pointer (some ⟨q, 0, none⟩)) (.int .i64 (x 0)) (.pointer (some ⟨p, o, none⟩)) (.pointer (some ⟨s + 1, 1, none⟩)) (.int .i64 (A 1)) u19 u20 u21 u22 u23 u24 u25 u26 u27 u28 u29 u30 u31 u32 u33 u34 u35 u36 u37 u38) (by kernel_rfl) ?_
        refine wpAnyH_take (i := 5) rfl (by kernel_rfl) (by kernel_rfl) (by kernel_rfl) (fun _ _ _ h => nomatch h.1) (yields_pure (v := .pointer (some ⟨q, 1, none⟩)) (by kernel_rfl) (fun _ => by kernel_rfl)) hs ?_
        refine wpAnyH_as (b := actS p o s q gg oo n c k x (.pointer (some ⟨q, 0, none⟩)) (.int .i64 (x 0)) (.pointer (some ⟨p, o, none⟩)) (.pointer (some ⟨s + 1, 1, none⟩)) (.int .i64 (A 1)) (.pointer (some ⟨q, 1, none⟩)) u20 u21 u22 u23 u24 u25 u26 u27 u28 u29 u30 u31 u32 u33 u34 u35 u36 u37 u38) (by kernel_rfl) ?_
        refine wpAnyH_take (i := 6) rfl (by kernel_rfl) (by kernel_rfl) (by kernel_rfl) (fun _ _ _ h => nomatch h.1) (yields_i64 (.tmp 19) (q) 1 (x 1) (by kernel_rfl) rfl (by kernel_rfl) (fun _ s => s.cur.cell 1)) hs ?_
        refine wpAnyH_as (b := actS p o s q gg oo n c k x (.pointer (some ⟨q, 0, none⟩)) (.int .i64 (x 0)) (.pointer (some ⟨p, o, none⟩)) (.pointer (some ⟨s + 1, 1, none⟩)) (.int .i64 (A 1)) (.pointer (some ⟨q, 1, none⟩)) (.int .i64 (x 1)) u21 u22 u23 u24 u25 u26 u27 u28 u29 u30 u31 u32 u33 u34 u35 u36 u37 u38) (by kernel_rfl) ?_
        refine wpAnyH_take (i := 9) rfl (by kernel_rfl) (by kernel_rfl) (by kernel_rfl) (fun _ _ _ h => nomatch h.1) (yields_pure (v := .pointer (some ⟨p, o, none⟩)) (by kernel_rfl) (fun _ => by kernel_rfl)) hs ?_
        refine wpAnyH_as (b := actS p o s q gg oo n c k x (.pointer (some ⟨q, 0, none⟩)) (.int .i64 (x 0)) (.pointer (some ⟨p, o, none⟩)) (.pointer (some ⟨s + 1, 1, none⟩)) (.int .i64 (A 1)) (.pointer (some ⟨q, 1, none⟩)) (.int .i64 (x 1)) u21 u22 (.pointer (some ⟨p, o, none⟩)) u24 u25 u26 u27 u28 u29 u30 u31 u32 u33 u34 u35 u36 u37 u38) (by kernel_rfl) ?_
        refine wpAnyH_take (i := 10) rfl (by kernel_rfl) (by kernel_rfl) (by kernel_rfl) (fun _ _ _ h => nomatch h.1) (yields_pure (v := .pointer (some ⟨s + 1, 2, none⟩)) (by kernel_rfl) (fun _ => by kernel_rfl)) hs ?_
        refine wpAnyH_as (b := actS p o s q gg oo n c k x (.pointer (some ⟨q, 0, none⟩)) (.int .i64 (x 0)) (.pointer (some ⟨p, o, none⟩)) (.pointer (some ⟨s + 1, 1, none⟩)) (.int .i64 (A 1)) (.pointer (some ⟨q, 1, none⟩)) (.int .i64 (x 1)) u21 u22 (.pointer (some ⟨p, o, none⟩)) (.pointer (some ⟨s + 1, 2, none⟩)) u25 u26 u27 u28 u29 u30 u31 u32 u33 u34 u35 u36 u37 u38) (by kernel_rfl) ?_
        refine wpAnyH_take (i := 11) rfl (by kernel_rfl) (by kernel_rfl) (by kernel_rfl) (fun _ _ _ h => nomatch h.1) (yields_mid 30 (.tmp 24) (s + 1) 2 3 (fun j => A (2 + j)) _ (by kernel_rfl) rfl (by kernel_rfl) (fun _ s => ints3 (s.all.cell 2) (s.all.cell 3) (s.all.cell 4)) Try.underlying30 rfl a3Size) hs ?_
        refine wpAnyH_as (b := actS p o s q gg oo n c k x (.pointer (some ⟨q, 0, none⟩)) (.int .i64 (x 0)) (.pointer (some ⟨p, o, none⟩)) (.pointer (some ⟨s + 1, 1, none⟩)) (.int .i64 (A 1)) (.pointer (some ⟨q, 1, none⟩)) (.int .i64 (x 1)) u21 u22 (.pointer (some ⟨p, o, none⟩)) (.pointer (some ⟨s + 1, 2, none⟩)) (.agg #[.int .i64 (A 2), .int .i64 (A 3), .int .i64 (A 4)]) u26 u27 u28 u29 u30 u31 u32 u33 u34 u35 u36 u37 u38) (by kernel_rfl) ?_
        refine wpAnyH_take (i := 12) rfl (by kernel_rfl) (by kernel_rfl) (by kernel_rfl) (fun _ _ _ h => nomatch h.1) (yields_pure (v := .pointer (some ⟨q, 2, none⟩)) (by kernel_rfl) (fun _ => by kernel_rfl)) hs ?_
        refine wpAnyH_as (b := actS p o s q gg oo n c k x (.pointer (some ⟨q, 0, none⟩)) (.int .i64 (x 0)) (.pointer (some ⟨p, o, none⟩)) (.pointer (some ⟨s + 1, 1, none⟩)) (.int .i64 (A 1)) (.pointer (some ⟨q, 1, none⟩)) (.int .i64 (x 1)) u21 u22 (.pointer (some ⟨p, o, none⟩)) (.pointer (some ⟨s + 1, 2, none⟩)) (.agg #[.int .i64 (A 2), .int .i64 (A 3), .int .i64 (A 4)]) (.pointer (some ⟨q, 2, none⟩)) u27 u28 u29 u30 u31 u32 u33 u34 u35 u36 u37 u38) (by kernel_rfl) ?_
        refine wpAnyH_take (i := 13) rfl (by kernel_rfl) (by kernel_rfl) (by kernel_rfl) (fun _ _ _ h => nomatch h.1) (yields_mid 30 (.tmp 26) (q) 2 3 (fun j => x (2 + j)) _ (by kernel_rfl) rfl (by kernel_rfl) (fun _ s => ints3 (s.cur.cell 2) (s.cur.cell 3) (s.cur.cell 4)) Try.underlying30 rfl a3Size) hs ?_
        refine wpAnyH_as (b := actS p o s q gg oo n c k x (.pointer (some ⟨q, 0, none⟩)) (.int .i64 (x 0)) (.pointer (some ⟨p, o, none⟩)) (.pointer (some ⟨s + 1, 1, none⟩)) (.int .i64 (A 1)) (.pointer (some ⟨q, 1, none⟩)) (.int .i64 (x 1)) u21 u22 (.pointer (some ⟨p, o, none⟩)) (.pointer (some ⟨s + 1, 2, none⟩)) (.agg #[.int .i64 (A 2), .int .i64 (A 3), .int .i64 (A 4)]) (.pointer (some ⟨q, 2, none⟩)) (.agg #[.int .i64 (x 2), .int .i64 (x 3), .int .i64 (x 4)]) u28 u29 u30 u31 u32 u33 u34 u35 u36 u37 u38) (by kernel_rfl) ?_
        refine wpAnyH_take (i := 16) rfl (by kernel_rfl) (by kernel_rfl) (by kernel_rfl) (fun _ _ _ h => nomatch h.1) (yields_pure (v := .pointer (some ⟨p, o, none⟩)) (by kernel_rfl) (fun _ => by kernel_rfl)) hs ?_
        refine wpAnyH_as (b := actS p o s q gg oo n c k x (.pointer (some ⟨q, 0, none⟩)) (.int .i64 (x 0)) (.pointer (some ⟨p, o, none⟩)) (.pointer (some ⟨s + 1, 1, none⟩)) (.int .i64 (A 1)) (.pointer (some ⟨q, 1, none⟩)) (.int .i64 (x 1)) u21 u22 (.pointer (some ⟨p, o, none⟩)) (.pointer (some ⟨s + 1, 2, none⟩)) (.agg #[.int .i64 (A 2), .int .i64 (A 3), .int .i64 (A 4)]) (.pointer (some ⟨q, 2, none⟩)) (.agg #[.int .i64 (x 2), .int .i64 (x 3), .int .i64 (x 4)]) u28 u29 (.pointer (some ⟨p, o, none⟩)) u31 u32 u33 u34 u35 u36 u37 u38) (by kernel_rfl) ?_
        refine wpAnyH_take (i := 17) rfl (by kernel_rfl) (by kernel_rfl) (by kernel_rfl) (fun _ _ _ h => nomatch h.1) (yields_pure (v := .pointer (some ⟨s + 1, 5, none⟩)) (by kernel_rfl) (fun _ => by kernel_rfl)) hs ?_
        refine wpAnyH_as (b := actS p o s q gg oo n c k x (.pointer (some ⟨q, 0, none⟩)) (.int .i64 (x 0)) (.pointer (some ⟨p, o, none⟩)) (.pointer (some ⟨s + 1, 1, none⟩)) (.int .i64 (A 1)) (.pointer (some ⟨q, 1, none⟩)) (.int .i64 (x 1)) u21 u22 (.pointer (some ⟨p, o, none⟩)) (.pointer (some ⟨s + 1, 2, none⟩)) (.agg #[.int .i64 (A 2), .int .i64 (A 3), .int .i64 (A 4)]) (.pointer (some ⟨q, 2, none⟩)) (.agg #[.int .i64 (x 2), .int .i64 (x 3), .int .i64 (x 4)]) u28 u29 (.pointer (some ⟨p, o, none⟩)) (.pointer (some ⟨s + 1, 5, none⟩)) u32 u33 u34 u35 u36 u37 u38) (by kernel_rfl) ?_
        refine wpAnyH_take (i := 18) rfl (by kernel_rfl) (by kernel_rfl) (by kernel_rfl) (fun _ _ _ h => nomatch h.1) (yields_mid 30 (.tmp 31) (s + 1) 5 3 (fun j => A (5 + j)) _ (by kernel_rfl) rfl (by kernel_rfl) (fun _ s => ints3 (s.all.cell 5) (s.all.cell 6) (s.all.cell 7)) Try.underlying30 rfl a3Size) hs ?_
        refine wpAnyH_as (b := actS p o s q gg oo n c k x (.pointer (some ⟨q, 0, none⟩)) (.int .i64 (x 0)) (.pointer (some ⟨p, o, none⟩)) (.pointer (some ⟨s + 1, 1, none⟩)) (.int .i64 (A 1)) (.pointer (some ⟨q, 1, none⟩)) (.int .i64 (x 1)) u21 u22 (.pointer (some ⟨p, o, none⟩)) (.pointer (some ⟨s + 1, 2, none⟩)) (.agg #[.int .i64 (A 2), .int .i64 (A 3), .int .i64 (A 4)]) (.pointer (some ⟨q, 2, none⟩)) (.agg #[.int .i64 (x 2), .int .i64 (x 3), .int .i64 (x 4)]) u28 u29 (.pointer (some ⟨p, o, none⟩)) (.pointer (some ⟨s + 1, 5, none⟩)) (.agg #[.int .i64 (A 5), .int .i64 (A 6), .int .i64 (A 7)]) u33 u34 u35 u36 u37 u38) (by kernel_rfl) ?_
        refine wpAnyH_take (i := 19) rfl (by kernel_rfl) (by kernel_rfl) (by kernel_rfl) (fun _ _ _ h => nomatch h.1) (yields_pure (v := .pointer (some ⟨q, 5, none⟩)) (by kernel_rfl) (fun _ => by kernel_rfl)) hs ?_
        refine wpAnyH_as (b := actS p o s q gg oo n c k x (.pointer (some ⟨q, 0, none⟩)) (.int .i64 (x 0)) (.pointer (some ⟨p, o, none⟩)) (.pointer (some ⟨s + 1, 1, none⟩)) (.int .i64 (A 1)) (.pointer (some ⟨q, 1, none⟩)) (.int .i64 (x 1)) u21 u22 (.pointer (some ⟨p, o, none⟩)) (.pointer (some ⟨s + 1, 2, none⟩)) (.agg #[.int .i64 (A 2), .int .i64 (A 3), .int .i64 (A 4)]) (.pointer (some ⟨q, 2, none⟩)) (.agg #[.int .i64 (x 2), .int .i64 (x 3), .int .i64 (x 4)]) u28 u29 (.pointer (some ⟨p, o, none⟩)) (.pointer (some ⟨s + 1, 5, none⟩)) (.agg #[.int .i64 (A 5), .int .i64 (A 6), .int .i64 (A 7)]) (.pointer (some ⟨q, 5, none⟩)) u34 u35 u36 u37 u38) (by kernel_rfl) ?_
        refine wpAnyH_take (i := 20) rfl (by kernel_rfl) (by kernel_rfl) (by kernel_rfl) (fun _ _ _ h => nomatch h.1) (yields_mid 30 (.tmp 33) (q) 5 3 (fun j => x (5 + j)) _ (by kernel_rfl) rfl (by kernel_rfl) (fun _ s => ints3 (s.cur.cell 5) (s.cur.cell 6) (s.cur.cell 7)) Try.underlying30 rfl a3Size) hs ?_
        refine wpAnyH_as (b := actS p o s q gg oo n c k x (.pointer (some ⟨q, 0, none⟩)) (.int .i64 (x 0)) (.pointer (some ⟨p, o, none⟩)) (.pointer (some ⟨s + 1, 1, none⟩)) (.int .i64 (A 1)) (.pointer (some ⟨q, 1, none⟩)) (.int .i64 (x 1)) u21 u22 (.pointer (some ⟨p, o, none⟩)) (.pointer (some ⟨s + 1, 2, none⟩)) (.agg #[.int .i64 (A 2), .int .i64 (A 3), .int .i64 (A 4)]) (.pointer (some ⟨q, 2, none⟩)) (.agg #[.int .i64 (x 2), .int .i64 (x 3), .int .i64 (x 4)]) u28 u29 (.pointer (some ⟨p, o, none⟩)) (.pointer (some ⟨s + 1, 5, none⟩)) (.agg #[.int .i64 (A 5), .int .i64 (A 6), .int .i64 (A 7)]) (.pointer (some ⟨q, 5, none⟩)) (.agg #[.int .i64 (x 5), .int .i64 (x 6), .int .i64 (x 7)]) u35 u36 u37 u38) (by kernel_rfl) ?_
        refine wpAnyH_all (rs := [7, 14, 21]) (by kernel_rfl) (by simp) ?_
        intro i hi
        simp only [List.mem_cons, List.not_mem_nil, or_false] at hi
        rcases hi with rfl | rfl | rfl
        · refine wpOp_value (by kernel_rfl) (by kernel_rfl) (w' := World.alloc W0 (.cells #[.int .i64 (A 1), .int .i64 (x 1)] 2)) (v := .slice (some ⟨W0.heap.size, 0, none⟩) 2 2) (by kernel_rfl) ?_
          have fP : Blk (World.alloc W0 (.cells #[.int .i64 (A 1), .int .i64 (x 1)] 2)) W0.heap.size #[.int .i64 (A 1), .int .i64 (x 1)] 2 := Blk.made _ _ _ rfl
          have nP : W0.heap.size ≠ p := by have := hs.F.size; omega
          replace hs := hs.alloc (.cells #[.int .i64 (A 1), .int .i64 (x 1)] 2)
          generalize World.alloc W0 _ = W1 at *
          generalize W0.heap.size = B1 at *
          refine ⟨hs, ?_⟩
          refine wpAnyH_as (b := actS p o s q gg oo n c k x (.pointer (some ⟨q, 0, none⟩)) (.int .i64 (x 0)) (.pointer (some ⟨p, o, none⟩)) (.pointer (some ⟨s + 1, 1, none⟩)) (.int .i64 (A 1)) (.pointer (some ⟨q, 1, none⟩)) (.int .i64 (x 1)) (.slice (some ⟨B1, 0, none⟩) 2 2) u22 (.pointer (some ⟨p, o, none⟩)) (.pointer (some ⟨s + 1, 2, none⟩)) (.agg #[.int .i64 (A 2), .int .i64 (A 3), .int .i64 (A 4)]) (.pointer (some ⟨q, 2, none⟩)) (.agg #[.int .i64 (x 2), .int .i64 (x 3), .int .i64 (x 4)]) u28 u29 (.pointer (some ⟨p, o, none⟩)) (.pointer (some ⟨s + 1, 5, none⟩)) (.agg #[.int .i64 (A 5), .int .i64 (A 6), .int .i64 (A 7)]) (.pointer (some ⟨q, 5, none⟩)) (.agg #[.int .i64 (x 5), .int .i64 (x 6), .int .i64 (x 7)]) u35 u36 u37 u38) (by kernel_rfl) ?_
          refine wpAnyH_all (rs := [8, 14, 21]) (by kernel_rfl) (by simp) ?_
          intro i hi
          simp only [List.mem_cons, List.not_mem_nil, or_false] at hi
          rcases hi with rfl | rfl | rfl
          · refine wpOp_call (by kernel_rfl) (by kernel_rfl) (by kernel_rfl) (add2_fx p o B1 2 (A 1) (x 1) h _ (hs.F.fl f) fP.lt nP (fP.cell 0) (fP.cell 1) (BA 1 (by omega) (by omega)) (BX 1 (by omega) (by omega))) ?_
            intro W2 kf
            replace hs := hs.flag hpq kf
            clear fP nP
            clear kf
            refine ⟨hs, ?_⟩
            refine wpAnyH_as (b := actS p o s q gg oo n c k x (.pointer (some ⟨q, 0, none⟩)) (.int .i64 (x 0)) (.pointer (some ⟨p, o, none⟩)) (.pointer (some ⟨s + 1, 1, none⟩)) (.int .i64 (A 1)) (.pointer (some ⟨q, 1, none⟩)) (.int .i64 (x 1)) (.slice (some ⟨B1, 0, none⟩) 2 2) (.int .i64 (A 1 + x 1)) (.pointer (some ⟨p, o, none⟩)) (.pointer (some ⟨s + 1, 2, none⟩)) (.agg #[.int .i64 (A 2), .int .i64 (A 3), .int .i64 (A 4)]) (.pointer (some ⟨q, 2, none⟩)) (.agg #[.int .i64 (x 2), .int .i64 (x 3), .int .i64 (x 4)]) u28 u29 (.pointer (some ⟨p, o, none⟩)) (.pointer (some ⟨s + 1, 5, none⟩)) (.agg #[.int .i64 (A 5), .int .i64 (A 6), .int .i64 (A 7)]) (.pointer (some ⟨q, 5, none⟩)) (.agg #[.int .i64 (x 5), .int .i64 (x 6), .int .i64 (x 7)]) u35 u36 u37 u38) (by kernel_rfl) ?_
            refine wpAnyH_all (rs := [14, 21]) (by kernel_rfl) (by simp) ?_
            intro i hi
            simp only [List.mem_cons, List.not_mem_nil, or_false] at hi
            rcases hi with rfl | rfl
            · refine wpOp_value (by kernel_rfl) (by kernel_rfl) (w' := World.alloc W2 (.cells #[.int .i64 (A 2), .int .i64 (A 3), .int .i64 (A 4), .int .i64 (x 2), .int .i64 (x 3), .int .i64 (x 4)] 88)) (v := .slice (some ⟨W2.heap.size, 0, none⟩) 2 2) (by kernel_rfl) ?_
              have fQ : Blk (World.alloc W2 (.cells #[.int .i64 (A 2), .int .i64 (A 3), .int .i64 (A 4), .int .i64 (x 2), .int .i64 (x 3), .int .i64 (x 4)] 88)) W2.heap.size #[.int .i64 (A 2), .int .i64 (A 3), .int .i64 (A 4), .int .i64 (x 2), .int .i64 (x 3), .int .i64 (x 4)] 88 := Blk.made _ _ _ rfl
              have nQ : W2.heap.size ≠ p := by have := hs.F.size; omega
              replace hs := hs.alloc (.cells #[.int .i64 (A 2), .int .i64 (A 3), .int .i64 (A 4), .int .i64 (x 2), .int .i64 (x 3), .int .i64 (x 4)] 88)
              generalize World.alloc W2 _ = W3 at *
              generalize W2.heap.size = B3 at *
              refine ⟨hs, ?_⟩
              refine wpAnyH_as (b := actS p o s q gg oo n c k x (.pointer (some ⟨q, 0, none⟩)) (.int .i64 (x 0)) (.pointer (some ⟨p, o, none⟩)) (.pointer (some ⟨s + 1, 1, none⟩)) (.int .i64 (A 1)) (.pointer (some ⟨q, 1, none⟩)) (.int .i64 (x 1)) (.slice (some ⟨B1, 0, none⟩) 2 2) (.int .i64 (A 1 + x 1)) (.pointer (some ⟨p, o, none⟩)) (.pointer (some ⟨s + 1, 2, none⟩)) (.agg #[.int .i64 (A 2), .int .i64 (A 3), .int .i64 (A 4)]) (.pointer (some ⟨q, 2, none⟩)) (.agg #[.int .i64 (x 2), .int .i64 (x 3), .int .i64 (x 4)]) (.slice (some ⟨B3, 0, none⟩) 2 2) u29 (.pointer (some ⟨p, o, none⟩)) (.pointer (some ⟨s + 1, 5, none⟩)) (.agg #[.int .i64 (A 5), .int .i64 (A 6), .int .i64 (A 7)]) (.pointer (some ⟨q, 5, none⟩)) (.agg #[.int .i64 (x 5), .int .i64 (x 6), .int .i64 (x 7)]) u35 u36 u37 u38) (by kernel_rfl) ?_
              refine wpAnyH_all (rs := [15, 21]) (by kernel_rfl) (by simp) ?_
              intro i hi
              simp only [List.mem_cons, List.not_mem_nil, or_false] at hi
              rcases hi with rfl | rfl
              · refine wpOp_call (by kernel_rfl) (by kernel_rfl) (by kernel_rfl) (vadd_any p o B3 2 (A 2) (A 3) (A 4) (x 2) (x 3) (x 4) h _ (hs.F.fl f) fQ.lt nQ (fQ.cell 0) (fQ.cell 1) (fQ.cell 2) (fQ.cell 3) (fQ.cell 4) (fQ.cell 5) (BA 2 (by omega) (by omega)) (BX 2 (by omega) (by omega)) (BA 3 (by omega) (by omega)) (BX 3 (by omega) (by omega)) (BA 4 (by omega) (by omega)) (BX 4 (by omega) (by omega))) ?_
                intro W4 kf
                replace hs := hs.flag hpq kf
                clear fQ nQ
                clear kf
                refine ⟨hs, ?_⟩
                refine wpAnyH_as (b := actS p o s q gg oo n c k x (.pointer (some ⟨q, 0, none⟩)) (.int .i64 (x 0)) (.pointer (some ⟨p, o, none⟩)) (.pointer (some ⟨s + 1, 1, none⟩)) (.int .i64 (A 1)) (.pointer (some ⟨q, 1, none⟩)) (.int .i64 (x 1)) (.slice (some ⟨B1, 0, none⟩) 2 2) (.int .i64 (A 1 + x 1)) (.pointer (some ⟨p, o, none⟩)) (.pointer (some ⟨s + 1, 2, none⟩)) (.agg #[.int .i64 (A 2), .int .i64 (A 3), .int .i64 (A 4)]) (.pointer (some ⟨q, 2, none⟩)) (.agg #[.int .i64 (x 2), .int .i64 (x 3), .int .i64 (x 4)]) (.slice (some ⟨B3, 0, none⟩) 2 2) (.agg #[.int .i64 (A 2 + x 2), .int .i64 (A 3 + x 3), .int .i64 (A 4 + x 4)]) (.pointer (some ⟨p, o, none⟩)) (.pointer (some ⟨s + 1, 5, none⟩)) (.agg #[.int .i64 (A 5), .int .i64 (A 6), .int .i64 (A 7)]) (.pointer (some ⟨q, 5, none⟩)) (.agg #[.int .i64 (x 5), .int .i64 (x 6), .int .i64 (x 7)]) u35 u36 u37 u38) (by kernel_rfl) ?_
                refine wpAnyH_all (rs := [21]) (by kernel_rfl) (by simp) ?_
                intro i hi
                obtain rfl : i = 21 := by simpa using hi
                refine wpOp_value (by kernel_rfl) (by kernel_rfl) (w' := World.alloc W4 (.cells #[.int .i64 (A 5), .int .i64 (A 6), .int .i64 (A 7), .int .i64 (x 5), .int .i64 (x 6), .int .i64 (x 7)] 88)) (v := .slice (some ⟨W4.heap.size, 0, none⟩) 2 2) (by kernel_rfl) ?_
                have fR : Blk (World.alloc W4 (.cells #[.int .i64 (A 5), .int .i64 (A 6), .int .i64 (A 7), .int .i64 (x 5), .int .i64 (x 6), .int .i64 (x 7)] 88)) W4.heap.size #[.int .i64 (A 5), .int .i64 (A 6), .int .i64 (A 7), .int .i64 (x 5), .int .i64 (x 6), .int .i64 (x 7)] 88 := Blk.made _ _ _ rfl
                have nR : W4.heap.size ≠ p := by have := hs.F.size; omega
                replace hs := hs.alloc (.cells #[.int .i64 (A 5), .int .i64 (A 6), .int .i64 (A 7), .int .i64 (x 5), .int .i64 (x 6), .int .i64 (x 7)] 88)
                generalize World.alloc W4 _ = W5 at *
                generalize W4.heap.size = B5 at *
                refine ⟨hs, ?_⟩
                refine wpAnyH_as (b := actS p o s q gg oo n c k x (.pointer (some ⟨q, 0, none⟩)) (.int .i64 (x 0)) (.pointer (some ⟨p, o, none⟩)) (.pointer (some ⟨s + 1, 1, none⟩)) (.int .i64 (A 1)) (.pointer (some ⟨q, 1, none⟩)) (.int .i64 (x 1)) (.slice (some ⟨B1, 0, none⟩) 2 2) (.int .i64 (A 1 + x 1)) (.pointer (some ⟨p, o, none⟩)) (.pointer (some ⟨s + 1, 2, none⟩)) (.agg #[.int .i64 (A 2), .int .i64 (A 3), .int .i64 (A 4)]) (.pointer (some ⟨q, 2, none⟩)) (.agg #[.int .i64 (x 2), .int .i64 (x 3), .int .i64 (x 4)]) (.slice (some ⟨B3, 0, none⟩) 2 2) (.agg #[.int .i64 (A 2 + x 2), .int .i64 (A 3 + x 3), .int .i64 (A 4 + x 4)]) (.pointer (some ⟨p, o, none⟩)) (.pointer (some ⟨s + 1, 5, none⟩)) (.agg #[.int .i64 (A 5), .int .i64 (A 6), .int .i64 (A 7)]) (.pointer (some ⟨q, 5, none⟩)) (.agg #[.int .i64 (x 5), .int .i64 (x 6), .int .i64 (x 7)]) (.slice (some ⟨B5, 0, none⟩) 2 2) u36 u37 u38) (by kernel_rfl) ?_
                refine wpAnyH_all (rs := [22]) (by kernel_rfl) (by simp) ?_
                intro i hi
                obtain rfl : i = 22 := by simpa using hi
                refine wpOp_call (by kernel_rfl) (by kernel_rfl) (by kernel_rfl) (vadd_any p o B5 2 (A 5) (A 6) (A 7) (x 5) (x 6) (x 7) h _ (hs.F.fl f) fR.lt nR (fR.cell 0) (fR.cell 1) (fR.cell 2) (fR.cell 3) (fR.cell 4) (fR.cell 5) (BA 5 (by omega) (by omega)) (BX 5 (by omega) (by omega)) (BA 6 (by omega) (by omega)) (BX 6 (by omega) (by omega)) (BA 7 (by omega) (by omega)) (BX 7 (by omega) (by omega))) ?_
                intro W6 kf
                replace hs := hs.flag hpq kf
                clear fR nR
                clear kf
                refine ⟨hs, ?_⟩
                refine wpAnyH_as (b := actS p o s q gg oo n c k x (.pointer (some ⟨q, 0, none⟩)) (.int .i64 (x 0)) (.pointer (some ⟨p, o, none⟩)) (.pointer (some ⟨s + 1, 1, none⟩)) (.int .i64 (A 1)) (.pointer (some ⟨q, 1, none⟩)) (.int .i64 (x 1)) (.slice (some ⟨B1, 0, none⟩) 2 2) (.int .i64 (A 1 + x 1)) (.pointer (some ⟨p, o, none⟩)) (.pointer (some ⟨s + 1, 2, none⟩)) (.agg #[.int .i64 (A 2), .int .i64 (A 3), .int .i64 (A 4)]) (.pointer (some ⟨q, 2, none⟩)) (.agg #[.int .i64 (x 2), .int .i64 (x 3), .int .i64 (x 4)]) (.slice (some ⟨B3, 0, none⟩) 2 2) (.agg #[.int .i64 (A 2 + x 2), .int .i64 (A 3 + x 3), .int .i64 (A 4 + x 4)]) (.pointer (some ⟨p, o, none⟩)) (.pointer (some ⟨s + 1, 5, none⟩)) (.agg #[.int .i64 (A 5), .int .i64 (A 6), .int .i64 (A 7)]) (.pointer (some ⟨q, 5, none⟩)) (.agg #[.int .i64 (x 5), .int .i64 (x 6), .int .i64 (x 7)]) (.slice (some ⟨B5, 0, none⟩) 2 2) (.agg #[.int .i64 (A 5 + x 5), .int .i64 (A 6 + x 6), .int .i64 (A 7 + x 7)]) u37 u38) (by kernel_rfl) ?_
                refine wpAnyH_take (i := 23) rfl (by kernel_rfl) (by kernel_rfl) (by kernel_rfl) (fun _ _ _ h => nomatch h.1) (yields_pure (v := .agg (rowA 8 (addI A x))) (by kernel_rfl) (fun _ => by kernel_rfl)) hs ?_
                refine wpAnyH_as (b := actS p o s q gg oo n c k x (.pointer (some ⟨q, 0, none⟩)) (.int .i64 (x 0)) (.pointer (some ⟨p, o, none⟩)) (.pointer (some ⟨s + 1, 1, none⟩)) (.int .i64 (A 1)) (.pointer (some ⟨q, 1, none⟩)) (.int .i64 (x 1)) (.slice (some ⟨B1, 0, none⟩) 2 2) (.int .i64 (A 1 + x 1)) (.pointer (some ⟨p, o, none⟩)) (.pointer (some ⟨s + 1, 2, none⟩)) (.agg #[.int .i64 (A 2), .int .i64 (A 3), .int .i64 (A 4)]) (.pointer (some ⟨q, 2, none⟩)) (.agg #[.int .i64 (x 2), .int .i64 (x 3), .int .i64 (x 4)]) (.slice (some ⟨B3, 0, none⟩) 2 2) (.agg #[.int .i64 (A 2 + x 2), .int .i64 (A 3 + x 3), .int .i64 (A 4 + x 4)]) (.pointer (some ⟨p, o, none⟩)) (.pointer (some ⟨s + 1, 5, none⟩)) (.agg #[.int .i64 (A 5), .int .i64 (A 6), .int .i64 (A 7)]) (.pointer (some ⟨q, 5, none⟩)) (.agg #[.int .i64 (x 5), .int .i64 (x 6), .int .i64 (x 7)]) (.slice (some ⟨B5, 0, none⟩) 2 2) (.agg #[.int .i64 (A 5 + x 5), .int .i64 (A 6 + x 6), .int .i64 (A 7 + x 7)]) (.agg (rowA 8 (addI A x))) u38) (by kernel_rfl) ?_
                refine wpAnyH_done (by kernel_rfl) ?_ _
                exact ⟨rfl, .slice (some ⟨B1, 0, none⟩) 2 2, .slice (some ⟨B3, 0, none⟩) 2 2, .slice (some ⟨B5, 0, none⟩) 2 2, by kernel_rfl, hs⟩
              · refine wpOp_value (by kernel_rfl) (by kernel_rfl) (w' := World.alloc W3 (.cells #[.int .i64 (A 5), .int .i64 (A 6), .int .i64 (A 7), .int .i64 (x 5), .int .i64 (x 6), .int .i64 (x 7)] 88)) (v := .slice (some ⟨W3.heap.size, 0, none⟩) 2 2) (by kernel_rfl) ?_
                have fR : Blk (World.alloc W3 (.cells #[.int .i64 (A 5), .int .i64 (A 6), .int .i64 (A 7), .int .i64 (x 5), .int .i64 (x 6), .int .i64 (x 7)] 88)) W3.heap.size #[.int .i64 (A 5), .int .i64 (A 6), .int .i64 (A 7), .int .i64 (x 5), .int .i64 (x 6), .int .i64 (x 7)] 88 := Blk.made _ _ _ rfl
                have nR : W3.heap.size ≠ p := by have := hs.F.size; omega
                replace fQ := fQ.alloc (.cells #[.int .i64 (A 5), .int .i64 (A 6), .int .i64 (A 7), .int .i64 (x 5), .int .i64 (x 6), .int .i64 (x 7)] 88)
                replace hs := hs.alloc (.cells #[.int .i64 (A 5), .int .i64 (A 6), .int .i64 (A 7), .int .i64 (x 5), .int .i64 (x 6), .int .i64 (x 7)] 88)
                generalize World.alloc W3 _ = W7 at *
                generalize W3.heap.size = B7 at *
                refine ⟨hs, ?_⟩
                refine wpAnyH_as (b := actS p o s q gg oo n c k x (.pointer (some ⟨q, 0, none⟩)) (.int .i64 (x 0)) (.pointer (some ⟨p, o, none⟩)) (.pointer (some ⟨s + 1, 1, none⟩)) (.int .i64 (A 1)) (.pointer (some ⟨q, 1, none⟩)) (.int .i64 (x 1)) (.slice (some ⟨B1, 0, none⟩) 2 2) (.int .i64 (A 1 + x 1)) (.pointer (some ⟨p, o, none⟩)) (.pointer (some ⟨s + 1, 2, none⟩)) (.agg #[.int .i64 (A 2), .int .i64 (A 3), .int .i64 (A 4)]) (.pointer (some ⟨q, 2, none⟩)) (.agg #[.int .i64 (x 2), .int .i64 (x 3), .int .i64 (x 4)]) (.slice (some ⟨B3, 0, none⟩) 2 2) u29 (.pointer (some ⟨p, o, none⟩)) (.pointer (some ⟨s + 1, 5, none⟩)) (.agg #[.int .i64 (A 5), .int .i64 (A 6), .int .i64 (A 7)]) (.pointer (some ⟨q, 5, none⟩)) (.agg #[.int .i64 (x 5), .int .i64 (x 6), .int .i64 (x 7)]) (.slice (some ⟨B7, 0, none⟩) 2 2) u36 u37 u38) (by kernel_rfl) ?_
                refine wpAnyH_all (rs := [15]) (by kernel_rfl) (by simp) ?_
                intro i hi
                obtain rfl : i = 15 := by simpa using hi
                refine wpOp_call (by kernel_rfl) (by kernel_rfl) (by kernel_rfl) (vadd_any p o B3 2 (A 2) (A 3) (A 4) (x 2) (x 3) (x 4) h _ (hs.F.fl f) fQ.lt nQ (fQ.cell 0) (fQ.cell 1) (fQ.cell 2) (fQ.cell 3) (fQ.cell 4) (fQ.cell 5) (BA 2 (by omega) (by omega)) (BX 2 (by omega) (by omega)) (BA 3 (by omega) (by omega)) (BX 3 (by omega) (by omega)) (BA 4 (by omega) (by omega)) (BX 4 (by omega) (by omega))) ?_
                intro W8 kf
                replace hs := hs.flag hpq kf
                clear fQ nQ
                replace fR := fR.flag nR kf
                clear kf
                refine ⟨hs, ?_⟩
                refine wpAnyH_as (b := actS p o s q gg oo n c k x (.pointer (some ⟨q, 0, none⟩)) (.int .i64 (x 0)) (.pointer (some ⟨p, o, none⟩)) (.pointer (some ⟨s + 1, 1, none⟩)) (.int .i64 (A 1)) (.pointer (some ⟨q, 1, none⟩)) (.int .i64 (x 1)) (.slice (some ⟨B1, 0, none⟩) 2 2) (.int .i64 (A 1 + x 1)) (.pointer (some ⟨p, o, none⟩)) (.pointer (some ⟨s + 1, 2, none⟩)) (.agg #[.int .i64 (A 2), .int .i64 (A 3), .int .i64 (A 4)]) (.pointer (some ⟨q, 2, none⟩)) (.agg #[.int .i64 (x 2), .int .i64 (x 3), .int .i64 (x 4)]) (.slice (some ⟨B3, 0, none⟩) 2 2) (.agg #[.int .i64 (A 2 + x 2), .int .i64 (A 3 + x 3), .int .i64 (A 4 + x 4)]) (.pointer (some ⟨p, o, none⟩)) (.pointer (some ⟨s + 1, 5, none⟩)) (.agg #[.int .i64 (A 5), .int .i64 (A 6), .int .i64 (A 7)]) (.pointer (some ⟨q, 5, none⟩)) (.agg #[.int .i64 (x 5), .int .i64 (x 6), .int .i64 (x 7)]) (.slice (some ⟨B7, 0, none⟩) 2 2) u36 u37 u38) (by kernel_rfl) ?_
                refine wpAnyH_all (rs := [22]) (by kernel_rfl) (by simp) ?_
                intro i hi
                obtain rfl : i = 22 := by simpa using hi
                refine wpOp_call (by kernel_rfl) (by kernel_rfl) (by kernel_rfl) (vadd_any p o B7 2 (A 5) (A 6) (A 7) (x 5) (x 6) (x 7) h _ (hs.F.fl f) fR.lt nR (fR.cell 0) (fR.cell 1) (fR.cell 2) (fR.cell 3) (fR.cell 4) (fR.cell 5) (BA 5 (by omega) (by omega)) (BX 5 (by omega) (by omega)) (BA 6 (by omega) (by omega)) (BX 6 (by omega) (by omega)) (BA 7 (by omega) (by omega)) (BX 7 (by omega) (by omega))) ?_
                intro W9 kf
                replace hs := hs.flag hpq kf
                clear fR nR
                clear kf
                refine ⟨hs, ?_⟩
                refine wpAnyH_as (b := actS p o s q gg oo n c k x (.pointer (some ⟨q, 0, none⟩)) (.int .i64 (x 0)) (.pointer (some ⟨p, o, none⟩)) (.pointer (some ⟨s + 1, 1, none⟩)) (.int .i64 (A 1)) (.pointer (some ⟨q, 1, none⟩)) (.int .i64 (x 1)) (.slice (some ⟨B1, 0, none⟩) 2 2) (.int .i64 (A 1 + x 1)) (.pointer (some ⟨p, o, none⟩)) (.pointer (some ⟨s + 1, 2, none⟩)) (.agg #[.int .i64 (A 2), .int .i64 (A 3), .int .i64 (A 4)]) (.pointer (some ⟨q, 2, none⟩)) (.agg #[.int .i64 (x 2), .int .i64 (x 3), .int .i64 (x 4)]) (.slice (some ⟨B3, 0, none⟩) 2 2) (.agg #[.int .i64 (A 2 + x 2), .int .i64 (A 3 + x 3), .int .i64 (A 4 + x 4)]) (.pointer (some ⟨p, o, none⟩)) (.pointer (some ⟨s + 1, 5, none⟩)) (.agg #[.int .i64 (A 5), .int .i64 (A 6), .int .i64 (A 7)]) (.pointer (some ⟨q, 5, none⟩)) (.agg #[.int .i64 (x 5), .int .i64 (x 6), .int .i64 (x 7)]) (.slice (some ⟨B7, 0, none⟩) 2 2) (.agg #[.int .i64 (A 5 + x 5), .int .i64 (A 6 + x 6), .int .i64 (A 7 + x 7)]) u37 u38) (by kernel_rfl) ?_
                refine wpAnyH_take (i := 23) rfl (by kernel_rfl) (by kernel_rfl) (by kernel_rfl) (fun _ _ _ h => nomatch h.1) (yields_pure (v := .agg (rowA 8 (addI A x))) (by kernel_rfl) (fun _ => by kernel_rfl)) hs ?_
                refine wpAnyH_as (b := actS p o s q gg oo n c k x (.pointer (some ⟨q, 0, none⟩)) (.int .i64 (x 0)) (.pointer (some ⟨p, o, none⟩)) (.pointer (some ⟨s + 1, 1, none⟩)) (.int .i64 (A 1)) (.pointer (some ⟨q, 1, none⟩)) (.int .i64 (x 1)) (.slice (some ⟨B1, 0, none⟩) 2 2) (.int .i64 (A 1 + x 1)) (.pointer (some ⟨p, o, none⟩)) (.pointer (some ⟨s + 1, 2, none⟩)) (.agg #[.int .i64 (A 2), .int .i64 (A 3), .int .i64 (A 4)]) (.pointer (some ⟨q, 2, none⟩)) (.agg #[.int .i64 (x 2), .int .i64 (x 3), .int .i64 (x 4)]) (.slice (some ⟨B3, 0, none⟩) 2 2) (.agg #[.int .i64 (A 2 + x 2), .int .i64 (A 3 + x 3), .int .i64 (A 4 + x 4)]) (.pointer (some ⟨p, o, none⟩)) (.pointer (some ⟨s + 1, 5, none⟩)) (.agg #[.int .i64 (A 5), .int .i64 (A 6), .int .i64 (A 7)]) (.pointer (some ⟨q, 5, none⟩)) (.agg #[.int .i64 (x 5), .int .i64 (x 6), .int .i64 (x 7)]) (.slice (some ⟨B7, 0, none⟩) 2 2) (.agg #[.int .i64 (A 5 + x 5), .int .i64 (A 6 + x 6), .int .i64 (A 7 + x 7)]) (.agg (rowA 8 (addI A x))) u38) (by kernel_rfl) ?_
                refine wpAnyH_done (by kernel_rfl) ?_ _
                exact ⟨rfl, .slice (some ⟨B1, 0, none⟩) 2 2, .slice (some ⟨B3, 0, none⟩) 2 2, .slice (some ⟨B7, 0, none⟩) 2 2, by kernel_rfl, hs⟩
            · refine wpOp_value (by kernel_rfl) (by kernel_rfl) (w' := World.alloc W2 (.cells #[.int .i64 (A 5), .int .i64 (A 6), .int .i64 (A 7), .int .i64 (x 5), .int .i64 (x 6), .int .i64 (x 7)] 88)) (v := .slice (some ⟨W2.heap.size, 0, none⟩) 2 2) (by kernel_rfl) ?_
              have fR : Blk (World.alloc W2 (.cells #[.int .i64 (A 5), .int .i64 (A 6), .int .i64 (A 7), .int .i64 (x 5), .int .i64 (x 6), .int .i64 (x 7)] 88)) W2.heap.size #[.int .i64 (A 5), .int .i64 (A 6), .int .i64 (A 7), .int .i64 (x 5), .int .i64 (x 6), .int .i64 (x 7)] 88 := Blk.made _ _ _ rfl
              have nR : W2.heap.size ≠ p := by have := hs.F.size; omega
              replace hs := hs.alloc (.cells #[.int .i64 (A 5), .int .i64 (A 6), .int .i64 (A 7), .int .i64 (x 5), .int .i64 (x 6), .int .i64 (x 7)] 88)
              generalize World.alloc W2 _ = W10 at *
              generalize W2.heap.size = B10 at *
              refine ⟨hs, ?_⟩
              refine wpAnyH_as (b := actS p o s q gg oo n c k x (.pointer (some ⟨q, 0, none⟩)) (.int .i64 (x 0)) (.pointer (some ⟨p, o, none⟩)) (.pointer (some ⟨s + 1, 1, none⟩)) (.int .i64 (A 1)) (.pointer (some ⟨q, 1, none⟩)) (.int .i64 (x 1)) (.slice (some ⟨B1, 0, none⟩) 2 2) (.int .i64 (A 1 + x 1)) (.pointer (some ⟨p, o, none⟩)) (.pointer (some ⟨s + 1, 2, none⟩)) (.agg #[.int .i64 (A 2), .int .i64 (A 3), .int .i64 (A 4)]) (.pointer (some ⟨q, 2, none⟩)) (.agg #[.int .i64 (x 2), .int .i64 (x 3), .int .i64 (x 4)]) u28 u29 (.pointer (some ⟨p, o, none⟩)) (.pointer (some ⟨s + 1, 5, none⟩)) (.agg #[.int .i64 (A 5), .int .i64 (A 6), .int .i64 (A 7)]) (.pointer (some ⟨q, 5, none⟩)) (.agg #[.int .i64 (x 5), .int .i64 (x 6), .int .i64 (x 7)]) (.slice (some ⟨B10, 0, none⟩) 2 2) u36 u37 u38) (by kernel_rfl) ?_
              refine wpAnyH_all (rs := [14]) (by kernel_rfl) (by simp) ?_
              intro i hi
              obtain rfl : i = 14 := by simpa using hi
              refine wpOp_value (by kernel_rfl) (by kernel_rfl) (w' := World.alloc W10 (.cells #[.int .i64 (A 2), .int .i64 (A 3), .int .i64 (A 4), .int .i64 (x 2), .int .i64 (x 3), .int .i64 (x 4)] 88)) (v := .slice (some ⟨W10.heap.size, 0, none⟩) 2 2) (by kernel_rfl) ?_
              have fQ : Blk (World.alloc W10 (.cells #[.int .i64 (A 2), .int .i64 (A 3), .int .i64 (A 4), .int .i64 (x 2), .int .i64 (x 3), .int .i64 (x 4)] 88)) W10.heap.size #[.int .i64 (A 2), .int .i64 (A 3), .int .i64 (A 4), .int .i64 (x 2), .int .i64 (x 3), .int .i64 (x 4)] 88 := Blk.made _ _ _ rfl
              have nQ : W10.heap.size ≠ p := by have := hs.F.size; omega
              replace fR := fR.alloc (.cells #[.int .i64 (A 2), .int .i64 (A 3), .int .i64 (A 4), .int .i64 (x 2), .int .i64 (x 3), .int .i64 (x 4)] 88)
              replace hs := hs.alloc (.cells #[.int .i64 (A 2), .int .i64 (A 3), .int .i64 (A 4), .int .i64 (x 2), .int .i64 (x 3), .int .i64 (x 4)] 88)
              generalize World.alloc W10 _ = W11 at *
              generalize W10.heap.size = B11 at *
              refine ⟨hs, ?_⟩
              refine wpAnyH_as (b := actS p o s q gg oo n c k x (.pointer (some ⟨q, 0, none⟩)) (.int .i64 (x 0)) (.pointer (some ⟨p, o, none⟩)) (.pointer (some ⟨s + 1, 1, none⟩)) (.int .i64 (A 1)) (.pointer (some ⟨q, 1, none⟩)) (.int .i64 (x 1)) (.slice (some ⟨B1, 0, none⟩) 2 2) (.int .i64 (A 1 + x 1)) (.pointer (some ⟨p, o, none⟩)) (.pointer (some ⟨s + 1, 2, none⟩)) (.agg #[.int .i64 (A 2), .int .i64 (A 3), .int .i64 (A 4)]) (.pointer (some ⟨q, 2, none⟩)) (.agg #[.int .i64 (x 2), .int .i64 (x 3), .int .i64 (x 4)]) (.slice (some ⟨B11, 0, none⟩) 2 2) u29 (.pointer (some ⟨p, o, none⟩)) (.pointer (some ⟨s + 1, 5, none⟩)) (.agg #[.int .i64 (A 5), .int .i64 (A 6), .int .i64 (A 7)]) (.pointer (some ⟨q, 5, none⟩)) (.agg #[.int .i64 (x 5), .int .i64 (x 6), .int .i64 (x 7)]) (.slice (some ⟨B10, 0, none⟩) 2 2) u36 u37 u38) (by kernel_rfl) ?_
              refine wpAnyH_all (rs := [15]) (by kernel_rfl) (by simp) ?_
              intro i hi
              obtain rfl : i = 15 := by simpa using hi
              refine wpOp_call (by kernel_rfl) (by kernel_rfl) (by kernel_rfl) (vadd_any p o B11 2 (A 2) (A 3) (A 4) (x 2) (x 3) (x 4) h _ (hs.F.fl f) fQ.lt nQ (fQ.cell 0) (fQ.cell 1) (fQ.cell 2) (fQ.cell 3) (fQ.cell 4) (fQ.cell 5) (BA 2 (by omega) (by omega)) (BX 2 (by omega) (by omega)) (BA 3 (by omega) (by omega)) (BX 3 (by omega) (by omega)) (BA 4 (by omega) (by omega)) (BX 4 (by omega) (by omega))) ?_
              intro W12 kf
              replace hs := hs.flag hpq kf
              clear fQ nQ
              replace fR := fR.flag nR kf
              clear kf
              refine ⟨hs, ?_⟩
              refine wpAnyH_as (b := actS p o s q gg oo n c k x (.pointer (some ⟨q, 0, none⟩)) (.int .i64 (x 0)) (.pointer (some ⟨p, o, none⟩)) (.pointer (some ⟨s + 1, 1, none⟩)) (.int .i64 (A 1)) (.pointer (some ⟨q, 1, none⟩)) (.int .i64 (x 1)) (.slice (some ⟨B1, 0, none⟩) 2 2) (.int .i64 (A 1 + x 1)) (.pointer (some ⟨p, o, none⟩)) (.pointer (some ⟨s + 1, 2, none⟩)) (.agg #[.int .i64 (A 2), .int .i64 (A 3), .int .i64 (A 4)]) (.pointer (some ⟨q, 2, none⟩)) (.agg #[.int .i64 (x 2), .int .i64 (x 3), .int .i64 (x 4)]) (.slice (some ⟨B11, 0, none⟩) 2 2) (.agg #[.int .i64 (A 2 + x 2), .int .i64 (A 3 + x 3), .int .i64 (A 4 + x 4)]) (.pointer (some ⟨p, o, none⟩)) (.pointer (some ⟨s + 1, 5, none⟩)) (.agg #[.int .i64 (A 5), .int .i64 (A 6), .int .i64 (A 7)]) (.pointer (some ⟨q, 5, none⟩)) (.agg #[.int .i64 (x 5), .int .i64 (x 6), .int .i64 (x 7)]) (.slice (some ⟨B10, 0, none⟩) 2 2) u36 u37 u38) (by kernel_rfl) ?_
              refine wpAnyH_all (rs := [22]) (by kernel_rfl) (by simp) ?_
              intro i hi
              obtain rfl : i = 22 := by simpa using hi
              refine wpOp_call (by kernel_rfl) (by kernel_rfl) (by kernel_rfl) (vadd_any p o B10 2 (A 5) (A 6) (A 7) (x 5) (x 6) (x 7) h _ (hs.F.fl f) fR.lt nR (fR.cell 0) (fR.cell 1) (fR.cell 2) (fR.cell 3) (fR.cell 4) (fR.cell 5) (BA 5 (by omega) (by omega)) (BX 5 (by omega) (by omega)) (BA 6 (by omega) (by omega)) (BX 6 (by omega) (by omega)) (BA 7 (by omega) (by omega)) (BX 7 (by omega) (by omega))) ?_
              intro W13 kf
              replace hs := hs.flag hpq kf
              clear fR nR
              clear kf
              refine ⟨hs, ?_⟩
              refine wpAnyH_as (b := actS p o s q gg oo n c k x (.pointer (some ⟨q, 0, none⟩)) (.int .i64 (x 0)) (.pointer (some ⟨p, o, none⟩)) (.pointer (some ⟨s + 1, 1, none⟩)) (.int .i64 (A 1)) (.pointer (some ⟨q, 1, none⟩)) (.int .i64 (x 1)) (.slice (some ⟨B1, 0, none⟩) 2 2) (.int .i64 (A 1 + x 1)) (.pointer (some ⟨p, o, none⟩)) (.pointer (some ⟨s + 1, 2, none⟩)) (.agg #[.int .i64 (A 2), .int .i64 (A 3), .int .i64 (A 4)]) (.pointer (some ⟨q, 2, none⟩)) (.agg #[.int .i64 (x 2), .int .i64 (x 3), .int .i64 (x 4)]) (.slice (some ⟨B11, 0, none⟩) 2 2) (.agg #[.int .i64 (A 2 + x 2), .int .i64 (A 3 + x 3), .int .i64 (A 4 + x 4)]) (.pointer (some ⟨p, o, none⟩)) (.pointer (some ⟨s + 1, 5, none⟩)) (.agg #[.int .i64 (A 5), .int .i64 (A 6), .int .i64 (A 7)]) (.pointer (some ⟨q, 5, none⟩)) (.agg #[.int .i64 (x 5), .int .i64 (x 6), .int .i64 (x 7)]) (.slice (some ⟨B10, 0, none⟩) 2 2) (.agg #[.int .i64 (A 5 + x 5), .int .i64 (A 6 + x 6), .int .i64 (A 7 + x 7)]) u37 u38) (by kernel_rfl) ?_
              refine wpAnyH_take (i := 23) rfl (by kernel_rfl) (by kernel_rfl) (by kernel_rfl) (fun _ _ _ h => nomatch h.1) (yields_pure (v := .agg (rowA 8 (addI A x))) (by kernel_rfl) (fun _ => by kernel_rfl)) hs ?_
              refine wpAnyH_as (b := actS p o s q gg oo n c k x (.pointer (some ⟨q, 0, none⟩)) (.int .i64 (x 0)) (.pointer (some ⟨p, o, none⟩)) (.pointer (some ⟨s + 1, 1, none⟩)) (.int .i64 (A 1)) (.pointer (some ⟨q, 1, none⟩)) (.int .i64 (x 1)) (.slice (some ⟨B1, 0, none⟩) 2 2) (.int .i64 (A 1 + x 1)) (.pointer (some ⟨p, o, none⟩)) (.pointer (some ⟨s + 1, 2, none⟩)) (.agg #[.int .i64 (A 2), .int .i64 (A 3), .int .i64 (A 4)]) (.pointer (some ⟨q, 2, none⟩)) (.agg #[.int .i64 (x 2), .int .i64 (x 3), .int .i64 (x 4)]) (.slice (some ⟨B11, 0, none⟩) 2 2) (.agg #[.int .i64 (A 2 + x 2), .int .i64 (A 3 + x 3), .int .i64 (A 4 + x 4)]) (.pointer (some ⟨p, o, none⟩)) (.pointer (some ⟨s + 1, 5, none⟩)) (.agg #[.int .i64 (A 5), .int .i64 (A 6), .int .i64 (A 7)]) (.pointer (some ⟨q, 5, none⟩)) (.agg #[.int .i64 (x 5), .int .i64 (x 6), .int .i64 (x 7)]) (.slice (some ⟨B10, 0, none⟩) 2 2) (.agg #[.int .i64 (A 5 + x 5), .int .i64 (A 6 + x 6), .int .i64 (A 7 + x 7)]) (.agg (rowA 8 (addI A x))) u38) (by kernel_rfl) ?_
              refine wpAnyH_done (by kernel_rfl) ?_ _
              exact ⟨rfl, .slice (some ⟨B1, 0, none⟩) 2 2, .slice (some ⟨B11, 0, none⟩) 2 2, .slice (some ⟨B10, 0, none⟩) 2 2, by kernel_rfl, hs⟩
          · refine wpOp_value (by kernel_rfl) (by kernel_rfl) (w' := World.alloc W1 (.cells #[.int .i64 (A 2), .int .i64 (A 3), .int .i64 (A 4), .int .i64 (x 2), .int .i64 (x 3), .int .i64 (x 4)] 88)) (v := .slice (some ⟨W1.heap.size, 0, none⟩) 2 2) (by kernel_rfl) ?_
            have fQ : Blk (World.alloc W1 (.cells #[.int .i64 (A 2), .int .i64 (A 3), .int .i64 (A 4), .int .i64 (x 2), .int .i64 (x 3), .int .i64 (x 4)] 88)) W1.heap.size #[.int .i64 (A 2), .int .i64 (A 3), .int .i64 (A 4), .int .i64 (x 2), .int .i64 (x 3), .int .i64 (x 4)] 88 := Blk.made _ _ _ rfl
            have nQ : W1.heap.size ≠ p := by have := hs.F.size; omega
            replace fP := fP.alloc (.cells #[.int .i64 (A 2), .int .i64 (A 3), .int .i64 (A 4), .int .i64 (x 2), .int .i64 (x 3), .int .i64 (x 4)] 88)
            replace hs := hs.alloc (.cells #[.int .i64 (A 2), .int .i64 (A 3), .int .i64 (A 4), .int .i64 (x 2), .int .i64 (x 3), .int .i64 (x 4)] 88)
            generalize World.alloc W1 _ = W14 at *
            generalize W1.heap.size = B14 at *
            refine ⟨hs, ?_⟩
            refine wpAnyH_as (b := actS p o s q gg oo n c k x (.pointer (some ⟨q, 0, none⟩)) (.int .i64 (x 0)) (.pointer (some ⟨p, o, none⟩)) (.pointer (some ⟨s + 1, 1, none⟩)) (.int .i64 (A 1)) (.pointer (some ⟨q, 1, none⟩)) (.int .i64 (x 1)) (.slice (some ⟨B1, 0, none⟩) 2 2) u22 (.pointer (some ⟨p, o, none⟩)) (.pointer (some ⟨s + 1, 2, none⟩)) (.agg #[.int .i64 (A 2), .int .i64 (A 3), .int .i64 (A 4)]) (.pointer (some ⟨q, 2, none⟩)) (.agg #[.int .i64 (x 2), .int .i64 (x 3), .int .i64 (x 4)]) (.slice (some ⟨B14, 0, none⟩) 2 2) u29 (.pointer (some ⟨p, o, none⟩)) (.pointer (some ⟨s + 1, 5, none⟩)) (.agg #[.int .i64 (A 5), .int .i64 (A 6), .int .i64 (A 7)]) (.pointer (some ⟨q, 5, none⟩)) (.agg #[.int .i64 (x 5), .int .i64 (x 6), .int .i64 (x 7)]) u35 u36 u37 u38) (by kernel_rfl) ?_
            refine wpAnyH_all (rs := [8, 21]) (by kernel_rfl) (by simp) ?_
            intro i hi
            simp only [List.mem_cons, List.not_mem_nil, or_false] at hi
            rcases hi with rfl | rfl
            · refine wpOp_call (by kernel_rfl) (by kernel_rfl) (by kernel_rfl) (add2_fx p o B1 2 (A 1) (x 1) h _ (hs.F.fl f) fP.lt nP (fP.cell 0) (fP.cell 1) (BA 1 (by omega) (by omega)) (BX 1 (by omega) (by omega))) ?_
              intro W15 kf
              replace hs := hs.flag hpq kf
              clear fP nP
              replace fQ := fQ.flag nQ kf
              clear kf
              refine ⟨hs, ?_⟩
              refine wpAnyH_as (b := actS p o s q gg oo n c k x (.pointer (some ⟨q, 0, none⟩)) (.int .i64 (x 0)) (.pointer (some ⟨p, o, none⟩)) (.pointer (some ⟨s + 1, 1, none⟩)) (.int .i64 (A 1)) (.pointer (some ⟨q, 1, none⟩)) (.int .i64 (x 1)) (.slice (some ⟨B1, 0, none⟩) 2 2) (.int .i64 (A 1 + x 1)) (.pointer (some ⟨p, o, none⟩)) (.pointer (some ⟨s + 1, 2, none⟩)) (.agg #[.int .i64 (A 2), .int .i64 (A 3), .int .i64 (A 4)]) (.pointer (some ⟨q, 2, none⟩)) (.agg #[.int .i64 (x 2), .int .i64 (x 3), .int .i64 (x 4)]) (.slice (some ⟨B14, 0, none⟩) 2 2) u29 (.pointer (some ⟨p, o, none⟩)) (.pointer (some ⟨s + 1, 5, none⟩)) (.agg #[.int .i64 (A 5), .int .i64 (A 6), .int .i64 (A 7)]) (.pointer (some ⟨q, 5, none⟩)) (.agg #[.int .i64 (x 5), .int .i64 (x 6), .int .i64 (x 7)]) u35 u36 u37 u38) (by kernel_rfl) ?_
              refine wpAnyH_all (rs := [15, 21]) (by kernel_rfl) (by simp) ?_
              intro i hi
              simp only [List.mem_cons, List.not_mem_nil, or_false] at hi
              rcases hi with rfl | rfl
              · refine wpOp_call (by kernel_rfl) (by kernel_rfl) (by kernel_rfl) (vadd_any p o B14 2 (A 2) (A 3) (A 4) (x 2) (x 3) (x 4) h _ (hs.F.fl f) fQ.lt nQ (fQ.cell 0) (fQ.cell 1) (fQ.cell 2) (fQ.cell 3) (fQ.cell 4) (fQ.cell 5) (BA 2 (by omega) (by omega)) (BX 2 (by omega) (by omega)) (BA 3 (by omega) (by omega)) (BX 3 (by omega) (by omega)) (BA 4 (by omega) (by omega)) (BX 4 (by omega) (by omega))) ?_
                intro W16 kf
                replace hs := hs.flag hpq kf
                clear fQ nQ
                clear kf
                refine ⟨hs, ?_⟩
                refine wpAnyH_as (b := actS p o s q gg oo n c k x (.pointer (some ⟨q, 0, none⟩)) (.int .i64 (x 0)) (.pointer (some ⟨p, o, none⟩)) (.pointer (some ⟨s + 1, 1, none⟩)) (.int .i64 (A 1)) (.pointer (some ⟨q, 1, none⟩)) (.int .i64 (x 1)) (.slice (some ⟨B1, 0, none⟩) 2 2) (.int .i64 (A 1 + x 1)) (.pointer (some ⟨p, o, none⟩)) (.pointer (some ⟨s + 1, 2, none⟩)) (.agg #[.int .i64 (A 2), .int .i64 (A 3), .int .i64 (A 4)]) (.pointer (some ⟨q, 2, none⟩)) (.agg #[.int .i64 (x 2), .int .i64 (x 3), .int .i64 (x 4)]) (.slice (some ⟨B14, 0, none⟩) 2 2) (.agg #[.int .i64 (A 2 + x 2), .int .i64 (A 3 + x 3), .int .i64 (A 4 + x 4)]) (.pointer (some ⟨p, o, none⟩)) (.pointer (some ⟨s + 1, 5, none⟩)) (.agg #[.int .i64 (A 5), .int .i64 (A 6), .int .i64 (A 7)]) (.pointer (some ⟨q, 5, none⟩)) (.agg #[.int .i64 (x 5), .int .i64 (x 6), .int .i64 (x 7)]) u35 u36 u37 u38) (by kernel_rfl) ?_
                refine wpAnyH_all (rs := [21]) (by kernel_rfl) (by simp) ?_
                intro i hi
                obtain rfl : i = 21 := by simpa using hi
                refine wpOp_value (by kernel_rfl) (by kernel_rfl) (w' := World.alloc W16 (.cells #[.int .i64 (A 5), .int .i64 (A 6), .int .i64 (A 7), .int .i64 (x 5), .int .i64 (x 6), .int .i64 (x 7)] 88)) (v := .slice (some ⟨W16.heap.size, 0, none⟩) 2 2) (by kernel_rfl) ?_
                have fR : Blk (World.alloc W16 (.cells #[.int .i64 (A 5), .int .i64 (A 6), .int .i64 (A 7), .int .i64 (x 5), .int .i64 (x 6), .int .i64 (x 7)] 88)) W16.heap.size #[.int .i64 (A 5), .int .i64 (A 6), .int .i64 (A 7), .int .i64 (x 5), .int .i64 (x 6), .int .i64 (x 7)] 88 := Blk.made _ _ _ rfl
                have nR : W16.heap.size ≠ p := by have := hs.F.size; omega
                replace hs := hs.alloc (.cells #[.int .i64 (A 5), .int .i64 (A 6), .int .i64 (A 7), .int .i64 (x 5), .int .i64 (x 6), .int .i64 (x 7)] 88)
                generalize World.alloc W16 _ = W17 at *
                generalize W16.heap.size = B17 at *
                refine ⟨hs, ?_⟩
                refine wpAnyH_as (b := actS p o s q gg oo n c k x (.pointer (some ⟨q, 0, none⟩)) (.int .i64 (x 0)) (.pointer (some ⟨p, o, none⟩)) (.pointer (some ⟨s + 1, 1, none⟩)) (.int .i64 (A 1)) (.pointer (some ⟨q, 1, none⟩)) (.int .i64 (x 1)) (.slice (some ⟨B1, 0, none⟩) 2 2) (.int .i64 (A 1 + x 1)) (.pointer (some ⟨p, o, none⟩)) (.pointer (some ⟨s + 1, 2, none⟩)) (.agg #[.int .i64 (A 2), .int .i64 (A 3), .int .i64 (A 4)]) (.pointer (some ⟨q, 2, none⟩)) (.agg #[.int .i64 (x 2), .int .i64 (x 3), .int .i64 (x 4)]) (.slice (some ⟨B14, 0, none⟩) 2 2) (.agg #[.int .i64 (A 2 + x 2), .int .i64 (A 3 + x 3), .int .i64 (A 4 + x 4)]) (.pointer (some ⟨p, o, none⟩)) (.pointer (some ⟨s + 1, 5, none⟩)) (.agg #[.int .i64 (A 5), .int .i64 (A 6), .int .i64 (A 7)]) (.pointer (some ⟨q, 5, none⟩)) (.agg #[.int .i64 (x 5), .int .i64 (x 6), .int .i64 (x 7)]) (.slice (some ⟨B17, 0, none⟩) 2 2) u36 u37 u38) (by kernel_rfl) ?_
                refine wpAnyH_all (rs := [22]) (by kernel_rfl) (by simp) ?_
                intro i hi
                obtain rfl : i = 22 := by simpa using hi
                refine wpOp_call (by kernel_rfl) (by kernel_rfl) (by kernel_rfl) (vadd_any p o B17 2 (A 5) (A 6) (A 7) (x 5) (x 6) (x 7) h _ (hs.F.fl f) fR.lt nR (fR.cell 0) (fR.cell 1) (fR.cell 2) (fR.cell 3) (fR.cell 4) (fR.cell 5) (BA 5 (by omega) (by omega)) (BX 5 (by omega) (by omega)) (BA 6 (by omega) (by omega)) (BX 6 (by omega) (by omega)) (BA 7 (by omega) (by omega)) (BX 7 (by omega) (by omega))) ?_
                intro W18 kf
                replace hs := hs.flag hpq kf
                clear fR nR
                clear kf
                refine ⟨hs, ?_⟩
                refine wpAnyH_as (b := actS p o s q gg oo n c k x (.pointer (some ⟨q, 0, none⟩)) (.int .i64 (x 0)) (.pointer (some ⟨p, o, none⟩)) (.pointer (some ⟨s + 1, 1, none⟩)) (.int .i64 (A 1)) (.pointer (some ⟨q, 1, none⟩)) (.int .i64 (x 1)) (.slice (some ⟨B1, 0, none⟩) 2 2) (.int .i64 (A 1 + x 1)) (.pointer (some ⟨p, o, none⟩)) (.pointer (some ⟨s + 1, 2, none⟩)) (.agg #[.int .i64 (A 2), .int .i64 (A 3), .int .i64 (A 4)]) (.pointer (some ⟨q, 2, none⟩)) (.agg #[.int .i64 (x 2), .int .i64 (x 3), .int .i64 (x 4)]) (.slice (some ⟨B14, 0, none⟩) 2 2) (.agg #[.int .i64 (A 2 + x 2), .int .i64 (A 3 + x 3), .int .i64 (A 4 + x 4)]) (.pointer (some ⟨p, o, none⟩)) (.pointer (some ⟨s + 1, 5, none⟩)) (.agg #[.int .i64 (A 5), .int .i64 (A 6), .int .i64 (A 7)]) (.pointer (some ⟨q, 5, none⟩)) (.agg #[.int .i64 (x 5), .int .i64 (x 6), .int .i64 (x 7)]) (.slice (some ⟨B17, 0, none⟩) 2 2) (.agg #[.int .i64 (A 5 + x 5), .int .i64 (A 6 + x 6), .int .i64 (A 7 + x 7)]) u37 u38) (by kernel_rfl) ?_
                refine wpAnyH_take (i := 23) rfl (by kernel_rfl) (by kernel_rfl) (by kernel_rfl) (fun _ _ _ h => nomatch h.1) (yields_pure (v := .agg (rowA 8 (addI A x))) (by kernel_rfl) (fun _ => by kernel_rfl)) hs ?_
                refine wpAnyH_as (b := actS p o s q gg oo n c k x (.pointer (some ⟨q, 0, none⟩)) (.int .i64 (x 0)) (.pointer (some ⟨p, o, none⟩)) (.pointer (some ⟨s + 1, 1, none⟩)) (.int .i64 (A 1)) (.pointer (some ⟨q, 1, none⟩)) (.int .i64 (x 1)) (.slice (some ⟨B1, 0, none⟩) 2 2) (.int .i64 (A 1 + x 1)) (.pointer (some ⟨p, o, none⟩)) (.pointer (some ⟨s + 1, 2, none⟩)) (.agg #[.int .i64 (A 2), .int .i64 (A 3), .int .i64 (A 4)]) (.pointer (some ⟨q, 2, none⟩)) (.agg #[.int .i64 (x 2), .int .i64 (x 3), .int .i64 (x 4)]) (.slice (some ⟨B14, 0, none⟩) 2 2) (.agg #[.int .i64 (A 2 + x 2), .int .i64 (A 3 + x 3), .int .i64 (A 4 + x 4)]) (.pointer (some ⟨p, o, none⟩)) (.pointer (some ⟨s + 1, 5, none⟩)) (.agg #[.int .i64 (A 5), .int .i64 (A 6), .int .i64 (A 7)]) (.pointer (some ⟨q, 5, none⟩)) (.agg #[.int .i64 (x 5), .int .i64 (x 6), .int .i64 (x 7)]) (.slice (some ⟨B17, 0, none⟩) 2 2) (.agg #[.int .i64 (A 5 + x 5), .int .i64 (A 6 + x 6), .int .i64 (A 7 + x 7)]) (.agg (rowA 8 (addI A x))) u38) (by kernel_rfl) ?_
                refine wpAnyH_done (by kernel_rfl) ?_ _
                exact ⟨rfl, .slice (some ⟨B1, 0, none⟩) 2 2, .slice (some ⟨B14, 0, none⟩) 2 2, .slice (some ⟨B17, 0, none⟩) 2 2, by kernel_rfl, hs⟩
              · refine wpOp_value (by kernel_rfl) (by kernel_rfl) (w' := World.alloc W15 (.cells #[.int .i64 (A 5), .int .i64 (A 6), .int .i64 (A 7), .int .i64 (x 5), .int .i64 (x 6), .int .i64 (x 7)] 88)) (v := .slice (some ⟨W15.heap.size, 0, none⟩) 2 2) (by kernel_rfl) ?_
                have fR : Blk (World.alloc W15 (.cells #[.int .i64 (A 5), .int .i64 (A 6), .int .i64 (A 7), .int .i64 (x 5), .int .i64 (x 6), .int .i64 (x 7)] 88)) W15.heap.size #[.int .i64 (A 5), .int .i64 (A 6), .int .i64 (A 7), .int .i64 (x 5), .int .i64 (x 6), .int .i64 (x 7)] 88 := Blk.made _ _ _ rfl
                have nR : W15.heap.size ≠ p := by have := hs.F.size; omega
                replace fQ := fQ.alloc (.cells #[.int .i64 (A 5), .int .i64 (A 6), .int .i64 (A 7), .int .i64 (x 5), .int .i64 (x 6), .int .i64 (x 7)] 88)
                replace hs := hs.alloc (.cells #[.int .i64 (A 5), .int .i64 (A 6), .int .i64 (A 7), .int .i64 (x 5), .int .i64 (x 6), .int .i64 (x 7)] 88)
                generalize World.alloc W15 _ = W19 at *
                generalize W15.heap.size = B19 at *
                refine ⟨hs, ?_⟩
                refine wpAnyH_as (b := actS p o s q gg oo n c k x (.pointer (some ⟨q, 0, none⟩)) (.int .i64 (x 0)) (.pointer (some ⟨p, o, none⟩)) (.pointer (some ⟨s + 1, 1, none⟩)) (.int .i64 (A 1)) (.pointer (some ⟨q, 1, none⟩)) (.int .i64 (x 1)) (.slice (some ⟨B1, 0, none⟩) 2 2) (.int .i64 (A 1 + x 1)) (.pointer (some ⟨p, o, none⟩)) (.pointer (some ⟨s + 1, 2, none⟩)) (.agg #[.int .i64 (A 2), .int .i64 (A 3), .int .i64 (A 4)]) (.pointer (some ⟨q, 2, none⟩)) (.agg #[.int .i64 (x 2), .int .i64 (x 3), .int .i64 (x 4)]) (.slice (some ⟨B14, 0, none⟩) 2 2) u29 (.pointer (some ⟨p, o, none⟩)) (.pointer (some ⟨s + 1, 5, none⟩)) (.agg #[.int .i64 (A 5), .int .i64 (A 6), .int .i64 (A 7)]) (.pointer (some ⟨q, 5, none⟩)) (.agg #[.int .i64 (x 5), .int .i64 (x 6), .int .i64 (x 7)]) (.slice (some ⟨B19, 0, none⟩) 2 2) u36 u37 u38) (by kernel_rfl) ?_
                refine wpAnyH_all (rs := [15]) (by kernel_rfl) (by simp) ?_
                intro i hi
                obtain rfl : i = 15 := by simpa using hi
                refine wpOp_call (by kernel_rfl) (by kernel_rfl) (by kernel_rfl) (vadd_any p o B14 2 (A 2) (A 3) (A 4) (x 2) (x 3) (x 4) h _ (hs.F.fl f) fQ.lt nQ (fQ.cell 0) (fQ.cell 1) (fQ.cell 2) (fQ.cell 3) (fQ.cell 4) (fQ.cell 5) (BA 2 (by omega) (by omega)) (BX 2 (by omega) (by omega)) (BA 3 (by omega) (by omega)) (BX 3 (by omega) (by omega)) (BA 4 (by omega) (by omega)) (BX 4 (by omega) (by omega))) ?_
                intro W20 kf
                replace hs := hs.flag hpq kf
                clear fQ nQ
                replace fR := fR.flag nR kf
                clear kf
                refine ⟨hs, ?_⟩
                refine wpAnyH_as (b := actS p o s q gg oo n c k x (.pointer (some ⟨q, 0, none⟩)) (.int .i64 (x 0)) (.pointer (some ⟨p, o, none⟩)) (.pointer (some ⟨s + 1, 1, none⟩)) (.int .i64 (A 1)) (.pointer (some ⟨q, 1, none⟩)) (.int .i64 (x 1)) (.slice (some ⟨B1, 0, none⟩) 2 2) (.int .i64 (A 1 + x 1)) (.pointer (some ⟨p, o, none⟩)) (.pointer (some ⟨s + 1, 2, none⟩)) (.agg #[.int .i64 (A 2), .int .i64 (A 3), .int .i64 (A 4)]) (.pointer (some ⟨q, 2, none⟩)) (.agg #[.int .i64 (x 2), .int .i64 (x 3), .int .i64 (x 4)]) (.slice (some ⟨B14, 0, none⟩) 2 2) (.agg #[.int .i64 (A 2 + x 2), .int .i64 (A 3 + x 3), .int .i64 (A 4 + x 4)]) (.pointer (some ⟨p, o, none⟩)) (.pointer (some ⟨s + 1, 5, none⟩)) (.agg #[.int .i64 (A 5), .int .i64 (A 6), .int .i64 (A 7)]) (.pointer (some ⟨q, 5, none⟩)) (.agg #[.int .i64 (x 5), .int .i64 (x 6), .int .i64 (x 7)]) (.slice (some ⟨B19, 0, none⟩) 2 2) u36 u37 u38) (by kernel_rfl) ?_
                refine wpAnyH_all (rs := [22]) (by kernel_rfl) (by simp) ?_
                intro i hi
                obtain rfl : i = 22 := by simpa using hi
                refine wpOp_call (by kernel_rfl) (by kernel_rfl) (by kernel_rfl) (vadd_any p o B19 2 (A 5) (A 6) (A 7) (x 5) (x 6) (x 7) h _ (hs.F.fl f) fR.lt nR (fR.cell 0) (fR.cell 1) (fR.cell 2) (fR.cell 3) (fR.cell 4) (fR.cell 5) (BA 5 (by omega) (by omega)) (BX 5 (by omega) (by omega)) (BA 6 (by omega) (by omega)) (BX 6 (by omega) (by omega)) (BA 7 (by omega) (by omega)) (BX 7 (by omega) (by omega))) ?_
                intro W21 kf
                replace hs := hs.flag hpq kf
                clear fR nR
                clear kf
                refine ⟨hs, ?_⟩
                refine wpAnyH_as (b := actS p o s q gg oo n c k x (.pointer (some ⟨q, 0, none⟩)) (.int .i64 (x 0)) (.pointer (some ⟨p, o, none⟩)) (.pointer (some ⟨s + 1, 1, none⟩)) (.int .i64 (A 1)) (.pointer (some ⟨q, 1, none⟩)) (.int .i64 (x 1)) (.slice (some ⟨B1, 0, none⟩) 2 2) (.int .i64 (A 1 + x 1)) (.pointer (some ⟨p, o, none⟩)) (.pointer (some ⟨s + 1, 2, none⟩)) (.agg #[.int .i64 (A 2), .int .i64 (A 3), .int .i64 (A 4)]) (.pointer (some ⟨q, 2, none⟩)) (.agg #[.int .i64 (x 2), .int .i64 (x 3), .int .i64 (x 4)]) (.slice (some ⟨B14, 0, none⟩) 2 2) (.agg #[.int .i64 (A 2 + x 2), .int .i64 (A 3 + x 3), .int .i64 (A 4 + x 4)]) (.pointer (some ⟨p, o, none⟩)) (.pointer (some ⟨s + 1, 5, none⟩)) (.agg #[.int .i64 (A 5), .int .i64 (A 6), .int .i64 (A 7)]) (.pointer (some ⟨q, 5, none⟩)) (.agg #[.int .i64 (x 5), .int .i64 (x 6), .int .i64 (x 7)]) (.slice (some ⟨B19, 0, none⟩) 2 2) (.agg #[.int .i64 (A 5 + x 5), .int .i64 (A 6 + x 6), .int .i64 (A 7 + x 7)]) u37 u38) (by kernel_rfl) ?_
                refine wpAnyH_take (i := 23) rfl (by kernel_rfl) (by kernel_rfl) (by kernel_rfl) (fun _ _ _ h => nomatch h.1) (yields_pure (v := .agg (rowA 8 (addI A x))) (by kernel_rfl) (fun _ => by kernel_rfl)) hs ?_
                refine wpAnyH_as (b := actS p o s q gg oo n c k x (.pointer (some ⟨q, 0, none⟩)) (.int .i64 (x 0)) (.pointer (some ⟨p, o, none⟩)) (.pointer (some ⟨s + 1, 1, none⟩)) (.int .i64 (A 1)) (.pointer (some ⟨q, 1, none⟩)) (.int .i64 (x 1)) (.slice (some ⟨B1, 0, none⟩) 2 2) (.int .i64 (A 1 + x 1)) (.pointer (some ⟨p, o, none⟩)) (.pointer (some ⟨s + 1, 2, none⟩)) (.agg #[.int .i64 (A 2), .int .i64 (A 3), .int .i64 (A 4)]) (.pointer (some ⟨q, 2, none⟩)) (.agg #[.int .i64 (x 2), .int .i64 (x 3), .int .i64 (x 4)]) (.slice (some ⟨B14, 0, none⟩) 2 2) (.agg #[.int .i64 (A 2 + x 2), .int .i64 (A 3 + x 3), .int .i64 (A 4 + x 4)]) (.pointer (some ⟨p, o, none⟩)) (.pointer (some ⟨s + 1, 5, none⟩)) (.agg #[.int .i64 (A 5), .int .i64 (A 6), .int .i64 (A 7)]) (.pointer (some ⟨q, 5, none⟩)) (.agg #[.int .i64 (x 5), .int .i64 (x 6), .int .i64 (x 7)]) (.slice (some ⟨B19, 0, none⟩) 2 2) (.agg #[.int .i64 (A 5 + x 5), .int .i64 (A 6 + x 6), .int .i64 (A 7 + x 7)]) (.agg (rowA 8 (addI A x))) u38) (by kernel_rfl) ?_
                refine wpAnyH_done (by kernel_rfl) ?_ _
                exact ⟨rfl, .slice (some ⟨B1, 0, none⟩) 2 2, .slice (some ⟨B14, 0, none⟩) 2 2, .slice (some ⟨B19, 0, none⟩) 2 2, by kernel_rfl, hs⟩
            · refine wpOp_value (by kernel_rfl) (by kernel_rfl) (w' := World.alloc W14 (.cells #[.int .i64 (A 5), .int .i64 (A 6), .int .i64 (A 7), .int .i64 (x 5), .int .i64 (x 6), .int .i64 (x 7)] 88)) (v := .slice (some ⟨W14.heap.size, 0, none⟩) 2 2) (by kernel_rfl) ?_
              have fR : Blk (World.alloc W14 (.cells #[.int .i64 (A 5), .int .i64 (A 6), .int .i64 (A 7), .int .i64 (x 5), .int .i64 (x 6), .int .i64 (x 7)] 88)) W14.heap.size #[.int .i64 (A 5), .int .i64 (A 6), .int .i64 (A 7), .int .i64 (x 5), .int .i64 (x 6), .int .i64 (x 7)] 88 := Blk.made _ _ _ rfl
              have nR : W14.heap.size ≠ p := by have := hs.F.size; omega
              replace fP := fP.alloc (.cells #[.int .i64 (A 5), .int .i64 (A 6), .int .i64 (A 7), .int .i64 (x 5), .int .i64 (x 6), .int .i64 (x 7)] 88)
              replace fQ := fQ.alloc (.cells #[.int .i64 (A 5), .int .i64 (A 6), .int .i64 (A 7), .int .i64 (x 5), .int .i64 (x 6), .int .i64 (x 7)] 88)
              replace hs := hs.alloc (.cells #[.int .i64 (A 5), .int .i64 (A 6), .int .i64 (A 7), .int .i64 (x 5), .int .i64 (x 6), .int .i64 (x 7)] 88)
              generalize World.alloc W14 _ = W22 at *
              generalize W14.heap.size = B22 at *
              refine ⟨hs, ?_⟩
              refine wpAnyH_as (b := actS p o s q gg oo n c k x (.pointer (some ⟨q, 0, none⟩)) (.int .i64 (x 0)) (.pointer (some ⟨p, o, none⟩)) (.pointer (some ⟨s + 1, 1, none⟩)) (.int .i64 (A 1)) (.pointer (some ⟨q, 1, none⟩)) (.int .i64 (x 1)) (.slice (some ⟨B1, 0, none⟩) 2 2) u22 (.pointer (some ⟨p, o, none⟩)) (.pointer (some ⟨s + 1, 2, none⟩)) (.agg #[.int .i64 (A 2), .int .i64 (A 3), .int .i64 (A 4)]) (.pointer (some ⟨q, 2, none⟩)) (.agg #[.int .i64 (x 2), .int .i64 (x 3), .int .i64 (x 4)]) (.slice (some ⟨B14, 0, none⟩) 2 2) u29 (.pointer (some ⟨p, o, none⟩)) (.pointer (some ⟨s + 1, 5, none⟩)) (.agg #[.int .i64 (A 5), .int .i64 (A 6), .int .i64 (A 7)]) (.pointer (some ⟨q, 5, none⟩)) (.agg #[.int .i64 (x 5), .int .i64 (x 6), .int .i64 (x 7)]) (.slice (some ⟨B22, 0, none⟩) 2 2) u36 u37 u38) (by kernel_rfl) ?_
              refine wpAnyH_all (rs := [8]) (by kernel_rfl) (by simp) ?_
              intro i hi
              obtain rfl : i = 8 := by simpa using hi
              refine wpOp_call (by kernel_rfl) (by kernel_rfl) (by kernel_rfl) (add2_fx p o B1 2 (A 1) (x 1) h _ (hs.F.fl f) fP.lt nP (fP.cell 0) (fP.cell 1) (BA 1 (by omega) (by omega)) (BX 1 (by omega) (by omega))) ?_
              intro W23 kf
              replace hs := hs.flag hpq kf
              clear fP nP
              replace fQ := fQ.flag nQ kf
              replace fR := fR.flag nR kf
              clear kf
              refine ⟨hs, ?_⟩
              refine wpAnyH_as (b := actS p o s q gg oo n c k x (.pointer (some ⟨q, 0, none⟩)) (.int .i64 (x 0)) (.pointer (some ⟨p, o, none⟩)) (.pointer (some ⟨s + 1, 1, none⟩)) (.int .i64 (A 1)) (.pointer (some ⟨q, 1, none⟩)) (.int .i64 (x 1)) (.slice (some ⟨B1, 0, none⟩) 2 2) (.int .i64 (A 1 + x 1)) (.pointer (some ⟨p, o, none⟩)) (.pointer (some ⟨s + 1, 2, none⟩)) (.agg #[.int .i64 (A 2), .int .i64 (A 3), .int .i64 (A 4)]) (.pointer (some ⟨q, 2, none⟩)) (.agg #[.int .i64 (x 2), .int .i64 (x 3), .int .i64 (x 4)]) (.slice (some ⟨B14, 0, none⟩) 2 2) u29 (.pointer (some ⟨p, o, none⟩)) (.pointer (some ⟨s + 1, 5, none⟩)) (.agg #[.int .i64 (A 5), .int .i64 (A 6), .int .i64 (A 7)]) (.pointer (some ⟨q, 5, none⟩)) (.agg #[.int .i64 (x 5), .int .i64 (x 6), .int .i64 (x 7)]) (.slice (some ⟨B22, 0, none⟩) 2 2) u36 u37 u38) (by kernel_rfl) ?_
              refine wpAnyH_all (rs := [15]) (by kernel_rfl) (by simp) ?_
              intro i hi
              obtain rfl : i = 15 := by simpa using hi
              refine wpOp_call (by kernel_rfl) (by kernel_rfl) (by kernel_rfl) (vadd_any p o B14 2 (A 2) (A 3) (A 4) (x 2) (x 3) (x 4) h _ (hs.F.fl f) fQ.lt nQ (fQ.cell 0) (fQ.cell 1) (fQ.cell 2) (fQ.cell 3) (fQ.cell 4) (fQ.cell 5) (BA 2 (by omega) (by omega)) (BX 2 (by omega) (by omega)) (BA 3 (by omega) (by omega)) (BX 3 (by omega) (by omega)) (BA 4 (by omega) (by omega)) (BX 4 (by omega) (by omega))) ?_
              intro W24 kf
              replace hs := hs.flag hpq kf
              clear fQ nQ
              replace fR := fR.flag nR kf
              clear kf
              refine ⟨hs, ?_⟩
              refine wpAnyH_as (b := actS p o s q gg oo n c k x (.pointer (some ⟨q, 0, none⟩)) (.int .i64 (x 0)) (.pointer (some ⟨p, o, none⟩)) (.pointer (some ⟨s + 1, 1, none⟩)) (.int .i64 (A 1)) (.pointer (some ⟨q, 1, none⟩)) (.int .i64 (x 1)) (.slice (some ⟨B1, 0, none⟩) 2 2) (.int .i64 (A 1 + x 1)) (.pointer (some ⟨p, o, none⟩)) (.pointer (some ⟨s + 1, 2, none⟩)) (.agg #[.int .i64 (A 2), .int .i64 (A 3), .int .i64 (A 4)]) (.pointer (some ⟨q, 2, none⟩)) (.agg #[.int .i64 (x 2), .int .i64 (x 3), .int .i64 (x 4)]) (.slice (some ⟨B14, 0, none⟩) 2 2) (.agg #[.int .i64 (A 2 + x 2), .int .i64 (A 3 + x 3), .int .i64 (A 4 + x 4)]) (.pointer (some ⟨p, o, none⟩)) (.pointer (some ⟨s + 1, 5, none⟩)) (.agg #[.int .i64 (A 5), .int .i64 (A 6), .int .i64 (A 7)]) (.pointer (some ⟨q, 5, none⟩)) (.agg #[.int .i64 (x 5), .int .i64 (x 6), .int .i64 (x 7)]) (.slice (some ⟨B22, 0, none⟩) 2 2) u36 u37 u38) (by kernel_rfl) ?_
              refine wpAnyH_all (rs := [22]) (by kernel_rfl) (by simp) ?_
              intro i hi
              obtain rfl : i = 22 := by simpa using hi
              refine wpOp_call (by kernel_rfl) (by kernel_rfl) (by kernel_rfl) (vadd_any p o B22 2 (A 5) (A 6) (A 7) (x 5) (x 6) (x 7) h _ (hs.F.fl f) fR.lt nR (fR.cell 0) (fR.cell 1) (fR.cell 2) (fR.cell 3) (fR.cell 4) (fR.cell 5) (BA 5 (by omega) (by omega)) (BX 5 (by omega) (by omega)) (BA 6 (by omega) (by omega)) (BX 6 (by omega) (by omega)) (BA 7 (by omega) (by omega)) (BX 7 (by omega) (by omega))) ?_
              intro W25 kf
              replace hs := hs.flag hpq kf
              clear fR nR
              clear kf
              refine ⟨hs, ?_⟩
              refine wpAnyH_as (b := actS p o s q gg oo n c k x (.pointer (some ⟨q, 0, none⟩)) (.int .i64 (x 0)) (.pointer (some ⟨p, o, none⟩)) (.pointer (some ⟨s + 1, 1, none⟩)) (.int .i64 (A 1)) (.pointer (some ⟨q, 1, none⟩)) (.int .i64 (x 1)) (.slice (some ⟨B1, 0, none⟩) 2 2) (.int .i64 (A 1 + x 1)) (.pointer (some ⟨p, o, none⟩)) (.pointer (some ⟨s + 1, 2, none⟩)) (.agg #[.int .i64 (A 2), .int .i64 (A 3), .int .i64 (A 4)]) (.pointer (some ⟨q, 2, none⟩)) (.agg #[.int .i64 (x 2), .int .i64 (x 3), .int .i64 (x 4)]) (.slice (some ⟨B14, 0, none⟩) 2 2) (.agg #[.int .i64 (A 2 + x 2), .int .i64 (A 3 + x 3), .int .i64 (A 4 + x 4)]) (.pointer (some ⟨p, o, none⟩)) (.pointer (some ⟨s + 1, 5, none⟩)) (.agg #[.int .i64 (A 5), .int .i64 (A 6), .int .i64 (A 7)]) (.pointer (some ⟨q, 5, none⟩)) (.agg #[.int .i64 (x 5), .int .i64 (x 6), .int .i64 (x 7)]) (.slice (some ⟨B22, 0, none⟩) 2 2) (.agg #[.int .i64 (A 5 + x 5), .int .i64 (A 6 + x 6), .int .i64 (A 7 + x 7)]) u37 u38) (by kernel_rfl) ?_
              refine wpAnyH_take (i := 23) rfl (by kernel_rfl) (by kernel_rfl) (by kernel_rfl) (fun _ _ _ h => nomatch h.1) (yields_pure (v := .agg (rowA 8 (addI A x))) (by kernel_rfl) (fun _ => by kernel_rfl)) hs ?_
              refine wpAnyH_as (b := actS p o s q gg oo n c k x (.pointer (some ⟨q, 0, none⟩)) (.int .i64 (x 0)) (.pointer (some ⟨p, o, none⟩)) (.pointer (some ⟨s + 1, 1, none⟩)) (.int .i64 (A 1)) (.pointer (some ⟨q, 1, none⟩)) (.int .i64 (x 1)) (.slice (some ⟨B1, 0, none⟩) 2 2) (.int .i64 (A 1 + x 1)) (.pointer (some ⟨p, o, none⟩)) (.pointer (some ⟨s + 1, 2, none⟩)) (.agg #[.int .i64 (A 2), .int .i64 (A 3), .int .i64 (A 4)]) (.pointer (some ⟨q, 2, none⟩)) (.agg #[.int .i64 (x 2), .int .i64 (x 3), .int .i64 (x 4)]) (.slice (some ⟨B14, 0, none⟩) 2 2) (.agg #[.int .i64 (A 2 + x 2), .int .i64 (A 3 + x 3), .int .i64 (A 4 + x 4)]) (.pointer (some ⟨p, o, none⟩)) (.pointer (some ⟨s + 1, 5, none⟩)) (.agg #[.int .i64 (A 5), .int .i64 (A 6), .int .i64 (A 7)]) (.pointer (some ⟨q, 5, none⟩)) (.agg #[.int .i64 (x 5), .int .i64 (x 6), .int .i64 (x 7)]) (.slice (some ⟨B22, 0, none⟩) 2 2) (.agg #[.int .i64 (A 5 + x 5), .int .i64 (A 6 + x 6), .int .i64 (A 7 + x 7)]) (.agg (rowA 8 (addI A x))) u38) (by kernel_rfl) ?_
              refine wpAnyH_done (by kernel_rfl) ?_ _
              exact ⟨rfl, .slice (some ⟨B1, 0, none⟩) 2 2, .slice (some ⟨B14, 0, none⟩) 2 2, .slice (some ⟨B22, 0, none⟩) 2 2, by kernel_rfl, hs⟩
          · refine wpOp_value (by kernel_rfl) (by kernel_rfl) (w' := World.alloc W1 (.cells #[.int .i64 (A 5), .int .i64 (A 6), .int .i64 (A 7), .int .i64 (x 5), .int .i64 (x 6), .int .i64 (x 7)] 88)) (v := .slice (some ⟨W1.heap.size, 0, none⟩) 2 2) (by kernel_rfl) ?_
            have fR : Blk (World.alloc W1 (.cells #[.int .i64 (A 5), .int .i64 (A 6), .int .i64 (A 7), .int .i64 (x 5), .int .i64 (x 6), .int .i64 (x 7)] 88)) W1.heap.size #[.int .i64 (A 5), .int .i64 (A 6), .int .i64 (A 7), .int .i64 (x 5), .int .i64 (x 6), .int .i64 (x 7)] 88 := Blk.made _ _ _ rfl
            have nR : W1.heap.size ≠ p := by have := hs.F.size; omega
            replace fP := fP.alloc (.cells #[.int .i64 (A 5), .int .i64 (A 6), .int .i64 (A 7), .int .i64 (x 5), .int .i64 (x 6), .int .i64 (x 7)] 88)
            replace hs := hs.alloc (.cells #[.int .i64 (A 5), .int .i64 (A 6), .int .i64 (A 7), .int .i64 (x 5), .int .i64 (x 6), .int .i64 (x 7)] 88)
            generalize World.alloc W1 _ = W26 at *
            generalize W1.heap.size = B26 at *
            refine ⟨hs, ?_⟩
            refine wpAnyH_as (b := actS p o s q gg oo n c k x (.pointer (some ⟨q, 0, none⟩)) (.int .i64 (x 0)) (.pointer (some ⟨p, o, none⟩)) (.pointer (some ⟨s + 1, 1, none⟩)) (.int .i64 (A 1)) (.pointer (some ⟨q, 1, none⟩)) (.int .i64 (x 1)) (.slice (some ⟨B1, 0, none⟩) 2 2) u22 (.pointer (some ⟨p, o, none⟩)) (.pointer (some ⟨s + 1, 2, none⟩)) (.agg #[.int .i64 (A 2), .int .i64 (A 3), .int .i64 (A 4)]) (.pointer (some ⟨q, 2, none⟩)) (.agg #[.int .i64 (x 2), .int .i64 (x 3), .int .i64 (x 4)]) u28 u29 (.pointer (some ⟨p, o, none⟩)) (.pointer (some ⟨s + 1, 5, none⟩)) (.agg #[.int .i64 (A 5), .int .i64 (A 6), .int .i64 (A 7)]) (.pointer (some ⟨q, 5, none⟩)) (.agg #[.int .i64 (x 5), .int .i64 (x 6), .int .i64 (x 7)]) (.slice (some ⟨B26, 0, none⟩) 2 2) u36 u37 u38) (by kernel_rfl) ?_
            refine wpAnyH_all (rs := [8, 14]) (by kernel_rfl) (by simp) ?_
            intro i hi
            simp only [List.mem_cons, List.not_mem_nil, or_false] at hi
            rcases hi with rfl | rfl
            · refine wpOp_call (by kernel_rfl) (by kernel_rfl) (by kernel_rfl) (add2_fx p o B1 2 (A 1) (x 1) h _ (hs.F.fl f) fP.lt nP (fP.cell 0) (fP.cell 1) (BA 1 (by omega) (by omega)) (BX 1 (by omega) (by omega))) ?_
              intro W27 kf
              replace hs := hs.flag hpq kf
              clear fP nP
              replace fR := fR.flag nR kf
              clear kf
              refine ⟨hs, ?_⟩
              refine wpAnyH_as (b := actS p o s q gg oo n c k x (.pointer (some ⟨q, 0, none⟩)) (.int .i64 (x 0)) (.pointer (some ⟨p, o, none⟩)) (.pointer (some ⟨s + 1, 1, none⟩)) (.int .i64 (A 1)) (.pointer (some ⟨q, 1, none⟩)) (.int .i64 (x 1)) (.slice (some ⟨B1, 0, none⟩) 2 2) (.int .i64 (A 1 + x 1)) (.pointer (some ⟨p, o, none⟩)) (.pointer (some ⟨s + 1, 2, none⟩)) (.agg #[.int .i64 (A 2), .int .i64 (A 3), .int .i64 (A 4)]) (.pointer (some ⟨q, 2, none⟩)) (.agg #[.int .i64 (x 2), .int .i64 (x 3), .int .i64 (x 4)]) u28 u29 (.pointer (some ⟨p, o, none⟩)) (.pointer (some ⟨s + 1, 5, none⟩)) (.agg #[.int .i64 (A 5), .int .i64 (A 6), .int .i64 (A 7)]) (.pointer (some ⟨q, 5, none⟩)) (.agg #[.int .i64 (x 5), .int .i64 (x 6), .int .i64 (x 7)]) (.slice (some ⟨B26, 0, none⟩) 2 2) u36 u37 u38) (by kernel_rfl) ?_
              refine wpAnyH_all (rs := [14]) (by kernel_rfl) (by simp) ?_
              intro i hi
              obtain rfl : i = 14 := by simpa using hi
              refine wpOp_value (by kernel_rfl) (by kernel_rfl) (w' := World.alloc W27 (.cells #[.int .i64 (A 2), .int .i64 (A 3), .int .i64 (A 4), .int .i64 (x 2), .int .i64 (x 3), .int .i64 (x 4)] 88)) (v := .slice (some ⟨W27.heap.size, 0, none⟩) 2 2) (by kernel_rfl) ?_
              have fQ : Blk (World.alloc W27 (.cells #[.int .i64 (A 2), .int .i64 (A 3), .int .i64 (A 4), .int .i64 (x 2), .int .i64 (x 3), .int .i64 (x 4)] 88)) W27.heap.size #[.int .i64 (A 2), .int .i64 (A 3), .int .i64 (A 4), .int .i64 (x 2), .int .i64 (x 3), .int .i64 (x 4)] 88 := Blk.made _ _ _ rfl
              have nQ : W27.heap.size ≠ p := by have := hs.F.size; omega
              replace fR := fR.alloc (.cells #[.int .i64 (A 2), .int .i64 (A 3), .int .i64 (A 4), .int .i64 (x 2), .int .i64 (x 3), .int .i64 (x 4)] 88)
              replace hs := hs.alloc (.cells #[.int .i64 (A 2), .int .i64 (A 3), .int .i64 (A 4), .int .i64 (x 2), .int .i64 (x 3), .int .i64 (x 4)] 88)
              generalize World.alloc W27 _ = W28 at *
              generalize W27.heap.size = B28 at *
              refine ⟨hs, ?_⟩
              refine wpAnyH_as (b := actS p o s q gg oo n c k x (.pointer (some ⟨q, 0, none⟩)) (.int .i64 (x 0)) (.pointer (some ⟨p, o, none⟩)) (.pointer (some ⟨s + 1, 1, none⟩)) (.int .i64 (A 1)) (.pointer (some ⟨q, 1, none⟩)) (.int .i64 (x 1)) (.slice (some ⟨B1, 0, none⟩) 2 2) (.int .i64 (A 1 + x 1)) (.pointer (some ⟨p, o, none⟩)) (.pointer (some ⟨s + 1, 2, none⟩)) (.agg #[.int .i64 (A 2), .int .i64 (A 3), .int .i64 (A 4)]) (.pointer (some ⟨q, 2, none⟩)) (.agg #[.int .i64 (x 2), .int .i64 (x 3), .int .i64 (x 4)]) (.slice (some ⟨B28, 0, none⟩) 2 2) u29 (.pointer (some ⟨p, o, none⟩)) (.pointer (some ⟨s + 1, 5, none⟩)) (.agg #[.int .i64 (A 5), .int .i64 (A 6), .int .i64 (A 7)]) (.pointer (some ⟨q, 5, none⟩)) (.agg #[.int .i64 (x 5), .int .i64 (x 6), .int .i64 (x 7)]) (.slice (some ⟨B26, 0, none⟩) 2 2) u36 u37 u38) (by kernel_rfl) ?_
              refine wpAnyH_all (rs := [15]) (by kernel_rfl) (by simp) ?_
              intro i hi
              obtain rfl : i = 15 := by simpa using hi
              refine wpOp_call (by kernel_rfl) (by kernel_rfl) (by kernel_rfl) (vadd_any p o B28 2 (A 2) (A 3) (A 4) (x 2) (x 3) (x 4) h _ (hs.F.fl f) fQ.lt nQ (fQ.cell 0) (fQ.cell 1) (fQ.cell 2) (fQ.cell 3) (fQ.cell 4) (fQ.cell 5) (BA 2 (by omega) (by omega)) (BX 2 (by omega) (by omega)) (BA 3 (by omega) (by omega)) (BX 3 (by omega) (by omega)) (BA 4 (by omega) (by omega)) (BX 4 (by omega) (by omega))) ?_
              intro W29 kf
              replace hs := hs.flag hpq kf
              clear fQ nQ
              replace fR := fR.flag nR kf
              clear kf
              refine ⟨hs, ?_⟩
              refine wpAnyH_as (b := actS p o s q gg oo n c k x (.pointer (some ⟨q, 0, none⟩)) (.int .i64 (x 0)) (.pointer (some ⟨p, o, none⟩)) (.pointer (some ⟨s + 1, 1, none⟩)) (.int .i64 (A 1)) (.pointer (some ⟨q, 1, none⟩)) (.int .i64 (x 1)) (.slice (some ⟨B1, 0, none⟩) 2 2) (.int .i64 (A 1 + x 1)) (.pointer (some ⟨p, o, none⟩)) (.pointer (some ⟨s + 1, 2, none⟩)) (.agg #[.int .i64 (A 2), .int .i64 (A 3), .int .i64 (A 4)]) (.pointer (some ⟨q, 2, none⟩)) (.agg #[.int .i64 (x 2), .int .i64 (x 3), .int .i64 (x 4)]) (.slice (some ⟨B28, 0, none⟩) 2 2) (.agg #[.int .i64 (A 2 + x 2), .int .i64 (A 3 + x 3), .int .i64 (A 4 + x 4)]) (.pointer (some ⟨p, o, none⟩)) (.pointer (some ⟨s + 1, 5, none⟩)) (.agg #[.int .i64 (A 5), .int .i64 (A 6), .int .i64 (A 7)]) (.pointer (some ⟨q, 5, none⟩)) (.agg #[.int .i64 (x 5), .int .i64 (x 6), .int .i64 (x 7)]) (.slice (some ⟨B26, 0, none⟩) 2 2) u36 u37 u38) (by kernel_rfl) ?_
              refine wpAnyH_all (rs := [22]) (by kernel_rfl) (by simp) ?_
              intro i hi
              obtain rfl : i = 22 := by simpa using hi
              refine wpOp_call (by kernel_rfl) (by kernel_rfl) (by kernel_rfl) (vadd_any p o B26 2 (A 5) (A 6) (A 7) (x 5) (x 6) (x 7) h _ (hs.F.fl f) fR.lt nR (fR.cell 0) (fR.cell 1) (fR.cell 2) (fR.cell 3) (fR.cell 4) (fR.cell 5) (BA 5 (by omega) (by omega)) (BX 5 (by omega) (by omega)) (BA 6 (by omega) (by omega)) (BX 6 (by omega) (by omega)) (BA 7 (by omega) (by omega)) (BX 7 (by omega) (by omega))) ?_
              intro W30 kf
              replace hs := hs.flag hpq kf
              clear fR nR
              clear kf
              refine ⟨hs, ?_⟩
              refine wpAnyH_as (b := actS p o s q gg oo n c k x (.pointer (some ⟨q, 0, none⟩)) (.int .i64 (x 0)) (.pointer (some ⟨p, o, none⟩)) (.pointer (some ⟨s + 1, 1, none⟩)) (.int .i64 (A 1)) (.pointer (some ⟨q, 1, none⟩)) (.int .i64 (x 1)) (.slice (some ⟨B1, 0, none⟩) 2 2) (.int .i64 (A 1 + x 1)) (.pointer (some ⟨p, o, none⟩)) (.pointer (some ⟨s + 1, 2, none⟩)) (.agg #[.int .i64 (A 2), .int .i64 (A 3), .int .i64 (A 4)]) (.pointer (some ⟨q, 2, none⟩)) (.agg #[.int .i64 (x 2), .int .i64 (x 3), .int .i64 (x 4)]) (.slice (some ⟨B28, 0, none⟩) 2 2) (.agg #[.int .i64 (A 2 + x 2), .int .i64 (A 3 + x 3), .int .i64 (A 4 + x 4)]) (.pointer (some ⟨p, o, none⟩)) (.pointer (some ⟨s + 1, 5, none⟩)) (.agg #[.int .i64 (A 5), .int .i64 (A 6), .int .i64 (A 7)]) (.pointer (some ⟨q, 5, none⟩)) (.agg #[.int .i64 (x 5), .int .i64 (x 6), .int .i64 (x 7)]) (.slice (some ⟨B26, 0, none⟩) 2 2) (.agg #[.int .i64 (A 5 + x 5), .int .i64 (A 6 + x 6), .int .i64 (A 7 + x 7)]) u37 u38) (by kernel_rfl) ?_
              refine wpAnyH_take (i := 23) rfl (by kernel_rfl) (by kernel_rfl) (by kernel_rfl) (fun _ _ _ h => nomatch h.1) (yields_pure (v := .agg (rowA 8 (addI A x))) (by kernel_rfl) (fun _ => by kernel_rfl)) hs ?_
              refine wpAnyH_as (b := actS p o s q gg oo n c k x (.pointer (some ⟨q, 0, none⟩)) (.int .i64 (x 0)) (.pointer (some ⟨p, o, none⟩)) (.pointer (some ⟨s + 1, 1, none⟩)) (.int .i64 (A 1)) (.pointer (some ⟨q, 1, none⟩)) (.int .i64 (x 1)) (.slice (some ⟨B1, 0, none⟩) 2 2) (.int .i64 (A 1 + x 1)) (.pointer (some ⟨p, o, none⟩)) (.pointer (some ⟨s + 1, 2, none⟩)) (.agg #[.int .i64 (A 2), .int .i64 (A 3), .int .i64 (A 4)]) (.pointer (some ⟨q, 2, none⟩)) (.agg #[.int .i64 (x 2), .int .i64 (x 3), .int .i64 (x 4)]) (.slice (some ⟨B28, 0, none⟩) 2 2) (.agg #[.int .i64 (A 2 + x 2), .int .i64 (A 3 + x 3), .int .i64 (A 4 + x 4)]) (.pointer (some ⟨p, o, none⟩)) (.pointer (some ⟨s + 1, 5, none⟩)) (.agg #[.int .i64 (A 5), .int .i64 (A 6), .int .i64 (A 7)]) (.pointer (some ⟨q, 5, none⟩)) (.agg #[.int .i64 (x 5), .int .i64 (x 6), .int .i64 (x 7)]) (.slice (some ⟨B26, 0, none⟩) 2 2) (.agg #[.int .i64 (A 5 + x 5), .int .i64 (A 6 + x 6), .int .i64 (A 7 + x 7)]) (.agg (rowA 8 (addI A x))) u38) (by kernel_rfl) ?_
              refine wpAnyH_done (by kernel_rfl) ?_ _
              exact ⟨rfl, .slice (some ⟨B1, 0, none⟩) 2 2, .slice (some ⟨B28, 0, none⟩) 2 2, .slice (some ⟨B26, 0, none⟩) 2 2, by kernel_rfl, hs⟩
            · refine wpOp_value (by kernel_rfl) (by kernel_rfl) (w' := World.alloc W26 (.cells #[.int .i64 (A 2), .int .i64 (A 3), .int .i64 (A 4), .int .i64 (x 2), .int .i64 (x 3), .int .i64 (x 4)] 88)) (v := .slice (some ⟨W26.heap.size, 0, none⟩) 2 2) (by kernel_rfl) ?_
              have fQ : Blk (World.alloc W26 (.cells #[.int .i64 (A 2), .int .i64 (A 3), .int .i64 (A 4), .int .i64 (x 2), .int .i64 (x 3), .int .i64 (x 4)] 88)) W26.heap.size #[.int .i64 (A 2), .int .i64 (A 3), .int .i64 (A 4), .int .i64 (x 2), .int .i64 (x 3), .int .i64 (x 4)] 88 := Blk.made _ _ _ rfl
              have nQ : W26.heap.size ≠ p := by have := hs.F.size; omega
              replace fP := fP.alloc (.cells #[.int .i64 (A 2), .int .i64 (A 3), .int .i64 (A 4), .int .i64 (x 2), .int .i64 (x 3), .int .i64 (x 4)] 88)
              replace fR := fR.alloc (.cells #[.int .i64 (A 2), .int .i64 (A 3), .int .i64 (A 4), .int .i64 (x 2), .int .i64 (x 3), .int .i64 (x 4)] 88)
              replace hs := hs.alloc (.cells #[.int .i64 (A 2), .int .i64 (A 3), .int .i64 (A 4), .int .i64 (x 2), .int .i64 (x 3), .int .i64 (x 4)] 88)
              generalize World.alloc W26 _ = W31 at *
              generalize W26.heap.size = B31 at *
              refine ⟨hs, ?_⟩
              refine wpAnyH_as (b := actS p o s q gg oo n c k x (.pointer (some ⟨q, 0, none⟩)) (.int .i64 (x 0)) (.pointer (some ⟨p, o, none⟩)) (.pointer (some ⟨s + 1, 1, none⟩)) (.int .i64 (A 1)) (.pointer (some ⟨q, 1, none⟩)) (.int .i64 (x 1)) (.slice (some ⟨B1, 0, none⟩) 2 2) u22 (.pointer (some ⟨p, o, none⟩)) (.pointer (some ⟨s + 1, 2, none⟩)) (.agg #[.int .i64 (A 2), .int .i64 (A 3), .int .i64 (A 4)]) (.pointer (some ⟨q, 2, none⟩)) (.agg #[.int .i64 (x 2), .int .i64 (x 3), .int .i64 (x 4)]) (.slice (some ⟨B31, 0, none⟩) 2 2) u29 (.pointer (some ⟨p, o, none⟩)) (.pointer (some ⟨s + 1, 5, none⟩)) (.agg #[.int .i64 (A 5), .int .i64 (A 6), .int .i64 (A 7)]) (.pointer (some ⟨q, 5, none⟩)) (.agg #[.int .i64 (x 5), .int .i64 (x 6), .int .i64 (x 7)]) (.slice (some ⟨B26, 0, none⟩) 2 2) u36 u37 u38) (by kernel_rfl) ?_
              refine wpAnyH_all (rs := [8]) (by kernel_rfl) (by simp) ?_
              intro i hi
              obtain rfl : i = 8 := by simpa using hi
              refine wpOp_call (by kernel_rfl) (by kernel_rfl) (by kernel_rfl) (add2_fx p o B1 2 (A 1) (x 1) h _ (hs.F.fl f) fP.lt nP (fP.cell 0) (fP.cell 1) (BA 1 (by omega) (by omega)) (BX 1 (by omega) (by omega))) ?_
              intro W32 kf
              replace hs := hs.flag hpq kf
              clear fP nP
              replace fR := fR.flag nR kf
              replace fQ := fQ.flag nQ kf
              clear kf
              refine ⟨hs, ?_⟩
              refine wpAnyH_as (b := actS p o s q gg oo n c k x (.pointer (some ⟨q, 0, none⟩)) (.int .i64 (x 0)) (.pointer (some ⟨p, o, none⟩)) (.pointer (some ⟨s + 1, 1, none⟩)) (.int .i64 (A 1)) (.pointer (some ⟨q, 1, none⟩)) (.int .i64 (x 1)) (.slice (some ⟨B1, 0, none⟩) 2 2) (.int .i64 (A 1 + x 1)) (.pointer (some ⟨p, o, none⟩)) (.pointer (some ⟨s + 1, 2, none⟩)) (.agg #[.int .i64 (A 2), .int .i64 (A 3), .int .i64 (A 4)]) (.pointer (some ⟨q, 2, none⟩)) (.agg #[.int .i64 (x 2), .int .i64 (x 3), .int .i64 (x 4)]) (.slice (some ⟨B31, 0, none⟩) 2 2) u29 (.pointer (some ⟨p, o, none⟩)) (.pointer (some ⟨s + 1, 5, none⟩)) (.agg #[.int .i64 (A 5), .int .i64 (A 6), .int .i64 (A 7)]) (.pointer (some ⟨q, 5, none⟩)) (.agg #[.int .i64 (x 5), .int .i64 (x 6), .int .i64 (x 7)]) (.slice (some ⟨B26, 0, none⟩) 2 2) u36 u37 u38) (by kernel_rfl) ?_
              refine wpAnyH_all (rs := [15]) (by kernel_rfl) (by simp) ?_
              intro i hi
              obtain rfl : i = 15 := by simpa using hi
              refine wpOp_call (by kernel_rfl) (by kernel_rfl) (by kernel_rfl) (vadd_any p o B31 2 (A 2) (A 3) (A 4) (x 2) (x 3) (x 4) h _ (hs.F.fl f) fQ.lt nQ (fQ.cell 0) (fQ.cell 1) (fQ.cell 2) (fQ.cell 3) (fQ.cell 4) (fQ.cell 5) (BA 2 (by omega) (by omega)) (BX 2 (by omega) (by omega)) (BA 3 (by omega) (by omega)) (BX 3 (by omega) (by omega)) (BA 4 (by omega) (by omega)) (BX 4 (by omega) (by omega))) ?_
              intro W33 kf
              replace hs := hs.flag hpq kf
              clear fQ nQ
              replace fR := fR.flag nR kf
              clear kf
              refine ⟨hs, ?_⟩
              refine wpAnyH_as (b := actS p o s q gg oo n c k x (.pointer (some ⟨q, 0, none⟩)) (.int .i64 (x 0)) (.pointer (some ⟨p, o, none⟩)) (.pointer (some ⟨s + 1, 1, none⟩)) (.int .i64 (A 1)) (.pointer (some ⟨q, 1, none⟩)) (.int .i64 (x 1)) (.slice (some ⟨B1, 0, none⟩) 2 2) (.int .i64 (A 1 + x 1)) (.pointer (some ⟨p, o, none⟩)) (.pointer (some ⟨s + 1, 2, none⟩)) (.agg #[.int .i64 (A 2), .int .i64 (A 3), .int .i64 (A 4)]) (.pointer (some ⟨q, 2, none⟩)) (.agg #[.int .i64 (x 2), .int .i64 (x 3), .int .i64 (x 4)]) (.slice (some ⟨B31, 0, none⟩) 2 2) (.agg #[.int .i64 (A 2 + x 2), .int .i64 (A 3 + x 3), .int .i64 (A 4 + x 4)]) (.pointer (some ⟨p, o, none⟩)) (.pointer (some ⟨s + 1, 5, none⟩)) (.agg #[.int .i64 (A 5), .int .i64 (A 6), .int .i64 (A 7)]) (.pointer (some ⟨q, 5, none⟩)) (.agg #[.int .i64 (x 5), .int .i64 (x 6), .int .i64 (x 7)]) (.slice (some ⟨B26, 0, none⟩) 2 2) u36 u37 u38) (by kernel_rfl) ?_
              refine wpAnyH_all (rs := [22]) (by kernel_rfl) (by simp) ?_
              intro i hi
              obtain rfl : i = 22 := by simpa using hi
              refine wpOp_call (by kernel_rfl) (by kernel_rfl) (by kernel_rfl) (vadd_any p o B26 2 (A 5) (A 6) (A 7) (x 5) (x 6) (x 7) h _ (hs.F.fl f) fR.lt nR (fR.cell 0) (fR.cell 1) (fR.cell 2) (fR.cell 3) (fR.cell 4) (fR.cell 5) (BA 5 (by omega) (by omega)) (BX 5 (by omega) (by omega)) (BA 6 (by omega) (by omega)) (BX 6 (by omega) (by omega)) (BA 7 (by omega) (by omega)) (BX 7 (by omega) (by omega))) ?_
              intro W34 kf
              replace hs := hs.flag hpq kf
              clear fR nR
              clear kf
              refine ⟨hs, ?_⟩
              refine wpAnyH_as (b := actS p o s q gg oo n c k x (.pointer (some ⟨q, 0, none⟩)) (.int .i64 (x 0)) (.pointer (some ⟨p, o, none⟩)) (.pointer (some ⟨s + 1, 1, none⟩)) (.int .i64 (A 1)) (.pointer (some ⟨q, 1, none⟩)) (.int .i64 (x 1)) (.slice (some ⟨B1, 0, none⟩) 2 2) (.int .i64 (A 1 + x 1)) (.pointer (some ⟨p, o, none⟩)) (.pointer (some ⟨s + 1, 2, none⟩)) (.agg #[.int .i64 (A 2), .int .i64 (A 3), .int .i64 (A 4)]) (.pointer (some ⟨q, 2, none⟩)) (.agg #[.int .i64 (x 2), .int .i64 (x 3), .int .i64 (x 4)]) (.slice (some ⟨B31, 0, none⟩) 2 2) (.agg #[.int .i64 (A 2 + x 2), .int .i64 (A 3 + x 3), .int .i64 (A 4 + x 4)]) (.pointer (some ⟨p, o, none⟩)) (.pointer (some ⟨s + 1, 5, none⟩)) (.agg #[.int .i64 (A 5), .int .i64 (A 6), .int .i64 (A 7)]) (.pointer (some ⟨q, 5, none⟩)) (.agg #[.int .i64 (x 5), .int .i64 (x 6), .int .i64 (x 7)]) (.slice (some ⟨B26, 0, none⟩) 2 2) (.agg #[.int .i64 (A 5 + x 5), .int .i64 (A 6 + x 6), .int .i64 (A 7 + x 7)]) u37 u38) (by kernel_rfl) ?_
              refine wpAnyH_take (i := 23) rfl (by kernel_rfl) (by kernel_rfl) (by kernel_rfl) (fun _ _ _ h => nomatch h.1) (yields_pure (v := .agg (rowA 8 (addI A x))) (by kernel_rfl) (fun _ => by kernel_rfl)) hs ?_
              refine wpAnyH_as (b := actS p o s q gg oo n c k x (.pointer (some ⟨q, 0, none⟩)) (.int .i64 (x 0)) (.pointer (some ⟨p, o, none⟩)) (.pointer (some ⟨s + 1, 1, none⟩)) (.int .i64 (A 1)) (.pointer (some ⟨q, 1, none⟩)) (.int .i64 (x 1)) (.slice (some ⟨B1, 0, none⟩) 2 2) (.int .i64 (A 1 + x 1)) (.pointer (some ⟨p, o, none⟩)) (.pointer (some ⟨s + 1, 2, none⟩)) (.agg #[.int .i64 (A 2), .int .i64 (A 3), .int .i64 (A 4)]) (.pointer (some ⟨q, 2, none⟩)) (.agg #[.int .i64 (x 2), .int .i64 (x 3), .int .i64 (x 4)]) (.slice (some ⟨B31, 0, none⟩) 2 2) (.agg #[.int .i64 (A 2 + x 2), .int .i64 (A 3 + x 3), .int .i64 (A 4 + x 4)]) (.pointer (some ⟨p, o, none⟩)) (.pointer (some ⟨s + 1, 5, none⟩)) (.agg #[.int .i64 (A 5), .int .i64 (A 6), .int .i64 (A 7)]) (.pointer (some ⟨q, 5, none⟩)) (.agg #[.int .i64 (x 5), .int .i64 (x 6), .int .i64 (x 7)]) (.slice (some ⟨B26, 0, none⟩) 2 2) (.agg #[.int .i64 (A 5 + x 5), .int .i64 (A 6 + x 6), .int .i64 (A 7 + x 7)]) (.agg (rowA 8 (addI A x))) u38) (by kernel_rfl) ?_
              refine wpAnyH_done (by kernel_rfl) ?_ _
              exact ⟨rfl, .slice (some ⟨B1, 0, none⟩) 2 2, .slice (some ⟨B31, 0, none⟩) 2 2, .slice (some ⟨B26, 0, none⟩) 2 2, by kernel_rfl, hs⟩
        · refine wpOp_value (by kernel_rfl) (by kernel_rfl) (w' := World.alloc W0 (.cells #[.int .i64 (A 2), .int .i64 (A 3), .int .i64 (A 4), .int .i64 (x 2), .int .i64 (x 3), .int .i64 (x 4)] 88)) (v := .slice (some ⟨W0.heap.size, 0, none⟩) 2 2) (by kernel_rfl) ?_
          have fQ : Blk (World.alloc W0 (.cells #[.int .i64 (A 2), .int .i64 (A 3), .int .i64 (A 4), .int .i64 (x 2), .int .i64 (x 3), .int .i64 (x 4)] 88)) W0.heap.size #[.int .i64 (A 2), .int .i64 (A 3), .int .i64 (A 4), .int .i64 (x 2), .int .i64 (x 3), .int .i64 (x 4)] 88 := Blk.made _ _ _ rfl
          have nQ : W0.heap.size ≠ p := by have := hs.F.size; omega
          replace hs := hs.alloc (.cells #[.int .i64 (A 2), .int .i64 (A 3), .int .i64 (A 4), .int .i64 (x 2), .int .i64 (x 3), .int .i64 (x 4)] 88)
          generalize World.alloc W0 _ = W35 at *
          generalize W0.heap.size = B35 at *
          refine ⟨hs, ?_⟩
          refine wpAnyH_as (b := actS p o s q gg oo n c k x (.pointer (some ⟨q, 0, none⟩)) (.int .i64 (x 0)) (.pointer (some ⟨p, o, none⟩)) (.pointer (some ⟨s + 1, 1, none⟩)) (.int .i64 (A 1)) (.pointer (some ⟨q, 1, none⟩)) (.int .i64 (x 1)) u21 u22 (.pointer (some ⟨p, o, none⟩)) (.pointer (some ⟨s + 1, 2, none⟩)) (.agg #[.int .i64 (A 2), .int .i64 (A 3), .int .i64 (A 4)]) (.pointer (some ⟨q, 2, none⟩)) (.agg #[.int .i64 (x 2), .int .i64 (x 3), .int .i64 (x 4)]) (.slice (some ⟨B35, 0, none⟩) 2 2) u29 (.pointer (some ⟨p, o, none⟩)) (.pointer (some ⟨s + 1, 5, none⟩)) (.agg #[.int .i64 (A 5), .int .i64 (A 6), .int .i64 (A 7)]) (.pointer (some ⟨q, 5, none⟩)) (.agg #[.int .i64 (x 5), .int .i64 (x 6), .int .i64 (x 7)]) u35 u36 u37 u38) (by kernel_rfl) ?_
          refine wpAnyH_all (rs := [7, 21]) (by kernel_rfl) (by simp) ?_
          intro i hi
          simp only [List.mem_cons, List.not_mem_nil, or_false] at hi
          rcases hi with rfl | rfl
          · refine wpOp_value (by kernel_rfl) (by kernel_rfl) (w' := World.alloc W35 (.cells #[.int .i64 (A 1), .int .i64 (x 1)] 2)) (v := .slice (some ⟨W35.heap.size, 0, none⟩) 2 2) (by kernel_rfl) ?_
            have fP : Blk (World.alloc W35 (.cells #[.int .i64 (A 1), .int .i64 (x 1)] 2)) W35.heap.size #[.int .i64 (A 1), .int .i64 (x 1)] 2 := Blk.made _ _ _ rfl
            have nP : W35.heap.size ≠ p := by have := hs.F.size; omega
            replace fQ := fQ.alloc (.cells #[.int .i64 (A 1), .int .i64 (x 1)] 2)
            replace hs := hs.alloc (.cells #[.int .i64 (A 1), .int .i64 (x 1)] 2)
            generalize World.alloc W35 _ = W36 at *
            generalize W35.heap.size = B36 at *
            refine ⟨hs, ?_⟩
            refine wpAnyH_as (b := actS p o s q gg oo n c k x (.pointer (some ⟨q, 0, none⟩)) (.int .i64 (x 0)) (.pointer (some ⟨p, o, none⟩)) (.pointer (some ⟨s + 1, 1, none⟩)) (.int .i64 (A 1)) (.pointer (some ⟨q, 1, none⟩)) (.int .i64 (x 1)) (.slice (some ⟨B36, 0, none⟩) 2 2) u22 (.pointer (some ⟨p, o, none⟩)) (.pointer (some ⟨s + 1, 2, none⟩)) (.agg #[.int .i64 (A 2), .int .i64 (A 3), .int .i64 (A 4)]) (.pointer (some ⟨q, 2, none⟩)) (.agg #[.int .i64 (x 2), .int .i64 (x 3), .int .i64 (x 4)]) (.slice (some ⟨B35, 0, none⟩) 2 2) u29 (.pointer (some ⟨p, o, none⟩)) (.pointer (some ⟨s + 1, 5, none⟩)) (.agg #[.int .i64 (A 5), .int .i64 (A 6), .int .i64 (A 7)]) (.pointer (some ⟨q, 5, none⟩)) (.agg #[.int .i64 (x 5), .int .i64 (x 6), .int .i64 (x 7)]) u35 u36 u37 u38) (by kernel_rfl) ?_
            refine wpAnyH_all (rs := [8, 21]) (by kernel_rfl) (by simp) ?_
            intro i hi
            simp only [List.mem_cons, List.not_mem_nil, or_false] at hi
            rcases hi with rfl | rfl
            · refine wpOp_call (by kernel_rfl) (by kernel_rfl) (by kernel_rfl) (add2_fx p o B36 2 (A 1) (x 1) h _ (hs.F.fl f) fP.lt nP (fP.cell 0) (fP.cell 1) (BA 1 (by omega) (by omega)) (BX 1 (by omega) (by omega))) ?_
              intro W37 kf
              replace hs := hs.flag hpq kf
              clear fP nP
              replace fQ := fQ.flag nQ kf
              clear kf
              refine ⟨hs, ?_⟩
              refine wpAnyH_as (b := actS p o s q gg oo n c k x (.pointer (some ⟨q, 0, none⟩)) (.int .i64 (x 0)) (.pointer (some ⟨p, o, none⟩)) (.pointer (some ⟨s + 1, 1, none⟩)) (.int .i64 (A 1)) (.pointer (some ⟨q, 1, none⟩)) (.int .i64 (x 1)) (.slice (some ⟨B36, 0, none⟩) 2 2) (.int .i64 (A 1 + x 1)) (.pointer (some ⟨p, o, none⟩)) (.pointer (some ⟨s + 1, 2, none⟩)) (.agg #[.int .i64 (A 2), .int .i64 (A 3), .int .i64 (A 4)]) (.pointer (some ⟨q, 2, none⟩)) (.agg #[.int .i64 (x 2), .int .i64 (x 3), .int .i64 (x 4)]) (.slice (some ⟨B35, 0, none⟩) 2 2) u29 (.pointer (some ⟨p, o, none⟩)) (.pointer (some ⟨s + 1, 5, none⟩)) (.agg #[.int .i64 (A 5), .int .i64 (A 6), .int .i64 (A 7)]) (.pointer (some ⟨q, 5, none⟩)) (.agg #[.int .i64 (x 5), .int .i64 (x 6), .int .i64 (x 7)]) u35 u36 u37 u38) (by kernel_rfl) ?_
              refine wpAnyH_all (rs := [15, 21]) (by kernel_rfl) (by simp) ?_
              intro i hi
              simp only [List.mem_cons, List.not_mem_nil, or_false] at hi
              rcases hi with rfl | rfl
              · refine wpOp_call (by kernel_rfl) (by kernel_rfl) (by kernel_rfl) (vadd_any p o B35 2 (A 2) (A 3) (A 4) (x 2) (x 3) (x 4) h _ (hs.F.fl f) fQ.lt nQ (fQ.cell 0) (fQ.cell 1) (fQ.cell 2) (fQ.cell 3) (fQ.cell 4) (fQ.cell 5) (BA 2 (by omega) (by omega)) (BX 2 (by omega) (by omega)) (BA 3 (by omega) (by omega)) (BX 3 (by omega) (by omega)) (BA 4 (by omega) (by omega)) (BX 4 (by omega) (by omega))) ?_
                intro W38 kf
                replace hs := hs.flag hpq kf
                clear fQ nQ
                clear kf
                refine ⟨hs, ?_⟩
                refine wpAnyH_as (b := actS p o s q gg oo n c k x (.pointer (some ⟨q, 0, none⟩)) (.int .i64 (x 0)) (.pointer (some ⟨p, o, none⟩)) (.pointer (some ⟨s + 1, 1, none⟩)) (.int .i64 (A 1)) (.pointer (some ⟨q, 1, none⟩)) (.int .i64 (x 1)) (.slice (some ⟨B36, 0, none⟩) 2 2) (.int .i64 (A 1 + x 1)) (.pointer (some ⟨p, o, none⟩)) (.pointer (some ⟨s + 1, 2, none⟩)) (.agg #[.int .i64 (A 2), .int .i64 (A 3), .int .i64 (A 4)]) (.pointer (some ⟨q, 2, none⟩)) (.agg #[.int .i64 (x 2), .int .i64 (x 3), .int .i64 (x 4)]) (.slice (some ⟨B35, 0, none⟩) 2 2) (.agg #[.int .i64 (A 2 + x 2), .int .i64 (A 3 + x 3), .int .i64 (A 4 + x 4)]) (.pointer (some ⟨p, o, none⟩)) (.pointer (some ⟨s + 1, 5, none⟩)) (.agg #[.int .i64 (A 5), .int .i64 (A 6), .int .i64 (A 7)]) (.pointer (some ⟨q, 5, none⟩)) (.agg #[.int .i64 (x 5), .int .i64 (x 6), .int .i64 (x 7)]) u35 u36 u37 u38) (by kernel_rfl) ?_
                refine wpAnyH_all (rs := [21]) (by kernel_rfl) (by simp) ?_
                intro i hi
                obtain rfl : i = 21 := by simpa using hi
                refine wpOp_value (by kernel_rfl) (by kernel_rfl) (w' := World.alloc W38 (.cells #[.int .i64 (A 5), .int .i64 (A 6), .int .i64 (A 7), .int .i64 (x 5), .int .i64 (x 6), .int .i64 (x 7)] 88)) (v := .slice (some ⟨W38.heap.size, 0, none⟩) 2 2) (by kernel_rfl) ?_
                have fR : Blk (World.alloc W38 (.cells #[.int .i64 (A 5), .int .i64 (A 6), .int .i64 (A 7), .int .i64 (x 5), .int .i64 (x 6), .int .i64 (x 7)] 88)) W38.heap.size #[.int .i64 (A 5), .int .i64 (A 6), .int .i64 (A 7), .int .i64 (x 5), .int .i64 (x 6), .int .i64 (x 7)] 88 := Blk.made _ _ _ rfl
                have nR : W38.heap.size ≠ p := by have := hs.F.size; omega
                replace hs := hs.alloc (.cells #[.int .i64 (A 5), .int .i64 (A 6), .int .i64 (A 7), .int .i64 (x 5), .int .i64 (x 6), .int .i64 (x 7)] 88)
                generalize World.alloc W38 _ = W39 at *
                generalize W38.heap.size = B39 at *
                refine ⟨hs, ?_⟩
                refine wpAnyH_as (b := actS p o s q gg oo n c k x (.pointer (some ⟨q, 0, none⟩)) (.int .i64 (x 0)) (.pointer (some ⟨p, o, none⟩)) (.pointer (some ⟨s + 1, 1, none⟩)) (.int .i64 (A 1)) (.pointer (some ⟨q, 1, none⟩)) (.int .i64 (x 1)) (.slice (some ⟨B36, 0, none⟩) 2 2) (.int .i64 (A 1 + x 1)) (.pointer (some ⟨p, o, none⟩)) (.pointer (some ⟨s + 1, 2, none⟩)) (.agg #[.int .i64 (A 2), .int .i64 (A 3), .int .i64 (A 4)]) (.pointer (some ⟨q, 2, none⟩)) (.agg #[.int .i64 (x 2), .int .i64 (x 3), .int .i64 (x 4)]) (.slice (some ⟨B35, 0, none⟩) 2 2) (.agg #[.int .i64 (A 2 + x 2), .int .i64 (A 3 + x 3), .int .i64 (A 4 + x 4)]) (.pointer (some ⟨p, o, none⟩)) (.pointer (some ⟨s + 1, 5, none⟩)) (.agg #[.int .i64 (A 5), .int .i64 (A 6), .int .i64 (A 7)]) (.pointer (some ⟨q, 5, none⟩)) (.agg #[.int .i64 (x 5), .int .i64 (x 6), .int .i64 (x 7)]) (.slice (some ⟨B39, 0, none⟩) 2 2) u36 u37 u38) (by kernel_rfl) ?_
                refine wpAnyH_all (rs := [22]) (by kernel_rfl) (by simp) ?_
                intro i hi
                obtain rfl : i = 22 := by simpa using hi
                refine wpOp_call (by kernel_rfl) (by kernel_rfl) (by kernel_rfl) (vadd_any p o B39 2 (A 5) (A 6) (A 7) (x 5) (x 6) (x 7) h _ (hs.F.fl f) fR.lt nR (fR.cell 0) (fR.cell 1) (fR.cell 2) (fR.cell 3) (fR.cell 4) (fR.cell 5) (BA 5 (by omega) (by omega)) (BX 5 (by omega) (by omega)) (BA 6 (by omega) (by omega)) (BX 6 (by omega) (by omega)) (BA 7 (by omega) (by omega)) (BX 7 (by omega) (by omega))) ?_
                intro W40 kf
                replace hs := hs.flag hpq kf
                clear fR nR
                clear kf
                refine ⟨hs, ?_⟩
                refine wpAnyH_as (b := actS p o s q gg oo n c k x (.pointer (some ⟨q, 0, none⟩)) (.int .i64 (x 0)) (.pointer (some ⟨p, o, none⟩)) (.pointer (some ⟨s + 1, 1, none⟩)) (.int .i64 (A 1)) (.pointer (some ⟨q, 1, none⟩)) (.int .i64 (x 1)) (.slice (some ⟨B36, 0, none⟩) 2 2) (.int .i64 (A 1 + x 1)) (.pointer (some ⟨p, o, none⟩)) (.pointer (some ⟨s + 1, 2, none⟩)) (.agg #[.int .i64 (A 2), .int .i64 (A 3), .int .i64 (A 4)]) (.pointer (some ⟨q, 2, none⟩)) (.agg #[.int .i64 (x 2), .int .i64 (x 3), .int .i64 (x 4)]) (.slice (some ⟨B35, 0, none⟩) 2 2) (.agg #[.int .i64 (A 2 + x 2), .int .i64 (A 3 + x 3), .int .i64 (A 4 + x 4)]) (.pointer (some ⟨p, o, none⟩)) (.pointer (some ⟨s + 1, 5, none⟩)) (.agg #[.int .i64 (A 5), .int .i64 (A 6), .int .i64 (A 7)]) (.pointer (some ⟨q, 5, none⟩)) (.agg #[.int .i64 (x 5), .int .i64 (x 6), .int .i64 (x 7)]) (.slice (some ⟨B39, 0, none⟩) 2 2) (.agg #[.int .i64 (A 5 + x 5), .int .i64 (A 6 + x 6), .int .i64 (A 7 + x 7)]) u37 u38) (by kernel_rfl) ?_
                refine wpAnyH_take (i := 23) rfl (by kernel_rfl) (by kernel_rfl) (by kernel_rfl) (fun _ _ _ h => nomatch h.1) (yields_pure (v := .agg (rowA 8 (addI A x))) (by kernel_rfl) (fun _ => by kernel_rfl)) hs ?_
                refine wpAnyH_as (b := actS p o s q gg oo n c k x (.pointer (some ⟨q, 0, none⟩)) (.int .i64 (x 0)) (.pointer (some ⟨p, o, none⟩)) (.pointer (some ⟨s + 1, 1, none⟩)) (.int .i64 (A 1)) (.pointer (some ⟨q, 1, none⟩)) (.int .i64 (x 1)) (.slice (some ⟨B36, 0, none⟩) 2 2) (.int .i64 (A 1 + x 1)) (.pointer (some ⟨p, o, none⟩)) (.pointer (some ⟨s + 1, 2, none⟩)) (.agg #[.int .i64 (A 2), .int .i64 (A 3), .int .i64 (A 4)]) (.pointer (some ⟨q, 2, none⟩)) (.agg #[.int .i64 (x 2), .int .i64 (x 3), .int .i64 (x 4)]) (.slice (some ⟨B35, 0, none⟩) 2 2) (.agg #[.int .i64 (A 2 + x 2), .int .i64 (A 3 + x 3), .int .i64 (A 4 + x 4)]) (.pointer (some ⟨p, o, none⟩)) (.pointer (some ⟨s + 1, 5, none⟩)) (.agg #[.int .i64 (A 5), .int .i64 (A 6), .int .i64 (A 7)]) (.pointer (some ⟨q, 5, none⟩)) (.agg #[.int .i64 (x 5), .int .i64 (x 6), .int .i64 (x 7)]) (.slice (some ⟨B39, 0, none⟩) 2 2) (.agg #[.int .i64 (A 5 + x 5), .int .i64 (A 6 + x 6), .int .i64 (A 7 + x 7)]) (.agg (rowA 8 (addI A x))) u38) (by kernel_rfl) ?_
                refine wpAnyH_done (by kernel_rfl) ?_ _
                exact ⟨rfl, .slice (some ⟨B36, 0, none⟩) 2 2, .slice (some ⟨B35, 0, none⟩) 2 2, .slice (some ⟨B39, 0, none⟩) 2 2, by kernel_rfl, hs⟩
              · refine wpOp_value (by kernel_rfl) (by kernel_rfl) (w' := World.alloc W37 (.cells #[.int .i64 (A 5), .int .i64 (A 6), .int .i64 (A 7), .int .i64 (x 5), .int .i64 (x 6), .int .i64 (x 7)] 88)) (v := .slice (some ⟨W37.heap.size, 0, none⟩) 2 2) (by kernel_rfl) ?_
                have fR : Blk (World.alloc W37 (.cells #[.int .i64 (A 5), .int .i64 (A 6), .int .i64 (A 7), .int .i64 (x 5), .int .i64 (x 6), .int .i64 (x 7)] 88)) W37.heap.size #[.int .i64 (A 5), .int .i64 (A 6), .int .i64 (A 7), .int .i64 (x 5), .int .i64 (x 6), .int .i64 (x 7)] 88 := Blk.made _ _ _ rfl
                have nR : W37.heap.size ≠ p := by have := hs.F.size; omega
                replace fQ := fQ.alloc (.cells #[.int .i64 (A 5), .int .i64 (A 6), .int .i64 (A 7), .int .i64 (x 5), .int .i64 (x 6), .int .i64 (x 7)] 88)
                replace hs := hs.alloc (.cells #[.int .i64 (A 5), .int .i64 (A 6), .int .i64 (A 7), .int .i64 (x 5), .int .i64 (x 6), .int .i64 (x 7)] 88)
                generalize World.alloc W37 _ = W41 at *
                generalize W37.heap.size = B41 at *
                refine ⟨hs, ?_⟩
                refine wpAnyH_as (b := actS p o s q gg oo n c k x (.pointer (some ⟨q, 0, none⟩)) (.int .i64 (x 0)) (.pointer (some ⟨p, o, none⟩)) (.pointer (some ⟨s + 1, 1, none⟩)) (.int .i64 (A 1)) (.pointer (some ⟨q, 1, none⟩)) (.int .i64 (x 1)) (.slice (some ⟨B36, 0, none⟩) 2 2) (.int .i64 (A 1 + x 1)) (.pointer (some ⟨p, o, none⟩)) (.pointer (some ⟨s + 1, 2, none⟩)) (.agg #[.int .i64 (A 2), .int .i64 (A 3), .int .i64 (A 4)]) (.pointer (some ⟨q, 2, none⟩)) (.agg #[.int .i64 (x 2), .int .i64 (x 3), .int .i64 (x 4)]) (.slice (some ⟨B35, 0, none⟩) 2 2) u29 (.pointer (some ⟨p, o, none⟩)) (.pointer (some ⟨s + 1, 5, none⟩)) (.agg #[.int .i64 (A 5), .int .i64 (A 6), .int .i64 (A 7)]) (.pointer (some ⟨q, 5, none⟩)) (.agg #[.int .i64 (x 5), .int .i64 (x 6), .int .i64 (x 7)]) (.slice (some ⟨B41, 0, none⟩) 2 2) u36 u37 u38) (by kernel_rfl) ?_
                refine wpAnyH_all (rs := [15]) (by kernel_rfl) (by simp) ?_
                intro i hi
                obtain rfl : i = 15 := by simpa using hi
                refine wpOp_call (by kernel_rfl) (by kernel_rfl) (by kernel_rfl) (vadd_any p o B35 2 (A 2) (A 3) (A 4) (x 2) (x 3) (x 4) h _ (hs.F.fl f) fQ.lt nQ (fQ.cell 0) (fQ.cell 1) (fQ.cell 2) (fQ.cell 3) (fQ.cell 4) (fQ.cell 5) (BA 2 (by omega) (by omega)) (BX 2 (by omega) (by omega)) (BA 3 (by omega) (by omega)) (BX 3 (by omega) (by omega)) (BA 4 (by omega) (by omega)) (BX 4 (by omega) (by omega))) ?_
                intro W42 kf
                replace hs := hs.flag hpq kf
                clear fQ nQ
                replace fR := fR.flag nR kf
                clear kf
                refine ⟨hs, ?_⟩
                refine wpAnyH_as (b := actS p o s q gg oo n c k x (.pointer (some ⟨q, 0, none⟩)) (.int .i64 (x 0)) (.pointer (some ⟨p, o, none⟩)) (.pointer (some ⟨s + 1, 1, none⟩)) (.int .i64 (A 1)) (.pointer (some ⟨q, 1, none⟩)) (.int .i64 (x 1)) (.slice (some ⟨B36, 0, none⟩) 2 2) (.int .i64 (A 1 + x 1)) (.pointer (some ⟨p, o, none⟩)) (.pointer (some ⟨s + 1, 2, none⟩)) (.agg #[.int .i64 (A 2), .int .i64 (A 3), .int .i64 (A 4)]) (.pointer (some ⟨q, 2, none⟩)) (.agg #[.int .i64 (x 2), .int .i64 (x 3), .int .i64 (x 4)]) (.slice (some ⟨B35, 0, none⟩) 2 2) (.agg #[.int .i64 (A 2 + x 2), .int .i64 (A 3 + x 3), .int .i64 (A 4 + x 4)]) (.pointer (some ⟨p, o, none⟩)) (.pointer (some ⟨s + 1, 5, none⟩)) (.agg #[.int .i64 (A 5), .int .i64 (A 6), .int .i64 (A 7)]) (.pointer (some ⟨q, 5, none⟩)) (.agg #[.int .i64 (x 5), .int .i64 (x 6), .int .i64 (x 7)]) (.slice (some ⟨B41, 0, none⟩) 2 2) u36 u37 u38) (by kernel_rfl) ?_
                refine wpAnyH_all (rs := [22]) (by kernel_rfl) (by simp) ?_
                intro i hi
                obtain rfl : i = 22 := by simpa using hi
                refine wpOp_call (by kernel_rfl) (by kernel_rfl) (by kernel_rfl) (vadd_any p o B41 2 (A 5) (A 6) (A 7) (x 5) (x 6) (x 7) h _ (hs.F.fl f) fR.lt nR (fR.cell 0) (fR.cell 1) (fR.cell 2) (fR.cell 3) (fR.cell 4) (fR.cell 5) (BA 5 (by omega) (by omega)) (BX 5 (by omega) (by omega)) (BA 6 (by omega) (by omega)) (BX 6 (by omega) (by omega)) (BA 7 (by omega) (by omega)) (BX 7 (by omega) (by omega))) ?_
                intro W43 kf
                replace hs := hs.flag hpq kf
                clear fR nR
                clear kf
                refine ⟨hs, ?_⟩
                refine wpAnyH_as (b := actS p o s q gg oo n c k x (.pointer (some ⟨q, 0, none⟩)) (.int .i64 (x 0)) (.pointer (some ⟨p, o, none⟩)) (.pointer (some ⟨s + 1, 1, none⟩)) (.int .i64 (A 1)) (.pointer (some ⟨q, 1, none⟩)) (.int .i64 (x 1)) (.slice (some ⟨B36, 0, none⟩) 2 2) (.int .i64 (A 1 + x 1)) (.pointer (some ⟨p, o, none⟩)) (.pointer (some ⟨s + 1, 2, none⟩)) (.agg #[.int .i64 (A 2), .int .i64 (A 3), .int .i64 (A 4)]) (.pointer (some ⟨q, 2, none⟩)) (.agg #[.int .i64 (x 2), .int .i64 (x 3), .int .i64 (x 4)]) (.slice (some ⟨B35, 0, none⟩) 2 2) (.agg #[.int .i64 (A 2 + x 2), .int .i64 (A 3 + x 3), .int .i64 (A 4 + x 4)]) (.pointer (some ⟨p, o, none⟩)) (.pointer (some ⟨s + 1, 5, none⟩)) (.agg #[.int .i64 (A 5), .int .i64 (A 6), .int .i64 (A 7)]) (.pointer (some ⟨q, 5, none⟩)) (.agg #[.int .i64 (x 5), .int .i64 (x 6), .int .i64 (x 7)]) (.slice (some ⟨B41, 0, none⟩) 2 2) (.agg #[.int .i64 (A 5 + x 5), .int .i64 (A 6 + x 6), .int .i64 (A 7 + x 7)]) u37 u38) (by kernel_rfl) ?_
                refine wpAnyH_take (i := 23) rfl (by kernel_rfl) (by kernel_rfl) (by kernel_rfl) (fun _ _ _ h => nomatch h.1) (yields_pure (v := .agg (rowA 8 (addI A x))) (by kernel_rfl) (fun _ => by kernel_rfl)) hs ?_
                refine wpAnyH_as (b := actS p o s q gg oo n c k x (.pointer (some ⟨q, 0, none⟩)) (.int .i64 (x 0)) (.pointer (some ⟨p, o, none⟩)) (.pointer (some ⟨s + 1, 1, none⟩)) (.int .i64 (A 1)) (.pointer (some ⟨q, 1, none⟩)) (.int .i64 (x 1)) (.slice (some ⟨B36, 0, none⟩) 2 2) (.int .i64 (A 1 + x 1)) (.pointer (some ⟨p, o, none⟩)) (.pointer (some ⟨s + 1, 2, none⟩)) (.agg #[.int .i64 (A 2), .int .i64 (A 3), .int .i64 (A 4)]) (.pointer (some ⟨q, 2, none⟩)) (.agg #[.int .i64 (x 2), .int .i64 (x 3), .int .i64 (x 4)]) (.slice (some ⟨B35, 0, none⟩) 2 2) (.agg #[.int .i64 (A 2 + x 2), .int .i64 (A 3 + x 3), .int .i64 (A 4 + x 4)]) (.pointer (some ⟨p, o, none⟩)) (.pointer (some ⟨s + 1, 5, none⟩)) (.agg #[.int .i64 (A 5), .int .i64 (A 6), .int .i64 (A 7)]) (.pointer (some ⟨q, 5, none⟩)) (.agg #[.int .i64 (x 5), .int .i64 (x 6), .int .i64 (x 7)]) (.slice (some ⟨B41, 0, none⟩) 2 2) (.agg #[.int .i64 (A 5 + x 5), .int .i64 (A 6 + x 6), .int .i64 (A 7 + x 7)]) (.agg (rowA 8 (addI A x))) u38) (by kernel_rfl) ?_
                refine wpAnyH_done (by kernel_rfl) ?_ _
                exact ⟨rfl, .slice (some ⟨B36, 0, none⟩) 2 2, .slice (some ⟨B35, 0, none⟩) 2 2, .slice (some ⟨B41, 0, none⟩) 2 2, by kernel_rfl, hs⟩
            · refine wpOp_value (by kernel_rfl) (by kernel_rfl) (w' := World.alloc W36 (.cells #[.int .i64 (A 5), .int .i64 (A 6), .int .i64 (A 7), .int .i64 (x 5), .int .i64 (x 6), .int .i64 (x 7)] 88)) (v := .slice (some ⟨W36.heap.size, 0, none⟩) 2 2) (by kernel_rfl) ?_
              have fR : Blk (World.alloc W36 (.cells #[.int .i64 (A 5), .int .i64 (A 6), .int .i64 (A 7), .int .i64 (x 5), .int .i64 (x 6), .int .i64 (x 7)] 88)) W36.heap.size #[.int .i64 (A 5), .int .i64 (A 6), .int .i64 (A 7), .int .i64 (x 5), .int .i64 (x 6), .int .i64 (x 7)] 88 := Blk.made _ _ _ rfl
              have nR : W36.heap.size ≠ p := by have := hs.F.size; omega
              replace fQ := fQ.alloc (.cells #[.int .i64 (A 5), .int .i64 (A 6), .int .i64 (A 7), .int .i64 (x 5), .int .i64 (x 6), .int .i64 (x 7)] 88)
              replace fP := fP.alloc (.cells #[.int .i64 (A 5), .int .i64 (A 6), .int .i64 (A 7), .int .i64 (x 5), .int .i64 (x 6), .int .i64 (x 7)] 88)
              replace hs := hs.alloc (.cells #[.int .i64 (A 5), .int .i64 (A 6), .int .i64 (A 7), .int .i64 (x 5), .int .i64 (x 6), .int .i64 (x 7)] 88)
              generalize World.alloc W36 _ = W44 at *
              generalize W36.heap.size = B44 at *
              refine ⟨hs, ?_⟩
              refine wpAnyH_as (b := actS p o s q gg oo n c k x (.pointer (some ⟨q, 0, none⟩)) (.int .i64 (x 0)) (.pointer (some ⟨p, o, none⟩)) (.pointer (some ⟨s + 1, 1, none⟩)) (.int .i64 (A 1)) (.pointer (some ⟨q, 1, none⟩)) (.int .i64 (x 1)) (.slice (some ⟨B36, 0, none⟩) 2 2) u22 (.pointer (some ⟨p, o, none⟩)) (.pointer (some ⟨s + 1, 2, none⟩)) (.agg #[.int .i64 (A 2), .int .i64 (A 3), .int .i64 (A 4)]) (.pointer (some ⟨q, 2, none⟩)) (.agg #[.int .i64 (x 2), .int .i64 (x 3), .int .i64 (x 4)]) (.slice (some ⟨B35, 0, none⟩) 2 2) u29 (.pointer (some ⟨p, o, none⟩)) (.pointer (some ⟨s + 1, 5, none⟩)) (.agg #[.int .i64 (A 5), .int .i64 (A 6), .int .i64 (A 7)]) (.pointer (some ⟨q, 5, none⟩)) (.agg #[.int .i64 (x 5), .int .i64 (x 6), .int .i64 (x 7)]) (.slice (some ⟨B44, 0, none⟩) 2 2) u36 u37 u38) (by kernel_rfl) ?_
              refine wpAnyH_all (rs := [8]) (by kernel_rfl) (by simp) ?_
              intro i hi
              obtain rfl : i = 8 := by simpa using hi
              refine wpOp_call (by kernel_rfl) (by kernel_rfl) (by kernel_rfl) (add2_fx p o B36 2 (A 1) (x 1) h _ (hs.F.fl f) fP.lt nP (fP.cell 0) (fP.cell 1) (BA 1 (by omega) (by omega)) (BX 1 (by omega) (by omega))) ?_
              intro W45 kf
              replace hs := hs.flag hpq kf
              clear fP nP
              replace fQ := fQ.flag nQ kf
              replace fR := fR.flag nR kf
              clear kf
              refine ⟨hs, ?_⟩
              refine wpAnyH_as (b := actS p o s q gg oo n c k x (.pointer (some ⟨q, 0, none⟩)) (.int .i64 (x 0)) (.pointer (some ⟨p, o, none⟩)) (.pointer (some ⟨s + 1, 1, none⟩)) (.int .i64 (A 1)) (.pointer (some ⟨q, 1, none⟩)) (.int .i64 (x 1)) (.slice (some ⟨B36, 0, none⟩) 2 2) (.int .i64 (A 1 + x 1)) (.pointer (some ⟨p, o, none⟩)) (.pointer (some ⟨s + 1, 2, none⟩)) (.agg #[.int .i64 (A 2), .int .i64 (A 3), .int .i64 (A 4)]) (.pointer (some ⟨q, 2, none⟩)) (.agg #[.int .i64 (x 2), .int .i64 (x 3), .int .i64 (x 4)]) (.slice (some ⟨B35, 0, none⟩) 2 2) u29 (.pointer (some ⟨p, o, none⟩)) (.pointer (some ⟨s + 1, 5, none⟩)) (.agg #[.int .i64 (A 5), .int .i64 (A 6), .int .i64 (A 7)]) (.pointer (some ⟨q, 5, none⟩)) (.agg #[.int .i64 (x 5), .int .i64 (x 6), .int .i64 (x 7)]) (.slice (some ⟨B44, 0, none⟩) 2 2) u36 u37 u38) (by kernel_rfl) ?_
              refine wpAnyH_all (rs := [15]) (by kernel_rfl) (by simp) ?_
              intro i hi
              obtain rfl : i = 15 := by simpa using hi
              refine wpOp_call (by kernel_rfl) (by kernel_rfl) (by kernel_rfl) (vadd_any p o B35 2 (A 2) (A 3) (A 4) (x 2) (x 3) (x 4) h _ (hs.F.fl f) fQ.lt nQ (fQ.cell 0) (fQ.cell 1) (fQ.cell 2) (fQ.cell 3) (fQ.cell 4) (fQ.cell 5) (BA 2 (by omega) (by omega)) (BX 2 (by omega) (by omega)) (BA 3 (by omega) (by omega)) (BX 3 (by omega) (by omega)) (BA 4 (by omega) (by omega)) (BX 4 (by omega) (by omega))) ?_
              intro W46 kf
              replace hs := hs.flag hpq kf
              clear fQ nQ
              replace fR := fR.flag nR kf
              clear kf
              refine ⟨hs, ?_⟩
              refine wpAnyH_as (b := actS p o s q gg oo n c k x (.pointer (some ⟨q, 0, none⟩)) (.int .i64 (x 0)) (.pointer (some ⟨p, o, none⟩)) (.pointer (some ⟨s + 1, 1, none⟩)) (.int .i64 (A 1)) (.pointer (some ⟨q, 1, none⟩)) (.int .i64 (x 1)) (.slice (some ⟨B36, 0, none⟩) 2 2) (.int .i64 (A 1 + x 1)) (.pointer (some ⟨p, o, none⟩)) (.pointer (some ⟨s + 1, 2, none⟩)) (.agg #[.int .i64 (A 2), .int .i64 (A 3), .int .i64 (A 4)]) (.pointer (some ⟨q, 2, none⟩)) (.agg #[.int .i64 (x 2), .int .i64 (x 3), .int .i64 (x 4)]) (.slice (some ⟨B35, 0, none⟩) 2 2) (.agg #[.int .i64 (A 2 + x 2), .int .i64 (A 3 + x 3), .int .i64 (A 4 + x 4)]) (.pointer (some ⟨p, o, none⟩)) (.pointer (some ⟨s + 1, 5, none⟩)) (.agg #[.int .i64 (A 5), .int .i64 (A 6), .int .i64 (A 7)]) (.pointer (some ⟨q, 5, none⟩)) (.agg #[.int .i64 (x 5), .int .i64 (x 6), .int .i64 (x 7)]) (.slice (some ⟨B44, 0, none⟩) 2 2) u36 u37 u38) (by kernel_rfl) ?_
              refine wpAnyH_all (rs := [22]) (by kernel_rfl) (by simp) ?_
              intro i hi
              obtain rfl : i = 22 := by simpa using hi
              refine wpOp_call (by kernel_rfl) (by kernel_rfl) (by kernel_rfl) (vadd_any p o B44 2 (A 5) (A 6) (A 7) (x 5) (x 6) (x 7) h _ (hs.F.fl f) fR.lt nR (fR.cell 0) (fR.cell 1) (fR.cell 2) (fR.cell 3) (fR.cell 4) (fR.cell 5) (BA 5 (by omega) (by omega)) (BX 5 (by omega) (by omega)) (BA 6 (by omega) (by omega)) (BX 6 (by omega) (by omega)) (BA 7 (by omega) (by omega)) (BX 7 (by omega) (by omega))) ?_
              intro W47 kf
              replace hs := hs.flag hpq kf
              clear fR nR
              clear kf
              refine ⟨hs, ?_⟩
              refine wpAnyH_as (b := actS p o s q gg oo n c k x (.pointer (some ⟨q, 0, none⟩)) (.int .i64 (x 0)) (.pointer (some ⟨p, o, none⟩)) (.pointer (some ⟨s + 1, 1, none⟩)) (.int .i64 (A 1)) (.pointer (some ⟨q, 1, none⟩)) (.int .i64 (x 1)) (.slice (some ⟨B36, 0, none⟩) 2 2) (.int .i64 (A 1 + x 1)) (.pointer (some ⟨p, o, none⟩)) (.pointer (some ⟨s + 1, 2, none⟩)) (.agg #[.int .i64 (A 2), .int .i64 (A 3), .int .i64 (A 4)]) (.pointer (some ⟨q, 2, none⟩)) (.agg #[.int .i64 (x 2), .int .i64 (x 3), .int .i64 (x 4)]) (.slice (some ⟨B35, 0, none⟩) 2 2) (.agg #[.int .i64 (A 2 + x 2), .int .i64 (A 3 + x 3), .int .i64 (A 4 + x 4)]) (.pointer (some ⟨p, o, none⟩)) (.pointer (some ⟨s + 1, 5, none⟩)) (.agg #[.int .i64 (A 5), .int .i64 (A 6), .int .i64 (A 7)]) (.pointer (some ⟨q, 5, none⟩)) (.agg #[.int .i64 (x 5), .int .i64 (x 6), .int .i64 (x 7)]) (.slice (some ⟨B44, 0, none⟩) 2 2) (.agg #[.int .i64 (A 5 + x 5), .int .i64 (A 6 + x 6), .int .i64 (A 7 + x 7)]) u37 u38) (by kernel_rfl) ?_
              refine wpAnyH_take (i := 23) rfl (by kernel_rfl) (by kernel_rfl) (by kernel_rfl) (fun _ _ _ h => nomatch h.1) (yields_pure (v := .agg (rowA 8 (addI A x))) (by kernel_rfl) (fun _ => by kernel_rfl)) hs ?_
              refine wpAnyH_as (b := actS p o s q gg oo n c k x (.pointer (some ⟨q, 0, none⟩)) (.int .i64 (x 0)) (.pointer (some ⟨p, o, none⟩)) (.pointer (some ⟨s + 1, 1, none⟩)) (.int .i64 (A 1)) (.pointer (some ⟨q, 1, none⟩)) (.int .i64 (x 1)) (.slice (some ⟨B36, 0, none⟩) 2 2) (.int .i64 (A 1 + x 1)) (.pointer (some ⟨p, o, none⟩)) (.pointer (some ⟨s + 1, 2, none⟩)) (.agg #[.int .i64 (A 2), .int .i64 (A 3), .int .i64 (A 4)]) (.pointer (some ⟨q, 2, none⟩)) (.agg #[.int .i64 (x 2), .int .i64 (x 3), .int .i64 (x 4)]) (.slice (some ⟨B35, 0, none⟩) 2 2) (.agg #[.int .i64 (A 2 + x 2), .int .i64 (A 3 + x 3), .int .i64 (A 4 + x 4)]) (.pointer (some ⟨p, o, none⟩)) (.pointer (some ⟨s + 1, 5, none⟩)) (.agg #[.int .i64 (A 5), .int .i64 (A 6), .int .i64 (A 7)]) (.pointer (some ⟨q, 5, none⟩)) (.agg #[.int .i64 (x 5), .int .i64 (x 6), .int .i64 (x 7)]) (.slice (some ⟨B44, 0, none⟩) 2 2) (.agg #[.int .i64 (A 5 + x 5), .int .i64 (A 6 + x 6), .int .i64 (A 7 + x 7)]) (.agg (rowA 8 (addI A x))) u38) (by kernel_rfl) ?_
              refine wpAnyH_done (by kernel_rfl) ?_ _
              exact ⟨rfl, .slice (some ⟨B36, 0, none⟩) 2 2, .slice (some ⟨B35, 0, none⟩) 2 2, .slice (some ⟨B44, 0, none⟩) 2 2, by kernel_rfl, hs⟩
          · refine wpOp_value (by kernel_rfl) (by kernel_rfl) (w' := World.alloc W35 (.cells #[.int .i64 (A 5), .int .i64 (A 6), .int .i64 (A 7), .int .i64 (x 5), .int .i64 (x 6), .int .i64 (x 7)] 88)) (v := .slice (some ⟨W35.heap.size, 0, none⟩) 2 2) (by kernel_rfl) ?_
            have fR : Blk (World.alloc W35 (.cells #[.int .i64 (A 5), .int .i64 (A 6), .int .i64 (A 7), .int .i64 (x 5), .int .i64 (x 6), .int .i64 (x 7)] 88)) W35.heap.size #[.int .i64 (A 5), .int .i64 (A 6), .int .i64 (A 7), .int .i64 (x 5), .int .i64 (x 6), .int .i64 (x 7)] 88 := Blk.made _ _ _ rfl
            have nR : W35.heap.size ≠ p := by have := hs.F.size; omega
            replace fQ := fQ.alloc (.cells #[.int .i64 (A 5), .int .i64 (A 6), .int .i64 (A 7), .int .i64 (x 5), .int .i64 (x 6), .int .i64 (x 7)] 88)
            replace hs := hs.alloc (.cells #[.int .i64 (A 5), .int .i64 (A 6), .int .i64 (A 7), .int .i64 (x 5), .int .i64 (x 6), .int .i64 (x 7)] 88)
            generalize World.alloc W35 _ = W48 at *
            generalize W35.heap.size = B48 at *
            refine ⟨hs, ?_⟩
            refine wpAnyH_as (b := actS p o s q gg oo n c k x (.pointer (some ⟨q, 0, none⟩)) (.int .i64 (x 0)) (.pointer (some ⟨p, o, none⟩)) (.pointer (some ⟨s + 1, 1, none⟩)) (.int .i64 (A 1)) (.pointer (some ⟨q, 1, none⟩)) (.int .i64 (x 1)) u21 u22 (.pointer (some ⟨p, o, none⟩)) (.pointer (some ⟨s + 1, 2, none⟩)) (.agg #[.int .i64 (A 2), .int .i64 (A 3), .int .i64 (A 4)]) (.pointer (some ⟨q, 2, none⟩)) (.agg #[.int .i64 (x 2), .int .i64 (x 3), .int .i64 (x 4)]) (.slice (some ⟨B35, 0, none⟩) 2 2) u29 (.pointer (some ⟨p, o, none⟩)) (.pointer (some ⟨s + 1, 5, none⟩)) (.agg #[.int .i64 (A 5), .int .i64 (A 6), .int .i64 (A 7)]) (.pointer (some ⟨q, 5, none⟩)) (.agg #[.int .i64 (x 5), .int .i64 (x 6), .int .i64 (x 7)]) (.slice (some ⟨B48, 0, none⟩) 2 2) u36 u37 u38) (by kernel_rfl) ?_
            refine wpAnyH_all (rs := [7]) (by kernel_rfl) (by simp) ?_
            intro i hi
            obtain rfl : i = 7 := by simpa using hi
            refine wpOp_value (by kernel_rfl) (by kernel_rfl) (w' := World.alloc W48 (.cells #[.int .i64 (A 1), .int .i64 (x 1)] 2)) (v := .slice (some ⟨W48.heap.size, 0, none⟩) 2 2) (by kernel_rfl) ?_
            have fP : Blk (World.alloc W48 (.cells #[.int .i64 (A 1), .int .i64 (x 1)] 2)) W48.heap.size #[.int .i64 (A 1), .int .i64 (x 1)] 2 := Blk.made _ _ _ rfl
            have nP : W48.heap.size ≠ p := by have := hs.F.size; omega
            replace fQ := fQ.alloc (.cells #[.int .i64 (A 1), .int .i64 (x 1)] 2)
            replace fR := fR.alloc (.cells #[.int .i64 (A 1), .int .i64 (x 1)] 2)
            replace hs := hs.alloc (.cells #[.int .i64 (A 1), .int .i64 (x 1)] 2)
            generalize World.alloc W48 _ = W49 at *
            generalize W48.heap.size = B49 at *
            refine ⟨hs, ?_⟩
            refine wpAnyH_as (b := actS p o s q gg oo n c k x (.pointer (some ⟨q, 0, none⟩)) (.int .i64 (x 0)) (.pointer (some ⟨p, o, none⟩)) (.pointer (some ⟨s + 1, 1, none⟩)) (.int .i64 (A 1)) (.pointer (some ⟨q, 1, none⟩)) (.int .i64 (x 1)) (.slice (some ⟨B49, 0, none⟩) 2 2) u22 (.pointer (some ⟨p, o, none⟩)) (.pointer (some ⟨s + 1, 2, none⟩)) (.agg #[.int .i64 (A 2), .int .i64 (A 3), .int .i64 (A 4)]) (.pointer (some ⟨q, 2, none⟩)) (.agg #[.int .i64 (x 2), .int .i64 (x 3), .int .i64 (x 4)]) (.slice (some ⟨B35, 0, none⟩) 2 2) u29 (.pointer (some ⟨p, o, none⟩)) (.pointer (some ⟨s + 1, 5, none⟩)) (.agg #[.int .i64 (A 5), .int .i64 (A 6), .int .i64 (A 7)]) (.pointer (some ⟨q, 5, none⟩)) (.agg #[.int .i64 (x 5), .int .i64 (x 6), .int .i64 (x 7)]) (.slice (some ⟨B48, 0, none⟩) 2 2) u36 u37 u38) (by kernel_rfl) ?_
            refine wpAnyH_all (rs := [8]) (by kernel_rfl) (by simp) ?_
            intro i hi
            obtain rfl : i = 8 := by simpa using hi
            refine wpOp_call (by kernel_rfl) (by kernel_rfl) (by kernel_rfl) (add2_fx p o B49 2 (A 1) (x 1) h _ (hs.F.fl f) fP.lt nP (fP.cell 0) (fP.cell 1) (BA 1 (by omega) (by omega)) (BX 1 (by omega) (by omega))) ?_
            intro W50 kf
            replace hs := hs.flag hpq kf
            clear fP nP
            replace fQ := fQ.flag nQ kf
            replace fR := fR.flag nR kf
            clear kf
            refine ⟨hs, ?_⟩
            refine wpAnyH_as (b := actS p o s q gg oo n c k x (.pointer (some ⟨q, 0, none⟩)) (.int .i64 (x 0)) (.pointer (some ⟨p, o, none⟩)) (.pointer (some ⟨s + 1, 1, none⟩)) (.int .i64 (A 1)) (.pointer (some ⟨q, 1, none⟩)) (.int .i64 (x 1)) (.slice (some ⟨B49, 0, none⟩) 2 2) (.int .i64 (A 1 + x 1)) (.pointer (some ⟨p, o, none⟩)) (.pointer (some ⟨s + 1, 2, none⟩)) (.agg #[.int .i64 (A 2), .int .i64 (A 3), .int .i64 (A 4)]) (.pointer (some ⟨q, 2, none⟩)) (.agg #[.int .i64 (x 2), .int .i64 (x 3), .int .i64 (x 4)]) (.slice (some ⟨B35, 0, none⟩) 2 2) u29 (.pointer (some ⟨p, o, none⟩)) (.pointer (some ⟨s + 1, 5, none⟩)) (.agg #[.int .i64 (A 5), .int .i64 (A 6), .int .i64 (A 7)]) (.pointer (some ⟨q, 5, none⟩)) (.agg #[.int .i64 (x 5), .int .i64 (x 6), .int .i64 (x 7)]) (.slice (some ⟨B48, 0, none⟩) 2 2) u36 u37 u38) (by kernel_rfl) ?_
            refine wpAnyH_all (rs := [15]) (by kernel_rfl) (by simp) ?_
            intro i hi
            obtain rfl : i = 15 := by simpa using hi
            refine wpOp_call (by kernel_rfl) (by kernel_rfl) (by kernel_rfl) (vadd_any p o B35 2 (A 2) (A 3) (A 4) (x 2) (x 3) (x 4) h _ (hs.F.fl f) fQ.lt nQ (fQ.cell 0) (fQ.cell 1) (fQ.cell 2) (fQ.cell 3) (fQ.cell 4) (fQ.cell 5) (BA 2 (by omega) (by omega)) (BX 2 (by omega) (by omega)) (BA 3 (by omega) (by omega)) (BX 3 (by omega) (by omega)) (BA 4 (by omega) (by omega)) (BX 4 (by omega) (by omega))) ?_
            intro W51 kf
            replace hs := hs.flag hpq kf
            clear fQ nQ
            replace fR := fR.flag nR kf
            clear kf
            refine ⟨hs, ?_⟩
            refine wpAnyH_as (b := actS p o s q gg oo n c k x (.pointer (some ⟨q, 0, none⟩)) (.int .i64 (x 0)) (.pointer (some ⟨p, o, none⟩)) (.pointer (some ⟨s + 1, 1, none⟩)) (.int .i64 (A 1)) (.pointer (some ⟨q, 1, none⟩)) (.int .i64 (x 1)) (.slice (some ⟨B49, 0, none⟩) 2 2) (.int .i64 (A 1 + x 1)) (.pointer (some ⟨p, o, none⟩)) (.pointer (some ⟨s + 1, 2, none⟩)) (.agg #[.int .i64 (A 2), .int .i64 (A 3), .int .i64 (A 4)]) (.pointer (some ⟨q, 2, none⟩)) (.agg #[.int .i64 (x 2), .int .i64 (x 3), .int .i64 (x 4)]) (.slice (some ⟨B35, 0, none⟩) 2 2) (.agg #[.int .i64 (A 2 + x 2), .int .i64 (A 3 + x 3), .int .i64 (A 4 + x 4)]) (.pointer (some ⟨p, o, none⟩)) (.pointer (some ⟨s + 1, 5, none⟩)) (.agg #[.int .i64 (A 5), .int .i64 (A 6), .int .i64 (A 7)]) (.pointer (some ⟨q, 5, none⟩)) (.agg #[.int .i64 (x 5), .int .i64 (x 6), .int .i64 (x 7)]) (.slice (some ⟨B48, 0, none⟩) 2 2) u36 u37 u38) (by kernel_rfl) ?_
            refine wpAnyH_all (rs := [22]) (by kernel_rfl) (by simp) ?_
            intro i hi
            obtain rfl : i = 22 := by simpa using hi
            refine wpOp_call (by kernel_rfl) (by kernel_rfl) (by kernel_rfl) (vadd_any p o B48 2 (A 5) (A 6) (A 7) (x 5) (x 6) (x 7) h _ (hs.F.fl f) fR.lt nR (fR.cell 0) (fR.cell 1) (fR.cell 2) (fR.cell 3) (fR.cell 4) (fR.cell 5) (BA 5 (by omega) (by omega)) (BX 5 (by omega) (by omega)) (BA 6 (by omega) (by omega)) (BX 6 (by omega) (by omega)) (BA 7 (by omega) (by omega)) (BX 7 (by omega) (by omega))) ?_
            intro W52 kf
            replace hs := hs.flag hpq kf
            clear fR nR
            clear kf
            refine ⟨hs, ?_⟩
            refine wpAnyH_as (b := actS p o s q gg oo n c k x (.pointer (some ⟨q, 0, none⟩)) (.int .i64 (x 0)) (.pointer (some ⟨p, o, none⟩)) (.pointer (some ⟨s + 1, 1, none⟩)) (.int .i64 (A 1)) (.pointer (some ⟨q, 1, none⟩)) (.int .i64 (x 1)) (.slice (some ⟨B49, 0, none⟩) 2 2) (.int .i64 (A 1 + x 1)) (.pointer (some ⟨p, o, none⟩)) (.pointer (some ⟨s + 1, 2, none⟩)) (.agg #[.int .i64 (A 2), .int .i64 (A 3), .int .i64 (A 4)]) (.pointer (some ⟨q, 2, none⟩)) (.agg #[.int .i64 (x 2), .int .i64 (x 3), .int .i64 (x 4)]) (.slice (some ⟨B35, 0, none⟩) 2 2) (.agg #[.int .i64 (A 2 + x 2), .int .i64 (A 3 + x 3), .int .i64 (A 4 + x 4)]) (.pointer (some ⟨p, o, none⟩)) (.pointer (some ⟨s + 1, 5, none⟩)) (.agg #[.int .i64 (A 5), .int .i64 (A 6), .int .i64 (A 7)]) (.pointer (some ⟨q, 5, none⟩)) (.agg #[.int .i64 (x 5), .int .i64 (x 6), .int .i64 (x 7)]) (.slice (some ⟨B48, 0, none⟩) 2 2) (.agg #[.int .i64 (A 5 + x 5), .int .i64 (A 6 + x 6), .int .i64 (A 7 + x 7)]) u37 u38) (by kernel_rfl) ?_
            refine wpAnyH_take (i := 23) rfl (by kernel_rfl) (by kernel_rfl) (by kernel_rfl) (fun _ _ _ h => nomatch h.1) (yields_pure (v := .agg (rowA 8 (addI A x))) (by kernel_rfl) (fun _ => by kernel_rfl)) hs ?_
            refine wpAnyH_as (b := actS p o s q gg oo n c k x (.pointer (some ⟨q, 0, none⟩)) (.int .i64 (x 0)) (.pointer (some ⟨p, o, none⟩)) (.pointer (some ⟨s + 1, 1, none⟩)) (.int .i64 (A 1)) (.pointer (some ⟨q, 1, none⟩)) (.int .i64 (x 1)) (.slice (some ⟨B49, 0, none⟩) 2 2) (.int .i64 (A 1 + x 1)) (.pointer (some ⟨p, o, none⟩)) (.pointer (some ⟨s + 1, 2, none⟩)) (.agg #[.int .i64 (A 2), .int .i64 (A 3), .int .i64 (A 4)]) (.pointer (some ⟨q, 2, none⟩)) (.agg #[.int .i64 (x 2), .int .i64 (x 3), .int .i64 (x 4)]) (.slice (some ⟨B35, 0, none⟩) 2 2) (.agg #[.int .i64 (A 2 + x 2), .int .i64 (A 3 + x 3), .int .i64 (A 4 + x 4)]) (.pointer (some ⟨p, o, none⟩)) (.pointer (some ⟨s + 1, 5, none⟩)) (.agg #[.int .i64 (A 5), .int .i64 (A 6), .int .i64 (A 7)]) (.pointer (some ⟨q, 5, none⟩)) (.agg #[.int .i64 (x 5), .int .i64 (x 6), .int .i64 (x 7)]) (.slice (some ⟨B48, 0, none⟩) 2 2) (.agg #[.int .i64 (A 5 + x 5), .int .i64 (A 6 + x 6), .int .i64 (A 7 + x 7)]) (.agg (rowA 8 (addI A x))) u38) (by kernel_rfl) ?_
            refine wpAnyH_done (by kernel_rfl) ?_ _
            exact ⟨rfl, .slice (some ⟨B49, 0, none⟩) 2 2, .slice (some ⟨B35, 0, none⟩) 2 2, .slice (some ⟨B48, 0, none⟩) 2 2, by kernel_rfl, hs⟩
        · refine wpOp_value (by kernel_rfl) (by kernel_rfl) (w' := World.alloc W0 (.cells #[.int .i64 (A 5), .int .i64 (A 6), .int .i64 (A 7), .int .i64 (x 5), .int .i64 (x 6), .int .i64 (x 7)] 88)) (v := .slice (some ⟨W0.heap.size, 0, none⟩) 2 2) (by kernel_rfl) ?_
          have fR : Blk (World.alloc W0 (.cells #[.int .i64 (A 5), .int .i64 (A 6), .int .i64 (A 7), .int .i64 (x 5), .int .i64 (x 6), .int .i64 (x 7)] 88)) W0.heap.size #[.int .i64 (A 5), .int .i64 (A 6), .int .i64 (A 7), .int .i64 (x 5), .int .i64 (x 6), .int .i64 (x 7)] 88 := Blk.made _ _ _ rfl
          have nR : W0.heap.size ≠ p := by have := hs.F.size; omega
          replace hs := hs.alloc (.cells #[.int .i64 (A 5), .int .i64 (A 6), .int .i64 (A 7), .int .i64 (x 5), .int .i64 (x 6), .int .i64 (x 7)] 88)
          generalize World.alloc W0 _ = W53 at *
          generalize W0.heap.size = B53 at *
          refine ⟨hs, ?_⟩
          refine wpAnyH_as (b := actS p o s q gg oo n c k x (.pointer (some ⟨q, 0, none⟩)) (.int .i64 (x 0)) (.pointer (some ⟨p, o, none⟩)) (.pointer (some ⟨s + 1, 1, none⟩)) (.int .i64 (A 1)) (.pointer (some ⟨q, 1, none⟩)) (.int .i64 (x 1)) u21 u22 (.pointer (some ⟨p, o, none⟩)) (.pointer (some ⟨s + 1, 2, none⟩)) (.agg #[.int .i64 (A 2), .int .i64 (A 3), .int .i64 (A 4)]) (.pointer (some ⟨q, 2, none⟩)) (.agg #[.int .i64 (x 2), .int .i64 (x 3), .int .i64 (x 4)]) u28 u29 (.pointer (some ⟨p, o, none⟩)) (.pointer (some ⟨s + 1, 5, none⟩)) (.agg #[.int .i64 (A 5), .int .i64 (A 6), .int .i64 (A 7)]) (.pointer (some ⟨q, 5, none⟩)) (.agg #[.int .i64 (x 5), .int .i64 (x 6), .int .i64 (x 7)]) (.slice (some ⟨B53, 0, none⟩) 2 2) u36 u37 u38) (by kernel_rfl) ?_
          refine wpAnyH_all (rs := [7, 14]) (by kernel_rfl) (by simp) ?_
          intro i hi
          simp only [List.mem_cons, List.not_mem_nil, or_false] at hi
          rcases hi with rfl | rfl
          · refine wpOp_value (by kernel_rfl) (by kernel_rfl) (w' := World.alloc W53 (.cells #[.int .i64 (A 1), .int .i64 (x 1)] 2)) (v := .slice (some ⟨W53.heap.size, 0, none⟩) 2 2) (by kernel_rfl) ?_
            have fP : Blk (World.alloc W53 (.cells #[.int .i64 (A 1), .int .i64 (x 1)] 2)) W53.heap.size #[.int .i64 (A 1), .int .i64 (x 1)] 2 := Blk.made _ _ _ rfl
            have nP : W53.heap.size ≠ p := by have := hs.F.size; omega
            replace fR := fR.alloc (.cells #[.int .i64 (A 1), .int .i64 (x 1)] 2)
            replace hs := hs.alloc (.cells #[.int .i64 (A 1), .int .i64 (x 1)] 2)
            generalize World.alloc W53 _ = W54 at *
            generalize W53.heap.size = B54 at *
            refine ⟨hs, ?_⟩
            refine wpAnyH_as (b := actS p o s q gg oo n c k x (.pointer (some ⟨q, 0, none⟩)) (.int .i64 (x 0)) (.pointer (some ⟨p, o, none⟩)) (.pointer (some ⟨s + 1, 1, none⟩)) (.int .i64 (A 1)) (.pointer (some ⟨q, 1, none⟩)) (.int .i64 (x 1)) (.slice (some ⟨B54, 0, none⟩) 2 2) u22 (.pointer (some ⟨p, o, none⟩)) (.pointer (some ⟨s + 1, 2, none⟩)) (.agg #[.int .i64 (A 2), .int .i64 (A 3), .int .i64 (A 4)]) (.pointer (some ⟨q, 2, none⟩)) (.agg #[.int .i64 (x 2), .int .i64 (x 3), .int .i64 (x 4)]) u28 u29 (.pointer (some ⟨p, o, none⟩)) (.pointer (some ⟨s + 1, 5, none⟩)) (.agg #[.int .i64 (A 5), .int .i64 (A 6), .int .i64 (A 7)]) (.pointer (some ⟨q, 5, none⟩)) (.agg #[.int .i64 (x 5), .int .i64 (x 6), .int .i64 (x 7)]) (.slice (some ⟨B53, 0, none⟩) 2 2) u36 u37 u38) (by kernel_rfl) ?_
            refine wpAnyH_all (rs := [8, 14]) (by kernel_rfl) (by simp) ?_
            intro i hi
            simp only [List.mem_cons, List.not_mem_nil, or_false] at hi
            rcases hi with rfl | rfl
            · refine wpOp_call (by kernel_rfl) (by kernel_rfl) (by kernel_rfl) (add2_fx p o B54 2 (A 1) (x 1) h _ (hs.F.fl f) fP.lt nP (fP.cell 0) (fP.cell 1) (BA 1 (by omega) (by omega)) (BX 1 (by omega) (by omega))) ?_
              intro W55 kf
              replace hs := hs.flag hpq kf
              clear fP nP
              replace fR := fR.flag nR kf
              clear kf
              refine ⟨hs, ?_⟩
              refine wpAnyH_as (b := actS p o s q gg oo n c k x (.pointer (some ⟨q, 0, none⟩)) (.int .i64 (x 0)) (.pointer (some ⟨p, o, none⟩)) (.pointer (some ⟨s + 1, 1, none⟩)) (.int .i64 (A 1)) (.pointer (some ⟨q, 1, none⟩)) (.int .i64 (x 1)) (.slice (some ⟨B54, 0, none⟩) 2 2) (.int .i64 (A 1 + x 1)) (.pointer (some ⟨p, o, none⟩)) (.pointer (some ⟨s + 1, 2, none⟩)) (.agg #[.int .i64 (A 2), .int .i64 (A 3), .int .i64 (A 4)]) (.pointer (some ⟨q, 2, none⟩)) (.agg #[.int .i64 (x 2), .int .i64 (x 3), .int .i64 (x 4)]) u28 u29 (.pointer (some ⟨p, o, none⟩)) (.pointer (some ⟨s + 1, 5, none⟩)) (.agg #[.int .i64 (A 5), .int .i64 (A 6), .int .i64 (A 7)]) (.pointer (some ⟨q, 5, none⟩)) (.agg #[.int .i64 (x 5), .int .i64 (x 6), .int .i64 (x 7)]) (.slice (some ⟨B53, 0, none⟩) 2 2) u36 u37 u38) (by kernel_rfl) ?_
              refine wpAnyH_all (rs := [14]) (by kernel_rfl) (by simp) ?_
              intro i hi
              obtain rfl : i = 14 := by simpa using hi
              refine wpOp_value (by kernel_rfl) (by kernel_rfl) (w' := World.alloc W55 (.cells #[.int .i64 (A 2), .int .i64 (A 3), .int .i64 (A 4), .int .i64 (x 2), .int .i64 (x 3), .int .i64 (x 4)] 88)) (v := .slice (some ⟨W55.heap.size, 0, none⟩) 2 2) (by kernel_rfl) ?_
              have fQ : Blk (World.alloc W55 (.cells #[.int .i64 (A 2), .int .i64 (A 3), .int .i64 (A 4), .int .i64 (x 2), .int .i64 (x 3), .int .i64 (x 4)] 88)) W55.heap.size #[.int .i64 (A 2), .int .i64 (A 3), .int .i64 (A 4), .int .i64 (x 2), .int .i64 (x 3), .int .i64 (x 4)] 88 := Blk.made _ _ _ rfl
              have nQ : W55.heap.size ≠ p := by have := hs.F.size; omega
              replace fR := fR.alloc (.cells #[.int .i64 (A 2), .int .i64 (A 3), .int .i64 (A 4), .int .i64 (x 2), .int .i64 (x 3), .int .i64 (x 4)] 88)
              replace hs := hs.alloc (.cells #[.int .i64 (A 2), .int .i64 (A 3), .int .i64 (A 4), .int .i64 (x 2), .int .i64 (x 3), .int .i64 (x 4)] 88)
              generalize World.alloc W55 _ = W56 at *
              generalize W55.heap.size = B56 at *
              refine ⟨hs, ?_⟩
              refine wpAnyH_as (b := actS p o s q gg oo n c k x (.pointer (some ⟨q, 0, none⟩)) (.int .i64 (x 0)) (.pointer (some ⟨p, o, none⟩)) (.pointer (some ⟨s + 1, 1, none⟩)) (.int .i64 (A 1)) (.pointer (some ⟨q, 1, none⟩)) (.int .i64 (x 1)) (.slice (some ⟨B54, 0, none⟩) 2 2) (.int .i64 (A 1 + x 1)) (.pointer (some ⟨p, o, none⟩)) (.pointer (some ⟨s + 1, 2, none⟩)) (.agg #[.int .i64 (A 2), .int .i64 (A 3), .int .i64 (A 4)]) (.pointer (some ⟨q, 2, none⟩)) (.agg #[.int .i64 (x 2), .int .i64 (x 3), .int .i64 (x 4)]) (.slice (some ⟨B56, 0, none⟩) 2 2) u29 (.pointer (some ⟨p, o, none⟩)) (.pointer (some ⟨s + 1, 5, none⟩)) (.agg #[.int .i64 (A 5), .int .i64 (A 6), .int .i64 (A 7)]) (.pointer (some ⟨q, 5, none⟩)) (.agg #[.int .i64 (x 5), .int .i64 (x 6), .int .i64 (x 7)]) (.slice (some ⟨B53, 0, none⟩) 2 2) u36 u37 u38) (by kernel_rfl) ?_
              refine wpAnyH_all (rs := [15]) (by kernel_rfl) (by simp) ?_
              intro i hi
              obtain rfl : i = 15 := by simpa using hi
              refine wpOp_call (by kernel_rfl) (by kernel_rfl) (by kernel_rfl) (vadd_any p o B56 2 (A 2) (A 3) (A 4) (x 2) (x 3) (x 4) h _ (hs.F.fl f) fQ.lt nQ (fQ.cell 0) (fQ.cell 1) (fQ.cell 2) (fQ.cell 3) (fQ.cell 4) (fQ.cell 5) (BA 2 (by omega) (by omega)) (BX 2 (by omega) (by omega)) (BA 3 (by omega) (by omega)) (BX 3 (by omega) (by omega)) (BA 4 (by omega) (by omega)) (BX 4 (by omega) (by omega))) ?_
              intro W57 kf
              replace hs := hs.flag hpq kf
              clear fQ nQ
              replace fR := fR.flag nR kf
              clear kf
              refine ⟨hs, ?_⟩
              refine wpAnyH_as (b := actS p o s q gg oo n c k x (.pointer (some ⟨q, 0, none⟩)) (.int .i64 (x 0)) (.pointer (some ⟨p, o, none⟩)) (.pointer (some ⟨s + 1, 1, none⟩)) (.int .i64 (A 1)) (.pointer (some ⟨q, 1, none⟩)) (.int .i64 (x 1)) (.slice (some ⟨B54, 0, none⟩) 2 2) (.int .i64 (A 1 + x 1)) (.pointer (some ⟨p, o, none⟩)) (.pointer (some ⟨s + 1, 2, none⟩)) (.agg #[.int .i64 (A 2), .int .i64 (A 3), .int .i64 (A 4)]) (.pointer (some ⟨q, 2, none⟩)) (.agg #[.int .i64 (x 2), .int .i64 (x 3), .int .i64 (x 4)]) (.slice (some ⟨B56, 0, none⟩) 2 2) (.agg #[.int .i64 (A 2 + x 2), .int .i64 (A 3 + x 3), .int .i64 (A 4 + x 4)]) (.pointer (some ⟨p, o, none⟩)) (.pointer (some ⟨s + 1, 5, none⟩)) (.agg #[.int .i64 (A 5), .int .i64 (A 6), .int .i64 (A 7)]) (.pointer (some ⟨q, 5, none⟩)) (.agg #[.int .i64 (x 5), .int .i64 (x 6), .int .i64 (x 7)]) (.slice (some ⟨B53, 0, none⟩) 2 2) u36 u37 u38) (by kernel_rfl) ?_
              refine wpAnyH_all (rs := [22]) (by kernel_rfl) (by simp) ?_
              intro i hi
              obtain rfl : i = 22 := by simpa using hi
              refine wpOp_call (by kernel_rfl) (by kernel_rfl) (by kernel_rfl) (vadd_any p o B53 2 (A 5) (A 6) (A 7) (x 5) (x 6) (x 7) h _ (hs.F.fl f) fR.lt nR (fR.cell 0) (fR.cell 1) (fR.cell 2) (fR.cell 3) (fR.cell 4) (fR.cell 5) (BA 5 (by omega) (by omega)) (BX 5 (by omega) (by omega)) (BA 6 (by omega) (by omega)) (BX 6 (by omega) (by omega)) (BA 7 (by omega) (by omega)) (BX 7 (by omega) (by omega))) ?_
              intro W58 kf
              replace hs := hs.flag hpq kf
              clear fR nR
              clear kf
              refine ⟨hs, ?_⟩
              refine wpAnyH_as (b := actS p o s q gg oo n c k x (.pointer (some ⟨q, 0, none⟩)) (.int .i64 (x 0)) (.pointer (some ⟨p, o, none⟩)) (.pointer (some ⟨s + 1, 1, none⟩)) (.int .i64 (A 1)) (.pointer (some ⟨q, 1, none⟩)) (.int .i64 (x 1)) (.slice (some ⟨B54, 0, none⟩) 2 2) (.int .i64 (A 1 + x 1)) (.pointer (some ⟨p, o, none⟩)) (.pointer (some ⟨s + 1, 2, none⟩)) (.agg #[.int .i64 (A 2), .int .i64 (A 3), .int .i64 (A 4)]) (.pointer (some ⟨q, 2, none⟩)) (.agg #[.int .i64 (x 2), .int .i64 (x 3), .int .i64 (x 4)]) (.slice (some ⟨B56, 0, none⟩) 2 2) (.agg #[.int .i64 (A 2 + x 2), .int .i64 (A 3 + x 3), .int .i64 (A 4 + x 4)]) (.pointer (some ⟨p, o, none⟩)) (.pointer (some ⟨s + 1, 5, none⟩)) (.agg #[.int .i64 (A 5), .int .i64 (A 6), .int .i64 (A 7)]) (.pointer (some ⟨q, 5, none⟩)) (.agg #[.int .i64 (x 5), .int .i64 (x 6), .int .i64 (x 7)]) (.slice (some ⟨B53, 0, none⟩) 2 2) (.agg #[.int .i64 (A 5 + x 5), .int .i64 (A 6 + x 6), .int .i64 (A 7 + x 7)]) u37 u38) (by kernel_rfl) ?_
              refine wpAnyH_take (i := 23) rfl (by kernel_rfl) (by kernel_rfl) (by kernel_rfl) (fun _ _ _ h => nomatch h.1) (yields_pure (v := .agg (rowA 8 (addI A x))) (by kernel_rfl) (fun _ => by kernel_rfl)) hs ?_
              refine wpAnyH_as (b := actS p o s q gg oo n c k x (.pointer (some ⟨q, 0, none⟩)) (.int .i64 (x 0)) (.pointer (some ⟨p, o, none⟩)) (.pointer (some ⟨s + 1, 1, none⟩)) (.int .i64 (A 1)) (.pointer (some ⟨q, 1, none⟩)) (.int .i64 (x 1)) (.slice (some ⟨B54, 0, none⟩) 2 2) (.int .i64 (A 1 + x 1)) (.pointer (some ⟨p, o, none⟩)) (.pointer (some ⟨s + 1, 2, none⟩)) (.agg #[.int .i64 (A 2), .int .i64 (A 3), .int .i64 (A 4)]) (.pointer (some ⟨q, 2, none⟩)) (.agg #[.int .i64 (x 2), .int .i64 (x 3), .int .i64 (x 4)]) (.slice (some ⟨B56, 0, none⟩) 2 2) (.agg #[.int .i64 (A 2 + x 2), .int .i64 (A 3 + x 3), .int .i64 (A 4 + x 4)]) (.pointer (some ⟨p, o, none⟩)) (.pointer (some ⟨s + 1, 5, none⟩)) (.agg #[.int .i64 (A 5), .int .i64 (A 6), .int .i64 (A 7)]) (.pointer (some ⟨q, 5, none⟩)) (.agg #[.int .i64 (x 5), .int .i64 (x 6), .int .i64 (x 7)]) (.slice (some ⟨B53, 0, none⟩) 2 2) (.agg #[.int .i64 (A 5 + x 5), .int .i64 (A 6 + x 6), .int .i64 (A 7 + x 7)]) (.agg (rowA 8 (addI A x))) u38) (by kernel_rfl) ?_
              refine wpAnyH_done (by kernel_rfl) ?_ _
              exact ⟨rfl, .slice (some ⟨B54, 0, none⟩) 2 2, .slice (some ⟨B56, 0, none⟩) 2 2, .slice (some ⟨B53, 0, none⟩) 2 2, by kernel_rfl, hs⟩
            · refine wpOp_value (by kernel_rfl) (by kernel_rfl) (w' := World.alloc W54 (.cells #[.int .i64 (A 2), .int .i64 (A 3), .int .i64 (A 4), .int .i64 (x 2), .int .i64 (x 3), .int .i64 (x 4)] 88)) (v := .slice (some ⟨W54.heap.size, 0, none⟩) 2 2) (by kernel_rfl) ?_
              have fQ : Blk (World.alloc W54 (.cells #[.int .i64 (A 2), .int .i64 (A 3), .int .i64 (A 4), .int .i64 (x 2), .int .i64 (x 3), .int .i64 (x 4)] 88)) W54.heap.size #[.int .i64 (A 2), .int .i64 (A 3), .int .i64 (A 4), .int .i64 (x 2), .int .i64 (x 3), .int .i64 (x 4)] 88 := Blk.made _ _ _ rfl
              have nQ : W54.heap.size ≠ p := by have := hs.F.size; omega
              replace fR := fR.alloc (.cells #[.int .i64 (A 2), .int .i64 (A 3), .int .i64 (A 4), .int .i64 (x 2), .int .i64 (x 3), .int .i64 (x 4)] 88)
              replace fP := fP.alloc (.cells #[.int .i64 (A 2), .int .i64 (A 3), .int .i64 (A 4), .int .i64 (x 2), .int .i64 (x 3), .int .i64 (x 4)] 88)
              replace hs := hs.alloc (.cells #[.int .i64 (A 2), .int .i64 (A 3), .int .i64 (A 4), .int .i64 (x 2), .int .i64 (x 3), .int .i64 (x 4)] 88)
              generalize World.alloc W54 _ = W59 at *
              generalize W54.heap.size = B59 at *
              refine ⟨hs, ?_⟩
              refine wpAnyH_as (b := actS p o s q gg oo n c k x (.pointer (some ⟨q, 0, none⟩)) (.int .i64 (x 0)) (.pointer (some ⟨p, o, none⟩)) (.pointer (some ⟨s + 1, 1, none⟩)) (.int .i64 (A 1)) (.pointer (some ⟨q, 1, none⟩)) (.int .i64 (x 1)) (.slice (some ⟨B54, 0, none⟩) 2 2) u22 (.pointer (some ⟨p, o, none⟩)) (.pointer (some ⟨s + 1, 2, none⟩)) (.agg #[.int .i64 (A 2), .int .i64 (A 3), .int .i64 (A 4)]) (.pointer (some ⟨q, 2, none⟩)) (.agg #[.int .i64 (x 2), .int .i64 (x 3), .int .i64 (x 4)]) (.slice (some ⟨B59, 0, none⟩) 2 2) u29 (.pointer (some ⟨p, o, none⟩)) (.pointer (some ⟨s + 1, 5, none⟩)) (.agg #[.int .i64 (A 5), .int .i64 (A 6), .int .i64 (A 7)]) (.pointer (some ⟨q, 5, none⟩)) (.agg #[.int .i64 (x 5), .int .i64 (x 6), .int .i64 (x 7)]) (.slice (some ⟨B53, 0, none⟩) 2 2) u36 u37 u38) (by kernel_rfl) ?_
              refine wpAnyH_all (rs := [8]) (by kernel_rfl) (by simp) ?_
              intro i hi
              obtain rfl : i = 8 := by simpa using hi
              refine wpOp_call (by kernel_rfl) (by kernel_rfl) (by kernel_rfl) (add2_fx p o B54 2 (A 1) (x 1) h _ (hs.F.fl f) fP.lt nP (fP.cell 0) (fP.cell 1) (BA 1 (by omega) (by omega)) (BX 1 (by omega) (by omega))) ?_
              intro W60 kf
              replace hs := hs.flag hpq kf
              clear fP nP
              replace fR := fR.flag nR kf
              replace fQ := fQ.flag nQ kf
              clear kf
              refine ⟨hs, ?_⟩
              refine wpAnyH_as (b := actS p o s q gg oo n c k x (.pointer (some ⟨q, 0, none⟩)) (.int .i64 (x 0)) (.pointer (some ⟨p, o, none⟩)) (.pointer (some ⟨s + 1, 1, none⟩)) (.int .i64 (A 1)) (.pointer (some ⟨q, 1, none⟩)) (.int .i64 (x 1)) (.slice (some ⟨B54, 0, none⟩) 2 2) (.int .i64 (A 1 + x 1)) (.pointer (some ⟨p, o, none⟩)) (.pointer (some ⟨s + 1, 2, none⟩)) (.agg #[.int .i64 (A 2), .int .i64 (A 3), .int .i64 (A 4)]) (.pointer (some ⟨q, 2, none⟩)) (.agg #[.int .i64 (x 2), .int .i64 (x 3), .int .i64 (x 4)]) (.slice (some ⟨B59, 0, none⟩) 2 2) u29 (.pointer (some ⟨p, o, none⟩)) (.pointer (some ⟨s + 1, 5, none⟩)) (.agg #[.int .i64 (A 5), .int .i64 (A 6), .int .i64 (A 7)]) (.pointer (some ⟨q, 5, none⟩)) (.agg #[.int .i64 (x 5), .int .i64 (x 6), .int .i64 (x 7)]) (.slice (some ⟨B53, 0, none⟩) 2 2) u36 u37 u38) (by kernel_rfl) ?_
              refine wpAnyH_all (rs := [15]) (by kernel_rfl) (by simp) ?_
              intro i hi
              obtain rfl : i = 15 := by simpa using hi
              refine wpOp_call (by kernel_rfl) (by kernel_rfl) (by kernel_rfl) (vadd_any p o B59 2 (A 2) (A 3) (A 4) (x 2) (x 3) (x 4) h _ (hs.F.fl f) fQ.lt nQ (fQ.cell 0) (fQ.cell 1) (fQ.cell 2) (fQ.cell 3) (fQ.cell 4) (fQ.cell 5) (BA 2 (by omega) (by omega)) (BX 2 (by omega) (by omega)) (BA 3 (by omega) (by omega)) (BX 3 (by omega) (by omega)) (BA 4 (by omega) (by omega)) (BX 4 (by omega) (by omega))) ?_
              intro W61 kf
              replace hs := hs.flag hpq kf
              clear fQ nQ
              replace fR := fR.flag nR kf
              clear kf
              refine ⟨hs, ?_⟩
              refine wpAnyH_as (b := actS p o s q gg oo n c k x (.pointer (some ⟨q, 0, none⟩)) (.int .i64 (x 0)) (.pointer (some ⟨p, o, none⟩)) (.pointer (some ⟨s + 1, 1, none⟩)) (.int .i64 (A 1)) (.pointer (some ⟨q, 1, none⟩)) (.int .i64 (x 1)) (.slice (some ⟨B54, 0, none⟩) 2 2) (.int .i64 (A 1 + x 1)) (.pointer (some ⟨p, o, none⟩)) (.pointer (some ⟨s + 1, 2, none⟩)) (.agg #[.int .i64 (A 2), .int .i64 (A 3), .int .i64 (A 4)]) (.pointer (some ⟨q, 2, none⟩)) (.agg #[.int .i64 (x 2), .int .i64 (x 3), .int .i64 (x 4)]) (.slice (some ⟨B59, 0, none⟩) 2 2) (.agg #[.int .i64 (A 2 + x 2), .int .i64 (A 3 + x 3), .int .i64 (A 4 + x 4)]) (.pointer (some ⟨p, o, none⟩)) (.pointer (some ⟨s + 1, 5, none⟩)) (.agg #[.int .i64 (A 5), .int .i64 (A 6), .int .i64 (A 7)]) (.pointer (some ⟨q, 5, none⟩)) (.agg #[.int .i64 (x 5), .int .i64 (x 6), .int .i64 (x 7)]) (.slice (some ⟨B53, 0, none⟩) 2 2) u36 u37 u38) (by kernel_rfl) ?_
              refine wpAnyH_all (rs := [22]) (by kernel_rfl) (by simp) ?_
              intro i hi
              obtain rfl : i = 22 := by simpa using hi
              refine wpOp_call (by kernel_rfl) (by kernel_rfl) (by kernel_rfl) (vadd_any p o B53 2 (A 5) (A 6) (A 7) (x 5) (x 6) (x 7) h _ (hs.F.fl f) fR.lt nR (fR.cell 0) (fR.cell 1) (fR.cell 2) (fR.cell 3) (fR.cell 4) (fR.cell 5) (BA 5 (by omega) (by omega)) (BX 5 (by omega) (by omega)) (BA 6 (by omega) (by omega)) (BX 6 (by omega) (by omega)) (BA 7 (by omega) (by omega)) (BX 7 (by omega) (by omega))) ?_
              intro W62 kf
              replace hs := hs.flag hpq kf
              clear fR nR
              clear kf
              refine ⟨hs, ?_⟩
              refine wpAnyH_as (b := actS p o s q gg oo n c k x (.pointer (some ⟨q, 0, none⟩)) (.int .i64 (x 0)) (.pointer (some ⟨p, o, none⟩)) (.pointer (some ⟨s + 1, 1, none⟩)) (.int .i64 (A 1)) (.pointer (some ⟨q, 1, none⟩)) (.int .i64 (x 1)) (.slice (some ⟨B54, 0, none⟩) 2 2) (.int .i64 (A 1 + x 1)) (.pointer (some ⟨p, o, none⟩)) (.pointer (some ⟨s + 1, 2, none⟩)) (.agg #[.int .i64 (A 2), .int .i64 (A 3), .int .i64 (A 4)]) (.pointer (some ⟨q, 2, none⟩)) (.agg #[.int .i64 (x 2), .int .i64 (x 3), .int .i64 (x 4)]) (.slice (some ⟨B59, 0, none⟩) 2 2) (.agg #[.int .i64 (A 2 + x 2), .int .i64 (A 3 + x 3), .int .i64 (A 4 + x 4)]) (.pointer (some ⟨p, o, none⟩)) (.pointer (some ⟨s + 1, 5, none⟩)) (.agg #[.int .i64 (A 5), .int .i64 (A 6), .int .i64 (A 7)]) (.pointer (some ⟨q, 5, none⟩)) (.agg #[.int .i64 (x 5), .int .i64 (x 6), .int .i64 (x 7)]) (.slice (some ⟨B53, 0, none⟩) 2 2) (.agg #[.int .i64 (A 5 + x 5), .int .i64 (A 6 + x 6), .int .i64 (A 7 + x 7)]) u37 u38) (by kernel_rfl) ?_
              refine wpAnyH_take (i := 23) rfl (by kernel_rfl) (by kernel_rfl) (by kernel_rfl) (fun _ _ _ h => nomatch h.1) (yields_pure (v := .agg (rowA 8 (addI A x))) (by kernel_rfl) (fun _ => by kernel_rfl)) hs ?_
              refine wpAnyH_as (b := actS p o s q gg oo n c k x (.pointer (some ⟨q, 0, none⟩)) (.int .i64 (x 0)) (.pointer (some ⟨p, o, none⟩)) (.pointer (some ⟨s + 1, 1, none⟩)) (.int .i64 (A 1)) (.pointer (some ⟨q, 1, none⟩)) (.int .i64 (x 1)) (.slice (some ⟨B54, 0, none⟩) 2 2) (.int .i64 (A 1 + x 1)) (.pointer (some ⟨p, o, none⟩)) (.pointer (some ⟨s + 1, 2, none⟩)) (.agg #[.int .i64 (A 2), .int .i64 (A 3), .int .i64 (A 4)]) (.pointer (some ⟨q, 2, none⟩)) (.agg #[.int .i64 (x 2), .int .i64 (x 3), .int .i64 (x 4)]) (.slice (some ⟨B59, 0, none⟩) 2 2) (.agg #[.int .i64 (A 2 + x 2), .int .i64 (A 3 + x 3), .int .i64 (A 4 + x 4)]) (.pointer (some ⟨p, o, none⟩)) (.pointer (some ⟨s + 1, 5, none⟩)) (.agg #[.int .i64 (A 5), .int .i64 (A 6), .int .i64 (A 7)]) (.pointer (some ⟨q, 5, none⟩)) (.agg #[.int .i64 (x 5), .int .i64 (x 6), .int .i64 (x 7)]) (.slice (some ⟨B53, 0, none⟩) 2 2) (.agg #[.int .i64 (A 5 + x 5), .int .i64 (A 6 + x 6), .int .i64 (A 7 + x 7)]) (.agg (rowA 8 (addI A x))) u38) (by kernel_rfl) ?_
              refine wpAnyH_done (by kernel_rfl) ?_ _
              exact ⟨rfl, .slice (some ⟨B54, 0, none⟩) 2 2, .slice (some ⟨B59, 0, none⟩) 2 2, .slice (some ⟨B53, 0, none⟩) 2 2, by kernel_rfl, hs⟩
          · refine wpOp_value (by kernel_rfl) (by kernel_rfl) (w' := World.alloc W53 (.cells #[.int .i64 (A 2), .int .i64 (A 3), .int .i64 (A 4), .int .i64 (x 2), .int .i64 (x 3), .int .i64 (x 4)] 88)) (v := .slice (some ⟨W53.heap.size, 0, none⟩) 2 2) (by kernel_rfl) ?_
            have fQ : Blk (World.alloc W53 (.cells #[.int .i64 (A 2), .int .i64 (A 3), .int .i64 (A 4), .int .i64 (x 2), .int .i64 (x 3), .int .i64 (x 4)] 88)) W53.heap.size #[.int .i64 (A 2), .int .i64 (A 3), .int .i64 (A 4), .int .i64 (x 2), .int .i64 (x 3), .int .i64 (x 4)] 88 := Blk.made _ _ _ rfl
            have nQ : W53.heap.size ≠ p := by have := hs.F.size; omega
            replace fR := fR.alloc (.cells #[.int .i64 (A 2), .int .i64 (A 3), .int .i64 (A 4), .int .i64 (x 2), .int .i64 (x 3), .int .i64 (x 4)] 88)
            replace hs := hs.alloc (.cells #[.int .i64 (A 2), .int .i64 (A 3), .int .i64 (A 4), .int .i64 (x 2), .int .i64 (x 3), .int .i64 (x 4)] 88)
            generalize World.alloc W53 _ = W63 at *
            generalize W53.heap.size = B63 at *
            refine ⟨hs, ?_⟩
            refine wpAnyH_as (b := actS p o s q gg oo n c k x (.pointer (some ⟨q, 0, none⟩)) (.int .i64 (x 0)) (.pointer (some ⟨p, o, none⟩)) (.pointer (some ⟨s + 1, 1, none⟩)) (.int .i64 (A 1)) (.pointer (some ⟨q, 1, none⟩)) (.int .i64 (x 1)) u21 u22 (.pointer (some ⟨p, o, none⟩)) (.pointer (some ⟨s + 1, 2, none⟩)) (.agg #[.int .i64 (A 2), .int .i64 (A 3), .int .i64 (A 4)]) (.pointer (some ⟨q, 2, none⟩)) (.agg #[.int .i64 (x 2), .int .i64 (x 3), .int .i64 (x 4)]) (.slice (some ⟨B63, 0, none⟩) 2 2) u29 (.pointer (some ⟨p, o, none⟩)) (.pointer (some ⟨s + 1, 5, none⟩)) (.agg #[.int .i64 (A 5), .int .i64 (A 6), .int .i64 (A 7)]) (.pointer (some ⟨q, 5, none⟩)) (.agg #[.int .i64 (x 5), .int .i64 (x 6), .int .i64 (x 7)]) (.slice (some ⟨B53, 0, none⟩) 2 2) u36 u37 u38) (by kernel_rfl) ?_
            refine wpAnyH_all (rs := [7]) (by kernel_rfl) (by simp) ?_
            intro i hi
            obtain rfl : i = 7 := by simpa using hi
            refine wpOp_value (by kernel_rfl) (by kernel_rfl) (w' := World.alloc W63 (.cells #[.int .i64 (A 1), .int .i64 (x 1)] 2)) (v := .slice (some ⟨W63.heap.size, 0, none⟩) 2 2) (by kernel_rfl) ?_
            have fP : Blk (World.alloc W63 (.cells #[.int .i64 (A 1), .int .i64 (x 1)] 2)) W63.heap.size #[.int .i64 (A 1), .int .i64 (x 1)] 2 := Blk.made _ _ _ rfl
            have nP : W63.heap.size ≠ p := by have := hs.F.size; omega
            replace fR := fR.alloc (.cells #[.int .i64 (A 1), .int .i64 (x 1)] 2)
            replace fQ := fQ.alloc (.cells #[.int .i64 (A 1), .int .i64 (x 1)] 2)
            replace hs := hs.alloc (.cells #[.int .i64 (A 1), .int .i64 (x 1)] 2)
            generalize World.alloc W63 _ = W64 at *
            generalize W63.heap.size = B64 at *
            refine ⟨hs, ?_⟩
            refine wpAnyH_as (b := actS p o s q gg oo n c k x (.pointer (some ⟨q, 0, none⟩)) (.int .i64 (x 0)) (.pointer (some ⟨p, o, none⟩)) (.pointer (some ⟨s + 1, 1, none⟩)) (.int .i64 (A 1)) (.pointer (some ⟨q, 1, none⟩)) (.int .i64 (x 1)) (.slice (some ⟨B64, 0, none⟩) 2 2) u22 (.pointer (some ⟨p, o, none⟩)) (.pointer (some ⟨s + 1, 2, none⟩)) (.agg #[.int .i64 (A 2), .int .i64 (A 3), .int .i64 (A 4)]) (.pointer (some ⟨q, 2, none⟩)) (.agg #[.int .i64 (x 2), .int .i64 (x 3), .int .i64 (x 4)]) (.slice (some ⟨B63, 0, none⟩) 2 2) u29 (.pointer (some ⟨p, o, none⟩)) (.pointer (some ⟨s + 1, 5, none⟩)) (.agg #[.int .i64 (A 5), .int .i64 (A 6), .int .i64 (A 7)]) (.pointer (some ⟨q, 5, none⟩)) (.agg #[.int .i64 (x 5), .int .i64 (x 6), .int .i64 (x 7)]) (.slice (some ⟨B53, 0, none⟩) 2 2) u36 u37 u38) (by kernel_rfl) ?_
            refine wpAnyH_all (rs := [8]) (by kernel_rfl) (by simp) ?_
            intro i hi
            obtain rfl : i = 8 := by simpa using hi
            refine wpOp_call (by kernel_rfl) (by kernel_rfl) (by kernel_rfl) (add2_fx p o B64 2 (A 1) (x 1) h _ (hs.F.fl f) fP.lt nP (fP.cell 0) (fP.cell 1) (BA 1 (by omega) (by omega)) (BX 1 (by omega) (by omega))) ?_
            intro W65 kf
            replace hs := hs.flag hpq kf
            clear fP nP
            replace fR := fR.flag nR kf
            replace fQ := fQ.flag nQ kf
            clear kf
            refine ⟨hs, ?_⟩
            refine wpAnyH_as (b := actS p o s q gg oo n c k x (.pointer (some ⟨q, 0, none⟩)) (.int .i64 (x 0)) (.pointer (some ⟨p, o, none⟩)) (.pointer (some ⟨s + 1, 1, none⟩)) (.int .i64 (A 1)) (.pointer (some ⟨q, 1, none⟩)) (.int .i64 (x 1)) (.slice (some ⟨B64, 0, none⟩) 2 2) (.int .i64 (A 1 + x 1)) (.pointer (some ⟨p, o, none⟩)) (.pointer (some ⟨s + 1, 2, none⟩)) (.agg #[.int .i64 (A 2), .int .i64 (A 3), .int .i64 (A 4)]) (.pointer (some ⟨q, 2, none⟩)) (.agg #[.int .i64 (x 2), .int .i64 (x 3), .int .i64 (x 4)]) (.slice (some ⟨B63, 0, none⟩) 2 2) u29 (.pointer (some ⟨p, o, none⟩)) (.pointer (some ⟨s + 1, 5, none⟩)) (.agg #[.int .i64 (A 5), .int .i64 (A 6), .int .i64 (A 7)]) (.pointer (some ⟨q, 5, none⟩)) (.agg #[.int .i64 (x 5), .int .i64 (x 6), .int .i64 (x 7)]) (.slice (some ⟨B53, 0, none⟩) 2 2) u36 u37 u38) (by kernel_rfl) ?_
            refine wpAnyH_all (rs := [15]) (by kernel_rfl) (by simp) ?_
            intro i hi
            obtain rfl : i = 15 := by simpa using hi
            refine wpOp_call (by kernel_rfl) (by kernel_rfl) (by kernel_rfl) (vadd_any p o B63 2 (A 2) (A 3) (A 4) (x 2) (x 3) (x 4) h _ (hs.F.fl f) fQ.lt nQ (fQ.cell 0) (fQ.cell 1) (fQ.cell 2) (fQ.cell 3) (fQ.cell 4) (fQ.cell 5) (BA 2 (by omega) (by omega)) (BX 2 (by omega) (by omega)) (BA 3 (by omega) (by omega)) (BX 3 (by omega) (by omega)) (BA 4 (by omega) (by omega)) (BX 4 (by omega) (by omega))) ?_
            intro W66 kf
            replace hs := hs.flag hpq kf
            clear fQ nQ
            replace fR := fR.flag nR kf
            clear kf
            refine ⟨hs, ?_⟩
            refine wpAnyH_as (b := actS p o s q gg oo n c k x (.pointer (some ⟨q, 0, none⟩)) (.int .i64 (x 0)) (.pointer (some ⟨p, o, none⟩)) (.pointer (some ⟨s + 1, 1, none⟩)) (.int .i64 (A 1)) (.pointer (some ⟨q, 1, none⟩)) (.int .i64 (x 1)) (.slice (some ⟨B64, 0, none⟩) 2 2) (.int .i64 (A 1 + x 1)) (.pointer (some ⟨p, o, none⟩)) (.pointer (some ⟨s + 1, 2, none⟩)) (.agg #[.int .i64 (A 2), .int .i64 (A 3), .int .i64 (A 4)]) (.pointer (some ⟨q, 2, none⟩)) (.agg #[.int .i64 (x 2), .int .i64 (x 3), .int .i64 (x 4)]) (.slice (some ⟨B63, 0, none⟩) 2 2) (.agg #[.int .i64 (A 2 + x 2), .int .i64 (A 3 + x 3), .int .i64 (A 4 + x 4)]) (.pointer (some ⟨p, o, none⟩)) (.pointer (some ⟨s + 1, 5, none⟩)) (.agg #[.int .i64 (A 5), .int .i64 (A 6), .int .i64 (A 7)]) (.pointer (some ⟨q, 5, none⟩)) (.agg #[.int .i64 (x 5), .int .i64 (x 6), .int .i64 (x 7)]) (.slice (some ⟨B53, 0, none⟩) 2 2) u36 u37 u38) (by kernel_rfl) ?_
            refine wpAnyH_all (rs := [22]) (by kernel_rfl) (by simp) ?_
            intro i hi
            obtain rfl : i = 22 := by simpa using hi
            refine wpOp_call (by kernel_rfl) (by kernel_rfl) (by kernel_rfl) (vadd_any p o B53 2 (A 5) (A 6) (A 7) (x 5) (x 6) (x 7) h _ (hs.F.fl f) fR.lt nR (fR.cell 0) (fR.cell 1) (fR.cell 2) (fR.cell 3) (fR.cell 4) (fR.cell 5) (BA 5 (by omega) (by omega)) (BX 5 (by omega) (by omega)) (BA 6 (by omega) (by omega)) (BX 6 (by omega) (by omega)) (BA 7 (by omega) (by omega)) (BX 7 (by omega) (by omega))) ?_
            intro W67 kf
            replace hs := hs.flag hpq kf
            clear fR nR
            clear kf
            refine ⟨hs, ?_⟩
            refine wpAnyH_as (b := actS p o s q gg oo n c k x (.pointer (some ⟨q, 0, none⟩)) (.int .i64 (x 0)) (.pointer (some ⟨p, o, none⟩)) (.pointer (some ⟨s + 1, 1, none⟩)) (.int .i64 (A 1)) (.pointer (some ⟨q, 1, none⟩)) (.int .i64 (x 1)) (.slice (some ⟨B64, 0, none⟩) 2 2) (.int .i64 (A 1 + x 1)) (.pointer (some ⟨p, o, none⟩)) (.pointer (some ⟨s + 1, 2, none⟩)) (.agg #[.int .i64 (A 2), .int .i64 (A 3), .int .i64 (A 4)]) (.pointer (some ⟨q, 2, none⟩)) (.agg #[.int .i64 (x 2), .int .i64 (x 3), .int .i64 (x 4)]) (.slice (some ⟨B63, 0, none⟩) 2 2) (.agg #[.int .i64 (A 2 + x 2), .int .i64 (A 3 + x 3), .int .i64 (A 4 + x 4)]) (.pointer (some ⟨p, o, none⟩)) (.pointer (some ⟨s + 1, 5, none⟩)) (.agg #[.int .i64 (A 5), .int .i64 (A 6), .int .i64 (A 7)]) (.pointer (some ⟨q, 5, none⟩)) (.agg #[.int .i64 (x 5), .int .i64 (x 6), .int .i64 (x 7)]) (.slice (some ⟨B53, 0, none⟩) 2 2) (.agg #[.int .i64 (A 5 + x 5), .int .i64 (A 6 + x 6), .int .i64 (A 7 + x 7)]) u37 u38) (by kernel_rfl) ?_
            refine wpAnyH_take (i := 23) rfl (by kernel_rfl) (by kernel_rfl) (by kernel_rfl) (fun _ _ _ h => nomatch h.1) (yields_pure (v := .agg (rowA 8 (addI A x))) (by kernel_rfl) (fun _ => by kernel_rfl)) hs ?_
            refine wpAnyH_as (b := actS p o s q gg oo n c k x (.pointer (some ⟨q, 0, none⟩)) (.int .i64 (x 0)) (.pointer (some ⟨p, o, none⟩)) (.pointer (some ⟨s + 1, 1, none⟩)) (.int .i64 (A 1)) (.pointer (some ⟨q, 1, none⟩)) (.int .i64 (x 1)) (.slice (some ⟨B64, 0, none⟩) 2 2) (.int .i64 (A 1 + x 1)) (.pointer (some ⟨p, o, none⟩)) (.pointer (some ⟨s + 1, 2, none⟩)) (.agg #[.int .i64 (A 2), .int .i64 (A 3), .int .i64 (A 4)]) (.pointer (some ⟨q, 2, none⟩)) (.agg #[.int .i64 (x 2), .int .i64 (x 3), .int .i64 (x 4)]) (.slice (some ⟨B63, 0, none⟩) 2 2) (.agg #[.int .i64 (A 2 + x 2), .int .i64 (A 3 + x 3), .int .i64 (A 4 + x 4)]) (.pointer (some ⟨p, o, none⟩)) (.pointer (some ⟨s + 1, 5, none⟩)) (.agg #[.int .i64 (A 5), .int .i64 (A 6), .int .i64 (A 7)]) (.pointer (some ⟨q, 5, none⟩)) (.agg #[.int .i64 (x 5), .int .i64 (x 6), .int .i64 (x 7)]) (.slice (some ⟨B53, 0, none⟩) 2 2) (.agg #[.int .i64 (A 5 + x 5), .int .i64 (A 6 + x 6), .int .i64 (A 7 + x 7)]) (.agg (rowA 8 (addI A x))) u38) (by kernel_rfl) ?_
            refine wpAnyH_done (by kernel_rfl) ?_ _
            exact ⟨rfl, .slice (some ⟨B64, 0, none⟩) 2 2, .slice (some ⟨B63, 0, none⟩) 2 2, .slice (some ⟨B53, 0, none⟩) 2 2, by kernel_rfl, hs⟩
      · rintro w1 u ⟨h1, h2, h3⟩
        unfold actS
        go_wp2_with fail
        go_roundw
        case rel => exact ⟨k + 1, by go_num, by omega, Lib.hid h1, Lib.hid (HN.out ▸ h2), Lib.hid h3⟩
        case measure => simp [intOf]; omega
    · obtain rfl : k = n := by omega
      have htk : l.take k = l := List.take_of_length_le (by rw [HL.out.len]; omega)
      have hA' := hA.out
      have hR' := hR.out
      rw [htk] at hA'
      have hF' := hF.out
      clear hA hR hF htk
      go_wp2_with (first
        | ((with_reducible refine row_load 32 (.tmp 5) ?_ ?_ (s + 1) 8 (foldI (fun _ => 0) l) 32 ?_ hA' _ Try.underlying32 ?_ imuSize ?_); rfl; rfl; rfl; rfl)
        | ((with_reducible refine row_store 32 (.tmp 4) (.tmp 39) ?_ ?_ s 8 (foldI (fun _ => 0) l) (fun _ => 0) 32 ?_ ?_ hR' imuSize ?_); rfl; rfl; rfl; rfl))
      exact bodyPost_ret (v := .agg (rowA 8 (foldI (fun _ => 0) l))) (results_row rfl _ _ s 8 _ _ _ rfl hR'.setRow Try.underlying32 rfl imuSize) rfl ⟨rfl, hF'.row (by omega) _⟩
end Go.Proofs.Ytdndomknjefgkaa.Rg
