/- Package thornton: its parts. -/
import Derived.Deep.AppendLies
import Derived.Deep.DeepCutAuto
import Derived.Maps.AppendAt
import Derived.Deep.RegionLaw
import Derived.OwnWalk
import Derived.Test.YtfkeljolpcbbkaaRN
import Derived.Test.YtfkeljolpcbbkaaTRX
import Derived.Test.YtfkeljolpcbbkaaTRY
import Derived.Laws.IdiomCopy
import Derived.Laws.MakeOwn

/- ThoA -/
namespace Go.Proofs.Ytfkeljolpcbbkaa
open Go.RowKit

theorem Fl.row {p o B : Nat} {h : Bool} {w : World} (f : Fl p o h w) (hB : B ≠ p) (d : Array Value) : Fl p o h (w.setRow B d) := by
  have hb : (w.setRow B d).heap[p]? = w.heap[p]? := setRow_other w B p d (by omega)
  refine ⟨?_, ?_, by rw [setRow_size]; exact f.lt⟩
  · have := f.cell
    unfold World.cell? at this ⊢
    rw [show (⟨p, o, none⟩ : Addr).block = p from rfl] at *
    rw [hb]; exact this
  · have := f.free
    unfold World.frozen? at this ⊢
    rw [show (⟨p, o, none⟩ : Addr).block = p from rfl] at *
    rw [hb]; exact this
theorem FlW.sameRow {p o B n : Nat} {h : Bool} {w : World} {f : Nat → Int} {t : TypeId} (fl : Fl p o h w) (hB : Blk w B (rowA n f) t) : FlW p o h (w.setRow B (rowA n f)) w := by
  have k := (FlW.refl fl).out
  refine ⟨⟨k.os, k.tape, k.output, by rw [size_set, setRow_size]; exact Nat.le_refl _, fun b hb => ?_⟩⟩
  rw [setRow_size] at hb
  rw [k.block b hb]
  refine set_heap_congr ?_
  by_cases e : b = B
  · subst e
    have h1 : w.heap[b]? = some (.cells (rowA n f) t (0, 0)) := hB
    rw [h1, setRow_heap w b _ _ t (0, 0) hB]
  · rw [setRow_other w B b _ e]
theorem FlW.cellRow {p o B n i : Nat} {h : Bool} {w w1 : World} {c0 : Array Value} {f : Nat → Int} {t : TypeId} (hB : Blk w B c0 t) (hp : B ≠ p) (k : FlW p o h (w.setRow B (rowA n f)) w1) (hi : i < n) (v : Int) :
    FlW p o h (w.setRow B (rowA n (upd f i v))) (w1.setCell ⟨B, i, none⟩ (.int .i64 v)) := by
  have hs := k.out.size
  rw [size_set, setRow_size] at hs
  refine ⟨⟨k.out.os, k.out.tape, k.out.output, by rw [size_set, size_set, setRow_size]; exact hs, fun b hb => ?_⟩⟩
  rw [setRow_size] at hb
  by_cases e : b = B
  · subst e
    have h1 : w1.heap[b]? = some (.cells (rowA n f) t (0, 0)) := by
      rw [k.out.block b (by rw [setRow_size]; exact hb), Below.heap_setCell _ _ _ _ hp]
      exact setRow_heap w b _ _ t (0, 0) hB
    rw [set_block h1, rowA_set f hi, Below.heap_setCell _ _ _ _ hp]
    exact (setRow_heap w b _ _ t (0, 0) hB).symm
  · rw [Below.heap_setCell _ _ _ _ e, k.out.block b (by rw [setRow_size]; exact hb)]
    refine set_heap_congr ?_
    rw [setRow_other _ _ _ _ e, setRow_other _ _ _ _ e]
theorem FlW.rowBlk {p o B n : Nat} {h : Bool} {w w1 : World} {c0 : Array Value} {f : Nat → Int} {t : TypeId} (hB : Blk w B c0 t) (hp : B ≠ p) (k : FlW p o h (w.setRow B (rowA n f)) w1) : Blk w1 B (rowA n f) t :=
  Blk.flag (w := w.setRow B (rowA n f)) hB.setRow hp k
end Go.Proofs.Ytfkeljolpcbbkaa

/- ThoZ -/
namespace Go.Proofs.Ytfkeljolpcbbkaa
open Go.RowKit

theorem zeroRows : Try.zeroCells168 = rowA 1152 (fun _ => 0) := by kernel_rfl
theorem rowsSize : (Try.prog.info? 168).map (·.size) = some 1152 := by kernel_rfl
end Go.Proofs.Ytfkeljolpcbbkaa

/- ThoB -/
namespace Go.Proofs.Ytfkeljolpcbbkaa
open Go.RowKit

theorem lineSize : (Try.prog.info? 167).map (·.size) = some 48 := by kernel_rfl
theorem sub_subv (p o : Nat) (a b : Int) (h : Bool) (w : World) (f : Fl p o h w) :
    Calls Try.prog 43 #[.pointer (some ⟨p, o, none⟩), .int .i64 a, .int .i64 b] w fun e w' => e = .returned (.int .i64 (subv a b)) ∧ FlW p o (h || subh a b) w w' := by
  refine (sub_any p o a b h w f).mono ?_
  rintro e w' ⟨rfl, k⟩
  exact ⟨rfl, flag_is (by simp [subh, Bool.or_assoc]) k⟩
set_option maxHeartbeats 2000000 in
theorem take_any (p o B i j : Nat) (f : Nat → Int) (u : Int) (h : Bool) (w : World) (fl : Fl p o h w) (hB : Blk w B (rowA 1152 f) 168) (hp : B ≠ p) (hij : i < j) (hj : j < 24) :
    Calls Try.prog 166 #[.pointer (some ⟨p, o, none⟩), .pointer (some ⟨B, 48 * i, none⟩), .pointer (some ⟨B, 48 * j, none⟩), .int .i64 u] w fun e w' => e = .returned (.tuple #[]) ∧ FlW p o (h || anyN (takH f j i u) 48) (w.setRow B (rowA 1152 (takF f j i u 48))) w' := by
  have hb := hB.lt
  have k0 : FlW p o (h || anyN (takH f j i u) 0) (w.setRow B (rowA 1152 (takF f j i u 0))) w := by rw [takF_zero]; exact flag_is (by simp [anyN]) (FlW.sameRow fl hB)
  go_enter Try.func166, Try.ntmps166
  go_wp2_with fail
  go_loopw [9] (fun i' wr => ∃ k : Nat, k ≤ 48 ∧ i' = .int .i64 k ∧ FlW p o (h || anyN (takH f j i u) k) (w.setRow B (rowA 1152 (takF f j i u k))) wr) (fun i' _ => 48 - (intOf i').toNat)
  case atStart => exact ⟨0, by omega, rfl, k0⟩
  case round =>
    clear k0
    obtain ⟨k, hk, rfl, hF⟩ := hrel
    have fr := hF.fl (fl.row hp _)
    have hBr := hF.rowBlk hB hp
    have hbr := hBr.lt
    by_cases hlt : k < 48
    · have hltI : (k : Int) < 48 := by omega
      have hk0 : (0 : Int) ≤ (k : Int) := by omega
      have c1 := hBr.cell (48 * i + k)
      rw [rowA_get _ (by omega), takF_self] at c1
      have c2 := hBr.cell (48 * j + k)
      rw [rowA_get _ (by omega), takF_row f hij u (by omega)] at c2
      have g1 := hBr.free (48 * i + k)
      have HN := Lib.hid (takF_next f j i u k)
      have HA := Lib.hid (show anyN (takH f j i u) (k + 1) = (anyN (takH f j i u) k || (mulh u (f (48 * j + k)) || subh (f (48 * i + k)) (mulv u (f (48 * j + k))))) from rfl)
      have HB := Lib.hid hB
      have HF := Lib.hid hF
      clear hBr hF hB
      go_wp2_with fail
      go_region_with (first
        | (go_at_call 45; refine (mul_mulv p o u (f (48 * j + k)) _ _ fr.drew).mono ?_; rintro e w6 ⟨rfl, k6⟩; have c6 := (k6.cell (b := B) (i := 48 * i + k) hbr (.inl hp)).trans c1; have f6 := k6.fl fr.drew; have g6 := (k6.frozen (b := B) (i := 48 * i + k) hbr).trans g1; have s6 := Nat.lt_of_lt_of_le hbr k6.size)
        | (go_at_call 43; refine (sub_subv p o (f (48 * i + k)) (mulv u (f (48 * j + k))) _ _ f6).mono ?_; rintro e w7 ⟨rfl, k7⟩; have c7 := (k7.cell (b := B) (i := 48 * i + k) s6 (.inl hp)).trans c6; have g7 := (k7.frozen (b := B) (i := 48 * i + k) s6).trans g6))
      all_goals
        have k8 := FlW.cellRow HB.out hp ((HF.out.drew.trans k6).trans k7) (i := 48 * i + k) (by omega) (subv (f (48 * i + k)) (mulv u (f (48 * j + k))))
        rw [HN.out] at k8
        have H8 := Lib.hid k8
        clear k8 k6 k7 c6 c7 g6 g7 f6 s6 c1 c2 g1 fr
        go_wp2_with fail
        go_roundw
        case rel => exact ⟨k + 1, by omega, by go_num, flag_is (by rw [HA.out]; simp [Bool.or_assoc]) H8.out⟩
        case measure => simp [intOf]; omega
    · obtain rfl : k = 48 := by omega
      clear hlt hk
      go_wp2_with fail
      exact bodyPost_end (results_none rfl _ _ _) rfl ⟨rfl, hF⟩
end Go.Proofs.Ytfkeljolpcbbkaa

/- Copy -/
namespace Go.Proofs.Ytfkeljolpcbbkaa
open Go.RowKit

def putL (g : Nat → Int) : Nat → List Int → Nat → Int
  | _, [] => g
  | o, a :: r => putL (upd g o a) (o + 1) r
theorem putL_at : ∀ (l : List Int) (g : Nat → Int) (o k : Nat), putL g o l k = if o ≤ k ∧ k < o + l.length then l.getD (k - o) 0 else g k
  | [], g, o, k => by rw [if_neg (by simp)]; rfl
  | a :: r, g, o, k => by
    rw [putL, putL_at r]
    by_cases h : k = o
    · subst h
      rw [if_neg (by omega), if_pos (by simp)]
      simp [upd]
    · by_cases h2 : o + 1 ≤ k ∧ k < o + 1 + r.length
      · rw [if_pos h2, if_pos (by simp; omega), show k - o = (k - (o + 1)) + 1 by omega, List.getD_cons_succ]
      · rw [if_neg h2, if_neg (by simp; omega)]
        unfold upd; rw [if_neg h]
theorem putL_range (g f : Nat → Int) (n k : Nat) : putL g 0 ((List.range n).map f) k = if k < n then f k else g k := by
  rw [putL_at]
  by_cases h : k < n
  · rw [if_pos (by simpa using h), if_pos h]; simp [List.getD, h]
  · rw [if_neg (by simpa using h), if_neg h]
theorem blk_put {B m : Nat} {t : TypeId} : ∀ (l : List Int) (w : World) (g : Nat → Int) (o : Nat), Blk w B (rowA m g) t → o + l.length ≤ m → Blk (w.setCells B o (l.map (Value.int .i64))) B (rowA m (putL g o l)) t
  | [], _, _, _, h, _ => h
  | a :: r, w, g, o, h, hm => by
    rw [List.map_cons, World.setCells, putL]
    exact blk_put r _ _ _ (h.setI (by simp at hm; omega) a) (by simp at hm; omega)
theorem blk_put_other {B C : Nat} {c : Array Value} {t : TypeId} (hne : C ≠ B) : ∀ (l : List Value) (w : World) (o : Nat), Blk w C c t → Blk (w.setCells B o l) C c t
  | [], _, _, h => h
  | v :: r, w, o, h => by
    rw [World.setCells]
    exact blk_put_other hne r _ _ (h.other hne v)
theorem FlW.put {p o B : Nat} {h : Bool} {w w1 : World} (k : FlW p o h w w1) (hB : w.heap.size ≤ B) (q : Nat) (l : List Value) : FlW p o h w (w1.setCells B q l) := ⟨Below.setCells hB l q w1 k.out⟩
theorem put_size (B o : Nat) (l : List Value) (w : World) : (w.setCells B o l).heap.size = w.heap.size := heap_setCells B l o w
def putR (w : World) (B n : Nat) (f : Nat → Int) : World := w.setCells B 0 (((List.range n).map f).map (Value.int .i64))
theorem putR_blk {w : World} {B n m : Nat} {f g : Nat → Int} {t : TypeId} (h : Blk w B (rowA m g) t) (hn : n ≤ m) : Blk (putR w B n f) B (rowA m fun k => if k < n then f k else g k) t :=
  (blk_put ((List.range n).map f) w g 0 h (by simpa using hn)).congr fun k _ => putL_range g f n k
theorem putR_other {w : World} {B C n : Nat} {f : Nat → Int} {c : Array Value} {t : TypeId} (h : Blk w C c t) (hne : C ≠ B) : Blk (putR w B n f) C c t := blk_put_other hne _ _ _ h
theorem FlW.putR {p o B n : Nat} {f : Nat → Int} {h : Bool} {w w1 : World} (k : FlW p o h w w1) (hB : w.heap.size ≤ B) : FlW p o h w (putR w1 B n f) := k.put hB 0 _
theorem putR_size (w : World) (B n : Nat) (f : Nat → Int) : (putR w B n f).heap.size = w.heap.size := put_size _ _ _ _
section
variable {P : Program} (w : World)
theorem run_put (t ty e : TypeId) (hu : P.underlying t = some (.slice e)) (hs : (P.info? e).map (·.size) = some 1) (B n c A ao s sc N : Nat) (f : Nat → Int) {m : Nat} {g : Nat → Int} {bt : TypeId} (hN : Nat.min s n = N) (hB : Blk w B (rowA m g) bt) (hm : N ≤ m) (hf : Ints w A ao N f) :
    (Builtin.copy_ #[t, t] ty #[.slice (some ⟨B, 0, none⟩) n c, .slice (some ⟨A, ao, none⟩) s sc]).run P w = .ok (goInt N) (putR w B N f) := by
  subst hN
  have h := run_copy_cells (P := P) w t t ty e B 0 n c ⟨A, ao, none⟩ s sc (((List.range (Nat.min s n)).map f).map (Value.int .i64)) hu hs (by simp)
    (fun j v hv => by
      rw [show ((⟨A, ao, none⟩ : Addr).add j) = ⟨A, ao + j, none⟩ from Addr.add_mid A ao j]
      by_cases hj : j < Nat.min s n
      · rw [List.getElem?_map, List.getElem?_map, List.getElem?_range hj] at hv
        injection hv with hv
        rw [← hv]; exact hf.at_ j hj
      · rw [List.getElem?_eq_none (by simpa using hj)] at hv; cases hv)
    (fun j hj => by
      rw [Nat.zero_add, hB.cell, rowA_get _ (by simp at hj; omega)]; rfl)
    (fun j _ => hB.free _)
    (fun v hv => by
      obtain ⟨a, _, rfl⟩ := List.mem_map.1 hv
      rfl)
  rw [h]
  simp [putR]
theorem step_put {ops : Array Oper} {o : Oper} {a : Act} {K : Act → World → Prop} {Q : Exit → Act → World → Prop} {E : Prop} (hgd : o.guard = none) (x y : Operand) (t : TypeId)
    (ho : o.op = .call { callee := .builtin .copy, args := #[x, y], argTypes := #[t, t] }) (e : TypeId) (hu : P.underlying t = some (.slice e)) (hs : (P.info? e).map (·.size) = some 1) (B n c A ao s sc N : Nat) (f : Nat → Int) (hx : a.eval x = .slice (some ⟨B, 0, none⟩) n c) (hy : a.eval y = .slice (some ⟨A, ao, none⟩) s sc)
    {m : Nat} {g : Nat → Int} {bt : TypeId} (hN : Nat.min s n = N) (hB : Blk w B (rowA m g) bt) (hm : N ≤ m) (hf : Ints w A ao N f)
    (h : K (a.put o.dst (goInt N)) (putR w B N f)) :
    if Region.wanted o (yielded ops a.tmps) = true then Oper.wp P o a w K Q else E := by
  have hw : Region.wanted o (yielded ops a.tmps) = true := by simp [Region.wanted, hgd]
  rw [if_pos hw]
  unfold Oper.wp execOp
  simp only [ho, resolve, invoke, builtin, Sem.run_bind, Sem.run_pure, Result.andThen_ok, List.map_toArray, List.map_cons, List.map_nil, hx, hy, run_put (P := P) w t o.type e hu hs B n c A ao s sc N f hN hB hm hf]
  exact h
theorem own_put {ops : Array Oper} {rest : List Oper} {o : Oper} {a : Act} {Q : Exit → Act → World → Prop} (hgd : o.guard = none) (x y : Operand) (t : TypeId)
    (ho : o.op = .call { callee := .builtin .copy, args := #[x, y], argTypes := #[t, t] }) (e : TypeId) (hu : P.underlying t = some (.slice e)) (hs : (P.info? e).map (·.size) = some 1) (B n c A ao s sc N : Nat) (f : Nat → Int) (hx : a.eval x = .slice (some ⟨B, 0, none⟩) n c) (hy : a.eval y = .slice (some ⟨A, ao, none⟩) s sc)
    {m : Nat} {g : Nat → Int} {bt : TypeId} (hN : Nat.min s n = N) (hB : Blk w B (rowA m g) bt) (hm : N ≤ m) (hf : Ints w A ao N f)
    (h : wpList P ops Q rest (a.put o.dst (goInt N)) (putR w B N f)) : wpList P ops Q (o :: rest) a w := by
  refine wpList_plain hgd fun K hK => ?_
  unfold Oper.wp execOp
  simp only [ho, resolve, invoke, builtin, Sem.run_bind, Sem.run_pure, Result.andThen_ok, List.map_toArray, List.map_cons, List.map_nil, hx, hy, run_put (P := P) w t o.type e hu hs B n c A ao s sc N f hN hB hm hf]
  exact hK _ _ h
end
end Go.Proofs.Ytfkeljolpcbbkaa

/- ThoC -/
namespace Go.Proofs.Ytfkeljolpcbbkaa
open Go.RowKit

theorem zero48 : (#[.int .i64 0, .int .i64 0, .int .i64 0, .int .i64 0, .int .i64 0, .int .i64 0, .int .i64 0, .int .i64 0, .int .i64 0, .int .i64 0, .int .i64 0, .int .i64 0, .int .i64 0, .int .i64 0, .int .i64 0, .int .i64 0, .int .i64 0, .int .i64 0, .int .i64 0, .int .i64 0, .int .i64 0, .int .i64 0, .int .i64 0, .int .i64 0, .int .i64 0, .int .i64 0, .int .i64 0, .int .i64 0, .int .i64 0, .int .i64 0, .int .i64 0, .int .i64 0, .int .i64 0, .int .i64 0, .int .i64 0, .int .i64 0, .int .i64 0, .int .i64 0, .int .i64 0, .int .i64 0, .int .i64 0, .int .i64 0, .int .i64 0, .int .i64 0, .int .i64 0, .int .i64 0, .int .i64 0, .int .i64 0] : Array Value) = rowA 48 (fun _ => 0) := by kernel_rfl
def upTo (f : Nat → Int) (t : Nat) : Nat → Int := fun k => if k < t then f k else 0
theorem upTo_zero (f : Nat → Int) : upTo f 0 = fun _ => 0 := by funext k; unfold upTo; rw [if_neg (by omega)]
theorem upTo_next (f : Nat → Int) (t : Nat) : upd (upTo f t) t (f t) = upTo f (t + 1) := by
  funext k; unfold upd upTo
  by_cases h : k = t
  · subst h; rw [if_pos rfl, if_pos (by omega)]
  · rw [if_neg h]
    by_cases h2 : k < t
    · rw [if_pos h2, if_pos (by omega)]
    · rw [if_neg h2, if_neg (by omega)]
theorem upTo_all {f : Nat → Int} {n k : Nat} (h : k < n) : upTo f n k = f k := by unfold upTo; rw [if_pos h]
set_option maxHeartbeats 2000000 in
theorem weighed_any (p o B E i eo : Nat) (W e : Nat → Int) (h : Bool) (w : World) (fl : Fl p o h w) (hB : B < w.heap.size) (hE : E < w.heap.size) (hBp : B ≠ p) (hEp : E ≠ p) (hx : Ints w B i 48 W) (hy : Ints w E eo 48 e) :
    Calls Try.prog 165 #[.pointer (some ⟨p, o, none⟩), .pointer (some ⟨B, i, none⟩), .pointer (some ⟨E, eo, none⟩)] w fun e' w' => e' = .returned (.agg (rowA 48 fun k => mulv (W k) (e k))) ∧ FlW p o (h || anyN (fun k => mulh (W k) (e k)) 48) w w' := by
  have hpw := fl.lt
  go_enter Try.func165, Try.ntmps165
  go_upto_region 2 with (fail)
  rw [zero48]
  generalize hW : World.alloc (World.alloc w _) _ = X
  have hF : FlW p o (h || anyN (fun k => mulh (W k) (e k)) 0) w X := by subst hW; exact flag_is (by simp [anyN]) (((FlW.refl fl).alloc _).alloc _)
  have hR : Blk X w.heap.size (rowA 48 fun _ => 0) 167 := by subst hW; exact (Blk.made _ _ _ rfl).alloc _
  have hY : Blk X (w.heap.size + 1) (rowA 48 (upTo (fun k => mulv (W k) (e k)) 0)) 167 := by subst hW; rw [upTo_zero]; exact Blk.made _ _ _ (by simp)
  have hz : w.heap.size + 1 < X.heap.size := by subst hW; simp
  clear hW
  go_wp2_with fail
  go_loopw [9] (fun i' wr => ∃ k : Nat, k ≤ 48 ∧ i' = .int .i64 k ∧ FlW p o (h || anyN (fun k => mulh (W k) (e k)) k) w wr ∧ w.heap.size + 1 < wr.heap.size ∧ Blk wr w.heap.size (rowA 48 fun _ => 0) 167 ∧ Blk wr (w.heap.size + 1) (rowA 48 (upTo (fun k => mulv (W k) (e k)) k)) 167) (fun i' _ => 48 - (intOf i').toNat)
  case atStart => exact ⟨0, by omega, rfl, hF, hz, hR, hY⟩
  case round =>
    obtain ⟨k, hk, rfl, hF, hz, hR, hY⟩ := hrel
    have fr := hF.fl fl
    by_cases hlt : k < 48
    · have hltI : (k : Int) < 48 := by omega
      have hk0 : (0 : Int) ≤ (k : Int) := by omega
      have c1 := (hF.cell (b := B) (i := i + k) hB (.inl hBp)).trans (hx.at_ k hlt)
      have c2 := (hF.cell (b := E) (i := eo + k) hE (.inl hEp)).trans (hy.at_ k hlt)
      have HA := Lib.hid (show anyN (fun k => mulh (W k) (e k)) (k + 1) = (anyN (fun k => mulh (W k) (e k)) k || mulh (W k) (e k)) from rfl)
      have HN := Lib.hid (upTo_next (fun k => mulv (W k) (e k)) k)
      have H := Lib.hid (And.intro hF (And.intro hR hY))
      clear hF hR hY
      go_wp2_with fail
      go_region_with (first
        | (go_at_call 45; refine (mul_mulv p o (W k) (e k) _ _ fr.drew).mono ?_; rintro e' w4 ⟨rfl, kk⟩; have hY4 := H.out.2.2.drew.flag (by omega) kk; have hc := hY4.cell k; rw [rowA_get _ hlt] at hc; have hf := hY4.free k; have hz4 := kk.size))
      all_goals
        obtain ⟨hF, hR, hY⟩ := H.out
        clear H
        have hR4 := hR.drew.flag (by omega) kk
        have hY5 := hY4.setI (k := k) hlt (mulv (W k) (e k))
        rw [HN.out] at hY5
        have hF5 := (hF.drew.trans kk).other (b := w.heap.size + 1) (i := k) (by omega) (.int .i64 (mulv (W k) (e k)))
        have hR5 := hR4.other (b := w.heap.size + 1) (i := k) (by omega) (.int .i64 (mulv (W k) (e k)))
        have H := Lib.hid (And.intro hR5 (And.intro hF5 hY5))
        clear hR5 hF5 hY5 hR hF hY hR4 hY4
        go_wp2_with fail
        go_roundw
        case rel =>
          obtain ⟨hR5, hF5, hY5⟩ := H.out
          exact ⟨k + 1, by omega, by go_num, flag_is (by rw [HA.out, Bool.or_assoc]) hF5, by rw [size_set]; simp at hz4; omega, hR5, hY5⟩
        case measure => simp [intOf]; omega
    · obtain rfl : k = 48 := by omega
      clear hlt hk
      have hY := hY.congr (fun j hj => upTo_all hj)
      go_wp2_with (first
        | (refine row_load 167 _ rfl rfl (w.heap.size + 1) 48 _ _ rfl hY _ Try.underlying167 rfl lineSize ?_)
        | (refine row_store 167 _ _ rfl rfl w.heap.size 48 _ _ _ rfl rfl hR lineSize ?_))
      exact bodyPost_ret (v := .agg (rowA 48 fun k => mulv (W k) (e k))) (results_row rfl _ _ w.heap.size 48 _ _ _ rfl hR.setRow Try.underlying167 rfl lineSize) rfl ⟨rfl, hF.row (by omega) _⟩
end Go.Proofs.Ytfkeljolpcbbkaa

/- ThoD -/
namespace Go.Proofs.Ytfkeljolpcbbkaa
open Go.RowKit

def weiP (f q : Nat → Int) (t : Nat) : Nat → Int := fun k => if k < 24 then f (276 + k) else if k < 24 + t then clampv (q (k - 24)) 0 72057594037927936 else 0
theorem weiP_next (f q : Nat → Int) (t : Nat) : upd (weiP f q t) (24 + t) (clampv (q t) 0 72057594037927936) = weiP f q (t + 1) := by
  funext k; unfold upd weiP
  by_cases h : k = 24 + t
  · subst h; rw [if_pos rfl, if_neg (by omega), if_pos (by omega), show 24 + t - 24 = t by omega]
  · rw [if_neg h]
    by_cases h2 : k < 24
    · rw [if_pos h2, if_pos h2]
    · rw [if_neg h2, if_neg h2]
      by_cases h3 : k < 24 + t
      · rw [if_pos h3, if_pos (by omega)]
      · rw [if_neg h3, if_neg (by omega)]
theorem weiP_all (f q : Nat → Int) {k : Nat} (hk : k < 48) : weiP f q 24 k = wei f q k := by
  unfold weiP wei
  by_cases h : k < 24
  · rw [if_pos h, if_pos h]
  · rw [if_neg h, if_neg h, if_pos (by omega)]
theorem weiP_zero (f q : Nat → Int) (k : Nat) : (if k < 24 then f (276 + k) else 0) = weiP f q 0 k := by
  unfold weiP
  by_cases h : k < 24
  · rw [if_pos h, if_pos h]
  · rw [if_neg h, if_neg h, if_neg (by omega)]
set_option maxHeartbeats 2000000 in
theorem weights_any (p o : Nat) (f q : Nat → Int) (h : Bool) (w : World) (fl : Fl p o h w) :
    Calls Try.prog 164 #[.pointer (some ⟨p, o, none⟩), .agg (rowA 300 f), .agg (rowA 24 q)] w fun e w' => e = .returned (.agg (rowA 48 (wei f q))) ∧ FlW p o (h || anyN (fun k => clamph (q k) 0 72057594037927936) 24) w w' := by
  have hpw := fl.lt
  go_enter Try.func164, Try.ntmps164
  go_upto_region 2 with (fail)
  rw [zero48]
  generalize hW : World.alloc (World.alloc (World.alloc (World.alloc w _) _) _) _ = X
  have hF : FlW p o (h || anyN (fun k => clamph (q k) 0 72057594037927936) 0) w X := by subst hW; exact flag_is (by simp [anyN]) (((((FlW.refl fl).alloc _).alloc _).alloc _).alloc _)
  have hP : Blk X w.heap.size (rowA 300 f) 93 := by subst hW; exact (((Blk.made _ _ _ rfl).alloc _).alloc _).alloc _
  have hQ : Blk X (w.heap.size + 1) (rowA 24 q) 91 := by subst hW; exact ((Blk.made _ _ _ (by simp)).alloc _).alloc _
  have hR : Blk X (w.heap.size + 2) (rowA 48 fun _ => 0) 167 := by subst hW; exact (Blk.made _ _ _ (by simp)).alloc _
  have hE : Blk X (w.heap.size + 3) (rowA 48 fun _ => 0) 167 := by subst hW; exact Blk.made _ _ _ (by simp)
  have hz : w.heap.size + 3 < X.heap.size := by subst hW; simp
  clear hW
  have hE' := hE.drew
  have hI' : Ints X.drew w.heap.size 276 24 (fun i => f (276 + i)) := (hP.ints.part 276 24 (by omega)).drew
  go_region_law (first
    | (have _t := hI'; refine step_put _ ?_ (.tmp 10) (.tmp 12) 63 ?_ 2 Try.underlying63 numSize (w.heap.size + 3) 48 48 w.heap.size 276 24 24 24 (fun i => f (276 + i)) ?_ ?_ ?_ hE' ?_ hI' ?_; rfl; rfl; rfl; rfl; rfl; decide))
  have hEy : Blk (putR X.drew (w.heap.size + 3) 24 fun i => f (276 + i)) (w.heap.size + 3) (rowA 48 (weiP f q 0)) 167 := (putR_blk hE' (by decide)).congr fun k _ => weiP_zero f q k
  have hRy := putR_other (B := w.heap.size + 3) (n := 24) (f := fun i => f (276 + i)) hR.drew (by omega)
  have hQy := putR_other (B := w.heap.size + 3) (n := 24) (f := fun i => f (276 + i)) hQ.drew (by omega)
  have hFy := hF.drew.putR (B := w.heap.size + 3) (n := 24) (f := fun i => f (276 + i)) (by omega)
  have hzy : w.heap.size + 3 < (putR X.drew (w.heap.size + 3) 24 fun i => f (276 + i)).heap.size := by rw [putR_size]; exact hz
  clear hE hE' hR hQ hP hI' hF hz
  generalize putR _ _ _ _ = Y at *
  go_wp2_with (refine row_load 91 _ rfl rfl (w.heap.size + 1) 24 _ _ rfl hQy _ Try.underlying91 rfl rowDSize ?_)
  clear hQy
  go_loopw [15] (fun i' wr => ∃ k : Nat, k ≤ 24 ∧ i' = .int .i64 k ∧ FlW p o (h || anyN (fun k => clamph (q k) 0 72057594037927936) k) w wr ∧ w.heap.size + 3 < wr.heap.size ∧ Blk wr (w.heap.size + 2) (rowA 48 fun _ => 0) 167 ∧ Blk wr (w.heap.size + 3) (rowA 48 (weiP f q k)) 167) (fun i' _ => 24 - (intOf i').toNat)
  case atStart => exact ⟨0, by omega, rfl, hFy, hzy, hRy, hEy⟩
  case round =>
    clear hFy hzy hRy hEy
    obtain ⟨k, hk, rfl, hF, hz, hR, hE⟩ := hrel
    have fr := hF.fl fl
    by_cases hlt : k < 24
    · have hltI : (k : Int) < 24 := by omega
      have hk0 : (0 : Int) ≤ (k : Int) := by omega
      go_wp2_with (refine index_row 91 _ _ rfl rfl (n := 24) (j := k) _ rfl rfl Try.underlying91 Try.underlying2 numSize hlt ?_)
      refine (clamp_any p o (q k) _ _ _ _ fr).mono ?_
      rintro e w4 ⟨rfl, kk⟩
      have hE4 := hE.flag (by omega) kk
      have hR4 := hR.flag (by omega) kk
      have hc := hE4.cell (24 + k)
      rw [rowA_get _ (by omega)] at hc
      have hf := hE4.free (24 + k)
      have hz4 := kk.size
      have hE5 := hE4.setI (k := 24 + k) (by omega) (clampv (q k) 0 72057594037927936)
      rw [weiP_next] at hE5
      have hF5 := (hF.trans kk).other (b := w.heap.size + 3) (i := 24 + k) (by omega) (.int .i64 (clampv (q k) 0 72057594037927936))
      have hR5 := hR4.other (b := w.heap.size + 3) (i := 24 + k) (by omega) (.int .i64 (clampv (q k) 0 72057594037927936))
      have H := Lib.hid (And.intro hE5 (And.intro hF5 hR5))
      clear hE5 hF5 hR5 hE hR hF hE4 hR4
      go_wp2_with fail
      go_roundw
      case rel =>
        obtain ⟨hE5, hF5, hR5⟩ := H.out
        exact ⟨k + 1, by omega, by go_num, flag_is (by simp [anyN, Bool.or_assoc]) hF5, by rw [size_set]; omega, hR5, hE5⟩
      case measure => simp [intOf]; omega
    · obtain rfl : k = 24 := by omega
      clear hlt hk
      have hE := hE.congr (fun j hj => weiP_all f q hj)
      go_wp2_with (first
        | (refine row_load 167 _ rfl rfl (w.heap.size + 3) 48 _ _ rfl hE _ Try.underlying167 rfl lineSize ?_)
        | (refine row_store 167 _ _ rfl rfl (w.heap.size + 2) 48 _ _ _ rfl rfl hR lineSize ?_))
      exact bodyPost_ret (v := .agg (rowA 48 (wei f q))) (results_row rfl _ _ (w.heap.size + 2) 48 _ _ _ rfl hR.setRow Try.underlying167 rfl lineSize) rfl ⟨rfl, hF.row (by omega) _⟩
end Go.Proofs.Ytfkeljolpcbbkaa

/- ThoE -/
namespace Go.Proofs.Ytfkeljolpcbbkaa
open Go.RowKit

theorem made_row (n : Nat) : madeCells #[.int .i64 0] n = rowA n fun _ => 0 := by
  refine Array.ext_getElem? fun i => ?_
  by_cases hi : i < n
  · rw [rowA_get _ hi]
    simp [madeCells, hi, Nat.mod_one]
  · rw [rowA_none _ (by omega), Array.getElem?_eq_none (by rw [size_madeCells]; omega)]
theorem make_row {P : Program} {ops : Array Oper} {rest : List Oper} {o : Oper} {a : Act} {w : World} {Q : Exit → Act → World → Prop} (t : TypeId) (x y : Operand) (hgd : o.guard = none) (ho : o.op = .makeSlice t x y) (e : TypeId) (ht : P.underlying t = some (.slice e))
    (hi : (P.info? e).map (fun i => (i.zero, i.size, i.bytes)) = some (some (.int .i64 0), 1, 8)) (n : Nat) (hn : n ≤ 1000000) (hx : a.eval x = .int .i64 (n : Int)) (hy : a.eval y = .int .i64 (n : Int))
    (h : wpList P ops Q rest (a.put o.dst (.slice (some ⟨w.heap.size, 0, none⟩) n n)) (w.alloc (.cells (rowA n fun _ => 0) e))) : wpList P ops Q (o :: rest) a w := by
  refine wpList_plain hgd fun K hK => ?_
  obtain ⟨i, h1, h2, h3, h4⟩ := info_parts hi
  have hr := run_make (P := P) w t e i (.int .i64 0) ht h1 h2 .i64 .i64 (n : Int) (n : Int) (by omega) (Int.le_refl _) (by rw [h4]; omega) (by omega)
  rw [h3, Int.toNat_natCast, Nat.mul_one, show (Value.int .i64 0).cells = #[.int .i64 0] from rfl, made_row] at hr
  unfold Oper.wp execOp
  simp only [ho, hx, hy, Sem.run_bind, Sem.run_pure, Result.andThen_ok, hr]
  exact hK _ _ h
set_option maxHeartbeats 2000000 in
theorem column_any (f : Nat → Int) (k : Nat) (hk : k < 24) (w : World) :
    Calls Try.prog 189 #[.agg (rowA 300 f), .int .i64 k] w fun e w' => ∃ g, e = .returned (.slice (some ⟨g, 0, none⟩) (k + 1) (k + 1)) ∧ w.heap.size ≤ g ∧ g < w'.heap.size ∧ Ints w' g 0 (k + 1) (fun t => uF f (t : Int) (k : Int)) ∧ Below w.heap.size w w' := by
  go_enter Try.func189, Try.ntmps189
  go_wp2_with ((with_reducible refine make_row 63 (.tmp 8) (.tmp 8) ?_ ?_ 2 Try.underlying63 numInfo (k + 1) ?_ ?_ ?_ ?_); rfl; rfl; omega; rfl; rfl)
  generalize hW : World.alloc (World.alloc w _) _ = X
  have hb : Below w.heap.size w X := by subst hW; exact ((Below.refl _ _).alloc (Nat.le_refl _) _).alloc (by simp) _
  have hP : Blk X w.heap.size (rowA 300 f) 93 := by subst hW; exact (Blk.made _ _ _ rfl).alloc _
  have hL : Blk X (w.heap.size + 1) (rowA (k + 1) (upTo (fun t => uF f (t : Int) (k : Int)) 0)) 2 := by subst hW; rw [upTo_zero]; exact Blk.made _ _ _ (by simp)
  clear hW
  go_loopw [12] (fun i' wr => ∃ t : Nat, t ≤ k + 1 ∧ i' = .int .i64 t ∧ Below w.heap.size w wr ∧ Blk wr w.heap.size (rowA 300 f) 93 ∧ Blk wr (w.heap.size + 1) (rowA (k + 1) (upTo (fun t => uF f (t : Int) (k : Int)) t)) 2) (fun i' _ => k + 1 - (intOf i').toNat)
  case atStart => exact ⟨0, by omega, rfl, hb, hP, hL⟩
  case round =>
    clear hb hP hL
    obtain ⟨t, ht, rfl, hb, hP, hL⟩ := hrel
    by_cases hlt : t < k + 1
    · have hltI : (t : Int) < (k : Int) + 1 := by omega
      have hk0 : (0 : Int) ≤ (t : Int) := by omega
      have HN := Lib.hid (upTo_next (fun t => uF f (t : Int) (k : Int)) t)
      go_wp2_with (refine row_load 93 _ rfl rfl w.heap.size 300 _ _ rfl hP _ Try.underlying93 rfl covSize ?_)
      refine (triU_any f t k wr).mono ?_
      rintro e w4 ⟨rfl, hb4⟩
      have hP4 := hP.call hb4
      have hL4 := hL.call hb4
      have hB4 := hb.trans (hb4.mono hb.size)
      have hc := hL4.cell t
      rw [rowA_get _ (by omega)] at hc
      have hf := hL4.free t
      have hL5 := hL4.setI (k := t) (by omega) (uF f (t : Int) (k : Int))
      rw [HN.out] at hL5
      have hB5 := hB4.setCell (p := ⟨w.heap.size + 1, t, none⟩) (by simp) (.int .i64 (uF f (t : Int) (k : Int)))
      have hP5 := hP4.other (b := w.heap.size + 1) (i := t) (by omega) (.int .i64 (uF f (t : Int) (k : Int)))
      have H := Lib.hid (And.intro hB5 (And.intro hP5 hL5))
      clear hB5 hP5 hL5 hB4 hP4 hL4 hb hP hL hb4
      go_wp2_with fail
      go_roundw
      case rel =>
        obtain ⟨hB5, hP5, hL5⟩ := H.out
        exact ⟨t + 1, by omega, by go_num, hB5, hP5, hL5⟩
      case measure => simp [intOf]; omega
    · obtain rfl : t = k + 1 := by omega
      have hlast : ¬ ((k : Int) + 1 < (k : Int) + 1) := by omega
      have hl := hL.lt
      clear hlt ht
      go_wp2_with fail
      go_ret
      exact ⟨w.heap.size + 1, rfl, by omega, hl, hL.ints.congr (fun j hj => upTo_all hj), hb⟩
end Go.Proofs.Ytfkeljolpcbbkaa

/- ThoG -/
namespace Go.Proofs.Ytfkeljolpcbbkaa
open Go.RowKit

def satP (g : Nat → Int) (n : Nat) : Nat → Int := fun q => if q < n then satv (g q) else g q
theorem satP_zero (g : Nat → Int) : satP g 0 = g := by funext q; unfold satP; rw [if_neg (by omega)]
theorem satP_self (g : Nat → Int) (n : Nat) : satP g n n = g n := by unfold satP; rw [if_neg (by omega)]
theorem satP_next (g : Nat → Int) (n : Nat) : upd (satP g n) n (satv (g n)) = satP g (n + 1) := by
  funext q; unfold upd satP
  by_cases h : q = n
  · subst h; rw [if_pos rfl, if_pos (by omega)]
  · rw [if_neg h]
    by_cases h2 : q < n
    · rw [if_pos h2, if_pos (by omega)]
    · rw [if_neg h2, if_neg (by omega)]
theorem satP_all (g : Nat → Int) {q n : Nat} (h : q < n) : satP g n q = sat576 g q := by unfold satP sat576; rw [if_pos h]
def oneP (i : Nat) : Nat → Int := fun q => if q % 48 = 24 + q / 48 ∧ q / 48 < i then 1073741824 else 0
theorem oneP_zero : oneP 0 = fun _ => 0 := by funext q; unfold oneP; rw [if_neg (by omega)]
theorem oneP_next {i : Nat} (hi : i < 24) : upd (oneP i) (48 * i + (24 + i)) 1073741824 = oneP (i + 1) := by
  funext q; unfold upd oneP
  by_cases h : q = 48 * i + (24 + i)
  · subst h; rw [if_pos rfl, if_pos (by omega)]
  · rw [if_neg h]
    by_cases h2 : q % 48 = 24 + q / 48 ∧ q / 48 < i
    · rw [if_pos h2, if_pos (by omega)]
    · rw [if_neg h2, if_neg (by omega)]
def rowP (p g : Nat → Int) (n : Nat → Nat) (k i : Nat) : Nat → Int := fun q =>
  if q % 48 < 24 ∧ (q % 48 < k ∨ (q % 48 = k ∧ q / 48 < i)) then dotv (fun t => g (24 * (q / 48) + t)) (fun t => uF p (t : Int) ((q % 48 : Nat) : Int)) (n (q % 48)) else if q % 48 = 24 + q / 48 then 1073741824 else 0
theorem rowP_zero (p g : Nat → Int) (n : Nat → Nat) {q : Nat} (hq : q < 1152) : oneP 24 q = rowP p g n 0 0 q := by
  unfold rowP oneP
  rw [if_neg (show ¬ (q % 48 < 24 ∧ (q % 48 < 0 ∨ (q % 48 = 0 ∧ q / 48 < 0))) by omega)]
  by_cases h : q % 48 = 24 + q / 48
  · rw [if_pos h, if_pos (by omega)]
  · rw [if_neg h, if_neg (by omega)]
theorem rowP_next (p g : Nat → Int) (n : Nat → Nat) {k i : Nat} (hk : k < 24) : upd (rowP p g n k i) (48 * i + k) (dotv (fun t => g (24 * i + t)) (fun t => uF p (t : Int) (k : Int)) (n k)) = rowP p g n k (i + 1) := by
  funext q; unfold upd rowP
  by_cases h : q = 48 * i + k
  · subst h
    rw [if_pos rfl, show (48 * i + k) % 48 = k by omega, show (48 * i + k) / 48 = i by omega, if_pos (by omega)]
  · rw [if_neg h]
    by_cases h2 : q % 48 < 24 ∧ (q % 48 < k ∨ (q % 48 = k ∧ q / 48 < i))
    · rw [if_pos h2, if_pos (by omega)]
    · rw [if_neg h2, if_neg (show ¬ (q % 48 < 24 ∧ (q % 48 < k ∨ (q % 48 = k ∧ q / 48 < i + 1))) by omega)]
theorem rowP_col (p g : Nat → Int) (n : Nat → Nat) {k q : Nat} (hq : q < 1152) : rowP p g n k 24 q = rowP p g n (k + 1) 0 q := by
  unfold rowP
  by_cases h2 : q % 48 < 24 ∧ (q % 48 < k ∨ (q % 48 = k ∧ q / 48 < 24))
  · rw [if_pos h2, if_pos (by omega)]
  · rw [if_neg h2, if_neg (show ¬ (q % 48 < 24 ∧ (q % 48 < k + 1 ∨ (q % 48 = k + 1 ∧ q / 48 < 0))) by omega)]
theorem rowP_all (p g : Nat → Int) (n : Nat → Nat) (q : Nat) : rowP p g n 24 0 q = rowW p g n q := by
  unfold rowP rowW
  by_cases h : q % 48 < 24
  · rw [if_pos h, if_pos (by omega)]
  · rw [if_neg h, if_neg (show ¬ (q % 48 < 24 ∧ (q % 48 < 24 ∨ (q % 48 = 24 ∧ q / 48 < 0))) by omega)]
theorem rowsH_at (p g : Nat → Int) (n : Nat → Nat) {i k : Nat} (hk : k < 24) : rowsH p g n (48 * i + k) = doth (fun t => g (i * 24 + t)) (fun t => uF p (t : Int) (k : Int)) (n k) := by
  unfold rowsH
  rw [show (48 * i + k) % 48 = k by omega, show (48 * i + k) / 48 = i by omega, Nat.mul_comm 24 i]
theorem rowP_step (p g : Nat → Int) (n : Nat → Nat) {k i : Nat} (hk : k < 24) : upd (rowP p g n k i) (i * 48 + k) (dotv (fun t => g (i * 24 + t)) (fun t => uF p (t : Int) (k : Int)) (n k)) = rowP p g n k (i + 1) := by
  rw [Nat.mul_comm i 48, Nat.mul_comm i 24]
  exact rowP_next p g n hk
end Go.Proofs.Ytfkeljolpcbbkaa

/- ThoF -/
namespace Go.Proofs.Ytfkeljolpcbbkaa
open Go.RowKit

set_option maxHeartbeats 4000000 in
theorem rows_any (p o : Nat) (f g : Nat → Int) (h : Bool) (w : World) (fl : Fl p o h w) :
    Calls Try.prog 163 #[.pointer (some ⟨p, o, none⟩), .agg (rowA 300 f), .agg (rowA 576 g)] w fun e w' => e = .returned (.agg (rowA 1152 (rowW f (sat576 g) fun k => k + 1))) ∧
      FlW p o (h || anyN (fun k => sath (g k)) 576 || anyN (fun k => anyN (fun i => rowsH f (sat576 g) (fun k => k + 1) (48 * i + k)) 24) 24) w w' := by
  have hpw := fl.lt
  go_enter Try.func163, Try.ntmps163
  go_upto_region 2 with (fail)
  rw [zeroRows]
  generalize hW : World.alloc (World.alloc (World.alloc (World.alloc w _) _) _) _ = X
  have hF : FlW p o (h || anyN (fun k => sath (g k)) (0 * 24)) w X := by subst hW; exact flag_is (by simp [anyN]) (((((FlW.refl fl).alloc _).alloc _).alloc _).alloc _)
  have hP : Blk X w.heap.size (rowA 300 f) 93 := by subst hW; exact (((Blk.made _ _ _ rfl).alloc _).alloc _).alloc _
  have hG : Blk X (w.heap.size + 1) (rowA 576 (satP g (0 * 24))) 110 := by subst hW; rw [satP_zero]; exact ((Blk.made _ _ _ (by simp)).alloc _).alloc _
  have hR : Blk X (w.heap.size + 2) (rowA 1152 fun _ => 0) 168 := by subst hW; exact (Blk.made _ _ _ (by simp)).alloc _
  have hL : Blk X (w.heap.size + 3) (rowA 1152 (oneP 0)) 168 := by subst hW; rw [oneP_zero]; exact Blk.made _ _ _ (by simp)
  have hz : w.heap.size + 3 < X.heap.size := by subst hW; simp
  clear hW
  go_wp2_with fail
  go_loopw [13] (fun i' wr => ∃ i : Nat, i ≤ 24 ∧ i' = .int .i64 i ∧ FlW p o (h || anyN (fun k => sath (g k)) (i * 24)) w wr ∧ w.heap.size + 3 < wr.heap.size ∧ Blk wr w.heap.size (rowA 300 f) 93 ∧ Blk wr (w.heap.size + 1) (rowA 576 (satP g (i * 24))) 110 ∧ Blk wr (w.heap.size + 2) (rowA 1152 fun _ => 0) 168 ∧ Blk wr (w.heap.size + 3) (rowA 1152 (oneP i)) 168) (fun i' _ => 24 - (intOf i').toNat)
  case atStart => exact ⟨0, by omega, rfl, hF, hz, hP, hG, hR, hL⟩
  case round =>
    clear hF hz hP hG hR hL
    obtain ⟨i, hi, rfl, hF, hz, hP, hG, hR, hL⟩ := hrel
    by_cases hlt : i < 24
    · have hltI : (i : Int) < 24 := by omega
      have hi0 : (0 : Int) ≤ (i : Int) := by omega
      go_wp2_with fail
      go_loopw [16] (fun k' wr => ∃ k : Nat, k ≤ 24 ∧ k' = .int .i64 k ∧ FlW p o (h || anyN (fun k => sath (g k)) (i * 24 + k)) w wr ∧ w.heap.size + 3 < wr.heap.size ∧ Blk wr w.heap.size (rowA 300 f) 93 ∧ Blk wr (w.heap.size + 1) (rowA 576 (satP g (i * 24 + k))) 110 ∧ Blk wr (w.heap.size + 2) (rowA 1152 fun _ => 0) 168 ∧ Blk wr (w.heap.size + 3) (rowA 1152 (oneP i)) 168) (fun k' _ => 24 - (intOf k').toNat)
      case atStart => exact ⟨0, by omega, rfl, hF, hz, hP, hG, hR, hL⟩
      case round =>
        clear hF hz hP hG hR hL
        obtain ⟨k, hk, rfl, hF, hz, hP, hG, hR, hL⟩ := hrel
        have fr := hF.fl fl
        by_cases hlk : k < 24
        · have hlkI : (k : Int) < 24 := by omega
          have hk0 : (0 : Int) ≤ (k : Int) := by omega
          have HN := Lib.hid (satP_next g (i * 24 + k))
          have HA := Lib.hid (show anyN (fun k => sath (g k)) (i * 24 + (k + 1)) = (anyN (fun k => sath (g k)) (i * 24 + k) || sath (g (i * 24 + k))) from rfl)
          have c1 := hG.cell (i * 24 + k)
          rw [rowA_get _ (by omega), satP_self] at c1
          have H := Lib.hid (And.intro hF (And.intro hP (And.intro hG (And.intro hR hL))))
          clear hF hP hG hR hL
          go_wp2_with fail
          go_region_with (first
            | (go_at_call 39; refine (sat_any p o (g (i * 24 + k)) _ _ fr.drew).mono ?_; rintro e w4 ⟨rfl, kk⟩; have hG4 := H.out.2.2.1.drew.flag (by omega) kk; have hc := hG4.cell (i * 24 + k); rw [rowA_get _ (by omega)] at hc; have hf := hG4.free (i * 24 + k); have hz4 := kk.size))
          all_goals
            obtain ⟨hF, hP, hG, hR, hL⟩ := H.out
            clear H
            have hG5 := hG4.setI (k := i * 24 + k) (by omega) (satv (g (i * 24 + k)))
            rw [HN.out] at hG5
            have hF5 := (hF.drew.trans kk).other (b := w.heap.size + 1) (i := i * 24 + k) (by omega) (.int .i64 (satv (g (i * 24 + k))))
            have hP5 := (hP.drew.flag (by omega) kk).other (b := w.heap.size + 1) (i := i * 24 + k) (by omega) (.int .i64 (satv (g (i * 24 + k))))
            have hR5 := (hR.drew.flag (by omega) kk).other (b := w.heap.size + 1) (i := i * 24 + k) (by omega) (.int .i64 (satv (g (i * 24 + k))))
            have hL5 := (hL.drew.flag (by omega) kk).other (b := w.heap.size + 1) (i := i * 24 + k) (by omega) (.int .i64 (satv (g (i * 24 + k))))
            have H := Lib.hid (And.intro hF5 (And.intro hP5 (And.intro hG5 (And.intro hR5 hL5))))
            clear hG5 hF5 hP5 hR5 hL5 hF hP hG hR hL hG4
            go_wp2_with fail
            go_roundw
            case rel =>
              obtain ⟨hF5, hP5, hG5, hR5, hL5⟩ := H.out
              exact ⟨k + 1, by omega, by go_num, flag_is (by rw [HA.out, Bool.or_assoc]) hF5, by rw [size_set]; simp at hz4; omega, hP5, hG5, hR5, hL5⟩
            case measure => simp [intOf]; omega
        · obtain rfl : k = 24 := by omega
          clear hlk hk
          have HO := Lib.hid (show upd (oneP i) (i * 48 + (24 + i)) 1073741824 = oneP (i + 1) by rw [Nat.mul_comm]; exact oneP_next hlt)
          have hc := hL.cell (i * 48 + (24 + i))
          rw [rowA_get _ (by omega)] at hc
          have hf := hL.free (i * 48 + (24 + i))
          have hL5 := hL.setI (k := i * 48 + (24 + i)) (by omega) 1073741824
          rw [HO.out] at hL5
          have hF5 := hF.other (b := w.heap.size + 3) (i := i * 48 + (24 + i)) (by omega) (.int .i64 1073741824)
          have hP5 := hP.other (b := w.heap.size + 3) (i := i * 48 + (24 + i)) (by omega) (.int .i64 1073741824)
          have hR5 := hR.other (b := w.heap.size + 3) (i := i * 48 + (24 + i)) (by omega) (.int .i64 1073741824)
          have hG5 := hG.other (b := w.heap.size + 3) (i := i * 48 + (24 + i)) (by omega) (.int .i64 1073741824)
          have H := Lib.hid (And.intro hF5 (And.intro hP5 (And.intro hG5 (And.intro hR5 hL5))))
          clear hG5 hF5 hP5 hR5 hL5 hF hP hG hR hL fr
          go_wp2_with fail
          go_roundw
          case rel =>
            obtain ⟨hF5, hP5, hG5, hR5, hL5⟩ := H.out
            exact ⟨i + 1, by omega, by go_num, (show i * 24 + 24 = (i + 1) * 24 by omega) ▸ hF5, by rw [size_set]; exact hz, hP5, (show i * 24 + 24 = (i + 1) * 24 by omega) ▸ hG5, hR5, hL5⟩
          case measure => simp [intOf]; omega
    · obtain rfl : i = 24 := by omega
      clear hlt hi
      go_wp2_with fail
      have hG := hG.congr (fun j hj => satP_all g hj)
      have hL : Blk wr (w.heap.size + 3) (rowA 1152 (rowP f (sat576 g) (fun k => k + 1) 0 0)) 168 := hL.congr (fun j hj => rowP_zero f (sat576 g) (fun k => k + 1) hj)
      have hF : FlW p o (h || anyN (fun k => sath (g k)) 576 || anyN (fun k => anyN (fun i => rowsH f (sat576 g) (fun k => k + 1) (48 * i + k)) 24) 0) w wr := flag_is (by show _ = (_ || false); rw [Bool.or_false]) hF
      go_loopw [37] (fun k' wr => ∃ k : Nat, k ≤ 24 ∧ k' = .int .i64 k ∧ FlW p o (h || anyN (fun k => sath (g k)) 576 || anyN (fun k => anyN (fun i => rowsH f (sat576 g) (fun k => k + 1) (48 * i + k)) 24) k) w wr ∧ w.heap.size + 3 < wr.heap.size ∧ Blk wr w.heap.size (rowA 300 f) 93 ∧ Blk wr (w.heap.size + 1) (rowA 576 (sat576 g)) 110 ∧ Blk wr (w.heap.size + 2) (rowA 1152 fun _ => 0) 168 ∧ Blk wr (w.heap.size + 3) (rowA 1152 (rowP f (sat576 g) (fun k => k + 1) k 0)) 168) (fun k' _ => 24 - (intOf k').toNat)
      case atStart => exact ⟨0, by omega, rfl, hF, hz, hP, hG, hR, hL⟩
      case round =>
        clear hF hz hP hG hR hL
        obtain ⟨k, hk, rfl, hF, hz, hP, hG, hR, hL⟩ := hrel
        by_cases hlt : k < 24
        · have hltI : (k : Int) < 24 := by omega
          have hk0 : (0 : Int) ≤ (k : Int) := by omega
          go_wp2_with (refine row_load 93 _ rfl rfl w.heap.size 300 _ _ rfl hP _ Try.underlying93 rfl covSize ?_)
          refine (column_any f k hlt _).mono ?_
          rintro e w4 ⟨b, rfl, hb0, hb1, hI, hb4⟩
          have hF4 : FlW p o (h || anyN (fun k => sath (g k)) 576 || anyN (fun k => anyN (fun i => rowsH f (sat576 g) (fun k => k + 1) (48 * i + k)) 24) k || anyN (fun i => rowsH f (sat576 g) (fun k => k + 1) (48 * i + k)) 0) w w4 := flag_is (by show _ = (_ || false); rw [Bool.or_false]) (hF.then hb4)
          have hP4 := hP.call hb4
          have hG4 := hG.call hb4
          have hR4 := hR.call hb4
          have hL4 := hL.call hb4
          have hz4 : w.heap.size + 3 < w4.heap.size := Nat.lt_of_lt_of_le hz hb4.size
          have hbz : w.heap.size + 3 < b := Nat.lt_of_lt_of_le hz hb0
          clear hF hP hG hR hL hb4 hb0 hz
          go_wp2_with fail
          go_loopw [43] (fun i' wr => ∃ i : Nat, i ≤ 24 ∧ i' = .int .i64 i ∧ FlW p o (h || anyN (fun k => sath (g k)) 576 || anyN (fun k => anyN (fun i => rowsH f (sat576 g) (fun k => k + 1) (48 * i + k)) 24) k || anyN (fun i => rowsH f (sat576 g) (fun k => k + 1) (48 * i + k)) i) w wr ∧ w.heap.size + 3 < wr.heap.size ∧ b < wr.heap.size ∧ Ints wr b 0 (k + 1) (fun t => uF f (t : Int) (k : Int)) ∧ Blk wr w.heap.size (rowA 300 f) 93 ∧ Blk wr (w.heap.size + 1) (rowA 576 (sat576 g)) 110 ∧ Blk wr (w.heap.size + 2) (rowA 1152 fun _ => 0) 168 ∧ Blk wr (w.heap.size + 3) (rowA 1152 (rowP f (sat576 g) (fun k => k + 1) k i)) 168) (fun i' _ => 24 - (intOf i').toNat)
          case atStart => exact ⟨0, by omega, rfl, hF4, hz4, hb1, hI, hP4, hG4, hR4, hL4⟩
          case round =>
            clear hF4 hz4 hb1 hI hP4 hG4 hR4 hL4
            obtain ⟨i, hi, rfl, hF, hz, hb1, hI, hP, hG, hR, hL⟩ := hrel
            have fr := hF.fl fl
            by_cases hli : i < 24
            · have hliI : (i : Int) < 24 := by omega
              have hi0 : (0 : Int) ≤ (i : Int) := by omega
              have hk48 : (k : Int) < 48 := by omega
              have HN := Lib.hid (rowP_step f (sat576 g) (fun k => k + 1) (k := k) (i := i) hlt)
              have HA := Lib.hid (show anyN (fun i => rowsH f (sat576 g) (fun k => k + 1) (48 * i + k)) (i + 1) = (anyN (fun i => rowsH f (sat576 g) (fun k => k + 1) (48 * i + k)) i || (anyP (fun t => sat576 g (i * 24 + t)) (fun t => uF f (t : Int) (k : Int)) (k + 1) || sath (rnd (sumP (fun t => sat576 g (i * 24 + t)) (fun t => uF f (t : Int) (k : Int)) (k + 1)) 30))) by
                rw [anyN, rowsH_at f (sat576 g) (fun k => k + 1) hlt]; rfl)
              have hxs : Ints wr.drew (w.heap.size + 1) (i * 24) (k + 1) (fun t => sat576 g (i * 24 + t)) := by
                have := (hG.ints.part (i * 24) (k + 1) (by omega)).drew
                rwa [Nat.zero_add] at this
              have hys := hI.drew
              have hgs : w.heap.size + 1 < wr.drew.heap.size := by show _ < wr.heap.size; omega
              have hbs : b < wr.drew.heap.size := hb1
              have H := Lib.hid (And.intro hF (And.intro hI (And.intro hP (And.intro hG (And.intro hR hL)))))
              clear hF hI hP hG hR hL
              go_wp2_with fail
              go_region_with (first
                | (go_at_call 54; refine (dot_fx p o (w.heap.size + 1) (i * 24) 24 24 b 0 (k + 1) (k + 1) (fun t => sat576 g (i * 24 + t)) (fun t => uF f (t : Int) (k : Int)) 30 (k + 1) _ _ fr.drew (by omega) (by omega) (by omega) (by omega) (by omega) hgs hbs (by omega) (by omega) hxs hys).mono ?_; rintro e w5 ⟨rfl, kk⟩; have hL5 := H.out.2.2.2.2.2.drew.flag (by omega) kk; have hc := hL5.cell (i * 48 + k); rw [rowA_get _ (by omega)] at hc; have hf := hL5.free (i * 48 + k); have hz5 := kk.size))
              all_goals
                obtain ⟨hF, hI, hP, hG, hR, hL⟩ := H.out
                clear H
                have hL6 := hL5.setI (k := i * 48 + k) (by omega) (dotv (fun t => sat576 g (i * 24 + t)) (fun t => uF f (t : Int) (k : Int)) (k + 1))
                rw [HN.out] at hL6
                have hF6 := (hF.drew.trans kk).other (b := w.heap.size + 3) (i := i * 48 + k) (by omega) (.int .i64 (dotv (fun t => sat576 g (i * 24 + t)) (fun t => uF f (t : Int) (k : Int)) (k + 1)))
                have hP6 := (hP.drew.flag (by omega) kk).other (b := w.heap.size + 3) (i := i * 48 + k) (by omega) (.int .i64 (dotv (fun t => sat576 g (i * 24 + t)) (fun t => uF f (t : Int) (k : Int)) (k + 1)))
                have hG6 := (hG.drew.flag (by omega) kk).other (b := w.heap.size + 3) (i := i * 48 + k) (by omega) (.int .i64 (dotv (fun t => sat576 g (i * 24 + t)) (fun t => uF f (t : Int) (k : Int)) (k + 1)))
                have hR6 := (hR.drew.flag (by omega) kk).other (b := w.heap.size + 3) (i := i * 48 + k) (by omega) (.int .i64 (dotv (fun t => sat576 g (i * 24 + t)) (fun t => uF f (t : Int) (k : Int)) (k + 1)))
                have hI6 : Ints (w5.setCell ⟨w.heap.size + 3, i * 48 + k, none⟩ (.int .i64 (dotv (fun t => sat576 g (i * 24 + t)) (fun t => uF f (t : Int) (k : Int)) (k + 1)))) b 0 (k + 1) (fun t => uF f (t : Int) (k : Int)) := ⟨fun r hr => (set_cell_other (.inl (by omega)) _).trans ((hI.drew.flag hb1 (by omega) kk).at_ r hr)⟩
                have hb6 : b < (w5.setCell ⟨w.heap.size + 3, i * 48 + k, none⟩ (.int .i64 (dotv (fun t => sat576 g (i * 24 + t)) (fun t => uF f (t : Int) (k : Int)) (k + 1)))).heap.size := by rw [size_set]; exact Nat.lt_of_lt_of_le hb1 hz5
                have hz6 : w.heap.size + 3 < (w5.setCell ⟨w.heap.size + 3, i * 48 + k, none⟩ (.int .i64 (dotv (fun t => sat576 g (i * 24 + t)) (fun t => uF f (t : Int) (k : Int)) (k + 1)))).heap.size := by rw [size_set]; exact Nat.lt_of_lt_of_le hz hz5
                have H := Lib.hid (And.intro hF6 (And.intro hI6 (And.intro hP6 (And.intro hG6 (And.intro hR6 (And.intro hL6 (And.intro hb6 hz6)))))))
                clear hL6 hF6 hP6 hG6 hR6 hI6 hb6 hz6 hF hI hP hG hR hL hL5
                go_wp2_with fail
                go_roundw
                case rel =>
                  obtain ⟨hF6, hI6, hP6, hG6, hR6, hL6, hb6, hz6⟩ := H.out
                  exact ⟨i + 1, by omega, by go_num, flag_is (by rw [HA.out]; simp only [Bool.or_assoc]) hF6, hz6, hb6, hI6, hP6, hG6, hR6, hL6⟩
                case measure => simp [intOf]; omega
            · obtain rfl : i = 24 := by omega
              clear hli hi
              have hL := hL.congr (fun q hq => rowP_col f (sat576 g) (fun k => k + 1) hq)
              have HA := Lib.hid (show anyN (fun k => anyN (fun i => rowsH f (sat576 g) (fun k => k + 1) (48 * i + k)) 24) (k + 1) = (anyN (fun k => anyN (fun i => rowsH f (sat576 g) (fun k => k + 1) (48 * i + k)) 24) k || anyN (fun i => rowsH f (sat576 g) (fun k => k + 1) (48 * i + k)) 24) from rfl)
              go_wp2_with fail
              go_roundw
              case rel => exact ⟨_, _, _, _, _, _, _, _, _, _, _, _, _, _, _, _, _, _, _, _, _, _, _, _, ⟨k + 1, by omega, by go_num, flag_is (by rw [HA.out]; simp only [Bool.or_assoc]) hF, hz, hP, hG, hR, hL⟩, rfl⟩
              case measure => simp [intOf]; omega
        · obtain rfl : k = 24 := by omega
          clear hlt hk
          have hL := hL.congr (fun q _ => rowP_all f (sat576 g) (fun k => k + 1) q)
          go_wp2_with (first
            | (refine row_load 168 _ rfl rfl (w.heap.size + 3) 1152 _ _ rfl hL _ Try.underlying168 rfl rowsSize ?_)
            | (refine row_store 168 _ _ rfl rfl (w.heap.size + 2) 1152 _ _ _ rfl rfl hR rowsSize ?_))
          exact bodyPost_ret (v := .agg (rowA 1152 (rowW f (sat576 g) fun k => k + 1))) (results_row rfl _ _ (w.heap.size + 2) 1152 _ _ _ rfl hR.setRow Try.underlying168 rfl rowsSize) rfl ⟨rfl, hF.row (by omega) _⟩
end Go.Proofs.Ytfkeljolpcbbkaa
