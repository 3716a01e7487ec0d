/- Package bierman: what a row sees of a covariance. -/
import Derived.Test.YtplffehgjdinnaaBieA
import Derived.Test.YtplffehgjdinnaaOpq
namespace Go.Proofs.Ytplffehgjdinnaa
open Go.RowKit

/-- A whole row is read, in any order. -/
theorem step_row {P : Program} {ops : Array Oper} {o : Oper} {a : Act} {w : World} {K : Act → World → Prop} {Q : Exit → Act → World → Prop} {E : Prop} (hgd : o.guard = none) (ty : TypeId) (x : Operand) (ho : o.op = .load ty x)
    (g n : Nat) (f : Nat → Int) (t : TypeId) (hx : a.eval x = .pointer (some ⟨g, 0, none⟩)) (hg : Blk w g (rowA n f) t) (d : TypeDesc)
    (hu : P.underlying ty = some d) (hd : (match d with | .struct _ | .array _ _ => true | _ => false) = true) (hi : (P.info? ty).map (·.size) = some n)
    (h : K (a.put o.dst (.agg (rowA n f))) w) : if Region.wanted o (yielded ops a.tmps) = true then Oper.wp P o a w K Q else E := by
  have hw : Region.wanted o (yielded ops a.tmps) = true := by simp [Region.wanted, hgd]
  rw [if_pos hw]
  exact row_wp ty x ho g n f t hx hg d hu hd hi h
/-- A whole row is laid, in any order. -/
theorem step_lay {P : Program} {ops : Array Oper} {o : Oper} {a : Act} {w : World} {K : Act → World → Prop} {Q : Exit → Act → World → Prop} {E : Prop} (hgd : o.guard = none) (ty : TypeId) (x y : Operand) (ho : o.op = .store ty x y)
    (g n : Nat) (f f' : Nat → Int) (t : TypeId) (hx : a.eval x = .pointer (some ⟨g, 0, none⟩)) (hy : a.eval y = .agg (rowA n f)) (hg : Blk w g (rowA n f') t) (hi : (P.info? ty).map (·.size) = some n)
    (h : K (a.put o.dst undef) (w.setRow g (rowA n f))) : if Region.wanted o (yielded ops a.tmps) = true then Oper.wp P o a w K Q else E := by
  have hw : Region.wanted o (yielded ops a.tmps) = true := by simp [Region.wanted, hgd]
  rw [if_pos hw]
  exact wp_store_row ty x y ho g _ hx hy t _ hg (by rw [rowA_size]; exact hi) (by rw [rowA_size, rowA_size]) (rowA_one n f) h
theorem cell_lt {w : World} {b i : Nat} {v : Value} (h : w.cell? ⟨b, i, none⟩ = some v) : b < w.heap.size := by
  obtain ⟨c, t, f, h1, _⟩ := block_cell h
  rcases Nat.lt_or_ge b w.heap.size with h2 | h2
  · exact h2
  · rw [Array.getElem?_eq_none h2] at h1; cases h1
theorem keep_alloc {w : World} {b i : Nat} {v : Value} (x : Obj) (h : w.cell? ⟨b, i, none⟩ = some v) : (w.alloc x).cell? ⟨b, i, none⟩ = some v :=
  (cellAt ((Below.refl w.heap.size w).alloc (Nat.le_refl _) x) (cell_lt h)).trans h
theorem keep_set {w : World} {b i p o : Nat} {v : Value} (u : Value) (h : w.cell? ⟨b, i, none⟩ = some v) (hne : b ≠ p ∨ i ≠ o) : (w.setCell ⟨p, o, none⟩ u).cell? ⟨b, i, none⟩ = some v := (set_cell_other hne _).trans h
theorem keep_flag {w w' : World} {b i p o : Nat} {g : Bool} {v : Value} (k : FlW p o g w w') (hne : b ≠ p) (h : w.cell? ⟨b, i, none⟩ = some v) : w'.cell? ⟨b, i, none⟩ = some v := (k.cell (cell_lt h) (.inl hne)).trans h
theorem keep_call {w w' : World} {b i : Nat} {v : Value} (k : Below w.heap.size w w') (h : w.cell? ⟨b, i, none⟩ = some v) : w'.cell? ⟨b, i, none⟩ = some v := (cellAt k (cell_lt h)).trans h
theorem keep_row {w : World} {b i c : Nat} {v : Value} (d : Array Value) (hne : b ≠ c) (h : w.cell? ⟨b, i, none⟩ = some v) : (w.setRow c d).cell? ⟨b, i, none⟩ = some v := by
  have hb : (w.setRow c d).heap[b]? = w.heap[b]? := setRow_other w c b d hne
  unfold World.cell? at h ⊢
  rw [show (⟨b, i, none⟩ : Addr).block = b from rfl] at *
  rw [hb]; exact h
/-- The first m of an array, as a slice. -/
theorem run_cut {P : Program} {t e : TypeId} {n : Nat} (hu : P.underlying t = some (.array n e)) (hi : (P.info? e).map (·.size) = some 1) (B m : Nat) (i : Int) (hm : i = (m : Int)) (h : m ≤ n) (w : World) :
    (Instr.sliceAt t (.pointer (some ⟨B, 0, none⟩)) none (some (.int .i64 i)) none).run P w = .ok (.slice (some ⟨B, 0, none⟩) m n) w := by
  subst hm
  cases hq : P.info? e with
  | none => simp [hq] at hi
  | some k =>
    have h1 : (0 : Int) ≤ (m : Int) ∧ (m : Int) ≤ (n : Int) := ⟨by omega, by omega⟩
    simp [Instr.sliceAt, run_underlying hu, Instr.sureAddr, Instr.sliceBounds, Instr.sliceBound, asIntOf, h1, sizeOf, typeInfo, hq, Addr.add]
    intro h2; omega
/-- The sight as far as it has been laid. -/
def lookP (p h : Nat → Int) (r : Int) (j : Nat) : Nat → Int := fun k => if k < 24 then (if k < j then bF p h k else 0) else if k < 48 then (if k - 24 < j then bV p h (k - 24) else 0) else if k - 48 ≤ j then bA p h r (k - 48) else 0
def lookP1 (p h : Nat → Int) (r : Int) (j : Nat) : Nat → Int := upd (lookP p h r j) j (bF p h j)
def lookP2 (p h : Nat → Int) (r : Int) (j : Nat) : Nat → Int := upd (lookP1 p h r j) (24 + j) (bV p h j)
theorem lookP_zero (p h : Nat → Int) (r : Int) : upd (fun _ => 0) 48 r = lookP p h r 0 := by
  funext k; unfold upd lookP
  by_cases h1 : k = 48
  · subst h1; rw [if_pos rfl, if_neg (by omega), if_neg (by omega), if_pos (by omega)]; rfl
  · rw [if_neg h1]
    (repeat' split) <;> first | rfl | omega
theorem lookP_next (p h : Nat → Int) (r : Int) {j : Nat} (hj : j < 24) : upd (lookP2 p h r j) (48 + j + 1) (bA p h r (j + 1)) = lookP p h r (j + 1) := by
  funext k; unfold lookP2 lookP1 upd lookP
  by_cases h1 : k = 48 + j + 1
  · subst h1; rw [if_pos rfl, if_neg (by omega), if_neg (by omega), if_pos (by omega), show 48 + j + 1 - 48 = j + 1 by omega]
  · rw [if_neg h1]
    by_cases h2 : k = 24 + j
    · subst h2; rw [if_pos rfl, if_neg (by omega), if_pos (by omega), if_pos (by omega), show 24 + j - 24 = j by omega]
    · rw [if_neg h2]
      by_cases h3 : k = j
      · subst h3; rw [if_pos rfl, if_pos (by omega), if_pos (by omega)]
      · rw [if_neg h3]
        by_cases h4 : k < 24
        · rw [if_pos h4, if_pos h4]
          by_cases h5 : k < j
          · rw [if_pos h5, if_pos (by omega)]
          · rw [if_neg h5, if_neg (by omega)]
        · rw [if_neg h4, if_neg h4]
          by_cases h6 : k < 48
          · rw [if_pos h6, if_pos h6]
            by_cases h5 : k - 24 < j
            · rw [if_pos h5, if_pos (by omega)]
            · rw [if_neg h5, if_neg (by omega)]
          · rw [if_neg h6, if_neg h6]
            by_cases h5 : k - 48 ≤ j
            · rw [if_pos h5, if_pos (by omega)]
            · rw [if_neg h5, if_neg (by omega)]
theorem lookP1_f (p h : Nat → Int) (r : Int) (j : Nat) : lookP1 p h r j j = bF p h j := upd_same _ _ _
theorem lookP2_f (p h : Nat → Int) (r : Int) (j : Nat) : lookP2 p h r j j = bF p h j := by unfold lookP2; rw [upd_other _ _ (by omega)]; exact lookP1_f p h r j
theorem lookP2_v (p h : Nat → Int) (r : Int) (j : Nat) : lookP2 p h r j (24 + j) = bV p h j := upd_same _ _ _
theorem lookP2_a (p h : Nat → Int) (r : Int) {j : Nat} (hj : j < 24) : lookP2 p h r j (48 + j) = bA p h r j := by
  unfold lookP2 lookP1 lookP
  rw [upd_other _ _ (by omega), upd_other _ _ (by omega), if_neg (by omega), if_neg (by omega), if_pos (by omega), show 48 + j - 48 = j by omega]
theorem lookP_all (p h : Nat → Int) (r : Int) {k : Nat} (hk : k < 73) : lookP p (satH h) (rV r) 24 k = lookR p h r k := by
  unfold lookP lookR
  by_cases h1 : k < 24
  · rw [if_pos h1, if_pos h1, if_pos h1]
  · rw [if_neg h1, if_neg h1]
    by_cases h2 : k < 48
    · rw [if_pos h2, if_pos h2, if_pos (by omega)]
    · rw [if_neg h2, if_neg h2, if_pos (by omega)]
/-- What stands while a row looks at a covariance. -/
structure Look (w0 : World) (p o : Nat) (f h : Nat → Int) (g : Bool) (S : Nat) (s : Nat → Int) (w : World) : Prop where
  F : FlW p o g w0 w
  P : Blk w w0.heap.size (rowA 300 f) 79
  H : Blk w (w0.heap.size + 1) (rowA 24 h) 100
  R : Blk w (w0.heap.size + 2) (rowA 73 fun _ => 0) 165
  X : Blk w S (rowA 73 s) 165
  gt : w0.heap.size + 2 < S
section
variable {w0 : World} {p o S : Nat} {f h s : Nat → Int} {g g2 : Bool} {w w' : World}
theorem Look.flag (l : Look w0 p o f h g S s w) (hp : p < w0.heap.size) (k : FlW p o g2 w w') : Look w0 p o f h g2 S s w' := ⟨l.F.trans k, l.P.flag (by omega) k, l.H.flag (by omega) k, l.R.flag (by omega) k, l.X.flag (by have := l.gt; omega) k, l.gt⟩
theorem Look.call (l : Look w0 p o f h g S s w) (k : Below w.heap.size w w') : Look w0 p o f h g S s w' := ⟨l.F.then k, l.P.call k, l.H.call k, l.R.call k, l.X.call k, l.gt⟩
theorem Look.alloc (l : Look w0 p o f h g S s w) (x : Obj) : Look w0 p o f h g S s (w.alloc x) := ⟨l.F.alloc _, l.P.alloc _, l.H.alloc _, l.R.alloc _, l.X.alloc _, l.gt⟩
theorem Look.drew (l : Look w0 p o f h g S s w) : Look w0 p o f h g S s w.drew := ⟨l.F.drew, l.P.drew, l.H.drew, l.R.drew, l.X.drew, l.gt⟩
theorem Look.set (l : Look w0 p o f h g S s w) {k : Nat} (hk : k < 73) (v : Int) : Look w0 p o f h g S (upd s k v) (w.setCell ⟨S, k, none⟩ (.int .i64 v)) :=
  have := l.gt
  ⟨l.F.other (by omega) _, l.P.other (by omega) _, l.H.other (by omega) _, l.R.other (by omega) _, l.X.setI hk v, l.gt⟩
theorem Look.hit (l : Look w0 p o f h g S s w) (e : g = g2) : Look w0 p o f h g2 S s w := e ▸ l
theorem Look.cell (l : Look w0 p o f h g S s w) {k : Nat} (hk : k < 73) {v : Int} (e : s k = v) : w.cell? ⟨S, k, none⟩ = some (.int .i64 v) := by
  have := l.X.cell k
  rwa [rowA_get _ hk, e] at this
end
theorem zeroSight : Try.zeroCells165 = rowA 73 (fun _ => 0) := by kernel_rfl
theorem bdot_is (p o A n ac B bc j : Nat) (xs ys : Nat → Int) (h : Bool) (w : World) (f : Fl p o h w) (hj : j ≤ 24) (ha : n = j) (hA : A < w.heap.size) (hB : B < w.heap.size) (hAp : A ≠ p) (hBp : B ≠ p) (hx : Ints w A 0 j xs) (hy : Ints w B 0 j ys) :
    Calls Try.prog 95 #[.pointer (some ⟨p, o, none⟩), .int .i64 30, .slice (some ⟨A, 0, none⟩) n ac, .slice (some ⟨B, 0, none⟩) j bc] w fun e w' => e = .returned (.int .i64 (dotv xs ys j)) ∧ FlW p o (h || doth xs ys j) w w' := by
  subst ha
  refine (dot_fx p o A 0 n ac B 0 n bc xs ys 30 n h w f (by omega) (by omega) (Nat.le_refl _) (Nat.le_refl _) (by omega) hA hB hAp hBp hx hy).mono ?_
  rintro e w' ⟨rfl, k⟩
  exact ⟨rfl, flag_is (by simp [doth, Bool.or_assoc]) k⟩
set_option maxRecDepth 10000 in
set_option maxHeartbeats 8000000 in
theorem look_any (p o : Nat) (f h : Nat → Int) (r : Int) (g : Bool) (w : World) (fl : Fl p o g w) :
    Calls Try.prog 154 #[.pointer (some ⟨p, o, none⟩), .agg (rowA 300 f), .agg (rowA 24 h), .int .i64 r] w fun e w' => e = .returned (.agg (rowA 73 (lookR f h r))) ∧ FlW p o (g || lookH f h r) w w' := by
  have hpw := fl.lt
  go_enter Try.func154, Try.ntmps154
  go_upto_region 1 with (fail)
  rw [zeroSight]
  generalize hW : World.alloc (World.alloc (World.alloc w _) _) _ = X
  have hF : FlW p o (g || anyN (fun k => sath (h k)) 0) w X := by subst hW; exact flag_is (by simp [anyN]) ((((FlW.refl fl).alloc _).alloc _).alloc _)
  have hP : Blk X w.heap.size (rowA 300 f) 79 := by subst hW; exact ((Blk.made _ _ _ rfl).alloc _).alloc _
  have hH : Blk X (w.heap.size + 1) (rowA 24 h) 100 := by subst hW; exact (Blk.made _ _ _ (by simp)).alloc _
  have hR : Blk X (w.heap.size + 2) (rowA 73 fun _ => 0) 165 := by subst hW; exact Blk.made _ _ _ (by simp)
  have hz : w.heap.size + 2 < X.heap.size := by subst hW; simp
  clear hW
  go_wp2_with (refine row_load 100 _ rfl rfl (w.heap.size + 1) 24 _ _ rfl hH _ Try.underlying100 rfl brSize ?_)
  have hH : Blk X (w.heap.size + 1) (rowA 24 (mapP (satH h) h 0)) 100 := by rw [mapP_zero]; exact hH
  go_loopw [14] (fun i' wr => ∃ k : Nat, k ≤ 24 ∧ i' = .int .i64 k ∧ FlW p o (g || anyN (fun k => sath (h k)) k) w wr ∧ w.heap.size + 2 < wr.heap.size ∧ Blk wr w.heap.size (rowA 300 f) 79 ∧ Blk wr (w.heap.size + 1) (rowA 24 (mapP (satH h) h k)) 100 ∧ Blk wr (w.heap.size + 2) (rowA 73 fun _ => 0) 165) (fun i' _ => 24 - (intOf i').toNat)
  case atStart => exact ⟨0, by omega, rfl, hF, hz, hP, hH, hR⟩
  case round =>
    clear hF hz hP hH hR
    obtain ⟨k, hk, rfl, hF, hz, hP, hH, hR⟩ := hrel
    have fr := hF.fl fl
    by_cases hlt : k < 24
    · have hltI : (k : Int) < 24 := by omega
      have hk0 : (0 : Int) ≤ (k : Int) := by omega
      go_wp2_with (refine index_row 100 _ _ rfl rfl (n := 24) (j := k) _ rfl rfl Try.underlying100 Try.underlying2 numSize hlt ?_)
      refine (sat_any p o (h k) _ _ fr).mono ?_
      rintro e w4 ⟨rfl, kk⟩
      have hR4 := hR.flag (by omega) kk
      have hP4 := hP.flag (by omega) kk
      have hH4 := hH.flag (by omega) kk
      have hc := hH4.cell k
      rw [rowA_get _ (by omega)] at hc
      have hf := hH4.free k
      have hz4 := kk.size
      have hH5 := hH4.setI (k := k) hlt (satv (h k))
      rw [show upd (mapP (satH h) h k) k (satv (h k)) = mapP (satH h) h (k + 1) from mapP_next (satH h) h k] at hH5
      have hF5 := (hF.trans kk).other (b := w.heap.size + 1) (i := k) (by omega) (.int .i64 (satv (h k)))
      have hR5 := hR4.other (b := w.heap.size + 1) (i := k) (by omega) (.int .i64 (satv (h k)))
      have hP5 := hP4.other (b := w.heap.size + 1) (i := k) (by omega) (.int .i64 (satv (h k)))
      have H := Lib.hid (And.intro hF5 (And.intro hP5 (And.intro hH5 hR5)))
      clear hF5 hR5 hH5 hP5 hF hR hH hP hR4 hH4 hP4
      go_wp2_with fail
      go_roundw
      case rel =>
        obtain ⟨hF5, hP5, hH5, hR5⟩ := H.out
        exact ⟨k + 1, by omega, by go_num, flag_is (by simp [anyN, Bool.or_assoc]) hF5, by rw [size_set]; omega, hP5, hH5, hR5⟩
      case measure => simp [intOf]; omega
    · obtain rfl : k = 24 := by omega
      clear hlt hk
      have hH : Blk wr (w.heap.size + 1) (rowA 24 (satH h)) 100 := hH.congr (fun j hj => mapP_all hj)
      go_upto_region 7 with (fail)
      rw [zeroSight]
      generalize hS : wr.heap.size = S at *
      generalize hW : World.alloc wr _ = X
      have L0 : Look w p o f (satH h) (g || anyN (fun k => sath (h k)) 24) S (fun _ => 0) X := by
        subst hW
        exact ⟨hF.alloc _, hP.alloc _, hH.alloc _, hR.alloc _, Blk.made _ _ _ hS, by omega⟩
      clear hF hP hH hR hW hS fr
      have fr := L0.F.fl fl
      go_wp2_with fail
      refine (clamp_any p o r 1 72057594037927936 _ _ fr).mono ?_
      rintro e w5 ⟨rfl, k5⟩
      have L1 := L0.flag hpw k5
      have hc := L1.X.cell 48
      rw [rowA_get _ (by omega)] at hc
      have hf := L1.X.free 48
      have L2 : Look w p o f (satH h) (g || anyN (fun k => sath (h k)) 24 || rH r || anyN (lookH1 f (satH h) (rV r)) 0) S (lookP f (satH h) (rV r) 0) (w5.setCell ⟨S, 48, none⟩ (.int .i64 (rV r))) := by
        have := L1.set (k := 48) (by omega) (rV r)
        rw [lookP_zero f (satH h) (rV r)] at this
        exact this.hit (by show _ = (_ || false); rw [Bool.or_false]; rfl)
      have HL := Lib.hid L2
      clear L0 L1 L2 k5 fr
      go_wp2_with fail
      go_loopw [29] (fun i' wr => ∃ j : Nat, j ≤ 24 ∧ i' = .int .i64 j ∧ Look w p o f (satH h) (g || anyN (fun k => sath (h k)) 24 || rH r || anyN (lookH1 f (satH h) (rV r)) j) S (lookP f (satH h) (rV r) j) wr) (fun i' _ => 24 - (intOf i').toNat)
      case atStart => exact ⟨0, by omega, rfl, HL.out⟩
      case round =>
        clear hc hf HL
        obtain ⟨j, hj, rfl, L⟩ := hrel
        by_cases hlt : j < 24
        · have hltI : (j : Int) < 24 := by omega
          have hj0 : (0 : Int) ≤ (j : Int) := by omega
          have hSg := L.gt
          have HX := Lib.hid (show (g || anyN (fun k => sath (h k)) 24 || rH r || anyN (lookH1 f (satH h) (rV r)) (j + 1)) = (g || anyN (fun k => sath (h k)) 24 || rH r || anyN (lookH1 f (satH h) (rV r)) j || doth (satH h) (colU f j) (j + 1) || mulh (f (276 + j)) (bF f (satH h) j) || mulh (bF f (satH h) j) (bV f (satH h) j) || addh (bA f (satH h) (rV r) j) (mulv (bF f (satH h) j) (bV f (satH h) j))) by
            rw [show anyN (lookH1 f (satH h) (rV r)) (j + 1) = (anyN (lookH1 f (satH h) (rV r)) j || (doth (satH h) (colU f j) (j + 1) || mulh (f (276 + j)) (bF f (satH h) j) || mulh (bF f (satH h) j) (bV f (satH h) j) || addh (bA f (satH h) (rV r) j) (mulv (bF f (satH h) j) (bV f (satH h) j)))) from rfl]
            simp only [Bool.or_assoc])
          generalize (g || anyN (fun k => sath (h k)) 24 || rH r || anyN (lookH1 f (satH h) (rV r)) j) = g0 at *
          go_upto_region 11 with (fail)
          have L' := L.drew
          have hPd := L'.P
          have fr := L'.F.fl fl
          have hsz := L'.F.size
          have HLd := Lib.hid L'
          have j1 : (0 : Int) ≤ (j : Int) + 1 := by omega
          have j2 : (j : Int) + 1 ≤ 24 := by omega
          have j3 : ((j : Int) + 1).toNat = j + 1 := by omega
          have j4 : j + 1 ≤ 24 := by omega
          have j5 : ¬ 24 < j + 1 := by omega
          have e1 : IntKind.i64.wrap ((j : Int) + 1) = (j : Int) + 1 := i64_id _ (by omega) (by omega)
          have j6 : (0 : Int) ≤ IntKind.i64.wrap ((j : Int) + 1) := by omega
          have j7 : IntKind.i64.wrap ((j : Int) + 1) ≤ 24 := by omega
          have j8 : (IntKind.i64.wrap ((j : Int) + 1)).toNat = j + 1 := by omega
          have hsl := fun w' => run_cut (P := Try.prog) (t := 100) Try.underlying100 numSize (w.heap.size + 1) (j + 1) (IntKind.i64.wrap ((j : Int) + 1)) e1 j4 w'
          clear L L' j1 j2 j3 j6 j7 j8 j5 e1
          obtain ⟨T, NN, hO⟩ := opq
          have hl := hO.load _ _ _ hPd
          have hTa := hO.agg
          have hTs := hO.size
          rw [hO.is]
          clear hO hPd
          go_region_with (first
            | (go_at_call 155; go_loud (refine (bcol_any f j hlt _).mono ?_; rintro e w4 ⟨B, rfl, hB0, hB1, hI, hb4⟩; have L4 := HLd.out.call hb4; have f4 := L4.F.fl fl; have HH4 := L4.H.ints; have hH4 := L4.H.lt; have hBp : B ≠ p := by omega))
            | (go_at_call 95; go_loud (refine (bdot_is p o (w.heap.size + 1) (j + 1) 24 B (j + 1) (j + 1) (satH h) (colU f j) _ _ f4 (by omega) rfl hH4 hB1 (by omega) hBp ⟨fun i hi => HH4.at_ i (by omega)⟩ hI).mono ?_; rintro e w5 ⟨rfl, k5⟩; have L5 := L4.flag hpw k5; have hc := L5.X.cell j; rw [rowA_get _ (by omega)] at hc; have hf := L5.X.free j)))
          all_goals
            have L6 := L5.set (k := j) (by omega) (bF f (satH h) j)
            rw [show upd (lookP f (satH h) (rV r) j) j (bF f (satH h) j) = lookP1 f (satH h) (rV r) j from rfl] at L6
            rw [show dotv (satH h) (colU f j) (j + 1) = bF f (satH h) j from rfl]
            clear HLd L4 L5 k5 hc hf f4 HH4 hH4 hBp hl hTa hTs hsl hI hB0 hB1 hb4 fr
            generalize World.setCell _ _ _ = W6 at *
            go_upto_region 12 with (fail)
            have L7 := L6.drew
            have f7 := L7.F.fl fl
            have c1 := L7.P.cell (276 + j)
            rw [rowA_get _ (by omega)] at c1
            have c2 := L7.cell (k := j) (by omega) (lookP1_f f (satH h) (rV r) j)
            have HL7 := Lib.hid L7
            clear L6 L7
            have hSp : S ≠ p := by omega
            have hWp : w.heap.size ≠ p := by omega
            have hWS : w.heap.size ≠ S := by omega
            go_region_held3 (fun w' => w'.cell? ⟨w.heap.size, 276 + j, none⟩ = some (.int .i64 (f (276 + j))) ∧ w'.cell? ⟨S, j, none⟩ = some (.int .i64 (bF f (satH h) j)))
              ((refine ⟨?_, ?_⟩ <;> first | assumption | (refine keep_set _ (by assumption) (by omega))))
              (first
                | (go_at_call 35; refine (mul_mulv p o (f (276 + j)) (bF f (satH h) j) _ _ f7).mono ?_; rintro e w8 ⟨rfl, k8⟩; have j1 := keep_flag k8 hWp c1; have j2 := keep_flag k8 hSp c2; have L8 := HL7.out.flag hpw k8; have hc := L8.X.cell (24 + j); rw [rowA_get _ (by omega)] at hc; have hf := L8.X.free (24 + j)))
            have L9 := L8.set (k := 24 + j) (by omega) (bV f (satH h) j)
            rw [show upd (lookP1 f (satH h) (rV r) j) (24 + j) (bV f (satH h) j) = lookP2 f (satH h) (rV r) j from rfl] at L9
            rw [show mulv (f (276 + j)) (bF f (satH h) j) = bV f (satH h) j from rfl]
            clear HL7 L8 k8 hc hf f7 c1 c2 j1 j2
            generalize World.setCell _ _ _ = W9 at *
            go_upto_region 13 with (fail)
            have L10 := L9.drew
            have f10 := L10.F.fl fl
            have c1 := L10.cell (k := 48 + j) (by omega) (lookP2_a f (satH h) (rV r) hlt)
            have c2 := L10.cell (k := j) (by omega) (lookP2_f f (satH h) (rV r) j)
            have c3 := L10.cell (k := 24 + j) (by omega) (lookP2_v f (satH h) (rV r) j)
            have HL := Lib.hid L10
            have hj25 : (j : Int) < 25 := by omega
            have e1 : IntKind.i64.wrap ((j : Int) + 1) = (j : Int) + 1 := i64_id _ (by omega) (by omega)
            have q0 : (0 : Int) ≤ IntKind.i64.wrap ((j : Int) + 1) := by omega
            have hq25 : IntKind.i64.wrap ((j : Int) + 1) < 25 := by omega
            have HQ := Lib.hid (show 48 + (IntKind.i64.wrap ((j : Int) + 1)).toNat = 48 + (j + 1) by omega)
            clear e1
            clear L9 L10
            go_region_held3 (fun w' => w'.cell? ⟨S, 48 + j, none⟩ = some (.int .i64 (bA f (satH h) (rV r) j)) ∧ w'.cell? ⟨S, j, none⟩ = some (.int .i64 (bF f (satH h) j)) ∧ w'.cell? ⟨S, 24 + j, none⟩ = some (.int .i64 (bV f (satH h) j)))
              ((refine ⟨?_, ?_, ?_⟩ <;> first | assumption | (refine keep_set _ (by assumption) (by have := HQ.out; omega)) | (refine keep_alloc _ (by assumption))))
              (first
                | (go_at_call 35; refine (mul_mulv p o (bF f (satH h) j) (bV f (satH h) j) _ _ f10).mono ?_; rintro e w11 ⟨rfl, k11⟩; have j1 := keep_flag k11 hSp c1; have j2 := keep_flag k11 hSp c2; have j3 := keep_flag k11 hSp c3; have L11 := HL.out.flag hpw k11; have hBu := Blk.made w11 #[.int .i64 (bA f (satH h) (rV r) j), .int .i64 (mulv (bF f (satH h) j) (bV f (satH h) j))] 2 rfl; have L12 := L11.alloc (.cells #[.int .i64 (bA f (satH h) (rV r) j), .int .i64 (mulv (bF f (satH h) j) (bV f (satH h) j))] 2); have hne := k11.size)
                | (go_at_call 31; refine (add_addv p o (bA f (satH h) (rV r) j) (mulv (bF f (satH h) j) (bV f (satH h) j)) w11.heap.size 2 2 _ _ (L12.F.fl fl) hBu.lt (by have := HL.out.F.size; omega) hBu.ints2 rfl).mono ?_; rintro e w13 ⟨rfl, k13⟩; have i1 := keep_flag k13 hSp (keep_alloc _ j1); have i2 := keep_flag k13 hSp (keep_alloc _ j2); have i3 := keep_flag k13 hSp (keep_alloc _ j3); have L13 := L12.flag hpw k13; have hc := L13.X.cell (48 + (IntKind.i64.wrap ((j : Int) + 1)).toNat); rw [rowA_get _ (by omega)] at hc; have hf := L13.X.free (48 + (IntKind.i64.wrap ((j : Int) + 1)).toNat)))
            have L14 := L13.set (k := 48 + (IntKind.i64.wrap ((j : Int) + 1)).toNat) (by have := HQ.out; omega) (addv (bA f (satH h) (rV r) j) (mulv (bF f (satH h) j) (bV f (satH h) j)))
            rw [show upd (lookP2 f (satH h) (rV r) j) (48 + (IntKind.i64.wrap ((j : Int) + 1)).toNat) (addv (bA f (satH h) (rV r) j) (mulv (bF f (satH h) j) (bV f (satH h) j))) = lookP f (satH h) (rV r) (j + 1) by rw [HQ.out]; exact lookP_next f (satH h) (rV r) hlt] at L14
            rw [HQ.out] at L14
            have HL14 := Lib.hid (L14.hit HX.out.symm)
            clear L11 L12 L13 L14 k11 k13 hc hf hBu hne c1 c2 c3 j1 j2 j3 i1 i2 i3 HX HL q0 hq25 HQ f10
            go_wp2_with fail
            go_roundw
            case rel => exact ⟨j + 1, by omega, by go_num, HL14.out⟩
            case measure => simp [intOf]; omega
        · obtain rfl : j = 24 := by omega
          clear hlt hj
          have hX := L.X.congr (fun k hk => lookP_all f h r hk)
          have hSg := L.gt
          go_wp2_with (first
            | (refine row_load 165 _ rfl rfl S 73 _ _ rfl hX _ Try.underlying165 rfl bsSize ?_)
            | (refine row_store 165 _ _ rfl rfl (w.heap.size + 2) 73 _ _ _ rfl rfl L.R bsSize ?_))
          exact bodyPost_ret (v := .agg (rowA 73 (lookR f h r))) (results_row rfl _ _ (w.heap.size + 2) 73 _ _ _ rfl L.R.setRow Try.underlying165 rfl bsSize) rfl ⟨rfl, flag_is (by simp [lookH, Bool.or_assoc]) (L.F.row (by omega) _)⟩
end Go.Proofs.Ytplffehgjdinnaa
