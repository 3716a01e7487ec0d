/- Package bierman: a number is learnt. -/
import Derived.Test.YtplffehgjdinnaaBieC
namespace Go.Proofs.Ytplffehgjdinnaa
open Go.RowKit

/-- A row's type behind a name, so that a walk does not open what it reads number by number. -/
structure OpR (t T : TypeId) (n N : Nat) : Prop where
  is : t = T
  agg : ∀ w, Sem.run Try.prog (isAgg T) w = .ok true w
  size : ∀ w, Sem.run Try.prog (sizeOf T) w = .ok N w
  load : ∀ w b f t', Blk w b (rowA n f) t' → Sem.run Try.prog (loadCellsFrom ⟨b, 0, none⟩ 0 N #[]) w = .ok (rowA n f) w
  len : ∀ f, (rowA n f).size = N
theorem opr {t : TypeId} {n : Nat} (h1 : ∀ w, Sem.run Try.prog (isAgg t) w = .ok true w) (h2 : ∀ w, Sem.run Try.prog (sizeOf t) w = .ok n w) : ∃ T N, OpR t T n N :=
  ⟨_, n, rfl, h1, h2, fun _ _ _ _ h => load_row_from _ h, fun f => rowA_size n f⟩
theorem lay_row (P : Program) {w : World} {b n : Nat} (f : Nat → Int) {g : Nat → Int} {t : TypeId} (h : Blk w b (rowA n g) t) : Sem.run P (storeCells ⟨b, 0, none⟩ (rowA n f).toList 0) w = .ok () (w.setRow b (rowA n f)) := by
  have := run_storeCells_from (P := P) b t (rowA n f).toList 0 (rowA n g) w h (by simp [rowA_size]) (fun v hv => (Array.all_eq_true_iff_forall_mem.1 (rowA_one n f)) v (by simpa using hv))
  simpa using this
theorem opCov : ∃ T N, OpR 79 T 300 N := opr (fun w => by kernel_rfl) (fun w => by kernel_rfl)
theorem opRow : ∃ T N, OpR 100 T 24 N := opr (fun w => by kernel_rfl) (fun w => by kernel_rfl)
theorem results_row2 {P : Program} {fn : Func} {p q u : Tmp} {ty ty2 : TypeId} (h : fn.results = #[.cell p ty, .cell q ty2, .tmp u]) (tmps : Array Value) (w : World) (g n : Nat) (f : Nat → Int) (t : TypeId) (d : TypeDesc) (g2 n2 : Nat) (f2 : Nat → Int) (t2 : TypeId) (d2 : TypeDesc)
    (hp : tmps.getD p undef = .pointer (some ⟨g, 0, none⟩)) (hg : Blk w g (rowA n f) t) (hu : P.underlying ty = some d) (hd : (match d with | .struct _ | .array _ _ => true | _ => false) = true) (hi : (P.info? ty).map (·.size) = some n)
    (hq : tmps.getD q undef = .pointer (some ⟨g2, 0, none⟩)) (hg2 : Blk w g2 (rowA n2 f2) t2) (hu2 : P.underlying ty2 = some d2) (hd2 : (match d2 with | .struct _ | .array _ _ => true | _ => false) = true) (hi2 : (P.info? ty2).map (·.size) = some n2) {x : Value} (hx : tmps.getD u undef = x) :
    (results fn tmps).run P w = .ok (.tuple #[.agg (rowA n f), .agg (rowA n2 f2), x]) w := by
  subst hx
  have hp' : tmps[p]?.getD undef = .pointer (some ⟨g, 0, none⟩) := by simpa using hp
  have hq' : tmps[q]?.getD undef = .pointer (some ⟨g2, 0, none⟩) := by simpa using hq
  simp [results, h, hp', hq', asAddr, run_loadVar_row w g t ty _ (0, 0) d hg hu hd (by rw [rowA_size]; exact hi), run_loadVar_row w g2 t2 ty2 _ (0, 0) d2 hg2 hu2 hd2 (by rw [rowA_size]; exact hi2)]
theorem bmuldiv_mdv (p o : Nat) (a b d : Int) (h : Bool) (w : World) (f : Fl p o h w) :
    Calls Try.prog 39 #[.pointer (some ⟨p, o, none⟩), .int .i64 a, .int .i64 b, .int .i64 d] w fun e w' => e = .returned (.int .i64 (mdv a b d)) ∧ FlW p o (h || mdh a b d) w w' := by
  refine (muldiv_fx p o a b d h w f).mono ?_
  rintro e w' ⟨rfl, k⟩
  exact ⟨rfl, flag_is (by simp [mdh, Bool.or_assoc]) k⟩
theorem bdiv_quo4 (p o : Nat) (a b : Int) (h : Bool) (w : World) (f : Fl p o h w) :
    Calls Try.prog 37 #[.pointer (some ⟨p, o, none⟩), .int .i64 a, .int .i64 b, .int .i64 44] w fun e w' => e = .returned (.int .i64 (quo4v a b)) ∧ FlW p o (h || quo4h a b) w w' := by
  refine (div_fx p o a b 44 h w f (by omega)).mono ?_
  rintro e w' ⟨rfl, k⟩
  exact ⟨rfl, flag_is (by simp [quo4h, Bool.or_assoc]) k⟩
theorem bmul_mul4 (p o : Nat) (a b : Int) (h : Bool) (w : World) (f : Fl p o h w) :
    Calls Try.prog 35 #[.pointer (some ⟨p, o, none⟩), .int .i64 a, .int .i64 b, .int .i64 44] w fun e w' => e = .returned (.int .i64 (mul4v a b)) ∧ FlW p o (h || mul4h a b) w w' := by
  have := mul_fx p o a b 44 h w f (by omega)
  refine this.mono ?_
  rintro e w' ⟨rfl, k⟩
  exact ⟨rfl, flag_is (by simp [mul4h, Bool.or_assoc]) k⟩
theorem quo4v_bd (a b : Int) : -1152921504606846976 ≤ quo4v a b ∧ quo4v a b ≤ 1152921504606846976 := by
  unfold quo4v divv
  split
  · exact side_bd _
  · exact ⟨satv_lo _, satv_hi _⟩
theorem bX_wrap (F A : Nat → Int) (j : Nat) : wrap64 (-quo4v (F j) (A j)) = bX F A j := by
  have h := quo4v_bd (F j) (A j)
  unfold bX
  generalize quo4v (F j) (A j) = q at *
  unfold wrap64
  omega
theorem lookR_f (f h : Nat → Int) (r : Int) {j : Nat} (hj : j < 24) : lookR f h r j = bF f (satH h) j := by unfold lookR; rw [if_pos hj]
theorem lookR_v (f h : Nat → Int) (r : Int) {j : Nat} (hj : j < 24) : lookR f h r (24 + j) = bV f (satH h) j := by unfold lookR; rw [if_neg (by omega), if_pos (by omega), show 24 + j - 24 = j by omega]
theorem lookR_a (f h : Nat → Int) (r : Int) (j : Nat) : lookR f h r (48 + j) = bA f (satH h) (rV r) j := by unfold lookR; rw [if_neg (by omega), if_neg (by omega), show 48 + j - 48 = j by omega]
/-- What stands while columns are learnt: c the factors within their bounds, S what has been seen, N, K where the new factors and the numbers b lie. -/
structure Upd (w0 : World) (p o : Nat) (g : Bool) (c s : Nat → Int) (S N K : Nat) (y b : Nat → Int) (w : World) : Prop where
  F : FlW p o g w0 w
  bP : Blk w w0.heap.size (rowA 300 c) 79
  bR : Blk w (w0.heap.size + 2) (rowA 300 fun _ => 0) 79
  bR2 : Blk w (w0.heap.size + 3) (rowA 24 fun _ => 0) 100
  bS : Blk w S (rowA 73 s) 165
  bN : Blk w N (rowA 300 y) 79
  bK : Blk w K (rowA 24 b) 100
  gS : w0.heap.size + 3 < S
  gN : S < N
  gK : N < K
section
variable {w0 : World} {p o S N K : Nat} {c s y b y2 : Nat → Int} {g g2 : Bool} {w w' : World}
theorem Upd.flag (l : Upd w0 p o g c s S N K y b w) (hp : p < w0.heap.size) (k : FlW p o g2 w w') : Upd w0 p o g2 c s S N K y b w' :=
  have h1 := l.gS; have h2 := l.gN; have h3 := l.gK
  ⟨l.F.trans k, l.bP.flag (by omega) k, l.bR.flag (by omega) k, l.bR2.flag (by omega) k, l.bS.flag (by omega) k, l.bN.flag (by omega) k, l.bK.flag (by omega) k, l.gS, l.gN, l.gK⟩
theorem Upd.call (l : Upd w0 p o g c s S N K y b w) (k : Below w.heap.size w w') : Upd w0 p o g c s S N K y b w' := ⟨l.F.then k, l.bP.call k, l.bR.call k, l.bR2.call k, l.bS.call k, l.bN.call k, l.bK.call k, l.gS, l.gN, l.gK⟩
theorem Upd.alloc (l : Upd w0 p o g c s S N K y b w) (x : Obj) : Upd w0 p o g c s S N K y b (w.alloc x) := ⟨l.F.alloc _, l.bP.alloc _, l.bR.alloc _, l.bR2.alloc _, l.bS.alloc _, l.bN.alloc _, l.bK.alloc _, l.gS, l.gN, l.gK⟩
theorem Upd.drew (l : Upd w0 p o g c s S N K y b w) : Upd w0 p o g c s S N K y b w.drew := ⟨l.F.drew, l.bP.drew, l.bR.drew, l.bR2.drew, l.bS.drew, l.bN.drew, l.bK.drew, l.gS, l.gN, l.gK⟩
theorem Upd.hit (l : Upd w0 p o g c s S N K y b w) (e : g = g2) : Upd w0 p o g2 c s S N K y b w := e ▸ l
theorem Upd.new (l : Upd w0 p o g c s S N K y b w) (e : y = y2) : Upd w0 p o g c s S N K y2 b w := e ▸ l
theorem Upd.gai (l : Upd w0 p o g c s S N K y b w) (e : b = y2) : Upd w0 p o g c s S N K y y2 w := e ▸ l
theorem Upd.setN (l : Upd w0 p o g c s S N K y b w) {k : Nat} (hk : k < 300) (v : Int) : Upd w0 p o g c s S N K (upd y k v) b (w.setCell ⟨N, k, none⟩ (.int .i64 v)) :=
  have h1 := l.gS; have h2 := l.gN; have h3 := l.gK
  ⟨l.F.other (by omega) _, l.bP.other (by omega) _, l.bR.other (by omega) _, l.bR2.other (by omega) _, l.bS.other (by omega) _, l.bN.setI hk v, l.bK.other (by omega) _, l.gS, l.gN, l.gK⟩
theorem Upd.setK (l : Upd w0 p o g c s S N K y b w) {k : Nat} (hk : k < 24) (v : Int) : Upd w0 p o g c s S N K y (upd b k v) (w.setCell ⟨K, k, none⟩ (.int .i64 v)) :=
  have h1 := l.gS; have h2 := l.gN; have h3 := l.gK
  ⟨l.F.other (by omega) _, l.bP.other (by omega) _, l.bR.other (by omega) _, l.bR2.other (by omega) _, l.bS.other (by omega) _, l.bN.other (by omega) _, l.bK.setI hk v, l.gS, l.gN, l.gK⟩
theorem Upd.rowN (l : Upd w0 p o g c s S N K y b w) (y2 : Nat → Int) : Upd w0 p o g c s S N K y2 b (w.setRow N (rowA 300 y2)) :=
  have h1 := l.gS; have h2 := l.gN; have h3 := l.gK
  ⟨l.F.row (by omega) _, l.bP.otherRow (by omega), l.bR.otherRow (by omega), l.bR2.otherRow (by omega), l.bS.otherRow (by omega), l.bN.setRow, l.bK.otherRow (by omega), l.gS, l.gN, l.gK⟩
theorem Upd.seen (l : Upd w0 p o g c s S N K y b w) {k : Nat} (hk : k < 73) {v : Int} (e : s k = v) : w.cell? ⟨S, k, none⟩ = some (.int .i64 v) := by
  have := l.bS.cell k
  rwa [rowA_get _ hk, e] at this
theorem Upd.atK (l : Upd w0 p o g c s S N K y b w) {k : Nat} (hk : k < 24) {v : Int} (e : b k = v) : w.cell? ⟨K, k, none⟩ = some (.int .i64 v) := by
  have := l.bK.cell k
  rwa [rowA_get _ hk, e] at this
theorem Upd.atP (l : Upd w0 p o g c s S N K y b w) {k : Nat} (hk : k < 300) {v : Int} (e : c k = v) : w.cell? ⟨w0.heap.size, k, none⟩ = some (.int .i64 v) := by
  have := l.bP.cell k
  rwa [rowA_get _ hk, e] at this
end
end Go.Proofs.Ytplffehgjdinnaa
