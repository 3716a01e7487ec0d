/- Package thornton: the step. -/
import Derived.Test.YtfkeljolpcbbkaaRN
import Derived.Test.YtfkeljolpcbbkaaRowE
import Derived.Test.YtfkeljolpcbbkaaTHO
import Derived.Deep.MidRow
import Derived.Deep.Quiet
import Derived.OrdersHeld

/- Reg -/
namespace Go.Proofs.Ytfkeljolpcbbkaa
open Go.RowKit

section
variable {P : Program} {ops : Array Oper} {Q : Exit → Act → World → Prop} {S : World → Prop} {o : Oper} {a : Act} {w : World} {K : Act → World → Prop}
theorem wpOp_do {i : Nat} (hi : ops[i]? = some o) (hw : Region.wanted o (yielded ops a.tmps) = true) (h : o.wp P a w K Q) : wpOp P ops Q i K a w := by
  unfold wpOp
  simp only [hi, hw, if_true]
  exact .inl h
theorem wpOp_at {i : Nat} (hi : Nat.ble (i + 1) ops.size = true) (hw : Region.wanted (ops[i]'(Nat.le_of_ble_eq_true hi)) (yielded ops a.tmps) = true) (h : (ops[i]'(Nat.le_of_ble_eq_true hi)).wp P a w K Q) : wpOp P ops Q i K a w :=
  wpOp_do (Array.getElem?_eq_getElem _) hw h
theorem op_call {f : FuncId} {args : Array Value} {v : Value} {R : World → Prop} (h : (execOp a.eval o).run P w = .ok (.enter f args) w) (hc : Calls P f args w fun e w' => e = .returned v ∧ R w') (hk : ∀ w', R w' → K (a.put o.dst v) w') : o.wp P a w K Q := by
  unfold Oper.wp
  rw [h, Oper.upon_enter]
  exact hc.mono fun e w' ⟨he, hr⟩ => by subst he; exact hk w' hr
theorem op_value {v : Value} {w' : World} (h : (execOp a.eval o).run P w = .ok (.value v) w') (hk : K (a.put o.dst v) w') : o.wp P a w K Q := by
  unfold Oper.wp
  rw [h]; exact hk
theorem op_store_row (ty : TypeId) (x y : Operand) (g n : Nat) (f f' : Nat → Int) (t : TypeId) (ho : o.op = .store ty x y) (hx : a.eval x = .pointer (some ⟨g, 0, none⟩)) (hy : a.eval y = .agg (rowA n f)) (hg : Blk w g (rowA n f') t) (hi : (P.info? ty).map (·.size) = some n)
    (h : K (a.put o.dst undef) (w.setRow g (rowA n f))) : o.wp P a w K Q :=
  wp_store_row ty x y ho g _ hx hy t _ hg (by rw [rowA_size]; exact hi) (by rw [rowA_size, rowA_size]) (rowA_one n f) h
theorem yields_row (ty : TypeId) (x : Operand) (g n : Nat) (f : Nat → Int) (t : TypeId) (d : TypeDesc) (hw : Region.wanted o (yielded ops a.tmps) = true) (ho : o.op = .load ty x)
    (hx : a.eval x = .pointer (some ⟨g, 0, none⟩)) (hS : ∀ w, S w → Blk w g (rowA n f) t)
    (hu : P.underlying ty = some d) (hd : (match d with | .struct _ | .array _ _ => true | _ => false) = true) (hi : (P.info? ty).map (·.size) = some n) : YieldsIf P ops S o (.agg (rowA n f)) a :=
  .inl ⟨hw, fun w hs => by
    unfold execOp
    simp only [ho, hx, Instr.loadAt, Instr.sureAddr, Sem.run_bind, Sem.run_pure, Result.andThen_ok, run_loadVar_row w g t ty (rowA n f) (0, 0) d (hS w hs) hu hd (by rw [rowA_size]; exact hi)]⟩
section
variable {i : Nat} (hi : Nat.ble (i + 1) ops.size = true) (hw : Region.wanted (ops[i]'(Nat.le_of_ble_eq_true hi)) (yielded ops a.tmps) = true)
include hw
theorem wpOp_call {f : FuncId} {args : Array Value} {v : Value} {R : World → Prop} (h : (execOp a.eval (ops[i]'(Nat.le_of_ble_eq_true hi))).run P w = .ok (.enter f args) w) (hc : Calls P f args w fun e w' => e = .returned v ∧ R w')
    (hk : ∀ w', R w' → K (a.put (ops[i]'(Nat.le_of_ble_eq_true hi)).dst v) w') : wpOp P ops Q i K a w := wpOp_at hi hw (op_call h hc hk)
theorem wpOp_value {v : Value} {w' : World} (h : (execOp a.eval (ops[i]'(Nat.le_of_ble_eq_true hi))).run P w = .ok (.value v) w') (hk : K (a.put (ops[i]'(Nat.le_of_ble_eq_true hi)).dst v) w') : wpOp P ops Q i K a w := wpOp_at hi hw (op_value h hk)
theorem wpOp_store (ty : TypeId) (x y : Operand) (g n : Nat) (f f' : Nat → Int) (t : TypeId) (ho : (ops[i]'(Nat.le_of_ble_eq_true hi)).op = .store ty x y) (hx : a.eval x = .pointer (some ⟨g, 0, none⟩)) (hy : a.eval y = .agg (rowA n f)) (hg : Blk w g (rowA n f') t) (hi' : (P.info? ty).map (·.size) = some n)
    (h : K (a.put (ops[i]'(Nat.le_of_ble_eq_true hi)).dst undef) (w.setRow g (rowA n f))) : wpOp P ops Q i K a w := wpOp_at hi hw (op_store_row ty x y g n f f' t ho hx hy hg hi' h)
end
theorem wpAnyH_as {md : Region.Mode} {fuel : Nat} {listed : Array Bool} {b : Act} (e : a = b) (h : wpAnyH P md ops Q S fuel listed b w) : wpAnyH P md ops Q S fuel listed a w := e ▸ h
theorem yields_pure {v : Value} (hw : Region.wanted o (yielded ops a.tmps) = true) (h : ∀ w, (execOp a.eval o).run P w = .ok (.value v) w) : YieldsIf P ops S o v a := .inl ⟨hw, fun w _ => h w⟩
end
end Go.Proofs.Ytfkeljolpcbbkaa

/- QuiR -/
namespace Go.Proofs.Ytfkeljolpcbbkaa
open Go.RowKit

section
variable {P : Program} {ops : Array Oper} {C : World → Prop} {Q : Act → Prop} {o : Oper} {rest : List Oper} {a : Act}
end

def putsU (a : Act) (ks : List Nat) (u : Nat → Value) : Act := ks.foldl (fun a k => a.put (some k) (u k)) a
def Joined (a : Act) (ks : List Nat) (F : World → (Nat → Value) → Prop) (e : Exit) (b : Act) (w : World) : Prop :=
  e = .normal ∧ b = putsU a ks (fun k => b.tmps.getD k undef) ∧ F w (fun k => b.tmps.getD k undef)
theorem wp_join {P : Program} {c : Code} {a : Act} {w : World} {Q : Exit → Act → World → Prop} (ks : List Nat) (F : World → (Nat → Value) → Prop) (A : (Nat → Value) → Act) (hA : ∀ u, putsU a ks u = A u)
    (h1 : c.wp P (Joined a ks F) a w) (h2 : ∀ w u, F w u → Q .normal (A u) w) : c.wp P Q a w :=
  Code.wp_mono (fun e b w ⟨he, hb, hf⟩ => by subst he; rw [hb, hA]; exact h2 w _ hf) h1
end Go.Proofs.Ytfkeljolpcbbkaa

/- ThoI -/
namespace Go.Proofs.Ytfkeljolpcbbkaa
open Go.RowKit

theorem matSize : (Try.prog.info? 110).map (·.size) = some 576 := by kernel_rfl
theorem take_is (p o B i j : Nat) (f : Nat → Int) (u : Int) (h : Bool) (w : World) (fl : Fl p o h w) (hB : Blk w B (rowA 1152 f) 168) (hp : B ≠ p) (hij : i < j) (hj : j < 24) :
    Calls Try.prog 166 #[.pointer (some ⟨p, o, none⟩), .pointer (some ⟨B, i * 48, none⟩), .pointer (some ⟨B, j * 48, none⟩), .int .i64 u] w fun e w' => e = .returned (.tuple #[]) ∧ FlW p o (h || anyN (takH f j i u) 48) (w.setRow B (rowA 1152 (takF f j i u 48))) w' := by
  rw [Nat.mul_comm i 48, Nat.mul_comm j 48]
  exact take_any p o B i j f u h w fl hB hp hij hj
theorem rowJ_ints {w : World} {B j : Nat} {W : Nat → Int} {t : TypeId} (hB : Blk w B (rowA 1152 W) t) (hj : j < 24) : Ints w B (j * 48) 48 (rowJ W j) := by
  have := hB.ints.part (j * 48) 48 (by omega)
  rw [Nat.zero_add, Nat.mul_comm j 48] at this
  rw [Nat.mul_comm j 48]; exact this
theorem weighed_is (p o B E j : Nat) (W e : Nat → Int) (h : Bool) (w : World) (fl : Fl p o h w) (hB : Blk w B (rowA 1152 W) 168) (hE : Blk w E (rowA 48 e) 167) (hBp : B ≠ p) (hEp : E ≠ p) (hj : j < 24) :
    Calls Try.prog 165 #[.pointer (some ⟨p, o, none⟩), .pointer (some ⟨B, j * 48, none⟩), .pointer (some ⟨E, 0, none⟩)] w fun e' w' => e' = .returned (.agg (rowA 48 (yF W e j))) ∧ FlW p o (h || anyN (yH W e j) 48) w w' :=
  weighed_any p o B E (j * 48) 0 (rowJ W j) e h w fl hB.lt hE.lt hBp hEp (rowJ_ints hB hj) hE.ints
theorem dotJ_is (p o B Y i : Nat) (W y : Nat → Int) (h : Bool) (w : World) (fl : Fl p o h w) (hB : Blk w B (rowA 1152 W) 168) (hY : Blk w Y (rowA 48 y) 167) (hBp : B ≠ p) (hYp : Y ≠ p) (hi : i < 24) :
    Calls Try.prog 54 #[.pointer (some ⟨p, o, none⟩), .int .i64 30, .slice (some ⟨B, i * 48, none⟩) 48 48, .slice (some ⟨Y, 0, none⟩) 48 48] w fun e' w' => e' = .returned (.int .i64 (dotv (rowJ W i) y 48)) ∧ FlW p o (h || doth (rowJ W i) y 48) w w' := by
  refine (dot_fx p o B (i * 48) 48 48 Y 0 48 48 (rowJ W i) y 30 48 h w fl (by omega) (by omega) (by omega) (by omega) (by omega) hB.lt hY.lt hBp hYp (rowJ_ints hB hi) hY.ints).mono ?_
  rintro e' w' ⟨rfl, k⟩
  exact ⟨rfl, flag_is (by simp [doth, Bool.or_assoc]) k⟩
theorem div_quov (p o : Nat) (a b : Int) (h : Bool) (w : World) (f : Fl p o h w) :
    Calls Try.prog 47 #[.pointer (some ⟨p, o, none⟩), .int .i64 a, .int .i64 b, .int .i64 30] w fun e w' => e = .returned (.int .i64 (quov a b)) ∧ FlW p o (h || quoh a b) w w' := by
  refine (div_fx p o a b 30 h w f (by omega)).mono ?_
  rintro e w' ⟨rfl, k⟩
  exact ⟨rfl, flag_is (by simp [quoh, Bool.or_assoc]) k⟩
structure Sit (w0 : World) (p o : Nat) (f g q : Nat → Int) (h : Bool) (w : World) : Prop where
  F : FlW p o h w0 w
  P : Blk w w0.heap.size (rowA 300 f) 93
  G : Blk w (w0.heap.size + 1) (rowA 576 g) 110
  Q : Blk w (w0.heap.size + 2) (rowA 24 q) 91
  R : Blk w (w0.heap.size + 3) (rowA 300 fun _ => 0) 93
structure Fresh (w0 : World) (B n : Nat) (f : Nat → Int) (t : TypeId) (w : World) : Prop where
  gt : w0.heap.size + 3 < B
  blk : Blk w B (rowA n f) t
section
variable {w0 : World} {p o : Nat} {f g q : Nat → Int} {h h2 : Bool} {w w' : World}
theorem Sit.flag (s : Sit w0 p o f g q h w) (hp : p < w0.heap.size) (k : FlW p o h2 w w') : Sit w0 p o f g q h2 w' := ⟨s.F.trans k, s.P.flag (by omega) k, s.G.flag (by omega) k, s.Q.flag (by omega) k, s.R.flag (by omega) k⟩
theorem Sit.alloc (s : Sit w0 p o f g q h w) (x : Obj) : Sit w0 p o f g q h (w.alloc x) := ⟨s.F.alloc _, s.P.alloc _, s.G.alloc _, s.Q.alloc _, s.R.alloc _⟩
theorem Sit.drew (s : Sit w0 p o f g q h w) : Sit w0 p o f g q h w.drew := ⟨s.F.drew, s.P.drew, s.G.drew, s.Q.drew, s.R.drew⟩
theorem Sit.row (s : Sit w0 p o f g q h w) {B : Nat} (hB : w0.heap.size + 3 < B) (d : Array Value) : Sit w0 p o f g q h (w.setRow B d) := ⟨s.F.row (by omega) _, s.P.otherRow (by omega), s.G.otherRow (by omega), s.Q.otherRow (by omega), s.R.otherRow (by omega)⟩
theorem Sit.fresh (s : Sit w0 p o f g q h w) (n : Nat) (t : TypeId) : Fresh w0 w.heap.size n (fun _ => 0) t (w.alloc (.cells (rowA n fun _ => 0) t)) := ⟨s.R.lt, Blk.made _ _ _ rfl⟩
theorem Fresh.flag {B n : Nat} {r : Nat → Int} {t : TypeId} (s : Fresh w0 B n r t w) (hp : p < w0.heap.size) (k : FlW p o h2 w w') : Fresh w0 B n r t w' := ⟨s.gt, s.blk.flag (by have := s.gt; omega) k⟩
theorem Fresh.alloc {B n : Nat} {r : Nat → Int} {t : TypeId} (s : Fresh w0 B n r t w) (x : Obj) : Fresh w0 B n r t (w.alloc x) := ⟨s.gt, s.blk.alloc _⟩
theorem Fresh.set {B n : Nat} {r r2 : Nat → Int} {t : TypeId} (s : Fresh w0 B n r t w) : Fresh w0 B n r2 t (w.setRow B (rowA n r2)) := ⟨s.gt, s.blk.setRow⟩
theorem Fresh.other {B n C : Nat} {r : Nat → Int} {t : TypeId} (s : Fresh w0 B n r t w) (hne : B ≠ C) (d : Array Value) : Fresh w0 B n r t (w.setRow C d) := ⟨s.gt, s.blk.otherRow hne⟩
end
end Go.Proofs.Ytfkeljolpcbbkaa

/- ThoH -/
namespace Go.Proofs.Ytfkeljolpcbbkaa
open Go.RowKit

def actR (p o s : Nat) (f g q : Nat → Int) (a9 a10 a20 a21 a22 a23 a24 a25 a26 a27 : Value) : Act := ⟨⟨.pointer (some ⟨p, o, none⟩) :: .agg (rowA 300 f) :: .agg (rowA 576 g) :: .agg (rowA 24 q) :: undef :: .pointer (some ⟨s, 0, none⟩) :: .pointer (some ⟨s + 1, 0, none⟩) :: .pointer (some ⟨s + 2, 0, none⟩) :: .pointer (some ⟨s + 3, 0, none⟩) :: a9 :: a10 :: undef :: undef :: undef :: undef :: undef :: undef :: .pointer (some ⟨p, o, none⟩) :: .agg (rowA 300 f) :: .agg (rowA 300 (condF f)) :: a20 :: a21 :: a22 :: a23 :: a24 :: a25 :: a26 :: a27 :: undef :: undef :: undef :: undef :: undef :: undef :: undef :: undef :: undef :: undef :: undef :: undef :: undef :: undef :: undef :: undef :: undef :: undef :: undef :: undef :: undef :: undef :: undef :: undef :: undef :: undef :: undef :: undef :: undef :: undef :: undef :: undef :: undef :: undef :: undef :: undef :: undef :: undef :: undef :: undef :: undef :: undef :: undef :: undef :: undef :: undef :: undef :: []⟩, []⟩
set_option maxRecDepth 100000 in
set_option maxHeartbeats 8000000 in
theorem step_any (p o : Nat) (f g q : Nat → Int) (h : Bool) (w : World) (fl : Fl p o h w) :
    Calls Try.prog 96 #[.pointer (some ⟨p, o, none⟩), .agg (rowA 300 f), .agg (rowA 576 g), .agg (rowA 24 q)] w fun e w' => e = .returned (.agg (rowA 300 (stepF f g q))) ∧ FlW p o (h || stepH f g q) w w' := by
  have hpw := fl.lt
  go_enter Try.func96, Try.ntmps96
  go_upto_region 1 with (fail)
  rw [zeroCov]
  generalize hW : World.alloc (World.alloc (World.alloc (World.alloc w _) _) _) _ = X
  have hF : FlW p o h w X := by subst hW; exact ((((FlW.refl fl).alloc _).alloc _).alloc _).alloc _
  have hP : Blk X w.heap.size (rowA 300 f) 93 := by subst hW; exact (((Blk.made _ _ _ rfl).alloc _).alloc _).alloc _
  have hG : Blk X (w.heap.size + 1) (rowA 576 g) 110 := by subst hW; exact ((Blk.made _ _ _ (by simp)).alloc _).alloc _
  have hQ : Blk X (w.heap.size + 2) (rowA 24 q) 91 := by subst hW; exact (Blk.made _ _ _ (by simp)).alloc _
  have hR : Blk X (w.heap.size + 3) (rowA 300 fun _ => 0) 93 := by subst hW; exact Blk.made _ _ _ (by simp)
  clear hW
  go_wp2_with (refine row_load 93 _ rfl rfl w.heap.size 300 _ _ rfl hP _ Try.underlying93 rfl covSize ?_)
  refine (condition_any p o f _ _ (hF.fl fl)).mono ?_
  rintro e w1 ⟨rfl, k1⟩
  have hF1 := hF.trans k1
  have hP1 := hP.flag (by omega) k1
  have hG1 := hG.flag (by omega) k1
  have hQ1 := hQ.flag (by omega) k1
  have hR1 := hR.flag (by omega) k1
  clear hF hP hG hQ hR k1
  go_upto_region 2 with (refine row_store 93 _ _ rfl rfl w.heap.size 300 _ _ _ rfl rfl hP1 covSize ?_)
  have hs : Sit w p o (condF f) g q (h || condH f) (w1.setRow w.heap.size (rowA 300 (condF f))) := ⟨hF1.row (Nat.le_refl _) _, hP1.setRow, hG1.otherRow (by omega), hQ1.otherRow (by omega), hR1.otherRow (by omega)⟩
  clear hF1 hP1 hG1 hQ1 hR1
  generalize World.setRow _ _ _ = Y at *
  dsimp only [Act.put]
  refine wp_join [9, 10, 20, 21, 22, 23, 24, 25, 26, 27] (fun w' u => ∃ B E, u 9 = .pointer (some ⟨B, 0, none⟩) ∧ u 10 = .pointer (some ⟨E, 0, none⟩) ∧ Sit w p o (condF f) g q (h || condH f || anyN (fun k => sath (g k)) 576 || anyN (fun k => anyN (fun i => rowsH (condF f) (sat576 g) (fun k => k + 1) (48 * i + k)) 24) 24 || anyN (fun k => clamph (q k) 0 72057594037927936) 24) w' ∧ Fresh w B 1152 (rowW (condF f) (sat576 g) fun k => k + 1) 168 w' ∧ Fresh w E 48 (wei (condF f) q) 167 w' ∧ B ≠ E)
    (fun u => ⟨⟨.pointer (some ⟨p, o, none⟩) :: .agg (rowA 300 f) :: .agg (rowA 576 g) :: .agg (rowA 24 q) :: undef :: .pointer (some ⟨w.heap.size, 0, none⟩) :: .pointer (some ⟨w.heap.size + 1, 0, none⟩) :: .pointer (some ⟨w.heap.size + 2, 0, none⟩) :: .pointer (some ⟨w.heap.size + 3, 0, none⟩) :: u 9 :: u 10 :: undef :: undef :: undef :: undef :: undef :: undef :: .pointer (some ⟨p, o, none⟩) :: .agg (rowA 300 f) :: .agg (rowA 300 (condF f)) :: u 20 :: u 21 :: u 22 :: u 23 :: u 24 :: u 25 :: u 26 :: u 27 :: undef :: undef :: undef :: undef :: undef :: undef :: undef :: undef :: undef :: undef :: undef :: undef :: undef :: undef :: undef :: undef :: undef :: undef :: undef :: undef :: undef :: undef :: undef :: undef :: undef :: undef :: undef :: undef :: undef :: undef :: undef :: undef :: undef :: undef :: undef :: undef :: undef :: undef :: undef :: undef :: undef :: undef :: undef :: undef :: undef :: undef :: undef :: []⟩, []⟩) (fun u => by kernel_rfl) ?_ ?_
  · refine wp_region_held (S := fun w' => ∃ h, Sit w p o (condF f) g q h w') (by kernel_rfl) ?_
    change wpAnyH _ _ _ _ _ _ _ _ (World.drew _)
    replace hs := hs.drew
    generalize World.drew Y = W0 at *
    refine wpAnyH_take (i := 0) rfl (by kernel_rfl) (by kernel_rfl) (by kernel_rfl) (fun _ _ _ h => nomatch h.1) (yields_pure (v := .pointer (some ⟨p, o, none⟩)) (by kernel_rfl) (fun _ => by kernel_rfl)) ⟨_, hs⟩ ?_
    refine wpAnyH_as (b := actR p o w.heap.size f g q undef undef (.pointer (some ⟨p, o, none⟩)) undef undef undef undef undef undef undef) (by kernel_rfl) ?_
    refine wpAnyH_take (i := 1) rfl (by kernel_rfl) (by kernel_rfl) (by kernel_rfl) (fun _ _ _ h => nomatch h.1) (yields_row 93 (.tmp 5) (w.heap.size) 300 (condF f) 93 _ (by kernel_rfl) rfl (by kernel_rfl) (fun _ ⟨_, s⟩ => s.P) Try.underlying93 rfl covSize) ⟨_, hs⟩ ?_
    refine wpAnyH_as (b := actR p o w.heap.size f g q undef undef (.pointer (some ⟨p, o, none⟩)) (.agg (rowA 300 (condF f))) undef undef undef undef undef undef) (by kernel_rfl) ?_
    refine wpAnyH_take (i := 2) rfl (by kernel_rfl) (by kernel_rfl) (by kernel_rfl) (fun _ _ _ h => nomatch h.1) (yields_row 110 (.tmp 6) (w.heap.size + 1) 576 (g) 110 _ (by kernel_rfl) rfl (by kernel_rfl) (fun _ ⟨_, s⟩ => s.G) Try.underlying110 rfl matSize) ⟨_, hs⟩ ?_
    refine wpAnyH_as (b := actR p o w.heap.size f g q undef undef (.pointer (some ⟨p, o, none⟩)) (.agg (rowA 300 (condF f))) (.agg (rowA 576 g)) undef undef undef undef undef) (by kernel_rfl) ?_
    refine wpAnyH_take (i := 4) rfl (by kernel_rfl) (by kernel_rfl) (by kernel_rfl) (fun _ _ _ h => nomatch h.1) (yields_pure (v := .pointer (some ⟨p, o, none⟩)) (by kernel_rfl) (fun _ => by kernel_rfl)) ⟨_, hs⟩ ?_
    refine wpAnyH_as (b := actR p o w.heap.size f g q undef undef (.pointer (some ⟨p, o, none⟩)) (.agg (rowA 300 (condF f))) (.agg (rowA 576 g)) undef (.pointer (some ⟨p, o, none⟩)) undef undef undef) (by kernel_rfl) ?_
    refine wpAnyH_take (i := 5) rfl (by kernel_rfl) (by kernel_rfl) (by kernel_rfl) (fun _ _ _ h => nomatch h.1) (yields_row 93 (.tmp 5) (w.heap.size) 300 (condF f) 93 _ (by kernel_rfl) rfl (by kernel_rfl) (fun _ ⟨_, s⟩ => s.P) Try.underlying93 rfl covSize) ⟨_, hs⟩ ?_
    refine wpAnyH_as (b := actR p o w.heap.size f g q undef undef (.pointer (some ⟨p, o, none⟩)) (.agg (rowA 300 (condF f))) (.agg (rowA 576 g)) undef (.pointer (some ⟨p, o, none⟩)) (.agg (rowA 300 (condF f))) undef undef) (by kernel_rfl) ?_
    refine wpAnyH_take (i := 6) rfl (by kernel_rfl) (by kernel_rfl) (by kernel_rfl) (fun _ _ _ h => nomatch h.1) (yields_row 91 (.tmp 7) (w.heap.size + 2) 24 (q) 91 _ (by kernel_rfl) rfl (by kernel_rfl) (fun _ ⟨_, s⟩ => s.Q) Try.underlying91 rfl rowDSize) ⟨_, hs⟩ ?_
    refine wpAnyH_as (b := actR p o w.heap.size f g q undef undef (.pointer (some ⟨p, o, none⟩)) (.agg (rowA 300 (condF f))) (.agg (rowA 576 g)) undef (.pointer (some ⟨p, o, none⟩)) (.agg (rowA 300 (condF f))) (.agg (rowA 24 q)) undef) (by kernel_rfl) ?_
    refine wpAnyH_all (rs := [3, 8, 9]) (by kernel_rfl) (by simp) ?_
    intro i hi
    simp only [List.mem_cons, List.not_mem_nil, or_false] at hi
    rcases hi with rfl | rfl | rfl
    · refine wpOp_call (by kernel_rfl) (by kernel_rfl) (by kernel_rfl) (rows_any p o (condF f) g _ _ (hs.F.fl fl)) ?_
      intro W1 k
      replace hs := hs.flag hpw k
      clear k
      refine ⟨⟨_, hs⟩, ?_⟩
      refine wpAnyH_as (b := actR p o w.heap.size f g q undef undef (.pointer (some ⟨p, o, none⟩)) (.agg (rowA 300 (condF f))) (.agg (rowA 576 g)) (.agg (rowA 1152 (rowW (condF f) (sat576 g) fun k => k + 1))) (.pointer (some ⟨p, o, none⟩)) (.agg (rowA 300 (condF f))) (.agg (rowA 24 q)) undef) (by kernel_rfl) ?_
      refine wpAnyH_all (rs := [7, 8, 9]) (by kernel_rfl) (by simp) ?_
      intro i hi
      simp only [List.mem_cons, List.not_mem_nil, or_false] at hi
      rcases hi with rfl | rfl | rfl
      · refine wpOp_call (by kernel_rfl) (by kernel_rfl) (by kernel_rfl) (weights_any p o (condF f) q _ _ (hs.F.fl fl)) ?_
        intro W2 k
        replace hs := hs.flag hpw k
        clear k
        refine ⟨⟨_, hs⟩, ?_⟩
        refine wpAnyH_as (b := actR p o w.heap.size f g q undef undef (.pointer (some ⟨p, o, none⟩)) (.agg (rowA 300 (condF f))) (.agg (rowA 576 g)) (.agg (rowA 1152 (rowW (condF f) (sat576 g) fun k => k + 1))) (.pointer (some ⟨p, o, none⟩)) (.agg (rowA 300 (condF f))) (.agg (rowA 24 q)) (.agg (rowA 48 (wei (condF f) q)))) (by kernel_rfl) ?_
        refine wpAnyH_all (rs := [8, 9]) (by kernel_rfl) (by simp) ?_
        intro i hi
        simp only [List.mem_cons, List.not_mem_nil, or_false] at hi
        rcases hi with rfl | rfl
        · refine wpOp_value (by kernel_rfl) (by kernel_rfl) (w' := World.alloc W2 (.cells (rowA 1152 fun _ => 0) 168)) (v := .pointer (some ⟨W2.heap.size, 0, none⟩)) (by rw [← zeroRows]; kernel_rfl) ?_
          have f8 := hs.fresh 1152 168
          replace hs := hs.alloc (.cells (rowA 1152 fun _ => 0) 168)
          generalize World.alloc W2 _ = W3 at *
          generalize W2.heap.size = B3 at *
          refine ⟨⟨_, hs⟩, ?_⟩
          refine wpAnyH_as (b := actR p o w.heap.size f g q (.pointer (some ⟨B3, 0, none⟩)) undef (.pointer (some ⟨p, o, none⟩)) (.agg (rowA 300 (condF f))) (.agg (rowA 576 g)) (.agg (rowA 1152 (rowW (condF f) (sat576 g) fun k => k + 1))) (.pointer (some ⟨p, o, none⟩)) (.agg (rowA 300 (condF f))) (.agg (rowA 24 q)) (.agg (rowA 48 (wei (condF f) q)))) (by kernel_rfl) ?_
          refine wpAnyH_all (rs := [9]) (by kernel_rfl) (by simp) ?_
          intro i hi
          obtain rfl : i = 9 := by simpa using hi
          refine wpOp_value (by kernel_rfl) (by kernel_rfl) (w' := World.alloc W3 (.cells (rowA 48 fun _ => 0) 167)) (v := .pointer (some ⟨W3.heap.size, 0, none⟩)) (by rw [← zero48]; kernel_rfl) ?_
          have f9 := hs.fresh 48 167
          have hne := Nat.ne_of_gt f8.blk.lt
          replace f8 := f8.alloc (.cells (rowA 48 fun _ => 0) 167)
          replace hs := hs.alloc (.cells (rowA 48 fun _ => 0) 167)
          generalize World.alloc W3 _ = W4 at *
          generalize W3.heap.size = B4 at *
          refine ⟨⟨_, hs⟩, ?_⟩
          refine wpAnyH_as (b := actR p o w.heap.size f g q (.pointer (some ⟨B3, 0, none⟩)) (.pointer (some ⟨B4, 0, none⟩)) (.pointer (some ⟨p, o, none⟩)) (.agg (rowA 300 (condF f))) (.agg (rowA 576 g)) (.agg (rowA 1152 (rowW (condF f) (sat576 g) fun k => k + 1))) (.pointer (some ⟨p, o, none⟩)) (.agg (rowA 300 (condF f))) (.agg (rowA 24 q)) (.agg (rowA 48 (wei (condF f) q)))) (by kernel_rfl) ?_
          refine wpAnyH_all (rs := [10]) (by kernel_rfl) (by simp) ?_
          intro i hi
          obtain rfl : i = 10 := by simpa using hi
          refine wpOp_store (by kernel_rfl) (by kernel_rfl) 168 (.tmp 9) (.tmp 23) B3 1152 (rowW (condF f) (sat576 g) fun k => k + 1) (fun _ => 0) 168 (by kernel_rfl) (by kernel_rfl) (by kernel_rfl) f8.blk rowsSize ?_
          replace hs := hs.row f8.gt (rowA 1152 (rowW (condF f) (sat576 g) fun k => k + 1))
          replace f9 := f9.other hne (rowA 1152 (rowW (condF f) (sat576 g) fun k => k + 1))
          replace f8 := f8.set (r2 := (rowW (condF f) (sat576 g) fun k => k + 1))
          refine ⟨⟨_, hs⟩, ?_⟩
          refine wpAnyH_all (rs := [11]) (by kernel_rfl) (by simp) ?_
          intro i hi
          obtain rfl : i = 11 := by simpa using hi
          refine wpOp_store (by kernel_rfl) (by kernel_rfl) 167 (.tmp 10) (.tmp 27) B4 48 (wei (condF f) q) (fun _ => 0) 167 (by kernel_rfl) (by kernel_rfl) (by kernel_rfl) f9.blk lineSize ?_
          replace hs := hs.row f9.gt (rowA 48 (wei (condF f) q))
          replace f8 := f8.other (Ne.symm hne) (rowA 48 (wei (condF f) q))
          replace f9 := f9.set (r2 := (wei (condF f) q))
          refine ⟨⟨_, hs⟩, ?_⟩
          refine wpAnyH_done (by kernel_rfl) ?_ _
          exact ⟨rfl, by kernel_rfl, B3, B4, by kernel_rfl, by kernel_rfl, hs, f8, f9, Ne.symm hne⟩
        · refine wpOp_value (by kernel_rfl) (by kernel_rfl) (w' := World.alloc W2 (.cells (rowA 48 fun _ => 0) 167)) (v := .pointer (some ⟨W2.heap.size, 0, none⟩)) (by rw [← zero48]; kernel_rfl) ?_
          have f9 := hs.fresh 48 167
          replace hs := hs.alloc (.cells (rowA 48 fun _ => 0) 167)
          generalize World.alloc W2 _ = W5 at *
          generalize W2.heap.size = B5 at *
          refine ⟨⟨_, hs⟩, ?_⟩
          refine wpAnyH_as (b := actR p o w.heap.size f g q undef (.pointer (some ⟨B5, 0, none⟩)) (.pointer (some ⟨p, o, none⟩)) (.agg (rowA 300 (condF f))) (.agg (rowA 576 g)) (.agg (rowA 1152 (rowW (condF f) (sat576 g) fun k => k + 1))) (.pointer (some ⟨p, o, none⟩)) (.agg (rowA 300 (condF f))) (.agg (rowA 24 q)) (.agg (rowA 48 (wei (condF f) q)))) (by kernel_rfl) ?_
          refine wpAnyH_all (rs := [8]) (by kernel_rfl) (by simp) ?_
          intro i hi
          obtain rfl : i = 8 := by simpa using hi
          refine wpOp_value (by kernel_rfl) (by kernel_rfl) (w' := World.alloc W5 (.cells (rowA 1152 fun _ => 0) 168)) (v := .pointer (some ⟨W5.heap.size, 0, none⟩)) (by rw [← zeroRows]; kernel_rfl) ?_
          have f8 := hs.fresh 1152 168
          have hne := Nat.ne_of_lt f9.blk.lt
          replace f9 := f9.alloc (.cells (rowA 1152 fun _ => 0) 168)
          replace hs := hs.alloc (.cells (rowA 1152 fun _ => 0) 168)
          generalize World.alloc W5 _ = W6 at *
          generalize W5.heap.size = B6 at *
          refine ⟨⟨_, hs⟩, ?_⟩
          refine wpAnyH_as (b := actR p o w.heap.size f g q (.pointer (some ⟨B6, 0, none⟩)) (.pointer (some ⟨B5, 0, none⟩)) (.pointer (some ⟨p, o, none⟩)) (.agg (rowA 300 (condF f))) (.agg (rowA 576 g)) (.agg (rowA 1152 (rowW (condF f) (sat576 g) fun k => k + 1))) (.pointer (some ⟨p, o, none⟩)) (.agg (rowA 300 (condF f))) (.agg (rowA 24 q)) (.agg (rowA 48 (wei (condF f) q)))) (by kernel_rfl) ?_
          refine wpAnyH_all (rs := [10]) (by kernel_rfl) (by simp) ?_
          intro i hi
          obtain rfl : i = 10 := by simpa using hi
          refine wpOp_store (by kernel_rfl) (by kernel_rfl) 168 (.tmp 9) (.tmp 23) B6 1152 (rowW (condF f) (sat576 g) fun k => k + 1) (fun _ => 0) 168 (by kernel_rfl) (by kernel_rfl) (by kernel_rfl) f8.blk rowsSize ?_
          replace hs := hs.row f8.gt (rowA 1152 (rowW (condF f) (sat576 g) fun k => k + 1))
          replace f9 := f9.other hne (rowA 1152 (rowW (condF f) (sat576 g) fun k => k + 1))
          replace f8 := f8.set (r2 := (rowW (condF f) (sat576 g) fun k => k + 1))
          refine ⟨⟨_, hs⟩, ?_⟩
          refine wpAnyH_all (rs := [11]) (by kernel_rfl) (by simp) ?_
          intro i hi
          obtain rfl : i = 11 := by simpa using hi
          refine wpOp_store (by kernel_rfl) (by kernel_rfl) 167 (.tmp 10) (.tmp 27) B5 48 (wei (condF f) q) (fun _ => 0) 167 (by kernel_rfl) (by kernel_rfl) (by kernel_rfl) f9.blk lineSize ?_
          replace hs := hs.row f9.gt (rowA 48 (wei (condF f) q))
          replace f8 := f8.other (Ne.symm hne) (rowA 48 (wei (condF f) q))
          replace f9 := f9.set (r2 := (wei (condF f) q))
          refine ⟨⟨_, hs⟩, ?_⟩
          refine wpAnyH_done (by kernel_rfl) ?_ _
          exact ⟨rfl, by kernel_rfl, B6, B5, by kernel_rfl, by kernel_rfl, hs, f8, f9, Ne.symm hne⟩
      · refine wpOp_value (by kernel_rfl) (by kernel_rfl) (w' := World.alloc W1 (.cells (rowA 1152 fun _ => 0) 168)) (v := .pointer (some ⟨W1.heap.size, 0, none⟩)) (by rw [← zeroRows]; kernel_rfl) ?_
        have f8 := hs.fresh 1152 168
        replace hs := hs.alloc (.cells (rowA 1152 fun _ => 0) 168)
        generalize World.alloc W1 _ = W7 at *
        generalize W1.heap.size = B7 at *
        refine ⟨⟨_, hs⟩, ?_⟩
        refine wpAnyH_as (b := actR p o w.heap.size f g q (.pointer (some ⟨B7, 0, none⟩)) undef (.pointer (some ⟨p, o, none⟩)) (.agg (rowA 300 (condF f))) (.agg (rowA 576 g)) (.agg (rowA 1152 (rowW (condF f) (sat576 g) fun k => k + 1))) (.pointer (some ⟨p, o, none⟩)) (.agg (rowA 300 (condF f))) (.agg (rowA 24 q)) undef) (by kernel_rfl) ?_
        refine wpAnyH_all (rs := [7, 9]) (by kernel_rfl) (by simp) ?_
        intro i hi
        simp only [List.mem_cons, List.not_mem_nil, or_false] at hi
        rcases hi with rfl | rfl
        · refine wpOp_call (by kernel_rfl) (by kernel_rfl) (by kernel_rfl) (weights_any p o (condF f) q _ _ (hs.F.fl fl)) ?_
          intro W8 k
          replace hs := hs.flag hpw k
          replace f8 := f8.flag hpw k
          clear k
          refine ⟨⟨_, hs⟩, ?_⟩
          refine wpAnyH_as (b := actR p o w.heap.size f g q (.pointer (some ⟨B7, 0, none⟩)) undef (.pointer (some ⟨p, o, none⟩)) (.agg (rowA 300 (condF f))) (.agg (rowA 576 g)) (.agg (rowA 1152 (rowW (condF f) (sat576 g) fun k => k + 1))) (.pointer (some ⟨p, o, none⟩)) (.agg (rowA 300 (condF f))) (.agg (rowA 24 q)) (.agg (rowA 48 (wei (condF f) q)))) (by kernel_rfl) ?_
          refine wpAnyH_all (rs := [9]) (by kernel_rfl) (by simp) ?_
          intro i hi
          obtain rfl : i = 9 := by simpa using hi
          refine wpOp_value (by kernel_rfl) (by kernel_rfl) (w' := World.alloc W8 (.cells (rowA 48 fun _ => 0) 167)) (v := .pointer (some ⟨W8.heap.size, 0, none⟩)) (by rw [← zero48]; kernel_rfl) ?_
          have f9 := hs.fresh 48 167
          have hne := Nat.ne_of_gt f8.blk.lt
          replace f8 := f8.alloc (.cells (rowA 48 fun _ => 0) 167)
          replace hs := hs.alloc (.cells (rowA 48 fun _ => 0) 167)
          generalize World.alloc W8 _ = W9 at *
          generalize W8.heap.size = B9 at *
          refine ⟨⟨_, hs⟩, ?_⟩
          refine wpAnyH_as (b := actR p o w.heap.size f g q (.pointer (some ⟨B7, 0, none⟩)) (.pointer (some ⟨B9, 0, none⟩)) (.pointer (some ⟨p, o, none⟩)) (.agg (rowA 300 (condF f))) (.agg (rowA 576 g)) (.agg (rowA 1152 (rowW (condF f) (sat576 g) fun k => k + 1))) (.pointer (some ⟨p, o, none⟩)) (.agg (rowA 300 (condF f))) (.agg (rowA 24 q)) (.agg (rowA 48 (wei (condF f) q)))) (by kernel_rfl) ?_
          refine wpAnyH_all (rs := [10]) (by kernel_rfl) (by simp) ?_
          intro i hi
          obtain rfl : i = 10 := by simpa using hi
          refine wpOp_store (by kernel_rfl) (by kernel_rfl) 168 (.tmp 9) (.tmp 23) B7 1152 (rowW (condF f) (sat576 g) fun k => k + 1) (fun _ => 0) 168 (by kernel_rfl) (by kernel_rfl) (by kernel_rfl) f8.blk rowsSize ?_
          replace hs := hs.row f8.gt (rowA 1152 (rowW (condF f) (sat576 g) fun k => k + 1))
          replace f9 := f9.other hne (rowA 1152 (rowW (condF f) (sat576 g) fun k => k + 1))
          replace f8 := f8.set (r2 := (rowW (condF f) (sat576 g) fun k => k + 1))
          refine ⟨⟨_, hs⟩, ?_⟩
          refine wpAnyH_all (rs := [11]) (by kernel_rfl) (by simp) ?_
          intro i hi
          obtain rfl : i = 11 := by simpa using hi
          refine wpOp_store (by kernel_rfl) (by kernel_rfl) 167 (.tmp 10) (.tmp 27) B9 48 (wei (condF f) q) (fun _ => 0) 167 (by kernel_rfl) (by kernel_rfl) (by kernel_rfl) f9.blk lineSize ?_
          replace hs := hs.row f9.gt (rowA 48 (wei (condF f) q))
          replace f8 := f8.other (Ne.symm hne) (rowA 48 (wei (condF f) q))
          replace f9 := f9.set (r2 := (wei (condF f) q))
          refine ⟨⟨_, hs⟩, ?_⟩
          refine wpAnyH_done (by kernel_rfl) ?_ _
          exact ⟨rfl, by kernel_rfl, B7, B9, by kernel_rfl, by kernel_rfl, hs, f8, f9, Ne.symm hne⟩
        · refine wpOp_value (by kernel_rfl) (by kernel_rfl) (w' := World.alloc W7 (.cells (rowA 48 fun _ => 0) 167)) (v := .pointer (some ⟨W7.heap.size, 0, none⟩)) (by rw [← zero48]; kernel_rfl) ?_
          have f9 := hs.fresh 48 167
          have hne := Nat.ne_of_gt f8.blk.lt
          replace f8 := f8.alloc (.cells (rowA 48 fun _ => 0) 167)
          replace hs := hs.alloc (.cells (rowA 48 fun _ => 0) 167)
          generalize World.alloc W7 _ = W10 at *
          generalize W7.heap.size = B10 at *
          refine ⟨⟨_, hs⟩, ?_⟩
          refine wpAnyH_as (b := actR p o w.heap.size f g q (.pointer (some ⟨B7, 0, none⟩)) (.pointer (some ⟨B10, 0, none⟩)) (.pointer (some ⟨p, o, none⟩)) (.agg (rowA 300 (condF f))) (.agg (rowA 576 g)) (.agg (rowA 1152 (rowW (condF f) (sat576 g) fun k => k + 1))) (.pointer (some ⟨p, o, none⟩)) (.agg (rowA 300 (condF f))) (.agg (rowA 24 q)) undef) (by kernel_rfl) ?_
          refine wpAnyH_all (rs := [7]) (by kernel_rfl) (by simp) ?_
          intro i hi
          obtain rfl : i = 7 := by simpa using hi
          refine wpOp_call (by kernel_rfl) (by kernel_rfl) (by kernel_rfl) (weights_any p o (condF f) q _ _ (hs.F.fl fl)) ?_
          intro W11 k
          replace hs := hs.flag hpw k
          replace f8 := f8.flag hpw k
          replace f9 := f9.flag hpw k
          clear k
          refine ⟨⟨_, hs⟩, ?_⟩
          refine wpAnyH_as (b := actR p o w.heap.size f g q (.pointer (some ⟨B7, 0, none⟩)) (.pointer (some ⟨B10, 0, none⟩)) (.pointer (some ⟨p, o, none⟩)) (.agg (rowA 300 (condF f))) (.agg (rowA 576 g)) (.agg (rowA 1152 (rowW (condF f) (sat576 g) fun k => k + 1))) (.pointer (some ⟨p, o, none⟩)) (.agg (rowA 300 (condF f))) (.agg (rowA 24 q)) (.agg (rowA 48 (wei (condF f) q)))) (by kernel_rfl) ?_
          refine wpAnyH_all (rs := [10]) (by kernel_rfl) (by simp) ?_
          intro i hi
          obtain rfl : i = 10 := by simpa using hi
          refine wpOp_store (by kernel_rfl) (by kernel_rfl) 168 (.tmp 9) (.tmp 23) B7 1152 (rowW (condF f) (sat576 g) fun k => k + 1) (fun _ => 0) 168 (by kernel_rfl) (by kernel_rfl) (by kernel_rfl) f8.blk rowsSize ?_
          replace hs := hs.row f8.gt (rowA 1152 (rowW (condF f) (sat576 g) fun k => k + 1))
          replace f9 := f9.other hne (rowA 1152 (rowW (condF f) (sat576 g) fun k => k + 1))
          replace f8 := f8.set (r2 := (rowW (condF f) (sat576 g) fun k => k + 1))
          refine ⟨⟨_, hs⟩, ?_⟩
          refine wpAnyH_all (rs := [11]) (by kernel_rfl) (by simp) ?_
          intro i hi
          obtain rfl : i = 11 := by simpa using hi
          refine wpOp_store (by kernel_rfl) (by kernel_rfl) 167 (.tmp 10) (.tmp 27) B10 48 (wei (condF f) q) (fun _ => 0) 167 (by kernel_rfl) (by kernel_rfl) (by kernel_rfl) f9.blk lineSize ?_
          replace hs := hs.row f9.gt (rowA 48 (wei (condF f) q))
          replace f8 := f8.other (Ne.symm hne) (rowA 48 (wei (condF f) q))
          replace f9 := f9.set (r2 := (wei (condF f) q))
          refine ⟨⟨_, hs⟩, ?_⟩
          refine wpAnyH_done (by kernel_rfl) ?_ _
          exact ⟨rfl, by kernel_rfl, B7, B10, by kernel_rfl, by kernel_rfl, hs, f8, f9, Ne.symm hne⟩
      · refine wpOp_value (by kernel_rfl) (by kernel_rfl) (w' := World.alloc W1 (.cells (rowA 48 fun _ => 0) 167)) (v := .pointer (some ⟨W1.heap.size, 0, none⟩)) (by rw [← zero48]; kernel_rfl) ?_
        have f9 := hs.fresh 48 167
        replace hs := hs.alloc (.cells (rowA 48 fun _ => 0) 167)
        generalize World.alloc W1 _ = W12 at *
        generalize W1.heap.size = B12 at *
        refine ⟨⟨_, hs⟩, ?_⟩
        refine wpAnyH_as (b := actR p o w.heap.size f g q undef (.pointer (some ⟨B12, 0, none⟩)) (.pointer (some ⟨p, o, none⟩)) (.agg (rowA 300 (condF f))) (.agg (rowA 576 g)) (.agg (rowA 1152 (rowW (condF f) (sat576 g) fun k => k + 1))) (.pointer (some ⟨p, o, none⟩)) (.agg (rowA 300 (condF f))) (.agg (rowA 24 q)) undef) (by kernel_rfl) ?_
        refine wpAnyH_all (rs := [7, 8]) (by kernel_rfl) (by simp) ?_
        intro i hi
        simp only [List.mem_cons, List.not_mem_nil, or_false] at hi
        rcases hi with rfl | rfl
        · refine wpOp_call (by kernel_rfl) (by kernel_rfl) (by kernel_rfl) (weights_any p o (condF f) q _ _ (hs.F.fl fl)) ?_
          intro W13 k
          replace hs := hs.flag hpw k
          replace f9 := f9.flag hpw k
          clear k
          refine ⟨⟨_, hs⟩, ?_⟩
          refine wpAnyH_as (b := actR p o w.heap.size f g q undef (.pointer (some ⟨B12, 0, none⟩)) (.pointer (some ⟨p, o, none⟩)) (.agg (rowA 300 (condF f))) (.agg (rowA 576 g)) (.agg (rowA 1152 (rowW (condF f) (sat576 g) fun k => k + 1))) (.pointer (some ⟨p, o, none⟩)) (.agg (rowA 300 (condF f))) (.agg (rowA 24 q)) (.agg (rowA 48 (wei (condF f) q)))) (by kernel_rfl) ?_
          refine wpAnyH_all (rs := [8]) (by kernel_rfl) (by simp) ?_
          intro i hi
          obtain rfl : i = 8 := by simpa using hi
          refine wpOp_value (by kernel_rfl) (by kernel_rfl) (w' := World.alloc W13 (.cells (rowA 1152 fun _ => 0) 168)) (v := .pointer (some ⟨W13.heap.size, 0, none⟩)) (by rw [← zeroRows]; kernel_rfl) ?_
          have f8 := hs.fresh 1152 168
          have hne := Nat.ne_of_lt f9.blk.lt
          replace f9 := f9.alloc (.cells (rowA 1152 fun _ => 0) 168)
          replace hs := hs.alloc (.cells (rowA 1152 fun _ => 0) 168)
          generalize World.alloc W13 _ = W14 at *
          generalize W13.heap.size = B14 at *
          refine ⟨⟨_, hs⟩, ?_⟩
          refine wpAnyH_as (b := actR p o w.heap.size f g q (.pointer (some ⟨B14, 0, none⟩)) (.pointer (some ⟨B12, 0, none⟩)) (.pointer (some ⟨p, o, none⟩)) (.agg (rowA 300 (condF f))) (.agg (rowA 576 g)) (.agg (rowA 1152 (rowW (condF f) (sat576 g) fun k => k + 1))) (.pointer (some ⟨p, o, none⟩)) (.agg (rowA 300 (condF f))) (.agg (rowA 24 q)) (.agg (rowA 48 (wei (condF f) q)))) (by kernel_rfl) ?_
          refine wpAnyH_all (rs := [10]) (by kernel_rfl) (by simp) ?_
          intro i hi
          obtain rfl : i = 10 := by simpa using hi
          refine wpOp_store (by kernel_rfl) (by kernel_rfl) 168 (.tmp 9) (.tmp 23) B14 1152 (rowW (condF f) (sat576 g) fun k => k + 1) (fun _ => 0) 168 (by kernel_rfl) (by kernel_rfl) (by kernel_rfl) f8.blk rowsSize ?_
          replace hs := hs.row f8.gt (rowA 1152 (rowW (condF f) (sat576 g) fun k => k + 1))
          replace f9 := f9.other hne (rowA 1152 (rowW (condF f) (sat576 g) fun k => k + 1))
          replace f8 := f8.set (r2 := (rowW (condF f) (sat576 g) fun k => k + 1))
          refine ⟨⟨_, hs⟩, ?_⟩
          refine wpAnyH_all (rs := [11]) (by kernel_rfl) (by simp) ?_
          intro i hi
          obtain rfl : i = 11 := by simpa using hi
          refine wpOp_store (by kernel_rfl) (by kernel_rfl) 167 (.tmp 10) (.tmp 27) B12 48 (wei (condF f) q) (fun _ => 0) 167 (by kernel_rfl) (by kernel_rfl) (by kernel_rfl) f9.blk lineSize ?_
          replace hs := hs.row f9.gt (rowA 48 (wei (condF f) q))
          replace f8 := f8.other (Ne.symm hne) (rowA 48 (wei (condF f) q))
          replace f9 := f9.set (r2 := (wei (condF f) q))
          refine ⟨⟨_, hs⟩, ?_⟩
          refine wpAnyH_done (by kernel_rfl) ?_ _
          exact ⟨rfl, by kernel_rfl, B14, B12, by kernel_rfl, by kernel_rfl, hs, f8, f9, Ne.symm hne⟩
        · refine wpOp_value (by kernel_rfl) (by kernel_rfl) (w' := World.alloc W12 (.cells (rowA 1152 fun _ => 0) 168)) (v := .pointer (some ⟨W12.heap.size, 0, none⟩)) (by rw [← zeroRows]; kernel_rfl) ?_
          have f8 := hs.fresh 1152 168
          have hne := Nat.ne_of_lt f9.blk.lt
          replace f9 := f9.alloc (.cells (rowA 1152 fun _ => 0) 168)
          replace hs := hs.alloc (.cells (rowA 1152 fun _ => 0) 168)
          generalize World.alloc W12 _ = W15 at *
          generalize W12.heap.size = B15 at *
          refine ⟨⟨_, hs⟩, ?_⟩
          refine wpAnyH_as (b := actR p o w.heap.size f g q (.pointer (some ⟨B15, 0, none⟩)) (.pointer (some ⟨B12, 0, none⟩)) (.pointer (some ⟨p, o, none⟩)) (.agg (rowA 300 (condF f))) (.agg (rowA 576 g)) (.agg (rowA 1152 (rowW (condF f) (sat576 g) fun k => k + 1))) (.pointer (some ⟨p, o, none⟩)) (.agg (rowA 300 (condF f))) (.agg (rowA 24 q)) undef) (by kernel_rfl) ?_
          refine wpAnyH_all (rs := [7]) (by kernel_rfl) (by simp) ?_
          intro i hi
          obtain rfl : i = 7 := by simpa using hi
          refine wpOp_call (by kernel_rfl) (by kernel_rfl) (by kernel_rfl) (weights_any p o (condF f) q _ _ (hs.F.fl fl)) ?_
          intro W16 k
          replace hs := hs.flag hpw k
          replace f8 := f8.flag hpw k
          replace f9 := f9.flag hpw k
          clear k
          refine ⟨⟨_, hs⟩, ?_⟩
          refine wpAnyH_as (b := actR p o w.heap.size f g q (.pointer (some ⟨B15, 0, none⟩)) (.pointer (some ⟨B12, 0, none⟩)) (.pointer (some ⟨p, o, none⟩)) (.agg (rowA 300 (condF f))) (.agg (rowA 576 g)) (.agg (rowA 1152 (rowW (condF f) (sat576 g) fun k => k + 1))) (.pointer (some ⟨p, o, none⟩)) (.agg (rowA 300 (condF f))) (.agg (rowA 24 q)) (.agg (rowA 48 (wei (condF f) q)))) (by kernel_rfl) ?_
          refine wpAnyH_all (rs := [10]) (by kernel_rfl) (by simp) ?_
          intro i hi
          obtain rfl : i = 10 := by simpa using hi
          refine wpOp_store (by kernel_rfl) (by kernel_rfl) 168 (.tmp 9) (.tmp 23) B15 1152 (rowW (condF f) (sat576 g) fun k => k + 1) (fun _ => 0) 168 (by kernel_rfl) (by kernel_rfl) (by kernel_rfl) f8.blk rowsSize ?_
          replace hs := hs.row f8.gt (rowA 1152 (rowW (condF f) (sat576 g) fun k => k + 1))
          replace f9 := f9.other hne (rowA 1152 (rowW (condF f) (sat576 g) fun k => k + 1))
          replace f8 := f8.set (r2 := (rowW (condF f) (sat576 g) fun k => k + 1))
          refine ⟨⟨_, hs⟩, ?_⟩
          refine wpAnyH_all (rs := [11]) (by kernel_rfl) (by simp) ?_
          intro i hi
          obtain rfl : i = 11 := by simpa using hi
          refine wpOp_store (by kernel_rfl) (by kernel_rfl) 167 (.tmp 10) (.tmp 27) B12 48 (wei (condF f) q) (fun _ => 0) 167 (by kernel_rfl) (by kernel_rfl) (by kernel_rfl) f9.blk lineSize ?_
          replace hs := hs.row f9.gt (rowA 48 (wei (condF f) q))
          replace f8 := f8.other (Ne.symm hne) (rowA 48 (wei (condF f) q))
          replace f9 := f9.set (r2 := (wei (condF f) q))
          refine ⟨⟨_, hs⟩, ?_⟩
          refine wpAnyH_done (by kernel_rfl) ?_ _
          exact ⟨rfl, by kernel_rfl, B15, B12, by kernel_rfl, by kernel_rfl, hs, f8, f9, Ne.symm hne⟩
    · refine wpOp_value (by kernel_rfl) (by kernel_rfl) (w' := World.alloc W0 (.cells (rowA 1152 fun _ => 0) 168)) (v := .pointer (some ⟨W0.heap.size, 0, none⟩)) (by rw [← zeroRows]; kernel_rfl) ?_
      have f8 := hs.fresh 1152 168
      replace hs := hs.alloc (.cells (rowA 1152 fun _ => 0) 168)
      generalize World.alloc W0 _ = W17 at *
      generalize W0.heap.size = B17 at *
      refine ⟨⟨_, hs⟩, ?_⟩
      refine wpAnyH_as (b := actR p o w.heap.size f g q (.pointer (some ⟨B17, 0, none⟩)) undef (.pointer (some ⟨p, o, none⟩)) (.agg (rowA 300 (condF f))) (.agg (rowA 576 g)) undef (.pointer (some ⟨p, o, none⟩)) (.agg (rowA 300 (condF f))) (.agg (rowA 24 q)) undef) (by kernel_rfl) ?_
      refine wpAnyH_all (rs := [3, 9]) (by kernel_rfl) (by simp) ?_
      intro i hi
      simp only [List.mem_cons, List.not_mem_nil, or_false] at hi
      rcases hi with rfl | rfl
      · refine wpOp_call (by kernel_rfl) (by kernel_rfl) (by kernel_rfl) (rows_any p o (condF f) g _ _ (hs.F.fl fl)) ?_
        intro W18 k
        replace hs := hs.flag hpw k
        replace f8 := f8.flag hpw k
        clear k
        refine ⟨⟨_, hs⟩, ?_⟩
        refine wpAnyH_as (b := actR p o w.heap.size f g q (.pointer (some ⟨B17, 0, none⟩)) undef (.pointer (some ⟨p, o, none⟩)) (.agg (rowA 300 (condF f))) (.agg (rowA 576 g)) (.agg (rowA 1152 (rowW (condF f) (sat576 g) fun k => k + 1))) (.pointer (some ⟨p, o, none⟩)) (.agg (rowA 300 (condF f))) (.agg (rowA 24 q)) undef) (by kernel_rfl) ?_
        refine wpAnyH_all (rs := [7, 9]) (by kernel_rfl) (by simp) ?_
        intro i hi
        simp only [List.mem_cons, List.not_mem_nil, or_false] at hi
        rcases hi with rfl | rfl
        · refine wpOp_call (by kernel_rfl) (by kernel_rfl) (by kernel_rfl) (weights_any p o (condF f) q _ _ (hs.F.fl fl)) ?_
          intro W19 k
          replace hs := hs.flag hpw k
          replace f8 := f8.flag hpw k
          clear k
          refine ⟨⟨_, hs⟩, ?_⟩
          refine wpAnyH_as (b := actR p o w.heap.size f g q (.pointer (some ⟨B17, 0, none⟩)) undef (.pointer (some ⟨p, o, none⟩)) (.agg (rowA 300 (condF f))) (.agg (rowA 576 g)) (.agg (rowA 1152 (rowW (condF f) (sat576 g) fun k => k + 1))) (.pointer (some ⟨p, o, none⟩)) (.agg (rowA 300 (condF f))) (.agg (rowA 24 q)) (.agg (rowA 48 (wei (condF f) q)))) (by kernel_rfl) ?_
          refine wpAnyH_all (rs := [9]) (by kernel_rfl) (by simp) ?_
          intro i hi
          obtain rfl : i = 9 := by simpa using hi
          refine wpOp_value (by kernel_rfl) (by kernel_rfl) (w' := World.alloc W19 (.cells (rowA 48 fun _ => 0) 167)) (v := .pointer (some ⟨W19.heap.size, 0, none⟩)) (by rw [← zero48]; kernel_rfl) ?_
          have f9 := hs.fresh 48 167
          have hne := Nat.ne_of_gt f8.blk.lt
          replace f8 := f8.alloc (.cells (rowA 48 fun _ => 0) 167)
          replace hs := hs.alloc (.cells (rowA 48 fun _ => 0) 167)
          generalize World.alloc W19 _ = W20 at *
          generalize W19.heap.size = B20 at *
          refine ⟨⟨_, hs⟩, ?_⟩
          refine wpAnyH_as (b := actR p o w.heap.size f g q (.pointer (some ⟨B17, 0, none⟩)) (.pointer (some ⟨B20, 0, none⟩)) (.pointer (some ⟨p, o, none⟩)) (.agg (rowA 300 (condF f))) (.agg (rowA 576 g)) (.agg (rowA 1152 (rowW (condF f) (sat576 g) fun k => k + 1))) (.pointer (some ⟨p, o, none⟩)) (.agg (rowA 300 (condF f))) (.agg (rowA 24 q)) (.agg (rowA 48 (wei (condF f) q)))) (by kernel_rfl) ?_
          refine wpAnyH_all (rs := [10]) (by kernel_rfl) (by simp) ?_
          intro i hi
          obtain rfl : i = 10 := by simpa using hi
          refine wpOp_store (by kernel_rfl) (by kernel_rfl) 168 (.tmp 9) (.tmp 23) B17 1152 (rowW (condF f) (sat576 g) fun k => k + 1) (fun _ => 0) 168 (by kernel_rfl) (by kernel_rfl) (by kernel_rfl) f8.blk rowsSize ?_
          replace hs := hs.row f8.gt (rowA 1152 (rowW (condF f) (sat576 g) fun k => k + 1))
          replace f9 := f9.other hne (rowA 1152 (rowW (condF f) (sat576 g) fun k => k + 1))
          replace f8 := f8.set (r2 := (rowW (condF f) (sat576 g) fun k => k + 1))
          refine ⟨⟨_, hs⟩, ?_⟩
          refine wpAnyH_all (rs := [11]) (by kernel_rfl) (by simp) ?_
          intro i hi
          obtain rfl : i = 11 := by simpa using hi
          refine wpOp_store (by kernel_rfl) (by kernel_rfl) 167 (.tmp 10) (.tmp 27) B20 48 (wei (condF f) q) (fun _ => 0) 167 (by kernel_rfl) (by kernel_rfl) (by kernel_rfl) f9.blk lineSize ?_
          replace hs := hs.row f9.gt (rowA 48 (wei (condF f) q))
          replace f8 := f8.other (Ne.symm hne) (rowA 48 (wei (condF f) q))
          replace f9 := f9.set (r2 := (wei (condF f) q))
          refine ⟨⟨_, hs⟩, ?_⟩
          refine wpAnyH_done (by kernel_rfl) ?_ _
          exact ⟨rfl, by kernel_rfl, B17, B20, by kernel_rfl, by kernel_rfl, hs, f8, f9, Ne.symm hne⟩
        · refine wpOp_value (by kernel_rfl) (by kernel_rfl) (w' := World.alloc W18 (.cells (rowA 48 fun _ => 0) 167)) (v := .pointer (some ⟨W18.heap.size, 0, none⟩)) (by rw [← zero48]; kernel_rfl) ?_
          have f9 := hs.fresh 48 167
          have hne := Nat.ne_of_gt f8.blk.lt
          replace f8 := f8.alloc (.cells (rowA 48 fun _ => 0) 167)
          replace hs := hs.alloc (.cells (rowA 48 fun _ => 0) 167)
          generalize World.alloc W18 _ = W21 at *
          generalize W18.heap.size = B21 at *
          refine ⟨⟨_, hs⟩, ?_⟩
          refine wpAnyH_as (b := actR p o w.heap.size f g q (.pointer (some ⟨B17, 0, none⟩)) (.pointer (some ⟨B21, 0, none⟩)) (.pointer (some ⟨p, o, none⟩)) (.agg (rowA 300 (condF f))) (.agg (rowA 576 g)) (.agg (rowA 1152 (rowW (condF f) (sat576 g) fun k => k + 1))) (.pointer (some ⟨p, o, none⟩)) (.agg (rowA 300 (condF f))) (.agg (rowA 24 q)) undef) (by kernel_rfl) ?_
          refine wpAnyH_all (rs := [7]) (by kernel_rfl) (by simp) ?_
          intro i hi
          obtain rfl : i = 7 := by simpa using hi
          refine wpOp_call (by kernel_rfl) (by kernel_rfl) (by kernel_rfl) (weights_any p o (condF f) q _ _ (hs.F.fl fl)) ?_
          intro W22 k
          replace hs := hs.flag hpw k
          replace f8 := f8.flag hpw k
          replace f9 := f9.flag hpw k
          clear k
          refine ⟨⟨_, hs⟩, ?_⟩
          refine wpAnyH_as (b := actR p o w.heap.size f g q (.pointer (some ⟨B17, 0, none⟩)) (.pointer (some ⟨B21, 0, none⟩)) (.pointer (some ⟨p, o, none⟩)) (.agg (rowA 300 (condF f))) (.agg (rowA 576 g)) (.agg (rowA 1152 (rowW (condF f) (sat576 g) fun k => k + 1))) (.pointer (some ⟨p, o, none⟩)) (.agg (rowA 300 (condF f))) (.agg (rowA 24 q)) (.agg (rowA 48 (wei (condF f) q)))) (by kernel_rfl) ?_
          refine wpAnyH_all (rs := [10]) (by kernel_rfl) (by simp) ?_
          intro i hi
          obtain rfl : i = 10 := by simpa using hi
          refine wpOp_store (by kernel_rfl) (by kernel_rfl) 168 (.tmp 9) (.tmp 23) B17 1152 (rowW (condF f) (sat576 g) fun k => k + 1) (fun _ => 0) 168 (by kernel_rfl) (by kernel_rfl) (by kernel_rfl) f8.blk rowsSize ?_
          replace hs := hs.row f8.gt (rowA 1152 (rowW (condF f) (sat576 g) fun k => k + 1))
          replace f9 := f9.other hne (rowA 1152 (rowW (condF f) (sat576 g) fun k => k + 1))
          replace f8 := f8.set (r2 := (rowW (condF f) (sat576 g) fun k => k + 1))
          refine ⟨⟨_, hs⟩, ?_⟩
          refine wpAnyH_all (rs := [11]) (by kernel_rfl) (by simp) ?_
          intro i hi
          obtain rfl : i = 11 := by simpa using hi
          refine wpOp_store (by kernel_rfl) (by kernel_rfl) 167 (.tmp 10) (.tmp 27) B21 48 (wei (condF f) q) (fun _ => 0) 167 (by kernel_rfl) (by kernel_rfl) (by kernel_rfl) f9.blk lineSize ?_
          replace hs := hs.row f9.gt (rowA 48 (wei (condF f) q))
          replace f8 := f8.other (Ne.symm hne) (rowA 48 (wei (condF f) q))
          replace f9 := f9.set (r2 := (wei (condF f) q))
          refine ⟨⟨_, hs⟩, ?_⟩
          refine wpAnyH_done (by kernel_rfl) ?_ _
          exact ⟨rfl, by kernel_rfl, B17, B21, by kernel_rfl, by kernel_rfl, hs, f8, f9, Ne.symm hne⟩
      · refine wpOp_value (by kernel_rfl) (by kernel_rfl) (w' := World.alloc W17 (.cells (rowA 48 fun _ => 0) 167)) (v := .pointer (some ⟨W17.heap.size, 0, none⟩)) (by rw [← zero48]; kernel_rfl) ?_
        have f9 := hs.fresh 48 167
        have hne := Nat.ne_of_gt f8.blk.lt
        replace f8 := f8.alloc (.cells (rowA 48 fun _ => 0) 167)
        replace hs := hs.alloc (.cells (rowA 48 fun _ => 0) 167)
        generalize World.alloc W17 _ = W23 at *
        generalize W17.heap.size = B23 at *
        refine ⟨⟨_, hs⟩, ?_⟩
        refine wpAnyH_as (b := actR p o w.heap.size f g q (.pointer (some ⟨B17, 0, none⟩)) (.pointer (some ⟨B23, 0, none⟩)) (.pointer (some ⟨p, o, none⟩)) (.agg (rowA 300 (condF f))) (.agg (rowA 576 g)) undef (.pointer (some ⟨p, o, none⟩)) (.agg (rowA 300 (condF f))) (.agg (rowA 24 q)) undef) (by kernel_rfl) ?_
        refine wpAnyH_all (rs := [3]) (by kernel_rfl) (by simp) ?_
        intro i hi
        obtain rfl : i = 3 := by simpa using hi
        refine wpOp_call (by kernel_rfl) (by kernel_rfl) (by kernel_rfl) (rows_any p o (condF f) g _ _ (hs.F.fl fl)) ?_
        intro W24 k
        replace hs := hs.flag hpw k
        replace f8 := f8.flag hpw k
        replace f9 := f9.flag hpw k
        clear k
        refine ⟨⟨_, hs⟩, ?_⟩
        refine wpAnyH_as (b := actR p o w.heap.size f g q (.pointer (some ⟨B17, 0, none⟩)) (.pointer (some ⟨B23, 0, none⟩)) (.pointer (some ⟨p, o, none⟩)) (.agg (rowA 300 (condF f))) (.agg (rowA 576 g)) (.agg (rowA 1152 (rowW (condF f) (sat576 g) fun k => k + 1))) (.pointer (some ⟨p, o, none⟩)) (.agg (rowA 300 (condF f))) (.agg (rowA 24 q)) undef) (by kernel_rfl) ?_
        refine wpAnyH_all (rs := [7]) (by kernel_rfl) (by simp) ?_
        intro i hi
        obtain rfl : i = 7 := by simpa using hi
        refine wpOp_call (by kernel_rfl) (by kernel_rfl) (by kernel_rfl) (weights_any p o (condF f) q _ _ (hs.F.fl fl)) ?_
        intro W25 k
        replace hs := hs.flag hpw k
        replace f8 := f8.flag hpw k
        replace f9 := f9.flag hpw k
        clear k
        refine ⟨⟨_, hs⟩, ?_⟩
        refine wpAnyH_as (b := actR p o w.heap.size f g q (.pointer (some ⟨B17, 0, none⟩)) (.pointer (some ⟨B23, 0, none⟩)) (.pointer (some ⟨p, o, none⟩)) (.agg (rowA 300 (condF f))) (.agg (rowA 576 g)) (.agg (rowA 1152 (rowW (condF f) (sat576 g) fun k => k + 1))) (.pointer (some ⟨p, o, none⟩)) (.agg (rowA 300 (condF f))) (.agg (rowA 24 q)) (.agg (rowA 48 (wei (condF f) q)))) (by kernel_rfl) ?_
        refine wpAnyH_all (rs := [10]) (by kernel_rfl) (by simp) ?_
        intro i hi
        obtain rfl : i = 10 := by simpa using hi
        refine wpOp_store (by kernel_rfl) (by kernel_rfl) 168 (.tmp 9) (.tmp 23) B17 1152 (rowW (condF f) (sat576 g) fun k => k + 1) (fun _ => 0) 168 (by kernel_rfl) (by kernel_rfl) (by kernel_rfl) f8.blk rowsSize ?_
        replace hs := hs.row f8.gt (rowA 1152 (rowW (condF f) (sat576 g) fun k => k + 1))
        replace f9 := f9.other hne (rowA 1152 (rowW (condF f) (sat576 g) fun k => k + 1))
        replace f8 := f8.set (r2 := (rowW (condF f) (sat576 g) fun k => k + 1))
        refine ⟨⟨_, hs⟩, ?_⟩
        refine wpAnyH_all (rs := [11]) (by kernel_rfl) (by simp) ?_
        intro i hi
        obtain rfl : i = 11 := by simpa using hi
        refine wpOp_store (by kernel_rfl) (by kernel_rfl) 167 (.tmp 10) (.tmp 27) B23 48 (wei (condF f) q) (fun _ => 0) 167 (by kernel_rfl) (by kernel_rfl) (by kernel_rfl) f9.blk lineSize ?_
        replace hs := hs.row f9.gt (rowA 48 (wei (condF f) q))
        replace f8 := f8.other (Ne.symm hne) (rowA 48 (wei (condF f) q))
        replace f9 := f9.set (r2 := (wei (condF f) q))
        refine ⟨⟨_, hs⟩, ?_⟩
        refine wpAnyH_done (by kernel_rfl) ?_ _
        exact ⟨rfl, by kernel_rfl, B17, B23, by kernel_rfl, by kernel_rfl, hs, f8, f9, Ne.symm hne⟩
    · refine wpOp_value (by kernel_rfl) (by kernel_rfl) (w' := World.alloc W0 (.cells (rowA 48 fun _ => 0) 167)) (v := .pointer (some ⟨W0.heap.size, 0, none⟩)) (by rw [← zero48]; kernel_rfl) ?_
      have f9 := hs.fresh 48 167
      replace hs := hs.alloc (.cells (rowA 48 fun _ => 0) 167)
      generalize World.alloc W0 _ = W26 at *
      generalize W0.heap.size = B26 at *
      refine ⟨⟨_, hs⟩, ?_⟩
      refine wpAnyH_as (b := actR p o w.heap.size f g q undef (.pointer (some ⟨B26, 0, none⟩)) (.pointer (some ⟨p, o, none⟩)) (.agg (rowA 300 (condF f))) (.agg (rowA 576 g)) undef (.pointer (some ⟨p, o, none⟩)) (.agg (rowA 300 (condF f))) (.agg (rowA 24 q)) undef) (by kernel_rfl) ?_
      refine wpAnyH_all (rs := [3, 8]) (by kernel_rfl) (by simp) ?_
      intro i hi
      simp only [List.mem_cons, List.not_mem_nil, or_false] at hi
      rcases hi with rfl | rfl
      · refine wpOp_call (by kernel_rfl) (by kernel_rfl) (by kernel_rfl) (rows_any p o (condF f) g _ _ (hs.F.fl fl)) ?_
        intro W27 k
        replace hs := hs.flag hpw k
        replace f9 := f9.flag hpw k
        clear k
        refine ⟨⟨_, hs⟩, ?_⟩
        refine wpAnyH_as (b := actR p o w.heap.size f g q undef (.pointer (some ⟨B26, 0, none⟩)) (.pointer (some ⟨p, o, none⟩)) (.agg (rowA 300 (condF f))) (.agg (rowA 576 g)) (.agg (rowA 1152 (rowW (condF f) (sat576 g) fun k => k + 1))) (.pointer (some ⟨p, o, none⟩)) (.agg (rowA 300 (condF f))) (.agg (rowA 24 q)) undef) (by kernel_rfl) ?_
        refine wpAnyH_all (rs := [7, 8]) (by kernel_rfl) (by simp) ?_
        intro i hi
        simp only [List.mem_cons, List.not_mem_nil, or_false] at hi
        rcases hi with rfl | rfl
        · refine wpOp_call (by kernel_rfl) (by kernel_rfl) (by kernel_rfl) (weights_any p o (condF f) q _ _ (hs.F.fl fl)) ?_
          intro W28 k
          replace hs := hs.flag hpw k
          replace f9 := f9.flag hpw k
          clear k
          refine ⟨⟨_, hs⟩, ?_⟩
          refine wpAnyH_as (b := actR p o w.heap.size f g q undef (.pointer (some ⟨B26, 0, none⟩)) (.pointer (some ⟨p, o, none⟩)) (.agg (rowA 300 (condF f))) (.agg (rowA 576 g)) (.agg (rowA 1152 (rowW (condF f) (sat576 g) fun k => k + 1))) (.pointer (some ⟨p, o, none⟩)) (.agg (rowA 300 (condF f))) (.agg (rowA 24 q)) (.agg (rowA 48 (wei (condF f) q)))) (by kernel_rfl) ?_
          refine wpAnyH_all (rs := [8]) (by kernel_rfl) (by simp) ?_
          intro i hi
          obtain rfl : i = 8 := by simpa using hi
          refine wpOp_value (by kernel_rfl) (by kernel_rfl) (w' := World.alloc W28 (.cells (rowA 1152 fun _ => 0) 168)) (v := .pointer (some ⟨W28.heap.size, 0, none⟩)) (by rw [← zeroRows]; kernel_rfl) ?_
          have f8 := hs.fresh 1152 168
          have hne := Nat.ne_of_lt f9.blk.lt
          replace f9 := f9.alloc (.cells (rowA 1152 fun _ => 0) 168)
          replace hs := hs.alloc (.cells (rowA 1152 fun _ => 0) 168)
          generalize World.alloc W28 _ = W29 at *
          generalize W28.heap.size = B29 at *
          refine ⟨⟨_, hs⟩, ?_⟩
          refine wpAnyH_as (b := actR p o w.heap.size f g q (.pointer (some ⟨B29, 0, none⟩)) (.pointer (some ⟨B26, 0, none⟩)) (.pointer (some ⟨p, o, none⟩)) (.agg (rowA 300 (condF f))) (.agg (rowA 576 g)) (.agg (rowA 1152 (rowW (condF f) (sat576 g) fun k => k + 1))) (.pointer (some ⟨p, o, none⟩)) (.agg (rowA 300 (condF f))) (.agg (rowA 24 q)) (.agg (rowA 48 (wei (condF f) q)))) (by kernel_rfl) ?_
          refine wpAnyH_all (rs := [10]) (by kernel_rfl) (by simp) ?_
          intro i hi
          obtain rfl : i = 10 := by simpa using hi
          refine wpOp_store (by kernel_rfl) (by kernel_rfl) 168 (.tmp 9) (.tmp 23) B29 1152 (rowW (condF f) (sat576 g) fun k => k + 1) (fun _ => 0) 168 (by kernel_rfl) (by kernel_rfl) (by kernel_rfl) f8.blk rowsSize ?_
          replace hs := hs.row f8.gt (rowA 1152 (rowW (condF f) (sat576 g) fun k => k + 1))
          replace f9 := f9.other hne (rowA 1152 (rowW (condF f) (sat576 g) fun k => k + 1))
          replace f8 := f8.set (r2 := (rowW (condF f) (sat576 g) fun k => k + 1))
          refine ⟨⟨_, hs⟩, ?_⟩
          refine wpAnyH_all (rs := [11]) (by kernel_rfl) (by simp) ?_
          intro i hi
          obtain rfl : i = 11 := by simpa using hi
          refine wpOp_store (by kernel_rfl) (by kernel_rfl) 167 (.tmp 10) (.tmp 27) B26 48 (wei (condF f) q) (fun _ => 0) 167 (by kernel_rfl) (by kernel_rfl) (by kernel_rfl) f9.blk lineSize ?_
          replace hs := hs.row f9.gt (rowA 48 (wei (condF f) q))
          replace f8 := f8.other (Ne.symm hne) (rowA 48 (wei (condF f) q))
          replace f9 := f9.set (r2 := (wei (condF f) q))
          refine ⟨⟨_, hs⟩, ?_⟩
          refine wpAnyH_done (by kernel_rfl) ?_ _
          exact ⟨rfl, by kernel_rfl, B29, B26, by kernel_rfl, by kernel_rfl, hs, f8, f9, Ne.symm hne⟩
        · refine wpOp_value (by kernel_rfl) (by kernel_rfl) (w' := World.alloc W27 (.cells (rowA 1152 fun _ => 0) 168)) (v := .pointer (some ⟨W27.heap.size, 0, none⟩)) (by rw [← zeroRows]; kernel_rfl) ?_
          have f8 := hs.fresh 1152 168
          have hne := Nat.ne_of_lt f9.blk.lt
          replace f9 := f9.alloc (.cells (rowA 1152 fun _ => 0) 168)
          replace hs := hs.alloc (.cells (rowA 1152 fun _ => 0) 168)
          generalize World.alloc W27 _ = W30 at *
          generalize W27.heap.size = B30 at *
          refine ⟨⟨_, hs⟩, ?_⟩
          refine wpAnyH_as (b := actR p o w.heap.size f g q (.pointer (some ⟨B30, 0, none⟩)) (.pointer (some ⟨B26, 0, none⟩)) (.pointer (some ⟨p, o, none⟩)) (.agg (rowA 300 (condF f))) (.agg (rowA 576 g)) (.agg (rowA 1152 (rowW (condF f) (sat576 g) fun k => k + 1))) (.pointer (some ⟨p, o, none⟩)) (.agg (rowA 300 (condF f))) (.agg (rowA 24 q)) undef) (by kernel_rfl) ?_
          refine wpAnyH_all (rs := [7]) (by kernel_rfl) (by simp) ?_
          intro i hi
          obtain rfl : i = 7 := by simpa using hi
          refine wpOp_call (by kernel_rfl) (by kernel_rfl) (by kernel_rfl) (weights_any p o (condF f) q _ _ (hs.F.fl fl)) ?_
          intro W31 k
          replace hs := hs.flag hpw k
          replace f8 := f8.flag hpw k
          replace f9 := f9.flag hpw k
          clear k
          refine ⟨⟨_, hs⟩, ?_⟩
          refine wpAnyH_as (b := actR p o w.heap.size f g q (.pointer (some ⟨B30, 0, none⟩)) (.pointer (some ⟨B26, 0, none⟩)) (.pointer (some ⟨p, o, none⟩)) (.agg (rowA 300 (condF f))) (.agg (rowA 576 g)) (.agg (rowA 1152 (rowW (condF f) (sat576 g) fun k => k + 1))) (.pointer (some ⟨p, o, none⟩)) (.agg (rowA 300 (condF f))) (.agg (rowA 24 q)) (.agg (rowA 48 (wei (condF f) q)))) (by kernel_rfl) ?_
          refine wpAnyH_all (rs := [10]) (by kernel_rfl) (by simp) ?_
          intro i hi
          obtain rfl : i = 10 := by simpa using hi
          refine wpOp_store (by kernel_rfl) (by kernel_rfl) 168 (.tmp 9) (.tmp 23) B30 1152 (rowW (condF f) (sat576 g) fun k => k + 1) (fun _ => 0) 168 (by kernel_rfl) (by kernel_rfl) (by kernel_rfl) f8.blk rowsSize ?_
          replace hs := hs.row f8.gt (rowA 1152 (rowW (condF f) (sat576 g) fun k => k + 1))
          replace f9 := f9.other hne (rowA 1152 (rowW (condF f) (sat576 g) fun k => k + 1))
          replace f8 := f8.set (r2 := (rowW (condF f) (sat576 g) fun k => k + 1))
          refine ⟨⟨_, hs⟩, ?_⟩
          refine wpAnyH_all (rs := [11]) (by kernel_rfl) (by simp) ?_
          intro i hi
          obtain rfl : i = 11 := by simpa using hi
          refine wpOp_store (by kernel_rfl) (by kernel_rfl) 167 (.tmp 10) (.tmp 27) B26 48 (wei (condF f) q) (fun _ => 0) 167 (by kernel_rfl) (by kernel_rfl) (by kernel_rfl) f9.blk lineSize ?_
          replace hs := hs.row f9.gt (rowA 48 (wei (condF f) q))
          replace f8 := f8.other (Ne.symm hne) (rowA 48 (wei (condF f) q))
          replace f9 := f9.set (r2 := (wei (condF f) q))
          refine ⟨⟨_, hs⟩, ?_⟩
          refine wpAnyH_done (by kernel_rfl) ?_ _
          exact ⟨rfl, by kernel_rfl, B30, B26, by kernel_rfl, by kernel_rfl, hs, f8, f9, Ne.symm hne⟩
      · refine wpOp_value (by kernel_rfl) (by kernel_rfl) (w' := World.alloc W26 (.cells (rowA 1152 fun _ => 0) 168)) (v := .pointer (some ⟨W26.heap.size, 0, none⟩)) (by rw [← zeroRows]; kernel_rfl) ?_
        have f8 := hs.fresh 1152 168
        have hne := Nat.ne_of_lt f9.blk.lt
        replace f9 := f9.alloc (.cells (rowA 1152 fun _ => 0) 168)
        replace hs := hs.alloc (.cells (rowA 1152 fun _ => 0) 168)
        generalize World.alloc W26 _ = W32 at *
        generalize W26.heap.size = B32 at *
        refine ⟨⟨_, hs⟩, ?_⟩
        refine wpAnyH_as (b := actR p o w.heap.size f g q (.pointer (some ⟨B32, 0, none⟩)) (.pointer (some ⟨B26, 0, none⟩)) (.pointer (some ⟨p, o, none⟩)) (.agg (rowA 300 (condF f))) (.agg (rowA 576 g)) undef (.pointer (some ⟨p, o, none⟩)) (.agg (rowA 300 (condF f))) (.agg (rowA 24 q)) undef) (by kernel_rfl) ?_
        refine wpAnyH_all (rs := [3]) (by kernel_rfl) (by simp) ?_
        intro i hi
        obtain rfl : i = 3 := by simpa using hi
        refine wpOp_call (by kernel_rfl) (by kernel_rfl) (by kernel_rfl) (rows_any p o (condF f) g _ _ (hs.F.fl fl)) ?_
        intro W33 k
        replace hs := hs.flag hpw k
        replace f8 := f8.flag hpw k
        replace f9 := f9.flag hpw k
        clear k
        refine ⟨⟨_, hs⟩, ?_⟩
        refine wpAnyH_as (b := actR p o w.heap.size f g q (.pointer (some ⟨B32, 0, none⟩)) (.pointer (some ⟨B26, 0, none⟩)) (.pointer (some ⟨p, o, none⟩)) (.agg (rowA 300 (condF f))) (.agg (rowA 576 g)) (.agg (rowA 1152 (rowW (condF f) (sat576 g) fun k => k + 1))) (.pointer (some ⟨p, o, none⟩)) (.agg (rowA 300 (condF f))) (.agg (rowA 24 q)) undef) (by kernel_rfl) ?_
        refine wpAnyH_all (rs := [7]) (by kernel_rfl) (by simp) ?_
        intro i hi
        obtain rfl : i = 7 := by simpa using hi
        refine wpOp_call (by kernel_rfl) (by kernel_rfl) (by kernel_rfl) (weights_any p o (condF f) q _ _ (hs.F.fl fl)) ?_
        intro W34 k
        replace hs := hs.flag hpw k
        replace f8 := f8.flag hpw k
        replace f9 := f9.flag hpw k
        clear k
        refine ⟨⟨_, hs⟩, ?_⟩
        refine wpAnyH_as (b := actR p o w.heap.size f g q (.pointer (some ⟨B32, 0, none⟩)) (.pointer (some ⟨B26, 0, none⟩)) (.pointer (some ⟨p, o, none⟩)) (.agg (rowA 300 (condF f))) (.agg (rowA 576 g)) (.agg (rowA 1152 (rowW (condF f) (sat576 g) fun k => k + 1))) (.pointer (some ⟨p, o, none⟩)) (.agg (rowA 300 (condF f))) (.agg (rowA 24 q)) (.agg (rowA 48 (wei (condF f) q)))) (by kernel_rfl) ?_
        refine wpAnyH_all (rs := [10]) (by kernel_rfl) (by simp) ?_
        intro i hi
        obtain rfl : i = 10 := by simpa using hi
        refine wpOp_store (by kernel_rfl) (by kernel_rfl) 168 (.tmp 9) (.tmp 23) B32 1152 (rowW (condF f) (sat576 g) fun k => k + 1) (fun _ => 0) 168 (by kernel_rfl) (by kernel_rfl) (by kernel_rfl) f8.blk rowsSize ?_
        replace hs := hs.row f8.gt (rowA 1152 (rowW (condF f) (sat576 g) fun k => k + 1))
        replace f9 := f9.other hne (rowA 1152 (rowW (condF f) (sat576 g) fun k => k + 1))
        replace f8 := f8.set (r2 := (rowW (condF f) (sat576 g) fun k => k + 1))
        refine ⟨⟨_, hs⟩, ?_⟩
        refine wpAnyH_all (rs := [11]) (by kernel_rfl) (by simp) ?_
        intro i hi
        obtain rfl : i = 11 := by simpa using hi
        refine wpOp_store (by kernel_rfl) (by kernel_rfl) 167 (.tmp 10) (.tmp 27) B26 48 (wei (condF f) q) (fun _ => 0) 167 (by kernel_rfl) (by kernel_rfl) (by kernel_rfl) f9.blk lineSize ?_
        replace hs := hs.row f9.gt (rowA 48 (wei (condF f) q))
        replace f8 := f8.other (Ne.symm hne) (rowA 48 (wei (condF f) q))
        replace f9 := f9.set (r2 := (wei (condF f) q))
        refine ⟨⟨_, hs⟩, ?_⟩
        refine wpAnyH_done (by kernel_rfl) ?_ _
        exact ⟨rfl, by kernel_rfl, B32, B26, by kernel_rfl, by kernel_rfl, hs, f8, f9, Ne.symm hne⟩
  · clear hs
    rintro w2 u ⟨B, E, h9, h10, hs, f8, f9, hne⟩
    rw [h9, h10]
    have HS := Lib.hid (show stepF f g q = stO (rowW (condF f) (sat576 g) fun k => k + 1) (wei (condF f) q) 24 from rfl)
    have HH := Lib.hid (show (h || stepH f g q) = (h || condH f || anyN (fun k => sath (g k)) 576 || anyN (fun k => anyN (fun i => rowsH (condF f) (sat576 g) (fun k => k + 1) (48 * i + k)) 24) 24 || anyN (fun k => clamph (q k) 0 72057594037927936) 24 || stH (rowW (condF f) (sat576 g) fun k => k + 1) (wei (condF f) q) 24) by
      unfold stepH; simp only [Bool.or_assoc])
    have hF := hs.F
    have hR := hs.R
    have gB := f8.gt
    have gE := f9.gt
    have hB := f8.blk
    have hE := f9.blk
    clear hs f8 f9 h9 h10
    generalize (h || condH f || anyN (fun k => sath (g k)) 576 || anyN (fun k => anyN (fun i => rowsH (condF f) (sat576 g) (fun k => k + 1) (48 * i + k)) 24) 24 || anyN (fun k => clamph (q k) 0 72057594037927936) 24) = h0 at *
    generalize (rowW (condF f) (sat576 g) fun k => k + 1) = V at *
    generalize (wei (condF f) q) = e at *
    go_wp2_with fail
    rw [zeroCov]
    generalize hX2 : World.alloc w2 _ = X2
    have hN : Blk X2 w2.heap.size (rowA 300 (stO V e 0)) 93 := by subst hX2; exact Blk.made _ _ _ rfl
    have hF2 : FlW p o (h0 || stH V e 0) w X2 := by subst hX2; exact flag_is (by show _ = (_ || false); rw [Bool.or_false]) (hF.alloc _)
    have hR2 : Blk X2 (w.heap.size + 3) (rowA 300 fun _ => 0) 93 := by subst hX2; exact hR.alloc _
    have hB2 : Blk X2 B (rowA 1152 (stW V e 0)) 168 := by subst hX2; exact hB.alloc _
    have hE2 : Blk X2 E (rowA 48 e) 167 := by subst hX2; exact hE.alloc _
    have nB : B < w2.heap.size := hB.lt
    have nE : E < w2.heap.size := hE.lt
    clear hX2 hF hR hB hE
    generalize w2.heap.size = N at *
    go_loopw [12] (fun j' wr => ∃ n : Nat, n ≤ 24 ∧ j' = .int .i64 (23 - (n : Int)) ∧ FlW p o (h0 || stH V e n) w wr ∧ Blk wr (w.heap.size + 3) (rowA 300 fun _ => 0) 93 ∧ Blk wr B (rowA 1152 (stW V e n)) 168 ∧ Blk wr E (rowA 48 e) 167 ∧ Blk wr N (rowA 300 (stO V e n)) 93) (fun j' _ => (intOf j' + 1).toNat)
    case atStart => exact ⟨0, by omega, rfl, hF2, hR2, hB2, hE2, hN⟩
    case round =>
      clear hF2 hR2 hB2 hE2 hN
      obtain ⟨n, hn, rfl, hF, hR, hB, hE, hN⟩ := hrel
      by_cases hlt : n < 24
      · have HW := Lib.hid (show stW V e (n + 1) = nexW (stW V e n) e (23 - n) (23 - n) from rfl)
        have HO := Lib.hid (show stO V e (n + 1) = outI (stW V e n) e (stO V e n) (23 - n) (23 - n) from rfl)
        have HT := Lib.hid (show (h0 || stH V e (n + 1)) = (h0 || stH V e n || (dH (stW V e n) e (23 - n) || nexH (stW V e n) e (23 - n) (23 - n))) by rw [Bool.or_assoc]; rfl)
        have ej : (23 - (n : Int)) = ((23 - n : Nat) : Int) := by omega
        rw [ej]
        have hjn : (23 - n) + n = 23 := by omega
        generalize 23 - n = j at *
        clear ej
        generalize stW V e n = W at *
        generalize stO V e n = O at *
        generalize (h0 || stH V e n) = h1 at *
        have hj24 : j < 24 := by omega
        have hjI : (j : Int) < 24 := by omega
        have hj0 : (0 : Int) ≤ (j : Int) := by omega
        have fr := hF.fl fl
        go_wp2_with fail
        refine (weighed_is p o B E j W e _ wr fr hB hE (by omega) (by omega) hj24).mono ?_
        rintro e' w4 ⟨rfl, k4⟩
        have hR4 := hR.flag (by omega) k4
        have hB4 := hB.flag (by omega) k4
        have hE4 := hE.flag (by omega) k4
        have hN4 := hN.flag (by omega) k4
        have hF4 := hF.trans k4
        clear hR hB hE hN hF k4 fr
        go_upto_region 8 with (first
          | (rw [zero48]; (with_reducible refine row_store 167 (.tmp 13) (.tmp 35) ?_ ?_ w4.heap.size 48 (yF W e j) (fun _ => 0) 167 ?_ ?_ ?_ lineSize ?_); rfl; rfl; rfl; rfl; exact Blk.made _ _ _ rfl))
        have nN : N < w4.heap.size := hN4.lt
        have hs4 := hR4.lt
        have hR5 : Blk ((w4.alloc (.cells (rowA 48 fun _ => 0) 167)).setRow w4.heap.size (rowA 48 (yF W e j))) (w.heap.size + 3) (rowA 300 fun _ => 0) 93 := (hR4.alloc _).otherRow (by omega)
        have hB5 : Blk ((w4.alloc (.cells (rowA 48 fun _ => 0) 167)).setRow w4.heap.size (rowA 48 (yF W e j))) B (rowA 1152 W) 168 := (hB4.alloc _).otherRow (by omega)
        have hE5 : Blk ((w4.alloc (.cells (rowA 48 fun _ => 0) 167)).setRow w4.heap.size (rowA 48 (yF W e j))) E (rowA 48 e) 167 := (hE4.alloc _).otherRow (by omega)
        have hN5 : Blk ((w4.alloc (.cells (rowA 48 fun _ => 0) 167)).setRow w4.heap.size (rowA 48 (yF W e j))) N (rowA 300 O) 93 := (hN4.alloc _).otherRow (by omega)
        have hY5 : Blk ((w4.alloc (.cells (rowA 48 fun _ => 0) 167)).setRow w4.heap.size (rowA 48 (yF W e j))) w4.heap.size (rowA 48 (yF W e j)) 167 := (Blk.made _ _ _ rfl).setRow
        have hF5 : FlW p o (h1 || anyN (yH W e j) 48) w ((w4.alloc (.cells (rowA 48 fun _ => 0) 167)).setRow w4.heap.size (rowA 48 (yF W e j))) := (hF4.alloc _).row (by omega) _
        clear hR4 hB4 hE4 hN4 hF4
        generalize World.setRow _ _ _ = w5 at *
        generalize w4.heap.size = Y0 at *
        dsimp only [Act.put]
        have fr5 := (hF5.fl fl).drew
        have H := Lib.hid (And.intro hF5 (And.intro hR5 (And.intro hB5 (And.intro hE5 (And.intro hN5 hY5)))))
        clear hF5 hR5 hB5 hE5 hN5 hY5
        go_region_with (first
          | (go_at_call 54; refine (dotJ_is p o B Y0 j W (yF W e j) _ _ fr5 H.out.2.2.1.drew H.out.2.2.2.2.2.drew (by omega) (by omega) hj24).mono ?_; rintro e' w6 ⟨rfl, k6⟩; have f6 := k6.fl fr5)
          | (go_at_call 37; refine (clamp_any p o (dotv (rowJ W j) (yF W e j) 48) 1 72057594037927936 _ _ f6).mono ?_; rintro e' w7 ⟨rfl, k7⟩))
        dsimp only [Act.put]
        rw [show clampv (dotv (rowJ W j) (yF W e j) 48) 1 72057594037927936 = dF W e j from rfl] at *
        obtain ⟨hF5, hR5, hB5, hE5, hN5, hY5⟩ := H.out
        clear H
        have hF7 : FlW p o (h1 || dH W e j) w w7 := flag_is (by unfold dH; simp only [Bool.or_assoc]) ((hF5.drew.trans k6).trans k7)
        have hR7 := (hR5.drew.flag (by omega) k6).flag (by omega) k7
        have hB7 := (hB5.drew.flag (by omega) k6).flag (by omega) k7
        have hE7 := (hE5.drew.flag (by omega) k6).flag (by omega) k7
        have hN7 := (hN5.drew.flag (by omega) k6).flag (by omega) k7
        have hY7 := (hY5.drew.flag (by omega) k6).flag (by omega) k7
        have hc := hN7.cell (276 + j)
        rw [rowA_get _ (by omega)] at hc
        have hf := hN7.free (276 + j)
        have hN8 : Blk (w7.setCell ⟨N, 276 + j, none⟩ (.int .i64 (dF W e j))) N (rowA 300 (outI W e O j 0)) 93 := hN7.setI (k := 276 + j) (by omega) (dF W e j)
        have hF8 : FlW p o (h1 || dH W e j || nexH W e j 0) w (w7.setCell ⟨N, 276 + j, none⟩ (.int .i64 (dF W e j))) := flag_is (by show _ = (_ || false); rw [Bool.or_false]) (hF7.other (b := N) (i := 276 + j) (by omega) (.int .i64 (dF W e j)))
        have hR8 := hR7.other (b := N) (i := 276 + j) (by omega) (.int .i64 (dF W e j))
        have hB8 : Blk (w7.setCell ⟨N, 276 + j, none⟩ (.int .i64 (dF W e j))) B (rowA 1152 (nexW W e j 0)) 168 := hB7.other (b := N) (i := 276 + j) (by omega) (.int .i64 (dF W e j))
        have hE8 := hE7.other (b := N) (i := 276 + j) (by omega) (.int .i64 (dF W e j))
        have hY8 := hY7.other (b := N) (i := 276 + j) (by omega) (.int .i64 (dF W e j))
        clear hF7 hR7 hB7 hE7 hN7 hY7 hF5 hR5 hB5 hE5 hN5 hY5 k6 k7 f6 fr5
        go_wp2_with fail
        generalize World.setCell _ _ _ = w8 at *
        go_loopw [49] (fun i' wr => ∃ i : Nat, i ≤ j ∧ i' = .int .i64 i ∧ FlW p o (h1 || dH W e j || nexH W e j i) w wr ∧ Blk wr (w.heap.size + 3) (rowA 300 fun _ => 0) 93 ∧ Blk wr B (rowA 1152 (nexW W e j i)) 168 ∧ Blk wr E (rowA 48 e) 167 ∧ Blk wr N (rowA 300 (outI W e O j i)) 93 ∧ Blk wr Y0 (rowA 48 (yF W e j)) 167) (fun i' _ => j - (intOf i').toNat)
        case atStart => exact ⟨0, by omega, rfl, hF8, hR8, hB8, hE8, hN8, hY8⟩
        case round =>
          clear hF8 hR8 hB8 hE8 hN8 hY8 hc hf
          obtain ⟨i, hi, rfl, hF, hR, hB, hE, hN, hY⟩ := hrel
          by_cases hij : i < j
          · have hijI : (i : Int) < (j : Int) := by omega
            have hi24 : (i : Int) < 24 := by omega
            have hi0 : (0 : Int) ≤ (i : Int) := by omega
            have HU := Lib.hid (show quov (dotv (rowJ (nexW W e j i) i) (yF W e j) 48) (dF W e j) = uS W e j i ∧ (doth (rowJ (nexW W e j i) i) (yF W e j) 48 || quoh (dotv (rowJ (nexW W e j i) i) (yF W e j) 48) (dF W e j)) = uSH W e j i by
              have e1 : rowJ (nexW W e j i) i = rowJ W i := funext fun k => rowJ_nex W e (Nat.le_refl i) k
              rw [e1]; exact ⟨rfl, rfl⟩)
            have HX := Lib.hid (show nexW W e j (i + 1) = takF (nexW W e j i) j i (uS W e j i) 48 from rfl)
            have HXO := Lib.hid (show outI W e O j (i + 1) = upd (outI W e O j i) (plc (i : Int) (j : Int)).toNat (uS W e j i) from rfl)
            have HXH := Lib.hid (show (h1 || dH W e j || nexH W e j (i + 1)) = (h1 || dH W e j || nexH W e j i || uSH W e j i || anyN (takH (nexW W e j i) j i (uS W e j i)) 48) by
              rw [nexH]; simp only [Bool.or_assoc])
            have fr := (hF.fl fl).drew
            have H := Lib.hid (And.intro hF (And.intro hR (And.intro hB (And.intro hE (And.intro hN hY)))))
            clear hF hR hB hE hN hY
            go_wp2_with fail
            go_region_with (first
              | (go_at_call 54; refine (dotJ_is p o B Y0 i (nexW W e j i) (yF W e j) _ _ fr H.out.2.2.1.drew H.out.2.2.2.2.2.drew (by omega) (by omega) (by omega)).mono ?_; rintro e' w6 ⟨rfl, k6⟩; have f6 := k6.fl fr)
              | (go_at_call 47; refine (div_quov p o (dotv (rowJ (nexW W e j i) i) (yF W e j) 48) (dF W e j) _ _ f6).mono ?_; rintro e' w7 ⟨rfl, k7⟩))
            rw [HU.out.1]
            obtain ⟨hF, hR, hB, hE, hN, hY⟩ := H.out
            clear H
            have hF7 : FlW p o (h1 || dH W e j || nexH W e j i || uSH W e j i) w w7 := flag_is (by rw [← HU.out.2]; simp only [Bool.or_assoc]) ((hF.drew.trans k6).trans k7)
            have hR7 := (hR.drew.flag (by omega) k6).flag (by omega) k7
            have hB7 := (hB.drew.flag (by omega) k6).flag (by omega) k7
            have hE7 := (hE.drew.flag (by omega) k6).flag (by omega) k7
            have hN7 := (hN.drew.flag (by omega) k6).flag (by omega) k7
            have hY7 := (hY.drew.flag (by omega) k6).flag (by omega) k7
            clear hF hR hB hE hN hY k6 k7 f6 fr
            go_wp2_with ((with_reducible refine row_load 93 (.tmp 11) ?_ ?_ N 300 (outI W e O j i) 93 ?_ hN7 _ Try.underlying93 ?_ covSize ?_); rfl; rfl; rfl; rfl)
            refine (set_in (outI W e O j i) i j (uS W e j i) w7 (by omega) (by omega) (by omega)).mono ?_
            rintro e' w9 ⟨rfl, b9⟩
            rw [← HXO.out]
            have hR9 := hR7.call b9
            have hB9 := hB7.call b9
            have hE9 := hE7.call b9
            have hN9 := hN7.call b9
            have hY9 := hY7.call b9
            have hF9 := hF7.then b9
            clear hF7 hR7 hB7 hE7 hN7 hY7 b9
            go_upto_region 15 with ((with_reducible refine row_store 93 (.tmp 11) (.tmp 65) ?_ ?_ N 300 (outI W e O j (i + 1)) (outI W e O j i) 93 ?_ ?_ hN9 covSize ?_); rfl; rfl; rfl; rfl)
            have hR10 := hR9.otherRow (b := N) (d := rowA 300 (outI W e O j (i + 1))) (by omega)
            have hB10 := hB9.otherRow (b := N) (d := rowA 300 (outI W e O j (i + 1))) (by omega)
            have hE10 := hE9.otherRow (b := N) (d := rowA 300 (outI W e O j (i + 1))) (by omega)
            have hY10 := hY9.otherRow (b := N) (d := rowA 300 (outI W e O j (i + 1))) (by omega)
            have hN10 := hN9.setRow (d := rowA 300 (outI W e O j (i + 1)))
            have hF10 := hF9.row (b := N) (by omega) (rowA 300 (outI W e O j (i + 1)))
            clear hF9 hR9 hB9 hE9 hN9 hY9
            generalize World.setRow _ _ _ = w10 at *
            have fr := (hF10.fl fl).drew
            have H := Lib.hid (And.intro hF10 (And.intro hR10 (And.intro hB10 (And.intro hE10 (And.intro hN10 hY10)))))
            clear hF10 hR10 hB10 hE10 hN10 hY10
            dsimp only [Act.put]
            go_region_with (first
              | (go_at_call 166; refine (take_is p o B i j (nexW W e j i) (uS W e j i) _ _ fr H.out.2.2.1.drew (by omega) hij hj24).mono ?_; rintro e' w11 ⟨rfl, k11⟩))
            all_goals
              obtain ⟨hF, hR, hB, hE, hN, hY⟩ := H.out
              clear H
              have hB11 := FlW.rowBlk hB.drew (by omega) k11
              rw [← HX.out] at hB11
              have hF11 : FlW p o (h1 || dH W e j || nexH W e j (i + 1)) w w11 := flag_is HXH.out.symm ((hF.drew.row (b := B) (by omega) _).trans k11)
              have hR11 := (hR.drew.otherRow (b := B) (d := rowA 1152 (takF (nexW W e j i) j i (uS W e j i) 48)) (by omega)).flag (by omega) k11
              have hE11 := (hE.drew.otherRow (b := B) (d := rowA 1152 (takF (nexW W e j i) j i (uS W e j i) 48)) (by omega)).flag (by omega) k11
              have hN11 := (hN.drew.otherRow (b := B) (d := rowA 1152 (takF (nexW W e j i) j i (uS W e j i) 48)) (by omega)).flag (by omega) k11
              have hY11 := (hY.drew.otherRow (b := B) (d := rowA 1152 (takF (nexW W e j i) j i (uS W e j i) 48)) (by omega)).flag (by omega) k11
              clear hF hR hB hE hN hY k11
              go_wp2_with fail
              go_roundw
              case rel => exact ⟨i + 1, by omega, by go_num, hF11, hR11, hB11, hE11, hN11, hY11⟩
              case measure => simp [intOf]; omega
          · obtain rfl : i = j := by omega
            have hnij : ¬ (i : Int) < (i : Int) := by omega
            clear hij hi
            have hF9 := flag_is HT.out.symm (flag_is (Bool.or_assoc _ _ _) hF)
            rw [← HW.out] at hB
            rw [← HO.out] at hN
            go_wp2_with fail
            go_roundw
            case rel => exact ⟨n + 1, by omega, by congr 1; omega, hF9, hR, hB, hE, hN⟩
            case measure => simp only [intOf]; omega
      · obtain rfl : n = 24 := by omega
        clear hlt hn hB hE
        rw [show (23 - ((24 : Nat) : Int)) = -1 from by decide]
        have HS := HS
        have HH := HH
        generalize stO V e 24 = out at *
        generalize (h0 || stH V e 24) = hh at *
        go_wp2_with (first
          | ((with_reducible refine row_load 93 (.tmp 11) ?_ ?_ N 300 out 93 ?_ hN _ Try.underlying93 ?_ covSize ?_); rfl; rfl; rfl; rfl)
          | ((with_reducible refine row_store 93 (.tmp 8) (.tmp 74) ?_ ?_ (w.heap.size + 3) 300 out (fun _ => 0) 93 ?_ ?_ hR covSize ?_); rfl; rfl; rfl; rfl))
        refine bodyPost_ret (v := .agg (rowA 300 out)) (results_row rfl _ _ (w.heap.size + 3) 300 _ _ _ rfl hR.setRow Try.underlying93 rfl covSize) rfl ⟨?_, ?_⟩
        · rw [HS.out]
        · rw [HH.out]; exact hF.row (by omega) _
end Go.Proofs.Ytfkeljolpcbbkaa
