/- The walk of BlockSays. -/
import Derived.Test.YtfkeljolpcbbkaaBlkAw
import Derived.Test.YtfkeljolpcbbkaaApN
import Derived.Test.YtfkeljolpcbbkaaBlkJ
import Derived.Test.YtfkeljolpcbbkaaBlkF
import Derived.Test.YtfkeljolpcbbkaaBlkI
import Derived.Test.YtfkeljolpcbbkaaBlkE
import Derived.Test.YtfkeljolpcbbkaaTHS
namespace Go.Proofs.Ytfkeljolpcbbkaa.blockSays
open Go.RowKit
abbrev Good (f : Nat → Int) (m : Int) (pa : Option Addr) (n c : Nat) (qa : Option Addr) (k d : Nat) (w : World) : Prop :=
  Calls Try.prog 14 #[.agg (rowA 300 f), .int .i64 m, .slice pa n c, .slice qa k d] w fun e w' => e = .returned (.bool true) ∧ Below w.heap.size w w'
theorem below_sl {w w' : World} {pa : Option Addr} {n p N : Nat} {l : Nat → Int} (h : SlP w N pa n l) (hb : Below w.heap.size w w') (hp : w.heap.size ≤ p) : SlP w' p pa n l := fun hn => by
  obtain ⟨b, ob, rfl, _, h2, h3⟩ := h hn
  exact ⟨b, ob, rfl, by omega, by have := hb.size; omega, h3.below hb h2⟩
structure Bs (w0 : World) (p r s : Nat) (h1 h2 : Bool) (f : Nat → Int) (W : World) : Prop where
  F1 : Fl p 0 h1 W
  F2 : Fl r 0 h2 W
  P : Blk W s (rowA 300 f) 93
  K : Below w0.heap.size w0 W
  d : p ≠ r ∧ s ≠ p ∧ s ≠ r ∧ w0.heap.size ≤ p ∧ w0.heap.size ≤ r ∧ w0.heap.size ≤ s
section
variable {w0 W W2 : World} {p r s : Nat} {h1 h2 g : Bool} {f : Nat → Int}
theorem fl_keep (F : Fl r 0 h2 W) (k : FlW p 0 g W W2) (hne : r ≠ p) : Fl r 0 h2 W2 := ⟨(k.cell F.lt (.inl hne)).trans F.cell, (k.frozen F.lt).trans F.free, Nat.lt_of_lt_of_le F.lt k.size⟩
theorem Bs.flag1 (b : Bs w0 p r s h1 h2 f W) (k : FlW p 0 g W W2) : Bs w0 p r s g h2 f W2 := ⟨k.fl b.F1, fl_keep b.F2 k (Ne.symm b.d.1), b.P.flag b.d.2.1 k, b.K.trans (k.below b.K.size b.d.2.2.2.1), b.d⟩
theorem Bs.flag2 (b : Bs w0 p r s h1 h2 f W) (k : FlW r 0 g W W2) : Bs w0 p r s h1 g f W2 := ⟨fl_keep b.F1 k b.d.1, k.fl b.F2, b.P.flag b.d.2.2.1 k, b.K.trans (k.below b.K.size b.d.2.2.2.2.1), b.d⟩
theorem Bs.call (b : Bs w0 p r s h1 h2 f W) (k : Below W.heap.size W W2) : Bs w0 p r s h1 h2 f W2 := ⟨b.F1.below k, b.F2.below k, b.P.call k, b.K.trans (k.mono b.K.size), b.d⟩
theorem Bs.drew (b : Bs w0 p r s h1 h2 f W) : Bs w0 p r s h1 h2 f W.drew := b.call (Below.refl _ _).drew
theorem Bs.alloc (b : Bs w0 p r s h1 h2 f W) (o : Obj) : Bs w0 p r s h1 h2 f (W.alloc o) := b.call ((Below.refl _ _).alloc (Nat.le_refl _) _)
theorem Bs.new {w W : World} {s : Nat} {f : Nat → Int} (K : Below w.heap.size w W) (P : Blk W s (rowA 300 f) 93) (hs : w.heap.size ≤ s) : Bs w W.heap.size (W.heap.size + 1) s false false f ((W.alloc (.cells #[.bool false] 54)).alloc (.cells #[.bool false] 70)) :=
  ⟨(Fl.made W _ false).alloc _, Fl.made_at _ _ _ (by simp), (P.alloc _).alloc _, (K.alloc K.size _).alloc (by have := K.size; simp; omega) _, by have := P.lt; have := K.size; omega⟩
end
theorem exec_app {o : Oper} {a : Act} {w : World} (d x : Operand) (dT sT : TypeId) (hop : o.op = Op.call { callee := Callee.builtin Builtin.append, args := #[d, x], argTypes := #[dT, sT] })
    (v u : Value) (hd : a.eval d = v) (hx : a.eval x = u) {v' : Value} {w' : World} (hr : (Builtin.append_ #[dT, sT] o.type #[v, u]).run Try.prog w = .ok v' w') : (execOp a.eval o).run Try.prog w = .ok (.value v') w' := by
  simp [execOp, hop, resolve, invoke, builtin, hd, hx, hr, Result.andThen]
theorem load_bool {o : Oper} {a : Act} {w : World} (x : Operand) (g off : Nat) (h : Bool) (ho : o.op = .load 4 x) (hx : a.eval x = .pointer (some ⟨g, off, none⟩)) (hc : w.cell? ⟨g, off, none⟩ = some (.bool h)) : (execOp a.eval o).run Try.prog w = .ok (.value (.bool h)) w := by
  unfold execOp
  simp only [ho, hx]
  go_simp
theorem numI64 : (Try.prog.info? 2).map (fun i => (i.zero, i.size, i.bytes)) = some (some (.int .i64 0), 1, 8) := by kernel_rfl
theorem numInt : (Try.prog.info? 3).map (fun i => (i.zero, i.size, i.bytes)) = some (some (.int .i64 0), 1, 8) := by kernel_rfl
abbrev pT (p : Nat) : Value := .pointer (some ⟨p, 0, none⟩)
abbrev rF (f : Nat → Int) : Value := .agg (rowA 300 f)
abbrev tT : Value := .bool true
abbrev tF : Value := .bool false
def act7 (f : Nat → Int) (m : Int) (pa qa : Option Addr) (n c k d p0 s : Nat) (a33 a34 a35 a36 a37 a38 a39 a40 a41 a42 a43 a44 a45 a46 a47 a48 a49 a50 a51 a52 a53 a54 a55 a56 a57 : Value) : Act := ⟨⟨Value.agg (rowA 300 f) :: Value.int IntKind.i64 m :: Value.slice pa n c :: Value.slice qa k d :: Value.pointer (some ⟨s, 0, none⟩) :: undef :: undef :: undef :: Value.bool false :: Value.pointer (some ⟨p0, 0, none⟩) :: Value.pointer (some ⟨p0 + 1, 0, none⟩) :: Value.bool true :: Value.bool false :: Value.slice pa n c :: Value.int IntKind.i64 (n : Nat) :: Value.bool (decide ((30 : Int) < ((n : Nat) : Int))) :: Value.bool (decide ((30 : Int) < ((n : Nat) : Int))) :: Value.slice qa k d :: Value.int IntKind.i64 (k : Nat) :: Value.bool (decide ((30 : Int) < ((k : Nat) : Int))) :: Value.bool (decide ((30 : Int) < ((n : Nat) : Int)) || decide ((30 : Int) < ((k : Nat) : Int))) :: Value.bool (decide ((30 : Int) < ((n : Nat) : Int)) || decide ((30 : Int) < ((k : Nat) : Int))) :: Value.int IntKind.i64 m :: Value.bool (decide (m < -900)) :: Value.bool (decide ((30 : Int) < ((n : Nat) : Int)) || decide ((30 : Int) < ((k : Nat) : Int)) || decide (m < -900)) :: Value.bool (decide ((30 : Int) < ((n : Nat) : Int)) || decide ((30 : Int) < ((k : Nat) : Int)) || decide (m < -900)) :: Value.int IntKind.i64 m :: Value.bool (decide (900 < m)) :: Value.bool (decide ((30 : Int) < ((n : Nat) : Int)) || decide ((30 : Int) < ((k : Nat) : Int)) || decide (m < -900) || decide (900 < m)) :: Value.agg #[Value.bool false] :: Value.pointer (some ⟨p0, 0, none⟩) :: Value.agg #[Value.bool false] :: Value.pointer (some ⟨p0 + 1, 0, none⟩) :: a33 :: a34 :: a35 :: a36 :: a37 :: a38 :: a39 :: a40 :: a41 :: a42 :: a43 :: a44 :: a45 :: a46 :: a47 :: a48 :: a49 :: a50 :: a51 :: a52 :: a53 :: a54 :: a55 :: a56 :: a57 :: undef :: undef :: undef :: undef :: undef :: undef :: undef :: undef :: undef :: undef :: undef :: undef :: undef :: undef :: undef :: undef :: undef :: undef :: undef :: undef :: undef :: undef :: undef :: undef :: undef :: undef :: undef :: undef :: undef :: undef :: undef :: undef :: undef :: undef :: undef :: undef :: undef :: undef :: undef :: undef :: undef :: undef :: undef :: undef :: undef :: undef :: undef :: undef :: undef :: undef :: undef :: undef :: undef :: undef :: undef :: undef :: []⟩, []⟩
def act11 (f : Nat → Int) (m : Int) (pa qa : Option Addr) (n c k d p1 s p0 : Nat) (u33 u34 u35 u36 u37 u38 u39 u40 u41 u42 u43 u44 u45 u46 u47 u48 u49 u50 u51 u52 u53 u54 u55 u56 a62 a63 a64 a65 a66 a67 a68 a69 a70 a71 a72 a73 a74 a75 a76 a77 a78 a79 a80 a81 a82 a83 a84 a85 a86 : Value) : Act := ⟨⟨Value.agg (rowA 300 f) :: Value.int IntKind.i64 m :: Value.slice pa n c :: Value.slice qa k d :: Value.pointer (some ⟨s, 0, none⟩) :: undef :: undef :: undef :: Value.bool false :: Value.pointer (some ⟨p1, 0, none⟩) :: Value.pointer (some ⟨p1 + 1, 0, none⟩) :: Value.bool true :: Value.bool false :: Value.slice pa n c :: Value.int IntKind.i64 (n : Nat) :: Value.bool (decide ((30 : Int) < ((n : Nat) : Int))) :: Value.bool (decide ((30 : Int) < ((n : Nat) : Int))) :: Value.slice qa k d :: Value.int IntKind.i64 (k : Nat) :: Value.bool (decide ((30 : Int) < ((k : Nat) : Int))) :: Value.bool (decide ((30 : Int) < ((n : Nat) : Int)) || decide ((30 : Int) < ((k : Nat) : Int))) :: Value.bool (decide ((30 : Int) < ((n : Nat) : Int)) || decide ((30 : Int) < ((k : Nat) : Int))) :: Value.int IntKind.i64 m :: Value.bool (decide (m < -900)) :: Value.bool (decide ((30 : Int) < ((n : Nat) : Int)) || decide ((30 : Int) < ((k : Nat) : Int)) || decide (m < -900)) :: Value.bool (decide ((30 : Int) < ((n : Nat) : Int)) || decide ((30 : Int) < ((k : Nat) : Int)) || decide (m < -900)) :: Value.int IntKind.i64 m :: Value.bool (decide (900 < m)) :: Value.bool (decide ((30 : Int) < ((n : Nat) : Int)) || decide ((30 : Int) < ((k : Nat) : Int)) || decide (m < -900) || decide (900 < m)) :: Value.agg #[Value.bool false] :: Value.pointer (some ⟨p0, 0, none⟩) :: Value.agg #[Value.bool false] :: Value.pointer (some ⟨p0 + 1, 0, none⟩) :: u33 :: u34 :: u35 :: u36 :: u37 :: u38 :: u39 :: u40 :: u41 :: u42 :: u43 :: u44 :: u45 :: u46 :: u47 :: u48 :: u49 :: u50 :: u51 :: u52 :: u53 :: u54 :: u55 :: u56 :: Value.bool false :: Value.agg #[Value.bool false] :: Value.pointer (some ⟨p1, 0, none⟩) :: Value.agg #[Value.bool false] :: Value.pointer (some ⟨p1 + 1, 0, none⟩) :: a62 :: a63 :: a64 :: a65 :: a66 :: a67 :: a68 :: a69 :: a70 :: a71 :: a72 :: a73 :: a74 :: a75 :: a76 :: a77 :: a78 :: a79 :: a80 :: a81 :: a82 :: a83 :: a84 :: a85 :: a86 :: undef :: undef :: undef :: undef :: undef :: undef :: undef :: undef :: undef :: undef :: undef :: undef :: undef :: undef :: undef :: undef :: undef :: undef :: undef :: undef :: undef :: undef :: undef :: undef :: undef :: undef :: undef :: []⟩, []⟩
def act15 (f : Nat → Int) (m : Int) (pa qa : Option Addr) (n c k d p2 s p0 p1 : Nat) (u33 u34 u35 u36 u37 u38 u39 u40 u41 u42 u43 u44 u45 u46 u47 u48 u49 u50 u51 u52 u53 u54 u55 u56 u62 u63 u64 u65 u66 u67 u68 u69 u70 u71 u72 u73 u74 u75 u76 u77 u78 u79 u80 u81 u82 u83 u84 u85 a8 a91 a92 a93 a94 a95 a96 a97 a98 a99 a100 a101 a102 a103 a104 a105 a106 a107 a108 a109 a110 a111 a112 a113 : Value) : Act := ⟨⟨Value.agg (rowA 300 f) :: Value.int IntKind.i64 m :: Value.slice pa n c :: Value.slice qa k d :: Value.pointer (some ⟨s, 0, none⟩) :: undef :: undef :: undef :: a8 :: Value.pointer (some ⟨p2, 0, none⟩) :: Value.pointer (some ⟨p2 + 1, 0, none⟩) :: Value.bool true :: Value.bool false :: Value.slice pa n c :: Value.int IntKind.i64 (n : Nat) :: Value.bool (decide ((30 : Int) < ((n : Nat) : Int))) :: Value.bool (decide ((30 : Int) < ((n : Nat) : Int))) :: Value.slice qa k d :: Value.int IntKind.i64 (k : Nat) :: Value.bool (decide ((30 : Int) < ((k : Nat) : Int))) :: Value.bool (decide ((30 : Int) < ((n : Nat) : Int)) || decide ((30 : Int) < ((k : Nat) : Int))) :: Value.bool (decide ((30 : Int) < ((n : Nat) : Int)) || decide ((30 : Int) < ((k : Nat) : Int))) :: Value.int IntKind.i64 m :: Value.bool (decide (m < -900)) :: Value.bool (decide ((30 : Int) < ((n : Nat) : Int)) || decide ((30 : Int) < ((k : Nat) : Int)) || decide (m < -900)) :: Value.bool (decide ((30 : Int) < ((n : Nat) : Int)) || decide ((30 : Int) < ((k : Nat) : Int)) || decide (m < -900)) :: Value.int IntKind.i64 m :: Value.bool (decide (900 < m)) :: Value.bool (decide ((30 : Int) < ((n : Nat) : Int)) || decide ((30 : Int) < ((k : Nat) : Int)) || decide (m < -900) || decide (900 < m)) :: Value.agg #[Value.bool false] :: Value.pointer (some ⟨p0, 0, none⟩) :: Value.agg #[Value.bool false] :: Value.pointer (some ⟨p0 + 1, 0, none⟩) :: u33 :: u34 :: u35 :: u36 :: u37 :: u38 :: u39 :: u40 :: u41 :: u42 :: u43 :: u44 :: u45 :: u46 :: u47 :: u48 :: u49 :: u50 :: u51 :: u52 :: u53 :: u54 :: u55 :: u56 :: Value.bool false :: Value.agg #[Value.bool false] :: Value.pointer (some ⟨p1, 0, none⟩) :: Value.agg #[Value.bool false] :: Value.pointer (some ⟨p1 + 1, 0, none⟩) :: u62 :: u63 :: u64 :: u65 :: u66 :: u67 :: u68 :: u69 :: u70 :: u71 :: u72 :: u73 :: u74 :: u75 :: u76 :: u77 :: u78 :: u79 :: u80 :: u81 :: u82 :: u83 :: u84 :: u85 :: Value.bool false :: Value.agg #[Value.bool false] :: Value.pointer (some ⟨p2, 0, none⟩) :: Value.agg #[Value.bool false] :: Value.pointer (some ⟨p2 + 1, 0, none⟩) :: a91 :: a92 :: a93 :: a94 :: a95 :: a96 :: a97 :: a98 :: a99 :: a100 :: a101 :: a102 :: a103 :: a104 :: a105 :: a106 :: a107 :: a108 :: a109 :: a110 :: a111 :: a112 :: a113 :: []⟩, []⟩
theorem covFlat : SX.flatOk Try.prog 93 = some (List.replicate 300 true) := by kernel_rfl
theorem yields_neq {P : Program} {ops : Array Oper} {S : World → Prop} {o : Oper} {a : Act} (ty : TypeId) (x y : Operand) (t : TypeId) (n : Nat) (f : Nat → Int) (hf : SX.flatOk P ty = some (List.replicate n true)) (hw : Region.wanted o (yielded ops a.tmps) = true) (ho : o.op = .binOp .neq ty x y t)
    (hx : a.eval x = .agg (rowA n f)) (hy : a.eval y = .agg (rowA n f)) : YieldsIf P ops S o (.bool false) a :=
  yields_pure hw (fun w => by
    unfold execOp
    simp only [ho, hx, hy, Sem.run_bind, Sem.run_pure, Result.andThen_ok, guard_row hf, neq_row hf, eqB_same, Bool.not_true])
theorem yields_eql {P : Program} {ops : Array Oper} {S : World → Prop} {o : Oper} {a : Act} (ty : TypeId) (x y : Operand) (t : TypeId) (n : Nat) (f : Nat → Int) (hf : SX.flatOk P ty = some (List.replicate n true)) (hw : Region.wanted o (yielded ops a.tmps) = true) (ho : o.op = .binOp .eql ty x y t)
    (hx : a.eval x = .agg (rowA n f)) (hy : a.eval y = .agg (rowA n f)) : YieldsIf P ops S o (.bool true) a :=
  yields_pure hw (fun w => by
    unfold execOp
    simp only [ho, hx, hy, Sem.run_bind, Sem.run_pure, Result.andThen_ok, guard_row hf, eql_row hf, eqB_same])
set_option pp.deepTerms true in
set_option pp.maxSteps 100000000 in
set_option maxRecDepth 100000 in
set_option maxHeartbeats 16000000 in
theorem walk (f : Nat → Int) (_ : ∀ k, -9223372036854775808 ≤ f k ∧ f k ≤ 9223372036854775807) (m : Int) (_ : -9223372036854775808 ≤ m ∧ m ≤ 9223372036854775807) (pa : Option Addr) (n c : Nat) (l : Nat → Int) (hn : n ≤ 9223372036854775807) (qa : Option Addr) (k d : Nat) (who : Nat → Int) (hk : k ≤ 9223372036854775807) (w : World) (hl : SlP w w.heap.size pa n l) (hq : SlP w w.heap.size qa k who) : Good f m pa n c qa k d w := by
  unfold Good
  go_enter Try.func14, Try.ntmps14
  go_wp2_with fail
  generalize hW : World.alloc w _ = W0
  have hb : Below w.heap.size w W0 := by subst hW; exact (Below.refl _ _).alloc (Nat.le_refl _) _
  have hP : Blk W0 w.heap.size (rowA 300 f) 93 := by subst hW; exact Blk.made _ _ _ rfl
  clear hW
  refine (awake12_any W0).mono ?_
  rintro e w1 ⟨rfl, hb1⟩
  replace hP := hP.call hb1
  replace hb := hb.trans (hb1.mono hb.size)
  clear hb1 W0
  have HB := Lib.hid hb
  by_cases h1 : (30 : Int) < (n : Int)
  · go_wp2_with fail
    go_ret
    exact ⟨rfl, HB.out⟩
  by_cases h2 : (30 : Int) < (k : Int)
  · go_wp2_with fail
    go_ret
    exact ⟨rfl, HB.out⟩
  by_cases h3 : m < -900
  · go_wp2_with fail
    go_ret
    exact ⟨rfl, HB.out⟩
  by_cases h4 : 900 < m
  · go_wp2_with fail
    go_ret
    exact ⟨rfl, HB.out⟩
  go_upto_region 7 with (fail)
  have b0 := Bs.new hb hP (Nat.le_refl _)
  generalize World.alloc (World.alloc w1 _) _ = X at *
  generalize hp : w1.heap.size = p0 at *
  generalize hs : w.heap.size = s at *
  refine wp_join [33, 34, 35, 36, 37, 38, 39, 40, 41, 42, 43, 44, 45, 46, 47, 48, 49, 50, 51, 52, 53, 54, 55, 56, 57] (fun w' u => u 57 = .bool false ∧ ∃ h1 h2, Bs w p0 (p0 + 1) s h1 h2 f w')
    (fun u => act7 f m pa qa n c k d p0 s (u 33) (u 34) (u 35) (u 36) (u 37) (u 38) (u 39) (u 40) (u 41) (u 42) (u 43) (u 44) (u 45) (u 46) (u 47) (u 48) (u 49) (u 50) (u 51) (u 52) (u 53) (u 54) (u 55) (u 56) (u 57)) (fun u => by kernel_rfl) ?_ ?_
  · refine wp_region_held (S := fun W => Blk W s (rowA 300 f) 93) (by kernel_rfl) ?_
    change wpAnyH _ _ _ _ _ _ _ _ (World.drew _)
    have hs := b0.drew
    clear b0
    generalize World.drew X = W0 at *
    refine wpAnyH_as (b := act7 f m pa qa n c k d p0 s undef undef undef undef undef undef undef undef undef undef undef undef undef undef undef undef undef undef undef undef undef undef undef undef undef) (by kernel_rfl) ?_
    refine wpAnyH_take (i := 0) rfl (by kernel_rfl) (by kernel_rfl) (by kernel_rfl) (fun _ _ _ h => nomatch h.1) (yields_pure (v := .pointer (some ⟨p0, 0, none⟩)) (by kernel_rfl) (fun _ => by kernel_rfl)) hs.P ?_
    refine wpAnyH_as (b := act7 f m pa qa n c k d p0 s (pT p0) undef undef undef undef undef undef undef undef undef undef undef undef undef undef undef undef undef undef undef undef undef undef undef undef) (by kernel_rfl) ?_
    refine wpAnyH_take (i := 1) rfl (by kernel_rfl) (by kernel_rfl) (by kernel_rfl) (fun _ _ _ h => nomatch h.1) (yields_row 93 (.tmp 4) s 300 f 93 _ (by kernel_rfl) rfl (by kernel_rfl) (fun _ h => h) Try.underlying93 rfl covSize) hs.P ?_
    refine wpAnyH_as (b := act7 f m pa qa n c k d p0 s (pT p0) (rF f) undef undef undef undef undef undef undef undef undef undef undef undef undef undef undef undef undef undef undef undef undef undef undef) (by kernel_rfl) ?_
    refine wpAnyH_take (i := 2) rfl (by kernel_rfl) (by kernel_rfl) (by kernel_rfl) (fun _ _ _ h => nomatch h.1) (yields_pure (v := .int .i64 m) (by kernel_rfl) (fun _ => by kernel_rfl)) hs.P ?_
    refine wpAnyH_as (b := act7 f m pa qa n c k d p0 s (pT p0) (rF f) (.int .i64 m) undef undef undef undef undef undef undef undef undef undef undef undef undef undef undef undef undef undef undef undef undef undef) (by kernel_rfl) ?_
    refine wpAnyH_take (i := 4) rfl (by kernel_rfl) (by kernel_rfl) (by kernel_rfl) (fun _ _ _ h => nomatch h.1) (yields_pure (v := .slice pa n c) (by kernel_rfl) (fun _ => by kernel_rfl)) hs.P ?_
    refine wpAnyH_as (b := act7 f m pa qa n c k d p0 s (pT p0) (rF f) (.int .i64 m) undef (.slice pa n c) undef undef undef undef undef undef undef undef undef undef undef undef undef undef undef undef undef undef undef undef) (by kernel_rfl) ?_
    refine wpAnyH_take (i := 7) rfl (by kernel_rfl) (by kernel_rfl) (by kernel_rfl) (fun _ _ _ h => nomatch h.1) (yields_pure (v := .pointer (some ⟨p0 + 1, 0, none⟩)) (by kernel_rfl) (fun _ => by kernel_rfl)) hs.P ?_
    refine wpAnyH_as (b := act7 f m pa qa n c k d p0 s (pT p0) (rF f) (.int .i64 m) undef (.slice pa n c) undef undef (pT (p0 + 1)) undef undef undef undef undef undef undef undef undef undef undef undef undef undef undef undef undef) (by kernel_rfl) ?_
    refine wpAnyH_take (i := 8) rfl (by kernel_rfl) (by kernel_rfl) (by kernel_rfl) (fun _ _ _ h => nomatch h.1) (yields_row 93 (.tmp 4) s 300 f 93 _ (by kernel_rfl) rfl (by kernel_rfl) (fun _ h => h) Try.underlying93 rfl covSize) hs.P ?_
    refine wpAnyH_as (b := act7 f m pa qa n c k d p0 s (pT p0) (rF f) (.int .i64 m) undef (.slice pa n c) undef undef (pT (p0 + 1)) (rF f) undef undef undef undef undef undef undef undef undef undef undef undef undef undef undef undef) (by kernel_rfl) ?_
    refine wpAnyH_take (i := 9) rfl (by kernel_rfl) (by kernel_rfl) (by kernel_rfl) (fun _ _ _ h => nomatch h.1) (yields_pure (v := .int .i64 m) (by kernel_rfl) (fun _ => by kernel_rfl)) hs.P ?_
    refine wpAnyH_as (b := act7 f m pa qa n c k d p0 s (pT p0) (rF f) (.int .i64 m) undef (.slice pa n c) undef undef (pT (p0 + 1)) (rF f) (.int .i64 m) undef undef undef undef undef undef undef undef undef undef undef undef undef undef undef) (by kernel_rfl) ?_
    refine wpAnyH_take (i := 10) rfl (by kernel_rfl) (by kernel_rfl) (by kernel_rfl) (fun _ _ _ h => nomatch h.1) (yields_pure (v := .slice pa n c) (by kernel_rfl) (fun _ => by kernel_rfl)) hs.P ?_
    refine wpAnyH_as (b := act7 f m pa qa n c k d p0 s (pT p0) (rF f) (.int .i64 m) undef (.slice pa n c) undef undef (pT (p0 + 1)) (rF f) (.int .i64 m) (.slice pa n c) undef undef undef undef undef undef undef undef undef undef undef undef undef undef) (by kernel_rfl) ?_
    refine wpAnyH_all (rs := [3]) (by kernel_rfl) (by simp) ?_
    intro j hj
    obtain rfl : j = 3 := by simpa using hj
    refine wpOp_value (by kernel_rfl) (by kernel_rfl) (w' := World.alloc W0 (.cells #[] 2)) (v := .slice (some ⟨W0.heap.size, 0, none⟩) 0 0) (by kernel_rfl) ?_
    replace hs := hs.alloc (.cells #[] 2)
    generalize World.alloc W0 _ = W1 at *
    generalize W0.heap.size = B at *
    refine ⟨hs.P, ?_⟩
    refine wpAnyH_as (b := act7 f m pa qa n c k d p0 s (pT p0) (rF f) (.int .i64 m) (.slice (some ⟨B, 0, none⟩) 0 0) (.slice pa n c) undef undef (pT (p0 + 1)) (rF f) (.int .i64 m) (.slice pa n c) undef undef undef undef undef undef undef undef undef undef undef undef undef undef) (by kernel_rfl) ?_
    refine wpAnyH_all (rs := [5]) (by kernel_rfl) (by simp) ?_
    intro j hj
    obtain rfl : j = 5 := by simpa using hj
    obtain ⟨a', c', W2, hr, hb, hsl⟩ := app_all Try.underlying63 numI64 W1 63 B n c p0 pa l (by omega) (below_sl hl hs.K (by have := hs.d; omega)) hs.F1.lt
    refine wpOp_value (by kernel_rfl) (by kernel_rfl) (exec_app (.tmp 36) (.tmp 37) 63 63 (by kernel_rfl) _ _ (by kernel_rfl) (by kernel_rfl) hr) ?_
    replace hs := hs.call hb
    clear hr hb
    refine ⟨hs.P, ?_⟩
    refine wpAnyH_as (b := act7 f m pa qa n c k d p0 s (pT p0) (rF f) (.int .i64 m) (.slice (some ⟨B, 0, none⟩) 0 0) (.slice pa n c) (.slice a' n c') undef (pT (p0 + 1)) (rF f) (.int .i64 m) (.slice pa n c) undef undef undef undef undef undef undef undef undef undef undef undef undef undef) (by kernel_rfl) ?_
    refine wpAnyH_all (rs := [6]) (by kernel_rfl) (by simp) ?_
    intro j hj
    obtain rfl : j = 6 := by simpa using hj
    refine wpOp_call (by kernel_rfl) (by kernel_rfl) (by kernel_rfl) (reset_any p0 0 f m a' n c' l false W2 hs.F1 hn hsl) ?_
    intro W3 kf
    replace hs := hs.flag1 kf
    clear kf hsl
    refine ⟨hs.P, ?_⟩
    refine wpAnyH_as (b := act7 f m pa qa n c k d p0 s (pT p0) (rF f) (.int .i64 m) (.slice (some ⟨B, 0, none⟩) 0 0) (.slice pa n c) (.slice a' n c') (rF (resetF f m l n)) (pT (p0 + 1)) (rF f) (.int .i64 m) (.slice pa n c) undef undef undef undef undef undef undef undef undef undef undef undef undef undef) (by kernel_rfl) ?_
    refine wpAnyH_all (rs := [11]) (by kernel_rfl) (by simp) ?_
    intro j hj
    obtain rfl : j = 11 := by simpa using hj
    refine wpOp_call (by kernel_rfl) (by kernel_rfl) (by kernel_rfl) (rreset_any (p0 + 1) 0 f m pa n c l false W3 hs.F2 (by omega) (by omega) (below_sl hl hs.K (by have := hs.d; omega))) ?_
    intro W4 kf
    replace hs := hs.flag2 kf
    clear kf
    generalize (false || resetH f m l n) = hh at *
    refine ⟨hs.P, ?_⟩
    refine wpAnyH_as (b := act7 f m pa qa n c k d p0 s (pT p0) (rF f) (.int .i64 m) (.slice (some ⟨B, 0, none⟩) 0 0) (.slice pa n c) (.slice a' n c') (rF (resetF f m l n)) (pT (p0 + 1)) (rF f) (.int .i64 m) (.slice pa n c) (rF (resetF f m l n)) undef undef undef undef undef undef undef undef undef undef undef undef undef) (by kernel_rfl) ?_
    refine wpAnyH_take (i := 12) rfl (by kernel_rfl) (by kernel_rfl) (by kernel_rfl) (fun _ _ _ h => nomatch h.1) (yields_neq 93 (.tmp 39) (.tmp 44) 93 300 (resetF f m l n) covFlat (by kernel_rfl) rfl (by kernel_rfl) (by kernel_rfl)) hs.P ?_
    refine wpAnyH_as (b := act7 f m pa qa n c k d p0 s (pT p0) (rF f) (.int .i64 m) (.slice (some ⟨B, 0, none⟩) 0 0) (.slice pa n c) (.slice a' n c') (rF (resetF f m l n)) (pT (p0 + 1)) (rF f) (.int .i64 m) (.slice pa n c) (rF (resetF f m l n)) tF undef undef undef undef undef undef undef undef undef undef undef undef) (by kernel_rfl) ?_
    refine wpAnyH_take (i := 13) rfl (by kernel_rfl) (by kernel_rfl) (by kernel_rfl) (fun _ _ _ h => nomatch h.1) (yields_pure (v := .bool false) (by kernel_rfl) (fun _ => by kernel_rfl)) hs.P ?_
    refine wpAnyH_as (b := act7 f m pa qa n c k d p0 s (pT p0) (rF f) (.int .i64 m) (.slice (some ⟨B, 0, none⟩) 0 0) (.slice pa n c) (.slice a' n c') (rF (resetF f m l n)) (pT (p0 + 1)) (rF f) (.int .i64 m) (.slice pa n c) (rF (resetF f m l n)) tF tF undef undef undef undef undef undef undef undef undef undef undef) (by kernel_rfl) ?_
    refine wpAnyH_take (i := 14) rfl (by kernel_rfl) (by kernel_rfl) (by kernel_rfl) (fun _ _ _ h => nomatch h.1) (yields_pure (v := .pointer (some ⟨p0, 0, none⟩)) (by kernel_rfl) (fun _ => by kernel_rfl)) hs.P ?_
    refine wpAnyH_as (b := act7 f m pa qa n c k d p0 s (pT p0) (rF f) (.int .i64 m) (.slice (some ⟨B, 0, none⟩) 0 0) (.slice pa n c) (.slice a' n c') (rF (resetF f m l n)) (pT (p0 + 1)) (rF f) (.int .i64 m) (.slice pa n c) (rF (resetF f m l n)) tF tF (pT p0) undef undef undef undef undef undef undef undef undef undef) (by kernel_rfl) ?_
    refine wpAnyH_take (i := 15) rfl (by kernel_rfl) (by kernel_rfl) (by kernel_rfl) (fun _ _ _ h => nomatch h.1) (yields_pure (v := .pointer (some ⟨p0, 0, none⟩)) (by kernel_rfl) (fun _ => by kernel_rfl)) hs.P ?_
    refine wpAnyH_as (b := act7 f m pa qa n c k d p0 s (pT p0) (rF f) (.int .i64 m) (.slice (some ⟨B, 0, none⟩) 0 0) (.slice pa n c) (.slice a' n c') (rF (resetF f m l n)) (pT (p0 + 1)) (rF f) (.int .i64 m) (.slice pa n c) (rF (resetF f m l n)) tF tF (pT p0) (pT p0) undef undef undef undef undef undef undef undef undef) (by kernel_rfl) ?_
    refine wpAnyH_take (i := 16) rfl (by kernel_rfl) (by kernel_rfl) (by kernel_rfl) (fun _ _ _ h => nomatch h.1) (yields_pure (v := .pointer (some ⟨p0, 0, none⟩)) (by kernel_rfl) (fun _ => by kernel_rfl)) hs.P ?_
    refine wpAnyH_as (b := act7 f m pa qa n c k d p0 s (pT p0) (rF f) (.int .i64 m) (.slice (some ⟨B, 0, none⟩) 0 0) (.slice pa n c) (.slice a' n c') (rF (resetF f m l n)) (pT (p0 + 1)) (rF f) (.int .i64 m) (.slice pa n c) (rF (resetF f m l n)) tF tF (pT p0) (pT p0) (pT p0) undef undef undef undef undef undef undef undef) (by kernel_rfl) ?_
    refine wpAnyH_take (i := 18) rfl (by kernel_rfl) (by kernel_rfl) (by kernel_rfl) (fun _ _ _ h => nomatch h.1) (yields_pure (v := .pointer (some ⟨p0 + 1, 0, none⟩)) (by kernel_rfl) (fun _ => by kernel_rfl)) hs.P ?_
    refine wpAnyH_as (b := act7 f m pa qa n c k d p0 s (pT p0) (rF f) (.int .i64 m) (.slice (some ⟨B, 0, none⟩) 0 0) (.slice pa n c) (.slice a' n c') (rF (resetF f m l n)) (pT (p0 + 1)) (rF f) (.int .i64 m) (.slice pa n c) (rF (resetF f m l n)) tF tF (pT p0) (pT p0) (pT p0) undef (pT (p0 + 1)) undef undef undef undef undef undef) (by kernel_rfl) ?_
    refine wpAnyH_take (i := 19) rfl (by kernel_rfl) (by kernel_rfl) (by kernel_rfl) (fun _ _ _ h => nomatch h.1) (yields_pure (v := .pointer (some ⟨p0 + 1, 0, none⟩)) (by kernel_rfl) (fun _ => by kernel_rfl)) hs.P ?_
    refine wpAnyH_as (b := act7 f m pa qa n c k d p0 s (pT p0) (rF f) (.int .i64 m) (.slice (some ⟨B, 0, none⟩) 0 0) (.slice pa n c) (.slice a' n c') (rF (resetF f m l n)) (pT (p0 + 1)) (rF f) (.int .i64 m) (.slice pa n c) (rF (resetF f m l n)) tF tF (pT p0) (pT p0) (pT p0) undef (pT (p0 + 1)) (pT (p0 + 1)) undef undef undef undef undef) (by kernel_rfl) ?_
    refine wpAnyH_take (i := 20) rfl (by kernel_rfl) (by kernel_rfl) (by kernel_rfl) (fun _ _ _ h => nomatch h.1) (yields_pure (v := .pointer (some ⟨p0 + 1, 0, none⟩)) (by kernel_rfl) (fun _ => by kernel_rfl)) hs.P ?_
    refine wpAnyH_as (b := act7 f m pa qa n c k d p0 s (pT p0) (rF f) (.int .i64 m) (.slice (some ⟨B, 0, none⟩) 0 0) (.slice pa n c) (.slice a' n c') (rF (resetF f m l n)) (pT (p0 + 1)) (rF f) (.int .i64 m) (.slice pa n c) (rF (resetF f m l n)) tF tF (pT p0) (pT p0) (pT p0) undef (pT (p0 + 1)) (pT (p0 + 1)) (pT (p0 + 1)) undef undef undef undef) (by kernel_rfl) ?_
    refine wpAnyH_take (i := 21) rfl (by kernel_rfl) (by kernel_rfl) (by kernel_rfl) (fun _ _ _ h => nomatch h.1) (yields_pure (v := .pointer (some ⟨p0 + 1, 0, none⟩)) (by kernel_rfl) (fun _ => by kernel_rfl)) hs.P ?_
    refine wpAnyH_as (b := act7 f m pa qa n c k d p0 s (pT p0) (rF f) (.int .i64 m) (.slice (some ⟨B, 0, none⟩) 0 0) (.slice pa n c) (.slice a' n c') (rF (resetF f m l n)) (pT (p0 + 1)) (rF f) (.int .i64 m) (.slice pa n c) (rF (resetF f m l n)) tF tF (pT p0) (pT p0) (pT p0) undef (pT (p0 + 1)) (pT (p0 + 1)) (pT (p0 + 1)) (pT (p0 + 1)) undef undef undef) (by kernel_rfl) ?_
    refine wpAnyH_all (rs := [17, 22]) (by kernel_rfl) (by simp) ?_
    intro j hj
    simp only [List.mem_cons, List.not_mem_nil, or_false] at hj
    rcases hj with rfl | rfl
    · refine wpOp_value (by kernel_rfl) (by kernel_rfl) (load_bool (.tmp 49) p0 0 hh (by kernel_rfl) (by kernel_rfl) hs.F1.cell) ?_
      refine ⟨hs.P, ?_⟩
      refine wpAnyH_as (b := act7 f m pa qa n c k d p0 s (pT p0) (rF f) (.int .i64 m) (.slice (some ⟨B, 0, none⟩) 0 0) (.slice pa n c) (.slice a' n c') (rF (resetF f m l n)) (pT (p0 + 1)) (rF f) (.int .i64 m) (.slice pa n c) (rF (resetF f m l n)) tF tF (pT p0) (pT p0) (pT p0) (.bool hh) (pT (p0 + 1)) (pT (p0 + 1)) (pT (p0 + 1)) (pT (p0 + 1)) undef undef undef) (by kernel_rfl) ?_
      refine wpAnyH_all (rs := [22]) (by kernel_rfl) (by simp) ?_
      intro j hj
      obtain rfl : j = 22 := by simpa using hj
      refine wpOp_value (by kernel_rfl) (by kernel_rfl) (load_bool (.tmp 54) (p0 + 1) 0 hh (by kernel_rfl) (by kernel_rfl) hs.F2.cell) ?_
      refine ⟨hs.P, ?_⟩
      refine wpAnyH_as (b := act7 f m pa qa n c k d p0 s (pT p0) (rF f) (.int .i64 m) (.slice (some ⟨B, 0, none⟩) 0 0) (.slice pa n c) (.slice a' n c') (rF (resetF f m l n)) (pT (p0 + 1)) (rF f) (.int .i64 m) (.slice pa n c) (rF (resetF f m l n)) tF tF (pT p0) (pT p0) (pT p0) (.bool hh) (pT (p0 + 1)) (pT (p0 + 1)) (pT (p0 + 1)) (pT (p0 + 1)) (.bool hh) undef undef) (by kernel_rfl) ?_
      refine wpAnyH_take (i := 23) rfl (by kernel_rfl) (by kernel_rfl) (by kernel_rfl) (fun _ _ _ h => nomatch h.1) (yields_pure (v := .bool false) (by kernel_rfl) (fun _ => by cases hh <;> kernel_rfl)) hs.P ?_
      refine wpAnyH_as (b := act7 f m pa qa n c k d p0 s (pT p0) (rF f) (.int .i64 m) (.slice (some ⟨B, 0, none⟩) 0 0) (.slice pa n c) (.slice a' n c') (rF (resetF f m l n)) (pT (p0 + 1)) (rF f) (.int .i64 m) (.slice pa n c) (rF (resetF f m l n)) tF tF (pT p0) (pT p0) (pT p0) (.bool hh) (pT (p0 + 1)) (pT (p0 + 1)) (pT (p0 + 1)) (pT (p0 + 1)) (.bool hh) tF undef) (by kernel_rfl) ?_
      refine wpAnyH_take (i := 24) rfl (by kernel_rfl) (by kernel_rfl) (by kernel_rfl) (fun _ _ _ h => nomatch h.1) (yields_pure (v := .bool false) (by kernel_rfl) (fun _ => by kernel_rfl)) hs.P ?_
      refine wpAnyH_as (b := act7 f m pa qa n c k d p0 s (pT p0) (rF f) (.int .i64 m) (.slice (some ⟨B, 0, none⟩) 0 0) (.slice pa n c) (.slice a' n c') (rF (resetF f m l n)) (pT (p0 + 1)) (rF f) (.int .i64 m) (.slice pa n c) (rF (resetF f m l n)) tF tF (pT p0) (pT p0) (pT p0) (.bool hh) (pT (p0 + 1)) (pT (p0 + 1)) (pT (p0 + 1)) (pT (p0 + 1)) (.bool hh) tF tF) (by kernel_rfl) ?_
      refine wpAnyH_done (by kernel_rfl) ?_ _
      exact ⟨rfl, by kernel_rfl, rfl, _, _, hs⟩
    · refine wpOp_value (by kernel_rfl) (by kernel_rfl) (load_bool (.tmp 54) (p0 + 1) 0 hh (by kernel_rfl) (by kernel_rfl) hs.F2.cell) ?_
      refine ⟨hs.P, ?_⟩
      refine wpAnyH_as (b := act7 f m pa qa n c k d p0 s (pT p0) (rF f) (.int .i64 m) (.slice (some ⟨B, 0, none⟩) 0 0) (.slice pa n c) (.slice a' n c') (rF (resetF f m l n)) (pT (p0 + 1)) (rF f) (.int .i64 m) (.slice pa n c) (rF (resetF f m l n)) tF tF (pT p0) (pT p0) (pT p0) undef (pT (p0 + 1)) (pT (p0 + 1)) (pT (p0 + 1)) (pT (p0 + 1)) (.bool hh) undef undef) (by kernel_rfl) ?_
      refine wpAnyH_all (rs := [17]) (by kernel_rfl) (by simp) ?_
      intro j hj
      obtain rfl : j = 17 := by simpa using hj
      refine wpOp_value (by kernel_rfl) (by kernel_rfl) (load_bool (.tmp 49) p0 0 hh (by kernel_rfl) (by kernel_rfl) hs.F1.cell) ?_
      refine ⟨hs.P, ?_⟩
      refine wpAnyH_as (b := act7 f m pa qa n c k d p0 s (pT p0) (rF f) (.int .i64 m) (.slice (some ⟨B, 0, none⟩) 0 0) (.slice pa n c) (.slice a' n c') (rF (resetF f m l n)) (pT (p0 + 1)) (rF f) (.int .i64 m) (.slice pa n c) (rF (resetF f m l n)) tF tF (pT p0) (pT p0) (pT p0) (.bool hh) (pT (p0 + 1)) (pT (p0 + 1)) (pT (p0 + 1)) (pT (p0 + 1)) (.bool hh) undef undef) (by kernel_rfl) ?_
      refine wpAnyH_take (i := 23) rfl (by kernel_rfl) (by kernel_rfl) (by kernel_rfl) (fun _ _ _ h => nomatch h.1) (yields_pure (v := .bool false) (by kernel_rfl) (fun _ => by cases hh <;> kernel_rfl)) hs.P ?_
      refine wpAnyH_as (b := act7 f m pa qa n c k d p0 s (pT p0) (rF f) (.int .i64 m) (.slice (some ⟨B, 0, none⟩) 0 0) (.slice pa n c) (.slice a' n c') (rF (resetF f m l n)) (pT (p0 + 1)) (rF f) (.int .i64 m) (.slice pa n c) (rF (resetF f m l n)) tF tF (pT p0) (pT p0) (pT p0) (.bool hh) (pT (p0 + 1)) (pT (p0 + 1)) (pT (p0 + 1)) (pT (p0 + 1)) (.bool hh) tF undef) (by kernel_rfl) ?_
      refine wpAnyH_take (i := 24) rfl (by kernel_rfl) (by kernel_rfl) (by kernel_rfl) (fun _ _ _ h => nomatch h.1) (yields_pure (v := .bool false) (by kernel_rfl) (fun _ => by kernel_rfl)) hs.P ?_
      refine wpAnyH_as (b := act7 f m pa qa n c k d p0 s (pT p0) (rF f) (.int .i64 m) (.slice (some ⟨B, 0, none⟩) 0 0) (.slice pa n c) (.slice a' n c') (rF (resetF f m l n)) (pT (p0 + 1)) (rF f) (.int .i64 m) (.slice pa n c) (rF (resetF f m l n)) tF tF (pT p0) (pT p0) (pT p0) (.bool hh) (pT (p0 + 1)) (pT (p0 + 1)) (pT (p0 + 1)) (pT (p0 + 1)) (.bool hh) tF tF) (by kernel_rfl) ?_
      refine wpAnyH_done (by kernel_rfl) ?_ _
      exact ⟨rfl, by kernel_rfl, rfl, _, _, hs⟩
  · rintro w9 u ⟨hu, h1, h2, b9⟩
    unfold act7
    rw [hu]
    generalize u 33 = u33
    generalize u 34 = u34
    generalize u 35 = u35
    generalize u 36 = u36
    generalize u 37 = u37
    generalize u 38 = u38
    generalize u 39 = u39
    generalize u 40 = u40
    generalize u 41 = u41
    generalize u 42 = u42
    generalize u 43 = u43
    generalize u 44 = u44
    generalize u 45 = u45
    generalize u 46 = u46
    generalize u 47 = u47
    generalize u 48 = u48
    generalize u 49 = u49
    generalize u 50 = u50
    generalize u 51 = u51
    generalize u 52 = u52
    generalize u 53 = u53
    generalize u 54 = u54
    generalize u 55 = u55
    generalize u 56 = u56
    have HB := Lib.hid b9.K
    have hP := b9.P
    go_upto_region 11 with (fail)
    have b0 := Bs.new HB.out hP b9.d.2.2.2.2.2
    clear b9 hP
    generalize World.alloc (World.alloc w9 _) _ = X at *
    generalize hp2 : w9.heap.size = p1 at *
    refine wp_join [62, 63, 64, 65, 66, 67, 68, 69, 70, 71, 72, 73, 74, 75, 76, 77, 78, 79, 80, 81, 82, 83, 84, 85, 86] (fun w' u => u 86 = .bool false ∧ ∃ h1 h2, Bs w p1 (p1 + 1) s h1 h2 f w')
      (fun u => act11 f m pa qa n c k d p1 s p0 u33 u34 u35 u36 u37 u38 u39 u40 u41 u42 u43 u44 u45 u46 u47 u48 u49 u50 u51 u52 u53 u54 u55 u56 (u 62) (u 63) (u 64) (u 65) (u 66) (u 67) (u 68) (u 69) (u 70) (u 71) (u 72) (u 73) (u 74) (u 75) (u 76) (u 77) (u 78) (u 79) (u 80) (u 81) (u 82) (u 83) (u 84) (u 85) (u 86)) (fun u => by kernel_rfl) ?_ ?_
    · refine wp_region_held (S := fun W => Blk W s (rowA 300 f) 93) (by kernel_rfl) ?_
      change wpAnyH _ _ _ _ _ _ _ _ (World.drew _)
      have hs := b0.drew
      clear b0
      generalize World.drew X = W0 at *
      refine wpAnyH_as (b := act11 f m pa qa n c k d p1 s p0 u33 u34 u35 u36 u37 u38 u39 u40 u41 u42 u43 u44 u45 u46 u47 u48 u49 u50 u51 u52 u53 u54 u55 u56 undef undef undef undef undef undef undef undef undef undef undef undef undef undef undef undef undef undef undef undef undef undef undef undef undef) (by kernel_rfl) ?_
      refine wpAnyH_take (i := 0) rfl (by kernel_rfl) (by kernel_rfl) (by kernel_rfl) (fun _ _ _ h => nomatch h.1) (yields_pure (v := .pointer (some ⟨p1, 0, none⟩)) (by kernel_rfl) (fun _ => by kernel_rfl)) hs.P ?_
      refine wpAnyH_as (b := act11 f m pa qa n c k d p1 s p0 u33 u34 u35 u36 u37 u38 u39 u40 u41 u42 u43 u44 u45 u46 u47 u48 u49 u50 u51 u52 u53 u54 u55 u56 (pT p1) undef undef undef undef undef undef undef undef undef undef undef undef undef undef undef undef undef undef undef undef undef undef undef undef) (by kernel_rfl) ?_
      refine wpAnyH_take (i := 1) rfl (by kernel_rfl) (by kernel_rfl) (by kernel_rfl) (fun _ _ _ h => nomatch h.1) (yields_row 93 (.tmp 4) s 300 f 93 _ (by kernel_rfl) rfl (by kernel_rfl) (fun _ h => h) Try.underlying93 rfl covSize) hs.P ?_
      refine wpAnyH_as (b := act11 f m pa qa n c k d p1 s p0 u33 u34 u35 u36 u37 u38 u39 u40 u41 u42 u43 u44 u45 u46 u47 u48 u49 u50 u51 u52 u53 u54 u55 u56 (pT p1) (rF f) undef undef undef undef undef undef undef undef undef undef undef undef undef undef undef undef undef undef undef undef undef undef undef) (by kernel_rfl) ?_
      refine wpAnyH_take (i := 2) rfl (by kernel_rfl) (by kernel_rfl) (by kernel_rfl) (fun _ _ _ h => nomatch h.1) (yields_pure (v := .int .i64 m) (by kernel_rfl) (fun _ => by kernel_rfl)) hs.P ?_
      refine wpAnyH_as (b := act11 f m pa qa n c k d p1 s p0 u33 u34 u35 u36 u37 u38 u39 u40 u41 u42 u43 u44 u45 u46 u47 u48 u49 u50 u51 u52 u53 u54 u55 u56 (pT p1) (rF f) (.int .i64 m) undef undef undef undef undef undef undef undef undef undef undef undef undef undef undef undef undef undef undef undef undef undef) (by kernel_rfl) ?_
      refine wpAnyH_take (i := 4) rfl (by kernel_rfl) (by kernel_rfl) (by kernel_rfl) (fun _ _ _ h => nomatch h.1) (yields_pure (v := .slice pa n c) (by kernel_rfl) (fun _ => by kernel_rfl)) hs.P ?_
      refine wpAnyH_as (b := act11 f m pa qa n c k d p1 s p0 u33 u34 u35 u36 u37 u38 u39 u40 u41 u42 u43 u44 u45 u46 u47 u48 u49 u50 u51 u52 u53 u54 u55 u56 (pT p1) (rF f) (.int .i64 m) undef (.slice pa n c) undef undef undef undef undef undef undef undef undef undef undef undef undef undef undef undef undef undef undef undef) (by kernel_rfl) ?_
      refine wpAnyH_take (i := 7) rfl (by kernel_rfl) (by kernel_rfl) (by kernel_rfl) (fun _ _ _ h => nomatch h.1) (yields_pure (v := .pointer (some ⟨p1 + 1, 0, none⟩)) (by kernel_rfl) (fun _ => by kernel_rfl)) hs.P ?_
      refine wpAnyH_as (b := act11 f m pa qa n c k d p1 s p0 u33 u34 u35 u36 u37 u38 u39 u40 u41 u42 u43 u44 u45 u46 u47 u48 u49 u50 u51 u52 u53 u54 u55 u56 (pT p1) (rF f) (.int .i64 m) undef (.slice pa n c) undef undef (pT (p1 + 1)) undef undef undef undef undef undef undef undef undef undef undef undef undef undef undef undef undef) (by kernel_rfl) ?_
      refine wpAnyH_take (i := 8) rfl (by kernel_rfl) (by kernel_rfl) (by kernel_rfl) (fun _ _ _ h => nomatch h.1) (yields_row 93 (.tmp 4) s 300 f 93 _ (by kernel_rfl) rfl (by kernel_rfl) (fun _ h => h) Try.underlying93 rfl covSize) hs.P ?_
      refine wpAnyH_as (b := act11 f m pa qa n c k d p1 s p0 u33 u34 u35 u36 u37 u38 u39 u40 u41 u42 u43 u44 u45 u46 u47 u48 u49 u50 u51 u52 u53 u54 u55 u56 (pT p1) (rF f) (.int .i64 m) undef (.slice pa n c) undef undef (pT (p1 + 1)) (rF f) undef undef undef undef undef undef undef undef undef undef undef undef undef undef undef undef) (by kernel_rfl) ?_
      refine wpAnyH_take (i := 9) rfl (by kernel_rfl) (by kernel_rfl) (by kernel_rfl) (fun _ _ _ h => nomatch h.1) (yields_pure (v := .int .i64 m) (by kernel_rfl) (fun _ => by kernel_rfl)) hs.P ?_
      refine wpAnyH_as (b := act11 f m pa qa n c k d p1 s p0 u33 u34 u35 u36 u37 u38 u39 u40 u41 u42 u43 u44 u45 u46 u47 u48 u49 u50 u51 u52 u53 u54 u55 u56 (pT p1) (rF f) (.int .i64 m) undef (.slice pa n c) undef undef (pT (p1 + 1)) (rF f) (.int .i64 m) undef undef undef undef undef undef undef undef undef undef undef undef undef undef undef) (by kernel_rfl) ?_
      refine wpAnyH_take (i := 10) rfl (by kernel_rfl) (by kernel_rfl) (by kernel_rfl) (fun _ _ _ h => nomatch h.1) (yields_pure (v := .slice pa n c) (by kernel_rfl) (fun _ => by kernel_rfl)) hs.P ?_
      refine wpAnyH_as (b := act11 f m pa qa n c k d p1 s p0 u33 u34 u35 u36 u37 u38 u39 u40 u41 u42 u43 u44 u45 u46 u47 u48 u49 u50 u51 u52 u53 u54 u55 u56 (pT p1) (rF f) (.int .i64 m) undef (.slice pa n c) undef undef (pT (p1 + 1)) (rF f) (.int .i64 m) (.slice pa n c) undef undef undef undef undef undef undef undef undef undef undef undef undef undef) (by kernel_rfl) ?_
      refine wpAnyH_all (rs := [3]) (by kernel_rfl) (by simp) ?_
      intro j hj
      obtain rfl : j = 3 := by simpa using hj
      refine wpOp_value (by kernel_rfl) (by kernel_rfl) (w' := World.alloc W0 (.cells #[] 2)) (v := .slice (some ⟨W0.heap.size, 0, none⟩) 0 0) (by kernel_rfl) ?_
      replace hs := hs.alloc (.cells #[] 2)
      generalize World.alloc W0 _ = W1 at *
      generalize W0.heap.size = B at *
      refine ⟨hs.P, ?_⟩
      refine wpAnyH_as (b := act11 f m pa qa n c k d p1 s p0 u33 u34 u35 u36 u37 u38 u39 u40 u41 u42 u43 u44 u45 u46 u47 u48 u49 u50 u51 u52 u53 u54 u55 u56 (pT p1) (rF f) (.int .i64 m) (.slice (some ⟨B, 0, none⟩) 0 0) (.slice pa n c) undef undef (pT (p1 + 1)) (rF f) (.int .i64 m) (.slice pa n c) undef undef undef undef undef undef undef undef undef undef undef undef undef undef) (by kernel_rfl) ?_
      refine wpAnyH_all (rs := [5]) (by kernel_rfl) (by simp) ?_
      intro j hj
      obtain rfl : j = 5 := by simpa using hj
      obtain ⟨a', c', W2, hr, hb, hsl⟩ := app_all Try.underlying63 numI64 W1 63 B n c p1 pa l (by omega) (below_sl hl hs.K (by have := hs.d; omega)) hs.F1.lt
      refine wpOp_value (by kernel_rfl) (by kernel_rfl) (exec_app (.tmp 65) (.tmp 66) 63 63 (by kernel_rfl) _ _ (by kernel_rfl) (by kernel_rfl) hr) ?_
      replace hs := hs.call hb
      clear hr hb
      refine ⟨hs.P, ?_⟩
      refine wpAnyH_as (b := act11 f m pa qa n c k d p1 s p0 u33 u34 u35 u36 u37 u38 u39 u40 u41 u42 u43 u44 u45 u46 u47 u48 u49 u50 u51 u52 u53 u54 u55 u56 (pT p1) (rF f) (.int .i64 m) (.slice (some ⟨B, 0, none⟩) 0 0) (.slice pa n c) (.slice a' n c') undef (pT (p1 + 1)) (rF f) (.int .i64 m) (.slice pa n c) undef undef undef undef undef undef undef undef undef undef undef undef undef undef) (by kernel_rfl) ?_
      refine wpAnyH_all (rs := [6]) (by kernel_rfl) (by simp) ?_
      intro j hj
      obtain rfl : j = 6 := by simpa using hj
      refine wpOp_call (by kernel_rfl) (by kernel_rfl) (by kernel_rfl) (grow_any p1 0 f m a' n c' l false W2 hs.F1 hn hsl) ?_
      intro W3 kf
      replace hs := hs.flag1 kf
      clear kf hsl
      refine ⟨hs.P, ?_⟩
      refine wpAnyH_as (b := act11 f m pa qa n c k d p1 s p0 u33 u34 u35 u36 u37 u38 u39 u40 u41 u42 u43 u44 u45 u46 u47 u48 u49 u50 u51 u52 u53 u54 u55 u56 (pT p1) (rF f) (.int .i64 m) (.slice (some ⟨B, 0, none⟩) 0 0) (.slice pa n c) (.slice a' n c') (rF (growF f m l n)) (pT (p1 + 1)) (rF f) (.int .i64 m) (.slice pa n c) undef undef undef undef undef undef undef undef undef undef undef undef undef undef) (by kernel_rfl) ?_
      refine wpAnyH_all (rs := [11]) (by kernel_rfl) (by simp) ?_
      intro j hj
      obtain rfl : j = 11 := by simpa using hj
      refine wpOp_call (by kernel_rfl) (by kernel_rfl) (by kernel_rfl) (rgrow_any (p1 + 1) 0 f m pa n c l false W3 hs.F2 (by omega) (by omega) (below_sl hl hs.K (by have := hs.d; omega))) ?_
      intro W4 kf
      replace hs := hs.flag2 kf
      clear kf
      generalize (false || growH f m l n) = hh at *
      refine ⟨hs.P, ?_⟩
      refine wpAnyH_as (b := act11 f m pa qa n c k d p1 s p0 u33 u34 u35 u36 u37 u38 u39 u40 u41 u42 u43 u44 u45 u46 u47 u48 u49 u50 u51 u52 u53 u54 u55 u56 (pT p1) (rF f) (.int .i64 m) (.slice (some ⟨B, 0, none⟩) 0 0) (.slice pa n c) (.slice a' n c') (rF (growF f m l n)) (pT (p1 + 1)) (rF f) (.int .i64 m) (.slice pa n c) (rF (growF f m l n)) undef undef undef undef undef undef undef undef undef undef undef undef undef) (by kernel_rfl) ?_
      refine wpAnyH_take (i := 12) rfl (by kernel_rfl) (by kernel_rfl) (by kernel_rfl) (fun _ _ _ h => nomatch h.1) (yields_neq 93 (.tmp 68) (.tmp 73) 93 300 (growF f m l n) covFlat (by kernel_rfl) rfl (by kernel_rfl) (by kernel_rfl)) hs.P ?_
      refine wpAnyH_as (b := act11 f m pa qa n c k d p1 s p0 u33 u34 u35 u36 u37 u38 u39 u40 u41 u42 u43 u44 u45 u46 u47 u48 u49 u50 u51 u52 u53 u54 u55 u56 (pT p1) (rF f) (.int .i64 m) (.slice (some ⟨B, 0, none⟩) 0 0) (.slice pa n c) (.slice a' n c') (rF (growF f m l n)) (pT (p1 + 1)) (rF f) (.int .i64 m) (.slice pa n c) (rF (growF f m l n)) tF undef undef undef undef undef undef undef undef undef undef undef undef) (by kernel_rfl) ?_
      refine wpAnyH_take (i := 13) rfl (by kernel_rfl) (by kernel_rfl) (by kernel_rfl) (fun _ _ _ h => nomatch h.1) (yields_pure (v := .bool false) (by kernel_rfl) (fun _ => by kernel_rfl)) hs.P ?_
      refine wpAnyH_as (b := act11 f m pa qa n c k d p1 s p0 u33 u34 u35 u36 u37 u38 u39 u40 u41 u42 u43 u44 u45 u46 u47 u48 u49 u50 u51 u52 u53 u54 u55 u56 (pT p1) (rF f) (.int .i64 m) (.slice (some ⟨B, 0, none⟩) 0 0) (.slice pa n c) (.slice a' n c') (rF (growF f m l n)) (pT (p1 + 1)) (rF f) (.int .i64 m) (.slice pa n c) (rF (growF f m l n)) tF tF undef undef undef undef undef undef undef undef undef undef undef) (by kernel_rfl) ?_
      refine wpAnyH_take (i := 14) rfl (by kernel_rfl) (by kernel_rfl) (by kernel_rfl) (fun _ _ _ h => nomatch h.1) (yields_pure (v := .pointer (some ⟨p1, 0, none⟩)) (by kernel_rfl) (fun _ => by kernel_rfl)) hs.P ?_
      refine wpAnyH_as (b := act11 f m pa qa n c k d p1 s p0 u33 u34 u35 u36 u37 u38 u39 u40 u41 u42 u43 u44 u45 u46 u47 u48 u49 u50 u51 u52 u53 u54 u55 u56 (pT p1) (rF f) (.int .i64 m) (.slice (some ⟨B, 0, none⟩) 0 0) (.slice pa n c) (.slice a' n c') (rF (growF f m l n)) (pT (p1 + 1)) (rF f) (.int .i64 m) (.slice pa n c) (rF (growF f m l n)) tF tF (pT p1) undef undef undef undef undef undef undef undef undef undef) (by kernel_rfl) ?_
      refine wpAnyH_take (i := 15) rfl (by kernel_rfl) (by kernel_rfl) (by kernel_rfl) (fun _ _ _ h => nomatch h.1) (yields_pure (v := .pointer (some ⟨p1, 0, none⟩)) (by kernel_rfl) (fun _ => by kernel_rfl)) hs.P ?_
      refine wpAnyH_as (b := act11 f m pa qa n c k d p1 s p0 u33 u34 u35 u36 u37 u38 u39 u40 u41 u42 u43 u44 u45 u46 u47 u48 u49 u50 u51 u52 u53 u54 u55 u56 (pT p1) (rF f) (.int .i64 m) (.slice (some ⟨B, 0, none⟩) 0 0) (.slice pa n c) (.slice a' n c') (rF (growF f m l n)) (pT (p1 + 1)) (rF f) (.int .i64 m) (.slice pa n c) (rF (growF f m l n)) tF tF (pT p1) (pT p1) undef undef undef undef undef undef undef undef undef) (by kernel_rfl) ?_
      refine wpAnyH_take (i := 16) rfl (by kernel_rfl) (by kernel_rfl) (by kernel_rfl) (fun _ _ _ h => nomatch h.1) (yields_pure (v := .pointer (some ⟨p1, 0, none⟩)) (by kernel_rfl) (fun _ => by kernel_rfl)) hs.P ?_
      refine wpAnyH_as (b := act11 f m pa qa n c k d p1 s p0 u33 u34 u35 u36 u37 u38 u39 u40 u41 u42 u43 u44 u45 u46 u47 u48 u49 u50 u51 u52 u53 u54 u55 u56 (pT p1) (rF f) (.int .i64 m) (.slice (some ⟨B, 0, none⟩) 0 0) (.slice pa n c) (.slice a' n c') (rF (growF f m l n)) (pT (p1 + 1)) (rF f) (.int .i64 m) (.slice pa n c) (rF (growF f m l n)) tF tF (pT p1) (pT p1) (pT p1) undef undef undef undef undef undef undef undef) (by kernel_rfl) ?_
      refine wpAnyH_take (i := 18) rfl (by kernel_rfl) (by kernel_rfl) (by kernel_rfl) (fun _ _ _ h => nomatch h.1) (yields_pure (v := .pointer (some ⟨p1 + 1, 0, none⟩)) (by kernel_rfl) (fun _ => by kernel_rfl)) hs.P ?_
      refine wpAnyH_as (b := act11 f m pa qa n c k d p1 s p0 u33 u34 u35 u36 u37 u38 u39 u40 u41 u42 u43 u44 u45 u46 u47 u48 u49 u50 u51 u52 u53 u54 u55 u56 (pT p1) (rF f) (.int .i64 m) (.slice (some ⟨B, 0, none⟩) 0 0) (.slice pa n c) (.slice a' n c') (rF (growF f m l n)) (pT (p1 + 1)) (rF f) (.int .i64 m) (.slice pa n c) (rF (growF f m l n)) tF tF (pT p1) (pT p1) (pT p1) undef (pT (p1 + 1)) undef undef undef undef undef undef) (by kernel_rfl) ?_
      refine wpAnyH_take (i := 19) rfl (by kernel_rfl) (by kernel_rfl) (by kernel_rfl) (fun _ _ _ h => nomatch h.1) (yields_pure (v := .pointer (some ⟨p1 + 1, 0, none⟩)) (by kernel_rfl) (fun _ => by kernel_rfl)) hs.P ?_
      refine wpAnyH_as (b := act11 f m pa qa n c k d p1 s p0 u33 u34 u35 u36 u37 u38 u39 u40 u41 u42 u43 u44 u45 u46 u47 u48 u49 u50 u51 u52 u53 u54 u55 u56 (pT p1) (rF f) (.int .i64 m) (.slice (some ⟨B, 0, none⟩) 0 0) (.slice pa n c) (.slice a' n c') (rF (growF f m l n)) (pT (p1 + 1)) (rF f) (.int .i64 m) (.slice pa n c) (rF (growF f m l n)) tF tF (pT p1) (pT p1) (pT p1) undef (pT (p1 + 1)) (pT (p1 + 1)) undef undef undef undef undef) (by kernel_rfl) ?_
      refine wpAnyH_take (i := 20) rfl (by kernel_rfl) (by kernel_rfl) (by kernel_rfl) (fun _ _ _ h => nomatch h.1) (yields_pure (v := .pointer (some ⟨p1 + 1, 0, none⟩)) (by kernel_rfl) (fun _ => by kernel_rfl)) hs.P ?_
      refine wpAnyH_as (b := act11 f m pa qa n c k d p1 s p0 u33 u34 u35 u36 u37 u38 u39 u40 u41 u42 u43 u44 u45 u46 u47 u48 u49 u50 u51 u52 u53 u54 u55 u56 (pT p1) (rF f) (.int .i64 m) (.slice (some ⟨B, 0, none⟩) 0 0) (.slice pa n c) (.slice a' n c') (rF (growF f m l n)) (pT (p1 + 1)) (rF f) (.int .i64 m) (.slice pa n c) (rF (growF f m l n)) tF tF (pT p1) (pT p1) (pT p1) undef (pT (p1 + 1)) (pT (p1 + 1)) (pT (p1 + 1)) undef undef undef undef) (by kernel_rfl) ?_
      refine wpAnyH_take (i := 21) rfl (by kernel_rfl) (by kernel_rfl) (by kernel_rfl) (fun _ _ _ h => nomatch h.1) (yields_pure (v := .pointer (some ⟨p1 + 1, 0, none⟩)) (by kernel_rfl) (fun _ => by kernel_rfl)) hs.P ?_
      refine wpAnyH_as (b := act11 f m pa qa n c k d p1 s p0 u33 u34 u35 u36 u37 u38 u39 u40 u41 u42 u43 u44 u45 u46 u47 u48 u49 u50 u51 u52 u53 u54 u55 u56 (pT p1) (rF f) (.int .i64 m) (.slice (some ⟨B, 0, none⟩) 0 0) (.slice pa n c) (.slice a' n c') (rF (growF f m l n)) (pT (p1 + 1)) (rF f) (.int .i64 m) (.slice pa n c) (rF (growF f m l n)) tF tF (pT p1) (pT p1) (pT p1) undef (pT (p1 + 1)) (pT (p1 + 1)) (pT (p1 + 1)) (pT (p1 + 1)) undef undef undef) (by kernel_rfl) ?_
      refine wpAnyH_all (rs := [17, 22]) (by kernel_rfl) (by simp) ?_
      intro j hj
      simp only [List.mem_cons, List.not_mem_nil, or_false] at hj
      rcases hj with rfl | rfl
      · refine wpOp_value (by kernel_rfl) (by kernel_rfl) (load_bool (.tmp 78) p1 0 hh (by kernel_rfl) (by kernel_rfl) hs.F1.cell) ?_
        refine ⟨hs.P, ?_⟩
        refine wpAnyH_as (b := act11 f m pa qa n c k d p1 s p0 u33 u34 u35 u36 u37 u38 u39 u40 u41 u42 u43 u44 u45 u46 u47 u48 u49 u50 u51 u52 u53 u54 u55 u56 (pT p1) (rF f) (.int .i64 m) (.slice (some ⟨B, 0, none⟩) 0 0) (.slice pa n c) (.slice a' n c') (rF (growF f m l n)) (pT (p1 + 1)) (rF f) (.int .i64 m) (.slice pa n c) (rF (growF f m l n)) tF tF (pT p1) (pT p1) (pT p1) (.bool hh) (pT (p1 + 1)) (pT (p1 + 1)) (pT (p1 + 1)) (pT (p1 + 1)) undef undef undef) (by kernel_rfl) ?_
        refine wpAnyH_all (rs := [22]) (by kernel_rfl) (by simp) ?_
        intro j hj
        obtain rfl : j = 22 := by simpa using hj
        refine wpOp_value (by kernel_rfl) (by kernel_rfl) (load_bool (.tmp 83) (p1 + 1) 0 hh (by kernel_rfl) (by kernel_rfl) hs.F2.cell) ?_
        refine ⟨hs.P, ?_⟩
        refine wpAnyH_as (b := act11 f m pa qa n c k d p1 s p0 u33 u34 u35 u36 u37 u38 u39 u40 u41 u42 u43 u44 u45 u46 u47 u48 u49 u50 u51 u52 u53 u54 u55 u56 (pT p1) (rF f) (.int .i64 m) (.slice (some ⟨B, 0, none⟩) 0 0) (.slice pa n c) (.slice a' n c') (rF (growF f m l n)) (pT (p1 + 1)) (rF f) (.int .i64 m) (.slice pa n c) (rF (growF f m l n)) tF tF (pT p1) (pT p1) (pT p1) (.bool hh) (pT (p1 + 1)) (pT (p1 + 1)) (pT (p1 + 1)) (pT (p1 + 1)) (.bool hh) undef undef) (by kernel_rfl) ?_
        refine wpAnyH_take (i := 23) rfl (by kernel_rfl) (by kernel_rfl) (by kernel_rfl) (fun _ _ _ h => nomatch h.1) (yields_pure (v := .bool false) (by kernel_rfl) (fun _ => by cases hh <;> kernel_rfl)) hs.P ?_
        refine wpAnyH_as (b := act11 f m pa qa n c k d p1 s p0 u33 u34 u35 u36 u37 u38 u39 u40 u41 u42 u43 u44 u45 u46 u47 u48 u49 u50 u51 u52 u53 u54 u55 u56 (pT p1) (rF f) (.int .i64 m) (.slice (some ⟨B, 0, none⟩) 0 0) (.slice pa n c) (.slice a' n c') (rF (growF f m l n)) (pT (p1 + 1)) (rF f) (.int .i64 m) (.slice pa n c) (rF (growF f m l n)) tF tF (pT p1) (pT p1) (pT p1) (.bool hh) (pT (p1 + 1)) (pT (p1 + 1)) (pT (p1 + 1)) (pT (p1 + 1)) (.bool hh) tF undef) (by kernel_rfl) ?_
        refine wpAnyH_take (i := 24) rfl (by kernel_rfl) (by kernel_rfl) (by kernel_rfl) (fun _ _ _ h => nomatch h.1) (yields_pure (v := .bool false) (by kernel_rfl) (fun _ => by kernel_rfl)) hs.P ?_
        refine wpAnyH_as (b := act11 f m pa qa n c k d p1 s p0 u33 u34 u35 u36 u37 u38 u39 u40 u41 u42 u43 u44 u45 u46 u47 u48 u49 u50 u51 u52 u53 u54 u55 u56 (pT p1) (rF f) (.int .i64 m) (.slice (some ⟨B, 0, none⟩) 0 0) (.slice pa n c) (.slice a' n c') (rF (growF f m l n)) (pT (p1 + 1)) (rF f) (.int .i64 m) (.slice pa n c) (rF (growF f m l n)) tF tF (pT p1) (pT p1) (pT p1) (.bool hh) (pT (p1 + 1)) (pT (p1 + 1)) (pT (p1 + 1)) (pT (p1 + 1)) (.bool hh) tF tF) (by kernel_rfl) ?_
        refine wpAnyH_done (by kernel_rfl) ?_ _
        exact ⟨rfl, by kernel_rfl, rfl, _, _, hs⟩
      · refine wpOp_value (by kernel_rfl) (by kernel_rfl) (load_bool (.tmp 83) (p1 + 1) 0 hh (by kernel_rfl) (by kernel_rfl) hs.F2.cell) ?_
        refine ⟨hs.P, ?_⟩
        refine wpAnyH_as (b := act11 f m pa qa n c k d p1 s p0 u33 u34 u35 u36 u37 u38 u39 u40 u41 u42 u43 u44 u45 u46 u47 u48 u49 u50 u51 u52 u53 u54 u55 u56 (pT p1) (rF f) (.int .i64 m) (.slice (some ⟨B, 0, none⟩) 0 0) (.slice pa n c) (.slice a' n c') (rF (growF f m l n)) (pT (p1 + 1)) (rF f) (.int .i64 m) (.slice pa n c) (rF (growF f m l n)) tF tF (pT p1) (pT p1) (pT p1) undef (pT (p1 + 1)) (pT (p1 + 1)) (pT (p1 + 1)) (pT (p1 + 1)) (.bool hh) undef undef) (by kernel_rfl) ?_
        refine wpAnyH_all (rs := [17]) (by kernel_rfl) (by simp) ?_
        intro j hj
        obtain rfl : j = 17 := by simpa using hj
        refine wpOp_value (by kernel_rfl) (by kernel_rfl) (load_bool (.tmp 78) p1 0 hh (by kernel_rfl) (by kernel_rfl) hs.F1.cell) ?_
        refine ⟨hs.P, ?_⟩
        refine wpAnyH_as (b := act11 f m pa qa n c k d p1 s p0 u33 u34 u35 u36 u37 u38 u39 u40 u41 u42 u43 u44 u45 u46 u47 u48 u49 u50 u51 u52 u53 u54 u55 u56 (pT p1) (rF f) (.int .i64 m) (.slice (some ⟨B, 0, none⟩) 0 0) (.slice pa n c) (.slice a' n c') (rF (growF f m l n)) (pT (p1 + 1)) (rF f) (.int .i64 m) (.slice pa n c) (rF (growF f m l n)) tF tF (pT p1) (pT p1) (pT p1) (.bool hh) (pT (p1 + 1)) (pT (p1 + 1)) (pT (p1 + 1)) (pT (p1 + 1)) (.bool hh) undef undef) (by kernel_rfl) ?_
        refine wpAnyH_take (i := 23) rfl (by kernel_rfl) (by kernel_rfl) (by kernel_rfl) (fun _ _ _ h => nomatch h.1) (yields_pure (v := .bool false) (by kernel_rfl) (fun _ => by cases hh <;> kernel_rfl)) hs.P ?_
        refine wpAnyH_as (b := act11 f m pa qa n c k d p1 s p0 u33 u34 u35 u36 u37 u38 u39 u40 u41 u42 u43 u44 u45 u46 u47 u48 u49 u50 u51 u52 u53 u54 u55 u56 (pT p1) (rF f) (.int .i64 m) (.slice (some ⟨B, 0, none⟩) 0 0) (.slice pa n c) (.slice a' n c') (rF (growF f m l n)) (pT (p1 + 1)) (rF f) (.int .i64 m) (.slice pa n c) (rF (growF f m l n)) tF tF (pT p1) (pT p1) (pT p1) (.bool hh) (pT (p1 + 1)) (pT (p1 + 1)) (pT (p1 + 1)) (pT (p1 + 1)) (.bool hh) tF undef) (by kernel_rfl) ?_
        refine wpAnyH_take (i := 24) rfl (by kernel_rfl) (by kernel_rfl) (by kernel_rfl) (fun _ _ _ h => nomatch h.1) (yields_pure (v := .bool false) (by kernel_rfl) (fun _ => by kernel_rfl)) hs.P ?_
        refine wpAnyH_as (b := act11 f m pa qa n c k d p1 s p0 u33 u34 u35 u36 u37 u38 u39 u40 u41 u42 u43 u44 u45 u46 u47 u48 u49 u50 u51 u52 u53 u54 u55 u56 (pT p1) (rF f) (.int .i64 m) (.slice (some ⟨B, 0, none⟩) 0 0) (.slice pa n c) (.slice a' n c') (rF (growF f m l n)) (pT (p1 + 1)) (rF f) (.int .i64 m) (.slice pa n c) (rF (growF f m l n)) tF tF (pT p1) (pT p1) (pT p1) (.bool hh) (pT (p1 + 1)) (pT (p1 + 1)) (pT (p1 + 1)) (pT (p1 + 1)) (.bool hh) tF tF) (by kernel_rfl) ?_
        refine wpAnyH_done (by kernel_rfl) ?_ _
        exact ⟨rfl, by kernel_rfl, rfl, _, _, hs⟩
    · rintro w9 u ⟨hu, h1, h2, b9⟩
      unfold act11
      rw [hu]
      generalize u 62 = u62
      generalize u 63 = u63
      generalize u 64 = u64
      generalize u 65 = u65
      generalize u 66 = u66
      generalize u 67 = u67
      generalize u 68 = u68
      generalize u 69 = u69
      generalize u 70 = u70
      generalize u 71 = u71
      generalize u 72 = u72
      generalize u 73 = u73
      generalize u 74 = u74
      generalize u 75 = u75
      generalize u 76 = u76
      generalize u 77 = u77
      generalize u 78 = u78
      generalize u 79 = u79
      generalize u 80 = u80
      generalize u 81 = u81
      generalize u 82 = u82
      generalize u 83 = u83
      generalize u 84 = u84
      generalize u 85 = u85
      have HB := Lib.hid b9.K
      have hP := b9.P
      go_upto_region 15 with (fail)
      have b0 := Bs.new HB.out hP b9.d.2.2.2.2.2
      clear b9 hP
      generalize World.alloc (World.alloc w9 _) _ = X at *
      generalize hp3 : w9.heap.size = p2 at *
      refine wp_join [8, 91, 92, 93, 94, 95, 96, 97, 98, 99, 100, 101, 102, 103, 104, 105, 106, 107, 108, 109, 110, 111, 112, 113] (fun w' u => u 8 = .bool true ∧ ∃ h1 h2, Bs w p2 (p2 + 1) s h1 h2 f w')
        (fun u => act15 f m pa qa n c k d p2 s p0 p1 u33 u34 u35 u36 u37 u38 u39 u40 u41 u42 u43 u44 u45 u46 u47 u48 u49 u50 u51 u52 u53 u54 u55 u56 u62 u63 u64 u65 u66 u67 u68 u69 u70 u71 u72 u73 u74 u75 u76 u77 u78 u79 u80 u81 u82 u83 u84 u85 (u 8) (u 91) (u 92) (u 93) (u 94) (u 95) (u 96) (u 97) (u 98) (u 99) (u 100) (u 101) (u 102) (u 103) (u 104) (u 105) (u 106) (u 107) (u 108) (u 109) (u 110) (u 111) (u 112) (u 113)) (fun u => by kernel_rfl) ?_ ?_
      · refine wp_region_held (S := fun W => Blk W s (rowA 300 f) 93) (by kernel_rfl) ?_
        change wpAnyH _ _ _ _ _ _ _ _ (World.drew _)
        have hs := b0.drew
        clear b0
        generalize World.drew X = W0 at *
        refine wpAnyH_as (b := act15 f m pa qa n c k d p2 s p0 p1 u33 u34 u35 u36 u37 u38 u39 u40 u41 u42 u43 u44 u45 u46 u47 u48 u49 u50 u51 u52 u53 u54 u55 u56 u62 u63 u64 u65 u66 u67 u68 u69 u70 u71 u72 u73 u74 u75 u76 u77 u78 u79 u80 u81 u82 u83 u84 u85 tF undef undef undef undef undef undef undef undef undef undef undef undef undef undef undef undef undef undef undef undef undef undef undef) (by kernel_rfl) ?_
        refine wpAnyH_take (i := 0) rfl (by kernel_rfl) (by kernel_rfl) (by kernel_rfl) (fun _ _ _ h => nomatch h.1) (yields_pure (v := .pointer (some ⟨p2, 0, none⟩)) (by kernel_rfl) (fun _ => by kernel_rfl)) hs.P ?_
        refine wpAnyH_as (b := act15 f m pa qa n c k d p2 s p0 p1 u33 u34 u35 u36 u37 u38 u39 u40 u41 u42 u43 u44 u45 u46 u47 u48 u49 u50 u51 u52 u53 u54 u55 u56 u62 u63 u64 u65 u66 u67 u68 u69 u70 u71 u72 u73 u74 u75 u76 u77 u78 u79 u80 u81 u82 u83 u84 u85 tF (pT p2) undef undef undef undef undef undef undef undef undef undef undef undef undef undef undef undef undef undef undef undef undef undef) (by kernel_rfl) ?_
        refine wpAnyH_take (i := 1) rfl (by kernel_rfl) (by kernel_rfl) (by kernel_rfl) (fun _ _ _ h => nomatch h.1) (yields_row 93 (.tmp 4) s 300 f 93 _ (by kernel_rfl) rfl (by kernel_rfl) (fun _ h => h) Try.underlying93 rfl covSize) hs.P ?_
        refine wpAnyH_as (b := act15 f m pa qa n c k d p2 s p0 p1 u33 u34 u35 u36 u37 u38 u39 u40 u41 u42 u43 u44 u45 u46 u47 u48 u49 u50 u51 u52 u53 u54 u55 u56 u62 u63 u64 u65 u66 u67 u68 u69 u70 u71 u72 u73 u74 u75 u76 u77 u78 u79 u80 u81 u82 u83 u84 u85 tF (pT p2) (rF f) undef undef undef undef undef undef undef undef undef undef undef undef undef undef undef undef undef undef undef undef undef) (by kernel_rfl) ?_
        refine wpAnyH_take (i := 3) rfl (by kernel_rfl) (by kernel_rfl) (by kernel_rfl) (fun _ _ _ h => nomatch h.1) (yields_pure (v := .slice qa k d) (by kernel_rfl) (fun _ => by kernel_rfl)) hs.P ?_
        refine wpAnyH_as (b := act15 f m pa qa n c k d p2 s p0 p1 u33 u34 u35 u36 u37 u38 u39 u40 u41 u42 u43 u44 u45 u46 u47 u48 u49 u50 u51 u52 u53 u54 u55 u56 u62 u63 u64 u65 u66 u67 u68 u69 u70 u71 u72 u73 u74 u75 u76 u77 u78 u79 u80 u81 u82 u83 u84 u85 tF (pT p2) (rF f) undef (.slice qa k d) undef undef undef undef undef undef undef undef undef undef undef undef undef undef undef undef undef undef undef) (by kernel_rfl) ?_
        refine wpAnyH_take (i := 6) rfl (by kernel_rfl) (by kernel_rfl) (by kernel_rfl) (fun _ _ _ h => nomatch h.1) (yields_pure (v := .pointer (some ⟨p2 + 1, 0, none⟩)) (by kernel_rfl) (fun _ => by kernel_rfl)) hs.P ?_
        refine wpAnyH_as (b := act15 f m pa qa n c k d p2 s p0 p1 u33 u34 u35 u36 u37 u38 u39 u40 u41 u42 u43 u44 u45 u46 u47 u48 u49 u50 u51 u52 u53 u54 u55 u56 u62 u63 u64 u65 u66 u67 u68 u69 u70 u71 u72 u73 u74 u75 u76 u77 u78 u79 u80 u81 u82 u83 u84 u85 tF (pT p2) (rF f) undef (.slice qa k d) undef undef (pT (p2 + 1)) undef undef undef undef undef undef undef undef undef undef undef undef undef undef undef undef) (by kernel_rfl) ?_
        refine wpAnyH_take (i := 7) rfl (by kernel_rfl) (by kernel_rfl) (by kernel_rfl) (fun _ _ _ h => nomatch h.1) (yields_row 93 (.tmp 4) s 300 f 93 _ (by kernel_rfl) rfl (by kernel_rfl) (fun _ h => h) Try.underlying93 rfl covSize) hs.P ?_
        refine wpAnyH_as (b := act15 f m pa qa n c k d p2 s p0 p1 u33 u34 u35 u36 u37 u38 u39 u40 u41 u42 u43 u44 u45 u46 u47 u48 u49 u50 u51 u52 u53 u54 u55 u56 u62 u63 u64 u65 u66 u67 u68 u69 u70 u71 u72 u73 u74 u75 u76 u77 u78 u79 u80 u81 u82 u83 u84 u85 tF (pT p2) (rF f) undef (.slice qa k d) undef undef (pT (p2 + 1)) (rF f) undef undef undef undef undef undef undef undef undef undef undef undef undef undef undef) (by kernel_rfl) ?_
        refine wpAnyH_take (i := 8) rfl (by kernel_rfl) (by kernel_rfl) (by kernel_rfl) (fun _ _ _ h => nomatch h.1) (yields_pure (v := .slice qa k d) (by kernel_rfl) (fun _ => by kernel_rfl)) hs.P ?_
        refine wpAnyH_as (b := act15 f m pa qa n c k d p2 s p0 p1 u33 u34 u35 u36 u37 u38 u39 u40 u41 u42 u43 u44 u45 u46 u47 u48 u49 u50 u51 u52 u53 u54 u55 u56 u62 u63 u64 u65 u66 u67 u68 u69 u70 u71 u72 u73 u74 u75 u76 u77 u78 u79 u80 u81 u82 u83 u84 u85 tF (pT p2) (rF f) undef (.slice qa k d) undef undef (pT (p2 + 1)) (rF f) (.slice qa k d) undef undef undef undef undef undef undef undef undef undef undef undef undef undef) (by kernel_rfl) ?_
        refine wpAnyH_all (rs := [2]) (by kernel_rfl) (by simp) ?_
        intro j hj
        obtain rfl : j = 2 := by simpa using hj
        refine wpOp_value (by kernel_rfl) (by kernel_rfl) (w' := World.alloc W0 (.cells #[] 3)) (v := .slice (some ⟨W0.heap.size, 0, none⟩) 0 0) (by kernel_rfl) ?_
        replace hs := hs.alloc (.cells #[] 3)
        generalize World.alloc W0 _ = W1 at *
        generalize W0.heap.size = B at *
        refine ⟨hs.P, ?_⟩
        refine wpAnyH_as (b := act15 f m pa qa n c k d p2 s p0 p1 u33 u34 u35 u36 u37 u38 u39 u40 u41 u42 u43 u44 u45 u46 u47 u48 u49 u50 u51 u52 u53 u54 u55 u56 u62 u63 u64 u65 u66 u67 u68 u69 u70 u71 u72 u73 u74 u75 u76 u77 u78 u79 u80 u81 u82 u83 u84 u85 tF (pT p2) (rF f) (.slice (some ⟨B, 0, none⟩) 0 0) (.slice qa k d) undef undef (pT (p2 + 1)) (rF f) (.slice qa k d) undef undef undef undef undef undef undef undef undef undef undef undef undef undef) (by kernel_rfl) ?_
        refine wpAnyH_all (rs := [4]) (by kernel_rfl) (by simp) ?_
        intro j hj
        obtain rfl : j = 4 := by simpa using hj
        obtain ⟨a', c', W2, hr, hb, hsl⟩ := app_all Try.underlying114 numInt W1 114 B k d p2 qa who (by omega) (below_sl hq hs.K (by have := hs.d; omega)) hs.F1.lt
        refine wpOp_value (by kernel_rfl) (by kernel_rfl) (exec_app (.tmp 93) (.tmp 94) 114 114 (by kernel_rfl) _ _ (by kernel_rfl) (by kernel_rfl) hr) ?_
        replace hs := hs.call hb
        clear hr hb
        refine ⟨hs.P, ?_⟩
        refine wpAnyH_as (b := act15 f m pa qa n c k d p2 s p0 p1 u33 u34 u35 u36 u37 u38 u39 u40 u41 u42 u43 u44 u45 u46 u47 u48 u49 u50 u51 u52 u53 u54 u55 u56 u62 u63 u64 u65 u66 u67 u68 u69 u70 u71 u72 u73 u74 u75 u76 u77 u78 u79 u80 u81 u82 u83 u84 u85 tF (pT p2) (rF f) (.slice (some ⟨B, 0, none⟩) 0 0) (.slice qa k d) (.slice a' k c') undef (pT (p2 + 1)) (rF f) (.slice qa k d) undef undef undef undef undef undef undef undef undef undef undef undef undef undef) (by kernel_rfl) ?_
        refine wpAnyH_all (rs := [5]) (by kernel_rfl) (by simp) ?_
        intro j hj
        obtain rfl : j = 5 := by simpa using hj
        refine wpOp_call (by kernel_rfl) (by kernel_rfl) (by kernel_rfl) (forget_any p2 0 f a' k c' who false W2 hs.F1 hk hsl) ?_
        intro W3 kf
        replace hs := hs.flag1 kf
        clear kf hsl
        refine ⟨hs.P, ?_⟩
        refine wpAnyH_as (b := act15 f m pa qa n c k d p2 s p0 p1 u33 u34 u35 u36 u37 u38 u39 u40 u41 u42 u43 u44 u45 u46 u47 u48 u49 u50 u51 u52 u53 u54 u55 u56 u62 u63 u64 u65 u66 u67 u68 u69 u70 u71 u72 u73 u74 u75 u76 u77 u78 u79 u80 u81 u82 u83 u84 u85 tF (pT p2) (rF f) (.slice (some ⟨B, 0, none⟩) 0 0) (.slice qa k d) (.slice a' k c') (rF (forgetF f who k)) (pT (p2 + 1)) (rF f) (.slice qa k d) undef undef undef undef undef undef undef undef undef undef undef undef undef undef) (by kernel_rfl) ?_
        refine wpAnyH_all (rs := [9]) (by kernel_rfl) (by simp) ?_
        intro j hj
        obtain rfl : j = 9 := by simpa using hj
        refine wpOp_call (by kernel_rfl) (by kernel_rfl) (by kernel_rfl) (rforget_any (p2 + 1) 0 f qa k d who false W3 hs.F2 hk (below_sl hq hs.K (by have := hs.d; omega))) ?_
        intro W4 kf
        replace hs := hs.flag2 kf
        clear kf
        generalize (false || forgetH f who k) = hh at *
        refine ⟨hs.P, ?_⟩
        refine wpAnyH_as (b := act15 f m pa qa n c k d p2 s p0 p1 u33 u34 u35 u36 u37 u38 u39 u40 u41 u42 u43 u44 u45 u46 u47 u48 u49 u50 u51 u52 u53 u54 u55 u56 u62 u63 u64 u65 u66 u67 u68 u69 u70 u71 u72 u73 u74 u75 u76 u77 u78 u79 u80 u81 u82 u83 u84 u85 tF (pT p2) (rF f) (.slice (some ⟨B, 0, none⟩) 0 0) (.slice qa k d) (.slice a' k c') (rF (forgetF f who k)) (pT (p2 + 1)) (rF f) (.slice qa k d) (rF (forgetF f who k)) undef undef undef undef undef undef undef undef undef undef undef undef undef) (by kernel_rfl) ?_
        refine wpAnyH_take (i := 10) rfl (by kernel_rfl) (by kernel_rfl) (by kernel_rfl) (fun _ _ _ h => nomatch h.1) (yields_eql 93 (.tmp 96) (.tmp 100) 93 300 (forgetF f who k) covFlat (by kernel_rfl) rfl (by kernel_rfl) (by kernel_rfl)) hs.P ?_
        refine wpAnyH_as (b := act15 f m pa qa n c k d p2 s p0 p1 u33 u34 u35 u36 u37 u38 u39 u40 u41 u42 u43 u44 u45 u46 u47 u48 u49 u50 u51 u52 u53 u54 u55 u56 u62 u63 u64 u65 u66 u67 u68 u69 u70 u71 u72 u73 u74 u75 u76 u77 u78 u79 u80 u81 u82 u83 u84 u85 tF (pT p2) (rF f) (.slice (some ⟨B, 0, none⟩) 0 0) (.slice qa k d) (.slice a' k c') (rF (forgetF f who k)) (pT (p2 + 1)) (rF f) (.slice qa k d) (rF (forgetF f who k)) tT undef undef undef undef undef undef undef undef undef undef undef undef) (by kernel_rfl) ?_
        refine wpAnyH_take (i := 11) rfl (by kernel_rfl) (by kernel_rfl) (by kernel_rfl) (fun _ _ _ h => nomatch h.1) (yields_pure (v := .bool true) (by kernel_rfl) (fun _ => by kernel_rfl)) hs.P ?_
        refine wpAnyH_as (b := act15 f m pa qa n c k d p2 s p0 p1 u33 u34 u35 u36 u37 u38 u39 u40 u41 u42 u43 u44 u45 u46 u47 u48 u49 u50 u51 u52 u53 u54 u55 u56 u62 u63 u64 u65 u66 u67 u68 u69 u70 u71 u72 u73 u74 u75 u76 u77 u78 u79 u80 u81 u82 u83 u84 u85 tF (pT p2) (rF f) (.slice (some ⟨B, 0, none⟩) 0 0) (.slice qa k d) (.slice a' k c') (rF (forgetF f who k)) (pT (p2 + 1)) (rF f) (.slice qa k d) (rF (forgetF f who k)) tT tT undef undef undef undef undef undef undef undef undef undef undef) (by kernel_rfl) ?_
        refine wpAnyH_take (i := 12) rfl (by kernel_rfl) (by kernel_rfl) (by kernel_rfl) (fun _ _ _ h => nomatch h.1) (yields_pure (v := .pointer (some ⟨p2, 0, none⟩)) (by kernel_rfl) (fun _ => by kernel_rfl)) hs.P ?_
        refine wpAnyH_as (b := act15 f m pa qa n c k d p2 s p0 p1 u33 u34 u35 u36 u37 u38 u39 u40 u41 u42 u43 u44 u45 u46 u47 u48 u49 u50 u51 u52 u53 u54 u55 u56 u62 u63 u64 u65 u66 u67 u68 u69 u70 u71 u72 u73 u74 u75 u76 u77 u78 u79 u80 u81 u82 u83 u84 u85 tF (pT p2) (rF f) (.slice (some ⟨B, 0, none⟩) 0 0) (.slice qa k d) (.slice a' k c') (rF (forgetF f who k)) (pT (p2 + 1)) (rF f) (.slice qa k d) (rF (forgetF f who k)) tT tT (pT p2) undef undef undef undef undef undef undef undef undef undef) (by kernel_rfl) ?_
        refine wpAnyH_take (i := 13) rfl (by kernel_rfl) (by kernel_rfl) (by kernel_rfl) (fun _ _ _ h => nomatch h.1) (yields_pure (v := .pointer (some ⟨p2, 0, none⟩)) (by kernel_rfl) (fun _ => by kernel_rfl)) hs.P ?_
        refine wpAnyH_as (b := act15 f m pa qa n c k d p2 s p0 p1 u33 u34 u35 u36 u37 u38 u39 u40 u41 u42 u43 u44 u45 u46 u47 u48 u49 u50 u51 u52 u53 u54 u55 u56 u62 u63 u64 u65 u66 u67 u68 u69 u70 u71 u72 u73 u74 u75 u76 u77 u78 u79 u80 u81 u82 u83 u84 u85 tF (pT p2) (rF f) (.slice (some ⟨B, 0, none⟩) 0 0) (.slice qa k d) (.slice a' k c') (rF (forgetF f who k)) (pT (p2 + 1)) (rF f) (.slice qa k d) (rF (forgetF f who k)) tT tT (pT p2) (pT p2) undef undef undef undef undef undef undef undef undef) (by kernel_rfl) ?_
        refine wpAnyH_take (i := 14) rfl (by kernel_rfl) (by kernel_rfl) (by kernel_rfl) (fun _ _ _ h => nomatch h.1) (yields_pure (v := .pointer (some ⟨p2, 0, none⟩)) (by kernel_rfl) (fun _ => by kernel_rfl)) hs.P ?_
        refine wpAnyH_as (b := act15 f m pa qa n c k d p2 s p0 p1 u33 u34 u35 u36 u37 u38 u39 u40 u41 u42 u43 u44 u45 u46 u47 u48 u49 u50 u51 u52 u53 u54 u55 u56 u62 u63 u64 u65 u66 u67 u68 u69 u70 u71 u72 u73 u74 u75 u76 u77 u78 u79 u80 u81 u82 u83 u84 u85 tF (pT p2) (rF f) (.slice (some ⟨B, 0, none⟩) 0 0) (.slice qa k d) (.slice a' k c') (rF (forgetF f who k)) (pT (p2 + 1)) (rF f) (.slice qa k d) (rF (forgetF f who k)) tT tT (pT p2) (pT p2) (pT p2) undef undef undef undef undef undef undef undef) (by kernel_rfl) ?_
        refine wpAnyH_take (i := 16) rfl (by kernel_rfl) (by kernel_rfl) (by kernel_rfl) (fun _ _ _ h => nomatch h.1) (yields_pure (v := .pointer (some ⟨p2 + 1, 0, none⟩)) (by kernel_rfl) (fun _ => by kernel_rfl)) hs.P ?_
        refine wpAnyH_as (b := act15 f m pa qa n c k d p2 s p0 p1 u33 u34 u35 u36 u37 u38 u39 u40 u41 u42 u43 u44 u45 u46 u47 u48 u49 u50 u51 u52 u53 u54 u55 u56 u62 u63 u64 u65 u66 u67 u68 u69 u70 u71 u72 u73 u74 u75 u76 u77 u78 u79 u80 u81 u82 u83 u84 u85 tF (pT p2) (rF f) (.slice (some ⟨B, 0, none⟩) 0 0) (.slice qa k d) (.slice a' k c') (rF (forgetF f who k)) (pT (p2 + 1)) (rF f) (.slice qa k d) (rF (forgetF f who k)) tT tT (pT p2) (pT p2) (pT p2) undef (pT (p2 + 1)) undef undef undef undef undef undef) (by kernel_rfl) ?_
        refine wpAnyH_take (i := 17) rfl (by kernel_rfl) (by kernel_rfl) (by kernel_rfl) (fun _ _ _ h => nomatch h.1) (yields_pure (v := .pointer (some ⟨p2 + 1, 0, none⟩)) (by kernel_rfl) (fun _ => by kernel_rfl)) hs.P ?_
        refine wpAnyH_as (b := act15 f m pa qa n c k d p2 s p0 p1 u33 u34 u35 u36 u37 u38 u39 u40 u41 u42 u43 u44 u45 u46 u47 u48 u49 u50 u51 u52 u53 u54 u55 u56 u62 u63 u64 u65 u66 u67 u68 u69 u70 u71 u72 u73 u74 u75 u76 u77 u78 u79 u80 u81 u82 u83 u84 u85 tF (pT p2) (rF f) (.slice (some ⟨B, 0, none⟩) 0 0) (.slice qa k d) (.slice a' k c') (rF (forgetF f who k)) (pT (p2 + 1)) (rF f) (.slice qa k d) (rF (forgetF f who k)) tT tT (pT p2) (pT p2) (pT p2) undef (pT (p2 + 1)) (pT (p2 + 1)) undef undef undef undef undef) (by kernel_rfl) ?_
        refine wpAnyH_take (i := 18) rfl (by kernel_rfl) (by kernel_rfl) (by kernel_rfl) (fun _ _ _ h => nomatch h.1) (yields_pure (v := .pointer (some ⟨p2 + 1, 0, none⟩)) (by kernel_rfl) (fun _ => by kernel_rfl)) hs.P ?_
        refine wpAnyH_as (b := act15 f m pa qa n c k d p2 s p0 p1 u33 u34 u35 u36 u37 u38 u39 u40 u41 u42 u43 u44 u45 u46 u47 u48 u49 u50 u51 u52 u53 u54 u55 u56 u62 u63 u64 u65 u66 u67 u68 u69 u70 u71 u72 u73 u74 u75 u76 u77 u78 u79 u80 u81 u82 u83 u84 u85 tF (pT p2) (rF f) (.slice (some ⟨B, 0, none⟩) 0 0) (.slice qa k d) (.slice a' k c') (rF (forgetF f who k)) (pT (p2 + 1)) (rF f) (.slice qa k d) (rF (forgetF f who k)) tT tT (pT p2) (pT p2) (pT p2) undef (pT (p2 + 1)) (pT (p2 + 1)) (pT (p2 + 1)) undef undef undef undef) (by kernel_rfl) ?_
        refine wpAnyH_take (i := 19) rfl (by kernel_rfl) (by kernel_rfl) (by kernel_rfl) (fun _ _ _ h => nomatch h.1) (yields_pure (v := .pointer (some ⟨p2 + 1, 0, none⟩)) (by kernel_rfl) (fun _ => by kernel_rfl)) hs.P ?_
        refine wpAnyH_as (b := act15 f m pa qa n c k d p2 s p0 p1 u33 u34 u35 u36 u37 u38 u39 u40 u41 u42 u43 u44 u45 u46 u47 u48 u49 u50 u51 u52 u53 u54 u55 u56 u62 u63 u64 u65 u66 u67 u68 u69 u70 u71 u72 u73 u74 u75 u76 u77 u78 u79 u80 u81 u82 u83 u84 u85 tF (pT p2) (rF f) (.slice (some ⟨B, 0, none⟩) 0 0) (.slice qa k d) (.slice a' k c') (rF (forgetF f who k)) (pT (p2 + 1)) (rF f) (.slice qa k d) (rF (forgetF f who k)) tT tT (pT p2) (pT p2) (pT p2) undef (pT (p2 + 1)) (pT (p2 + 1)) (pT (p2 + 1)) (pT (p2 + 1)) undef undef undef) (by kernel_rfl) ?_
        refine wpAnyH_all (rs := [15, 20]) (by kernel_rfl) (by simp) ?_
        intro j hj
        simp only [List.mem_cons, List.not_mem_nil, or_false] at hj
        rcases hj with rfl | rfl
        · refine wpOp_value (by kernel_rfl) (by kernel_rfl) (load_bool (.tmp 105) p2 0 hh (by kernel_rfl) (by kernel_rfl) hs.F1.cell) ?_
          refine ⟨hs.P, ?_⟩
          refine wpAnyH_as (b := act15 f m pa qa n c k d p2 s p0 p1 u33 u34 u35 u36 u37 u38 u39 u40 u41 u42 u43 u44 u45 u46 u47 u48 u49 u50 u51 u52 u53 u54 u55 u56 u62 u63 u64 u65 u66 u67 u68 u69 u70 u71 u72 u73 u74 u75 u76 u77 u78 u79 u80 u81 u82 u83 u84 u85 tF (pT p2) (rF f) (.slice (some ⟨B, 0, none⟩) 0 0) (.slice qa k d) (.slice a' k c') (rF (forgetF f who k)) (pT (p2 + 1)) (rF f) (.slice qa k d) (rF (forgetF f who k)) tT tT (pT p2) (pT p2) (pT p2) (.bool hh) (pT (p2 + 1)) (pT (p2 + 1)) (pT (p2 + 1)) (pT (p2 + 1)) undef undef undef) (by kernel_rfl) ?_
          refine wpAnyH_all (rs := [20]) (by kernel_rfl) (by simp) ?_
          intro j hj
          obtain rfl : j = 20 := by simpa using hj
          refine wpOp_value (by kernel_rfl) (by kernel_rfl) (load_bool (.tmp 110) (p2 + 1) 0 hh (by kernel_rfl) (by kernel_rfl) hs.F2.cell) ?_
          refine ⟨hs.P, ?_⟩
          refine wpAnyH_as (b := act15 f m pa qa n c k d p2 s p0 p1 u33 u34 u35 u36 u37 u38 u39 u40 u41 u42 u43 u44 u45 u46 u47 u48 u49 u50 u51 u52 u53 u54 u55 u56 u62 u63 u64 u65 u66 u67 u68 u69 u70 u71 u72 u73 u74 u75 u76 u77 u78 u79 u80 u81 u82 u83 u84 u85 tF (pT p2) (rF f) (.slice (some ⟨B, 0, none⟩) 0 0) (.slice qa k d) (.slice a' k c') (rF (forgetF f who k)) (pT (p2 + 1)) (rF f) (.slice qa k d) (rF (forgetF f who k)) tT tT (pT p2) (pT p2) (pT p2) (.bool hh) (pT (p2 + 1)) (pT (p2 + 1)) (pT (p2 + 1)) (pT (p2 + 1)) (.bool hh) undef undef) (by kernel_rfl) ?_
          refine wpAnyH_take (i := 21) rfl (by kernel_rfl) (by kernel_rfl) (by kernel_rfl) (fun _ _ _ h => nomatch h.1) (yields_pure (v := .bool true) (by kernel_rfl) (fun _ => by cases hh <;> kernel_rfl)) hs.P ?_
          refine wpAnyH_as (b := act15 f m pa qa n c k d p2 s p0 p1 u33 u34 u35 u36 u37 u38 u39 u40 u41 u42 u43 u44 u45 u46 u47 u48 u49 u50 u51 u52 u53 u54 u55 u56 u62 u63 u64 u65 u66 u67 u68 u69 u70 u71 u72 u73 u74 u75 u76 u77 u78 u79 u80 u81 u82 u83 u84 u85 tF (pT p2) (rF f) (.slice (some ⟨B, 0, none⟩) 0 0) (.slice qa k d) (.slice a' k c') (rF (forgetF f who k)) (pT (p2 + 1)) (rF f) (.slice qa k d) (rF (forgetF f who k)) tT tT (pT p2) (pT p2) (pT p2) (.bool hh) (pT (p2 + 1)) (pT (p2 + 1)) (pT (p2 + 1)) (pT (p2 + 1)) (.bool hh) tT undef) (by kernel_rfl) ?_
          refine wpAnyH_take (i := 22) rfl (by kernel_rfl) (by kernel_rfl) (by kernel_rfl) (fun _ _ _ h => nomatch h.1) (yields_pure (v := .bool true) (by kernel_rfl) (fun _ => by kernel_rfl)) hs.P ?_
          refine wpAnyH_as (b := act15 f m pa qa n c k d p2 s p0 p1 u33 u34 u35 u36 u37 u38 u39 u40 u41 u42 u43 u44 u45 u46 u47 u48 u49 u50 u51 u52 u53 u54 u55 u56 u62 u63 u64 u65 u66 u67 u68 u69 u70 u71 u72 u73 u74 u75 u76 u77 u78 u79 u80 u81 u82 u83 u84 u85 tF (pT p2) (rF f) (.slice (some ⟨B, 0, none⟩) 0 0) (.slice qa k d) (.slice a' k c') (rF (forgetF f who k)) (pT (p2 + 1)) (rF f) (.slice qa k d) (rF (forgetF f who k)) tT tT (pT p2) (pT p2) (pT p2) (.bool hh) (pT (p2 + 1)) (pT (p2 + 1)) (pT (p2 + 1)) (pT (p2 + 1)) (.bool hh) tT tT) (by kernel_rfl) ?_
          refine wpAnyH_take (i := 23) rfl (by kernel_rfl) (by kernel_rfl) (by kernel_rfl) (fun _ _ _ h => nomatch h.1) (yields_pure (v := .bool true) (by kernel_rfl) (fun _ => by kernel_rfl)) hs.P ?_
          refine wpAnyH_as (b := act15 f m pa qa n c k d p2 s p0 p1 u33 u34 u35 u36 u37 u38 u39 u40 u41 u42 u43 u44 u45 u46 u47 u48 u49 u50 u51 u52 u53 u54 u55 u56 u62 u63 u64 u65 u66 u67 u68 u69 u70 u71 u72 u73 u74 u75 u76 u77 u78 u79 u80 u81 u82 u83 u84 u85 tT (pT p2) (rF f) (.slice (some ⟨B, 0, none⟩) 0 0) (.slice qa k d) (.slice a' k c') (rF (forgetF f who k)) (pT (p2 + 1)) (rF f) (.slice qa k d) (rF (forgetF f who k)) tT tT (pT p2) (pT p2) (pT p2) (.bool hh) (pT (p2 + 1)) (pT (p2 + 1)) (pT (p2 + 1)) (pT (p2 + 1)) (.bool hh) tT tT) (by kernel_rfl) ?_
          refine wpAnyH_done (by kernel_rfl) ?_ _
          exact ⟨rfl, by kernel_rfl, rfl, _, _, hs⟩
        · refine wpOp_value (by kernel_rfl) (by kernel_rfl) (load_bool (.tmp 110) (p2 + 1) 0 hh (by kernel_rfl) (by kernel_rfl) hs.F2.cell) ?_
          refine ⟨hs.P, ?_⟩
          refine wpAnyH_as (b := act15 f m pa qa n c k d p2 s p0 p1 u33 u34 u35 u36 u37 u38 u39 u40 u41 u42 u43 u44 u45 u46 u47 u48 u49 u50 u51 u52 u53 u54 u55 u56 u62 u63 u64 u65 u66 u67 u68 u69 u70 u71 u72 u73 u74 u75 u76 u77 u78 u79 u80 u81 u82 u83 u84 u85 tF (pT p2) (rF f) (.slice (some ⟨B, 0, none⟩) 0 0) (.slice qa k d) (.slice a' k c') (rF (forgetF f who k)) (pT (p2 + 1)) (rF f) (.slice qa k d) (rF (forgetF f who k)) tT tT (pT p2) (pT p2) (pT p2) undef (pT (p2 + 1)) (pT (p2 + 1)) (pT (p2 + 1)) (pT (p2 + 1)) (.bool hh) undef undef) (by kernel_rfl) ?_
          refine wpAnyH_all (rs := [15]) (by kernel_rfl) (by simp) ?_
          intro j hj
          obtain rfl : j = 15 := by simpa using hj
          refine wpOp_value (by kernel_rfl) (by kernel_rfl) (load_bool (.tmp 105) p2 0 hh (by kernel_rfl) (by kernel_rfl) hs.F1.cell) ?_
          refine ⟨hs.P, ?_⟩
          refine wpAnyH_as (b := act15 f m pa qa n c k d p2 s p0 p1 u33 u34 u35 u36 u37 u38 u39 u40 u41 u42 u43 u44 u45 u46 u47 u48 u49 u50 u51 u52 u53 u54 u55 u56 u62 u63 u64 u65 u66 u67 u68 u69 u70 u71 u72 u73 u74 u75 u76 u77 u78 u79 u80 u81 u82 u83 u84 u85 tF (pT p2) (rF f) (.slice (some ⟨B, 0, none⟩) 0 0) (.slice qa k d) (.slice a' k c') (rF (forgetF f who k)) (pT (p2 + 1)) (rF f) (.slice qa k d) (rF (forgetF f who k)) tT tT (pT p2) (pT p2) (pT p2) (.bool hh) (pT (p2 + 1)) (pT (p2 + 1)) (pT (p2 + 1)) (pT (p2 + 1)) (.bool hh) undef undef) (by kernel_rfl) ?_
          refine wpAnyH_take (i := 21) rfl (by kernel_rfl) (by kernel_rfl) (by kernel_rfl) (fun _ _ _ h => nomatch h.1) (yields_pure (v := .bool true) (by kernel_rfl) (fun _ => by cases hh <;> kernel_rfl)) hs.P ?_
          refine wpAnyH_as (b := act15 f m pa qa n c k d p2 s p0 p1 u33 u34 u35 u36 u37 u38 u39 u40 u41 u42 u43 u44 u45 u46 u47 u48 u49 u50 u51 u52 u53 u54 u55 u56 u62 u63 u64 u65 u66 u67 u68 u69 u70 u71 u72 u73 u74 u75 u76 u77 u78 u79 u80 u81 u82 u83 u84 u85 tF (pT p2) (rF f) (.slice (some ⟨B, 0, none⟩) 0 0) (.slice qa k d) (.slice a' k c') (rF (forgetF f who k)) (pT (p2 + 1)) (rF f) (.slice qa k d) (rF (forgetF f who k)) tT tT (pT p2) (pT p2) (pT p2) (.bool hh) (pT (p2 + 1)) (pT (p2 + 1)) (pT (p2 + 1)) (pT (p2 + 1)) (.bool hh) tT undef) (by kernel_rfl) ?_
          refine wpAnyH_take (i := 22) rfl (by kernel_rfl) (by kernel_rfl) (by kernel_rfl) (fun _ _ _ h => nomatch h.1) (yields_pure (v := .bool true) (by kernel_rfl) (fun _ => by kernel_rfl)) hs.P ?_
          refine wpAnyH_as (b := act15 f m pa qa n c k d p2 s p0 p1 u33 u34 u35 u36 u37 u38 u39 u40 u41 u42 u43 u44 u45 u46 u47 u48 u49 u50 u51 u52 u53 u54 u55 u56 u62 u63 u64 u65 u66 u67 u68 u69 u70 u71 u72 u73 u74 u75 u76 u77 u78 u79 u80 u81 u82 u83 u84 u85 tF (pT p2) (rF f) (.slice (some ⟨B, 0, none⟩) 0 0) (.slice qa k d) (.slice a' k c') (rF (forgetF f who k)) (pT (p2 + 1)) (rF f) (.slice qa k d) (rF (forgetF f who k)) tT tT (pT p2) (pT p2) (pT p2) (.bool hh) (pT (p2 + 1)) (pT (p2 + 1)) (pT (p2 + 1)) (pT (p2 + 1)) (.bool hh) tT tT) (by kernel_rfl) ?_
          refine wpAnyH_take (i := 23) rfl (by kernel_rfl) (by kernel_rfl) (by kernel_rfl) (fun _ _ _ h => nomatch h.1) (yields_pure (v := .bool true) (by kernel_rfl) (fun _ => by kernel_rfl)) hs.P ?_
          refine wpAnyH_as (b := act15 f m pa qa n c k d p2 s p0 p1 u33 u34 u35 u36 u37 u38 u39 u40 u41 u42 u43 u44 u45 u46 u47 u48 u49 u50 u51 u52 u53 u54 u55 u56 u62 u63 u64 u65 u66 u67 u68 u69 u70 u71 u72 u73 u74 u75 u76 u77 u78 u79 u80 u81 u82 u83 u84 u85 tT (pT p2) (rF f) (.slice (some ⟨B, 0, none⟩) 0 0) (.slice qa k d) (.slice a' k c') (rF (forgetF f who k)) (pT (p2 + 1)) (rF f) (.slice qa k d) (rF (forgetF f who k)) tT tT (pT p2) (pT p2) (pT p2) (.bool hh) (pT (p2 + 1)) (pT (p2 + 1)) (pT (p2 + 1)) (pT (p2 + 1)) (.bool hh) tT tT) (by kernel_rfl) ?_
          refine wpAnyH_done (by kernel_rfl) ?_ _
          exact ⟨rfl, by kernel_rfl, rfl, _, _, hs⟩
      · rintro w9 u ⟨hu, h1, h2, b9⟩
        unfold act15
        rw [hu]
        generalize u 91 = u91
        generalize u 92 = u92
        generalize u 93 = u93
        generalize u 94 = u94
        generalize u 95 = u95
        generalize u 96 = u96
        generalize u 97 = u97
        generalize u 98 = u98
        generalize u 99 = u99
        generalize u 100 = u100
        generalize u 101 = u101
        generalize u 102 = u102
        generalize u 103 = u103
        generalize u 104 = u104
        generalize u 105 = u105
        generalize u 106 = u106
        generalize u 107 = u107
        generalize u 108 = u108
        generalize u 109 = u109
        generalize u 110 = u110
        generalize u 111 = u111
        generalize u 112 = u112
        generalize u 113 = u113
        go_wp2_with fail
        go_ret
        exact ⟨rfl, b9.K⟩
end Go.Proofs.Ytfkeljolpcbbkaa.blockSays
