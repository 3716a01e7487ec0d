/- The runner: all operations that yield a value whatever the memory; loads. -/
import Derived.Test.YtahedampmjfoeaaSxF
namespace Go.Proofs.Ytahedampmjfoeaa.SX
open Go
section
variable {P : Program} {U : Nat → List Int → Int} {X : FuncId → Nat} {g : Sg}
theorem guard_int (op : BinOp) (ty : TypeId) (x y : Operand) (k : IntKind) (n : Int) (v : Value) (w : World) : (eqGuard op ty x y (.int k n) v).run P w = .ok () w := by
  rw [eqGuard_at_int]; rfl
theorem guard_bool (op : BinOp) (ty : TypeId) (x y : Operand) (b : Bool) (v : Value) (w : World) : (eqGuard op ty x y (.bool b) v).run P w = .ok () w := by
  rw [eqGuard_at_bool]; rfl
theorem binOpA_ok {op : BinOp} {ty : TypeId} {x y v : V} {st st' : St} (h : binOpA P U op ty x y st = some (v, st')) (hg : Good U g st') :
    Good U g st ∧ Same st st' ∧ ∀ r vx vy, x.Den g r vx → y.Den g r vy → ∃ u, v.Den g r u ∧ ∀ (xo yo : Operand) w, (do eqGuard op ty xo yo vx vy; binOp op ty vx vy : Sem Value).run P w = .ok u w := by
  unfold binOpA at h
  split at h
  · rename_i k a k' b
    split at h
    · obtain ⟨h1, h2, _, h3⟩ := shOp_ok (P := P) (k' := k') h hg
      refine ⟨h1, h2, fun r vx vy hx hy => ?_⟩
      have hin := den_in hx
      obtain rfl := den_i hx
      obtain rfl := den_i hy
      obtain ⟨u, hu, hr⟩ := h3 hin r
      exact ⟨u, hu, fun xo yo w => by rw [Sem.run_bind, guard_int]; exact hr ty w⟩
    · obtain ⟨h1, h2, _, h3⟩ := shOp_ok (P := P) (k' := k') h hg
      refine ⟨h1, h2, fun r vx vy hx hy => ?_⟩
      have hin := den_in hx
      obtain rfl := den_i hx
      obtain rfl := den_i hy
      obtain ⟨u, hu, hr⟩ := h3 hin r
      exact ⟨u, hu, fun xo yo w => by rw [Sem.run_bind, guard_int]; exact hr ty w⟩
    · rename_i hs1 hs2
      split at h
      · rename_i hk
        subst hk
        obtain ⟨h1, h2, h3⟩ := intOp_ok (P := P) (fun e => hs1 e) (fun e => hs2 e) h hg
        refine ⟨h1, h2, fun r vx vy hx hy => ?_⟩
        have hin := den_in hx
        obtain rfl := den_i hx
        obtain rfl := den_i hy
        obtain ⟨u, hu, hr⟩ := h3 hin r
        exact ⟨u, hu, fun xo yo w => by rw [Sem.run_bind, guard_int]; exact hr ty w⟩
      · cases h
  · rename_i a b
    split at h
    · rename_i hu
      have heq : ∀ (p q : Bool) w, (Op.equal ty (.bool p) (.bool q)).run P w = .ok (p == q) w := fun p q w => by
        show (Op.equalIn (9999 + 1) ty (.bool p) (.bool q)).run P w = _
        unfold Op.equalIn
        rw [Sem.run_bind, run_underlying' hu]
        simp
      split at h
      · split at h
        rename_i rr st1 happ
        cases h
        obtain ⟨h1, h2, h3⟩ := app_ok happ hg
        refine ⟨h1, h2, fun r vx vy hx hy => ⟨_, mk_b r _, fun xo yo w => ?_⟩⟩
        obtain rfl := den_b hx
        obtain rfl := den_b hy
        rw [Sem.run_bind, guard_bool, h3]
        simp only [Result.andThen_ok, binOp, Sem.run_bind, heq, Sem.run_pure, List.map, mean, ieq_b2i]
        cases ieq (a.val g) 1 <;> cases ieq (b.val g) 1 <;> rfl
      · split at h
        rename_i rr st1 happ
        split at h
        rename_i rr2 st2 happ2
        cases h
        obtain ⟨p1, p2, p3⟩ := app_ok happ2 hg
        obtain ⟨h1, h2, h3⟩ := app_ok happ p1
        refine ⟨h1, h2.trans p2, fun r vx vy hx hy => ⟨_, mk_b r _, fun xo yo w => ?_⟩⟩
        obtain rfl := den_b hx
        obtain rfl := den_b hy
        rw [Sem.run_bind, guard_bool, p3]
        simp only [Result.andThen_ok, binOp, Sem.run_bind, heq, Sem.run_pure, List.map, mean, ieq_b2i, h3]
        cases ieq (a.val g) 1 <;> cases ieq (b.val g) 1 <;> rfl
      · cases h
    · cases h
  · rename_i l m
    split at h
    · rename_i ks hks
      split at h
      · rename_i rr st1 he
        split at h
        · cases h
          obtain ⟨h1, h2, h3⟩ := eqCells_ok he hg
          refine ⟨h1, h2, fun r vx vy hx hy => ⟨_, mk_b r _, fun xo yo w => ?_⟩⟩
          obtain ⟨vs, rfl, hvs⟩ := den_agg hx
          obtain ⟨us, rfl, hus⟩ := den_agg hy
          obtain ⟨e1, e2⟩ := h3 r vs us hvs hus
          obtain ⟨q1, q2⟩ := equal_agg hks e1 w xo yo .eql
          rw [Sem.run_bind, q2, e2]
          simp only [Result.andThen_ok, binOp, Sem.run_bind, q1, Sem.run_pure]
          simp [A.val, ieq]
        · split at h
          rename_i rr2 st2 happ2
          cases h
          obtain ⟨p1, p2, p3⟩ := app_ok happ2 hg
          obtain ⟨h1, h2, h3⟩ := eqCells_ok he p1
          refine ⟨h1, h2.trans p2, fun r vx vy hx hy => ⟨_, mk_b r _, fun xo yo w => ?_⟩⟩
          obtain ⟨vs, rfl, hvs⟩ := den_agg hx
          obtain ⟨us, rfl, hus⟩ := den_agg hy
          obtain ⟨e1, e2⟩ := h3 r vs us hvs hus
          obtain ⟨q1, q2⟩ := equal_agg hks e1 w xo yo .neq
          rw [Sem.run_bind, q2, p3]
          simp only [Result.andThen_ok, binOp, Sem.run_bind, q1, Sem.run_pure, List.map, mean, ieq_b2i, e2]
          simp [A.val, ieq]
        · cases h
      · cases h
    · cases h
  · cases h
theorem mapM_run {α β : Type} {f : α → Sem β} {h : α → β} {w : World} : ∀ (l : List α), (∀ x ∈ l, (f x).run P w = .ok (h x) w) → (l.mapM f).run P w = .ok (l.map h) w
  | [], _ => by simp
  | x :: l, hf => by
    rw [List.mapM_cons, Sem.run_bind, hf x (List.mem_cons_self ..)]
    simp only [Result.andThen_ok]
    rw [Sem.run_bind, mapM_run l (fun y hy => hf y (List.mem_cons_of_mem _ hy))]
    simp
theorem amapM_run {α β : Type} {f : α → Sem β} {h : α → β} {w : World} (a : Array α) (hf : ∀ x ∈ a.toList, (f x).run P w = .ok (h x) w) : (a.mapM f).run P w = .ok ⟨a.toList.map h⟩ w := by
  rw [Array.mapM_eq_mapM_toList, Sem.run_map, mapM_run _ hf]
  simp
theorem run_zero {t : TypeId} {i : TypeInfo} {z : Value} (hi : P.info? t = some i) (hz : i.zero = some z) (w : World) : (zeroValue t).run P w = .ok z w := by
  simp [zeroValue, typeInfo, hi, hz]
theorem build_ok {ty : TypeId} {parts : List (Nat × W)} {l : List C} (h : buildA P ty parts = some l) :
    ∀ r (vs : List (Nat × Value)), PL g r parts vs → ∃ ws, DL g r l ws ∧ ∀ w, (Instr.build ty ⟨vs⟩).run P w = .ok (.agg ⟨ws⟩) w := by
  intro r vs hP
  unfold buildA at h
  split at h
  · cases h
  · rename_i z0 hz0
    obtain ⟨i, z, hi, hz, hzc⟩ := zero_ok (g := g) hz0
    obtain ⟨cv, hcv, hD⟩ := hzc r
    split at h
    · rename_i fs hu
      cases ha : fs.toList.all (fun f => (sizeB P f.type).isSome)
      · rw [ha] at h; cases h
      · rw [ha] at h
        simp only [cond_true] at h
        rw [List.all_eq_true] at ha
        have hp : ∀ i p, placeS P fs.toList i = some p → (fs.toList.map (fun f => (f.offset, (sizeB P f.type).getD 0)))[i]? = some p := fun i p hp => by
          unfold placeS at hp
          split at hp
          · rename_i fd hfd
            split at hp
            · rename_i s hs
              cases hp
              rw [List.getElem?_map, lkL_get hfd]
              simp [hs]
            · cases hp
          · cases hp
        obtain ⟨ws, h1, h2⟩ := fill_ok hp h hP hD
        refine ⟨ws, h2, fun w => ?_⟩
        unfold Instr.build
        rw [Sem.run_bind, run_zero hi hz]
        simp only [Result.andThen_ok]
        rw [Sem.run_bind, run_underlying' hu]
        simp only [Result.andThen_ok]
        rw [Sem.run_bind, amapM_run (h := fun f => (f.offset, (sizeB P f.type).getD 0)) fs (fun f hf => by
          have := ha f hf
          obtain ⟨s, hs⟩ := Option.isSome_iff_exists.1 this
          rw [Sem.run_bind, run_sizeOf hs]
          simp [hs])]
        simp only [Result.andThen_ok, hcv]
        have : (fun (x : Nat) => ((⟨fs.toList.map (fun f => (f.offset, (sizeB P f.type).getD 0))⟩ : Array (Nat × Nat)))[x]?) = fun (x : Nat) => (fs.toList.map (fun f => (f.offset, (sizeB P f.type).getD 0)))[x]? := by
          funext x; simp
        rw [this, h1]
        rfl
    · rename_i n e hu
      split at h
      · rename_i s hs
        obtain ⟨ws, h1, h2⟩ := fill_ok (fun _ _ hp => hp) h hP hD
        refine ⟨ws, h2, fun w => ?_⟩
        unfold Instr.build
        rw [Sem.run_bind, run_zero hi hz]
        simp only [Result.andThen_ok]
        rw [Sem.run_bind, run_underlying' hu]
        simp only [Result.andThen_ok]
        rw [Sem.run_bind, run_sizeOf hs]
        simp only [Result.andThen_ok, hcv]
        rw [h1]
        rfl
      · cases h
    · cases h
theorem evL_den {n : Nat} {r : Rho} {t : T} {a : Act} (hT : TRel n g r t a) : ∀ {os : List Operand} {l : List V}, evL t os = some l → VL g r l (os.map a.eval)
  | [], l, h => by simp [evL] at h; subst h; trivial
  | o :: os, l, h => by
    unfold evL at h
    split at h
    · rename_i v hv
      split at h
      · rename_i m hm
        cases h
        exact ⟨ev_den hT hv, evL_den hT hm⟩
      · cases h
    · cases h
theorem ev1_some {t : T} {x : Operand} {f : V → Option (V × St)} {p : V × St} (h : ev1 t x f = some p) : ∃ v, ev t x = some v ∧ f v = some p := by
  unfold ev1 at h
  split at h
  · rename_i v hv; exact ⟨v, hv, h⟩
  · cases h
theorem stay_some {v : Option V} {st st' : St} {u : V} (h : stay v st = some (u, st')) : v = some u ∧ st' = st := by
  unfold stay at h
  split at h
  · cases h; exact ⟨rfl, rfl⟩
  · cases h
/-- In whatever world: the value. -/
def Yv (P : Program) (a : Act) (op : Op) (u : Value) : Prop := ∀ (o : Oper) w, o.op = op → (execOp a.eval o).run P w = .ok (.value u) w
/-- What is said of the program's names, and of its functions without a text. -/
structure NamesOk (P : Program) (X : FuncId → Nat) : Prop where
  names : ∀ (f : FuncId) (fn : Func), P.funcs[f]? = some fn → (fn.name == "runtime.NumGoroutine") = false
  add : ∀ f, X f = 1 → ∀ (a b c : Nat), c ≤ 1 → ∀ (k1 k2 k3 : IntKind) w, (callFunc f #[.int k1 a, .int k2 b, .int k3 c]).run P w = .ok (.value (.tuple #[.int .u64 (((a + b + c) % 18446744073709551616 : Nat) : Int), .int .u64 (((a + b + c) / 18446744073709551616 : Nat) : Int)])) w
  sub : ∀ f, X f = 2 → ∀ (a b c : Nat), c ≤ 1 → ∀ (k1 k2 k3 : IntKind) w, (callFunc f #[.int k1 a, .int k2 b, .int k3 c]).run P w = .ok (.value (.tuple #[.int .u64 (((a + 18446744073709551616 - b - c) % 18446744073709551616 : Nat) : Int), .int .u64 (((if a < b + c then 1 else 0 : Nat)) : Int)])) w
theorem ext_ok (hN : NamesOk P X) {f : FuncId} {l : List V} {v : V} (h : extA (X f) l = some v) : ∀ r vs, VL g r l vs → ∃ u, v.Den g r u ∧ ∀ w, (callFunc f ⟨vs⟩).run P w = .ok (.value u) w := by
  intro r vs hv
  unfold extA at h
  split at h
  · rename_i a b c
    match vs, hv with
    | [x, y, z], ⟨hx, hy, hz, _⟩ =>
      have i1 := (den_in hx).2
      have i2 := (den_in hy).2
      have i1 : (a : Int) ≤ 18446744073709551615 := i1
      have i2 : (b : Int) ≤ 18446744073709551615 := i2
      obtain rfl := den_i hx
      obtain rfl := den_i hy
      obtain rfl := den_i hz
      simp only [nble, nbeq, nblt, Bool.cond_decide] at h
      split at h
      · rename_i hc
        split at h
        · rename_i hk
          cases h
          exact ⟨_, ⟨[.int .u64 (((a + b + c) % 18446744073709551616 : Nat) : Int), .int .u64 (((a + b + c) / 18446744073709551616 : Nat) : Int)], rfl, (⟨mk_i r (k := .u64) (a := .k (.ofNat ((a + b + c) % 18446744073709551616))) (inK_u64.2 ⟨Int.natCast_nonneg _, by show (((a + b + c) % 18446744073709551616 : Nat) : Int) ≤ _; omega⟩), mk_i r (k := .u64) (a := .k (.ofNat ((a + b + c) / 18446744073709551616))) (inK_u64.2 ⟨Int.natCast_nonneg _, by show (((a + b + c) / 18446744073709551616 : Nat) : Int) ≤ _; omega⟩), trivial⟩ : _ ∧ _ ∧ True)⟩, fun w => hN.add f hk a b c hc .u64 .u64 .u64 w⟩
        · split at h
          · rename_i hk
            cases h
            exact ⟨_, ⟨[.int .u64 (((a + 18446744073709551616 - b - c) % 18446744073709551616 : Nat) : Int), .int .u64 (((if a < b + c then 1 else 0 : Nat)) : Int)], rfl, (⟨mk_i r (k := .u64) (a := .k (.ofNat ((a + 18446744073709551616 - b - c) % 18446744073709551616))) (inK_u64.2 ⟨Int.natCast_nonneg _, by show (((a + 18446744073709551616 - b - c) % 18446744073709551616 : Nat) : Int) ≤ _; omega⟩), mk_i r (k := .u64) (a := .k (.ofNat (if a < b + c then 1 else 0))) (inK_u64.2 ⟨Int.natCast_nonneg _, by show (((if a < b + c then 1 else 0 : Nat)) : Int) ≤ _; split <;> omega⟩), trivial⟩ : _ ∧ _ ∧ True)⟩, fun w => hN.sub f hk a b c hc .u64 .u64 .u64 w⟩
          · cases h
      · cases h
  · cases h
theorem str_ok {ty : TypeId} {s : List UInt8} {i v : V} (h : strA P ty s i = some v) :
    ∀ r vi, i.Den g r vi → ∃ u, v.Den g r u ∧ ∀ w, (Instr.index ty (.string ⟨⟨s⟩⟩) vi).run P w = .ok u w := by
  intro r vi hi
  unfold strA at h
  split at h
  · rename_i k j
    obtain rfl := den_i hi
    split at h
    · rename_i b hu hb
      cases h
      refine ⟨_, mk_i r (k := .u8) (a := .k (.ofNat b.toNat)) ⟨Int.natCast_nonneg _, by show ((b.toNat : Nat) : Int) ≤ 255; have := b.toNat_lt; omega⟩, fun w => ?_⟩
      have hlt : j < s.length := (List.getElem?_eq_some_iff.1 (lkL_get hb)).1
      have hget : (⟨⟨s⟩⟩ : ByteArray)[j]? = some b := by
        have h1 := lkL_get hb
        have h2 : j < (⟨⟨s⟩⟩ : ByteArray).size := hlt
        rw [List.getElem?_eq_getElem hlt] at h1
        exact (getElem?_pos (⟨⟨s⟩⟩ : ByteArray) j h2).trans h1
      unfold Instr.index
      simp only [asIntOf, Sem.run_bind, Sem.run_pure, Result.andThen_ok, run_underlying' hu, A.val]
      have h1 : (0 : Int) ≤ Int.ofNat j := Int.natCast_nonneg j
      have h2 : (Int.ofNat j).toNat = j := rfl
      simp only [h1, if_true, h2, hget]
      rfl
    · cases h
  · cases h
theorem pure_ok (hN : NamesOk P X) {t : T} {op : Op} {st st' : St} {v : V} (h : pureOp P U X t op st = some (v, st')) (hg : Good U g st') :
    Good U g st ∧ Same st st' ∧ ∀ n r a, TRel n g r t a → ∃ u, v.Den g r u ∧ Yv P a op u := by
  unfold pureOp at h
  split at h
  · obtain ⟨x, hx, h⟩ := ev1_some h
    cases h
    exact ⟨hg, Same.refl _, fun n r a hT => ⟨_, ev_den hT hx, fun o w ho => by simp [execOp, ho]⟩⟩
  · obtain ⟨x, hx, h⟩ := ev1_some h
    cases h
    exact ⟨hg, Same.refl _, fun n r a hT => ⟨_, ev_den hT hx, fun o w ho => by simp [execOp, ho]⟩⟩
  · obtain ⟨c, hc, h⟩ := ev1_some h
    obtain ⟨x, hx, h⟩ := ev1_some h
    obtain ⟨y, hy, h⟩ := ev1_some h
    obtain ⟨h1, h2, h3⟩ := pick_ok h hg
    refine ⟨h1, h2, fun n r a hT => ?_⟩
    obtain ⟨q, hq, hd⟩ := h3 r _ _ _ (ev_den hT hc) (ev_den hT hx) (ev_den hT hy)
    exact ⟨_, hd, fun o w ho => by simp [execOp, ho, hq, asBool]⟩
  · rename_i ty parts
    split at h
    · rename_i l hl
      split at h
      · rename_i rr hrr
        cases h
        refine ⟨hg, Same.refl _, fun n r a hT => ?_⟩
        obtain ⟨ws, h1, h2⟩ := build_ok hrr r _ (parts_ok hT hl)
        refine ⟨_, ⟨ws, rfl, h1⟩, fun o w ho => ?_⟩
        have : (parts.map fun (i, x) => (i, a.eval x)) = ⟨parts.toList.map fun (i, x) => (i, a.eval x)⟩ := by
          apply Array.ext'; simp
        simp only [execOp, ho, this, Sem.run_bind, h2, Result.andThen_ok, Sem.run_pure]
      · cases h
    · cases h
  · rename_i op ty x y yt
    obtain ⟨vx, hx, h⟩ := ev1_some h
    obtain ⟨vy, hy, h⟩ := ev1_some h
    obtain ⟨h1, h2, h3⟩ := binOpA_ok h hg
    refine ⟨h1, h2, fun n r a hT => ?_⟩
    obtain ⟨u, hu, hr⟩ := h3 r _ _ (ev_den hT hx) (ev_den hT hy)
    exact ⟨u, hu, fun o w ho => by simp only [execOp, ho]; rw [Sem.run_bind, hr]; rfl⟩
  · obtain ⟨vx, hx, h⟩ := ev1_some h
    obtain ⟨h1, h2, h3⟩ := un_ok (P := P) h hg
    refine ⟨h1, h2, fun n r a hT => ?_⟩
    obtain ⟨u, hu, hr⟩ := h3 r _ (ev_den hT hx)
    exact ⟨u, hu, fun o w ho => by simp only [execOp, ho]; rw [Sem.run_bind, hr]; rfl⟩
  · obtain ⟨vx, hx, h⟩ := ev1_some h
    obtain ⟨h1, h2, h3⟩ := conv_ok h hg
    refine ⟨h1, h2, fun n r a hT => ?_⟩
    obtain ⟨u, hu, hr⟩ := h3 r _ (ev_den hT hx)
    exact ⟨u, hu, fun o w ho => by simp only [execOp, ho]; rw [Sem.run_bind, hr]; rfl⟩
  · obtain ⟨vx, hx, h⟩ := ev1_some h
    obtain ⟨hst, rfl⟩ := stay_some h
    obtain ⟨rfl, h3⟩ := nil_ok (g := g) hst
    refine ⟨hg, Same.refl _, fun n r a hT => ?_⟩
    obtain ⟨q, hq⟩ := h3 r _ (ev_den hT hx)
    exact ⟨_, ev_den hT hx, fun o w ho => by simp [execOp, ho, hq]⟩
  · obtain ⟨vx, hx, h⟩ := ev1_some h
    obtain ⟨hst, rfl⟩ := stay_some h
    refine ⟨hg, Same.refl _, fun n r a hT => ?_⟩
    obtain ⟨u, hu, hr⟩ := fieldAddr_ok hst r _ (ev_den hT hx)
    exact ⟨u, hu, fun o w ho => by simp only [execOp, ho]; rw [Sem.run_bind, hr]; rfl⟩
  · obtain ⟨vx, hx, h⟩ := ev1_some h
    obtain ⟨hst, rfl⟩ := stay_some h
    refine ⟨hg, Same.refl _, fun n r a hT => ?_⟩
    obtain ⟨u, hu, hr⟩ := field_ok hst r _ (ev_den hT hx)
    exact ⟨u, hu, fun o w ho => by simp only [execOp, ho]; rw [Sem.run_bind, hr]; rfl⟩
  · obtain ⟨vx, hx, h⟩ := ev1_some h
    obtain ⟨vy, hy, h⟩ := ev1_some h
    obtain ⟨hst, rfl⟩ := stay_some h
    refine ⟨hg, Same.refl _, fun n r a hT => ?_⟩
    obtain ⟨u, hu, hr⟩ := indexAddr_ok hst r _ _ (ev_den hT hx) (ev_den hT hy)
    exact ⟨u, hu, fun o w ho => by simp only [execOp, ho]; rw [Sem.run_bind, hr]; rfl⟩
  · obtain ⟨vy, hy, h⟩ := ev1_some h
    obtain ⟨hst, rfl⟩ := stay_some h
    refine ⟨hg, Same.refl _, fun n r a hT => ?_⟩
    obtain ⟨u, hu, hr⟩ := str_ok hst r _ (ev_den hT hy)
    exact ⟨u, hu, fun o w ho => by simp only [execOp, ho]; rw [Sem.run_bind]; show Result.andThen ((Instr.index _ (.string _) _).run P w) _ = _; rw [hr]; rfl⟩
  · obtain ⟨vx, hx, h⟩ := ev1_some h
    obtain ⟨vy, hy, h⟩ := ev1_some h
    obtain ⟨hst, rfl⟩ := stay_some h
    refine ⟨hg, Same.refl _, fun n r a hT => ?_⟩
    obtain ⟨u, hu, hr⟩ := index_ok hst r _ _ (ev_den hT hx) (ev_den hT hy)
    exact ⟨u, hu, fun o w ho => by simp only [execOp, ho]; rw [Sem.run_bind, hr]; rfl⟩
  · obtain ⟨vx, hx, h⟩ := ev1_some h
    obtain ⟨hst, rfl⟩ := stay_some h
    refine ⟨hg, Same.refl _, fun n r a hT => ?_⟩
    obtain ⟨u, hu, hr⟩ := extract_ok (P := P) hst r _ (ev_den hT hx)
    exact ⟨u, hu, fun o w ho => by simp only [execOp, ho]; rw [Sem.run_bind, hr]; rfl⟩
  · obtain ⟨vx, hx, h⟩ := ev1_some h
    obtain ⟨vy, hy, h⟩ := ev1_some h
    obtain ⟨hst, rfl⟩ := stay_some h
    refine ⟨hg, Same.refl _, fun n r a hT => ?_⟩
    obtain ⟨u, hu, hr⟩ := head_ok hst r _ _ (ev_den hT hx) (ev_den hT hy)
    exact ⟨u, hu, fun o w ho => by simp only [execOp, ho, Option.map]; rw [Sem.run_bind, hr]; rfl⟩
  · rename_i bb args tys
    split at h
    · rename_i l hl
      unfold builtinA at h
      have hmap : ∀ a : Act, args.map a.eval = ⟨args.toList.map a.eval⟩ := fun a => by apply Array.ext'; simp
      split at h
      · split at h
        · rename_i ty x hty
          obtain ⟨hst, rfl⟩ := stay_some h
          refine ⟨hg, Same.refl _, fun n r a hT => ?_⟩
          have hv := evL_den hT hl
          match hvs : args.toList.map a.eval, hv with
          | [vx], ⟨hx, _⟩ =>
            obtain ⟨u, hu, hr⟩ := len_ok hst 0 r _ hx
            refine ⟨u, hu, fun o w ho => ?_⟩
            have ht : tys = #[ty] := by apply Array.ext'; assumption
            obtain ⟨u, hu', hr⟩ := len_ok hst o.type r _ hx
            obtain rfl := hu.unique hu'
            simp only [execOp, ho, resolve, hmap, hvs, ht, Sem.run_bind, Sem.run_pure, Result.andThen_ok, invoke, builtin, hr]
        · cases h
      · obtain ⟨h1, h2, h3⟩ := min_ok (P := P) (.inl rfl) h hg tys 0
        refine ⟨h1, h2, fun n r a hT => ?_⟩
        obtain ⟨u, hu, hr⟩ := h3 r _ (evL_den hT hl)
        refine ⟨u, hu, fun o w ho => ?_⟩
        obtain ⟨_, _, h3⟩ := min_ok (P := P) (.inl rfl) h hg tys o.type
        obtain ⟨u, hu', hr⟩ := h3 r _ (evL_den hT hl)
        obtain rfl := hu.unique hu'
        simp only [if_true] at hr
        simp only [execOp, ho, resolve, hmap, Sem.run_bind, Sem.run_pure, Result.andThen_ok, invoke, builtin, hr]
      · obtain ⟨h1, h2, h3⟩ := min_ok (P := P) (.inr rfl) h hg tys 0
        refine ⟨h1, h2, fun n r a hT => ?_⟩
        obtain ⟨u, hu, hr⟩ := h3 r _ (evL_den hT hl)
        refine ⟨u, hu, fun o w ho => ?_⟩
        obtain ⟨_, _, h3⟩ := min_ok (P := P) (.inr rfl) h hg tys o.type
        obtain ⟨u, hu', hr⟩ := h3 r _ (evL_den hT hl)
        obtain rfl := hu.unique hu'
        simp only [reduceCtorEq, if_false] at hr
        simp only [execOp, ho, resolve, hmap, Sem.run_bind, Sem.run_pure, Result.andThen_ok, invoke, builtin, hr]
      · cases h
    · cases h
  · rename_i f args tys
    cases hx : Nat.beq (X f) 0
    · rw [hx] at h
      simp only [cond_false] at h
      split at h
      · rename_i l hl
        obtain ⟨hst, rfl⟩ := stay_some h
        refine ⟨hg, Same.refl _, fun n r a hT => ?_⟩
        obtain ⟨u, hu, hr⟩ := ext_ok hN hst r _ (evL_den hT hl)
        refine ⟨u, hu, fun o w ho => ?_⟩
        have hmap : args.map a.eval = ⟨args.toList.map a.eval⟩ := by apply Array.ext'; simp
        have hev : a.eval (.func f) = .func (.func f) #[] #[] := rfl
        simp only [execOp, ho, resolve, hev, Deferred.ofValue, Sem.run_bind, Sem.run_pure, Result.andThen_ok, invoke, hmap]
        simpa using hr w
      · cases h
    · rw [hx] at h; cases h
  · cases h
end
end Go.Proofs.Ytahedampmjfoeaa.SX
