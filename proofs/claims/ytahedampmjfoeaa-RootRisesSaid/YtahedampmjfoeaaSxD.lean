/- The runner: operations that yield a value whatever the memory. -/
import Derived.Test.YtahedampmjfoeaaSxC
import Derived.Laws.Entries
namespace Go.Proofs.Ytahedampmjfoeaa.SX
open Go

section
variable {P : Program} {U : Nat → List Int → Int} {X : FuncId → Nat} {g : Sg}
theorem den_b {r : Rho} {a : A} {v : Value} (h : V.Den g r (.w (.c (.b a))) v) : v = .bool (ieq (a.val g) 1) := by
  have h : some (Value.bool (ieq (a.val g) 1)) = some v := h
  cases h; rfl
theorem den_i {r : Rho} {k : IntKind} {a : A} {v : Value} (h : V.Den g r (.w (.c (.i k a))) v) : v = .int k (a.val g) := by
  have h : C.den g r (.i k a) = some v := h
  simp only [C.den] at h
  split at h <;> cases h
  rfl
theorem den_in {r : Rho} {k : IntKind} {a : A} {v : Value} (h : V.Den g r (.w (.c (.i k a))) v) : inK k (a.val g) := by
  have h : C.den g r (.i k a) = some v := h
  simp only [C.den] at h
  split at h
  · assumption
  · cases h
theorem den_p {r : Rho} {n o : Nat} {v : Value} (h : V.Den g r (.w (.c (.p n o))) v) : ∃ q, r n = some q ∧ v = .pointer (some ⟨q, o, none⟩) := by
  have h : C.den g r (.p n o) = some v := h
  simp only [C.den] at h
  split at h
  · rename_i q hq; cases h; exact ⟨q, hq, rfl⟩
  · cases h
theorem den_s {r : Rho} {n o l c : Nat} {v : Value} (h : V.Den g r (.w (.c (.s n o l c))) v) : ∃ q, r n = some q ∧ v = .slice (some ⟨q, o, none⟩) l c := by
  have h : C.den g r (.s n o l c) = some v := h
  simp only [C.den] at h
  split at h
  · rename_i q hq; cases h; exact ⟨q, hq, rfl⟩
  · cases h
theorem den_sn {r : Rho} {v : Value} (h : V.Den g r (.w (.c .sn)) v) : v = .slice none 0 0 := by
  have h : C.den g r .sn = some v := h
  cases h; rfl
theorem den_agg {r : Rho} {l : List C} {v : Value} (h : V.Den g r (.w (.agg l)) v) : ∃ vs, v = .agg ⟨vs⟩ ∧ DL g r l vs := h
theorem mk_b (r : Rho) (a : A) : V.Den g r (.w (.c (.b a))) (.bool (ieq (a.val g) 1)) := rfl
theorem mk_i (r : Rho) {k : IntKind} {a : A} (h : inK k (a.val g)) : V.Den g r (.w (.c (.i k a))) (.int k (a.val g)) := by
  show C.den g r (.i k a) = _
  simp only [C.den]
  rw [if_pos h]
theorem mk_p {r : Rho} {n q : Nat} (h : r n = some q) (o : Nat) : V.Den g r (.w (.c (.p n o))) (.pointer (some ⟨q, o, none⟩)) := by
  show C.den g r (.p n o) = _
  simp [C.den, h]
theorem mk_s {r : Rho} {n q : Nat} (h : r n = some q) (o l c : Nat) : V.Den g r (.w (.c (.s n o l c))) (.slice (some ⟨q, o, none⟩) l c) := by
  show C.den g r (.s n o l c) = _
  simp [C.den, h]

/-- What is said of each operation of this kind. -/
abbrev Yl (U : Nat → List Int → Int) (g : Sg) (st st' : St) (v : V) (K : Rho → Value → Prop) : Prop :=
  Good U g st' → Good U g st ∧ Same st st' ∧ ∀ r, ∃ u, v.Den g r u ∧ K r u

theorem csGet_mem : ∀ {l : List (Nat × Bool)} {n : Nat} {b : Bool}, csGet l n = some b → (n, b) ∈ l
  | [], _, _, h => by simp [csGet] at h
  | (m, c) :: r, n, b, h => by
    unfold csGet at h
    rw [nbeq, Bool.cond_decide] at h
    split at h
    · rename_i hm; subst hm; cases h; exact List.mem_cons_self ..
    · exact List.mem_cons_of_mem _ (csGet_mem h)
theorem pick_ok {c a b v : V} {st st' : St} (h : pickA U c a b st = some (v, st')) (hg : Good U g st') :
    Good U g st ∧ Same st st' ∧ ∀ r vc va vb, c.Den g r vc → a.Den g r va → b.Den g r vb → ∃ q : Bool, vc = .bool q ∧ v.Den g r (if q then va else vb) := by
  unfold pickA at h
  split at h
  · rename_i z
    cases h
    refine ⟨hg, Same.refl _, fun r vc va vb hc ha hb => ⟨ieq z 1, den_b hc, ?_⟩⟩
    cases ieq z 1
    · exact hb
    · exact ha
  · rename_i n
    split at h
    · rename_i q hq
      cases h
      refine ⟨hg, Same.refl _, fun r vc va vb hc ha hb => ⟨q, ?_, ?_⟩⟩
      · rw [den_b hc]
        have := hg.cs _ (csGet_mem hq)
        show Value.bool (ieq (g n) 1) = _
        rw [this]
      · cases q
        · exact hb
        · exact ha
    · split at h
      · rename_i x y
        split at h
        rename_i rr st1 happ
        cases h
        obtain ⟨h1, h2, h3⟩ := app_ok happ hg
        refine ⟨h1, h2, fun r vc va vb hc ha hb => ⟨_, den_b hc, ?_⟩⟩
        obtain rfl := den_b ha
        obtain rfl := den_b hb
        have : (if ieq ((A.x n).val g) 1 = true then Value.bool (ieq (x.val g) 1) else Value.bool (ieq (y.val g) 1)) = .bool (ieq (rr.val g) 1) := by
          rw [h3]
          simp only [List.map, mean]
          cases ieq ((A.x n).val g) 1 <;> rfl
        rw [this]
        exact mk_b r rr
      · cases h
  · cases h
theorem un_ok {op : UnOp} {x v : V} {st st' : St} (h : unA U op x st = some (v, st')) (hg : Good U g st') :
    Good U g st ∧ Same st st' ∧ ∀ r vx, x.Den g r vx → ∃ u, v.Den g r u ∧ ∀ w, (Op.unary op vx).run P w = .ok u w := by
  unfold unA at h
  split at h
  · rename_i a
    split at h
    rename_i rr st1 happ
    cases h
    obtain ⟨h1, h2, h3⟩ := app_ok happ hg
    refine ⟨h1, h2, fun r vx hx => ⟨_, mk_b r rr, fun w => ?_⟩⟩
    obtain rfl := den_b hx
    rw [h3]
    simp [mean, Op.unary, ieq_b2i]
  · rename_i k a
    split at h
    rename_i rr st1 happ
    cases h
    obtain ⟨h1, h2, h3⟩ := app_ok happ hg
    refine ⟨h1, h2, fun r vx hx => ⟨_, mk_i r (by rw [h3]; simp only [mean, List.map, wrapF_eq]; exact wrap_in _ _), fun w => ?_⟩⟩
    obtain rfl := den_i hx
    rw [h3]
    simp [mean, Op.unary, Op.intArith, wrapF_eq, A.val]
  · rename_i k a
    split at h
    rename_i rr st1 happ
    cases h
    obtain ⟨h1, h2, h3⟩ := app_ok happ hg
    refine ⟨h1, h2, fun r vx hx => ⟨_, mk_i r (by rw [h3]; exact wrap_in _ _), fun w => ?_⟩⟩
    obtain rfl := den_i hx
    rw [h3]
    simp [mean, Op.unary, Op.intBits]
  · cases h
theorem run_underlying' {t : TypeId} {d : TypeDesc} (h : P.underlying t = some d) (w : World) : (underlying t).run P w = .ok d w := by
  simp [underlying, h]
theorem conv_ok {src dst : TypeId} {x v : V} {st st' : St} (h : convA P U src dst x st = some (v, st')) (hg : Good U g st') :
    Good U g st ∧ Same st st' ∧ ∀ r vx, x.Den g r vx → ∃ u, v.Den g r u ∧ ∀ w, (convert src dst vx).run P w = .ok u w := by
  unfold convA at h
  split at h
  · rename_i d k k' a hs hd
    split at h
    rename_i rr st1 happ
    cases h
    obtain ⟨h1, h2, h3⟩ := app_ok happ hg
    refine ⟨h1, h2, fun r vx hx => ⟨_, mk_i r (by rw [h3]; simp only [mean, List.map, wrapF_eq]; exact wrap_in _ _), fun w => ?_⟩⟩
    obtain rfl := den_i hx
    rw [h3]
    unfold convert
    rw [Sem.run_bind, run_underlying' hs]
    simp only [Result.andThen_ok]
    rw [Sem.run_bind, run_underlying' hd]
    simp only [Result.andThen_ok]
    cases d <;> simp [Conv.intToInt, mean, wrapF_eq]
  · cases h
theorem nil_ok {x v : V} (h : nilA x = some v) : v = x ∧ ∀ r vx, x.Den g r vx → ∃ q, vx = .pointer (some q) := by
  unfold nilA at h
  split at h
  · cases h
    exact ⟨rfl, fun r vx hx => by obtain ⟨q, _, rfl⟩ := den_p hx; exact ⟨_, rfl⟩⟩
  · cases h
theorem lkL_get {α : Type} : ∀ {l : List α} {i : Nat} {x : α}, lkL l i = some x → l[i]? = some x
  | [], _, _, h => by simp [lkL] at h
  | y :: l, i, x, h => by
    unfold lkL at h
    cases i with
    | zero => simpa using h
    | succ i => simp at h; simpa using lkL_get h
theorem sizeB_info {t : TypeId} {s : Nat} (h : sizeB P t = some s) : ∃ i, P.info? t = some i ∧ i.size = s := by
  unfold sizeB at h
  split at h
  · rename_i i hi; cases h; exact ⟨i, hi, rfl⟩
  · cases h
theorem run_sizeOf {t : TypeId} {s : Nat} (h : sizeB P t = some s) (w : World) : (sizeOf t).run P w = .ok s w := by
  obtain ⟨i, hi, rfl⟩ := sizeB_info h
  simp [sizeOf, typeInfo, hi]
theorem run_isAgg {t : TypeId} {b : Bool} (h : isAggB P t = some b) (w : World) : (isAgg t).run P w = .ok b w := by
  unfold isAggB at h
  unfold isAgg
  cases hu : P.underlying t with
  | none => simp [hu] at h
  | some d =>
    rw [Sem.run_bind, run_underlying' hu]
    simp only [Result.andThen_ok]
    rw [hu] at h
    cases d <;> simp_all
theorem fieldAddr_ok {s : TypeId} {x v : V} {f : Nat} (h : fieldAddrA P s x f = some v) :
    ∀ r vx, x.Den g r vx → ∃ u, v.Den g r u ∧ ∀ w, (Instr.fieldAt s vx f).run P w = .ok u w := by
  intro r vx hx
  unfold fieldAddrA at h
  split at h
  · rename_i fs n o hs
    split at h
    · rename_i fd hfd
      split at h
      · rename_i k hk
        cases h
        obtain ⟨q, hq, rfl⟩ := den_p hx
        refine ⟨_, mk_p hq _, fun w => ?_⟩
        have hget : fs[f]? = some fd := by
          have := lkL_get hfd
          rw [← Array.getElem?_toList]; exact this
        unfold Instr.fieldAt
        rw [Sem.run_bind, run_underlying' hs]
        simp only [Result.andThen_ok, hget]
        simp only [Instr.sureAddr, Sem.run_bind, Sem.run_pure, Result.andThen_ok, fieldPlace, run_sizeOf hk]
        simp
        unfold Addr.add
        split <;> simp_all
      · cases h
    · cases h
  · cases h
theorem takeN_take {α : Type} : ∀ {l : List α} {n : Nat} {m : List α}, takeN l n = some m → m = l.take n ∧ n ≤ l.length
  | l, 0, m, h => by cases l <;> simp [takeN] at h <;> subst h <;> simp
  | [], n + 1, m, h => by simp [takeN] at h
  | x :: l, n + 1, m, h => by
    unfold takeN at h
    cases hr : takeN l n with
    | none => simp [hr] at h
    | some m' =>
      simp [hr] at h; subst h
      obtain ⟨rfl, hl⟩ := takeN_take hr
      exact ⟨rfl, by simp; omega⟩
theorem part_ok {ty : TypeId} {l : List C} {off : Nat} {x : W} (h : partA P ty l off = some x) :
    ∀ r vs, DL g r l vs → ∃ u, x.Den g r u ∧ ∀ w, (part ty ⟨vs⟩ off).run P w = .ok u w := by
  intro r vs hd
  unfold partA at h
  split at h
  · rename_i ha
    split at h
    · rename_i s hs
      split at h
      · rename_i m hm
        cases h
        obtain ⟨rfl, hl⟩ := takeN_take hm
        refine ⟨.agg ⟨(vs.drop off).take s⟩, ⟨_, rfl, (hd.drop off).take s⟩, fun w => ?_⟩
        unfold part
        rw [Sem.run_bind, run_isAgg ha]
        simp only [Result.andThen_ok, if_true, Sem.run_bind, run_sizeOf hs, Sem.run_pure]
        congr 2
        apply Array.ext'
        simp [List.extract_eq_take_drop]
      · cases h
    · cases h
  · rename_i ha
    split at h
    · rename_i c hc
      cases h
      obtain ⟨u, hu', hden⟩ := hd.get hc
      refine ⟨u, hden, fun w => ?_⟩
      unfold part
      rw [Sem.run_bind, run_isAgg ha]
      simp [hu']
    · cases h
  · cases h
theorem toList_get {α : Type} {fs : Array α} {f : Nat} {fd : α} (h : lkL fs.toList f = some fd) : fs[f]? = some fd := by
  have := lkL_get h
  rw [← Array.getElem?_toList]; exact this
theorem field_ok {s : TypeId} {x v : V} {f : Nat} (h : fieldA P s x f = some v) :
    ∀ r vx, x.Den g r vx → ∃ u, v.Den g r u ∧ ∀ w, (Instr.field s vx f).run P w = .ok u w := by
  intro r vx hx
  unfold fieldA at h
  split at h
  · rename_i fs l hs
    split at h
    · rename_i fd hfd
      split at h
      · rename_i y hy
        cases h
        obtain ⟨vs, rfl, hd⟩ := den_agg hx
        obtain ⟨u, h1, h2⟩ := part_ok hy r vs hd
        refine ⟨u, h1, fun w => ?_⟩
        unfold Instr.field
        rw [Sem.run_bind, run_underlying' hs]
        simp only [Result.andThen_ok, toList_get hfd]
        simp only [asAgg, Sem.run_bind, Sem.run_pure, Result.andThen_ok, h2]
      · cases h
    · cases h
  · cases h
theorem add_at (q o n : Nat) : (⟨q, o, none⟩ : Addr).add n = ⟨q, o + n, none⟩ := by
  unfold Addr.add; split <;> simp_all
theorem indexAddr_ok {ty : TypeId} {x i v : V} (h : indexAddrA P ty x i = some v) :
    ∀ r vx vi, x.Den g r vx → i.Den g r vi → ∃ u, v.Den g r u ∧ ∀ w, (Instr.indexAt ty vx vi).run P w = .ok u w := by
  intro r vx vi hx hi
  unfold indexAddrA at h
  split at h
  · rename_i k j
    obtain rfl := den_i hi
    split at h
    · rename_i len e n o hu
      rw [nblt, Bool.cond_decide] at h
      split at h
      · rename_i hj
        split at h
        · rename_i s hs
          cases h
          obtain ⟨q, hq, rfl⟩ := den_p hx
          refine ⟨_, mk_p hq _, fun w => ?_⟩
          unfold Instr.indexAt
          simp only [asIntOf, Sem.run_bind, Sem.run_pure, Result.andThen_ok, run_underlying' hu, Instr.sureAddr, A.val]
          have h1 : (0 : Int) ≤ Int.ofNat j ∧ Int.ofNat j < (len : Int) := ⟨Int.natCast_nonneg j, by show (j : Int) < len; omega⟩
          simp only [h1, and_self, if_true, Sem.run_bind, run_sizeOf hs, Result.andThen_ok, Sem.run_pure, add_at]
          rfl
        · cases h
      · cases h
    · rename_i e n o len c hu
      rw [nblt, Bool.cond_decide] at h
      split at h
      · rename_i hj
        split at h
        · rename_i s hs
          cases h
          obtain ⟨q, hq, rfl⟩ := den_s hx
          refine ⟨_, mk_p hq _, fun w => ?_⟩
          unfold Instr.indexAt
          simp only [asIntOf, Sem.run_bind, Sem.run_pure, Result.andThen_ok, run_underlying' hu, A.val]
          have h1 : (0 : Int) ≤ Int.ofNat j ∧ Int.ofNat j < (len : Int) := ⟨Int.natCast_nonneg j, by show (j : Int) < len; omega⟩
          simp only [h1, and_self, if_true, Sem.run_bind, run_sizeOf hs, Result.andThen_ok, Sem.run_pure, add_at]
          rfl
        · cases h
      · cases h
    · cases h
  · cases h
theorem index_ok {ty : TypeId} {x i v : V} (h : indexA P ty x i = some v) :
    ∀ r vx vi, x.Den g r vx → i.Den g r vi → ∃ u, v.Den g r u ∧ ∀ w, (Instr.index ty vx vi).run P w = .ok u w := by
  intro r vx vi hx hi
  unfold indexA at h
  split at h
  · rename_i k j
    obtain rfl := den_i hi
    split at h
    · rename_i len e l hu
      rw [nblt, Bool.cond_decide] at h
      split at h
      · rename_i hj
        split at h
        · rename_i s hs
          split at h
          · rename_i y hy
            cases h
            obtain ⟨vs, rfl, hd⟩ := den_agg hx
            obtain ⟨u, h1, h2⟩ := part_ok hy r vs hd
            refine ⟨u, h1, fun w => ?_⟩
            unfold Instr.index
            simp only [asIntOf, Sem.run_bind, Sem.run_pure, Result.andThen_ok, run_underlying' hu, A.val]
            have h1 : (0 : Int) ≤ Int.ofNat j ∧ Int.ofNat j < (len : Int) := ⟨Int.natCast_nonneg j, by show (j : Int) < len; omega⟩
            simp only [h1, and_self, if_true, Sem.run_bind, run_sizeOf hs, Result.andThen_ok]
            exact h2 w
          · cases h
        · cases h
      · cases h
    · cases h
  · cases h
theorem WL.get {r : Rho} : ∀ {l : List W} {vs : List Value} {i : Nat} {x : W}, WL g r l vs → lkL l i = some x → ∃ v, vs[i]? = some v ∧ x.Den g r v
  | [], _, _, _, _, h => by simp [lkL] at h
  | _ :: _, [], _, _, hd, _ => hd.elim
  | y :: l, v :: vs, i, x, ⟨h1, h2⟩, h => by
    unfold lkL at h
    cases i with
    | zero => simp at h; subst h; exact ⟨v, rfl, h1⟩
    | succ i => simp at h; obtain ⟨u, hu, hc⟩ := WL.get h2 h; exact ⟨u, by simpa using hu, hc⟩
theorem extract_ok {x v : V} {i : Nat} (h : extractA x i = some v) :
    ∀ r vx, x.Den g r vx → ∃ u, v.Den g r u ∧ ∀ w, (Instr.extract vx i).run P w = .ok u w := by
  intro r vx hx
  unfold extractA at h
  split at h
  · rename_i l
    split at h
    · rename_i y hy
      cases h
      obtain ⟨vs, rfl, hd⟩ := hx
      obtain ⟨u, h1, h2⟩ := hd.get hy
      exact ⟨u, h2, fun w => by simp [Instr.extract, h1]⟩
    · cases h
  · cases h
theorem head_ok {ty : TypeId} {x i v : V} (h : headA P ty x i = some v) :
    ∀ r vx vi, x.Den g r vx → i.Den g r vi → ∃ u, v.Den g r u ∧ ∀ w, (Instr.sliceAt ty vx none (some vi) none).run P w = .ok u w := by
  intro r vx vi hx hi
  unfold headA at h
  split at h
  · rename_i k j
    obtain rfl := den_i hi
    split at h
    · rename_i e n o l cap hu
      split at h
      · rename_i s hs
        rw [nble, nblt, ← Bool.decide_and, Bool.cond_decide] at h
        split at h
        · rename_i hj
          cases h
          obtain ⟨q, hq, rfl⟩ := den_s hx
          refine ⟨_, mk_s hq _ _ _, fun w => ?_⟩
          have h1 : (0 : Int) ≤ Int.ofNat j ∧ Int.ofNat j ≤ (cap : Int) := ⟨Int.natCast_nonneg j, by show (j : Int) ≤ cap; omega⟩
          have h2 : ¬ cap = 0 := by omega
          unfold Instr.sliceAt
          rw [Sem.run_bind, run_underlying' hu]
          simp only [Result.andThen_ok]
          unfold Instr.slice
          rw [Sem.run_bind, run_underlying' hu]
          simp only [Result.andThen_ok, Instr.sliceBounds, Instr.sliceBound, asIntOf, Sem.run_bind, Sem.run_pure, A.val, h1, and_self, if_true, run_sizeOf hs]
          simp [h2, add_at]
        · cases h
      · cases h
    · rename_i e hu
      split at h
      · rename_i s hs
        rw [nbeq, Bool.cond_decide] at h
        split at h
        · rename_i hj
          cases h
          subst hj
          obtain rfl := den_sn hx
          refine ⟨.slice none 0 0, rfl, fun w => ?_⟩
          unfold Instr.sliceAt
          rw [Sem.run_bind, run_underlying' hu]
          simp only [Result.andThen_ok]
          unfold Instr.slice
          rw [Sem.run_bind, run_underlying' hu]
          simp only [Result.andThen_ok, Instr.sliceBounds, Instr.sliceBound, asIntOf, Sem.run_bind, Sem.run_pure, A.val]
          simp [run_sizeOf hs]
        · cases h
      · cases h
    · cases h
  · cases h
theorem len_ok {ty : TypeId} {x v : V} (h : lenA P ty x = some v) (ts : TypeId) :
    ∀ r vx, x.Den g r vx → ∃ u, v.Den g r u ∧ ∀ w, (Builtin.len_ #[ty] ts #[vx]).run P w = .ok u w := by
  intro r vx hx
  unfold lenA at h
  split at h
  · rename_i e n o l c hu
    cases hk : inKB .i64 (.ofNat l)
    · rw [hk] at h; cases h
    · rw [hk] at h
      simp only [cond_true] at h
      cases h
      obtain ⟨q, hq, rfl⟩ := den_s hx
      refine ⟨_, mk_i r (inKB_in hk : inK .i64 ((A.k (.ofNat l)).val g)), fun w => ?_⟩
      simp [Builtin.len_, run_underlying' hu, goInt, A.val]
  · rename_i e hu
    cases h
    obtain rfl := den_sn hx
    refine ⟨_, mk_i r (k := .i64) (a := .k 0) (inK_i64.2 (by show (_ : Int) ≤ 0 ∧ (0 : Int) ≤ _; omega)), fun w => ?_⟩
    simp [Builtin.len_, run_underlying' hu, goInt, A.val]
  · rename_i n e hu
    cases hk : inKB .i64 (.ofNat n)
    · rw [hk] at h; cases h
    · rw [hk] at h
      simp only [cond_true] at h
      cases h
      refine ⟨_, mk_i r (inKB_in hk : inK .i64 ((A.k (.ofNat n)).val g)), fun w => ?_⟩
      unfold Builtin.len_
      simp only [List.getElem?_toArray, List.getElem?_cons_zero]
      rw [Sem.run_bind, run_underlying' hu]
      simp [goInt, A.val]
  · cases h
end
end Go.Proofs.Ytahedampmjfoeaa.SX
