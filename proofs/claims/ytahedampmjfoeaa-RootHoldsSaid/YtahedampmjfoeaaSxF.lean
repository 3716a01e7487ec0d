/- The runner: values compared part by part. -/
import Derived.Test.YtahedampmjfoeaaSxE
namespace Go.Proofs.Ytahedampmjfoeaa.SX
open Go
section
variable {P : Program} {U : Nat → List Int → Int} {X : FuncId → Nat} {g : Sg}
def ceq : Value → Value → Bool
  | .int _ a, .int _ b => a == b
  | .bool a, .bool b => a == b
  | _, _ => false
def aeq : List Value → List Value → Bool
  | [], [] => true
  | x :: xs, y :: ys => ceq x y && aeq xs ys
  | _, _ => false
def kin : Bool → Value → Value → Prop
  | true, .int k _, .int k' _ => k = k'
  | false, .bool _, .bool _ => True
  | _, _, _ => False
def akin : List Bool → List Value → List Value → Prop
  | [], [], [] => True
  | k :: ks, x :: xs, y :: ys => kin k x y ∧ akin ks xs ys
  | _, _, _ => False
theorem akin.split : ∀ {a b : List Bool} {xs ys : List Value}, akin (a ++ b) xs ys → akin a (xs.take a.length) (ys.take a.length) ∧ akin b (xs.drop a.length) (ys.drop a.length)
  | [], b, xs, ys, h => by simpa [akin] using h
  | k :: a, b, x :: xs, y :: ys, ⟨h1, h2⟩ => by
    obtain ⟨h3, h4⟩ := akin.split h2
    exact ⟨⟨h1, h3⟩, h4⟩
  | _ :: _, _, [], _, h => by cases h
  | _ :: _, _, _ :: _, [], h => by cases h
theorem akin.len : ∀ {ks : List Bool} {xs ys : List Value}, akin ks xs ys → xs.length = ks.length ∧ ys.length = ks.length
  | [], [], [], _ => ⟨rfl, rfl⟩
  | _ :: _, _ :: _, _ :: _, ⟨_, h⟩ => by obtain ⟨h1, h2⟩ := akin.len h; simp [h1, h2]
  | [], _ :: _, _, h => by cases h
  | [], [], _ :: _, h => by cases h
  | _ :: _, [], _, h => by cases h
  | _ :: _, _ :: _, [], h => by cases h
theorem aeq_append : ∀ (a b c d : List Value), a.length = b.length → aeq (a ++ c) (b ++ d) = (aeq a b && aeq c d)
  | [], [], c, d, _ => by simp [aeq]
  | x :: a, y :: b, c, d, h => by simp at h; simp [aeq, aeq_append a b c d h, Bool.and_assoc]
  | [], _ :: _, _, _, h => by simp at h
  | _ :: _, [], _, _, h => by simp at h
theorem aeq_split (xs ys : List Value) (n : Nat) (h : xs.length = ys.length) : aeq xs ys = (aeq (xs.take n) (ys.take n) && aeq (xs.drop n) (ys.drop n)) := by
  rw [← aeq_append _ _ _ _ (by simp [h]), List.take_append_drop, List.take_append_drop]
theorem run_loop {β : Type} {w : World} {F : β → Option Bool × Unit → Sem (ForInStep (Option Bool × Unit))} (f : β → Bool) : ∀ (l : List β),
    (∀ x ∈ l, ∀ s, (F x s).run P w = .ok (bif f x then .yield (none, ()) else .done (some false, ())) w) →
    (forIn l (none, ()) F).run P w = .ok (bif l.all f then (none, ()) else (some false, ())) w
  | [], _ => by simp
  | x :: l, h => by
    rw [List.forIn_cons, Sem.run_bind, h x (List.mem_cons_self ..)]
    simp only [Result.andThen_ok, List.all_cons]
    cases hx : f x
    · simp
    · simp only [cond_true, Bool.true_and]
      exact run_loop f l (fun y hy s => h y (List.mem_cons_of_mem _ hy) s)
def MainEq (P : Program) (D : Nat) (t : TypeId) (ks : List Bool) : Prop := ∀ (xs ys : List Value), akin ks xs ys → ∀ w,
  (isAggB P t = some true → (Op.equalIn D t (.agg ⟨xs⟩) (.agg ⟨ys⟩)).run P w = .ok (aeq xs ys) w) ∧
  (isAggB P t = some false → ∃ x y, xs = [x] ∧ ys = [y] ∧ (Op.equalIn D t x y).run P w = .ok (aeq xs ys) w) ∧ isAggB P t ≠ none
theorem part_run {t : TypeId} {n : Nat} (hs : sizeB P t = some n) (XS : List Value) (off : Nat) (w : World) :
    (isAggB P t = some true → (part t ⟨XS⟩ off).run P w = .ok (.agg ⟨(XS.drop off).take n⟩) w) ∧
    (isAggB P t = some false → ∀ x, (XS.drop off).take n = [x] → (part t ⟨XS⟩ off).run P w = .ok x w) := by
  refine ⟨fun ha => ?_, fun ha x hx => ?_⟩
  · unfold part
    rw [Sem.run_bind, run_isAgg ha]
    simp only [Result.andThen_ok, if_true, Sem.run_bind, run_sizeOf hs, Sem.run_pure]
    congr 2
    apply Array.ext'
    simp [List.extract_eq_take_drop]
  · unfold part
    rw [Sem.run_bind, run_isAgg ha]
    have : XS[off]? = some x := by
      have h1 : ((XS.drop off).take n)[0]? = some x := by rw [hx]; rfl
      rw [List.getElem?_take] at h1
      split at h1
      · simpa using h1
      · cases h1
    simp [this]
theorem part_eq {D : Nat} {t : TypeId} {ks : List Bool} (hm : MainEq P D t ks) (hs : sizeB P t = some ks.length) (XS YS : List Value) (off : Nat) (hk : akin ks ((XS.drop off).take ks.length) ((YS.drop off).take ks.length)) (w : World) :
    ∃ a b, (part t ⟨XS⟩ off).run P w = .ok a w ∧ (part t ⟨YS⟩ off).run P w = .ok b w ∧ (Op.equalIn D t a b).run P w = .ok (aeq ((XS.drop off).take ks.length) ((YS.drop off).take ks.length)) w := by
  obtain ⟨h1, h2, h3⟩ := hm _ _ hk w
  obtain ⟨p1, p2⟩ := part_run hs XS off w
  obtain ⟨q1, q2⟩ := part_run hs YS off w
  cases ha : isAggB P t with
  | none => exact absurd ha h3
  | some b =>
    cases b
    · obtain ⟨x, y, hx, hy, he⟩ := h2 ha
      exact ⟨x, y, p2 ha x hx, q2 ha y hy, he⟩
    · exact ⟨_, _, p1 ha, q1 ha, h1 ha⟩
theorem struct_all {D : Nat} {fl : TypeId → Option (List Bool)} (hfl : ∀ t n, fl t = some n → MainEq P D t n) (XS YS : List Value) (hl : XS.length = YS.length) (w : World)
    {F : Field → Option Bool × Unit → Sem (ForInStep (Option Bool × Unit))}
    (hF : ∀ f s, f.name ≠ "_" → ∀ a b q, (part f.type ⟨XS⟩ f.offset).run P w = .ok a w → (part f.type ⟨YS⟩ f.offset).run P w = .ok b w → (Op.equalIn D f.type a b).run P w = .ok q w →
      (F f s).run P w = .ok (bif q then .yield (none, ()) else .done (some false, ())) w) :
    ∀ (l : List Field) (o : Nat) (ks : List Bool), flatFs P fl l o = some ks → akin ks (XS.drop o) (YS.drop o) → (forIn l (none, ()) F).run P w = .ok (bif aeq (XS.drop o) (YS.drop o) then (none, ()) else (some false, ())) w
  | [], o, ks, h, hk => by
    simp [flatFs] at h
    subst h
    obtain ⟨h1, h2⟩ := hk.len
    rw [List.eq_nil_of_length_eq_zero h1, List.eq_nil_of_length_eq_zero h2]
    simp [aeq]
  | f :: l, o, ks, h, hk => by
    unfold flatFs at h
    split at h
    · rename_i hc
      obtain ⟨hn, ho⟩ := hc
      split at h
      · rename_i k1 s h1 h2
        split at h
        · rename_i hss
          subst hss
          split at h
          · rename_i k2 h3
            cases h
            obtain ⟨a1, a2⟩ := hk.split
            rw [← ho] at a1
            obtain ⟨a, b, ha, hb, hq⟩ := part_eq (hfl _ _ h1) h2 XS YS f.offset a1 w
            rw [List.forIn_cons, Sem.run_bind, hF f _ hn a b _ ha hb hq]
            simp only [Result.andThen_ok]
            rw [List.drop_drop, List.drop_drop] at a2
            rw [aeq_split (XS.drop o) (YS.drop o) k1.length (by simp [hl]), List.drop_drop, List.drop_drop, ho]
            cases aeq ((XS.drop o).take k1.length) ((YS.drop o).take k1.length)
            · simp
            · simp only [cond_true, Bool.true_and]
              exact struct_all hfl XS YS hl w hF l (o + k1.length) k2 h3 a2
          · cases h
        · cases h
      · cases h
    · cases h
theorem array_all {D : Nat} {e : TypeId} {k1 : List Bool} (hm : MainEq P D e k1) (hs : sizeB P e = some k1.length) (XS YS : List Value) (hl : XS.length = YS.length) (w : World)
    {F : Nat → Option Bool × Unit → Sem (ForInStep (Option Bool × Unit))}
    (hF : ∀ i st a b q, (part e ⟨XS⟩ (i * k1.length)).run P w = .ok a w → (part e ⟨YS⟩ (i * k1.length)).run P w = .ok b w → (Op.equalIn D e a b).run P w = .ok q w →
      (F i st).run P w = .ok (bif q then .yield (none, ()) else .done (some false, ())) w) :
    ∀ (k i : Nat), akin (repL k1 k) (XS.drop (i * k1.length)) (YS.drop (i * k1.length)) → (forIn (List.range' i k) (none, ()) F).run P w = .ok (bif aeq (XS.drop (i * k1.length)) (YS.drop (i * k1.length)) then (none, ()) else (some false, ())) w
  | 0, i, hk => by
    obtain ⟨h1, h2⟩ := hk.len
    rw [List.eq_nil_of_length_eq_zero h1, List.eq_nil_of_length_eq_zero h2]
    simp [aeq]
  | k + 1, i, hk => by
    obtain ⟨a1, a2⟩ := akin.split (a := k1) (b := repL k1 k) hk
    obtain ⟨a, b, ha, hb, hq⟩ := part_eq hm hs XS YS (i * k1.length) a1 w
    rw [List.range'_succ, List.forIn_cons, Sem.run_bind, hF i _ a b _ ha hb hq]
    simp only [Result.andThen_ok]
    have e1 : i * k1.length + k1.length = (i + 1) * k1.length := by rw [Nat.add_mul]; omega
    rw [List.drop_drop, List.drop_drop, e1] at a2
    rw [aeq_split (XS.drop (i * k1.length)) (YS.drop (i * k1.length)) k1.length (by simp [hl]), List.drop_drop, List.drop_drop]
    rw [e1]
    cases aeq ((XS.drop (i * k1.length)).take k1.length) ((YS.drop (i * k1.length)).take k1.length)
    · simp
    · simp only [cond_true, Bool.true_and]
      exact array_all hm hs XS YS hl w hF k (i + 1) a2
theorem step_run {α : Type} {a b : Value} {q : Bool} {w : World} {t : TypeId} {x y : Sem Value} {D : Nat} {A B : Sem α} {r : α} (ha : x.run P w = .ok a w) (hb : y.run P w = .ok b w) (hq : (Op.equalIn D t a b).run P w = .ok q w)
    (hA : A.run P w = .ok r w ∨ q = true) (hB : B.run P w = .ok r w ∨ q = false) :
    (do let u ← x; let v ← y; let z ← Op.equalIn D t u v; if (!z) = true then A else B : Sem α).run P w = .ok r w := by
  rw [Sem.run_bind, ha]
  simp only [Result.andThen_ok]
  rw [Sem.run_bind, hb]
  simp only [Result.andThen_ok]
  rw [Sem.run_bind, hq]
  simp only [Result.andThen_ok]
  cases q
  · simpa using hA
  · simpa using hB
theorem flat_main : ∀ (d : Nat) (t : TypeId) (ks : List Bool), flat P d t = some ks → ∀ D, d ≤ D → MainEq P D t ks
  | 0, t, n, h, _, _ => by simp [flat] at h
  | d + 1, t, n, h, 0, hD => by omega
  | d + 1, t, n, h, D + 1, hD => by
    intro xs ys hk w
    obtain ⟨l1, l2⟩ := hk.len
    unfold flat at h
    split at h
    · rename_i k hu
      cases h
      refine ⟨fun ha => ?_, fun ha => ?_, ?_⟩
      · simp [isAggB, hu] at ha
      · match xs, ys, hk with
        | [x], [y], ⟨hk, _⟩ =>
          refine ⟨x, y, rfl, rfl, ?_⟩
          cases x <;> cases y <;> simp only [kin] at hk
          rename_i k1 a k2 b
          subst hk
          unfold Op.equalIn
          rw [Sem.run_bind, run_underlying' hu]
          simp [aeq, ceq]
      · simp [isAggB, hu]
    · rename_i hu
      cases h
      refine ⟨fun ha => ?_, fun ha => ?_, ?_⟩
      · simp [isAggB, hu] at ha
      · match xs, ys, hk with
        | [x], [y], ⟨hk, _⟩ =>
          refine ⟨x, y, rfl, rfl, ?_⟩
          cases x <;> cases y <;> simp only [kin] at hk
          rename_i a b
          unfold Op.equalIn
          rw [Sem.run_bind, run_underlying' hu]
          simp [aeq, ceq]
      · simp [isAggB, hu]
    · rename_i len e hu
      split at h
      · rename_i k1 s h1 h2
        split at h
        · rename_i hss
          subst hss
          cases h
          have hm := flat_main d e k1 h1 D (by omega)
          refine ⟨fun ha => ?_, fun ha => ?_, ?_⟩
          · unfold Op.equalIn
            rw [Sem.run_bind, run_underlying' hu]
            simp only [Result.andThen_ok]
            rw [Sem.run_bind, run_sizeOf h2]
            simp only [Result.andThen_ok]
            rw [Sem.run_bind, Std.Legacy.Range.forIn_eq_forIn_range']
            simp only [Std.Legacy.Range.size, Nat.sub_zero, Nat.add_sub_cancel, Nat.div_one]
            rw [array_all hm h2 xs ys (l1.trans l2.symm) w (fun i st a b q ha hb hq => by
              refine step_run ha hb hq ?_ ?_ <;> cases q <;> simp) len 0 (by simpa using hk)]
            simp only [Result.andThen_ok, Nat.zero_mul, List.drop_zero]
            cases aeq xs ys <;> rfl
          · simp [isAggB, hu] at ha
          · simp [isAggB, hu]
        · cases h
      · cases h
    · rename_i fs hu
      split at h
      · cases h
      · rename_i hst
        refine ⟨fun ha => ?_, fun ha => ?_, ?_⟩
        · unfold Op.equalIn
          rw [Sem.run_bind, run_underlying' hu]
          simp only [Result.andThen_ok]
          rw [Sem.run_bind]
          simp only [run_program, Result.andThen_ok]
          rw [if_neg hst, Sem.run_bind, ← Array.forIn_toList]
          rw [struct_all (fun t n hf => flat_main d t n hf D (by omega)) xs ys (l1.trans l2.symm) w (fun f s hn a b q ha hb hq => by
              rw [if_pos hn]
              refine step_run ha hb hq ?_ ?_ <;> cases q <;> simp) fs.toList 0 n h (by simpa using hk)]
          simp only [Result.andThen_ok, List.drop_zero]
          cases aeq xs ys <;> rfl
        · simp [isAggB, hu] at ha
        · simp [isAggB, hu]
    · cases h
/-- Comparing cells by what they stand for. -/
theorem eqCells_ok : ∀ {ks : List Bool} {l m : List C} {acc r : A} {st st' : St}, eqCells U ks l m acc st = some (r, st') → Good U g st' →
    Good U g st ∧ Same st st' ∧ ∀ rho vs us, DL g rho l vs → DL g rho m us → akin ks vs us ∧ ieq (r.val g) 1 = (ieq (acc.val g) 1 && aeq vs us)
  | [], [], [], acc, r, st, st', h, hg => by
    simp [eqCells] at h
    obtain ⟨rfl, rfl⟩ := h
    refine ⟨hg, Same.refl _, fun rho vs us h1 h2 => ?_⟩
    rw [h1.nil_inv, h2.nil_inv]
    simp [akin, aeq]
  | true :: ks, .i k a :: l, .i k' b :: m, acc, r, st, st', h, hg => by
    rw [eqCells] at h
    split at h
    · rename_i hkk
      subst hkk
      cases hab : A.beq a b
      · rw [hab] at h
        simp only [cond_false] at h
        obtain ⟨h1, h2, h3⟩ := eqCells_ok h hg
        obtain ⟨p1, p2, p3⟩ := app_ok2 _ _ _ h1
        obtain ⟨q1, q2, q3⟩ := app_ok2 _ _ _ p1
        refine ⟨q1, (q2.trans p2).trans h2, fun rho vs us hv hu => ?_⟩
        obtain ⟨v, vs, rfl, hv1, hv2⟩ := hv.cons_inv
        obtain ⟨u, us, rfl, hu1, hu2⟩ := hu.cons_inv
        obtain rfl := den_i hv1
        obtain rfl := den_i hu1
        obtain ⟨e1, e2⟩ := h3 rho vs us hv2 hu2
        refine ⟨⟨rfl, e1⟩, ?_⟩
        rw [e2, p3]
        simp only [List.map, mean, q3, val_k, aeq, ceq, cmpF]
        rw [ieq_iff (A.val g a) (A.val g b)]
        cases hacc : ieq (A.val g acc) 1
        · simp [ieq]
        · generalize A.val g a = p
          generalize A.val g b = q
          by_cases hh : p = q
          · subst hh; simp [b2i, ieq]
          · have : (p == q) = false := by simpa using hh
            simp [hh, this, b2i, ieq]
      · rw [hab] at h
        simp only [cond_true] at h
        obtain rfl := A.beq_eq hab
        obtain ⟨h1, h2, h3⟩ := eqCells_ok h hg
        refine ⟨h1, h2, fun rho vs us hv hu => ?_⟩
        obtain ⟨v, vs, rfl, hv1, hv2⟩ := hv.cons_inv
        obtain ⟨u, us, rfl, hu1, hu2⟩ := hu.cons_inv
        obtain rfl := den_i hv1
        obtain rfl := den_i hu1
        obtain ⟨e1, e2⟩ := h3 rho vs us hv2 hu2
        exact ⟨⟨rfl, e1⟩, by rw [e2]; simp [aeq, ceq]⟩
    · cases h
  | false :: ks, .b a :: l, .b b :: m, acc, r, st, st', h, hg => by
    rw [eqCells] at h
    cases hab : A.beq a b
    · rw [hab] at h
      simp only [cond_false] at h
      obtain ⟨h1, h2, h3⟩ := eqCells_ok h hg
      obtain ⟨p1, p2, p3⟩ := app_ok2 _ _ _ h1
      obtain ⟨q1, q2, q3⟩ := app_ok2 _ _ _ p1
      refine ⟨q1, (q2.trans p2).trans h2, fun rho vs us hv hu => ?_⟩
      obtain ⟨v, vs, rfl, hv1, hv2⟩ := hv.cons_inv
      obtain ⟨u, us, rfl, hu1, hu2⟩ := hu.cons_inv
      obtain rfl := den_b hv1
      obtain rfl := den_b hu1
      obtain ⟨e1, e2⟩ := h3 rho vs us hv2 hu2
      refine ⟨⟨trivial, e1⟩, ?_⟩
      rw [e2, p3]
      simp only [List.map, mean, q3, val_k, aeq, ceq]
      cases hacc : ieq (A.val g acc) 1
      · simp [ieq]
      · cases ieq (A.val g a) 1 <;> cases ieq (A.val g b) 1 <;> simp [b2i, ieq]
    · rw [hab] at h
      simp only [cond_true] at h
      obtain rfl := A.beq_eq hab
      obtain ⟨h1, h2, h3⟩ := eqCells_ok h hg
      refine ⟨h1, h2, fun rho vs us hv hu => ?_⟩
      obtain ⟨v, vs, rfl, hv1, hv2⟩ := hv.cons_inv
      obtain ⟨u, us, rfl, hu1, hu2⟩ := hu.cons_inv
      obtain rfl := den_b hv1
      obtain rfl := den_b hu1
      obtain ⟨e1, e2⟩ := h3 rho vs us hv2 hu2
      exact ⟨⟨trivial, e1⟩, by rw [e2]; simp [aeq, ceq]⟩
theorem equal_agg {ty : TypeId} {ks : List Bool} (hf : flatOk P ty = some ks) {xs ys : List Value} (hk : akin ks xs ys) (w : World) (x y : Operand) (op : BinOp) :
    (Op.equal ty (.agg ⟨xs⟩) (.agg ⟨ys⟩)).run P w = .ok (aeq xs ys) w ∧ (eqGuard op ty x y (.agg ⟨xs⟩) (.agg ⟨ys⟩)).run P w = .ok () w := by
  unfold flatOk at hf
  cases hc : (isAggB P ty == some true && !P.eqGuardType P.depth ty)
  · rw [hc] at hf; cases hf
  · rw [hc] at hf
    simp only [cond_true] at hf
    rw [Bool.and_eq_true] at hc
    obtain ⟨c1, c2⟩ := hc
    have c1 := eq_of_beq c1
    have c2 : P.eqGuardType P.depth ty = false := by simpa using c2
    refine ⟨?_, ?_⟩
    · obtain ⟨h1, _, _⟩ := flat_main 8 ty ks hf Op.maxDepth (by decide) xs ys hk w
      exact h1 c1
    · unfold eqGuard
      cases op <;> simp [c2]
end
end Go.Proofs.Ytahedampmjfoeaa.SX
