/- The runner: operators. -/
import Derived.Test.YtahedampmjfoeaaSxD
namespace Go.Proofs.Ytahedampmjfoeaa.SX
open Go

section
variable {P : Program} {U : Nat → List Int → Int} {X : FuncId → Nat} {g : Sg}
theorem cmpF_run (op : BinOp) (h : isCmp op = true) (a b : Int) (w : World) : (Op.intCmp op a b).run P w = .ok (.bool (cmpF op a b)) w := by
  cases op <;> simp [isCmp] at h <;> simp [Op.intCmp, cmpF, ieq_iff, ile_iff, bne]
  · rw [Bool.eq_iff_iff]; simp
  · rw [Bool.eq_iff_iff]; simp
  · rw [Bool.eq_iff_iff]; simp
  · rw [Bool.eq_iff_iff]; simp
def intSem (op : BinOp) (k : IntKind) (a b : Int) : Sem Value := match op with
  | .add | .sub | .mul => Op.intArith op k a b
  | .quo | .rem => Op.intDiv op k a b
  | .and | .or | .xor | .andNot => Op.intBits op k a b
  | _ => Op.intCmp op a b
theorem binOp_int {op : BinOp} {ty : TypeId} {k : IntKind} {a b : Int} (h1 : op ≠ .shl) (h2 : op ≠ .shr) : binOp op ty (.int k a) (.int k b) = intSem op k a b := by
  cases op <;> first | (exact absurd rfl h1) | (exact absurd rfl h2) | (simp [binOp, intSem])
theorem tmod_in {k : IntKind} {a b : Int} (h : inK k a) : inK k (a.tmod b) := by
  have h1 : (a.tmod b).natAbs ≤ a.natAbs := by
    rw [Int.natAbs_tmod]; exact Nat.mod_le _ _
  have h2 : 0 ≤ a → 0 ≤ a.tmod b := fun ha => Int.tmod_nonneg b ha
  have h3 : k.min ≤ 0 ∧ 0 ≤ k.max := by cases k <;> decide
  obtain ⟨l, u⟩ := h
  obtain ⟨h3, h4⟩ := h3
  refine ⟨?_, ?_⟩ <;> by_cases ha : 0 ≤ a
  · have := h2 ha; omega
  · omega
  · have := h2 ha; omega
  · have : a.tmod b ≤ 0 := by
      have := Int.tmod_nonneg b (show 0 ≤ -a by omega)
      rw [Int.neg_tmod] at this; omega
    omega
theorem fdiv_in {k : IntKind} {a : Int} {n : Nat} (h : inK k a) : inK k (a.fdiv (2 ^ n)) := by
  have h3 : k.min ≤ 0 ∧ 0 ≤ k.max := by cases k <;> decide
  have hp : (0 : Int) < 2 ^ n := Int.pow_pos (by decide)
  rw [Int.fdiv_eq_ediv_of_nonneg _ (Int.le_of_lt hp)]
  obtain ⟨l, u⟩ := h
  obtain ⟨h3, h4⟩ := h3
  by_cases ha : 0 ≤ a
  · have h1 := Int.ediv_nonneg ha (Int.le_of_lt hp)
    have h2 := Int.ediv_le_self (2 ^ n) ha
    exact ⟨by omega, by omega⟩
  · have h1 : a / 2 ^ n < 0 := Int.ediv_neg_of_neg_of_pos (by omega) hp
    have h2 : a ≤ a / 2 ^ n := by
      rw [Int.le_ediv_iff_mul_le hp]
      have h5 : (1 : Int) ≤ 2 ^ n := by omega
      have := Int.mul_le_mul_of_nonneg_left h5 (show 0 ≤ -a by omega)
      have e := Int.neg_mul a (2 ^ n)
      omega
    exact ⟨by omega, by omega⟩
theorem intOp_ok {op : BinOp} {k : IntKind} {a b : A} {v : V} {st st' : St} (hs1 : op ≠ .shl) (hs2 : op ≠ .shr) (h : intOp U op k a b st = some (v, st')) (hg : Good U g st') :
    Good U g st ∧ Same st st' ∧ (inK k (a.val g) → ∀ r, ∃ u, v.Den g r u ∧ ∀ ty w, (binOp op ty (.int k (a.val g)) (.int k (b.val g))).run P w = .ok u w) := by
  unfold intOp at h
  cases hc : isCmp op
  · rw [hc] at h
    simp only [cond_false] at h
    cases hb : isArith op || isBits op
    · rw [hb] at h
      simp only [cond_false] at h
      split at h
      · rename_i z
        rw [ieq_iff, Bool.cond_decide] at h
        split at h
        · cases h
        · rename_i hz
          cases h
          obtain ⟨h1, h2, h3⟩ := app_ok2 _ _ _ hg
          refine ⟨h1, h2, fun _ r => ⟨_, mk_i r (by rw [h3]; simp only [mean, List.map, wrapF_eq]; exact wrap_in _ _), fun ty w => ?_⟩⟩
          rw [binOp_int hs1 hs2, h3]
          simp [intSem, Op.intDiv, A.val, hz, mean, wrapF_eq]
      · rename_i z
        rw [ieq_iff, Bool.cond_decide] at h
        split at h
        · cases h
        · rename_i hz
          cases h
          obtain ⟨h1, h2, h3⟩ := app_ok2 _ _ _ hg
          refine ⟨h1, h2, fun hin r => ⟨_, mk_i r (by rw [h3]; exact tmod_in hin), fun ty w => ?_⟩⟩
          rw [binOp_int hs1 hs2, h3]
          simp [intSem, Op.intDiv, A.val, hz, mean]
      · cases h
    · rw [hb] at h
      simp only [cond_true] at h
      cases h
      obtain ⟨h1, h2, h3⟩ := app_ok2 _ _ _ hg
      refine ⟨h1, h2, fun _ r => ⟨_, mk_i r (by
        rw [h3]
        cases op <;> simp [isArith, isBits] at hb <;> simp only [mean, List.map, wrapF_eq] <;> exact wrap_in _ _), fun ty w => ?_⟩⟩
      rw [binOp_int hs1 hs2, h3]
      cases op <;> simp [isArith, isBits] at hb <;> simp [intSem, Op.intArith, Op.intBits, mean, wrapF_eq]
  · rw [hc] at h
    simp only [cond_true] at h
    cases h
    obtain ⟨h1, h2, h3⟩ := app_ok2 _ _ _ hg
    refine ⟨h1, h2, fun _ r => ⟨_, mk_b r _, fun ty w => ?_⟩⟩
    rw [binOp_int hs1 hs2, h3]
    have := cmpF_run (P := P) op hc (a.val g) (b.val g) w
    cases op <;> simp [isCmp] at hc <;> simp only [intSem, mean, List.map, ieq_b2i] <;> exact this
theorem kmin_eq (a b : Nat) : kmin a b = min a b := by
  unfold kmin; rw [nble, Bool.cond_decide, Nat.min_def]
theorem shOp_ok {op : BinOp} {k k' : IntKind} {a b : A} {v : V} {st st' : St} (h : shOp U op k a b st = some (v, st')) (hg : Good U g st') :
    Good U g st ∧ Same st st' ∧ (op = .shl ∨ op = .shr) ∧ (inK k (a.val g) → ∀ r, ∃ u, v.Den g r u ∧ ∀ ty w, (binOp op ty (.int k (a.val g)) (.int k' (b.val g))).run P w = .ok u w) := by
  unfold shOp at h
  split at h
  · rename_i n
    have hn : ¬ (Int.ofNat n < 0) := by show ¬ ((n : Int) < 0); omega
    split at h
    · split at h
      rename_i rr st1 happ
      cases h
      obtain ⟨h1, h2, h3⟩ := app_ok happ hg
      refine ⟨h1, h2, .inl rfl, fun _ r => ⟨_, mk_i r (by rw [h3]; simp only [mean, List.map, wrapF_eq]; exact wrap_in _ _), fun ty w => ?_⟩⟩
      rw [h3]
      simp only [List.map, mean, wrapF_eq, kmin_eq]
      generalize a.val g = av
      show (binOp .shl ty (.int k av) (.int k' (Int.ofNat n))).run P w = _
      simp only [binOp, Op.shift]
      rw [if_neg hn]
      rfl
    · split at h
      rename_i rr st1 happ
      cases h
      obtain ⟨h1, h2, h3⟩ := app_ok happ hg
      refine ⟨h1, h2, .inr rfl, fun hin r => ⟨_, mk_i r (by rw [h3]; exact fdiv_in hin), fun ty w => ?_⟩⟩
      rw [h3]
      simp only [List.map, mean, kmin_eq]
      generalize a.val g = av
      show (binOp .shr ty (.int k av) (.int k' (Int.ofNat n))).run P w = _
      simp only [binOp, Op.shift]
      rw [if_neg hn]
      rfl
    · cases h
  · cases h
theorem min_ok {p : Pr} {args : List V} {v : V} {st st' : St} (hp : p = .min ∨ p = .max) (h : minA U p args st = some (v, st')) (hg : Good U g st') (ts : Array TypeId) (t : TypeId) :
    Good U g st ∧ Same st st' ∧ ∀ r vs, VL g r args vs → ∃ u, v.Den g r u ∧ ∀ w, ((if p = .min then Builtin.min_ ts t ⟨vs⟩ else Builtin.max_ ts t ⟨vs⟩)).run P w = .ok u w := by
  have one : ∀ (x y : Int), mean U p [x, y] = (if p = .min then (if y < x then y else x) else (if y > x then y else x)) := fun x y => by
    rcases hp with rfl | rfl
    · simp only [mean, ile_iff, if_true, Bool.cond_decide]
      by_cases hh : x ≤ y
      · rw [if_pos hh, if_neg (by omega)]
      · rw [if_neg hh, if_pos (by omega)]
    · simp only [mean, ile_iff, reduceCtorEq, if_false, Bool.cond_decide]
      by_cases hh : y ≤ x
      · rw [if_pos hh, if_neg (by omega)]
      · rw [if_neg hh, if_pos (by omega)]
  have two : ∀ (k : IntKind) (x y : Int), inK k x → inK k y → inK k (mean U p [x, y]) := fun k x y hx hy => by
    rw [one]; split <;> split <;> assumption
  unfold minA at h
  split at h
  · rename_i k a k' b
    split at h
    · rename_i hk
      subst hk
      split at h
      rename_i rr st1 happ
      cases h
      obtain ⟨h1, h2, h3⟩ := app_ok happ hg
      refine ⟨h1, h2, fun r vs hv => ?_⟩
      match vs, hv with
      | [x, y], ⟨hx, hy, _⟩ =>
        have i1 := den_in hx
        have i2 := den_in hy
        obtain rfl := den_i hx
        obtain rfl := den_i hy
        refine ⟨_, mk_i r (by rw [h3]; exact two k _ _ i1 i2), fun w => ?_⟩
        rw [h3]
        simp only [List.map, one]
        rcases hp with rfl | rfl <;> simp [Builtin.min_, Builtin.min2, Builtin.max_, Builtin.max2]
    · cases h
  · rename_i k a k' b k'' c
    split at h
    · rename_i hk
      obtain ⟨rfl, rfl⟩ := hk
      split at h
      rename_i rr st1 happ
      split at h
      rename_i rr2 st2 happ2
      cases h
      obtain ⟨h1', h2', h3'⟩ := app_ok happ2 hg
      obtain ⟨h1, h2, h3⟩ := app_ok happ h1'
      refine ⟨h1, h2.trans h2', fun r vs hv => ?_⟩
      match vs, hv with
      | [x, y, z], ⟨hx, hy, hz, _⟩ =>
        have i1 := den_in hx
        have i2 := den_in hy
        have i3 := den_in hz
        obtain rfl := den_i hx
        obtain rfl := den_i hy
        obtain rfl := den_i hz
        refine ⟨_, mk_i r (by rw [h3']; simp only [List.map]; rw [h3]; exact two k _ _ (two k _ _ i1 i2) i3), fun w => ?_⟩
        rw [h3']
        simp only [List.map, one, h3]
        rcases hp with rfl | rfl <;> simp [Builtin.min_, Builtin.min2, Builtin.max_, Builtin.max2]
    · cases h
  · cases h

/-! ### Values put together -/
theorem zero_ok {t : TypeId} {l : List C} (h : zeroA P t = some l) : ∃ i z, P.info? t = some i ∧ i.zero = some z ∧ ∀ r, ∃ vs, z.cells = ⟨vs⟩ ∧ DL g r l vs := by
  unfold zeroA at h
  split at h
  · rename_i i hi
    split at h
    · rename_i z hz
      split at h
      · rename_i x hx
        cases h
        exact ⟨i, z, hi, hz, fun r => (W.Den.cells (vOf_den (g := g) (r := r) hx : V.Den g r (.w x) z))⟩
      · cases h
    · cases h
  · cases h
/-- Parts, one by one. -/
def PL (g : Sg) (r : Rho) : List (Nat × W) → List (Nat × Value) → Prop
  | [], [] => True
  | (i, x) :: l, (j, v) :: vs => i = j ∧ x.Den g r v ∧ PL g r l vs
  | _, _ => False
theorem parts_ok {n : Nat} {r : Rho} {t : T} {a : Act} (hT : TRel n g r t a) : ∀ {ps : List (Nat × Operand)} {l : List (Nat × W)}, partsA t ps = some l → PL g r l (ps.map fun (i, x) => (i, a.eval x))
  | [], l, h => by simp [partsA] at h; subst h; trivial
  | (i, o) :: ps, l, h => by
    unfold partsA at h
    split at h
    · rename_i x hx
      split at h
      · rename_i m hm
        cases h
        exact ⟨rfl, ev_den hT hx, parts_ok hT hm⟩
      · cases h
    · cases h
theorem foldl_set (cs : List Value) : ∀ (vs : List Value) (off k : Nat), off + k + vs.length ≤ cs.length → 
    ((vs.zipIdx k).foldl (fun (cs : Array Value) (c, j) => cs.setIfInBounds (off + j) c) ⟨cs⟩).toList = cs.take (off + k) ++ vs ++ cs.drop (off + k + vs.length) := by
  intro vs
  induction vs generalizing cs with
  | nil => intro off k h; simp
  | cons v vs ih =>
    intro off k h
    simp only [List.zipIdx_cons, List.foldl_cons]
    have hs : (⟨cs⟩ : Array Value).setIfInBounds (off + k) v = ⟨cs.set (off + k) v⟩ := by
      apply Array.ext'; simp
    rw [hs]
    rw [ih (cs.set (off + k) v) off (k + 1) (by simp at h ⊢; omega)]
    apply List.ext_getElem?
    intro j
    simp only [List.getElem?_append, List.length_append, List.length_take, List.length_set, List.getElem?_take, List.getElem?_drop, List.getElem?_set, List.length_cons]
    simp at h
    have e1 : min (off + (k + 1)) cs.length = off + k + 1 := by omega
    have e2 : min (off + k) cs.length = off + k := by omega
    simp only [e1, e2]
    by_cases h1 : j < off + k
    · have : j < off + k + 1 + vs.length := by omega
      have h3 : j < off + k + 1 := by omega
      have h4 : j < off + (k + 1) := by omega
      have h5 : ¬ off + k = j := by omega
      have h6 : j < off + k + (vs.length + 1) := by omega
      simp [this, h1, h3, h4, h5, h6]
    · by_cases h2 : j = off + k
      · subst h2
        have h4 : off + k < off + k + 1 + vs.length := by omega
        have h5 : off + k < off + (k + 1) := by omega
        have h6 : off + k < cs.length := by omega
        simp [h4, h5, h6]
      · have h3 : ¬ j < off + k + 1 := by omega
        have h7 : ¬ off + k = j := by omega
        by_cases h8 : j < off + k + 1 + vs.length
        · have h9 : j < off + k + (vs.length + 1) := by omega
          have h10 : j - (off + k) = (j - (off + k + 1)) + 1 := by omega
          simp only [h1, h3, h8, h9, if_true, if_false]
          rw [h10, List.getElem?_cons_succ]
        · have h9 : ¬ j < off + k + (vs.length + 1) := by omega
          simp only [h8, h9, if_false]
          have h11 : ¬ off + k = off + (k + 1) + vs.length + (j - (off + k + 1 + vs.length)) := by omega
          simp only [h11, if_false]
          congr 1
          omega
theorem fill_ok {r : Rho} {place : Nat → Option (Nat × Nat)} {placeS : Nat → Option (Nat × Nat)} (hp : ∀ i p, place i = some p → placeS i = some p) :
    ∀ {parts : List (Nat × W)} {vs : List (Nat × Value)} {cells l : List C} {cv : List Value}, fillA place cells parts = some l → PL g r parts vs → DL g r cells cv →
      ∃ ws, Instr.fill placeS ⟨cv⟩ vs = some ⟨ws⟩ ∧ DL g r l ws
  | [], vs, cells, l, cv, h, hP, hD => by
    cases vs with
    | nil => simp [fillA] at h; subst h; exact ⟨cv, rfl, hD⟩
    | cons => exact hP.elim
  | (i, x) :: parts, vs, cells, l, cv, h, hP, hD => by
    cases vs with
    | nil => exact hP.elim
    | cons y vs =>
      obtain ⟨j, v⟩ := y
      obtain ⟨rfl, hx, hP⟩ := hP
      unfold fillA at h
      split at h
      · cases h
      · rename_i off size hpl
        rw [nbeq, nble, ← Bool.decide_and, Bool.cond_decide] at h
        split at h
        · rename_i hc
          obtain ⟨hc1, hc2⟩ := hc
          obtain ⟨us, hu, hd⟩ := W.Den.cells hx
          have hul : us.length = size := by rw [hd.length]; exact hc1
          have hcl : cv.length = cells.length := hD.length
          have hnew : DL g r (cells.take off ++ x.cells ++ cells.drop (off + size)) (cv.take off ++ us ++ cv.drop (off + size)) :=
            ((hD.take off).append hd).append (hD.drop (off + size))
          obtain ⟨ws, h1, h2⟩ := fill_ok hp h hP hnew
          refine ⟨ws, ?_, h2⟩
          have hz : ((decide (v.cells.size ≠ size)) || decide (off + v.cells.size > cv.length)) = false := by
            rw [hu]; simp [hul]; omega
          have hfold : v.cells.zipIdx.foldl (fun (cs : Array Value) x => cs.setIfInBounds (off + x.2) x.1) ⟨cv⟩ = ⟨cv.take off ++ us ++ cv.drop (off + size)⟩ := by
            rw [hu]
            apply Array.ext'
            have hf := foldl_set cv us off 0 (by omega)
            simp only [Nat.add_zero, hul] at hf
            rw [← hf, ← Array.foldl_toList, Array.toList_zipIdx]
          have key : Instr.fill placeS ⟨cv⟩ ((i, v) :: vs) = Instr.fill placeS (v.cells.zipIdx.foldl (fun (cs : Array Value) x => cs.setIfInBounds (off + x.2) x.1) ⟨cv⟩) vs := by
            rw [Instr.fill, hp _ _ hpl]
            show (if (decide (v.cells.size ≠ size) || decide (off + v.cells.size > cv.length)) = true then none else _) = _
            rw [hz]
            rfl
          rw [key, hfold]
          exact h1
        · cases h
end
end Go.Proofs.Ytahedampmjfoeaa.SX
