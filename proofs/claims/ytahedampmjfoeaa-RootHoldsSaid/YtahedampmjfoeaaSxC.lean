/- The runner: what symbols stand for. -/
import Derived.Test.YtahedampmjfoeaaSxB
import Derived.Deep.MidRow
import Derived.Laws.CopyRow
import Derived.Laws.Cells
namespace Go.Proofs.Ytahedampmjfoeaa.SX
open Go

abbrev Sg := Nat → Int
abbrev Rho := Nat → Option Nat
def A.val (g : Sg) : A → Int
  | .k z => z
  | .x i => g i
theorem val_k (g : Sg) (z : Int) : (A.k z).val g = z := rfl
/-- Within the bounds of its kind. -/
def inK (k : IntKind) (n : Int) : Prop := k.min ≤ n ∧ n ≤ k.max
instance (k : IntKind) (n : Int) : Decidable (inK k n) := inferInstanceAs (Decidable (_ ∧ _))
theorem inK_i64 {n : Int} : inK .i64 n ↔ -9223372036854775808 ≤ n ∧ n ≤ 9223372036854775807 := Iff.rfl
theorem inK_u64 {n : Int} : inK .u64 n ↔ 0 ≤ n ∧ n ≤ 18446744073709551615 := Iff.rfl
theorem wrap_in (k : IntKind) (n : Int) : inK k (k.wrap n) := by
  unfold inK IntKind.wrap IntKind.min IntKind.max
  cases k <;> simp [IntKind.signed, IntKind.bits] <;> (try split) <;> omega
def C.den (g : Sg) (r : Rho) : C → Option Value
  | .b v => some (.bool (ieq (v.val g) 1))
  | .i k v => if inK k (v.val g) then some (.int k (v.val g)) else none
  | .p n o => match r n with
    | some q => some (.pointer (some ⟨q, o, none⟩))
    | none => none
  | .pn => some (.pointer none)
  | .s n o l c => match r n with
    | some q => some (.slice (some ⟨q, o, none⟩) l c)
    | none => none
  | .sn => some (.slice none 0 0)
/-- A list of cells stands for a list of values. -/
def DL (g : Sg) (r : Rho) (l : List C) (vs : List Value) : Prop := l.map (C.den g r) = vs.map some
def W.Den (g : Sg) (r : Rho) : W → Value → Prop
  | .c x, v => x.den g r = some v
  | .agg l, v => ∃ vs, v = .agg ⟨vs⟩ ∧ DL g r l vs
def WL (g : Sg) (r : Rho) : List W → List Value → Prop
  | [], [] => True
  | x :: l, v :: vs => x.Den g r v ∧ WL g r l vs
  | _, _ => False
def V.Den (g : Sg) (r : Rho) : V → Value → Prop
  | .w x, v => x.Den g r v
  | .tup l, v => ∃ vs, v = .tuple ⟨vs⟩ ∧ WL g r l vs
def VL (g : Sg) (r : Rho) : List V → List Value → Prop
  | [], [] => True
  | x :: l, v :: vs => x.Den g r v ∧ VL g r l vs
  | _, _ => False
def Sub (r r' : Rho) : Prop := ∀ n b, r n = some b → r' n = some b
theorem Sub.refl (r : Rho) : Sub r r := fun _ _ h => h
theorem Sub.trans {r r1 r2 : Rho} (h : Sub r r1) (h' : Sub r1 r2) : Sub r r2 := fun n b k => h' n b (h n b k)
theorem C.den_sub {g : Sg} {r r' : Rho} (h : Sub r r') {c : C} {v : Value} (hc : c.den g r = some v) : c.den g r' = some v := by
  cases c with
  | p n o =>
    simp only [C.den] at hc ⊢
    split at hc
    · rename_i b hb; rw [h n b hb]; exact hc
    · cases hc
  | s n o l c =>
    simp only [C.den] at hc ⊢
    split at hc
    · rename_i b hb; rw [h n b hb]; exact hc
    · cases hc
  | _ => exact hc
theorem DL.nil {g : Sg} {r : Rho} : DL g r [] [] := rfl
theorem DL.cons {g : Sg} {r : Rho} {c : C} {l : List C} {v : Value} {vs : List Value} (h : c.den g r = some v) (hl : DL g r l vs) : DL g r (c :: l) (v :: vs) := by
  unfold DL at *; simp [h, hl]
theorem DL.cons_inv {g : Sg} {r : Rho} {c : C} {l : List C} {vs : List Value} (h : DL g r (c :: l) vs) : ∃ v vs', vs = v :: vs' ∧ c.den g r = some v ∧ DL g r l vs' := by
  unfold DL at *
  cases vs with
  | nil => simp at h
  | cons v vs' => simp at h; exact ⟨v, vs', rfl, h.1, h.2⟩
theorem DL.nil_inv {g : Sg} {r : Rho} {vs : List Value} (h : DL g r [] vs) : vs = [] := by
  unfold DL at h; cases vs <;> simp_all
theorem DL.length {g : Sg} {r : Rho} {l : List C} {vs : List Value} (h : DL g r l vs) : vs.length = l.length := by
  have := congrArg List.length h; simpa using this.symm
theorem DL.take {g : Sg} {r : Rho} {l : List C} {vs : List Value} (n : Nat) (h : DL g r l vs) : DL g r (l.take n) (vs.take n) := by
  unfold DL at *; rw [List.map_take, List.map_take, h]
theorem DL.drop {g : Sg} {r : Rho} {l : List C} {vs : List Value} (n : Nat) (h : DL g r l vs) : DL g r (l.drop n) (vs.drop n) := by
  unfold DL at *; rw [List.map_drop, List.map_drop, h]
theorem DL.append {g : Sg} {r : Rho} {l m : List C} {vs ws : List Value} (h : DL g r l vs) (h' : DL g r m ws) : DL g r (l ++ m) (vs ++ ws) := by
  unfold DL at *; rw [List.map_append, List.map_append, h, h']
theorem DL.get {g : Sg} {r : Rho} : ∀ {l : List C} {vs : List Value} {i : Nat} {c : C}, DL g r l vs → lkL l i = some c → ∃ v, vs[i]? = some v ∧ c.den g r = some v
  | [], _, _, _, _, h => by simp [lkL] at h
  | x :: l, vs, i, c, hd, h => by
    obtain ⟨v, vs', rfl, h1, h2⟩ := hd.cons_inv
    unfold lkL at h
    cases i with
    | zero => simp at h; subst h; exact ⟨v, rfl, h1⟩
    | succ i => simp at h; obtain ⟨u, hu, hc⟩ := DL.get h2 h; exact ⟨u, by simpa using hu, hc⟩
theorem DL.sub {g : Sg} {r r' : Rho} (hs : Sub r r') : ∀ {l : List C} {vs : List Value}, DL g r l vs → DL g r' l vs
  | [], vs, h => by rw [h.nil_inv]; exact DL.nil
  | c :: l, vs, h => by
    obtain ⟨v, vs', rfl, h1, h2⟩ := h.cons_inv
    exact DL.cons (C.den_sub hs h1) (DL.sub hs h2)
theorem DL.unique {g : Sg} {r : Rho} {l : List C} {vs ws : List Value} (h : DL g r l vs) (h' : DL g r l ws) : vs = ws := by
  unfold DL at *
  have : vs.map some = ws.map some := h.symm.trans h'
  exact List.map_inj_right (fun _ _ e => Option.some.inj e) |>.1 this
theorem W.Den.sub {g : Sg} {r r' : Rho} (hs : Sub r r') {x : W} {v : Value} (h : x.Den g r v) : x.Den g r' v := by
  cases x with
  | c x => exact C.den_sub hs h
  | agg l => obtain ⟨vs, rfl, hd⟩ := h; exact ⟨vs, rfl, hd.sub hs⟩
theorem WL.sub {g : Sg} {r r' : Rho} (hs : Sub r r') : ∀ {l : List W} {vs : List Value}, WL g r l vs → WL g r' l vs
  | [], [], _ => trivial
  | x :: l, v :: vs, ⟨h1, h2⟩ => ⟨h1.sub hs, WL.sub hs h2⟩
  | [], _ :: _, h => h.elim
  | _ :: _, [], h => h.elim
theorem V.Den.sub {g : Sg} {r r' : Rho} (hs : Sub r r') {x : V} {v : Value} (h : x.Den g r v) : x.Den g r' v := by
  cases x with
  | w x => exact W.Den.sub hs h
  | tup l => obtain ⟨vs, rfl, hd⟩ := h; exact ⟨vs, rfl, hd.sub hs⟩
theorem W.Den.unique {g : Sg} {r : Rho} {x : W} {v u : Value} (h : x.Den g r v) (h' : x.Den g r u) : v = u := by
  cases x with
  | c x => exact Option.some.inj (h.symm.trans h')
  | agg l => obtain ⟨vs, rfl, hd⟩ := h; obtain ⟨us, rfl, hd'⟩ := h'; rw [hd.unique hd']
theorem WL.unique {g : Sg} {r : Rho} : ∀ {l : List W} {vs us : List Value}, WL g r l vs → WL g r l us → vs = us
  | [], [], [], _, _ => rfl
  | x :: l, v :: vs, u :: us, ⟨h1, h2⟩, ⟨k1, k2⟩ => by rw [h1.unique k1, WL.unique h2 k2]
  | [], _ :: _, _, h, _ => h.elim
  | [], [], _ :: _, _, h => h.elim
  | _ :: _, [], _, h, _ => h.elim
  | _ :: _, _ :: _, [], _, h => h.elim
theorem V.Den.unique {g : Sg} {r : Rho} {x : V} {v u : Value} (h : x.Den g r v) (h' : x.Den g r u) : v = u := by
  cases x with
  | w x => exact W.Den.unique h h'
  | tup l => obtain ⟨vs, rfl, hd⟩ := h; obtain ⟨us, rfl, hd'⟩ := h'; rw [hd.unique hd']
theorem VL.sub {g : Sg} {r r' : Rho} (hs : Sub r r') : ∀ {l : List V} {vs : List Value}, VL g r l vs → VL g r' l vs
  | [], [], _ => trivial
  | x :: l, v :: vs, ⟨h1, h2⟩ => ⟨h1.sub hs, VL.sub hs h2⟩
  | [], _ :: _, h => h.elim
  | _ :: _, [], h => h.elim
theorem VL.length {g : Sg} {r : Rho} : ∀ {l : List V} {vs : List Value}, VL g r l vs → vs.length = l.length
  | [], [], _ => rfl
  | x :: l, v :: vs, ⟨_, h2⟩ => by simp [VL.length h2]
  | [], _ :: _, h => h.elim
  | _ :: _, [], h => h.elim
theorem W.Den.cells {g : Sg} {r : Rho} {x : W} {v : Value} (h : x.Den g r v) : ∃ vs, v.cells = ⟨vs⟩ ∧ DL g r x.cells vs := by
  cases x with
  | c x =>
    refine ⟨[v], ?_, DL.cons h DL.nil⟩
    have h : x.den g r = some v := h
    cases x <;> simp only [C.den] at h <;> (first | (split at h <;> cases h <;> rfl) | (cases h; rfl))
  | agg l => obtain ⟨vs, rfl, hd⟩ := h; exact ⟨vs, rfl, hd⟩
theorem C.den_one {g : Sg} {r : Rho} {x : C} {v : Value} (h : x.den g r = some v) : v.oneCell' = true := by
  cases x <;> simp only [C.den] at h <;> (first | (split at h <;> cases h <;> rfl) | (cases h; rfl))
theorem DL.one {g : Sg} {r : Rho} : ∀ {l : List C} {vs : List Value}, DL g r l vs → ∀ v ∈ vs, v.oneCell' = true
  | [], vs, h => by rw [h.nil_inv]; intro v hv; cases hv
  | c :: l, vs, h => by
    obtain ⟨v, vs', rfl, h1, h2⟩ := h.cons_inv
    intro u hu
    rcases List.mem_cons.1 hu with rfl | hu
    · exact C.den_one h1
    · exact DL.one h2 u hu

theorem nbeq (a b : Nat) : Nat.beq a b = decide (a = b) := by
  rw [Bool.eq_iff_iff, decide_eq_true_eq]; rw [Nat.beq_eq]
theorem nble (a b : Nat) : Nat.ble a b = decide (a ≤ b) := by
  rw [Bool.eq_iff_iff, decide_eq_true_eq]; rw [Nat.ble_eq]
theorem nblt (a b : Nat) : Nat.blt a b = decide (a < b) := by
  rw [Bool.eq_iff_iff, decide_eq_true_eq]; rw [Nat.blt_eq]
/-! ### Numbers -/
theorem ieq_iff (a b : Int) : ieq a b = decide (a = b) := by
  cases a with
  | ofNat a => cases b with
    | ofNat b =>
      show Nat.beq a b = _
      rw [nbeq, Bool.eq_iff_iff, decide_eq_true_eq, decide_eq_true_eq]
      exact ⟨fun h => by rw [h], fun h => Int.ofNat.inj h⟩
    | negSucc b => simp [ieq]
  | negSucc a => cases b with
    | ofNat b => simp [ieq]
    | negSucc b =>
      show Nat.beq a b = _
      rw [nbeq, Bool.eq_iff_iff, decide_eq_true_eq, decide_eq_true_eq]
      exact ⟨fun h => by rw [h], fun h => Int.negSucc.inj h⟩
theorem ieq_b2i (b : Bool) : ieq (b2i b) 1 = b := by cases b <;> rfl
theorem ile_iff (a b : Int) : ile a b = decide (a ≤ b) := by
  rw [Bool.eq_iff_iff, decide_eq_true_eq]
  cases a <;> cases b <;> simp [ile] <;> omega
theorem A.beq_eq {a b : A} (h : A.beq a b = true) : a = b := by
  cases a <;> cases b <;> simp_all [A.beq, ieq_iff]
theorem inR_wrap (k : IntKind) (n : Int) (h : inR k n = true) : k.wrap n = n := by
  cases k <;> cases n <;> simp [inR, nblt] at h
  · rename_i m
    rw [IntKind.wrap_i64]; show (_ : Int) = _; have : Int.ofNat m = (m : Int) := rfl
    rw [this]; omega
  · rename_i m
    rw [IntKind.wrap_i64]; omega
  · rename_i m
    have : Int.ofNat m = (m : Int) := rfl
    rw [this]
    unfold IntKind.wrap
    simp only [IntKind.signed, IntKind.bits, Bool.false_and, Bool.false_eq_true, if_false]
    omega
theorem wrapF_eq (k : IntKind) (n : Int) : wrapF k n = k.wrap n := by
  unfold wrapF
  cases h : inR k n
  · rfl
  · exact (inR_wrap k n h).symm

def DefsOk (U : Nat → List Int → Int) (g : Sg) (l : List (Nat × Pr × List A)) : Prop := ∀ d ∈ l, g d.1 = mean U d.2.1 (d.2.2.map (A.val g))
/-- What the symbols stand for fits what has been named of them, and the answers foretold. -/
structure Good (U : Nat → List Int → Int) (g : Sg) (st : St) : Prop where
  defs : DefsOk U g st.defs
  cs : ∀ c ∈ st.cs, ieq (g c.1) 1 = c.2
/-- Nothing but symbols' names has come. -/
structure Same (st st' : St) : Prop where
  heap : st'.heap = st.heap
  next : st'.next = st.next
  resv : st'.resv = st.resv
theorem Same.refl (st : St) : Same st st := ⟨rfl, rfl, rfl⟩
theorem Same.trans {a b c : St} (h : Same a b) (k : Same b c) : Same a c := ⟨k.heap.trans h.heap, k.next.trans h.next, k.resv.trans h.resv⟩
theorem allK_val {g : Sg} : ∀ {as : List A} {l : List Int}, allK as = some l → as.map (A.val g) = l
  | [], l, h => by simp [allK] at h; subst h; rfl
  | .k z :: r, l, h => by
    unfold allK at h
    cases hr : allK r with
    | none => simp [hr] at h
    | some m => simp [hr] at h; subst h; simp [A.val, allK_val hr]
  | .x _ :: _, l, h => by simp [allK] at h
theorem findDef_mem {p : Pr} {as : List A} : ∀ {l : List (Nat × Pr × List A)} {n : Nat}, findDef p as l = some n → (n, p, as) ∈ l
  | [], _, h => by simp [findDef] at h
  | (m, q, bs) :: r, n, h => by
    unfold findDef at h
    split at h
    · rename_i hh; obtain ⟨rfl, rfl⟩ := hh; cases h; exact List.mem_cons_self ..
    · exact List.mem_cons_of_mem _ (findDef_mem h)
theorem app_ok {U : Nat → List Int → Int} {g : Sg} {p : Pr} {as : List A} {st st' : St} {r : A} (h : app U p as st = (r, st')) (hg : Good U g st') :
    Good U g st ∧ Same st st' ∧ r.val g = mean U p (as.map (A.val g)) := by
  unfold app at h
  split at h
  · rename_i l hl
    cases h
    exact ⟨hg, Same.refl _, by rw [allK_val hl]; rfl⟩
  · split at h
    · rename_i n hn
      cases h
      exact ⟨hg, Same.refl _, hg.defs _ (findDef_mem hn)⟩
    · cases h
      exact ⟨⟨fun d hd => hg.defs d (List.mem_cons_of_mem _ hd), hg.cs⟩, ⟨rfl, rfl, rfl⟩, hg.defs _ (List.mem_cons_self ..)⟩

theorem app_ok2 {U : Nat → List Int → Int} {g : Sg} (p : Pr) (as : List A) (st : St) (hg : Good U g (app U p as st).2) :
    Good U g st ∧ Same st (app U p as st).2 ∧ (app U p as st).1.val g = mean U p (as.map (A.val g)) := app_ok rfl hg

/-! ### Slots -/
theorem PT.get_set {α : Type} : ∀ (f : Nat) (t : PT α) (i j : Nat) (a : α), i < 2 ^ f - 1 → (PT.set f t i a).get j = if j = i then some a else t.get j
  | 0, t, i, j, a, h => by simp at h
  | f + 1, t, i, j, a, h => by
    have h2 : 2 ^ (f + 1) = 2 * 2 ^ f := by rw [Nat.pow_succ, Nat.mul_comm]
    cases t with
    | e =>
      simp only [PT.set, nbeq, Bool.cond_decide]
      by_cases hi : i = 0
      · subst hi
        simp only [if_true, PT.get, nbeq, Bool.cond_decide]
        by_cases hj : j = 0 <;> simp [hj]
      · by_cases ho : i % 2 = 1
        · simp only [hi, ho, if_false, if_true, PT.get, nbeq, Bool.cond_decide]
          by_cases hj : j = 0
          · simp [hj, Ne.symm hi]
          · by_cases hjo : j % 2 = 1
            · simp only [hj, hjo, if_false, if_true]
              rw [PT.get_set f .e (i / 2) (j / 2) a (by omega)]
              have : (j / 2 = i / 2) ↔ j = i := by omega
              simp [this, PT.get]
            · have : j ≠ i := by omega
              simp [hj, hjo, this]
        · simp only [hi, ho, if_false, PT.get, nbeq, Bool.cond_decide]
          by_cases hj : j = 0
          · simp [hj, Ne.symm hi]
          · by_cases hjo : j % 2 = 1
            · have : j ≠ i := by omega
              simp [hj, hjo, this]
            · simp only [hj, hjo, if_false]
              rw [PT.get_set f .e (i / 2 - 1) (j / 2 - 1) a (by omega)]
              have : (j / 2 - 1 = i / 2 - 1) ↔ j = i := by omega
              simp [this, PT.get]
    | n l v r =>
      simp only [PT.set, nbeq, Bool.cond_decide]
      by_cases hi : i = 0
      · subst hi
        simp only [if_true, PT.get, nbeq, Bool.cond_decide]
        by_cases hj : j = 0 <;> simp [hj]
      · by_cases ho : i % 2 = 1
        · simp only [hi, ho, if_false, if_true, PT.get, nbeq, Bool.cond_decide]
          by_cases hj : j = 0
          · simp [hj, Ne.symm hi]
          · by_cases hjo : j % 2 = 1
            · simp only [hj, hjo, if_false, if_true]
              rw [PT.get_set f l (i / 2) (j / 2) a (by omega)]
              have : (j / 2 = i / 2) ↔ j = i := by omega
              simp [this]
            · have : j ≠ i := by omega
              simp [hj, hjo, this]
        · simp only [hi, ho, if_false, PT.get, nbeq, Bool.cond_decide]
          by_cases hj : j = 0
          · simp [hj, Ne.symm hi]
          · by_cases hjo : j % 2 = 1
            · have : j ≠ i := by omega
              simp [hj, hjo, this]
            · simp only [hj, hjo, if_false]
              rw [PT.get_set f r (i / 2 - 1) (j / 2 - 1) a (by omega)]
              have : (j / 2 - 1 = i / 2 - 1) ↔ j = i := by omega
              simp [this]
/-- The slots: n of them, and each that is known holds what it stands for. -/
structure TRel (n : Nat) (g : Sg) (r : Rho) (t : T) (a : Act) : Prop where
  size : a.tmps.size = n
  get : ∀ i v, t.get i = some v → ∃ u, a.tmps[i]? = some u ∧ v.Den g r u
  defers : a.defers = []
theorem TRel.sub {n : Nat} {g : Sg} {r r' : Rho} {t : T} {a : Act} (hs : Sub r r') (h : TRel n g r t a) : TRel n g r' t a :=
  ⟨h.size, fun i v hv => let ⟨u, hu, hd⟩ := h.get i v hv; ⟨u, hu, hd.sub hs⟩, h.defers⟩
theorem TRel.put {n : Nat} {g : Sg} {r : Rho} {t : T} {a : Act} (h : TRel n g r t a) {dst : Option Nat} (hd : ∀ d, dst = some d → d < n ∧ d < 16000) {v : V} {u : Value} (hv : v.Den g r u) :
    TRel n g r (putT t dst v) (a.put dst u) := by
  cases dst with
  | none => exact h
  | some d =>
    obtain ⟨h1, h2⟩ := hd d rfl
    refine ⟨by simp [Act.put, h.size], fun i v' hv' => ?_, h.defers⟩
    simp only [putT] at hv'
    rw [PT.get_set 14 t d i v (by omega)] at hv'
    simp only [Act.put]
    by_cases hi : i = d
    · subst hi
      simp at hv'; subst hv'
      refine ⟨u, ?_, hv⟩
      rw [Array.getElem?_setIfInBounds]; simp [h.size, h1]
    · simp [hi] at hv'
      obtain ⟨u', hu', hd'⟩ := h.get i v' hv'
      exact ⟨u', by rw [Array.getElem?_setIfInBounds_ne (Ne.symm hi)]; exact hu', hd'⟩
theorem inKB_in {k : IntKind} {n : Int} (h : inKB k n = true) : inK k n := by
  unfold inKB at h
  rw [Bool.or_eq_true] at h
  rcases h with h | h
  · have := inR_wrap k n h
    rw [← this]; exact wrap_in k n
  · exact of_decide_eq_true h
theorem cOf_den {g : Sg} {r : Rho} {v : Value} {c : C} (h : cOf v = some c) : c.den g r = some v := by
  unfold cOf at h
  split at h
  · rename_i b; cases h; cases b <;> rfl
  · rename_i k n
    cases hk : inKB k n
    · rw [hk] at h; cases h
    · rw [hk] at h
      simp only [cond_true] at h
      cases h
      simp only [C.den]
      rw [if_pos (inKB_in hk : inK k ((A.k n).val g))]
      rfl
  · cases h; rfl
  · cases h; rfl
  · cases h
theorem cOfL_den {g : Sg} {r : Rho} : ∀ {vs : List Value} {l : List C}, cOfL vs = some l → DL g r l vs
  | [], l, h => by simp [cOfL] at h; subst h; exact DL.nil
  | v :: vs, l, h => by
    unfold cOfL at h
    cases hc : cOf v with
    | none => simp [hc] at h
    | some c =>
      cases hl : cOfL vs with
      | none => simp [hc, hl] at h
      | some m => simp [hc, hl] at h; subst h; exact DL.cons (cOf_den hc) (cOfL_den hl)
theorem vOf_den {g : Sg} {r : Rho} {v : Value} {x : V} (h : vOf v = some x) : x.Den g r v := by
  unfold vOf at h
  split at h
  · split at h
    · cases h
    · rename_i l m hm; cases h; exact ⟨_, rfl, cOfL_den hm⟩
  · cases h; exact ⟨[], rfl, trivial⟩
  · split at h
    · cases h
    · rename_i c hc; cases h; exact cOf_den hc
theorem ev_den {n : Nat} {g : Sg} {r : Rho} {t : T} {a : Act} (h : TRel n g r t a) {o : Operand} {v : V} (he : ev t o = some v) : v.Den g r (a.eval o) := by
  cases o with
  | tmp i =>
    obtain ⟨u, hu, hd⟩ := h.get i v he
    have : a.eval (.tmp i) = u := by simp [Act.eval, hu]
    rw [this]; exact hd
  | const c => exact vOf_den he
  | global _ => simp [ev] at he
  | func _ => simp [ev] at he

/-! ### Memory -/
def Holds (g : Sg) (r : Rho) (h : List (Nat × Bk)) (w : World) : Prop :=
  ∀ n bk, hget h n = some bk → ∃ b vs, r n = some b ∧ w.heap[b]? = some (.cells ⟨vs⟩ bk.ty (0, 0)) ∧ DL g r bk.cells vs
structure Inv (g : Sg) (r : Rho) (st : St) (w : World) : Prop where
  holds : Holds g r st.heap w
  inj : ∀ n m b, r n = some b → r m = some b → n = m
  fresh : ∀ n b, r n = some b → n < st.next ∧ n ∉ st.resv
  lt : ∀ n b, r n = some b → b < w.heap.size
  rlt : ∀ n, n ∈ st.resv → n < st.next
structure Ext (r : Rho) (w : World) (r' : Rho) (w' : World) : Prop where
  sub : Sub r r'
  new : ∀ n b, r' n = some b → r n = some b ∨ w.heap.size ≤ b
  size : w.heap.size ≤ w'.heap.size
  frame : ∀ b, b < w.heap.size → (∀ n, r n ≠ some b) → w'.heap[b]? = w.heap[b]?
  os : w'.os = w.os
  tape : w'.tape = w.tape
  output : w'.output = w.output
theorem Ext.refl (r : Rho) (w : World) : Ext r w r w := ⟨Sub.refl _, fun _ _ h => .inl h, Nat.le_refl _, fun _ _ _ => rfl, rfl, rfl, rfl⟩
theorem Ext.trans {r r1 r2 : Rho} {w w1 w2 : World} (h : Ext r w r1 w1) (k : Ext r1 w1 r2 w2) : Ext r w r2 w2 := by
  refine ⟨h.sub.trans k.sub, fun n b hb => ?_, Nat.le_trans h.size k.size, fun b hb hn => ?_, k.os.trans h.os, k.tape.trans h.tape, k.output.trans h.output⟩
  · rcases k.new n b hb with h1 | h1
    · exact h.new n b h1
    · exact .inr (Nat.le_trans h.size h1)
  · rw [k.frame b (Nat.lt_of_lt_of_le hb h.size) (fun n e => ?_), h.frame b hb hn]
    rcases h.new n b e with h1 | h1
    · exact hn n h1
    · omega
theorem Ext.drew {r r' : Rho} {w w' : World} (h : Ext r { w with drawn := w.drawn + 1 } r' w') : Ext r w r' w' := ⟨h.sub, h.new, h.size, h.frame, h.os, h.tape, h.output⟩
theorem Inv.drew {g : Sg} {r : Rho} {st : St} {w : World} (h : Inv g r st w) : Inv g r st { w with drawn := w.drawn + 1 } := ⟨h.holds, h.inj, h.fresh, h.lt, h.rlt⟩
theorem Inv.same {g : Sg} {r : Rho} {st st' : St} {w : World} (h : Inv g r st w) (hs : Same st st') : Inv g r st' w :=
  ⟨by rw [hs.heap]; exact h.holds, h.inj, by rw [hs.next, hs.resv]; exact h.fresh, h.lt, by rw [hs.next, hs.resv]; exact h.rlt⟩
theorem Holds.sub {g : Sg} {r r' : Rho} (hs : Sub r r') {h : List (Nat × Bk)} {w : World} (k : Holds g r h w) : Holds g r' h w := fun n bk hn => by
  obtain ⟨b, vs, h1, h2, h3⟩ := k n bk hn
  exact ⟨b, vs, hs n b h1, h2, h3.sub hs⟩
theorem hget_hset {h : List (Nat × Bk)} {n m : Nat} {b : Bk} : hget (hset h n b) m = if m = n then some b else hget h m := by
  induction h with
  | nil =>
    simp only [hset, hget, nbeq, Bool.cond_decide]
    by_cases hm : m = n
    · simp [hm]
    · simp [hm, Ne.symm hm]
  | cons x r ih =>
    obtain ⟨k, c⟩ := x
    simp only [hset, nbeq, nblt, Bool.cond_decide]
    by_cases hk : k = n
    · subst hk
      simp only [if_true, hget, nbeq, Bool.cond_decide]
      by_cases hm : m = k
      · simp [hm]
      · simp [hm, Ne.symm hm]
    · simp only [hk, if_false]
      by_cases hl : k < n
      · simp only [hl, if_true]
        rw [hget]
        simp only [nbeq, Bool.cond_decide]
        by_cases hm : m = n
        · simp [hm]
        · simp [hm, Ne.symm hm]
      · simp only [hl, if_false, hget, ih, nbeq, Bool.cond_decide]
        by_cases hm : m = n
        · subst hm; simp [hk]
        · simp [hm]
end Go.Proofs.Ytahedampmjfoeaa.SX
