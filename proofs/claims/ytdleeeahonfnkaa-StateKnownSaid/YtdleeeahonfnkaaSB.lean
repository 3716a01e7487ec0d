/- The runner: what symbols stand for; operations that yield a value whatever the memory. -/
import Derived.Test.YtdleeeahonfnkaaSA
import Derived.Deep.MidRow
import Derived.Laws.Cells
import Derived.Laws.CopyRow
import Derived.Laws.Entries

/- SxC -/
namespace Go.Proofs.Ytdleeeahonfnkaa.SX
open Go

abbrev Sg := Nat → Int
/-- Of each name: its block, the room from its place on (in numbers), the place in the block, whether it is read alone; and slices of nothing. -/
structure Rho where
  m : Nat → Option Nat
  k : Nat → Nat
  f : Nat → Nat
  ro : Nat → Bool
  z : Nat → Addr × Nat
  bar : Nat → Bool
instance : CoeFun Rho (fun _ => Nat → Option Nat) := ⟨Rho.m⟩
instance : Inhabited (Addr × Nat) := ⟨(⟨0, 0, none⟩, 0)⟩
/-- No names. -/
def rho0 (z : Nat → Addr × Nat) : Rho := ⟨fun _ => none, fun _ => 0, fun _ => 0, fun _ => false, z, fun _ => false⟩
def A.val (g : Sg) : A → Int
  | .k z => z
  | .x i => g i
theorem val_k (g : Sg) (z : Int) : (A.k z).val g = z := rfl
/-- Within the bounds of its kind. -/
def inK (k : IntKind) (n : Int) : Prop := k.min ≤ n ∧ n ≤ k.max
instance (k : IntKind) (n : Int) : Decidable (inK k n) := inferInstanceAs (Decidable (_ ∧ _))
theorem inK_i64 {n : Int} : inK .i64 n ↔ -9223372036854775808 ≤ n ∧ n ≤ 9223372036854775807 := Iff.rfl
theorem inK_u64 {n : Int} : inK .u64 n ↔ 0 ≤ n ∧ n ≤ 18446744073709551615 := Iff.rfl
theorem wrap_in (k : IntKind) (n : Int) : inK k (k.wrap n) := by
  unfold inK IntKind.wrap IntKind.min IntKind.max
  cases k <;> simp [IntKind.signed, IntKind.bits] <;> (try split) <;> omega
def C.den (g : Sg) (r : Rho) : C → Option Value
  | .b v => some (.bool (ieq (v.val g) 1))
  | .i k v => if inK k (v.val g) then some (.int k (v.val g)) else none
  | .p n o => match r n with
    | some q => some (.pointer (some ⟨q, r.f n + o, none⟩))
    | none => none
  | .pn => some (.pointer none)
  | .s n o l c => match r n with
    | some q => some (.slice (some ⟨q, r.f n + o, none⟩) l c)
    | none => none
  | .sn => some (.slice none 0 0)
  | .so n o l d => match r n with
    | some q => if l + d ≤ r.k n then some (.slice (some ⟨q, r.f n + o, none⟩) l (r.k n - d)) else none
    | none => none
  | .sz j => some (.slice (some (r.z j).1) 0 (r.z j).2)
  | .sx j a => if inK .i64 (a.val g) ∧ 0 ≤ a.val g then some (.slice (some (r.z j).1) (a.val g).toNat (r.z j).2) else none
/-- A list of cells stands for a list of values. -/
def DL (g : Sg) (r : Rho) (l : List C) (vs : List Value) : Prop := l.map (C.den g r) = vs.map some
def W.Den (g : Sg) (r : Rho) : W → Value → Prop
  | .c x, v => x.den g r = some v
  | .agg l, v => ∃ vs, v = .agg ⟨vs⟩ ∧ DL g r l vs
def WL (g : Sg) (r : Rho) : List W → List Value → Prop
  | [], [] => True
  | x :: l, v :: vs => x.Den g r v ∧ WL g r l vs
  | _, _ => False
def V.Den (g : Sg) (r : Rho) : V → Value → Prop
  | .w x, v => x.Den g r v
  | .tup l, v => ∃ vs, v = .tuple ⟨vs⟩ ∧ WL g r l vs
def VL (g : Sg) (r : Rho) : List V → List Value → Prop
  | [], [] => True
  | x :: l, v :: vs => x.Den g r v ∧ VL g r l vs
  | _, _ => False
structure Sub (r r' : Rho) : Prop where
  at_ : ∀ n b, r n = some b → r' n = some b ∧ r'.k n = r.k n ∧ r'.f n = r.f n ∧ r'.ro n = r.ro n
  z : r'.z = r.z
theorem Sub.refl (r : Rho) : Sub r r := ⟨fun _ _ h => ⟨h, rfl, rfl, rfl⟩, rfl⟩
theorem Sub.trans {r r1 r2 : Rho} (h : Sub r r1) (h' : Sub r1 r2) : Sub r r2 := ⟨fun n b k => by
  obtain ⟨a1, a2, a3, a4⟩ := h.at_ n b k
  obtain ⟨b1, b2, b3, b4⟩ := h'.at_ n b a1
  exact ⟨b1, b2.trans a2, b3.trans a3, b4.trans a4⟩, h'.z.trans h.z⟩
theorem C.den_sub {g : Sg} {r r' : Rho} (h : Sub r r') {c : C} {v : Value} (hc : c.den g r = some v) : c.den g r' = some v := by
  cases c with
  | p n o =>
    simp only [C.den] at hc ⊢
    split at hc
    · rename_i b hb
      obtain ⟨a1, a2, a3, a4⟩ := h.at_ n b hb
      rw [a1, a3]; exact hc
    · cases hc
  | s n o l c =>
    simp only [C.den] at hc ⊢
    split at hc
    · rename_i b hb
      obtain ⟨a1, a2, a3, a4⟩ := h.at_ n b hb
      rw [a1, a3]; exact hc
    · cases hc
  | so n o l d =>
    simp only [C.den] at hc ⊢
    split at hc
    · rename_i b hb
      obtain ⟨a1, a2, a3, a4⟩ := h.at_ n b hb
      rw [a1, a2, a3]; exact hc
    · cases hc
  | sz i => simp only [C.den] at hc ⊢; rw [h.z]; exact hc
  | sx i a => simp only [C.den] at hc ⊢; rw [h.z]; exact hc
  | _ => exact hc
theorem DL.nil {g : Sg} {r : Rho} : DL g r [] [] := rfl
theorem DL.cons {g : Sg} {r : Rho} {c : C} {l : List C} {v : Value} {vs : List Value} (h : c.den g r = some v) (hl : DL g r l vs) : DL g r (c :: l) (v :: vs) := by
  unfold DL at *; simp [h, hl]
theorem DL.cons_inv {g : Sg} {r : Rho} {c : C} {l : List C} {vs : List Value} (h : DL g r (c :: l) vs) : ∃ v vs', vs = v :: vs' ∧ c.den g r = some v ∧ DL g r l vs' := by
  unfold DL at *
  cases vs with
  | nil => simp at h
  | cons v vs' => simp at h; exact ⟨v, vs', rfl, h.1, h.2⟩
theorem DL.nil_inv {g : Sg} {r : Rho} {vs : List Value} (h : DL g r [] vs) : vs = [] := by
  unfold DL at h; cases vs <;> simp_all
theorem DL.length {g : Sg} {r : Rho} {l : List C} {vs : List Value} (h : DL g r l vs) : vs.length = l.length := by
  have := congrArg List.length h; simpa using this.symm
theorem DL.take {g : Sg} {r : Rho} {l : List C} {vs : List Value} (n : Nat) (h : DL g r l vs) : DL g r (l.take n) (vs.take n) := by
  unfold DL at *; rw [List.map_take, List.map_take, h]
theorem DL.drop {g : Sg} {r : Rho} {l : List C} {vs : List Value} (n : Nat) (h : DL g r l vs) : DL g r (l.drop n) (vs.drop n) := by
  unfold DL at *; rw [List.map_drop, List.map_drop, h]
theorem DL.append {g : Sg} {r : Rho} {l m : List C} {vs ws : List Value} (h : DL g r l vs) (h' : DL g r m ws) : DL g r (l ++ m) (vs ++ ws) := by
  unfold DL at *; rw [List.map_append, List.map_append, h, h']
theorem DL.get {g : Sg} {r : Rho} : ∀ {l : List C} {vs : List Value} {i : Nat} {c : C}, DL g r l vs → lkL l i = some c → ∃ v, vs[i]? = some v ∧ c.den g r = some v
  | [], _, _, _, _, h => by simp [lkL] at h
  | x :: l, vs, i, c, hd, h => by
    obtain ⟨v, vs', rfl, h1, h2⟩ := hd.cons_inv
    unfold lkL at h
    cases i with
    | zero => simp at h; subst h; exact ⟨v, rfl, h1⟩
    | succ i => simp at h; obtain ⟨u, hu, hc⟩ := DL.get h2 h; exact ⟨u, by simpa using hu, hc⟩
theorem DL.sub {g : Sg} {r r' : Rho} (hs : Sub r r') : ∀ {l : List C} {vs : List Value}, DL g r l vs → DL g r' l vs
  | [], vs, h => by rw [h.nil_inv]; exact DL.nil
  | c :: l, vs, h => by
    obtain ⟨v, vs', rfl, h1, h2⟩ := h.cons_inv
    exact DL.cons (C.den_sub hs h1) (DL.sub hs h2)
theorem DL.unique {g : Sg} {r : Rho} {l : List C} {vs ws : List Value} (h : DL g r l vs) (h' : DL g r l ws) : vs = ws := by
  unfold DL at *
  have : vs.map some = ws.map some := h.symm.trans h'
  exact List.map_inj_right (fun _ _ e => Option.some.inj e) |>.1 this
theorem W.Den.sub {g : Sg} {r r' : Rho} (hs : Sub r r') {x : W} {v : Value} (h : x.Den g r v) : x.Den g r' v := by
  cases x with
  | c x => exact C.den_sub hs h
  | agg l => obtain ⟨vs, rfl, hd⟩ := h; exact ⟨vs, rfl, hd.sub hs⟩
theorem WL.sub {g : Sg} {r r' : Rho} (hs : Sub r r') : ∀ {l : List W} {vs : List Value}, WL g r l vs → WL g r' l vs
  | [], [], _ => trivial
  | _ :: _, _ :: _, ⟨h1, h2⟩ => ⟨h1.sub hs, WL.sub hs h2⟩
  | [], _ :: _, h => h.elim
  | _ :: _, [], h => h.elim
theorem V.Den.sub {g : Sg} {r r' : Rho} (hs : Sub r r') {x : V} {v : Value} (h : x.Den g r v) : x.Den g r' v := by
  cases x with
  | w x => exact W.Den.sub hs h
  | tup l => obtain ⟨vs, rfl, hd⟩ := h; exact ⟨vs, rfl, hd.sub hs⟩
theorem W.Den.unique {g : Sg} {r : Rho} {x : W} {v u : Value} (h : x.Den g r v) (h' : x.Den g r u) : v = u := by
  cases x with
  | c x => exact Option.some.inj (h.symm.trans h')
  | agg l => obtain ⟨vs, rfl, hd⟩ := h; obtain ⟨us, rfl, hd'⟩ := h'; rw [hd.unique hd']
theorem WL.unique {g : Sg} {r : Rho} : ∀ {l : List W} {vs us : List Value}, WL g r l vs → WL g r l us → vs = us
  | [], [], [], _, _ => rfl
  | x :: l, v :: vs, u :: us, ⟨h1, h2⟩, ⟨k1, k2⟩ => by rw [h1.unique k1, WL.unique h2 k2]
  | [], _ :: _, _, h, _ => h.elim
  | [], [], _ :: _, _, h => h.elim
  | _ :: _, [], _, h, _ => h.elim
  | _ :: _, _ :: _, [], _, h => h.elim
theorem V.Den.unique {g : Sg} {r : Rho} {x : V} {v u : Value} (h : x.Den g r v) (h' : x.Den g r u) : v = u := by
  cases x with
  | w x => exact W.Den.unique h h'
  | tup l => obtain ⟨vs, rfl, hd⟩ := h; obtain ⟨us, rfl, hd'⟩ := h'; rw [hd.unique hd']
theorem VL.sub {g : Sg} {r r' : Rho} (hs : Sub r r') : ∀ {l : List V} {vs : List Value}, VL g r l vs → VL g r' l vs
  | [], [], _ => trivial
  | _ :: _, _ :: _, ⟨h1, h2⟩ => ⟨h1.sub hs, VL.sub hs h2⟩
  | [], _ :: _, h => h.elim
  | _ :: _, [], h => h.elim
theorem VL.length {g : Sg} {r : Rho} : ∀ {l : List V} {vs : List Value}, VL g r l vs → vs.length = l.length
  | [], [], _ => rfl
  | x :: l, v :: vs, ⟨_, h2⟩ => by simp [VL.length h2]
  | [], _ :: _, h => h.elim
  | _ :: _, [], h => h.elim
theorem W.Den.cells {g : Sg} {r : Rho} {x : W} {v : Value} (h : x.Den g r v) : ∃ vs, v.cells = ⟨vs⟩ ∧ DL g r x.cells vs := by
  cases x with
  | c x =>
    refine ⟨[v], ?_, DL.cons h DL.nil⟩
    have h : x.den g r = some v := h
    cases x <;> simp only [C.den] at h <;> (first | (split at h <;> cases h <;> rfl) | (cases h; rfl) | (split at h <;> first | (split at h <;> cases h <;> rfl) | cases h))
  | agg l => obtain ⟨vs, rfl, hd⟩ := h; exact ⟨vs, rfl, hd⟩
theorem C.den_one {g : Sg} {r : Rho} {x : C} {v : Value} (h : x.den g r = some v) : v.oneCell' = true := by
  cases x <;> simp only [C.den] at h <;> (first | (split at h <;> cases h <;> rfl) | (cases h; rfl) | (split at h <;> first | (split at h <;> cases h <;> rfl) | cases h))
theorem DL.one {g : Sg} {r : Rho} : ∀ {l : List C} {vs : List Value}, DL g r l vs → ∀ v ∈ vs, v.oneCell' = true
  | [], vs, h => by rw [h.nil_inv]; intro v hv; cases hv
  | c :: l, vs, h => by
    obtain ⟨v, vs', rfl, h1, h2⟩ := h.cons_inv
    intro u hu
    rcases List.mem_cons.1 hu with rfl | hu
    · exact C.den_one h1
    · exact DL.one h2 u hu

theorem nbeq (a b : Nat) : Nat.beq a b = decide (a = b) := by
  rw [Bool.eq_iff_iff, decide_eq_true_eq]; rw [Nat.beq_eq]
theorem nble (a b : Nat) : Nat.ble a b = decide (a ≤ b) := by
  rw [Bool.eq_iff_iff, decide_eq_true_eq]; rw [Nat.ble_eq]
theorem nblt (a b : Nat) : Nat.blt a b = decide (a < b) := by
  rw [Bool.eq_iff_iff, decide_eq_true_eq]; rw [Nat.blt_eq]
/-! ### Numbers -/
theorem ieq_iff (a b : Int) : ieq a b = decide (a = b) := by
  cases a with
  | ofNat a => cases b with
    | ofNat b =>
      show Nat.beq a b = _
      rw [nbeq, Bool.eq_iff_iff, decide_eq_true_eq, decide_eq_true_eq]
      exact ⟨fun h => by rw [h], fun h => Int.ofNat.inj h⟩
    | negSucc b => simp [ieq]
  | negSucc a => cases b with
    | ofNat b => simp [ieq]
    | negSucc b =>
      show Nat.beq a b = _
      rw [nbeq, Bool.eq_iff_iff, decide_eq_true_eq, decide_eq_true_eq]
      exact ⟨fun h => by rw [h], fun h => Int.negSucc.inj h⟩
theorem ieq_b2i (b : Bool) : ieq (b2i b) 1 = b := by cases b <;> rfl
theorem ile_iff (a b : Int) : ile a b = decide (a ≤ b) := by
  rw [Bool.eq_iff_iff, decide_eq_true_eq]
  cases a <;> cases b <;> simp [ile] <;> omega
theorem A.beq_eq {a b : A} (h : A.beq a b = true) : a = b := by
  cases a <;> cases b <;> simp_all [A.beq, ieq_iff]
theorem inR_wrap (k : IntKind) (n : Int) (h : inR k n = true) : k.wrap n = n := by
  cases k <;> cases n <;> simp [inR, nblt] at h
  · rename_i m
    rw [IntKind.wrap_i64]; show (_ : Int) = _; have : Int.ofNat m = (m : Int) := rfl
    rw [this]; omega
  · rename_i m
    rw [IntKind.wrap_i64]; omega
  · rename_i m
    have : Int.ofNat m = (m : Int) := rfl
    rw [this]
    unfold IntKind.wrap
    simp only [IntKind.signed, IntKind.bits, Bool.false_and, Bool.false_eq_true, if_false]
    omega
theorem wrapF_eq (k : IntKind) (n : Int) : wrapF k n = k.wrap n := by
  unfold wrapF
  cases h : inR k n
  · rfl
  · exact (inR_wrap k n h).symm

/-! ### Slots -/
theorem PT.get_set {α : Type} : ∀ (f : Nat) (t : PT α) (i j : Nat) (a : α), i < 2 ^ f - 1 → (PT.set f t i a).get j = if j = i then some a else t.get j
  | 0, t, i, j, a, h => by simp at h
  | f + 1, t, i, j, a, h => by
    have h2 : 2 ^ (f + 1) = 2 * 2 ^ f := by rw [Nat.pow_succ, Nat.mul_comm]
    cases t with
    | e =>
      simp only [PT.set_e, nbeq, Bool.cond_decide]
      by_cases hi : i = 0
      · subst hi
        simp only [if_true, PT.get_e, PT.get_n, nbeq, Bool.cond_decide]
        by_cases hj : j = 0 <;> simp [hj]
      · by_cases ho : i % 2 = 1
        · simp only [hi, ho, if_false, if_true, PT.get_e, PT.get_n, nbeq, Bool.cond_decide]
          by_cases hj : j = 0
          · simp [hj, Ne.symm hi]
          · by_cases hjo : j % 2 = 1
            · simp only [hj, hjo, if_false, if_true]
              rw [PT.get_set f .e (i / 2) (j / 2) a (by omega)]
              have : (j / 2 = i / 2) ↔ j = i := by omega
              simp [this, PT.get_e]
            · have : j ≠ i := by omega
              simp [hj, hjo, this]
        · simp only [hi, ho, if_false, PT.get_e, PT.get_n, nbeq, Bool.cond_decide]
          by_cases hj : j = 0
          · simp [hj, Ne.symm hi]
          · by_cases hjo : j % 2 = 1
            · have : j ≠ i := by omega
              simp [hj, hjo, this]
            · simp only [hj, hjo, if_false]
              rw [PT.get_set f .e (i / 2 - 1) (j / 2 - 1) a (by omega)]
              have : (j / 2 - 1 = i / 2 - 1) ↔ j = i := by omega
              simp [this, PT.get_e]
    | n l v r =>
      simp only [PT.set_n, nbeq, Bool.cond_decide]
      by_cases hi : i = 0
      · subst hi
        simp only [if_true, PT.get_n, nbeq, Bool.cond_decide]
        by_cases hj : j = 0 <;> simp [hj]
      · by_cases ho : i % 2 = 1
        · simp only [hi, ho, if_false, if_true, PT.get_n, nbeq, Bool.cond_decide]
          by_cases hj : j = 0
          · simp [hj, Ne.symm hi]
          · by_cases hjo : j % 2 = 1
            · simp only [hj, hjo, if_false, if_true]
              rw [PT.get_set f l (i / 2) (j / 2) a (by omega)]
              have : (j / 2 = i / 2) ↔ j = i := by omega
              simp [this]
            · have : j ≠ i := by omega
              simp [hj, hjo, this]
        · simp only [hi, ho, if_false, PT.get_n, nbeq, Bool.cond_decide]
          by_cases hj : j = 0
          · simp [hj, Ne.symm hi]
          · by_cases hjo : j % 2 = 1
            · have : j ≠ i := by omega
              simp [hj, hjo, this]
            · simp only [hj, hjo, if_false]
              rw [PT.get_set f r (i / 2 - 1) (j / 2 - 1) a (by omega)]
              have : (j / 2 - 1 = i / 2 - 1) ↔ j = i := by omega
              simp [this]

/-- What has been said of a condition. -/
def ciOk (g : Sg) (c : Bool × A × A × Bool) : Prop := (bif c.1 then ieq (c.2.1.val g) (c.2.2.1.val g) else !ile (c.2.2.1.val g) (c.2.1.val g)) = c.2.2.2
def DefsOk (U : Nat → List Int → Int) (g : Sg) (st : St) : Prop := ∀ n p as, getD st n = some (p, as) → g n = mean U p (as.map (A.val g))
/-- What the symbols stand for fits what has been named of them, and the answers foretold. -/
structure Good (U : Nat → List Int → Int) (g : Sg) (st : St) : Prop where
  defs : DefsOk U g st
  cs : ∀ c ∈ st.cs, ieq (g c.1) 1 = c.2
  ci : ∀ c ∈ st.ci, ciOk g c
  rg : ∀ n lo hi, st.rg.get n = some (lo, hi) → lo ≤ g n ∧ g n ≤ hi
  ok : st.bad = false
/-- Nothing but symbols' names has come. -/
structure Same (st st' : St) : Prop where
  heap : st'.heap = st.heap
  next : st'.next = st.next
  resv : st'.resv = st.resv
theorem Same.refl (st : St) : Same st st := ⟨rfl, rfl, rfl⟩
theorem Same.trans {a b c : St} (h : Same a b) (k : Same b c) : Same a c := ⟨k.heap.trans h.heap, k.next.trans h.next, k.resv.trans h.resv⟩
theorem allK_val {g : Sg} : ∀ {as : List A} {l : List Int}, allK as = some l → as.map (A.val g) = l
  | [], l, h => by simp [allK] at h; subst h; rfl
  | .k z :: r, l, h => by
    unfold allK at h
    cases hr : allK r with
    | none => simp [hr] at h
    | some m => simp [hr] at h; subst h; simp [A.val, allK_val hr]
  | .x _ :: _, l, h => by simp [allK] at h
theorem beqL_eq : ∀ {l m : List A}, A.beqL l m = true → l = m
  | [], [], _ => rfl
  | a :: l, b :: m, h => by
    unfold A.beqL at h
    cases hb : A.beq a b
    · rw [hb] at h; cases h
    · rw [hb] at h; rw [A.beq_eq hb, beqL_eq h]
  | [], _ :: _, h => by simp [A.beqL] at h
  | _ :: _, [], h => by simp [A.beqL] at h
theorem findIn_def {st : St} {p : Pr} {as : List A} : ∀ {l : List Nat} {n : Nat}, findIn st p as l = some n → getD st n = some (p, as)
  | [], _, h => by simp [findIn] at h
  | m :: r, n, h => by
    unfold findIn at h
    split at h
    · rename_i q bs hq
      cases hb : A.beqL bs as
      · rw [hb] at h; exact findIn_def h
      · rw [hb] at h
        simp only [cond_true] at h
        split at h
        · rename_i hh; cases h; rw [hq, hh, beqL_eq hb]
        · exact findIn_def h
    · exact findIn_def h
theorem getD_lt {st : St} {n : Nat} {d : Pr × List A} (h : getD st n = some d) : n < st.nv ∧ st.dt.get n = some d := by
  unfold getD at h
  rw [nblt, Bool.cond_decide] at h
  split at h
  · rename_i hn; exact ⟨hn, h⟩
  · cases h
theorem getD_of {st : St} {n : Nat} {d : Pr × List A} (h : n < st.nv) (k : st.dt.get n = some d) : getD st n = some d := by
  unfold getD; rw [nblt, Bool.cond_decide, if_pos h, k]
theorem isE_eq {α : Type} {t : PT α} (h : isE t = true) : t = .e := by cases t <;> simp_all [isE]
theorem keep_eq (n : Nat) (p : Pr) (as : List A) (st : St) : ∃ r, keep n p as st = { st with rg := r } ∧ ∀ m x, st.rg.get m = some x → r.get m = some x := by
  unfold keep
  cases hb : (keptP p && Nat.blt n 1000000)
  · exact ⟨st.rg, rfl, fun _ _ h => h⟩
  · rw [cond_true]
    rw [Bool.and_eq_true, nblt, decide_eq_true_eq] at hb
    split
    · exact ⟨st.rg, rfl, fun _ _ h => h⟩
    · rename_i hn
      split
      · rename_i r hr
        refine ⟨_, rfl, fun m x h => ?_⟩
        rw [PT.get_set 20 st.rg n m r (by omega)]
        split
        · rename_i e; subst e; rw [hn] at h; cases h
        · exact h
      · exact ⟨st.rg, rfl, fun _ _ h => h⟩
theorem keep_good {U : Nat → List Int → Int} {g : Sg} {n : Nat} {p : Pr} {as : List A} {st : St} (hg : Good U g (keep n p as st)) : Good U g st ∧ Same st (keep n p as st) ∧ ∀ m d, getD st m = some d → getD (keep n p as st) m = some d := by
  obtain ⟨r, e, k⟩ := keep_eq n p as st
  rw [e] at hg ⊢
  exact ⟨⟨hg.defs, hg.cs, hg.ci, fun m lo hi h => hg.rg m lo hi (k m _ h), hg.ok⟩, ⟨rfl, rfl, rfl⟩, fun m d h => h⟩
theorem app_ok {U : Nat → List Int → Int} {g : Sg} {p : Pr} {as : List A} {st st' : St} {r : A} (h : app U p as st = (r, st')) (hg : Good U g st') :
    Good U g st ∧ Same st st' ∧ r.val g = mean U p (as.map (A.val g)) := by
  unfold app at h
  split at h
  · rename_i l hl
    cases h
    exact ⟨hg, Same.refl _, by rw [allK_val hl]; rfl⟩
  · unfold newD at h
    split at h
    · rename_i n hn
      cases h
      obtain ⟨k1, k2, _⟩ := keep_good hg
      exact ⟨k1, k2, k1.defs _ _ _ (findIn_def hn)⟩
    · rw [nblt, Bool.cond_decide] at h
      split at h
      · rename_i hnv
        cases h
        obtain ⟨hg, k2, _⟩ := keep_good hg
        have gs := fun j => PT.get_set 20 st.dt st.nv j (p, as) (by omega)
        refine ⟨⟨fun n q bs hd => ?_, hg.cs, hg.ci, hg.rg, hg.ok⟩, ⟨k2.heap, k2.next, k2.resv⟩, ?_⟩
        · obtain ⟨h1, h2⟩ := getD_lt hd
          refine hg.defs n q bs (getD_of (by show n < st.nv + 1; omega) ?_)
          show (st.dt.set 20 st.nv (p, as)).get n = _
          rw [gs, if_neg (by omega), h2]
        · refine hg.defs st.nv p as (getD_of (by show st.nv < st.nv + 1; omega) ?_)
          show (st.dt.set 20 st.nv (p, as)).get st.nv = _
          rw [gs, if_pos rfl]
      · cases h
        exact absurd hg.ok (by simp)
theorem app_ok2 {U : Nat → List Int → Int} {g : Sg} (p : Pr) (as : List A) (st : St) (hg : Good U g (app U p as st).2) :
    Good U g st ∧ Same st (app U p as st).2 ∧ (app U p as st).1.val g = mean U p (as.map (A.val g)) := app_ok rfl hg

/-- The slots: n of them, and each that is known holds what it stands for. -/
structure TRel (n : Nat) (g : Sg) (r : Rho) (t : T) (a : Act) : Prop where
  size : a.tmps.size = n
  get : ∀ i v, t.get i = some v → ∃ u, a.tmps[i]? = some u ∧ v.Den g r u
  defers : a.defers = []
theorem TRel.sub {n : Nat} {g : Sg} {r r' : Rho} {t : T} {a : Act} (hs : Sub r r') (h : TRel n g r t a) : TRel n g r' t a :=
  ⟨h.size, fun i v hv => let ⟨u, hu, hd⟩ := h.get i v hv; ⟨u, hu, hd.sub hs⟩, h.defers⟩
theorem TRel.put {n : Nat} {g : Sg} {r : Rho} {t : T} {a : Act} (h : TRel n g r t a) {dst : Option Nat} (hd : ∀ d, dst = some d → d < n ∧ d < 16000) {v : V} {u : Value} (hv : v.Den g r u) :
    TRel n g r (putT t dst v) (a.put dst u) := by
  cases dst with
  | none => exact h
  | some d =>
    obtain ⟨h1, h2⟩ := hd d rfl
    refine ⟨by simp [Act.put, h.size], fun i v' hv' => ?_, h.defers⟩
    simp only [putT] at hv'
    rw [PT.get_set 14 t d i v (by omega)] at hv'
    simp only [Act.put]
    by_cases hi : i = d
    · subst hi
      simp at hv'; subst hv'
      refine ⟨u, ?_, hv⟩
      rw [Array.getElem?_setIfInBounds]; simp [h.size, h1]
    · simp [hi] at hv'
      obtain ⟨u', hu', hd'⟩ := h.get i v' hv'
      exact ⟨u', by rw [Array.getElem?_setIfInBounds_ne (Ne.symm hi)]; exact hu', hd'⟩
theorem inKB_in {k : IntKind} {n : Int} (h : inKB k n = true) : inK k n := by
  unfold inKB at h
  rw [Bool.or_eq_true] at h
  rcases h with h | h
  · have := inR_wrap k n h
    rw [← this]; exact wrap_in k n
  · exact of_decide_eq_true h
theorem cOf_den {g : Sg} {r : Rho} {v : Value} {c : C} (h : cOf v = some c) : c.den g r = some v := by
  unfold cOf at h
  split at h
  · rename_i b; cases h; cases b <;> rfl
  · rename_i k n
    cases hk : inKB k n
    · rw [hk] at h; cases h
    · rw [hk] at h
      simp only [cond_true] at h
      cases h
      simp only [C.den]
      rw [if_pos (inKB_in hk : inK k ((A.k n).val g))]
      rfl
  · cases h; rfl
  · cases h; rfl
  · cases h
theorem cOfL_den {g : Sg} {r : Rho} : ∀ {vs : List Value} {l : List C}, cOfL vs = some l → DL g r l vs
  | [], l, h => by simp [cOfL] at h; subst h; exact DL.nil
  | v :: vs, l, h => by
    unfold cOfL at h
    cases hc : cOf v with
    | none => simp [hc] at h
    | some c =>
      cases hl : cOfL vs with
      | none => simp [hc, hl] at h
      | some m => simp [hc, hl] at h; subst h; exact DL.cons (cOf_den hc) (cOfL_den hl)
theorem vOf_den {g : Sg} {r : Rho} {v : Value} {x : V} (h : vOf v = some x) : x.Den g r v := by
  unfold vOf at h
  split at h
  · split at h
    · cases h
    · rename_i l m hm; cases h; exact ⟨_, rfl, cOfL_den hm⟩
  · cases h; exact ⟨[], rfl, trivial⟩
  · split at h
    · cases h
    · rename_i c hc; cases h; exact cOf_den hc
theorem ev_den {n : Nat} {g : Sg} {r : Rho} {t : T} {a : Act} (h : TRel n g r t a) {o : Operand} {v : V} (he : ev t o = some v) : v.Den g r (a.eval o) := by
  cases o with
  | tmp i =>
    obtain ⟨u, hu, hd⟩ := h.get i v he
    have : a.eval (.tmp i) = u := by simp [Act.eval, hu]
    rw [this]; exact hd
  | const c => exact vOf_den he
  | global _ => simp [ev] at he
  | func _ => simp [ev] at he

/-! ### Memory -/
/-- What lies before and behind what is known. -/
def Side (r : Rho) (n : Nat) : Kd → List Value → List Value → Nat → Prop
  | .own, pre, post, _ => pre = [] ∧ post = []
  | .op s, pre, post, l => r.f n + r.k n * s ≤ pre.length + l + post.length
  | .vw, _, _, _ => False
structure View (g : Sg) (r : Rho) (n : Nat) (b : Nat) (bk : Bk) (w : World) : Prop where
  kd : bk.kd = .vw
  ro : r.ro n = true
  cells : ∃ vs, DL g r bk.cells vs ∧ ∀ i v, vs[i]? = some v → w.cell? ⟨b, r.f n + i, none⟩ = some v
structure Owned (g : Sg) (r : Rho) (n : Nat) (b : Nat) (bk : Bk) (w : World) : Prop where
  ro : r.ro n = false
  cells : ∃ pre vs post, w.heap[b]? = some (.cells ⟨pre ++ (vs ++ post)⟩ bk.ty (0, 0)) ∧ pre.length = r.f n ∧ DL g r bk.cells vs ∧ Side r n bk.kd pre post vs.length
def BkOk (g : Sg) (r : Rho) (n : Nat) (b : Nat) (bk : Bk) (w : World) : Prop := View g r n b bk w ∨ Owned g r n b bk w
def Holds (g : Sg) (r : Rho) (h : List (Nat × Bk)) (w : World) : Prop :=
  ∀ n bk b, hget h n = some bk → r n = some b → BkOk g r n b bk w
/-- Each of these has a name that counts. -/
def HoldsA (g : Sg) (r : Rho) (h : List (Nat × Bk)) (w : World) : Prop :=
  ∀ n bk, hget h n = some bk → ∃ b, r n = some b ∧ BkOk g r n b bk w
theorem HoldsA.weak {g : Sg} {r : Rho} {h : List (Nat × Bk)} {w : World} (k : HoldsA g r h w) : Holds g r h w := fun n bk b hn hb => by
  obtain ⟨b', h1, h2⟩ := k n bk hn
  rw [hb] at h1; cases h1; exact h2
theorem Side.sub {r r' : Rho} {n : Nat} (h1 : r'.k n = r.k n) (h2 : r'.f n = r.f n) {kd : Kd} {pre post : List Value} {l : Nat} (h : Side r n kd pre post l) : Side r' n kd pre post l := by
  cases kd with
  | own => exact h
  | op s => unfold Side at *; rw [h1, h2]; exact h
  | vw => exact h
theorem BkOk.sub {g : Sg} {r r' : Rho} (hs : Sub r r') {n b : Nat} {bk : Bk} {w : World} (hn : r n = some b) (h : BkOk g r n b bk w) : BkOk g r' n b bk w := by
  obtain ⟨a1, a2, a3, a4⟩ := hs.at_ n b hn
  rcases h with ⟨h1, h2, vs, h3, h4⟩ | ⟨h1, pre, vs, post, h2, h3, h4, h5⟩
  · exact .inl ⟨h1, a4.trans h2, vs, h3.sub hs, fun i v hv => by rw [a3]; exact h4 i v hv⟩
  · exact .inr ⟨a4.trans h1, pre, vs, post, h2, h3.trans a3.symm, h4.sub hs, h5.sub a2 a3⟩
theorem cell_of_heap {w : World} {q : Nat} {vs : List Value} {ty : TypeId} (h : w.heap[q]? = some (.cells ⟨vs⟩ ty (0, 0))) (o : Nat) : w.cell? ⟨q, o, none⟩ = vs[o]? := by
  simp [World.cell?, h]
/-- What is known of a block can be read. -/
theorem BkOk.read {g : Sg} {r : Rho} {n b : Nat} {bk : Bk} {w : World} (h : BkOk g r n b bk w) : ∃ vs, DL g r bk.cells vs ∧ ∀ i v, vs[i]? = some v → w.cell? ⟨b, r.f n + i, none⟩ = some v := by
  rcases h with ⟨_, _, h3⟩ | ⟨_, pre, vs, post, h2, h3, h4, _⟩
  · exact h3
  · refine ⟨vs, h4, fun i v hv => ?_⟩
    rw [cell_of_heap h2, ← h3, List.getElem?_append_right (by omega), Nat.add_sub_cancel_left]
    have : i < vs.length := (List.getElem?_eq_some_iff.1 hv).1
    rw [List.getElem?_append_left this]
    exact hv
theorem BkOk.free {g : Sg} {r : Rho} {n b : Nat} {bk : Bk} {w : World} (h : BkOk g r n b bk w) (hf : bk.kd.free = true) : Owned g r n b bk w := by
  rcases h with h | h
  · rw [h.kd] at hf; cases hf
  · exact h
/-- A block stays what it was, where the memory it lies in does. -/
theorem BkOk.world {g : Sg} {r : Rho} {n b : Nat} {bk : Bk} {w w' : World} (h : BkOk g r n b bk w) (hb : w'.heap[b]? = w.heap[b]?) : BkOk g r n b bk w' := by
  rcases h with ⟨h1, h2, vs, h3, h4⟩ | ⟨h1, pre, vs, post, h2, h3, h4, h5⟩
  · refine .inl ⟨h1, h2, vs, h3, fun i v hv => ?_⟩
    rw [← h4 i v hv]
    simp only [World.cell?, hb]
  · exact .inr ⟨h1, pre, vs, post, hb.trans h2, h3, h4, h5⟩
structure Inv (g : Sg) (r : Rho) (st : St) (w : World) : Prop where
  holds : Holds g r st.heap w
  inj : ∀ n m b, (hget st.heap n).isSome = true → (hget st.heap m).isSome = true → r.ro n = false → r n = some b → r m = some b → n = m
  fresh : ∀ n b, r n = some b → n < st.next ∧ n ∉ st.resv
  lt : ∀ n b, r n = some b → b < w.heap.size
  rlt : ∀ n, n ∈ st.resv → n < st.next
  nobar : ∀ n b, r n = some b → r.bar n = false
  free : ∀ n, r.bar n = true → n < st.next ∧ n ∉ st.resv
/-- What has been made, and what has been written: nothing that is read alone. -/
structure Ext (r : Rho) (w : World) (r' : Rho) (w' : World) : Prop where
  sub : Sub r r'
  new : ∀ n b, r' n = some b → r'.ro n = false → (∃ m, r m = some b ∧ r.ro m = false) ∨ w.heap.size ≤ b
  size : w.heap.size ≤ w'.heap.size
  frame : ∀ b, b < w.heap.size → (∀ n, r n = some b → r.ro n = true) → w'.heap[b]? = w.heap[b]?
  os : w'.os = w.os
  tape : w'.tape = w.tape
  output : w'.output = w.output
  bar : r'.bar = r.bar
theorem Ext.refl (r : Rho) (w : World) : Ext r w r w := ⟨Sub.refl _, fun n _ h h' => .inl ⟨n, h, h'⟩, Nat.le_refl _, fun _ _ _ => rfl, rfl, rfl, rfl, rfl⟩
theorem Ext.trans {r r1 r2 : Rho} {w w1 w2 : World} (h : Ext r w r1 w1) (k : Ext r1 w1 r2 w2) : Ext r w r2 w2 := by
  refine ⟨h.sub.trans k.sub, fun n b hb hr => ?_, Nat.le_trans h.size k.size, fun b hb hn => ?_, k.os.trans h.os, k.tape.trans h.tape, k.output.trans h.output, k.bar.trans h.bar⟩
  · rcases k.new n b hb hr with ⟨m, h1, h2⟩ | h1
    · exact h.new m b h1 h2
    · exact .inr (Nat.le_trans h.size h1)
  · rw [k.frame b (Nat.lt_of_lt_of_le hb h.size) (fun n e => ?_), h.frame b hb hn]
    cases hr : r1.ro n
    · rcases h.new n b e hr with ⟨m, h1, h2⟩ | h1
      · rw [hn m h1] at h2; cases h2
      · omega
    · rfl
theorem Ext.drew {r r' : Rho} {w w' : World} (h : Ext r { w with drawn := w.drawn + 1 } r' w') : Ext r w r' w' := ⟨h.sub, h.new, h.size, h.frame, h.os, h.tape, h.output, h.bar⟩
theorem Inv.drew {g : Sg} {r : Rho} {st : St} {w : World} (h : Inv g r st w) : Inv g r st { w with drawn := w.drawn + 1 } := ⟨fun n bk b hn hb => (h.holds n bk b hn hb).world rfl, h.inj, h.fresh, h.lt, h.rlt, h.nobar, h.free⟩
theorem Inv.same {g : Sg} {r : Rho} {st st' : St} {w : World} (h : Inv g r st w) (hs : Same st st') : Inv g r st' w :=
  ⟨by rw [hs.heap]; exact h.holds, by rw [hs.heap]; exact h.inj, by rw [hs.next, hs.resv]; exact h.fresh, h.lt, by rw [hs.next, hs.resv]; exact h.rlt, h.nobar, by rw [hs.next, hs.resv]; exact h.free⟩
theorem HoldsA.sub {g : Sg} {r r' : Rho} (hs : Sub r r') {h : List (Nat × Bk)} {w : World} (k : HoldsA g r h w) : HoldsA g r' h w := fun n bk hn => by
  obtain ⟨b, h1, h2⟩ := k n bk hn
  exact ⟨b, (hs.at_ n b h1).1, h2.sub hs h1⟩
theorem hget_hset {h : List (Nat × Bk)} {n m : Nat} {b : Bk} : hget (hset h n b) m = if m = n then some b else hget h m := by
  induction h with
  | nil =>
    simp only [hset, hget, nbeq, Bool.cond_decide]
    by_cases hm : m = n
    · simp [hm]
    · simp [hm, Ne.symm hm]
  | cons x r ih =>
    obtain ⟨k, c⟩ := x
    simp only [hset, nbeq, nblt, Bool.cond_decide]
    by_cases hk : k = n
    · subst hk
      simp only [if_true, hget, nbeq, Bool.cond_decide]
      by_cases hm : m = k
      · simp [hm]
      · simp [hm, Ne.symm hm]
    · simp only [hk, if_false]
      by_cases hl : k < n
      · simp only [hl, if_true]
        rw [hget]
        simp only [nbeq, Bool.cond_decide]
        by_cases hm : m = n
        · simp [hm]
        · simp [hm, Ne.symm hm]
      · simp only [hl, if_false, hget, ih, nbeq, Bool.cond_decide]
        by_cases hm : m = n
        · subst hm; simp [hk]
        · simp [hm]
theorem isSome_hset {h : List (Nat × Bk)} {n m : Nat} {b : Bk} (hm : (hget (hset h n b) m).isSome = true) : m = n ∨ (hget h m).isSome = true := by
  rw [hget_hset] at hm
  by_cases e : m = n
  · exact .inl e
  · rw [if_neg e] at hm; exact .inr hm
theorem isSome_of {h : List (Nat × Bk)} {n : Nat} {b : Bk} (hn : hget h n = some b) : (hget h n).isSome = true := by rw [hn]; rfl
end Go.Proofs.Ytdleeeahonfnkaa.SX

/- SxR -/
namespace Go.Proofs.Ytdleeeahonfnkaa.SX
open Go

def within (r : Rg) (z : Int) : Prop := ∀ lo hi, r = some (lo, hi) → lo ≤ z ∧ z ≤ hi
theorem within_none (z : Int) : within none z := fun _ _ h => by cases h
theorem within_some {lo hi z : Int} (h1 : lo ≤ z) (h2 : z ≤ hi) : within (some (lo, hi)) z := fun _ _ h => by cases h; exact ⟨h1, h2⟩
theorem within_pair {p : Int × Int} {z : Int} (h1 : p.1 ≤ z) (h2 : z ≤ p.2) : within (some p) z := fun _ _ h => by cases h; exact ⟨h1, h2⟩
theorem kindR_ok {k : IntKind} {z : Int} (h : inK k z) : within (kindR k) z := by
  cases k <;> first | exact within_none _ | exact within_some h.1 h.2
theorem inR_i64 (z : Int) : inR .i64 z = true ↔ -9223372036854775808 ≤ z ∧ z ≤ 9223372036854775807 := by
  cases z with
  | ofNat m => have e : Int.ofNat m = (m : Int) := rfl; simp only [inR, nblt, decide_eq_true_eq, e]; omega
  | negSucc m => simp only [inR, nblt, decide_eq_true_eq]; omega
theorem inR_u64 (z : Int) : inR .u64 z = true ↔ 0 ≤ z ∧ z ≤ 18446744073709551615 := by
  cases z with
  | ofNat m => have e : Int.ofNat m = (m : Int) := rfl; simp only [inR, nblt, decide_eq_true_eq, e]; omega
  | negSucc m => simp only [inR]; constructor
                 · intro h; cases h
                 · intro h; omega
theorem inR_mid {k : IntKind} {lo z hi : Int} (h1 : inR k lo = true) (h2 : inR k hi = true) (h3 : lo ≤ z) (h4 : z ≤ hi) : inR k z = true := by
  cases k <;> first | (rw [inR_i64] at *; omega) | (rw [inR_u64] at *; omega) | (simp [inR] at h1)
theorem wrapF_in (k : IntKind) (z : Int) : inK k (wrapF k z) := by rw [wrapF_eq]; exact wrap_in k z
theorem fitR_ok {k : IntKind} {lo z hi : Int} (h1 : lo ≤ z) (h2 : z ≤ hi) : within (fitR k lo hi) (wrapF k z) := by
  unfold fitR
  cases hb : inR k lo && inR k hi
  · exact kindR_ok (wrapF_in k z)
  · rw [Bool.and_eq_true] at hb
    have := inR_mid hb.1 hb.2 h1 h2
    have e : wrapF k z = z := by unfold wrapF; rw [this]; rfl
    rw [e]
    exact within_some h1 h2
theorem imin_eq (a b : Int) : imin a b = if a ≤ b then a else b := by unfold imin; rw [ile_iff, Bool.cond_decide]
theorem imax_eq (a b : Int) : imax a b = if a ≤ b then b else a := by unfold imax; rw [ile_iff, Bool.cond_decide]
theorem clampI_eq (a lo hi : Int) : clampI a lo hi = if a ≤ lo then lo else if hi ≤ a then hi else a := by unfold clampI; rw [ile_iff, ile_iff, Bool.cond_decide, Bool.cond_decide]
theorem mul_in {a b x : Int} (c : Int) (h1 : a ≤ x) (h2 : x ≤ b) : imin (a * c) (b * c) ≤ x * c ∧ x * c ≤ imax (a * c) (b * c) := by
  rw [imin_eq, imax_eq]
  by_cases hc : 0 ≤ c
  · have e1 := Int.mul_le_mul_of_nonneg_right h1 hc
    have e2 := Int.mul_le_mul_of_nonneg_right h2 hc
    split <;> omega
  · have e1 := Int.mul_le_mul_of_nonpos_right h1 (by omega : c ≤ 0)
    have e2 := Int.mul_le_mul_of_nonpos_right h2 (by omega : c ≤ 0)
    split <;> omega
theorem mul_ok4 {a b c d x y : Int} (h1 : a ≤ x) (h2 : x ≤ b) (h3 : c ≤ y) (h4 : y ≤ d) : mulLo a b c d ≤ x * y ∧ x * y ≤ mulHi a b c d := by
  have e := mul_in y h1 h2
  have f := mul_in a h3 h4
  have f' := mul_in b h3 h4
  rw [Int.mul_comm c a, Int.mul_comm d a, Int.mul_comm y a] at f
  rw [Int.mul_comm c b, Int.mul_comm d b, Int.mul_comm y b] at f'
  unfold mulLo mulHi
  generalize a * c = p1 at *
  generalize a * d = p2 at *
  generalize b * c = p3 at *
  generalize b * d = p4 at *
  generalize a * y = p5 at *
  generalize b * y = p6 at *
  generalize x * y = p7 at *
  simp only [imin_eq, imax_eq] at *
  constructor
  · have := e.1; have := f.1; have := f'.1
    repeat' split at *
    all_goals omega
  · have := e.2; have := f.2; have := f'.2
    repeat' split at *
    all_goals omega
theorem fdiv_mono {a b : Int} {c : Int} (hc : 0 ≤ c) (h : a ≤ b) : a.fdiv c ≤ b.fdiv c := by
  rw [Int.fdiv_eq_ediv_of_nonneg _ hc, Int.fdiv_eq_ediv_of_nonneg _ hc]
  rcases Int.lt_or_eq_of_le hc with h' | h'
  · exact Int.ediv_le_ediv h' h
  · subst h'; simp
theorem tdiv_mono {a b : Int} {c : Int} (hc : 0 < c) (h : a ≤ b) : a.tdiv c ≤ b.tdiv c := by
  have nn : ∀ {x y : Int}, 0 ≤ x → x ≤ y → x.tdiv c ≤ y.tdiv c := fun hx hxy => by
    rw [Int.tdiv_eq_ediv_of_nonneg hx, Int.tdiv_eq_ediv_of_nonneg (by omega)]
    exact Int.ediv_le_ediv hc hxy
  by_cases h0 : 0 ≤ a
  · exact nn h0 h
  · by_cases h1 : 0 ≤ b
    · have e1 : 0 ≤ (-a).tdiv c := Int.tdiv_nonneg (by omega) (by omega)
      have e2 : 0 ≤ b.tdiv c := Int.tdiv_nonneg h1 (by omega)
      rw [Int.neg_tdiv] at e1
      omega
    · have := nn (x := -b) (y := -a) (by omega) (by omega)
      rw [Int.neg_tdiv, Int.neg_tdiv] at this
      omega
theorem addR_ok {k : IntKind} {r q : Rg} {x y : Int} (h1 : within r x) (h2 : within q y) : within (addR k r q) (wrapF k (x + y)) := by
  unfold addR
  split
  · rename_i a b c d
    have e1 := h1 a b rfl
    have e2 := h2 c d rfl
    exact fitR_ok (by omega) (by omega)
  · exact kindR_ok (wrapF_in _ _)
theorem subR_ok {k : IntKind} {r q : Rg} {x y : Int} (h1 : within r x) (h2 : within q y) : within (subR k r q) (wrapF k (x - y)) := by
  unfold subR
  split
  · rename_i a b c d
    have e1 := h1 a b rfl
    have e2 := h2 c d rfl
    exact fitR_ok (by omega) (by omega)
  · exact kindR_ok (wrapF_in _ _)
theorem mulR_ok {k : IntKind} {r q : Rg} {x y : Int} (h1 : within r x) (h2 : within q y) : within (mulR k r q) (wrapF k (x * y)) := by
  unfold mulR
  split
  · rename_i a b c d
    have e1 := h1 a b rfl
    have e2 := h2 c d rfl
    have := mul_ok4 e1.1 e1.2 e2.1 e2.2
    exact fitR_ok this.1 this.2
  · exact kindR_ok (wrapF_in _ _)
theorem sqK_ok {k : IntKind} {r : Rg} {x : Int} (h1 : within r x) : within (sqK k r) (wrapF k (x * x)) := by
  unfold sqK
  split
  · rename_i a b
    have e := h1 a b rfl
    have k1 : x * x ≤ imax (a * a) (b * b) ∧ 0 ≤ x * x := by
      rw [imax_eq]
      rcases Int.le_total 0 x with h0 | h0
      · have : x * x ≤ b * b := Int.mul_le_mul e.2 e.2 h0 (by omega)
        refine ⟨by split <;> omega, Int.mul_nonneg h0 h0⟩
      · have : x * x ≤ a * a := by
          have := Int.mul_le_mul (show -x ≤ -a by omega) (show -x ≤ -a by omega) (by omega) (by omega)
          rwa [Int.neg_mul_neg, Int.neg_mul_neg] at this
        refine ⟨by split <;> omega, ?_⟩
        have := Int.mul_nonneg (show 0 ≤ -x by omega) (show 0 ≤ -x by omega)
        rwa [Int.neg_mul_neg] at this
    exact fitR_ok k1.2 k1.1
  · exact kindR_ok (wrapF_in _ _)
theorem quoR_ok {k : IntKind} {z : Int} {r : Rg} {x : Int} (h1 : within r x) : within (quoR k z r) (wrapF k (x.tdiv z)) := by
  unfold quoR
  split
  · rename_i a b
    have e1 := h1 a b rfl
    rw [ile_iff, Bool.cond_decide]
    split
    · exact fitR_ok (tdiv_mono (by omega) e1.1) (tdiv_mono (by omega) e1.2)
    · exact kindR_ok (wrapF_in _ _)
  · exact kindR_ok (wrapF_in _ _)
theorem remR_ok {z : Int} {r : Rg} {x : Int} (h1 : within r x) : within (remR z r) (x.tmod z) := by
  have key : 1 ≤ z → 1 - z ≤ x.tmod z ∧ x.tmod z ≤ z - 1 ∧ (0 ≤ x → 0 ≤ x.tmod z) ∧ (x ≤ 0 → x.tmod z ≤ 0) := fun hz => by
    have up : ∀ {y : Int}, 0 ≤ y → 0 ≤ y.tmod z ∧ y.tmod z ≤ z - 1 := fun {y} hy => by
      have h1 := Int.tmod_nonneg z hy
      have h2 := Int.tmod_lt_of_pos y (by omega : 0 < z)
      omega
    by_cases h0 : 0 ≤ x
    · have := up h0
      refine ⟨by omega, by omega, fun _ => this.1, fun h => ?_⟩
      have : x = 0 := by omega
      subst this; simp
    · have := up (y := -x) (by omega)
      rw [Int.neg_tmod] at this
      exact ⟨by omega, by omega, fun h => absurd h h0, fun _ => by omega⟩
  unfold remR
  split
  · rename_i a b
    have e1 := h1 a b rfl
    rw [ile_iff, ile_iff, ile_iff, Bool.cond_decide, Bool.cond_decide, Bool.cond_decide]
    split
    · rename_i hz
      have := key hz
      refine within_some ?_ ?_
      · split
        · exact this.2.2.1 (by omega)
        · omega
      · split
        · exact this.2.2.2 (by omega)
        · omega
    · exact within_none _
  · rw [ile_iff, Bool.cond_decide]
    split
    · rename_i hz
      exact within_some (key hz).1 (key hz).2.1
    · exact within_none _
theorem shrR_ok {n : Nat} {r : Rg} {x : Int} (h1 : within r x) : within (shrR n r) (x.fdiv (2 ^ n)) := by
  unfold shrR
  split
  · rename_i a b
    have e1 := h1 a b rfl
    have e : ((2 ^ n : Nat) : Int) = 2 ^ n := by simp
    rw [e]
    have hp : (0 : Int) ≤ 2 ^ n := by rw [← e]; exact Int.natCast_nonneg _
    exact within_some (fdiv_mono hp e1.1) (fdiv_mono hp e1.2)
  · exact within_none _
theorem convR_ok {k : IntKind} {r : Rg} {x : Int} (h1 : within r x) : within (convR k r) (wrapF k x) := by
  unfold convR
  split
  · rename_i a b
    have e1 := h1 a b rfl
    exact fitR_ok e1.1 e1.2
  · exact kindR_ok (wrapF_in _ _)
theorem hullR_ok {r q : Rg} {x y : Int} (c : Bool) (h1 : within r x) (h2 : within q y) : within (hullR r q) (bif c then x else y) := by
  unfold hullR
  split
  · rename_i a b c' d
    have e1 := h1 a b rfl
    have e2 := h2 c' d rfl
    rw [imin_eq, imax_eq]
    cases c
    · exact within_some (by simp only [cond_false]; split <;> omega) (by simp only [cond_false]; split <;> omega)
    · exact within_some (by simp only [cond_true]; split <;> omega) (by simp only [cond_true]; split <;> omega)
  · exact within_none _
def Rs (g : Sg) : List A → List Rg → Prop
  | [], [] => True
  | a :: l, r :: rs => within r (a.val g) ∧ Rs g l rs
  | _, _ => False
theorem maxR_ok {r q : Rg} {x y : Int} (h1 : within r x) (h2 : within q y) : within (maxR r q) (bif ile y x then x else y) := by
  unfold maxR
  split
  · have e1 := h1 _ _ rfl
    have e2 := h2 _ _ rfl
    rw [imax_eq, imax_eq, ile_iff, Bool.cond_decide]
    refine within_some ?_ ?_ <;> (repeat' split) <;> omega
  · exact within_none _
theorem minR_ok {r q : Rg} {x y : Int} (h1 : within r x) (h2 : within q y) : within (minR r q) (bif ile x y then x else y) := by
  unfold minR
  split
  · have e1 := h1 _ _ rfl
    have e2 := h2 _ _ rfl
    rw [imin_eq, imin_eq, ile_iff, Bool.cond_decide]
    refine within_some ?_ ?_ <;> (repeat' split) <;> omega
  · exact within_none _
theorem mulAdd_ok {c : Int} {r q : Rg} {x y : Int} (h1 : within r x) (h2 : within q y) : within (mulAdd c r q) (c * x + y) := by
  unfold mulAdd
  split
  · rename_i a b p q
    have e1 := h1 _ _ rfl
    have e2 := h2 _ _ rfl
    rw [ile_iff, Bool.cond_decide]
    split
    · rename_i hc
      have k1 := Int.mul_le_mul_of_nonneg_left e1.1 hc
      have k2 := Int.mul_le_mul_of_nonneg_left e1.2 hc
      exact within_some (by omega) (by omega)
    · rename_i hc
      have k1 := Int.mul_le_mul_of_nonpos_left (by omega : c ≤ 0) e1.1
      have k2 := Int.mul_le_mul_of_nonpos_left (by omega : c ≤ 0) e1.2
      exact within_some (by omega) (by omega)
  · exact within_none _
theorem linR_ok {g : Sg} {k : Int} : ∀ {cs : List Int} {xs : List A} {rs : List Rg}, Rs g xs rs → within (linR k cs rs) (linV k cs (xs.map (A.val g)))
  | [], xs, rs, _ => by
    have : linV k [] (xs.map (A.val g)) = k := by cases xs <;> rfl
    rw [this]
    cases rs <;> exact within_some (Int.le_refl _) (Int.le_refl _)
  | c :: cs, [], [], _ => within_some (Int.le_refl _) (Int.le_refl _)
  | c :: cs, x :: xs, r :: rs, ⟨h1, h2⟩ => mulAdd_ok h1 (linR_ok h2)
  | _ :: _, [], _ :: _, h => h.elim
  | _ :: _, _ :: _, [], h => h.elim
/-- The bounds of marks are what they stand for; the tenth is a clamping. -/
class UOk1 (U : Nat → List Int → Int) : Prop where
  clamp : ∀ a lo hi : Int, lo ≤ hi → U 10 [a, lo, hi] = if a < lo then lo else if hi < a then hi else a
  lenD : ∀ (l : List Int) (x : Int) (s : Nat), x ∈ l → -((2 ^ s : Nat) : Int) ≤ U 4 [x, U 32 l, (s : Int)] ∧ U 4 [x, U 32 l, (s : Int)] ≤ ((2 ^ s : Nat) : Int)
  ok : ∀ (g : Sg) (le : A → A → Bool) (n : Nat) (as : List A) (rs : List Rg), (∀ a b, le a b = true → a.val g ≤ b.val g) → Rs g as rs → within (rngU le n as rs) (U n (as.map (A.val g)))
section
variable {U : Nat → List Int → Int} {g : Sg} [UOk1 U]
theorem rngOp_ok {le : A → A → Bool} (hle : ∀ a b, le a b = true → a.val g ≤ b.val g) {p : Pr} {as : List A} {rs : List Rg} (h : Rs g as rs) : within (rngOp le p as rs) (mean U p (as.map (A.val g))) := by
  unfold rngOp
  split
  · match as, h with
    | [a, b], ⟨h1, h2, _⟩ => exact addR_ok h1 h2
  · match as, h with
    | [a, b], ⟨h1, h2, _⟩ => exact subR_ok h1 h2
  · rename_i a b _ _ 
    obtain ⟨h1, h2, _⟩ := h
    cases hb : A.beq a b
    · exact mulR_ok h1 h2
    · obtain rfl := A.beq_eq hb
      exact sqK_ok h1
  · exact quoR_ok h.1
  · exact remR_ok h.1
  · exact shrR_ok h.1
  · exact convR_ok h.1
  · obtain ⟨_, h1, h2, _⟩ := h
    exact hullR_ok _ h1 h2
  · exact linR_ok h
  · obtain ⟨h1, h2, _⟩ := h
    exact maxR_ok h1 h2
  · obtain ⟨h1, h2, _⟩ := h
    exact minR_ok h1 h2
  · exact UOk1.ok g le _ _ _ hle h
  · exact within_none _
theorem knowLe_ok : ∀ {l : List (Bool × A × A × Bool)}, (∀ c ∈ l, ciOk g c) → ∀ a b, knowLe l a b = true → a.val g ≤ b.val g
  | [], _, _, _, h => by simp [knowLe] at h
  | (e, p, q, v) :: r, hc, a, b, h => by
    unfold knowLe at h
    cases hb : (!e && ((v && A.beq p a && A.beq q b) || (!v && A.beq p b && A.beq q a)))
    · rw [hb] at h; exact knowLe_ok (fun c h => hc c (List.mem_cons_of_mem _ h)) a b h
    · have hk := hc _ (List.mem_cons_self ..)
      unfold ciOk at hk
      simp only [Bool.and_eq_true, Bool.or_eq_true, Bool.not_eq_true'] at hb
      obtain ⟨he, hb⟩ := hb
      subst he
      simp only [cond_false, ile_iff] at hk
      rcases hb with ⟨⟨h1, h2⟩, h3⟩ | ⟨⟨h1, h2⟩, h3⟩
      · subst h1
        rw [← A.beq_eq h2, ← A.beq_eq h3]
        simp at hk; omega
      · subst h1
        rw [← A.beq_eq h2, ← A.beq_eq h3]
        simp at hk; omega
theorem ref1_ok {e : Bool} {p q : A} {v : Bool} {a : A} {lo hi : Int} (hc : ciOk g (e, p, q, v)) (h1 : lo ≤ a.val g) (h2 : a.val g ≤ hi) :
    (ref1 e p q v a lo hi).1 ≤ a.val g ∧ a.val g ≤ (ref1 e p q v a lo hi).2 := by
  unfold ciOk at hc
  unfold ref1
  cases e
  · change (!ile (q.val g) (p.val g)) = v at hc
    rw [ile_iff] at hc
    simp only [cond_false]
    cases hp : A.beq p a
    · simp only [cond_false]
      cases hq : A.beq q a
      · exact ⟨h1, h2⟩
      · simp only [cond_true]
        obtain rfl := A.beq_eq hq
        cases p with
        | x _ => exact ⟨h1, h2⟩
        | k z =>
          rw [val_k] at hc
          cases v
          · simp at hc; simp only [cond_false, imin_eq]
            refine ⟨h1, ?_⟩
            split <;> omega
          · simp at hc; simp only [cond_true, imax_eq]
            refine ⟨?_, h2⟩
            split <;> omega
    · simp only [cond_true]
      obtain rfl := A.beq_eq hp
      cases q with
      | x _ => exact ⟨h1, h2⟩
      | k z =>
        rw [val_k] at hc
        cases v
        · simp at hc; simp only [cond_false, imax_eq]
          refine ⟨?_, h2⟩
          split <;> omega
        · simp at hc; simp only [cond_true, imin_eq]
          refine ⟨h1, ?_⟩
          split <;> omega
  · change ieq (p.val g) (q.val g) = v at hc
    rw [ieq_iff] at hc
    simp only [cond_true, ieq_iff]
    cases hp : A.beq p a
    · exact ⟨h1, h2⟩
    · simp only [cond_true]
      obtain rfl := A.beq_eq hp
      cases q with
      | x _ => exact ⟨h1, h2⟩
      | k z =>
        rw [val_k] at hc
        cases v
        · replace hc := of_decide_eq_false hc; simp only [cond_false, Bool.cond_decide]
          constructor <;> split <;> omega
        · replace hc := of_decide_eq_true hc; simp only [cond_true]
          omega
theorem refine1_ok : ∀ {l : List (Bool × A × A × Bool)} {a : A} {lo hi : Int}, (∀ c ∈ l, ciOk g c) → lo ≤ a.val g → a.val g ≤ hi → (refine1 l a lo hi).1 ≤ a.val g ∧ a.val g ≤ (refine1 l a lo hi).2
  | [], _, _, _, _, h1, h2 => ⟨h1, h2⟩
  | (e, p, q, v) :: l, a, lo, hi, hc, h1, h2 => by
    have := ref1_ok (hc _ (List.mem_cons_self ..)) h1 h2
    unfold refine1
    exact refine1_ok (fun c h => hc c (List.mem_cons_of_mem _ h)) this.1 this.2
theorem refineR_ok {l : List (Bool × A × A × Bool)} {a : A} {r : Rg} (hc : ∀ c ∈ l, ciOk g c) (h : within r (a.val g)) : within (refineR l a r) (a.val g) := by
  unfold refineR
  split
  · rename_i lo hi
    have e := h lo hi rfl
    have := refine1_ok hc e.1 e.2
    exact within_pair this.1 this.2
  · exact within_none _
theorem rngs_ok {f : Nat → A → Rg × Nat} (hf : ∀ b a, within (f b a).1 (a.val g)) : ∀ (as : List A) (b : Nat), Rs g as (rngs f b as).1
  | [], _ => trivial
  | a :: l, b => ⟨hf b a, rngs_ok hf l _⟩
theorem memA_ok {x : A} : ∀ {l : List A}, memA x l = true → x ∈ l
  | [], h => by cases h
  | a :: l, h => by
    unfold memA at h
    cases hb : A.beq x a
    · rw [hb] at h; exact List.mem_cons_of_mem _ (memA_ok h)
    · rw [A.beq_eq hb]; exact List.mem_cons_self ..
omit [UOk1 U] in
theorem uArgs_val {st : St} (hd : DefsOk U g st) {k : Nat} {a : A} {xs : List A} (h : uArgs st k a = some xs) : a.val g = U k (xs.map (A.val g)) := by
  cases a with
  | k z => cases h
  | x n =>
    have h : (match getD st n with
      | some (.u m, xs) => bif Nat.beq m k then some xs else none
      | _ => none) = some xs := h
    cases hn : getD st n with
    | none => rw [hn] at h; cases h
    | some q =>
      obtain ⟨p, ys⟩ := q
      rw [hn] at h
      cases p with
      | u m =>
        simp only at h
        cases hk : Nat.beq m k
        · rw [hk] at h; cases h
        · rw [hk] at h
          cases h
          rw [nbeq, decide_eq_true_eq] at hk
          subst hk
          exact hd _ _ _ hn
      | _ => cases h
theorem lenCap_ok {st : St} (hd : DefsOk U g st) {p : Pr} {xa : List A} {r : Rg} (h : within r (mean U p (xa.map (A.val g)))) : within (lenCap st p xa r) (mean U p (xa.map (A.val g))) := by
  unfold lenCap
  split
  · rename_i x m s
    split
    · rename_i xs hm
      cases hb : memA x xs
      · exact h
      · rw [cond_true]
        have hu : m.val g = U 32 (xs.map (A.val g)) := uArgs_val hd hm
        have k : -((2 ^ s : Nat) : Int) ≤ U 4 [x.val g, m.val g, (s : Int)] ∧ U 4 [x.val g, m.val g, (s : Int)] ≤ ((2 ^ s : Nat) : Int) := by
          rw [hu]; exact UOk1.lenD _ _ _ (List.mem_map_of_mem (memA_ok hb))
        have e : mean U (.u 4) ([x, m, .k (.ofNat s)].map (A.val g)) = U 4 [x.val g, m.val g, (s : Int)] := rfl
        rw [e] at h ⊢
        unfold meetR
        split
        · have := h _ _ rfl
          rw [imax_eq, imin_eq]
          refine within_some ?_ ?_ <;> split <;> omega
        · exact within_some k.1 k.2
    · exact h
  · exact h
theorem rng_ok {st : St} (hd : DefsOk U g st) (hci : ∀ c ∈ st.ci, ciOk g c) : ∀ (d b : Nat) (a : A), within (rng st d b a).1 (a.val g)
  | 0, b, .x n => by unfold rng; exact within_none _
  | 0, b, .k z => by unfold rng; exact within_some (Int.le_refl _) (Int.le_refl _)
  | d + 1, b, .k z => by unfold rng; exact within_some (Int.le_refl _) (Int.le_refl _)
  | d + 1, b, .x n => by
    unfold rng
    cases Nat.beq b 0
    · simp only [cond_false]
      split
      · exact within_none _
      · rename_i p as hn
        refine refineR_ok hci ?_
        have e : (A.x n).val g = mean U p (as.map (A.val g)) := hd _ _ _ hn
        rw [e]
        exact lenCap_ok hd (rngOp_ok (knowLe_ok hci) (rngs_ok (rng_ok hd hci d) as _))
    · exact within_none _
theorem range0_ok {st : St} (hg : Good U g st) (a : A) : within (range0 st a) (a.val g) := by
  cases a with
  | k z => exact within_some (Int.le_refl _) (Int.le_refl _)
  | x n =>
    show within (match st.rg.get n with
      | some (lo, hi) => some (refine1 st.ci (.x n) lo hi)
      | none => (rng st 40 60 (.x n)).1) _
    split
    · rename_i lo hi h
      have := hg.rg n lo hi h
      have := refine1_ok (a := .x n) hg.ci this.1 this.2
      exact within_pair this.1 this.2
    · exact rng_ok hg.defs hg.ci _ _ _
theorem rel1_ok {f : A → Rg} (hf : ∀ a, within (f a) (a.val g)) {e : Bool} {p q : A} {v : Bool} {a : A} {lo hi : Int} (hc : ciOk g (e, p, q, v)) (h1 : lo ≤ a.val g) (h2 : a.val g ≤ hi) :
    (rel1 f e p q v a lo hi).1 ≤ a.val g ∧ a.val g ≤ (rel1 f e p q v a lo hi).2 := by
  unfold ciOk at hc
  unfold rel1
  have fp := hf p
  have fq := hf q
  cases e
  · change (!ile (q.val g) (p.val g)) = v at hc
    rw [ile_iff] at hc
    simp only [cond_false]
    cases hp : A.beq p a
    · simp only [cond_false]
      cases hq : A.beq q a
      · exact ⟨h1, h2⟩
      · simp only [cond_true]
        obtain rfl := A.beq_eq hq
        split
        · rename_i c d e
          have := fp _ _ e
          cases v
          · simp at hc
            simp only [cond_false, imin_eq]
            refine ⟨h1, ?_⟩
            split <;> omega
          · simp at hc
            simp only [cond_true, imax_eq]
            refine ⟨?_, h2⟩
            split <;> omega
        · exact ⟨h1, h2⟩
    · simp only [cond_true]
      obtain rfl := A.beq_eq hp
      split
      · rename_i c d e
        have := fq _ _ e
        cases v
        · simp at hc
          simp only [cond_false, imax_eq]
          refine ⟨?_, h2⟩
          split <;> omega
        · simp at hc
          simp only [cond_true, imin_eq]
          refine ⟨h1, ?_⟩
          split <;> omega
      · exact ⟨h1, h2⟩
  · change ieq (p.val g) (q.val g) = v at hc
    rw [ieq_iff] at hc
    simp only [cond_true]
    cases hp : (v && A.beq p a)
    · exact ⟨h1, h2⟩
    · rw [Bool.and_eq_true] at hp
      obtain ⟨hv, hp⟩ := hp
      subst hv
      obtain rfl := A.beq_eq hp
      have hc := of_decide_eq_true hc
      simp only [cond_true]
      split
      · rename_i c d e
        have := fq _ _ e
        simp only [imax_eq, imin_eq]
        constructor <;> split <;> omega
      · exact ⟨h1, h2⟩
theorem rels_ok {f : A → Rg} (hf : ∀ a, within (f a) (a.val g)) : ∀ {l : List (Bool × A × A × Bool)} {a : A} {lo hi : Int}, (∀ c ∈ l, ciOk g c) → lo ≤ a.val g → a.val g ≤ hi → (rels f l a lo hi).1 ≤ a.val g ∧ a.val g ≤ (rels f l a lo hi).2
  | [], _, _, _, _, h1, h2 => ⟨h1, h2⟩
  | (e, p, q, v) :: l, a, lo, hi, hc, h1, h2 => by
    unfold rels
    cases bothX p q
    · exact rels_ok hf (fun c h => hc c (List.mem_cons_of_mem _ h)) h1 h2
    · have := rel1_ok hf (hc _ (List.mem_cons_self ..)) h1 h2
      exact rels_ok hf (fun c h => hc c (List.mem_cons_of_mem _ h)) this.1 this.2
theorem range_ok {st : St} (hg : Good U g st) (a : A) : within (rangeOf st a) (a.val g) := by
  cases a with
  | k z => exact within_some (Int.le_refl _) (Int.le_refl _)
  | x n =>
    unfold rangeOf
    simp only
    split
    · rename_i lo hi h
      have := range0_ok hg (.x n) _ _ h
      have := rels_ok (range0_ok hg) hg.ci this.1 this.2
      exact within_pair this.1 this.2
    · exact within_none _
/-- What multiples come to. -/
def valF (g : Sg) : List (Int × A) → Int
  | [] => 0
  | (c, a) :: r => c * a.val g + valF g r
theorem insF_val {c : Int} {a : A} : ∀ {l : List (Int × A)}, valF g (insF c a l) = c * a.val g + valF g l
  | [] => rfl
  | (d, b) :: r => by
    unfold insF
    cases hb : A.beq a b
    · rw [cond_false]
      cases Nat.blt a.num b.num
      · rw [cond_false]
        show d * b.val g + valF g (insF c a r) = _
        rw [insF_val]
        show _ = c * a.val g + (d * b.val g + valF g r)
        omega
      · rw [cond_true]; rfl
    · rw [cond_true]
      obtain rfl := A.beq_eq hb
      rw [ieq_iff, Bool.cond_decide]
      split
      · rename_i hz
        show _ = c * a.val g + (d * a.val g + valF g r)
        have : c * a.val g + d * a.val g = 0 := by rw [← Int.add_mul, hz, Int.zero_mul]
        omega
      · show (c + d) * a.val g + valF g r = c * a.val g + (d * a.val g + valF g r)
        rw [Int.add_mul]; omega
theorem addF_val {s : Int} : ∀ {m l : List (Int × A)}, valF g (addF s m l) = s * valF g m + valF g l
  | [], l => by simp [addF, valF]
  | (c, a) :: r, l => by
    unfold addF
    rw [addF_val, insF_val]
    show _ = s * (c * a.val g + valF g r) + valF g l
    rw [Int.mul_add, Int.mul_assoc]
    omega
theorem linV_val {k : Int} : ∀ {l : List (Int × A)}, linV k (l.map Prod.fst) ((l.map Prod.snd).map (A.val g)) = k + valF g l
  | [] => by simp [linV, valF]
  | (c, a) :: r => by
    show c * a.val g + linV k (r.map Prod.fst) ((r.map Prod.snd).map (A.val g)) = k + (c * a.val g + valF g r)
    rw [linV_val]; omega
theorem zip_val {k : Int} : ∀ {cs : List Int} {xs : List A}, cs.length = xs.length → linV k cs (xs.map (A.val g)) = k + valF g (cs.zip xs)
  | [], [], _ => by simp [linV, valF]
  | c :: cs, x :: xs, h => by
    show c * x.val g + linV k cs (xs.map (A.val g)) = k + (c * x.val g + valF g (cs.zip xs))
    rw [zip_val (by simpa using h)]; omega
  | [], _ :: _, h => by simp at h
  | _ :: _, [], h => by simp at h
omit [UOk1 U] in
theorem linF_val {st : St} (hg : Good U g st) (a : A) : a.val g = (linF st a).1 + valF g (linF st a).2 := by
  cases a with
  | k z => simp [linF, valF, A.val]
  | x n =>
    have one : ∀ p : Int × List (Int × A), p = (0, [(1, .x n)]) → (A.x n).val g = p.1 + valF g p.2 := fun p hp => by subst hp; simp [valF]
    unfold linF
    simp only
    split
    · rename_i k cs xs hd
      rw [nbeq, Bool.cond_decide]
      split
      · rename_i hl
        have e : (A.x n).val g = linV k cs (xs.map (A.val g)) := hg.defs _ _ _ hd
        rw [e, zip_val hl]
      · exact one _ rfl
    · exact one _ rfl
omit [UOk1 U] in
theorem mkLin_ok {k : Int} {l : List (Int × A)} {st st' : St} {r : A} (h : mkLin U k l st = (r, st')) (hg : Good U g st') : Good U g st ∧ Same st st' ∧ r.val g = k + valF g l := by
  unfold mkLin at h
  split at h
  · cases h; exact ⟨hg, Same.refl _, by simp [A.val, valF]⟩
  · rename_i c a
    cases hb : (ieq c 1 && ieq k 0)
    · rw [hb, cond_false] at h
      obtain ⟨h1, h2, h3⟩ := app_ok h hg
      refine ⟨h1, h2, ?_⟩
      rw [h3]
      show c * a.val g + k = k + (c * a.val g + 0)
      omega
    · rw [hb, cond_true] at h
      cases h
      rw [Bool.and_eq_true, ieq_iff, ieq_iff, decide_eq_true_eq, decide_eq_true_eq] at hb
      refine ⟨hg, Same.refl _, ?_⟩
      rw [hb.1, hb.2]
      show r.val g = 0 + (1 * r.val g + 0)
      omega
  · obtain ⟨h1, h2, h3⟩ := app_ok h hg
    refine ⟨h1, h2, ?_⟩
    rw [h3]
    exact linV_val
theorem rawLin_ok {sb : Bool} {r q : Rg} {x y : Int} (h1 : within r x) (h2 : within q y) : within (rawLin sb r q) (bif sb then x - y else x + y) := by
  unfold rawLin
  split
  · have e1 := h1 _ _ rfl
    have e2 := h2 _ _ rfl
    cases sb
    · exact within_some (by simp only [cond_false]; omega) (by simp only [cond_false]; omega)
    · exact within_some (by simp only [cond_true]; omega) (by simp only [cond_true]; omega)
  · exact within_none _
theorem in64_ok {r : Rg} {z : Int} (h : in64 r = true) (hw : within r z) : -9223372036854775808 ≤ z ∧ z ≤ 9223372036854775807 := by
  unfold in64 at h
  split at h
  · have e := hw _ _ rfl
    rw [Bool.and_eq_true, ile_iff, ile_iff, decide_eq_true_eq, decide_eq_true_eq] at h
    omega
  · cases h
theorem sumA_ok {sb : Bool} {a b : A} {st st' : St} {r : A} (h : sumA U sb a b st = (r, st')) (hg : Good U g st') : Good U g st ∧ Same st st' ∧ r.val g = mean U (.iop (bif sb then .sub else .add) .i64) [a.val g, b.val g] := by
  unfold sumA at h
  split at h
  · rename_i l hl
    cases h
    have := allK_val (g := g) hl
    exact ⟨hg, Same.refl _, by rw [← this]; rfl⟩
  · cases hb : in64 (rawLin sb (rangeOf st a) (rangeOf st b))
    · rw [hb, cond_false] at h
      obtain ⟨h1, h2, h3⟩ := app_ok h hg
      exact ⟨h1, h2, h3⟩
    · rw [hb, cond_true] at h
      split at h
      rename_i k l j m e1 e2
      obtain ⟨h1, h2, h3⟩ := mkLin_ok h hg
      refine ⟨h1, h2, ?_⟩
      have v1 := linF_val h1 a
      have v2 := linF_val h1 b
      rw [e1] at v1
      rw [e2] at v2
      simp only at v1 v2
      have hw := in64_ok hb (rawLin_ok (sb := sb) (range_ok h1 a) (range_ok h1 b))
      rw [h3, addF_val]
      cases sb
      · simp only [cond_false] at hw ⊢
        show _ = wrapF .i64 (a.val g + b.val g)
        have : wrapF .i64 (a.val g + b.val g) = a.val g + b.val g := by unfold wrapF; rw [(inR_i64 _).2 hw]; rfl
        rw [this, v1, v2]; omega
      · simp only [cond_true] at hw ⊢
        show _ = wrapF .i64 (a.val g - b.val g)
        have : wrapF .i64 (a.val g - b.val g) = a.val g - b.val g := by unfold wrapF; rw [(inR_i64 _).2 hw]; rfl
        rw [this, v1, v2]; omega
theorem mulK_ok {c : Int} {x : A} {st st' : St} {r : A} (h : mulK U c x st = some (r, st')) (hg : Good U g st') : Good U g st ∧ Same st st' ∧ r.val g = wrapF .i64 (c * x.val g) := by
  unfold mulK at h
  split at h
  · rename_i lo hi hr
    cases hb : (!ieq c 0 && in64 (some (mulLo c c lo hi, mulHi c c lo hi)))
    · rw [hb] at h; cases h
    · rw [hb, cond_true] at h
      obtain ⟨h1, h2, h3⟩ := mkLin_ok (Option.some.inj h) hg
      refine ⟨h1, h2, ?_⟩
      rw [Bool.and_eq_true] at hb
      have hx := range_ok h1 x _ _ hr
      have k := mul_ok4 (Int.le_refl c) (Int.le_refl c) hx.1 hx.2
      have hw := in64_ok hb.2 (within_some k.1 k.2)
      have : wrapF .i64 (c * x.val g) = c * x.val g := by unfold wrapF; rw [(inR_i64 _).2 hw]; rfl
      rw [this, h3, addF_val, linF_val h1 x, Int.mul_add]
      show _ + (_ + 0) = _
      omega
  · cases h
theorem mulA_ok {a b : A} {st st' : St} {r : A} (h : mulA U a b st = (r, st')) (hg : Good U g st') : Good U g st ∧ Same st st' ∧ r.val g = mean U (.iop .mul .i64) [a.val g, b.val g] := by
  have plain : ∀ {p q : A}, app U (.iop .mul .i64) [p, q] st = (r, st') → Good U g st ∧ Same st st' ∧ r.val g = mean U (.iop .mul .i64) [p.val g, q.val g] := fun h => by
    obtain ⟨h1, h2, h3⟩ := app_ok h hg
    exact ⟨h1, h2, h3⟩
  unfold mulA at h
  split at h
  · split at h
    · rename_i hm
      rw [h] at hm
      exact mulK_ok hm hg
    · exact plain h
  · split at h
    · rename_i hm
      rw [h] at hm
      obtain ⟨h1, h2, h3⟩ := mulK_ok hm hg
      refine ⟨h1, h2, ?_⟩
      rw [h3, Int.mul_comm]; rfl
    · exact plain h
  · exact plain h
theorem iopA_ok {op : BinOp} {k : IntKind} {a b : A} {st st' : St} {r : A} (h : iopA U op k a b st = (r, st')) (hg : Good U g st') : Good U g st ∧ Same st st' ∧ r.val g = mean U (.iop op k) [a.val g, b.val g] := by
  unfold iopA at h
  split at h
  · exact sumA_ok h hg
  · exact sumA_ok h hg
  · exact mulA_ok h hg
  · obtain ⟨h1, h2, h3⟩ := app_ok h hg
    exact ⟨h1, h2, h3⟩
theorem csGet_mem : ∀ {l : List (Nat × Bool)} {n : Nat} {b : Bool}, csGet l n = some b → (n, b) ∈ l
  | [], _, _, h => by simp [csGet] at h
  | (m, c) :: r, n, b, h => by
    unfold csGet at h
    rw [nbeq, Bool.cond_decide] at h
    split at h
    · rename_i hm; subst hm; cases h; exact List.mem_cons_self ..
    · exact List.mem_cons_of_mem _ (csGet_mem h)
theorem autoLss_ok {st : St} (hg : Good U g st) {p q : A} {b : Bool} (h : autoLss st p q = some b) : decide (p.val g < q.val g) = b := by
  unfold autoLss at h
  have e1 := range_ok hg p
  have e2 := range_ok hg q
  split at h
  · rename_i a b' c d h1 h2
    have e1 := e1 _ _ h1
    have e2 := e2 _ _ h2
    rw [ile_iff, ile_iff] at h
    by_cases h3 : c ≤ b'
    · rw [decide_eq_true h3] at h
      simp only [Bool.not_true, cond_false, Bool.cond_decide] at h
      split at h
      · cases h; simp; omega
      · cases h
    · rw [decide_eq_false h3] at h
      cases h; simp; omega
  · cases h
theorem autoEql_ok {st : St} (hg : Good U g st) {p q : A} {b : Bool} (h : autoEql st p q = some b) : decide (p.val g = q.val g) = b := by
  unfold autoEql at h
  have e1 := range_ok hg p
  have e2 := range_ok hg q
  split at h
  · rename_i a b' c d h1 h2
    have e1 := e1 _ _ h1
    have e2 := e2 _ _ h2
    simp only [ile_iff, ieq_iff] at h
    by_cases h3 : c ≤ b' ∧ a ≤ d
    · rw [decide_eq_true h3.1, decide_eq_true h3.2] at h
      simp only [Bool.not_true, Bool.or_self, cond_false] at h
      cases hb : (decide (a = b') && decide (b' = c) && decide (c = d))
      · rw [hb] at h; cases h
      · rw [hb] at h
        cases h
        simp only [Bool.and_eq_true, decide_eq_true_eq] at hb ⊢
        omega
    · have : (!decide (c ≤ b') || !decide (a ≤ d)) = true := by simp; omega
      rw [this] at h
      cases h
      simp; omega
  · cases h
omit [UOk1 U] in
theorem lss_def {st : St} (hg : Good U g st) {n : Nat} {p q : A} (h : getD st n = some (.cmp .lss, [p, q])) : ieq (g n) 1 = decide (p.val g < q.val g) := by
  rw [hg.defs _ _ _ h]
  simp only [List.map, mean, cmpF, ieq_b2i, ile_iff]
  rw [← decide_not]
  exact decide_eq_decide.2 (by omega)
omit [UOk1 U] in
theorem eql_def {st : St} (hg : Good U g st) {n : Nat} {p q : A} (h : getD st n = some (.cmp .eql, [p, q])) : ieq (g n) 1 = decide (p.val g = q.val g) := by
  rw [hg.defs _ _ _ h]
  simp only [List.map, mean, cmpF, ieq_b2i]
  rw [ieq_iff]
end
/-- What is known of lengths holds. -/
class UOk (U : Nat → List Int → Int) : Prop extends UOk1 U where
  lssO : ∀ (g : Sg) (st : St) (p q : A) (r : Bool), Good U g st → SX.lssO st p q = some r → decide (p.val g < q.val g) = r
  nilO : ∀ (g : Sg) (st : St) (n : Nat), Good U g st → SX.nilO st n = true → ieq (g n) 1 = false
section
variable {U : Nat → List Int → Int} {g : Sg} [UOk U]
theorem known0_ok {st : St} (hg : Good U g st) {n : Nat} {b : Bool} (h : known0 st n = some b) : ieq (g n) 1 = b := by
  unfold known0 at h
  split at h
  · rename_i b' hb
    cases h
    exact hg.cs _ (csGet_mem hb)
  · split at h
    · rename_i p q hd
      rw [lss_def hg hd]
      split at h
      · rename_i b' hb
        cases h
        exact autoLss_ok hg hb
      · cases hk : knowLe st.ci q p
        · rw [hk] at h; exact UOk.lssO _ _ _ _ _ hg h
        · rw [hk] at h
          cases h
          have := knowLe_ok hg.ci _ _ hk
          simp; omega
    · rename_i p q hd
      rw [eql_def hg hd]
      exact autoEql_ok hg h
    · cases h
theorem boolV_ok {st : St} (hg : Good U g st) : ∀ (f : Nat) (a : A) {b : Bool}, boolV st f a = some b → ieq (a.val g) 1 = b
  | 0, .k z, b, h => by unfold boolV at h; cases h; rfl
  | _ + 1, .k z, b, h => by unfold boolV at h; cases h; rfl
  | 0, .x n, b, h => by unfold boolV at h; exact known0_ok hg h
  | f + 1, .x n, b, h => by
    unfold boolV at h
    split at h
    · rename_i b' hb
      cases h
      exact known0_ok hg hb
    · split at h
      · rename_i a hd
        split at h
        · rename_i b' hb
          cases h
          have e : g n = b2i (!ieq (a.val g) 1) := hg.defs n _ _ hd
          show ieq (g n) 1 = _
          rw [e, ieq_b2i, boolV_ok hg f a hb]
        · cases h
      · rename_i c a b' hd
        have e : g n = bif ieq (c.val g) 1 then a.val g else b'.val g := hg.defs n _ _ hd
        show ieq (g n) 1 = _
        rw [e]
        split at h
        · rename_i hc
          rw [boolV_ok hg f c hc, cond_true]
          exact boolV_ok hg f a h
        · rename_i hc
          rw [boolV_ok hg f c hc, cond_false]
          exact boolV_ok hg f b' h
        · cases h
      · rename_i a b' hd
        have e : g n = b2i (bif ieq (a.val g) 1 then ieq (b'.val g) 1 else !ieq (b'.val g) 1) := hg.defs n _ _ hd
        show ieq (g n) 1 = _
        rw [e, ieq_b2i]
        split at h
        · rename_i x y hx hy
          cases h
          rw [boolV_ok hg f a hx, boolV_ok hg f b' hy]
          cases x <;> cases y <;> rfl
        · cases h
      · cases h
theorem known_ok {st : St} (hg : Good U g st) {n : Nat} {b : Bool} (h : known st n = some b) : ieq (g n) 1 = b := by
  unfold known at h
  split at h
  · rename_i b' hb
    cases h
    exact known0_ok hg hb
  · split at h
    · rename_i a hd
      split at h
      · rename_i b' hb
        cases h
        have e := hg.defs n _ _ hd
        have e : g n = b2i (!ieq (a.val g) 1) := e
        rw [e, ieq_b2i, boolV_ok hg _ _ hb]
      · cases h
    · split at h
      · rename_i b' hb
        cases h
        exact boolV_ok hg 60 (.x n) hb
      · cases hn : nilO st n
        · rw [hn] at h; cases h
        · rw [hn, cond_true] at h; cases h
          exact UOk.nilO g st n hg hn
    · exact boolV_ok hg 60 (.x n) h
    · cases h
omit [UOk U] in
theorem note_ok {n : Nat} {b : Bool} {o : List Bool} {st : St} (hg : Good U g (note n b o st)) : Good U g st ∧ Same st (note n b o st) ∧ ieq (g n) 1 = b :=
  ⟨⟨fun m p as h => hg.defs m p as h, fun c hc => hg.cs c (List.mem_cons_of_mem _ hc), fun c hc => hg.ci c (List.mem_append_right _ hc), hg.rg, hg.ok⟩, ⟨rfl, rfl, rfl⟩, hg.cs _ (List.mem_cons_self ..)⟩
omit [UOk U] in
theorem askX_ok {n : Nat} {st st' : St} {b : Bool} (h : askX n st = (b, st')) (hg : Good U g st') : Good U g st ∧ Same st st' ∧ ieq (g n) 1 = b := by
  unfold askX at h
  split at h
  · cases h; exact note_ok hg
  · cases h; exact note_ok hg
theorem decB_ok : ∀ (f : Nat) {n : Nat} {st st' : St} {b : Bool}, decB f n st = (b, st') → Good U g st' → Good U g st ∧ Same st st' ∧ ieq (g n) 1 = b
  | 0, n, st, st', b, h, hg => by unfold decB at h; exact askX_ok h hg
  | f + 1, n, st, st', b, h, hg => by
    unfold decB at h
    split at h
    · rename_i b' hb
      cases h
      exact ⟨hg, Same.refl _, known_ok hg hb⟩
    · split at h
      · rename_i m hm
        obtain ⟨h1, h2, h3⟩ := decB_ok f h hg
        obtain ⟨k1, k2, _⟩ := askX_ok (n := m) (st := st) (b := (askX m st).1) rfl h1
        exact ⟨k1, k2.trans h2, h3⟩
      · exact askX_ok h hg
theorem decX_ok {n : Nat} {st st' : St} {b : Bool} (h : decX n st = (b, st')) (hg : Good U g st') : Good U g st ∧ Same st st' ∧ ieq (g n) 1 = b := by
  unfold decX at h
  split at h
  · rename_i b' hb
    cases h
    exact ⟨hg, Same.refl _, known_ok hg hb⟩
  · split at h
    · exact decB_ok 40 h hg
    · cases hb : hasBeq st 10 (.x n)
      · rw [hb] at h; exact askX_ok h hg
      · rw [hb] at h; exact decB_ok 40 h hg
    · exact askX_ok h hg
theorem decA_ok {a : A} {st st' : St} {b : Bool} (h : decA a st = (b, st')) (hg : Good U g st') : Good U g st ∧ Same st st' ∧ ieq (a.val g) 1 = b := by
  unfold decA at h
  split at h
  · cases h
    exact ⟨hg, Same.refl _, rfl⟩
  · rename_i n
    split at h
    · rename_i m hd
      split at h
      rename_i b' st1 hx
      cases h
      obtain ⟨h1, h2, h3⟩ := decX_ok hx hg
      refine ⟨h1, h2, ?_⟩
      have e : (A.x n).val g = mean U .not [g m] := h1.defs _ _ _ hd
      rw [e]
      simp only [mean, ieq_b2i, h3]
    · exact decX_ok h hg
theorem knowA_ok {x : A × St} {r : A} {st' : St} (h : knowA x = (r, st')) (hg : Good U g st') : x.2 = st' ∧ ieq (r.val g) 1 = ieq (x.1.val g) 1 := by
  obtain ⟨a, st⟩ := x
  cases a with
  | k z =>
    have h : (A.k z, st) = (r, st') := h
    cases h
    exact ⟨rfl, rfl⟩
  | x n =>
    unfold knowA at h
    simp only at h
    split at h
    · rename_i b hb
      cases h
      refine ⟨rfl, ?_⟩
      rw [val_k, ieq_b2i]
      exact (known_ok hg hb).symm
    · cases h
      exact ⟨rfl, rfl⟩
theorem lssA_ok {a b : A} {st st' : St} {r : A} (h : lssA U a b st = (r, st')) (hg : Good U g st') : Good U g st ∧ Same st st' ∧ ieq (r.val g) 1 = decide (a.val g < b.val g) := by
  unfold lssA at h
  cases hb : A.beq a b
  · rw [hb, cond_false] at h
    obtain ⟨e1, e2⟩ := knowA_ok h hg
    cases ha : app U (.cmp .lss) [a, b] st with
    | mk x s1 =>
    rw [ha] at e1 e2
    simp only at e1 e2
    subst e1
    obtain ⟨h1, h2, h3⟩ := app_ok ha hg
    refine ⟨h1, h2, ?_⟩
    rw [e2, h3]
    simp only [List.map, mean, cmpF, ieq_b2i, ile_iff]
    rw [← decide_not]
    exact decide_eq_decide.2 (by omega)
  · rw [hb] at h
    cases h
    refine ⟨hg, Same.refl _, ?_⟩
    rw [A.beq_eq hb]; simp [A.val]; decide
theorem eqlA_ok {a b : A} {st st' : St} {r : A} (h : eqlA U a b st = (r, st')) (hg : Good U g st') : Good U g st ∧ Same st st' ∧ ieq (r.val g) 1 = decide (a.val g = b.val g) := by
  unfold eqlA at h
  cases hb : A.beq a b
  · rw [hb] at h
    simp only [cond_false] at h
    split at h
    · rename_i z
      obtain ⟨e1, e2⟩ := knowA_ok h hg
      cases ha : app U (.cmp .eql) [b, .k z] st with
      | mk x s1 =>
      rw [ha] at e1 e2
      simp only at e1 e2
      subst e1
      obtain ⟨h1, h2, h3⟩ := app_ok ha hg
      refine ⟨h1, h2, ?_⟩
      rw [e2, h3]
      simp only [List.map, mean, cmpF, ieq_b2i]
      rw [ieq_iff]
      exact decide_eq_decide.2 (by omega)
    · rename_i n
      obtain ⟨e1, e2⟩ := knowA_ok h hg
      cases ha : app U (.cmp .eql) [.x n, b] st with
      | mk x s1 =>
      rw [ha] at e1 e2
      simp only at e1 e2
      subst e1
      obtain ⟨h1, h2, h3⟩ := app_ok ha hg
      refine ⟨h1, h2, ?_⟩
      rw [e2, h3]
      simp only [List.map, mean, cmpF, ieq_b2i]
      rw [ieq_iff]
  · rw [hb] at h
    cases h
    refine ⟨hg, Same.refl _, ?_⟩
    rw [A.beq_eq hb]; simp [A.val]; decide
omit [UOk U] in
theorem notA_ok {a : A} {st st' : St} {r : A} (h : notA U a st = (r, st')) (hg : Good U g st') : Good U g st ∧ Same st st' ∧ ieq (r.val g) 1 = !ieq (a.val g) 1 := by
  obtain ⟨h1, h2, h3⟩ := app_ok h hg
  refine ⟨h1, h2, ?_⟩
  rw [h3]; simp only [List.map, mean, ieq_b2i]
theorem cmpA_ok {op : BinOp} (hop : isCmp op = true) {a b : A} {st st' : St} {r : A} (h : cmpA U op a b st = (r, st')) (hg : Good U g st') : Good U g st ∧ Same st st' ∧ ieq (r.val g) 1 = cmpF op (a.val g) (b.val g) := by
  have two : ∀ {x : A × St}, then2 (notA U) x = (r, st') → ∃ r1 s1, x = (r1, s1) ∧ notA U r1 s1 = (r, st') := fun {x} h => ⟨x.1, x.2, rfl, h⟩
  cases op <;> simp [isCmp] at hop
  · obtain ⟨h1, h2, h3⟩ := eqlA_ok h hg
    exact ⟨h1, h2, by rw [h3]; simp only [cmpF, ieq_iff]⟩
  · obtain ⟨r1, s1, hx, hn⟩ := two h
    obtain ⟨k1, k2, k3⟩ := notA_ok hn hg
    obtain ⟨h1, h2, h3⟩ := eqlA_ok hx k1
    exact ⟨h1, h2.trans k2, by rw [k3, h3]; simp only [cmpF, ieq_iff]⟩
  · obtain ⟨h1, h2, h3⟩ := lssA_ok h hg
    exact ⟨h1, h2, by rw [h3]; simp only [cmpF, ile_iff]; rw [← decide_not]; exact decide_eq_decide.2 (by omega)⟩
  · obtain ⟨r1, s1, hx, hn⟩ := two h
    obtain ⟨k1, k2, k3⟩ := notA_ok hn hg
    obtain ⟨h1, h2, h3⟩ := lssA_ok hx k1
    exact ⟨h1, h2.trans k2, by rw [k3, h3]; simp only [cmpF, ile_iff]; rw [← decide_not]; exact decide_eq_decide.2 (by omega)⟩
  · obtain ⟨h1, h2, h3⟩ := lssA_ok h hg
    exact ⟨h1, h2, by rw [h3]; simp only [cmpF, ile_iff]; rw [← decide_not]; exact decide_eq_decide.2 (by omega)⟩
  · obtain ⟨r1, s1, hx, hn⟩ := two h
    obtain ⟨k1, k2, k3⟩ := notA_ok hn hg
    obtain ⟨h1, h2, h3⟩ := lssA_ok hx k1
    exact ⟨h1, h2.trans k2, by rw [k3, h3]; simp only [cmpF, ile_iff]; rw [← decide_not]; exact decide_eq_decide.2 (by omega)⟩
omit [UOk U] in
theorem beqA_ok {a b : A} {st st' : St} {r : A} (h : beqA U a b st = (r, st')) (hg : Good U g st') : Good U g st ∧ Same st st' ∧ ieq (r.val g) 1 = (ieq (a.val g) 1 == ieq (b.val g) 1) := by
  unfold beqA at h
  cases hb : A.beq a b
  · rw [hb] at h
    obtain ⟨h1, h2, h3⟩ := app_ok h hg
    refine ⟨h1, h2, ?_⟩
    rw [h3]
    simp only [List.map, mean, ieq_b2i]
    cases ieq (a.val g) 1 <;> cases ieq (b.val g) 1 <;> rfl
  · rw [hb] at h
    cases h
    refine ⟨hg, Same.refl _, ?_⟩
    rw [A.beq_eq hb]; simp [A.val]; decide
omit [UOk U] in
theorem andA_ok {acc e : A} {st st' : St} {r : A} (h : andA U acc e st = (r, st')) (hg : Good U g st') : Good U g st ∧ Same st st' ∧ ieq (r.val g) 1 = (ieq (acc.val g) 1 && ieq (e.val g) 1) := by
  unfold andA at h
  split at h
  · rename_i z
    cases h
    refine ⟨hg, Same.refl _, ?_⟩
    rw [val_k]
    cases ieq z 1
    · simp [A.val]; decide
    · simp
  · rename_i n
    split at h
    · rename_i z
      cases h
      refine ⟨hg, Same.refl _, ?_⟩
      rw [val_k]
      cases ieq z 1
      · simp [A.val]; decide
      · simp
    · obtain ⟨h1, h2, h3⟩ := app_ok h hg
      refine ⟨h1, h2, ?_⟩
      rw [h3]
      simp only [List.map, mean, val_k]
      cases ieq (A.val g (.x _)) 1
      · simp; decide
      · simp
theorem clampKey_ok {mn : Bool} {st : St} (hg : Good U g st) {a b : A} {p : Pr} {xs : List A} (h : clampKey mn st a b = some (p, xs)) :
    mean U p (xs.map (A.val g)) = (bif mn then (if b.val g < a.val g then b.val g else a.val g) else (if a.val g < b.val g then b.val g else a.val g)) := by
  have plain : ∀ x y : Int, mean U (bif mn then .min else .max) [x, y] = (bif mn then (if y < x then y else x) else (if x < y then y else x)) := fun x y => by
    cases mn <;> simp only [cond_true, cond_false, mean, ile_iff, Bool.cond_decide] <;> (repeat' split) <;> omega
  unfold clampKey at h
  split at h
  · rename_i n z
    have hx : (A.x n).val g = g n := rfl
    split at h
    · rename_i x lo hd
      have hv : g n = if lo ≤ x.val g then x.val g else lo := by
        rw [hg.defs _ _ _ hd]
        simp only [List.map, mean, ile_iff, Bool.cond_decide, val_k]
      simp only [Option.some.injEq] at h
      cases hc : (mn && ile lo z)
      · rw [hc] at h
        cases h
        exact plain _ _
      · rw [hc] at h
        cases h
        rw [Bool.and_eq_true, ile_iff, decide_eq_true_eq] at hc
        rw [hc.1]
        show U 10 [x.val g, lo, z] = _
        rw [UOk1.clamp (U := U) _ _ _ hc.2, cond_true, val_k, hx, hv]
        (repeat' split) <;> omega
    · rename_i x hi hd
      have hv : g n = if x.val g ≤ hi then x.val g else hi := by
        rw [hg.defs _ _ _ hd]
        simp only [List.map, mean, ile_iff, Bool.cond_decide, val_k]
      simp only [Option.some.injEq] at h
      cases hc : (!mn && ile z hi)
      · rw [hc] at h
        cases h
        exact plain _ _
      · rw [hc] at h
        cases h
        rw [Bool.and_eq_true, ile_iff, decide_eq_true_eq, Bool.not_eq_true'] at hc
        rw [hc.1]
        show U 10 [x.val g, z, hi] = _
        rw [UOk1.clamp (U := U) _ _ _ hc.2, cond_false, val_k, hx, hv]
        (repeat' split) <;> omega
    · cases h
      exact plain _ _
  · cases h
theorem minD0_ok {mn : Bool} {a b : A} {st st' : St} {r : A} (h : minD0 U mn a b st = (r, st')) (hg : Good U g st') :
    Good U g st ∧ Same st st' ∧ r.val g = (bif mn then (if b.val g < a.val g then b.val g else a.val g) else (if a.val g < b.val g then b.val g else a.val g)) := by
  unfold minD0 at h
  split at h
  rename_i r1 st1 h1
  split at h
  · rename_i p xs hk _
    obtain ⟨k1, k2, k3⟩ := app_ok h hg
    obtain ⟨l1, l2, l3⟩ := lssA_ok h1 k1
    exact ⟨l1, l2.trans k2, by rw [k3]; exact clampKey_ok k1 hk⟩
  · split at h
    rename_i c st2 h2
    cases h
    obtain ⟨k1, k2, k3⟩ := decA_ok h2 hg
    obtain ⟨l1, l2, l3⟩ := lssA_ok h1 k1
    refine ⟨l1, l2.trans k2, ?_⟩
    rw [k3] at l3
    cases mn
    · by_cases hh : b.val g < a.val g
      · rw [decide_eq_true hh] at l3; subst l3; simp only [cond_false, cond_true]; rw [if_neg (by omega)]
      · rw [decide_eq_false hh] at l3; subst l3; simp only [cond_false]
        split
        · rfl
        · omega
    · by_cases hh : b.val g < a.val g
      · rw [decide_eq_true hh] at l3; subst l3; simp only [cond_true]; rw [if_pos hh]
      · rw [decide_eq_false hh] at l3; subst l3; simp only [cond_true, cond_false]; rw [if_neg hh]
theorem leR_ok {st : St} (hg : Good U g st) {a b : A} (h : leR st a b = true) : a.val g ≤ b.val g := by
  unfold leR at h
  split at h
  · rename_i x y ha hb
    have e1 := range_ok hg a _ _ ha
    have e2 := range_ok hg b _ _ hb
    rw [ile_iff, decide_eq_true_eq] at h
    omega
  · cases h
theorem minD_ok {mn : Bool} {a b : A} {st st' : St} {r : A} (h : minD U mn a b st = (r, st')) (hg : Good U g st') :
    Good U g st ∧ Same st st' ∧ r.val g = (bif mn then (if b.val g < a.val g then b.val g else a.val g) else (if a.val g < b.val g then b.val g else a.val g)) := by
  unfold minD at h
  cases h1 : leR st a b
  · rw [h1, cond_false] at h
    cases h2 : leR st b a
    · rw [h2, cond_false] at h
      exact minD0_ok h hg
    · rw [h2, cond_true] at h
      cases h
      have := leR_ok hg h2
      refine ⟨hg, Same.refl _, ?_⟩
      cases mn <;> simp only [cond_true, cond_false] <;> split <;> omega
  · rw [h1, cond_true] at h
    cases h
    have := leR_ok hg h1
    refine ⟨hg, Same.refl _, ?_⟩
    cases mn <;> simp only [cond_true, cond_false] <;> split <;> omega
/-- The bounds that have been kept, looked over again. -/
theorem rgs_map {st : St} {n : Nat} (hd : DefsOk U g st) (hci : ∀ c ∈ st.ci, ciOk g c) (ih : ∀ m, m < n → ∀ lo hi, st.rg.get m = some (lo, hi) → lo ≤ g m ∧ g m ≤ hi) : ∀ {xs : List A}, xs.all (A.below n) = true → Rs g xs (xs.map (range0 st))
  | [], _ => trivial
  | a :: l, h => by
    rw [List.all_cons, Bool.and_eq_true] at h
    refine ⟨?_, rgs_map hd hci ih h.2⟩
    cases a with
    | k z => exact within_some (Int.le_refl _) (Int.le_refl _)
    | x m =>
      have hm : m < n := by have : Nat.blt m n = true := h.1; rw [nblt, decide_eq_true_eq] at this; exact this
      show within (match st.rg.get m with
        | some (lo, hi) => some (refine1 st.ci (.x m) lo hi)
        | none => (rng st 40 60 (.x m)).1) _
      split
      · rename_i lo hi hr
        have := ih m hm lo hi hr
        have := refine1_ok (a := .x m) hci this.1 this.2
        exact within_pair this.1 this.2
      · exact rng_ok hd hci _ _ _
theorem rgAll_get {st : St} : ∀ {t : PT (Int × Int)} {f : Nat → Nat} {i : Nat} {r : Int × Int}, rgAll st f t = true → t.get i = some r → rgOne st (f i) r = true
  | .e, _, _, _, _, h => by simp [PT.get_e] at h
  | .n l v q, f, i, r, hp, h => by
    unfold rgAll at hp
    rw [Bool.and_eq_true, Bool.and_eq_true] at hp
    obtain ⟨h1, h2, h3⟩ := hp
    simp only [PT.get_n, nbeq, Bool.cond_decide] at h
    by_cases h0 : i = 0
    · simp only [h0, if_true] at h
      subst h
      rw [h0]; exact h1
    · by_cases ho : i % 2 = 1
      · simp only [h0, ho, if_true, if_false] at h
        have := rgAll_get h2 h
        have e : 2 * (i / 2) + 1 = i := by omega
        simp only [e] at this; exact this
      · simp only [h0, ho, if_false] at h
        have := rgAll_get h3 h
        have e : 2 * (i / 2 - 1) + 2 = i := by omega
        simp only [e] at this; exact this
theorem rgCheck_ok {st : St} (hd : DefsOk U g st) (hci : ∀ c ∈ st.ci, ciOk g c) (h : rgAll st id st.rg = true) : ∀ n lo hi, st.rg.get n = some (lo, hi) → lo ≤ g n ∧ g n ≤ hi := by
  intro n
  induction n using Nat.strongRecOn with
  | ind n ih =>
    intro lo hi hr
    have := rgAll_get h hr
    unfold rgOne at this
    simp only [id] at this
    split at this
    · rename_i p xs hn
      rw [Bool.and_eq_true] at this
      obtain ⟨k1, k2⟩ := this
      have hw := lenCap_ok hd (rngOp_ok (U := U) (p := p) (knowLe_ok hci) (rgs_map hd hci ih k1))
      rw [← hd _ _ _ hn] at hw
      split at k2
      · rename_i a b e
        rw [Bool.and_eq_true, ile_iff, ile_iff, decide_eq_true_eq, decide_eq_true_eq] at k2
        have := hw _ _ e
        omega
      · cases k2
    · cases this
end
end Go.Proofs.Ytdleeeahonfnkaa.SX

/- SxD -/
namespace Go.Proofs.Ytdleeeahonfnkaa.SX
open Go

section
variable {P : Program} {L : Lk} {U : Nat → List Int → Int} {X : FuncId → Nat} {g : Sg} [UOk U] [LkOk P L]
theorem den_b {r : Rho} {a : A} {v : Value} (h : V.Den g r (.w (.c (.b a))) v) : v = .bool (ieq (a.val g) 1) := by
  have h : some (Value.bool (ieq (a.val g) 1)) = some v := h
  cases h; rfl
theorem den_i {r : Rho} {k : IntKind} {a : A} {v : Value} (h : V.Den g r (.w (.c (.i k a))) v) : v = .int k (a.val g) := by
  have h : C.den g r (.i k a) = some v := h
  simp only [C.den] at h
  split at h <;> cases h
  rfl
theorem den_in {r : Rho} {k : IntKind} {a : A} {v : Value} (h : V.Den g r (.w (.c (.i k a))) v) : inK k (a.val g) := by
  have h : C.den g r (.i k a) = some v := h
  simp only [C.den] at h
  split at h
  · assumption
  · cases h
theorem den_p {r : Rho} {n o : Nat} {v : Value} (h : V.Den g r (.w (.c (.p n o))) v) : ∃ q, r n = some q ∧ v = .pointer (some ⟨q, r.f n + o, none⟩) := by
  have h : C.den g r (.p n o) = some v := h
  simp only [C.den] at h
  split at h
  · rename_i q hq; cases h; exact ⟨q, hq, rfl⟩
  · cases h
theorem den_s {r : Rho} {n o l c : Nat} {v : Value} (h : V.Den g r (.w (.c (.s n o l c))) v) : ∃ q, r n = some q ∧ v = .slice (some ⟨q, r.f n + o, none⟩) l c := by
  have h : C.den g r (.s n o l c) = some v := h
  simp only [C.den] at h
  split at h
  · rename_i q hq; cases h; exact ⟨q, hq, rfl⟩
  · cases h
theorem den_sn {r : Rho} {v : Value} (h : V.Den g r (.w (.c .sn)) v) : v = .slice none 0 0 := by
  have h : C.den g r .sn = some v := h
  cases h; rfl
theorem den_agg {r : Rho} {l : List C} {v : Value} (h : V.Den g r (.w (.agg l)) v) : ∃ vs, v = .agg ⟨vs⟩ ∧ DL g r l vs := h
theorem mk_b (r : Rho) (a : A) : V.Den g r (.w (.c (.b a))) (.bool (ieq (a.val g) 1)) := rfl
theorem mk_i (r : Rho) {k : IntKind} {a : A} (h : inK k (a.val g)) : V.Den g r (.w (.c (.i k a))) (.int k (a.val g)) := by
  show C.den g r (.i k a) = _
  simp only [C.den]
  rw [if_pos h]
theorem mk_p {r : Rho} {n q : Nat} (h : r n = some q) (o : Nat) : V.Den g r (.w (.c (.p n o))) (.pointer (some ⟨q, r.f n + o, none⟩)) := by
  show C.den g r (.p n o) = _
  simp [C.den, h]
theorem mk_s {r : Rho} {n q : Nat} (h : r n = some q) (o l c : Nat) : V.Den g r (.w (.c (.s n o l c))) (.slice (some ⟨q, r.f n + o, none⟩) l c) := by
  show C.den g r (.s n o l c) = _
  simp [C.den, h]
theorem mk_p0 {r : Rho} {n q : Nat} (h : r n = some q) (hf : r.f n = 0) (o : Nat) : V.Den g r (.w (.c (.p n o))) (.pointer (some ⟨q, o, none⟩)) := by
  have := mk_p (g := g) h o
  rwa [hf, Nat.zero_add] at this
theorem mk_s0 {r : Rho} {n q : Nat} (h : r n = some q) (hf : r.f n = 0) (o l c : Nat) : V.Den g r (.w (.c (.s n o l c))) (.slice (some ⟨q, o, none⟩) l c) := by
  have := mk_s (g := g) h o l c
  rwa [hf, Nat.zero_add] at this
theorem den_so {r : Rho} {n o l d : Nat} {v : Value} (h : V.Den g r (.w (.c (.so n o l d))) v) : ∃ q, r n = some q ∧ l + d ≤ r.k n ∧ v = .slice (some ⟨q, r.f n + o, none⟩) l (r.k n - d) := by
  have h : C.den g r (.so n o l d) = some v := h
  simp only [C.den] at h
  split at h
  · rename_i q hq
    split at h
    · rename_i hk; cases h; exact ⟨q, hq, hk, rfl⟩
    · cases h
  · cases h
theorem mk_so {r : Rho} {n q : Nat} (h : r n = some q) {o l d : Nat} (hk : l + d ≤ r.k n) : V.Den g r (.w (.c (.so n o l d))) (.slice (some ⟨q, r.f n + o, none⟩) l (r.k n - d)) := by
  show C.den g r (.so n o l d) = _
  simp [C.den, h, hk]
theorem den_sz {r : Rho} {i : Nat} {v : Value} (h : V.Den g r (.w (.c (.sz i))) v) : v = .slice (some (r.z i).1) 0 (r.z i).2 := by
  have h : C.den g r (.sz i) = some v := h
  cases h; rfl
/-- A slice whose place and length are known. -/
theorem den_sl {r : Rho} {x : C} {n o l : Nat} (hx : slOf x = some (n, o, l)) {v : Value} (h : V.Den g r (.w (.c x)) v) : ∃ q c, r n = some q ∧ v = .slice (some ⟨q, r.f n + o, none⟩) l c := by
  cases x with
  | s n' o' l' c' =>
    simp only [slOf, Option.some.injEq, Prod.mk.injEq] at hx
    obtain ⟨rfl, rfl, rfl⟩ := hx
    obtain ⟨q, h1, h2⟩ := den_s h
    exact ⟨q, _, h1, h2⟩
  | so n' o' l' d' =>
    simp only [slOf, Option.some.injEq, Prod.mk.injEq] at hx
    obtain ⟨rfl, rfl, rfl⟩ := hx
    obtain ⟨q, h1, _, h2⟩ := den_so h
    exact ⟨q, _, h1, h2⟩
  | _ => simp [slOf] at hx

/-- What is said of each operation of this kind. -/
abbrev Yl (U : Nat → List Int → Int) (g : Sg) (st st' : St) (v : V) (K : Rho → Value → Prop) : Prop :=
  Good U g st' → Good U g st ∧ Same st st' ∧ ∀ r, ∃ u, v.Den g r u ∧ K r u

theorem pick_ok {c a b v : V} {st st' : St} (h : pickA U c a b st = some (v, st')) (hg : Good U g st') :
    Good U g st ∧ Same st st' ∧ ∀ r vc va vb, c.Den g r vc → a.Den g r va → b.Den g r vb → ∃ q : Bool, vc = .bool q ∧ v.Den g r (if q then va else vb) := by
  unfold pickA at h
  split at h
  · rename_i z
    cases h
    refine ⟨hg, Same.refl _, fun r vc va vb hc ha hb => ⟨ieq z 1, den_b hc, ?_⟩⟩
    cases ieq z 1
    · exact hb
    · exact ha
  · rename_i n
    split at h
    · rename_i q hq
      cases h
      refine ⟨hg, Same.refl _, fun r vc va vb hc ha hb => ⟨q, ?_, ?_⟩⟩
      · rw [den_b hc]
        have := known_ok hg hq
        show Value.bool (ieq (g n) 1) = _
        rw [this]
      · cases q
        · exact hb
        · exact ha
    · split at h
      · rename_i x y
        split at h
        rename_i rr st1 happ
        cases h
        obtain ⟨h1, h2, h3⟩ := app_ok happ hg
        refine ⟨h1, h2, fun r vc va vb hc ha hb => ⟨_, den_b hc, ?_⟩⟩
        obtain rfl := den_b ha
        obtain rfl := den_b hb
        have : (if ieq ((A.x n).val g) 1 = true then Value.bool (ieq (x.val g) 1) else Value.bool (ieq (y.val g) 1)) = .bool (ieq (rr.val g) 1) := by
          rw [h3]
          simp only [List.map, mean]
          cases ieq ((A.x n).val g) 1 <;> rfl
        rw [this]
        exact mk_b r rr
      · cases h
  · cases h
theorem un_ok {op : UnOp} {x v : V} {st st' : St} (h : unA U op x st = some (v, st')) (hg : Good U g st') :
    Good U g st ∧ Same st st' ∧ ∀ r vx, x.Den g r vx → ∃ u, v.Den g r u ∧ ∀ w, (Op.unary op vx).run P w = .ok u w := by
  unfold unA at h
  split at h
  · rename_i a
    split at h
    rename_i rr st1 happ
    cases h
    obtain ⟨h1, h2, h3⟩ := app_ok happ hg
    refine ⟨h1, h2, fun r vx hx => ⟨_, mk_b r rr, fun w => ?_⟩⟩
    obtain rfl := den_b hx
    rw [h3]
    simp [mean, Op.unary, ieq_b2i]
  · rename_i k a
    split at h
    rename_i rr st1 happ
    cases h
    obtain ⟨h1, h2, h3⟩ := iopA_ok happ hg
    refine ⟨h1, h2, fun r vx hx => ⟨_, mk_i r (by rw [h3]; simp only [mean, wrapF_eq]; exact wrap_in _ _), fun w => ?_⟩⟩
    obtain rfl := den_i hx
    rw [h3]
    simp [mean, Op.unary, Op.intArith, wrapF_eq, A.val]
  · rename_i k a
    split at h
    rename_i rr st1 happ
    cases h
    obtain ⟨h1, h2, h3⟩ := app_ok happ hg
    refine ⟨h1, h2, fun r vx hx => ⟨_, mk_i r (by rw [h3]; exact wrap_in _ _), fun w => ?_⟩⟩
    obtain rfl := den_i hx
    rw [h3]
    simp [mean, Op.unary, Op.intBits]
  · cases h
theorem run_underlyingP {t : TypeId} {d : TypeDesc} (h : P.underlying t = some d) (w : World) : (underlying t).run P w = .ok d w := by
  simp [underlying, h]
theorem lk_und {t : TypeId} {d : TypeDesc} (h : L.underlying t = some d) : P.underlying t = some d := by
  unfold Lk.underlying at h
  unfold Program.underlying
  split at h
  · rename_i hi
    rw [LkOk.info (P := P) _ _ hi]
    split at h
    · rename_i i hu
      cases h
      simp only [LkOk.info (P := P) _ _ hu, Option.map_some]
    · cases h
  · rename_i i hn hi
    cases h
    rw [LkOk.info (P := P) _ _ hi]
    split
    · rename_i e
      cases e
      exact (hn _ _ _ _ _ _ _ _ _ _ _ rfl).elim
    · rename_i e; cases e; rfl
    · rename_i e; cases e
  · cases h
theorem run_underlying' {t : TypeId} {d : TypeDesc} (h : L.underlying t = some d) (w : World) : (underlying t).run P w = .ok d w := run_underlyingP (lk_und h) w
omit [UOk U] in
theorem conv_ok {src dst : TypeId} {x v : V} {st st' : St} (h : convA L U src dst x st = some (v, st')) (hg : Good U g st') :
    Good U g st ∧ Same st st' ∧ ∀ r vx, x.Den g r vx → ∃ u, v.Den g r u ∧ ∀ w, (convert src dst vx).run P w = .ok u w := by
  unfold convA at h
  split at h
  · rename_i d k k' a hs hd
    split at h
    rename_i rr st1 happ
    cases h
    obtain ⟨h1, h2, h3⟩ := app_ok happ hg
    refine ⟨h1, h2, fun r vx hx => ⟨_, mk_i r (by rw [h3]; simp only [mean, List.map, wrapF_eq]; exact wrap_in _ _), fun w => ?_⟩⟩
    obtain rfl := den_i hx
    rw [h3]
    unfold convert
    rw [Sem.run_bind, run_underlying' hs]
    simp only [Result.andThen_ok]
    rw [Sem.run_bind, run_underlying' hd]
    simp only [Result.andThen_ok]
    cases d <;> simp [Conv.intToInt, mean, wrapF_eq]
  · cases h
theorem nil_ok {x v : V} (h : nilA x = some v) : v = x ∧ ∀ r vx, x.Den g r vx → ∃ q, vx = .pointer (some q) := by
  unfold nilA at h
  split at h
  · cases h
    exact ⟨rfl, fun r vx hx => by obtain ⟨q, _, rfl⟩ := den_p hx; exact ⟨_, rfl⟩⟩
  · cases h
theorem lkL_get {α : Type} : ∀ {l : List α} {i : Nat} {x : α}, lkL l i = some x → l[i]? = some x
  | [], _, _, h => by simp [lkL] at h
  | y :: l, i, x, h => by
    unfold lkL at h
    cases i with
    | zero => simpa using h
    | succ i => simp at h; simpa using lkL_get h
theorem run_sizeOfP {t : TypeId} {s : Nat} (h : sizeP P t = some s) (w : World) : (sizeOf t).run P w = .ok s w := by
  unfold sizeP at h
  split at h
  · rename_i i hi; cases h; simp [sizeOf, typeInfo, hi]
  · cases h
theorem sizeB_info {t : TypeId} {s : Nat} (h : sizeB L t = some s) : ∃ i, P.info? t = some i ∧ i.size = s := by
  unfold sizeB at h
  split at h
  · rename_i i hi; cases h; exact ⟨i, LkOk.info _ _ hi, rfl⟩
  · cases h
theorem run_sizeOf {t : TypeId} {s : Nat} (h : sizeB L t = some s) (w : World) : (sizeOf t).run P w = .ok s w := by
  obtain ⟨i, hi, rfl⟩ := sizeB_info (P := P) h
  simp [sizeOf, typeInfo, hi]
theorem run_isAggP {t : TypeId} {b : Bool} (h : isAggP P t = some b) (w : World) : (isAgg t).run P w = .ok b w := by
  unfold isAggP at h
  unfold isAgg
  cases hu : P.underlying t with
  | none => simp [hu] at h
  | some d =>
    rw [Sem.run_bind, run_underlyingP hu]
    simp only [Result.andThen_ok]
    rw [hu] at h
    cases d <;> simp_all
theorem run_isAgg {t : TypeId} {b : Bool} (h : isAggB L t = some b) (w : World) : (isAgg t).run P w = .ok b w := by
  unfold isAggB at h
  unfold isAgg
  cases hu : L.underlying t with
  | none => simp [hu] at h
  | some d =>
    rw [Sem.run_bind, run_underlying' hu]
    simp only [Result.andThen_ok]
    rw [hu] at h
    cases d <;> simp_all
theorem fieldAddr_ok {s : TypeId} {x v : V} {f : Nat} (h : fieldAddrA L s x f = some v) :
    ∀ r vx, x.Den g r vx → ∃ u, v.Den g r u ∧ ∀ w, (Instr.fieldAt s vx f).run P w = .ok u w := by
  intro r vx hx
  unfold fieldAddrA at h
  split at h
  · rename_i fs n o hs
    split at h
    · rename_i fd hfd
      split at h
      · rename_i k hk
        cases h
        obtain ⟨q, hq, rfl⟩ := den_p hx
        refine ⟨_, mk_p hq _, fun w => ?_⟩
        have hget : fs[f]? = some fd := by
          have := lkL_get hfd
          rw [← Array.getElem?_toList]; exact this
        unfold Instr.fieldAt
        rw [Sem.run_bind, run_underlying' hs]
        simp only [Result.andThen_ok, hget]
        simp only [Instr.sureAddr, Sem.run_bind, Sem.run_pure, Result.andThen_ok, fieldPlace, run_sizeOf hk]
        simp
        unfold Addr.add
        split <;> simp_all [Nat.add_assoc]
      · cases h
    · cases h
  · cases h
theorem takeN_take {α : Type} : ∀ {l : List α} {n : Nat} {m : List α}, takeN l n = some m → m = l.take n ∧ n ≤ l.length
  | l, 0, m, h => by cases l <;> simp [takeN] at h <;> subst h <;> simp
  | [], n + 1, m, h => by simp [takeN] at h
  | x :: l, n + 1, m, h => by
    unfold takeN at h
    cases hr : takeN l n with
    | none => simp [hr] at h
    | some m' =>
      simp [hr] at h; subst h
      obtain ⟨rfl, hl⟩ := takeN_take hr
      exact ⟨rfl, by simp; omega⟩
theorem part_ok {ty : TypeId} {l : List C} {off : Nat} {x : W} (h : partA L ty l off = some x) :
    ∀ r vs, DL g r l vs → ∃ u, x.Den g r u ∧ ∀ w, (part ty ⟨vs⟩ off).run P w = .ok u w := by
  intro r vs hd
  unfold partA at h
  split at h
  · rename_i ha
    split at h
    · rename_i s hs
      split at h
      · rename_i m hm
        cases h
        obtain ⟨rfl, hl⟩ := takeN_take hm
        refine ⟨.agg ⟨(vs.drop off).take s⟩, ⟨_, rfl, (hd.drop off).take s⟩, fun w => ?_⟩
        unfold part
        rw [Sem.run_bind, run_isAgg ha]
        simp only [Result.andThen_ok, if_true, Sem.run_bind, run_sizeOf hs, Sem.run_pure]
        congr 2
        apply Array.ext'
        simp [List.extract_eq_take_drop]
      · cases h
    · cases h
  · rename_i ha
    split at h
    · rename_i c hc
      cases h
      obtain ⟨u, hu', hden⟩ := hd.get hc
      refine ⟨u, hden, fun w => ?_⟩
      unfold part
      rw [Sem.run_bind, run_isAgg ha]
      simp [hu']
    · cases h
  · cases h
theorem toList_get {α : Type} {fs : Array α} {f : Nat} {fd : α} (h : lkL fs.toList f = some fd) : fs[f]? = some fd := by
  have := lkL_get h
  rw [← Array.getElem?_toList]; exact this
theorem field_ok {s : TypeId} {x v : V} {f : Nat} (h : fieldA L s x f = some v) :
    ∀ r vx, x.Den g r vx → ∃ u, v.Den g r u ∧ ∀ w, (Instr.field s vx f).run P w = .ok u w := by
  intro r vx hx
  unfold fieldA at h
  split at h
  · rename_i fs l hs
    split at h
    · rename_i fd hfd
      split at h
      · rename_i y hy
        cases h
        obtain ⟨vs, rfl, hd⟩ := den_agg hx
        obtain ⟨u, h1, h2⟩ := part_ok (P := P) hy r vs hd
        refine ⟨u, h1, fun w => ?_⟩
        unfold Instr.field
        rw [Sem.run_bind, run_underlying' hs]
        simp only [Result.andThen_ok, toList_get hfd]
        simp only [asAgg, Sem.run_bind, Sem.run_pure, Result.andThen_ok, h2]
      · cases h
    · cases h
  · cases h
theorem add_at (q o n : Nat) : (⟨q, o, none⟩ : Addr).add n = ⟨q, o + n, none⟩ := by
  unfold Addr.add; split <;> simp_all
theorem indexAddr_ok {ty : TypeId} {x i v : V} (h : indexAddrA L ty x i = some v) :
    ∀ r vx vi, x.Den g r vx → i.Den g r vi → ∃ u, v.Den g r u ∧ ∀ w, (Instr.indexAt ty vx vi).run P w = .ok u w := by
  intro r vx vi hx hi
  unfold indexAddrA at h
  split at h
  · rename_i k j
    obtain rfl := den_i hi
    split at h
    · rename_i len e n o hu
      rw [nblt, Bool.cond_decide] at h
      split at h
      · rename_i hj
        split at h
        · rename_i s hs
          cases h
          obtain ⟨q, hq, rfl⟩ := den_p hx
          refine ⟨_, mk_p hq _, fun w => ?_⟩
          unfold Instr.indexAt
          simp only [asIntOf, Sem.run_bind, Sem.run_pure, Result.andThen_ok, run_underlying' hu, Instr.sureAddr, A.val]
          have h1 : (0 : Int) ≤ Int.ofNat j ∧ Int.ofNat j < (len : Int) := ⟨Int.natCast_nonneg j, by show (j : Int) < len; omega⟩
          simp only [h1, and_self, if_true, Sem.run_bind, run_sizeOf hs, Result.andThen_ok, Sem.run_pure, add_at, ← Nat.add_assoc]
          rfl
        · cases h
      · cases h
    · rename_i e x hu
      split at h
      · rename_i n o len hsl
        rw [nblt, Bool.cond_decide] at h
        split at h
        · rename_i hj
          split at h
          · rename_i s hs
            cases h
            obtain ⟨q, c, hq, rfl⟩ := den_sl hsl hx
            refine ⟨_, mk_p hq _, fun w => ?_⟩
            unfold Instr.indexAt
            simp only [asIntOf, Sem.run_bind, Sem.run_pure, Result.andThen_ok, run_underlying' hu, A.val]
            have h1 : (0 : Int) ≤ Int.ofNat j ∧ Int.ofNat j < (len : Int) := ⟨Int.natCast_nonneg j, by show (j : Int) < len; omega⟩
            simp only [h1, and_self, if_true, Sem.run_bind, run_sizeOf hs, Result.andThen_ok, Sem.run_pure, add_at, ← Nat.add_assoc]
            rfl
          · cases h
        · cases h
      · cases h
    · cases h
  · cases h
theorem arrAt_ok {ty : TypeId} {x v : V} (h : arrAtA L ty x = some v) :
    ∀ r vx, x.Den g r vx → ∃ u, v.Den g r u ∧ ∀ w, (Instr.arrayAt ty vx).run P w = .ok u w := by
  intro r vx hx
  unfold arrAtA at h
  split at h
  · rename_i n e x hu
    split at h
    · rename_i m o len hsl
      rw [nble, Bool.cond_decide] at h
      split at h
      · rename_i hj
        cases h
        obtain ⟨q, c, hq, rfl⟩ := den_sl hsl hx
        refine ⟨_, mk_p hq _, fun w => ?_⟩
        unfold Instr.arrayAt
        have hn : ¬ len < n := by omega
        simp only [Sem.run_bind, Sem.run_pure, Result.andThen_ok, run_underlying' hu, hn, if_false]
      · cases h
    · cases h
  · cases h
theorem index_ok {ty : TypeId} {x i v : V} (h : indexA L ty x i = some v) :
    ∀ r vx vi, x.Den g r vx → i.Den g r vi → ∃ u, v.Den g r u ∧ ∀ w, (Instr.index ty vx vi).run P w = .ok u w := by
  intro r vx vi hx hi
  unfold indexA at h
  split at h
  · rename_i k j
    obtain rfl := den_i hi
    split at h
    · rename_i len e l hu
      rw [nblt, Bool.cond_decide] at h
      split at h
      · rename_i hj
        split at h
        · rename_i s hs
          split at h
          · rename_i y hy
            cases h
            obtain ⟨vs, rfl, hd⟩ := den_agg hx
            obtain ⟨u, h1, h2⟩ := part_ok (P := P) hy r vs hd
            refine ⟨u, h1, fun w => ?_⟩
            unfold Instr.index
            simp only [asIntOf, Sem.run_bind, Sem.run_pure, Result.andThen_ok, run_underlying' hu, A.val]
            have h1 : (0 : Int) ≤ Int.ofNat j ∧ Int.ofNat j < (len : Int) := ⟨Int.natCast_nonneg j, by show (j : Int) < len; omega⟩
            simp only [h1, and_self, if_true, Sem.run_bind, run_sizeOf hs, Result.andThen_ok]
            exact h2 w
          · cases h
        · cases h
      · cases h
    · cases h
  · cases h
theorem WL.get {r : Rho} : ∀ {l : List W} {vs : List Value} {i : Nat} {x : W}, WL g r l vs → lkL l i = some x → ∃ v, vs[i]? = some v ∧ x.Den g r v
  | [], _, _, _, _, h => by simp [lkL] at h
  | _ :: _, [], _, _, hd, _ => hd.elim
  | y :: l, v :: vs, i, x, ⟨h1, h2⟩, h => by
    unfold lkL at h
    cases i with
    | zero => simp at h; subst h; exact ⟨v, rfl, h1⟩
    | succ i => simp at h; obtain ⟨u, hu, hc⟩ := WL.get h2 h; exact ⟨u, by simpa using hu, hc⟩
theorem extract_ok {x v : V} {i : Nat} (h : extractA x i = some v) :
    ∀ r vx, x.Den g r vx → ∃ u, v.Den g r u ∧ ∀ w, (Instr.extract vx i).run P w = .ok u w := by
  intro r vx hx
  unfold extractA at h
  split at h
  · rename_i l
    split at h
    · rename_i y hy
      cases h
      obtain ⟨vs, rfl, hd⟩ := hx
      obtain ⟨u, h1, h2⟩ := hd.get hy
      exact ⟨u, h2, fun w => by simp [Instr.extract, h1]⟩
    · cases h
  · cases h
def OptDen (g : Sg) (r : Rho) (x : Option V) (v : Option Value) : Prop := match x, v with | none, none => True | some x, some v => x.Den g r v | _, _ => False
theorem bnd_ok {d : Nat} {x : Option V} {l : Nat} (h : bndA d x = some l) {r : Rho} {v : Option Value} (hv : OptDen g r x v) :
    (x = none ∧ v = none ∧ l = d) ∨ ∃ k : IntKind, v = some (.int k (l : Int)) := by
  unfold bndA at h
  split at h
  · cases h
    cases v with
    | none => exact .inl ⟨rfl, rfl, rfl⟩
    | some v => exact hv.elim
  · rename_i k j
    cases h
    cases v with
    | none => exact hv.elim
    | some v =>
      have hv : V.Den g r (.w (.c (.i k (.k (.ofNat l))))) v := hv
      obtain rfl := den_i hv
      exact .inr ⟨k, rfl⟩
  · cases h
theorem bounds_ok {isS : Bool} {len cap l h : Nat} {lo hi : Option V} {vl vh : Option Value} {r : Rho} (h1 : bndA 0 lo = some l) (h2 : bndA len hi = some h) (hl : OptDen g r lo vl) (hh : OptDen g r hi vh) (hle : l ≤ h) (hc : h ≤ cap) (w : World) :
    (Instr.sliceBounds isS len cap vl vh none).run P w = .ok (l, h, cap) w := by
  have k1 : (0 : Int) ≤ (h : Int) ∧ (h : Int) ≤ (cap : Int) := by omega
  have k2 : (0 : Int) ≤ (l : Int) ∧ (l : Int) ≤ (h : Int) := by omega
  rcases bnd_ok h2 hh with ⟨_, rfl, rfl⟩ | ⟨kh, rfl⟩ <;> rcases bnd_ok h1 hl with ⟨_, rfl, rfl⟩ | ⟨kl, rfl⟩ <;>
    simp [Instr.sliceBounds, Instr.sliceBound, asIntOf, hle, hc]
theorem slice_ok {ty : TypeId} {x v : V} {lo hi : Option V} (h : sliceA L ty x lo hi = some v) :
    ∀ r vx vl vh, x.Den g r vx → OptDen g r lo vl → OptDen g r hi vh → ∃ u, v.Den g r u ∧ ∀ w, (Instr.sliceAt ty vx vl vh none).run P w = .ok u w := by
  intro r vx vl vh hx hl hh
  unfold sliceA at h
  split at h
  · rename_i e n o len cap hu
    split at h
    · rename_i s l hb hs hlo hhi
      rw [nble, nble, ← Bool.decide_and, Bool.cond_decide] at h
      split at h
      · rename_i hj
        cases h
        obtain ⟨q, hq, rfl⟩ := den_s hx
        refine ⟨_, mk_s hq _ _ _, fun w => ?_⟩
        unfold Instr.sliceAt
        rw [Sem.run_bind, run_underlying' hu]
        simp only [Result.andThen_ok]
        unfold Instr.slice
        rw [Sem.run_bind, run_underlying' hu]
        simp only [Result.andThen_ok]
        rw [Sem.run_bind, bounds_ok hlo hhi hl hh hj.1 hj.2]
        simp only [Result.andThen_ok, Sem.run_bind, run_sizeOf hs, Sem.run_pure, nbeq]
        by_cases e : cap = l <;> simp [e, add_at, Nat.add_assoc]
      · cases h
    · cases h
  · rename_i e n o len d hu
    split at h
    · rename_i s l hb hs hlo hhi
      rw [nble, nble, nblt, nbeq, ← Bool.decide_and, ← Bool.decide_or, ← Bool.decide_and, Bool.cond_decide] at h
      split at h
      · rename_i hj
        cases h
        obtain ⟨q, hq, hk, rfl⟩ := den_so hx
        refine ⟨_, mk_so hq (by omega), fun w => ?_⟩
        unfold Instr.sliceAt
        rw [Sem.run_bind, run_underlying' hu]
        simp only [Result.andThen_ok]
        unfold Instr.slice
        rw [Sem.run_bind, run_underlying' hu]
        simp only [Result.andThen_ok]
        rw [Sem.run_bind, bounds_ok hlo hhi hl hh hj.1.1 (by omega)]
        simp only [Result.andThen_ok, Sem.run_bind, run_sizeOf hs, Sem.run_pure]
        have e2 : r.k n - d - l = r.k n - (d + l) := by omega
        by_cases e : r.k n - d = l
        · have e0 : l = 0 := by omega
          subst e0
          simp [e]
        · simp [e, e2, add_at, Nat.add_assoc]
      · cases h
    · cases h
  · rename_i e hu
    split at h
    · rename_i s l hb hs hlo hhi
      rw [nbeq, nbeq, ← Bool.decide_and, Bool.cond_decide] at h
      split at h
      · rename_i hj
        cases h
        obtain ⟨rfl, rfl⟩ := hj
        obtain rfl := den_sn hx
        refine ⟨.slice none 0 0, rfl, fun w => ?_⟩
        unfold Instr.sliceAt
        rw [Sem.run_bind, run_underlying' hu]
        simp only [Result.andThen_ok]
        unfold Instr.slice
        rw [Sem.run_bind, run_underlying' hu]
        simp only [Result.andThen_ok]
        rw [Sem.run_bind, bounds_ok hlo hhi hl hh (Nat.le_refl _) (Nat.le_refl _)]
        simp [run_sizeOf hs]
      · cases h
    · cases h
  · rename_i e i hu
    split at h
    · rename_i s l hb hs hlo hhi
      rw [nbeq, nbeq, ← Bool.decide_and, Bool.cond_decide] at h
      split at h
      · rename_i hj
        cases h
        obtain ⟨rfl, rfl⟩ := hj
        obtain rfl := den_sz hx
        refine ⟨.slice (some (r.z i).1) 0 (r.z i).2, rfl, fun w => ?_⟩
        unfold Instr.sliceAt
        rw [Sem.run_bind, run_underlying' hu]
        simp only [Result.andThen_ok]
        unfold Instr.slice
        rw [Sem.run_bind, run_underlying' hu]
        simp only [Result.andThen_ok]
        rw [Sem.run_bind, bounds_ok hlo hhi hl hh (Nat.le_refl _) (Nat.zero_le _)]
        simp only [Result.andThen_ok, Sem.run_bind, run_sizeOf hs, Sem.run_pure]
        by_cases e : (r.z i).2 = 0 <;> simp [e, Addr.add]
      · cases h
    · cases h
  · rename_i len e n o hu
    split at h
    · rename_i s l hb hs hlo hhi
      rw [nble, nble, ← Bool.decide_and, Bool.cond_decide] at h
      split at h
      · rename_i hj
        cases h
        obtain ⟨q, hq, rfl⟩ := den_p hx
        refine ⟨_, mk_s hq _ _ _, fun w => ?_⟩
        unfold Instr.sliceAt
        rw [Sem.run_bind, run_underlying' hu]
        simp only [Result.andThen_ok, Instr.sureAddr, Sem.run_bind, Sem.run_pure]
        rw [bounds_ok hlo hhi hl hh hj.1 hj.2]
        simp only [Result.andThen_ok, run_sizeOf hs, nbeq]
        by_cases e : len = l <;> simp [e, add_at, Nat.add_assoc]
      · cases h
    · cases h
  · cases h
theorem len_ok {ty : TypeId} {x v : V} (h : lenA L ty x = some v) (ts : TypeId) :
    ∀ r vx, x.Den g r vx → ∃ u, v.Den g r u ∧ ∀ w, (Builtin.len_ #[ty] ts #[vx]).run P w = .ok u w := by
  intro r vx hx
  unfold lenA at h
  split at h
  · rename_i e hu
    cases h
    obtain rfl := den_sn hx
    refine ⟨_, mk_i r (k := .i64) (a := .k 0) (inK_i64.2 (by show (_ : Int) ≤ 0 ∧ (0 : Int) ≤ _; omega)), fun w => ?_⟩
    simp [Builtin.len_, run_underlying' hu, goInt, A.val]
  · rename_i e i hu
    cases h
    obtain rfl := den_sz hx
    refine ⟨_, mk_i r (k := .i64) (a := .k 0) (inK_i64.2 (by show (_ : Int) ≤ 0 ∧ (0 : Int) ≤ _; omega)), fun w => ?_⟩
    simp [Builtin.len_, run_underlying' hu, goInt, A.val]
  · rename_i e i a hu
    cases h
    have hd : C.den g r (.sx i a) = some vx := hx
    simp only [C.den] at hd
    split at hd
    · rename_i hc
      cases hd
      refine ⟨_, mk_i r hc.1, fun w => ?_⟩
      simp [Builtin.len_, run_underlying' hu, goInt, Int.toNat_of_nonneg hc.2]
    · cases hd
  · rename_i e x hne1 hne2 hne3 hu
    split at h
    · rename_i n o l hsl
      cases hk : inKB .i64 (.ofNat l)
      · rw [hk] at h; cases h
      · rw [hk] at h
        simp only [cond_true] at h
        cases h
        obtain ⟨q, c, hq, rfl⟩ := den_sl hsl hx
        refine ⟨_, mk_i r (inKB_in hk : inK .i64 ((A.k (.ofNat l)).val g)), fun w => ?_⟩
        simp [Builtin.len_, run_underlying' hu, goInt, A.val]
    · cases h
  · rename_i n e hu
    cases hk : inKB .i64 (.ofNat n)
    · rw [hk] at h; cases h
    · rw [hk] at h
      simp only [cond_true] at h
      cases h
      refine ⟨_, mk_i r (inKB_in hk : inK .i64 ((A.k (.ofNat n)).val g)), fun w => ?_⟩
      unfold Builtin.len_
      simp only [List.getElem?_toArray, List.getElem?_cons_zero]
      rw [Sem.run_bind, run_underlying' hu]
      simp [goInt, A.val]
  · cases h
end
end Go.Proofs.Ytdleeeahonfnkaa.SX

/- SxE -/
namespace Go.Proofs.Ytdleeeahonfnkaa.SX
open Go

section
variable {P : Program} {L : Lk} {U : Nat → List Int → Int} {X : FuncId → Nat} {g : Sg} [UOk U] [LkOk P L]
theorem cmpF_run (op : BinOp) (h : isCmp op = true) (a b : Int) (w : World) : (Op.intCmp op a b).run P w = .ok (.bool (cmpF op a b)) w := by
  cases op <;> simp [isCmp] at h <;> simp [Op.intCmp, cmpF, ieq_iff, ile_iff, bne]
  · rw [Bool.eq_iff_iff]; simp
  · rw [Bool.eq_iff_iff]; simp
  · rw [Bool.eq_iff_iff]; simp
  · rw [Bool.eq_iff_iff]; simp
def intSem (op : BinOp) (k : IntKind) (a b : Int) : Sem Value := match op with
  | .add | .sub | .mul => Op.intArith op k a b
  | .quo | .rem => Op.intDiv op k a b
  | .and | .or | .xor | .andNot => Op.intBits op k a b
  | _ => Op.intCmp op a b
theorem binOp_int {op : BinOp} {ty : TypeId} {k : IntKind} {a b : Int} (h1 : op ≠ .shl) (h2 : op ≠ .shr) : binOp op ty (.int k a) (.int k b) = intSem op k a b := by
  cases op <;> first | (exact absurd rfl h1) | (exact absurd rfl h2) | (simp [binOp, intSem])
theorem tmod_in {k : IntKind} {a b : Int} (h : inK k a) : inK k (a.tmod b) := by
  have h1 : (a.tmod b).natAbs ≤ a.natAbs := by
    rw [Int.natAbs_tmod]; exact Nat.mod_le _ _
  have h2 : 0 ≤ a → 0 ≤ a.tmod b := fun ha => Int.tmod_nonneg b ha
  have h3 : k.min ≤ 0 ∧ 0 ≤ k.max := by cases k <;> decide
  obtain ⟨l, u⟩ := h
  obtain ⟨h3, h4⟩ := h3
  refine ⟨?_, ?_⟩ <;> by_cases ha : 0 ≤ a
  · have := h2 ha; omega
  · omega
  · have := h2 ha; omega
  · have : a.tmod b ≤ 0 := by
      have := Int.tmod_nonneg b (show 0 ≤ -a by omega)
      rw [Int.neg_tmod] at this; omega
    omega
theorem fdiv_in {k : IntKind} {a : Int} {n : Nat} (h : inK k a) : inK k (a.fdiv (2 ^ n)) := by
  have h3 : k.min ≤ 0 ∧ 0 ≤ k.max := by cases k <;> decide
  have hp : (0 : Int) < 2 ^ n := Int.pow_pos (by decide)
  rw [Int.fdiv_eq_ediv_of_nonneg _ (Int.le_of_lt hp)]
  obtain ⟨l, u⟩ := h
  obtain ⟨h3, h4⟩ := h3
  by_cases ha : 0 ≤ a
  · have h1 := Int.ediv_nonneg ha (Int.le_of_lt hp)
    have h2 := Int.ediv_le_self (2 ^ n) ha
    exact ⟨by omega, by omega⟩
  · have h1 : a / 2 ^ n < 0 := Int.ediv_neg_of_neg_of_pos (by omega) hp
    have h2 : a ≤ a / 2 ^ n := by
      rw [Int.le_ediv_iff_mul_le hp]
      have h5 : (1 : Int) ≤ 2 ^ n := by omega
      have := Int.mul_le_mul_of_nonneg_left h5 (show 0 ≤ -a by omega)
      have e := Int.neg_mul a (2 ^ n)
      omega
    exact ⟨by omega, by omega⟩
theorem remA_ok {k : IntKind} {a : A} {z : Int} {st : St} (hg : Good U g (remA U k a z st).2) : Good U g st ∧ Same st (remA U k a z st).2 ∧ (remA U k a z st).1.val g = (a.val g).tmod z := by
  revert hg
  unfold remA
  split
  · rename_i lo hi hr
    cases h1 : (!ile z (-lo) && (!ile z hi && ile 1 z))
    · rw [cond_false]
      cases h2 : ieq lo hi
      · rw [cond_false]
        cases h3 : (ile 1 z && ieq (lo.tdiv z) (hi.tdiv z))
        · rw [cond_false]
          intro hg
          obtain ⟨k1, k2, k3⟩ := app_ok2 _ _ _ hg
          exact ⟨k1, k2, by rw [k3]; rfl⟩
        · rw [cond_true]
          generalize hl : linF st a = x
          obtain ⟨j, l⟩ := x
          simp only
          intro hg
          obtain ⟨k1, k2, k3⟩ := mkLin_ok (r := (mkLin U (j - lo.tdiv z * z) l st).1) (st' := (mkLin U (j - lo.tdiv z * z) l st).2) rfl hg
          refine ⟨k1, k2, ?_⟩
          have hv := linF_val k1 a
          rw [hl] at hv
          simp only at hv
          have hr' := range_ok k1 a _ _ hr
          rw [Bool.and_eq_true, ile_iff, ieq_iff, decide_eq_true_eq, decide_eq_true_eq] at h3
          have t1 := Int.tdiv_le_tdiv (c := z) (by omega) hr'.1
          have t2 := Int.tdiv_le_tdiv (c := z) (by omega) hr'.2
          have t3 : (a.val g).tdiv z = lo.tdiv z := by omega
          rw [k3, Int.tmod_def, t3, Int.mul_comm z]
          omega
      · rw [cond_true]
        intro hg
        have := range_ok hg a _ _ hr
        rw [ieq_iff, decide_eq_true_eq] at h2
        refine ⟨hg, Same.refl _, ?_⟩
        show lo.tmod z = _
        rw [show a.val g = lo by omega]
    · rw [cond_true]
      intro hg
      have := range_ok hg a _ _ hr
      rw [Bool.and_eq_true, Bool.and_eq_true, ile_iff, ile_iff, ile_iff, ← decide_not, ← decide_not, decide_eq_true_eq, decide_eq_true_eq, decide_eq_true_eq] at h1
      refine ⟨hg, Same.refl _, ?_⟩
      show a.val g = _
      rcases Int.le_total 0 (a.val g) with h | h
      · rw [Int.tmod_eq_of_lt h (by omega)]
      · have e := Int.tmod_eq_of_lt (a := -a.val g) (b := z) (by omega) (by omega)
        rw [Int.neg_tmod] at e
        omega
  · intro hg
    obtain ⟨k1, k2, k3⟩ := app_ok2 _ _ _ hg
    exact ⟨k1, k2, by rw [k3]; rfl⟩
theorem intOp_ok {op : BinOp} {k : IntKind} {a b : A} {v : V} {st st' : St} (hs1 : op ≠ .shl) (hs2 : op ≠ .shr) (h : intOp U op k a b st = some (v, st')) (hg : Good U g st') :
    Good U g st ∧ Same st st' ∧ (inK k (a.val g) → ∀ r, ∃ u, v.Den g r u ∧ ∀ ty w, (binOp op ty (.int k (a.val g)) (.int k (b.val g))).run P w = .ok u w) := by
  unfold intOp at h
  cases hc : isCmp op
  · rw [hc] at h
    simp only [cond_false] at h
    cases hb : isArith op || isBits op
    · rw [hb] at h
      simp only [cond_false] at h
      split at h
      · rename_i z
        rw [ieq_iff, Bool.cond_decide] at h
        split at h
        · cases h
        · rename_i hz
          cases h
          obtain ⟨h1, h2, h3⟩ := app_ok2 _ _ _ hg
          refine ⟨h1, h2, fun _ r => ⟨_, mk_i r (by rw [h3]; simp only [mean, List.map, wrapF_eq]; exact wrap_in _ _), fun ty w => ?_⟩⟩
          rw [binOp_int hs1 hs2, h3]
          simp [intSem, Op.intDiv, A.val, hz, mean, wrapF_eq]
      · rename_i z
        rw [ieq_iff, Bool.cond_decide] at h
        split at h
        · cases h
        · rename_i hz
          cases h
          obtain ⟨h1, h2, h3⟩ := remA_ok (k := k) (a := a) (z := z) hg
          refine ⟨h1, h2, fun hin r => ⟨_, mk_i r (by rw [h3]; exact tmod_in hin), fun ty w => ?_⟩⟩
          rw [binOp_int hs1 hs2, h3]
          simp [intSem, Op.intDiv, A.val, hz]
      · cases h
    · rw [hb] at h
      simp only [cond_true] at h
      cases h
      have hx : iopA U op k a b st = ((iopA U op k a b st).1, (iopA U op k a b st).2) := rfl
      obtain ⟨h1, h2, h3⟩ := iopA_ok hx hg
      refine ⟨h1, h2, fun _ r => ⟨_, mk_i r (by
        rw [h3]
        cases op <;> simp [isArith, isBits] at hb <;> simp only [mean, wrapF_eq] <;> exact wrap_in _ _), fun ty w => ?_⟩⟩
      rw [binOp_int hs1 hs2, h3]
      cases op <;> simp [isArith, isBits] at hb <;> simp [intSem, Op.intArith, Op.intBits, mean, wrapF_eq]
  · rw [hc] at h
    simp only [cond_true] at h
    cases h
    have hx : cmpA U op a b st = ((cmpA U op a b st).1, (cmpA U op a b st).2) := rfl
    obtain ⟨h1, h2, h3⟩ := cmpA_ok hc hx hg
    refine ⟨h1, h2, fun _ r => ⟨_, mk_b r _, fun ty w => ?_⟩⟩
    rw [binOp_int hs1 hs2, h3]
    have := cmpF_run (P := P) op hc (a.val g) (b.val g) w
    cases op <;> simp [isCmp] at hc <;> simp only [intSem] <;> exact this
theorem kmin_eq (a b : Nat) : kmin a b = min a b := by
  unfold kmin; rw [nble, Bool.cond_decide, Nat.min_def]
omit [UOk U] in
theorem shOp_ok {op : BinOp} {k k' : IntKind} {a b : A} {v : V} {st st' : St} (h : shOp U op k a b st = some (v, st')) (hg : Good U g st') :
    Good U g st ∧ Same st st' ∧ (op = .shl ∨ op = .shr) ∧ (inK k (a.val g) → ∀ r, ∃ u, v.Den g r u ∧ ∀ ty w, (binOp op ty (.int k (a.val g)) (.int k' (b.val g))).run P w = .ok u w) := by
  unfold shOp at h
  split at h
  · rename_i n
    have hn : ¬ (Int.ofNat n < 0) := by show ¬ ((n : Int) < 0); omega
    split at h
    · split at h
      rename_i rr st1 happ
      cases h
      obtain ⟨h1, h2, h3⟩ := app_ok happ hg
      refine ⟨h1, h2, .inl rfl, fun _ r => ⟨_, mk_i r (by rw [h3]; simp only [mean, List.map, wrapF_eq]; exact wrap_in _ _), fun ty w => ?_⟩⟩
      rw [h3]
      simp only [List.map, mean, wrapF_eq, kmin_eq]
      generalize a.val g = av
      show (binOp .shl ty (.int k av) (.int k' (Int.ofNat n))).run P w = _
      simp only [binOp, Op.shift]
      rw [if_neg hn]
      rfl
    · split at h
      rename_i rr st1 happ
      cases h
      obtain ⟨h1, h2, h3⟩ := app_ok happ hg
      refine ⟨h1, h2, .inr rfl, fun hin r => ⟨_, mk_i r (by rw [h3]; exact fdiv_in hin), fun ty w => ?_⟩⟩
      rw [h3]
      simp only [List.map, mean, kmin_eq]
      generalize a.val g = av
      show (binOp .shr ty (.int k av) (.int k' (Int.ofNat n))).run P w = _
      simp only [binOp, Op.shift]
      rw [if_neg hn]
      rfl
    · cases h
  · cases h
theorem min_ok {mn : Bool} {args : List V} {v : V} {st st' : St} (h : minA U mn args st = some (v, st')) (hg : Good U g st') (ts : Array TypeId) (t : TypeId) :
    Good U g st ∧ Same st st' ∧ ∀ r vs, VL g r args vs → ∃ u, v.Den g r u ∧ ∀ w, ((bif mn then Builtin.min_ ts t ⟨vs⟩ else Builtin.max_ ts t ⟨vs⟩)).run P w = .ok u w := by
  have two : ∀ (k : IntKind) (x y : Int), inK k x → inK k y → inK k (bif mn then (if y < x then y else x) else (if x < y then y else x)) := fun k x y hx hy => by
    cases mn <;> simp only [cond_true, cond_false] <;> split <;> assumption
  unfold minA at h
  split at h
  · rename_i k a k' b
    split at h
    · rename_i hk
      subst hk
      split at h
      rename_i rr st1 happ
      cases h
      obtain ⟨h1, h2, h3⟩ := minD_ok happ hg
      refine ⟨h1, h2, fun r vs hv => ?_⟩
      match vs, hv with
      | [x, y], ⟨hx, hy, _⟩ =>
        have i1 := den_in hx
        have i2 := den_in hy
        obtain rfl := den_i hx
        obtain rfl := den_i hy
        refine ⟨_, mk_i r (by rw [h3]; exact two k _ _ i1 i2), fun w => ?_⟩
        rw [h3]
        cases mn <;> simp [Builtin.min_, Builtin.min2, Builtin.max_, Builtin.max2]
    · cases h
  · rename_i k a k' b k'' c
    split at h
    · rename_i hk
      obtain ⟨rfl, rfl⟩ := hk
      split at h
      rename_i rr st1 happ
      split at h
      rename_i rr2 st2 happ2
      cases h
      obtain ⟨h1', h2', h3'⟩ := minD_ok happ2 hg
      obtain ⟨h1, h2, h3⟩ := minD_ok happ h1'
      refine ⟨h1, h2.trans h2', fun r vs hv => ?_⟩
      match vs, hv with
      | [x, y, z], ⟨hx, hy, hz, _⟩ =>
        have i1 := den_in hx
        have i2 := den_in hy
        have i3 := den_in hz
        obtain rfl := den_i hx
        obtain rfl := den_i hy
        obtain rfl := den_i hz
        refine ⟨_, mk_i r (by rw [h3', h3]; exact two k _ _ (two k _ _ i1 i2) i3), fun w => ?_⟩
        rw [h3', h3]
        cases mn <;> simp [Builtin.min_, Builtin.min2, Builtin.max_, Builtin.max2]
    · cases h
  · cases h

/-! ### Values put together -/
theorem zero_ok {t : TypeId} {l : List C} (h : zeroA L t = some l) : ∃ i z, P.info? t = some i ∧ i.zero = some z ∧ ∀ r, ∃ vs, z.cells = ⟨vs⟩ ∧ DL g r l vs := by
  unfold zeroA at h
  split at h
  · rename_i i hi
    split at h
    · rename_i z hz
      split at h
      · rename_i x hx
        cases h
        exact ⟨i, z, LkOk.info _ _ hi, hz, fun r => (W.Den.cells (vOf_den (g := g) (r := r) hx : V.Den g r (.w x) z))⟩
      · cases h
    · cases h
  · cases h
/-- Parts, one by one. -/
def PL (g : Sg) (r : Rho) : List (Nat × W) → List (Nat × Value) → Prop
  | [], [] => True
  | (i, x) :: l, (j, v) :: vs => i = j ∧ x.Den g r v ∧ PL g r l vs
  | _, _ => False
theorem parts_ok {n : Nat} {r : Rho} {t : T} {a : Act} (hT : TRel n g r t a) : ∀ {ps : List (Nat × Operand)} {l : List (Nat × W)}, partsA t ps = some l → PL g r l (ps.map fun (i, x) => (i, a.eval x))
  | [], l, h => by simp [partsA] at h; subst h; trivial
  | (i, o) :: ps, l, h => by
    unfold partsA at h
    split at h
    · rename_i x hx
      split at h
      · rename_i m hm
        cases h
        exact ⟨rfl, ev_den hT hx, parts_ok hT hm⟩
      · cases h
    · cases h
theorem foldl_set (cs : List Value) : ∀ (vs : List Value) (off k : Nat), off + k + vs.length ≤ cs.length → 
    ((vs.zipIdx k).foldl (fun (cs : Array Value) (c, j) => cs.setIfInBounds (off + j) c) ⟨cs⟩).toList = cs.take (off + k) ++ vs ++ cs.drop (off + k + vs.length) := by
  intro vs
  induction vs generalizing cs with
  | nil => intro off k h; simp
  | cons v vs ih =>
    intro off k h
    simp only [List.zipIdx_cons, List.foldl_cons]
    have hs : (⟨cs⟩ : Array Value).setIfInBounds (off + k) v = ⟨cs.set (off + k) v⟩ := by
      apply Array.ext'; simp
    rw [hs]
    rw [ih (cs.set (off + k) v) off (k + 1) (by simp at h ⊢; omega)]
    apply List.ext_getElem?
    intro j
    simp only [List.getElem?_append, List.length_append, List.length_take, List.length_set, List.getElem?_take, List.getElem?_drop, List.getElem?_set, List.length_cons]
    simp at h
    have e1 : min (off + (k + 1)) cs.length = off + k + 1 := by omega
    have e2 : min (off + k) cs.length = off + k := by omega
    simp only [e1, e2]
    by_cases h1 : j < off + k
    · have : j < off + k + 1 + vs.length := by omega
      have h3 : j < off + k + 1 := by omega
      have h4 : j < off + (k + 1) := by omega
      have h5 : ¬ off + k = j := by omega
      have h6 : j < off + k + (vs.length + 1) := by omega
      simp [this, h1, h3, h4, h5, h6]
    · by_cases h2 : j = off + k
      · subst h2
        have h4 : off + k < off + k + 1 + vs.length := by omega
        have h5 : off + k < off + (k + 1) := by omega
        have h6 : off + k < cs.length := by omega
        simp [h4, h5, h6]
      · have h3 : ¬ j < off + k + 1 := by omega
        have h7 : ¬ off + k = j := by omega
        by_cases h8 : j < off + k + 1 + vs.length
        · have h9 : j < off + k + (vs.length + 1) := by omega
          have h10 : j - (off + k) = (j - (off + k + 1)) + 1 := by omega
          simp only [h1, h3, h8, h9, if_true, if_false]
          rw [h10, List.getElem?_cons_succ]
        · have h9 : ¬ j < off + k + (vs.length + 1) := by omega
          simp only [h8, h9, if_false]
          have h11 : ¬ off + k = off + (k + 1) + vs.length + (j - (off + k + 1 + vs.length)) := by omega
          simp only [h11, if_false]
          congr 1
          omega
theorem fill_ok {r : Rho} {place : Nat → Option (Nat × Nat)} {placeS : Nat → Option (Nat × Nat)} (hp : ∀ i p, place i = some p → placeS i = some p) :
    ∀ {parts : List (Nat × W)} {vs : List (Nat × Value)} {cells l : List C} {cv : List Value}, fillA place cells parts = some l → PL g r parts vs → DL g r cells cv →
      ∃ ws, Instr.fill placeS ⟨cv⟩ vs = some ⟨ws⟩ ∧ DL g r l ws
  | [], vs, cells, l, cv, h, hP, hD => by
    cases vs with
    | nil => simp [fillA] at h; subst h; exact ⟨cv, rfl, hD⟩
    | cons => exact hP.elim
  | (i, x) :: parts, vs, cells, l, cv, h, hP, hD => by
    cases vs with
    | nil => exact hP.elim
    | cons y vs =>
      obtain ⟨j, v⟩ := y
      obtain ⟨rfl, hx, hP⟩ := hP
      unfold fillA at h
      split at h
      · cases h
      · rename_i off size hpl
        rw [nbeq, nble, ← Bool.decide_and, Bool.cond_decide] at h
        split at h
        · rename_i hc
          obtain ⟨hc1, hc2⟩ := hc
          obtain ⟨us, hu, hd⟩ := W.Den.cells hx
          have hul : us.length = size := by rw [hd.length]; exact hc1
          have hcl : cv.length = cells.length := hD.length
          have hnew : DL g r (cells.take off ++ x.cells ++ cells.drop (off + size)) (cv.take off ++ us ++ cv.drop (off + size)) :=
            ((hD.take off).append hd).append (hD.drop (off + size))
          obtain ⟨ws, h1, h2⟩ := fill_ok hp h hP hnew
          refine ⟨ws, ?_, h2⟩
          have hz : ((decide (v.cells.size ≠ size)) || decide (off + v.cells.size > cv.length)) = false := by
            rw [hu]; simp [hul]; omega
          have hfold : v.cells.zipIdx.foldl (fun (cs : Array Value) x => cs.setIfInBounds (off + x.2) x.1) ⟨cv⟩ = ⟨cv.take off ++ us ++ cv.drop (off + size)⟩ := by
            rw [hu]
            apply Array.ext'
            have hf := foldl_set cv us off 0 (by omega)
            simp only [Nat.add_zero, hul] at hf
            rw [← hf, ← Array.foldl_toList, Array.toList_zipIdx]
          have key : Instr.fill placeS ⟨cv⟩ ((i, v) :: vs) = Instr.fill placeS (v.cells.zipIdx.foldl (fun (cs : Array Value) x => cs.setIfInBounds (off + x.2) x.1) ⟨cv⟩) vs := by
            rw [Instr.fill, hp _ _ hpl]
            show (if (decide (v.cells.size ≠ size) || decide (off + v.cells.size > cv.length)) = true then none else _) = _
            rw [hz]
            rfl
          rw [key, hfold]
          exact h1
        · cases h
end
end Go.Proofs.Ytdleeeahonfnkaa.SX

/- SxF -/
namespace Go.Proofs.Ytdleeeahonfnkaa.SX
open Go
section
variable {P : Program} {L : Lk} {U : Nat → List Int → Int} {X : FuncId → Nat} {g : Sg} [UOk U] [LkOk P L]
def ceq : Value → Value → Bool
  | .int _ a, .int _ b => a == b
  | .bool a, .bool b => a == b
  | _, _ => false
def aeq : List Value → List Value → Bool
  | [], [] => true
  | x :: xs, y :: ys => ceq x y && aeq xs ys
  | _, _ => false
def kin : Bool → Value → Value → Prop
  | true, .int k _, .int k' _ => k = k'
  | false, .bool _, .bool _ => True
  | _, _, _ => False
def akin : List Bool → List Value → List Value → Prop
  | [], [], [] => True
  | k :: ks, x :: xs, y :: ys => kin k x y ∧ akin ks xs ys
  | _, _, _ => False
theorem akin.split : ∀ {a b : List Bool} {xs ys : List Value}, akin (a ++ b) xs ys → akin a (xs.take a.length) (ys.take a.length) ∧ akin b (xs.drop a.length) (ys.drop a.length)
  | [], b, xs, ys, h => by simpa [akin] using h
  | k :: a, b, x :: xs, y :: ys, ⟨h1, h2⟩ => by
    obtain ⟨h3, h4⟩ := akin.split h2
    exact ⟨⟨h1, h3⟩, h4⟩
  | _ :: _, _, [], _, h => by cases h
  | _ :: _, _, _ :: _, [], h => by cases h
theorem akin.len : ∀ {ks : List Bool} {xs ys : List Value}, akin ks xs ys → xs.length = ks.length ∧ ys.length = ks.length
  | [], [], [], _ => ⟨rfl, rfl⟩
  | _ :: _, _ :: _, _ :: _, ⟨_, h⟩ => by obtain ⟨h1, h2⟩ := akin.len h; simp [h1, h2]
  | [], _ :: _, _, h => by cases h
  | [], [], _ :: _, h => by cases h
  | _ :: _, [], _, h => by cases h
  | _ :: _, _ :: _, [], h => by cases h
theorem aeq_append : ∀ (a b c d : List Value), a.length = b.length → aeq (a ++ c) (b ++ d) = (aeq a b && aeq c d)
  | [], [], c, d, _ => by simp [aeq]
  | x :: a, y :: b, c, d, h => by simp at h; simp [aeq, aeq_append a b c d h, Bool.and_assoc]
  | [], _ :: _, _, _, h => by simp at h
  | _ :: _, [], _, _, h => by simp at h
theorem aeq_split (xs ys : List Value) (n : Nat) (h : xs.length = ys.length) : aeq xs ys = (aeq (xs.take n) (ys.take n) && aeq (xs.drop n) (ys.drop n)) := by
  rw [← aeq_append _ _ _ _ (by simp [h]), List.take_append_drop, List.take_append_drop]
theorem run_loop {β : Type} {w : World} {F : β → Option Bool × Unit → Sem (ForInStep (Option Bool × Unit))} (f : β → Bool) : ∀ (l : List β),
    (∀ x ∈ l, ∀ s, (F x s).run P w = .ok (bif f x then .yield (none, ()) else .done (some false, ())) w) →
    (forIn l (none, ()) F).run P w = .ok (bif l.all f then (none, ()) else (some false, ())) w
  | [], _ => by simp
  | x :: l, h => by
    rw [List.forIn_cons, Sem.run_bind, h x (List.mem_cons_self ..)]
    simp only [Result.andThen_ok, List.all_cons]
    cases hx : f x
    · simp
    · simp only [cond_true, Bool.true_and]
      exact run_loop f l (fun y hy s => h y (List.mem_cons_of_mem _ hy) s)
def MainEq (P : Program) (D : Nat) (t : TypeId) (ks : List Bool) : Prop := ∀ (xs ys : List Value), akin ks xs ys → ∀ w,
  (isAggP P t = some true → (Op.equalIn D t (.agg ⟨xs⟩) (.agg ⟨ys⟩)).run P w = .ok (aeq xs ys) w) ∧
  (isAggP P t = some false → ∃ x y, xs = [x] ∧ ys = [y] ∧ (Op.equalIn D t x y).run P w = .ok (aeq xs ys) w) ∧ isAggP P t ≠ none
theorem part_run {t : TypeId} {n : Nat} (hs : sizeP P t = some n) (XS : List Value) (off : Nat) (w : World) :
    (isAggP P t = some true → (part t ⟨XS⟩ off).run P w = .ok (.agg ⟨(XS.drop off).take n⟩) w) ∧
    (isAggP P t = some false → ∀ x, (XS.drop off).take n = [x] → (part t ⟨XS⟩ off).run P w = .ok x w) := by
  refine ⟨fun ha => ?_, fun ha x hx => ?_⟩
  · unfold part
    rw [Sem.run_bind, run_isAggP ha]
    simp only [Result.andThen_ok, if_true, Sem.run_bind, run_sizeOfP hs, Sem.run_pure]
    congr 2
    apply Array.ext'
    simp [List.extract_eq_take_drop]
  · unfold part
    rw [Sem.run_bind, run_isAggP ha]
    have : XS[off]? = some x := by
      have h1 : ((XS.drop off).take n)[0]? = some x := by rw [hx]; rfl
      rw [List.getElem?_take] at h1
      split at h1
      · simpa using h1
      · cases h1
    simp [this]
theorem part_eq {D : Nat} {t : TypeId} {ks : List Bool} (hm : MainEq P D t ks) (hs : sizeP P t = some ks.length) (XS YS : List Value) (off : Nat) (hk : akin ks ((XS.drop off).take ks.length) ((YS.drop off).take ks.length)) (w : World) :
    ∃ a b, (part t ⟨XS⟩ off).run P w = .ok a w ∧ (part t ⟨YS⟩ off).run P w = .ok b w ∧ (Op.equalIn D t a b).run P w = .ok (aeq ((XS.drop off).take ks.length) ((YS.drop off).take ks.length)) w := by
  obtain ⟨h1, h2, h3⟩ := hm _ _ hk w
  obtain ⟨p1, p2⟩ := part_run hs XS off w
  obtain ⟨q1, q2⟩ := part_run hs YS off w
  cases ha : isAggP P t with
  | none => exact absurd ha h3
  | some b =>
    cases b
    · obtain ⟨x, y, hx, hy, he⟩ := h2 ha
      exact ⟨x, y, p2 ha x hx, q2 ha y hy, he⟩
    · exact ⟨_, _, p1 ha, q1 ha, h1 ha⟩
theorem struct_all {D : Nat} {fl : TypeId → Option (List Bool)} (hfl : ∀ t n, fl t = some n → MainEq P D t n) (XS YS : List Value) (hl : XS.length = YS.length) (w : World)
    {F : Field → Option Bool × Unit → Sem (ForInStep (Option Bool × Unit))}
    (hF : ∀ f s, f.name ≠ "_" → ∀ a b q, (part f.type ⟨XS⟩ f.offset).run P w = .ok a w → (part f.type ⟨YS⟩ f.offset).run P w = .ok b w → (Op.equalIn D f.type a b).run P w = .ok q w →
      (F f s).run P w = .ok (bif q then .yield (none, ()) else .done (some false, ())) w) :
    ∀ (l : List Field) (o : Nat) (ks : List Bool), flatFs P fl l o = some ks → akin ks (XS.drop o) (YS.drop o) → (forIn l (none, ()) F).run P w = .ok (bif aeq (XS.drop o) (YS.drop o) then (none, ()) else (some false, ())) w
  | [], o, ks, h, hk => by
    simp [flatFs] at h
    subst h
    obtain ⟨h1, h2⟩ := hk.len
    rw [List.eq_nil_of_length_eq_zero h1, List.eq_nil_of_length_eq_zero h2]
    simp [aeq]
  | f :: l, o, ks, h, hk => by
    unfold flatFs at h
    split at h
    · rename_i hc
      obtain ⟨hn, ho⟩ := hc
      split at h
      · rename_i k1 s h1 h2
        split at h
        · rename_i hss
          subst hss
          split at h
          · rename_i k2 h3
            cases h
            obtain ⟨a1, a2⟩ := hk.split
            rw [← ho] at a1
            obtain ⟨a, b, ha, hb, hq⟩ := part_eq (hfl _ _ h1) h2 XS YS f.offset a1 w
            rw [List.forIn_cons, Sem.run_bind, hF f _ hn a b _ ha hb hq]
            simp only [Result.andThen_ok]
            rw [List.drop_drop, List.drop_drop] at a2
            rw [aeq_split (XS.drop o) (YS.drop o) k1.length (by simp [hl]), List.drop_drop, List.drop_drop, ho]
            cases aeq ((XS.drop o).take k1.length) ((YS.drop o).take k1.length)
            · simp
            · simp only [cond_true, Bool.true_and]
              exact struct_all hfl XS YS hl w hF l (o + k1.length) k2 h3 a2
          · cases h
        · cases h
      · cases h
    · cases h
theorem array_all {D : Nat} {e : TypeId} {k1 : List Bool} (hm : MainEq P D e k1) (hs : sizeP P e = some k1.length) (XS YS : List Value) (hl : XS.length = YS.length) (w : World)
    {F : Nat → Option Bool × Unit → Sem (ForInStep (Option Bool × Unit))}
    (hF : ∀ i st a b q, (part e ⟨XS⟩ (i * k1.length)).run P w = .ok a w → (part e ⟨YS⟩ (i * k1.length)).run P w = .ok b w → (Op.equalIn D e a b).run P w = .ok q w →
      (F i st).run P w = .ok (bif q then .yield (none, ()) else .done (some false, ())) w) :
    ∀ (k i : Nat), akin (repL k1 k) (XS.drop (i * k1.length)) (YS.drop (i * k1.length)) → (forIn (List.range' i k) (none, ()) F).run P w = .ok (bif aeq (XS.drop (i * k1.length)) (YS.drop (i * k1.length)) then (none, ()) else (some false, ())) w
  | 0, i, hk => by
    obtain ⟨h1, h2⟩ := hk.len
    rw [List.eq_nil_of_length_eq_zero h1, List.eq_nil_of_length_eq_zero h2]
    simp [aeq]
  | k + 1, i, hk => by
    obtain ⟨a1, a2⟩ := akin.split (a := k1) (b := repL k1 k) hk
    obtain ⟨a, b, ha, hb, hq⟩ := part_eq hm hs XS YS (i * k1.length) a1 w
    rw [List.range'_succ, List.forIn_cons, Sem.run_bind, hF i _ a b _ ha hb hq]
    simp only [Result.andThen_ok]
    have e1 : i * k1.length + k1.length = (i + 1) * k1.length := by rw [Nat.add_mul]; omega
    rw [List.drop_drop, List.drop_drop, e1] at a2
    rw [aeq_split (XS.drop (i * k1.length)) (YS.drop (i * k1.length)) k1.length (by simp [hl]), List.drop_drop, List.drop_drop]
    rw [e1]
    cases aeq ((XS.drop (i * k1.length)).take k1.length) ((YS.drop (i * k1.length)).take k1.length)
    · simp
    · simp only [cond_true, Bool.true_and]
      exact array_all hm hs XS YS hl w hF k (i + 1) a2
theorem step_run {α : Type} {a b : Value} {q : Bool} {w : World} {t : TypeId} {x y : Sem Value} {D : Nat} {A B : Sem α} {r : α} (ha : x.run P w = .ok a w) (hb : y.run P w = .ok b w) (hq : (Op.equalIn D t a b).run P w = .ok q w)
    (hA : A.run P w = .ok r w ∨ q = true) (hB : B.run P w = .ok r w ∨ q = false) :
    (do let u ← x; let v ← y; let z ← Op.equalIn D t u v; if (!z) = true then A else B : Sem α).run P w = .ok r w := by
  rw [Sem.run_bind, ha]
  simp only [Result.andThen_ok]
  rw [Sem.run_bind, hb]
  simp only [Result.andThen_ok]
  rw [Sem.run_bind, hq]
  simp only [Result.andThen_ok]
  cases q
  · simpa using hA
  · simpa using hB
theorem flat_main : ∀ (d : Nat) (t : TypeId) (ks : List Bool), flat P d t = some ks → ∀ D, d ≤ D → MainEq P D t ks
  | 0, t, n, h, _, _ => by simp [flat] at h
  | d + 1, t, n, h, 0, hD => by omega
  | d + 1, t, n, h, D + 1, hD => by
    intro xs ys hk w
    obtain ⟨l1, l2⟩ := hk.len
    unfold flat at h
    split at h
    · rename_i k hu
      cases h
      refine ⟨fun ha => ?_, fun ha => ?_, ?_⟩
      · simp [isAggP, hu] at ha
      · match xs, ys, hk with
        | [x], [y], ⟨hk, _⟩ =>
          refine ⟨x, y, rfl, rfl, ?_⟩
          cases x <;> cases y <;> simp only [kin] at hk
          rename_i k1 a k2 b
          subst hk
          unfold Op.equalIn
          rw [Sem.run_bind, run_underlyingP hu]
          simp [aeq, ceq]
      · simp [isAggP, hu]
    · rename_i hu
      cases h
      refine ⟨fun ha => ?_, fun ha => ?_, ?_⟩
      · simp [isAggP, hu] at ha
      · match xs, ys, hk with
        | [x], [y], ⟨hk, _⟩ =>
          refine ⟨x, y, rfl, rfl, ?_⟩
          cases x <;> cases y <;> simp only [kin] at hk
          rename_i a b
          unfold Op.equalIn
          rw [Sem.run_bind, run_underlyingP hu]
          simp [aeq, ceq]
      · simp [isAggP, hu]
    · rename_i len e hu
      split at h
      · rename_i k1 s h1 h2
        split at h
        · rename_i hss
          subst hss
          cases h
          have hm := flat_main d e k1 h1 D (by omega)
          refine ⟨fun ha => ?_, fun ha => ?_, ?_⟩
          · unfold Op.equalIn
            rw [Sem.run_bind, run_underlyingP hu]
            simp only [Result.andThen_ok]
            rw [Sem.run_bind, run_sizeOfP h2]
            simp only [Result.andThen_ok]
            rw [Sem.run_bind, Std.Legacy.Range.forIn_eq_forIn_range']
            simp only [Std.Legacy.Range.size, Nat.sub_zero, Nat.add_sub_cancel, Nat.div_one]
            rw [array_all hm h2 xs ys (l1.trans l2.symm) w (fun i st a b q ha hb hq => by
              refine step_run ha hb hq ?_ ?_ <;> cases q <;> simp) len 0 (by simpa using hk)]
            simp only [Result.andThen_ok, Nat.zero_mul, List.drop_zero]
            cases aeq xs ys <;> rfl
          · simp [isAggP, hu] at ha
          · simp [isAggP, hu]
        · cases h
      · cases h
    · rename_i fs hu
      split at h
      · cases h
      · rename_i hst
        refine ⟨fun ha => ?_, fun ha => ?_, ?_⟩
        · unfold Op.equalIn
          rw [Sem.run_bind, run_underlyingP hu]
          simp only [Result.andThen_ok]
          rw [Sem.run_bind]
          simp only [run_program, Result.andThen_ok]
          rw [if_neg hst, Sem.run_bind, ← Array.forIn_toList]
          rw [struct_all (fun t n hf => flat_main d t n hf D (by omega)) xs ys (l1.trans l2.symm) w (fun f s hn a b q ha hb hq => by
              rw [if_pos hn]
              refine step_run ha hb hq ?_ ?_ <;> cases q <;> simp) fs.toList 0 n h (by simpa using hk)]
          simp only [Result.andThen_ok, List.drop_zero]
          cases aeq xs ys <;> rfl
        · simp [isAggP, hu] at ha
        · simp [isAggP, hu]
    · cases h
/-- Comparing cells by what they stand for. -/
theorem eqCells_ok : ∀ {ks : List Bool} {l m : List C} {acc r : A} {st st' : St}, eqCells U ks l m acc st = some (r, st') → Good U g st' →
    Good U g st ∧ Same st st' ∧ ∀ rho vs us, DL g rho l vs → DL g rho m us → akin ks vs us ∧ ieq (r.val g) 1 = (ieq (acc.val g) 1 && aeq vs us) := by
  intro ks
  induction ks with
  | nil =>
    intro l m acc r st st' h hg
    cases l with
    | cons _ _ => simp [eqCells] at h
    | nil =>
      cases m with
      | cons _ _ => simp [eqCells] at h
      | nil =>
        simp [eqCells] at h
        obtain ⟨rfl, rfl⟩ := h
        refine ⟨hg, Same.refl _, fun rho vs us h1 h2 => ?_⟩
        rw [h1.nil_inv, h2.nil_inv]
        simp [akin, aeq]
  | cons kk ks ih =>
    intro l m acc r st st' h hg
    cases l with
    | nil => cases kk <;> simp [eqCells] at h
    | cons c l =>
    cases m with
    | nil => cases kk <;> cases c <;> simp [eqCells] at h
    | cons d m =>
    cases kk with
    | true =>
      cases c with
      | i k a =>
        cases d with
        | i k' b =>
          rw [eqCells] at h
          split at h
          · rename_i hkk
            subst hkk
            split at h
            rename_i e st1 he
            split at h
            rename_i e2 st2 he2
            obtain ⟨h1, h2, h3⟩ := ih h hg
            obtain ⟨p1, p2, p3⟩ := andA_ok he2 h1
            obtain ⟨q1, q2, q3⟩ := eqlA_ok he p1
            refine ⟨q1, (q2.trans p2).trans h2, fun rho vs us hv hu => ?_⟩
            obtain ⟨v, vs, rfl, hv1, hv2⟩ := hv.cons_inv
            obtain ⟨u, us, rfl, hu1, hu2⟩ := hu.cons_inv
            obtain rfl := den_i hv1
            obtain rfl := den_i hu1
            obtain ⟨e1, e2⟩ := h3 rho vs us hv2 hu2
            refine ⟨⟨rfl, e1⟩, ?_⟩
            rw [e2, p3, q3]
            simp only [aeq, ceq]
            cases ieq (A.val g acc) 1
            · simp
            · generalize A.val g a = p
              generalize A.val g b = q
              by_cases hh : p = q
              · subst hh; simp
              · have : (p == q) = false := by simpa using hh
                simp [hh, this]
          · cases h
        | _ => simp [eqCells] at h
      | _ => simp [eqCells] at h
    | false =>
      cases c with
      | b a =>
        cases d with
        | b b =>
          rw [eqCells] at h
          split at h
          rename_i e st1 he
          split at h
          rename_i e2 st2 he2
          obtain ⟨h1, h2, h3⟩ := ih h hg
          obtain ⟨p1, p2, p3⟩ := andA_ok he2 h1
          obtain ⟨q1, q2, q3⟩ := beqA_ok he p1
          refine ⟨q1, (q2.trans p2).trans h2, fun rho vs us hv hu => ?_⟩
          obtain ⟨v, vs, rfl, hv1, hv2⟩ := hv.cons_inv
          obtain ⟨u, us, rfl, hu1, hu2⟩ := hu.cons_inv
          obtain rfl := den_b hv1
          obtain rfl := den_b hu1
          obtain ⟨e1, e2⟩ := h3 rho vs us hv2 hu2
          refine ⟨⟨trivial, e1⟩, ?_⟩
          rw [e2, p3, q3]
          simp only [aeq, ceq]
          cases ieq (A.val g acc) 1
          · simp
          · cases ieq (A.val g a) 1 <;> cases ieq (A.val g b) 1 <;> simp
        | _ => simp [eqCells] at h
      | _ => simp [eqCells] at h
theorem equal_agg {ty : TypeId} {ks : List Bool} (hf : flatOk P ty = some ks) {xs ys : List Value} (hk : akin ks xs ys) (w : World) (x y : Operand) (op : BinOp) :
    (Op.equal ty (.agg ⟨xs⟩) (.agg ⟨ys⟩)).run P w = .ok (aeq xs ys) w ∧ (eqGuard op ty x y (.agg ⟨xs⟩) (.agg ⟨ys⟩)).run P w = .ok () w := by
  unfold flatOk at hf
  cases hc : (isAggP P ty == some true && !P.eqGuardType P.depth ty)
  · rw [hc] at hf; cases hf
  · rw [hc] at hf
    simp only [cond_true] at hf
    rw [Bool.and_eq_true] at hc
    obtain ⟨c1, c2⟩ := hc
    have c1 := eq_of_beq c1
    have c2 : P.eqGuardType P.depth ty = false := by simpa using c2
    refine ⟨?_, ?_⟩
    · obtain ⟨h1, _, _⟩ := flat_main 8 ty ks hf Op.maxDepth (by decide) xs ys hk w
      exact h1 c1
    · unfold eqGuard
      cases op <;> simp [c2]
end
end Go.Proofs.Ytdleeeahonfnkaa.SX

/- SxG -/
namespace Go.Proofs.Ytdleeeahonfnkaa.SX
open Go
section
variable {P : Program} {L : Lk} {U : Nat → List Int → Int} {X : FuncId → Nat} {g : Sg} [UOk U] [LkOk P L]
theorem clV_den {st : St} (hg : Good U g st) {v : V} {r : Rho} {u : Value} (h : v.Den g r u) : (clV st v).Den g r u := by
  unfold clV
  split
  · rename_i k n
    split
    · rename_i lo hi hr
      cases he : ieq lo hi
      · exact h
      · have k1 := range_ok hg (.x n) _ _ hr
        rw [ieq_iff, decide_eq_true_eq] at he
        have e : (A.k lo).val g = (A.x n).val g := by
          show lo = _
          omega
        rw [cond_true]
        have hin := den_in h
        rw [den_i h, ← e]
        exact mk_i r (by rw [e]; exact hin)
    · exact h
  · exact h
theorem guard_int (op : BinOp) (ty : TypeId) (x y : Operand) (k : IntKind) (n : Int) (v : Value) (w : World) : (eqGuard op ty x y (.int k n) v).run P w = .ok () w := by
  rw [eqGuard_at_int]; rfl
theorem guard_bool (op : BinOp) (ty : TypeId) (x y : Operand) (b : Bool) (v : Value) (w : World) : (eqGuard op ty x y (.bool b) v).run P w = .ok () w := by
  rw [eqGuard_at_bool]; rfl
theorem binOpA_ok {op : BinOp} {ty : TypeId} {x y v : V} {st st' : St} (h : binOpA L U op ty x y st = some (v, st')) (hg : Good U g st') :
    Good U g st ∧ Same st st' ∧ ∀ r vx vy, x.Den g r vx → y.Den g r vy → ∃ u, v.Den g r u ∧ ∀ (xo yo : Operand) w, (do eqGuard op ty xo yo vx vy; binOp op ty vx vy : Sem Value).run P w = .ok u w := by
  unfold binOpA at h
  split at h
  · rename_i k a k' b
    split at h
    · obtain ⟨h1, h2, _, h3⟩ := shOp_ok (P := P) (k' := k') h hg
      refine ⟨h1, h2, fun r vx vy hx hy => ?_⟩
      have hin := den_in hx
      obtain rfl := den_i hx
      obtain rfl := den_i hy
      obtain ⟨u, hu, hr⟩ := h3 hin r
      exact ⟨u, hu, fun xo yo w => by rw [Sem.run_bind, guard_int]; exact hr ty w⟩
    · obtain ⟨h1, h2, _, h3⟩ := shOp_ok (P := P) (k' := k') h hg
      refine ⟨h1, h2, fun r vx vy hx hy => ?_⟩
      have hin := den_in hx
      obtain rfl := den_i hx
      obtain rfl := den_i hy
      obtain ⟨u, hu, hr⟩ := h3 hin r
      exact ⟨u, hu, fun xo yo w => by rw [Sem.run_bind, guard_int]; exact hr ty w⟩
    · rename_i hs1 hs2
      split at h
      · rename_i hk
        subst hk
        obtain ⟨h1, h2, h3⟩ := intOp_ok (P := P) (fun e => hs1 e) (fun e => hs2 e) h hg
        refine ⟨h1, h2, fun r vx vy hx hy => ?_⟩
        have hin := den_in hx
        obtain rfl := den_i hx
        obtain rfl := den_i hy
        obtain ⟨u, hu, hr⟩ := h3 hin r
        exact ⟨u, hu, fun xo yo w => by rw [Sem.run_bind, guard_int]; exact hr ty w⟩
      · cases h
  · rename_i a b
    split at h
    · rename_i hu
      have heq : ∀ (p q : Bool) w, (Op.equal ty (.bool p) (.bool q)).run P w = .ok (p == q) w := fun p q w => by
        show (Op.equalIn (9999 + 1) ty (.bool p) (.bool q)).run P w = _
        unfold Op.equalIn
        rw [Sem.run_bind, run_underlying' hu]
        simp
      split at h
      · split at h
        rename_i rr st1 happ
        cases h
        obtain ⟨h1, h2, h3⟩ := beqA_ok happ hg
        refine ⟨h1, h2, fun r vx vy hx hy => ⟨_, mk_b r _, fun xo yo w => ?_⟩⟩
        obtain rfl := den_b hx
        obtain rfl := den_b hy
        rw [Sem.run_bind, guard_bool, h3]
        simp only [Result.andThen_ok, binOp, Sem.run_bind, heq, Sem.run_pure]
      · split at h
        rename_i rr st1 happ
        split at h
        rename_i rr2 st2 happ2
        cases h
        obtain ⟨p1, p2, p3⟩ := app_ok happ2 hg
        obtain ⟨h1, h2, h3⟩ := beqA_ok happ p1
        refine ⟨h1, h2.trans p2, fun r vx vy hx hy => ⟨_, mk_b r _, fun xo yo w => ?_⟩⟩
        obtain rfl := den_b hx
        obtain rfl := den_b hy
        rw [Sem.run_bind, guard_bool, p3]
        simp only [Result.andThen_ok, binOp, Sem.run_bind, heq, Sem.run_pure, List.map, mean, ieq_b2i, h3]
      · cases h
    · cases h
  · rename_i l m
    split at h
    · rename_i ks hks
      split at h
      · rename_i rr st1 he
        split at h
        · cases h
          obtain ⟨h1, h2, h3⟩ := eqCells_ok he hg
          refine ⟨h1, h2, fun r vx vy hx hy => ⟨_, mk_b r _, fun xo yo w => ?_⟩⟩
          obtain ⟨vs, rfl, hvs⟩ := den_agg hx
          obtain ⟨us, rfl, hus⟩ := den_agg hy
          obtain ⟨e1, e2⟩ := h3 r vs us hvs hus
          obtain ⟨q1, q2⟩ := equal_agg (LkOk.flat (P := P) _ _ hks) e1 w xo yo .eql
          rw [Sem.run_bind, q2, e2]
          simp only [Result.andThen_ok, binOp, Sem.run_bind, q1, Sem.run_pure]
          simp [A.val, ieq]
        · split at h
          rename_i rr2 st2 happ2
          cases h
          obtain ⟨p1, p2, p3⟩ := app_ok happ2 hg
          obtain ⟨h1, h2, h3⟩ := eqCells_ok he p1
          refine ⟨h1, h2.trans p2, fun r vx vy hx hy => ⟨_, mk_b r _, fun xo yo w => ?_⟩⟩
          obtain ⟨vs, rfl, hvs⟩ := den_agg hx
          obtain ⟨us, rfl, hus⟩ := den_agg hy
          obtain ⟨e1, e2⟩ := h3 r vs us hvs hus
          obtain ⟨q1, q2⟩ := equal_agg (LkOk.flat (P := P) _ _ hks) e1 w xo yo .neq
          rw [Sem.run_bind, q2, p3]
          simp only [Result.andThen_ok, binOp, Sem.run_bind, q1, Sem.run_pure, List.map, mean, ieq_b2i, e2]
          simp [A.val, ieq]
        · cases h
      · cases h
    · cases h
  · rename_i a b _ _
    split at h
    · rename_i te e hu he
      have key : ∀ r vx vy, V.Den g r (.w (.c a)) vx → V.Den g r (.w (.c b)) vy → ∃ p q, vx = .pointer p ∧ vy = .pointer q ∧ ∀ w, (Op.equal ty (.pointer p) (.pointer q)).run P w = .ok e w := fun r vx vy hx hy => by
        have heq : ∀ (p q : Option Addr), (p.isNone || q.isNone) = true → ∀ w, (Op.equal ty (.pointer p) (.pointer q)).run P w = .ok (p.isNone && q.isNone) w := fun p q hpq w => by
          show (Op.equalIn (9999 + 1) ty (.pointer p) (.pointer q)).run P w = _
          unfold Op.equalIn
          rw [Sem.run_bind, run_underlying' hu]
          cases p <;> cases q <;> simp at hpq ⊢
        cases a with
        | pn =>
          have hx : some (Value.pointer none) = some vx := hx
          cases hx
          cases b with
          | pn =>
            have hy : some (Value.pointer none) = some vy := hy
            cases hy
            cases he
            exact ⟨none, none, rfl, rfl, heq none none rfl⟩
          | p n o =>
            obtain ⟨q, _, rfl⟩ := den_p hy
            cases he
            exact ⟨none, _, rfl, rfl, heq none _ rfl⟩
          | _ => cases he
        | p n o =>
          obtain ⟨q, _, rfl⟩ := den_p hx
          cases b with
          | pn =>
            have hy : some (Value.pointer none) = some vy := hy
            cases hy
            cases he
            exact ⟨_, none, rfl, rfl, heq _ none rfl⟩
          | _ => cases he
        | _ => cases he
      split at h
      · cases h
        refine ⟨hg, Same.refl _, fun r vx vy hx hy => ⟨_, mk_b r _, fun xo yo w => ?_⟩⟩
        obtain ⟨p, q, rfl, rfl, hr⟩ := key r vx vy hx hy
        rw [Sem.run_bind, eqGuard_at_pointer]
        simp only [Sem.run_pure, Result.andThen_ok, binOp, Sem.run_bind, hr]
        rw [val_k, ieq_b2i]
      · cases h
        refine ⟨hg, Same.refl _, fun r vx vy hx hy => ⟨_, mk_b r _, fun xo yo w => ?_⟩⟩
        obtain ⟨p, q, rfl, rfl, hr⟩ := key r vx vy hx hy
        rw [Sem.run_bind, eqGuard_at_pointer]
        simp only [Sem.run_pure, Result.andThen_ok, binOp, Sem.run_bind, hr]
        rw [val_k, ieq_b2i]
      · cases h
    · cases h
  · cases h
theorem mapM_run {α β : Type} {f : α → Sem β} {h : α → β} {w : World} : ∀ (l : List α), (∀ x ∈ l, (f x).run P w = .ok (h x) w) → (l.mapM f).run P w = .ok (l.map h) w
  | [], _ => by simp
  | x :: l, hf => by
    rw [List.mapM_cons, Sem.run_bind, hf x (List.mem_cons_self ..)]
    simp only [Result.andThen_ok]
    rw [Sem.run_bind, mapM_run l (fun y hy => hf y (List.mem_cons_of_mem _ hy))]
    simp
theorem amapM_run {α β : Type} {f : α → Sem β} {h : α → β} {w : World} (a : Array α) (hf : ∀ x ∈ a.toList, (f x).run P w = .ok (h x) w) : (a.mapM f).run P w = .ok ⟨a.toList.map h⟩ w := by
  rw [Array.mapM_eq_mapM_toList, Sem.run_map, mapM_run _ hf]
  simp
theorem run_zero {t : TypeId} {i : TypeInfo} {z : Value} (hi : P.info? t = some i) (hz : i.zero = some z) (w : World) : (zeroValue t).run P w = .ok z w := by
  simp [zeroValue, typeInfo, hi, hz]
theorem build_ok {ty : TypeId} {parts : List (Nat × W)} {l : List C} (h : buildA L ty parts = some l) :
    ∀ r (vs : List (Nat × Value)), PL g r parts vs → ∃ ws, DL g r l ws ∧ ∀ w, (Instr.build ty ⟨vs⟩).run P w = .ok (.agg ⟨ws⟩) w := by
  intro r vs hP
  unfold buildA at h
  split at h
  · cases h
  · rename_i z0 hz0
    obtain ⟨i, z, hi, hz, hzc⟩ := zero_ok (P := P) (g := g) hz0
    obtain ⟨cv, hcv, hD⟩ := hzc r
    split at h
    · rename_i fs hu
      cases ha : fs.toList.all (fun f => (sizeB L f.type).isSome)
      · rw [ha] at h; cases h
      · rw [ha] at h
        simp only [cond_true] at h
        rw [List.all_eq_true] at ha
        have hp : ∀ i p, placeS L fs.toList i = some p → (fs.toList.map (fun f => (f.offset, (sizeB L f.type).getD 0)))[i]? = some p := fun i p hp => by
          unfold placeS at hp
          split at hp
          · rename_i fd hfd
            split at hp
            · rename_i s hs
              cases hp
              rw [List.getElem?_map, lkL_get hfd]
              simp [hs]
            · cases hp
          · cases hp
        obtain ⟨ws, h1, h2⟩ := fill_ok hp h hP hD
        refine ⟨ws, h2, fun w => ?_⟩
        unfold Instr.build
        rw [Sem.run_bind, run_zero hi hz]
        simp only [Result.andThen_ok]
        rw [Sem.run_bind, run_underlying' hu]
        simp only [Result.andThen_ok]
        rw [Sem.run_bind, amapM_run (h := fun f => (f.offset, (sizeB L f.type).getD 0)) fs (fun f hf => by
          have := ha f hf
          obtain ⟨s, hs⟩ := Option.isSome_iff_exists.1 this
          rw [Sem.run_bind, run_sizeOf hs]
          simp [hs])]
        simp only [Result.andThen_ok, hcv]
        have : (fun (x : Nat) => ((⟨fs.toList.map (fun f => (f.offset, (sizeB L f.type).getD 0))⟩ : Array (Nat × Nat)))[x]?) = fun (x : Nat) => (fs.toList.map (fun f => (f.offset, (sizeB L f.type).getD 0)))[x]? := by
          funext x; simp
        rw [this, h1]
        rfl
    · rename_i n e hu
      split at h
      · rename_i s hs
        obtain ⟨ws, h1, h2⟩ := fill_ok (fun _ _ hp => hp) h hP hD
        refine ⟨ws, h2, fun w => ?_⟩
        unfold Instr.build
        rw [Sem.run_bind, run_zero hi hz]
        simp only [Result.andThen_ok]
        rw [Sem.run_bind, run_underlying' hu]
        simp only [Result.andThen_ok]
        rw [Sem.run_bind, run_sizeOf hs]
        simp only [Result.andThen_ok, hcv]
        rw [h1]
        rfl
      · cases h
    · cases h
theorem evL_den {n : Nat} {r : Rho} {t : T} {a : Act} (hT : TRel n g r t a) : ∀ {os : List Operand} {l : List V}, evL t os = some l → VL g r l (os.map a.eval)
  | [], l, h => by simp [evL] at h; subst h; trivial
  | o :: os, l, h => by
    unfold evL at h
    split at h
    · rename_i v hv
      split at h
      · rename_i m hm
        cases h
        exact ⟨ev_den hT hv, evL_den hT hm⟩
      · cases h
    · cases h
theorem ev1_some {t : T} {x : Operand} {f : V → Option (V × St)} {p : V × St} (h : ev1 t x f = some p) : ∃ v, ev t x = some v ∧ f v = some p := by
  unfold ev1 at h
  split at h
  · rename_i v hv; exact ⟨v, hv, h⟩
  · cases h
/-- What a bound comes to. -/
def evB (t : T) : Option Operand → Option V → Prop
  | none, v => v = none
  | some o, v => ∃ u, ev t o = some u ∧ v = some u
theorem evO_some {t : T} {x : Option Operand} {f : Option V → Option (V × St)} {p : V × St} (h : evO t x f = some p) : ∃ v, evB t x v ∧ f v = some p := by
  unfold evO at h
  split at h
  · exact ⟨none, rfl, h⟩
  · split at h
    · rename_i v hv; exact ⟨some v, ⟨v, hv, rfl⟩, h⟩
    · cases h
theorem optDen {n : Nat} {r : Rho} {t : T} {a : Act} (hT : TRel n g r t a) {x : Option Operand} {v : Option V} (h : evB t x v) : OptDen g r v (x.map a.eval) := by
  cases x with
  | none => have h : v = none := h; subst h; trivial
  | some o => obtain ⟨u, hu, rfl⟩ := h; exact ev_den hT hu
theorem stay_some {v : Option V} {st st' : St} {u : V} (h : stay v st = some (u, st')) : v = some u ∧ st' = st := by
  unfold stay at h
  split at h
  · cases h; exact ⟨rfl, rfl⟩
  · cases h
/-- In whatever world: the value. -/
def Yv (P : Program) (a : Act) (op : Op) (u : Value) : Prop := ∀ (o : Oper) w, o.op = op → (execOp a.eval o).run P w = .ok (.value u) w
/-- What is said of the program's names, and of its functions without a text. -/
structure NamesOk (P : Program) (X : FuncId → Nat) : Prop where
  names : ∀ (f : FuncId) (fn : Func), P.funcs[f]? = some fn → (fn.name == "runtime.NumGoroutine") = false
  add : ∀ f, X f = 1 → ∀ (a b c : Nat), c ≤ 1 → ∀ (k1 k2 k3 : IntKind) w, (callFunc f #[.int k1 a, .int k2 b, .int k3 c]).run P w = .ok (.value (.tuple #[.int .u64 (((a + b + c) % 18446744073709551616 : Nat) : Int), .int .u64 (((a + b + c) / 18446744073709551616 : Nat) : Int)])) w
  sub : ∀ f, X f = 2 → ∀ (a b c : Nat), c ≤ 1 → ∀ (k1 k2 k3 : IntKind) w, (callFunc f #[.int k1 a, .int k2 b, .int k3 c]).run P w = .ok (.value (.tuple #[.int .u64 (((a + 18446744073709551616 - b - c) % 18446744073709551616 : Nat) : Int), .int .u64 (((if a < b + c then 1 else 0 : Nat)) : Int)])) w
theorem ext_ok (hN : NamesOk P X) {f : FuncId} {l : List V} {v : V} (h : extA (X f) l = some v) : ∀ r vs, VL g r l vs → ∃ u, v.Den g r u ∧ ∀ w, (callFunc f ⟨vs⟩).run P w = .ok (.value u) w := by
  intro r vs hv
  unfold extA at h
  split at h
  · rename_i a b c
    match vs, hv with
    | [x, y, z], ⟨hx, hy, hz, _⟩ =>
      have i1 := (den_in hx).2
      have i2 := (den_in hy).2
      have i1 : (a : Int) ≤ 18446744073709551615 := i1
      have i2 : (b : Int) ≤ 18446744073709551615 := i2
      obtain rfl := den_i hx
      obtain rfl := den_i hy
      obtain rfl := den_i hz
      simp only [nble, nbeq, nblt, Bool.cond_decide] at h
      split at h
      · rename_i hc
        split at h
        · rename_i hk
          cases h
          exact ⟨_, ⟨[.int .u64 (((a + b + c) % 18446744073709551616 : Nat) : Int), .int .u64 (((a + b + c) / 18446744073709551616 : Nat) : Int)], rfl, (⟨mk_i r (k := .u64) (a := .k (.ofNat ((a + b + c) % 18446744073709551616))) (inK_u64.2 ⟨Int.natCast_nonneg _, by show (((a + b + c) % 18446744073709551616 : Nat) : Int) ≤ _; omega⟩), mk_i r (k := .u64) (a := .k (.ofNat ((a + b + c) / 18446744073709551616))) (inK_u64.2 ⟨Int.natCast_nonneg _, by show (((a + b + c) / 18446744073709551616 : Nat) : Int) ≤ _; omega⟩), trivial⟩ : _ ∧ _ ∧ True)⟩, fun w => hN.add f hk a b c hc .u64 .u64 .u64 w⟩
        · split at h
          · rename_i hk
            cases h
            exact ⟨_, ⟨[.int .u64 (((a + 18446744073709551616 - b - c) % 18446744073709551616 : Nat) : Int), .int .u64 (((if a < b + c then 1 else 0 : Nat)) : Int)], rfl, (⟨mk_i r (k := .u64) (a := .k (.ofNat ((a + 18446744073709551616 - b - c) % 18446744073709551616))) (inK_u64.2 ⟨Int.natCast_nonneg _, by show (((a + 18446744073709551616 - b - c) % 18446744073709551616 : Nat) : Int) ≤ _; omega⟩), mk_i r (k := .u64) (a := .k (.ofNat (if a < b + c then 1 else 0))) (inK_u64.2 ⟨Int.natCast_nonneg _, by show (((if a < b + c then 1 else 0 : Nat)) : Int) ≤ _; split <;> omega⟩), trivial⟩ : _ ∧ _ ∧ True)⟩, fun w => hN.sub f hk a b c hc .u64 .u64 .u64 w⟩
          · cases h
      · cases h
  · cases h
theorem str_ok {ty : TypeId} {s : List UInt8} {i v : V} (h : strA L ty s i = some v) :
    ∀ r vi, i.Den g r vi → ∃ u, v.Den g r u ∧ ∀ w, (Instr.index ty (.string ⟨⟨s⟩⟩) vi).run P w = .ok u w := by
  intro r vi hi
  unfold strA at h
  split at h
  · rename_i k j
    obtain rfl := den_i hi
    split at h
    · rename_i b hu hb
      cases h
      refine ⟨_, mk_i r (k := .u8) (a := .k (.ofNat b.toNat)) ⟨Int.natCast_nonneg _, by show ((b.toNat : Nat) : Int) ≤ 255; have := b.toNat_lt; omega⟩, fun w => ?_⟩
      have hlt : j < s.length := (List.getElem?_eq_some_iff.1 (lkL_get hb)).1
      have hget : (⟨⟨s⟩⟩ : ByteArray)[j]? = some b := by
        have h1 := lkL_get hb
        have h2 : j < (⟨⟨s⟩⟩ : ByteArray).size := hlt
        rw [List.getElem?_eq_getElem hlt] at h1
        exact (getElem?_pos (⟨⟨s⟩⟩ : ByteArray) j h2).trans h1
      unfold Instr.index
      simp only [asIntOf, Sem.run_bind, Sem.run_pure, Result.andThen_ok, run_underlying' hu, A.val]
      have h1 : (0 : Int) ≤ Int.ofNat j := Int.natCast_nonneg j
      have h2 : (Int.ofNat j).toNat = j := rfl
      simp only [h1, if_true, h2, hget]
      rfl
    · cases h
  · cases h
theorem pure_ok (hN : NamesOk P X) {t : T} {op : Op} {st st' : St} {v : V} (h : pureOp L U X t op st = some (v, st')) (hg : Good U g st') :
    Good U g st ∧ Same st st' ∧ ∀ n r a, TRel n g r t a → ∃ u, v.Den g r u ∧ Yv P a op u := by
  unfold pureOp at h
  split at h
  · obtain ⟨x, hx, h⟩ := ev1_some h
    cases h
    exact ⟨hg, Same.refl _, fun n r a hT => ⟨_, ev_den hT hx, fun o w ho => by simp [execOp, ho]⟩⟩
  · obtain ⟨x, hx, h⟩ := ev1_some h
    cases h
    exact ⟨hg, Same.refl _, fun n r a hT => ⟨_, ev_den hT hx, fun o w ho => by simp [execOp, ho]⟩⟩
  · obtain ⟨c, hc, h⟩ := ev1_some h
    obtain ⟨x, hx, h⟩ := ev1_some h
    obtain ⟨y, hy, h⟩ := ev1_some h
    obtain ⟨h1, h2, h3⟩ := pick_ok h hg
    refine ⟨h1, h2, fun n r a hT => ?_⟩
    obtain ⟨q, hq, hd⟩ := h3 r _ _ _ (ev_den hT hc) (ev_den hT hx) (ev_den hT hy)
    exact ⟨_, hd, fun o w ho => by simp [execOp, ho, hq, asBool]⟩
  · rename_i ty parts
    split at h
    · rename_i l hl
      split at h
      · rename_i rr hrr
        cases h
        refine ⟨hg, Same.refl _, fun n r a hT => ?_⟩
        obtain ⟨ws, h1, h2⟩ := build_ok (P := P) hrr r _ (parts_ok hT hl)
        refine ⟨_, ⟨ws, rfl, h1⟩, fun o w ho => ?_⟩
        have : (parts.map fun (i, x) => (i, a.eval x)) = ⟨parts.toList.map fun (i, x) => (i, a.eval x)⟩ := by
          apply Array.ext'; simp
        simp only [execOp, ho, this, Sem.run_bind, h2, Result.andThen_ok, Sem.run_pure]
      · cases h
    · cases h
  · rename_i op ty x y yt
    obtain ⟨vx, hx, h⟩ := ev1_some h
    obtain ⟨vy, hy, h⟩ := ev1_some h
    obtain ⟨h1, h2, h3⟩ := binOpA_ok (P := P) h hg
    refine ⟨h1, h2, fun n r a hT => ?_⟩
    obtain ⟨u, hu, hr⟩ := h3 r _ _ (ev_den hT hx) (ev_den hT hy)
    exact ⟨u, hu, fun o w ho => by simp only [execOp, ho]; rw [Sem.run_bind, hr]; rfl⟩
  · obtain ⟨vx, hx, h⟩ := ev1_some h
    obtain ⟨h1, h2, h3⟩ := un_ok (P := P) h hg
    refine ⟨h1, h2, fun n r a hT => ?_⟩
    obtain ⟨u, hu, hr⟩ := h3 r _ (ev_den hT hx)
    exact ⟨u, hu, fun o w ho => by simp only [execOp, ho]; rw [Sem.run_bind, hr]; rfl⟩
  · obtain ⟨vx, hx, h⟩ := ev1_some h
    obtain ⟨h1, h2, h3⟩ := conv_ok (P := P) h hg
    refine ⟨h1, h2, fun n r a hT => ?_⟩
    obtain ⟨u, hu, hr⟩ := h3 r _ (ev_den hT hx)
    exact ⟨u, hu, fun o w ho => by simp only [execOp, ho]; rw [Sem.run_bind, hr]; rfl⟩
  · obtain ⟨vx, hx, h⟩ := ev1_some h
    obtain ⟨hst, rfl⟩ := stay_some h
    obtain ⟨rfl, h3⟩ := nil_ok (g := g) hst
    refine ⟨hg, Same.refl _, fun n r a hT => ?_⟩
    obtain ⟨q, hq⟩ := h3 r _ (ev_den hT hx)
    exact ⟨_, ev_den hT hx, fun o w ho => by simp [execOp, ho, hq]⟩
  · obtain ⟨vx, hx, h⟩ := ev1_some h
    obtain ⟨hst, rfl⟩ := stay_some h
    refine ⟨hg, Same.refl _, fun n r a hT => ?_⟩
    obtain ⟨u, hu, hr⟩ := fieldAddr_ok (P := P) hst r _ (ev_den hT hx)
    exact ⟨u, hu, fun o w ho => by simp only [execOp, ho]; rw [Sem.run_bind, hr]; rfl⟩
  · obtain ⟨vx, hx, h⟩ := ev1_some h
    obtain ⟨hst, rfl⟩ := stay_some h
    refine ⟨hg, Same.refl _, fun n r a hT => ?_⟩
    obtain ⟨u, hu, hr⟩ := field_ok (P := P) hst r _ (ev_den hT hx)
    exact ⟨u, hu, fun o w ho => by simp only [execOp, ho]; rw [Sem.run_bind, hr]; rfl⟩
  · obtain ⟨vx, hx, h⟩ := ev1_some h
    obtain ⟨vy, hy, h⟩ := ev1_some h
    obtain ⟨hst, rfl⟩ := stay_some h
    refine ⟨hg, Same.refl _, fun n r a hT => ?_⟩
    obtain ⟨u, hu, hr⟩ := indexAddr_ok (P := P) hst r _ _ (ev_den hT hx) (clV_den hg (ev_den hT hy))
    exact ⟨u, hu, fun o w ho => by simp only [execOp, ho]; rw [Sem.run_bind, hr]; rfl⟩
  · obtain ⟨vy, hy, h⟩ := ev1_some h
    obtain ⟨hst, rfl⟩ := stay_some h
    refine ⟨hg, Same.refl _, fun n r a hT => ?_⟩
    obtain ⟨u, hu, hr⟩ := str_ok (P := P) hst r _ (ev_den hT hy)
    exact ⟨u, hu, fun o w ho => by simp only [execOp, ho]; rw [Sem.run_bind]; show Result.andThen ((Instr.index _ (.string _) _).run P w) _ = _; rw [hr]; rfl⟩
  · obtain ⟨vx, hx, h⟩ := ev1_some h
    obtain ⟨vy, hy, h⟩ := ev1_some h
    obtain ⟨hst, rfl⟩ := stay_some h
    refine ⟨hg, Same.refl _, fun n r a hT => ?_⟩
    obtain ⟨u, hu, hr⟩ := index_ok (P := P) hst r _ _ (ev_den hT hx) (clV_den hg (ev_den hT hy))
    exact ⟨u, hu, fun o w ho => by simp only [execOp, ho]; rw [Sem.run_bind, hr]; rfl⟩
  · obtain ⟨vx, hx, h⟩ := ev1_some h
    obtain ⟨hst, rfl⟩ := stay_some h
    refine ⟨hg, Same.refl _, fun n r a hT => ?_⟩
    obtain ⟨u, hu, hr⟩ := extract_ok (P := P) hst r _ (ev_den hT hx)
    exact ⟨u, hu, fun o w ho => by simp only [execOp, ho]; rw [Sem.run_bind, hr]; rfl⟩
  · obtain ⟨vx, hx, h⟩ := ev1_some h
    obtain ⟨vl, hl, h⟩ := evO_some h
    obtain ⟨vh, hh, h⟩ := evO_some h
    obtain ⟨hst, rfl⟩ := stay_some h
    refine ⟨hg, Same.refl _, fun n r a hT => ?_⟩
    obtain ⟨u, hu, hr⟩ := slice_ok (P := P) hst r _ _ _ (ev_den hT hx) (optDen hT hl) (optDen hT hh)
    exact ⟨u, hu, fun o w ho => by simp only [execOp, ho, Option.map_none]; rw [Sem.run_bind, hr]; rfl⟩
  · obtain ⟨vx, hx, h⟩ := ev1_some h
    obtain ⟨hst, rfl⟩ := stay_some h
    refine ⟨hg, Same.refl _, fun n r a hT => ?_⟩
    obtain ⟨u, hu, hr⟩ := arrAt_ok (P := P) hst r _ (ev_den hT hx)
    exact ⟨u, hu, fun o w ho => by simp only [execOp, ho]; rw [Sem.run_bind, hr]; rfl⟩
  · rename_i bb args tys
    split at h
    · rename_i l hl
      unfold builtinA at h
      have hmap : ∀ a : Act, args.map a.eval = ⟨args.toList.map a.eval⟩ := fun a => by apply Array.ext'; simp
      split at h
      · split at h
        · rename_i ty x hty
          obtain ⟨hst, rfl⟩ := stay_some h
          refine ⟨hg, Same.refl _, fun n r a hT => ?_⟩
          have hv := evL_den hT hl
          match hvs : args.toList.map a.eval, hv with
          | [vx], ⟨hx, _⟩ =>
            obtain ⟨u, hu, hr⟩ := len_ok (P := P) hst 0 r _ hx
            refine ⟨u, hu, fun o w ho => ?_⟩
            have ht : tys = #[ty] := by apply Array.ext'; assumption
            obtain ⟨u, hu', hr⟩ := len_ok (P := P) hst o.type r _ hx
            obtain rfl := hu.unique hu'
            simp only [execOp, ho, resolve, hmap, hvs, ht, Sem.run_bind, Sem.run_pure, Result.andThen_ok, invoke, builtin, hr]
        · cases h
      · obtain ⟨h1, h2, h3⟩ := min_ok (P := P) h hg tys 0
        refine ⟨h1, h2, fun n r a hT => ?_⟩
        obtain ⟨u, hu, hr⟩ := h3 r _ (evL_den hT hl)
        refine ⟨u, hu, fun o w ho => ?_⟩
        obtain ⟨_, _, h3⟩ := min_ok (P := P) h hg tys o.type
        obtain ⟨u, hu', hr⟩ := h3 r _ (evL_den hT hl)
        obtain rfl := hu.unique hu'
        simp only [cond_true] at hr
        simp only [execOp, ho, resolve, hmap, Sem.run_bind, Sem.run_pure, Result.andThen_ok, invoke, builtin, hr]
      · obtain ⟨h1, h2, h3⟩ := min_ok (P := P) h hg tys 0
        refine ⟨h1, h2, fun n r a hT => ?_⟩
        obtain ⟨u, hu, hr⟩ := h3 r _ (evL_den hT hl)
        refine ⟨u, hu, fun o w ho => ?_⟩
        obtain ⟨_, _, h3⟩ := min_ok (P := P) h hg tys o.type
        obtain ⟨u, hu', hr⟩ := h3 r _ (evL_den hT hl)
        obtain rfl := hu.unique hu'
        simp only [cond_false] at hr
        simp only [execOp, ho, resolve, hmap, Sem.run_bind, Sem.run_pure, Result.andThen_ok, invoke, builtin, hr]
      · cases h
    · cases h
  · rename_i f args tys
    cases hx : Nat.beq (X f) 0
    · rw [hx] at h
      simp only [cond_false] at h
      split at h
      · rename_i l hl
        obtain ⟨hst, rfl⟩ := stay_some h
        refine ⟨hg, Same.refl _, fun n r a hT => ?_⟩
        obtain ⟨u, hu, hr⟩ := ext_ok hN hst r _ (evL_den hT hl)
        refine ⟨u, hu, fun o w ho => ?_⟩
        have hmap : args.map a.eval = ⟨args.toList.map a.eval⟩ := by apply Array.ext'; simp
        have hev : a.eval (.func f) = .func (.func f) #[] #[] := rfl
        simp only [execOp, ho, resolve, hev, Deferred.ofValue, Sem.run_bind, Sem.run_pure, Result.andThen_ok, invoke, hmap]
        simpa using hr w
      · cases h
    · rw [hx] at h; cases h
  · cases h
end
end Go.Proofs.Ytdleeeahonfnkaa.SX
