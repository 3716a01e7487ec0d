/- Facts told ahead about names that a run gives: each is told by what the names stand for. -/
import Derived.Test.YtdleeeahonfnkaaSxI2
namespace Go.Proofs.Ytdleeeahonfnkaa.SX
open Go Go.RowKit
noncomputable section
/-- It ends in rv where the facts hold; ds: some of what has been named. -/
def lawH (ars : List Ar) (facts : List (Bool × A × A × Bool)) (ds : Defs) (rv : A) (r : Option (V × St)) : Bool := match r with
  | some (.w (.c (.b a)), st) => A.beq a rv && (!st.bad && st.cs.isEmpty && (decide (st.ci = facts) && (isE st.rg || rgAll st id st.rg))) && (wfD (arSize ars) st.nv (defL st st.nv) && (preOk st ds && (start ars).2.ci.isEmpty))
  | _ => false
theorem pre_eqs {g : Sg} {st : St} (hd : DefsOk U g st) : ∀ {ds : Defs}, preOk st ds = true → EqsP g ds
  | [], _ => trivial
  | (n, p, xa) :: r, h => by
    unfold preOk at h
    rw [Bool.and_eq_true] at h
    obtain ⟨h4, h5⟩ := h
    refine ⟨?_, pre_eqs hd h5⟩
    split at h4
    · rename_i q ys hq
      cases hb : A.beqL xa ys
      · rw [hb] at h4; cases h4
      · rw [hb, cond_true, decide_eq_true_eq] at h4
        rw [beqL_eq hb, h4]
        exact hd n q ys hq
    · cases h4
theorem law_trueH {P : Program} {L : Lk} [LkOk P L] {X : FuncId → Nat} (hN : NamesOk P X) (hmix : P.follows .mixedOrders = true) {f : FuncId} {sum : Sum} (hs : ∀ g, CallOk P U g sum) {mc : FuncId → Bool} {ml : FuncId → Nat} {K d : Nat} {ars : List Ar} {facts : List (Bool × A × A × Bool)} {ds : Defs} {rv : A}
    (h : lawH ars facts ds rv (runPol L U X sum mc ml K d f (startF ars facts).1 (startF ars facts).2) = true) (g0 : Sg) (hF : ∀ g : Sg, (∀ j, j < arSize ars → g j = g0 j) → EqsP g ds → FactsOk g facts ∧ ieq (rv.val g) 1 = true) (vs : List Value) (w : World) (hv : fitVs g0 w 0 ars vs) :
    Calls P f ⟨vs⟩ w fun e w' => e = .returned (.bool true) ∧ Below w.heap.size w w' := by
  unfold lawH at h
  split at h
  · rename_i a st' he
    simp only [Bool.and_eq_true] at h
    obtain ⟨⟨h1, ⟨h2, h3⟩, h4, h6⟩, h5, h7, h8⟩ := h
    obtain rfl := A.beq_eq h1
    have h3 : st'.cs = [] := by simpa using h3
    rw [decide_eq_true_eq] at h4
    obtain ⟨k1, k2⟩ := solve_ok U g0 h5
    generalize hg' : solve U (defL st' st'.nv) g0 = g at *
    have hd : DefsOk U g st' := fun n p xa hn => k1 _ (defL_mem hn (getD_lt hn).1)
    have hH := hF g (fun j hj => k2 j hj) (pre_eqs hd h7)
    have hci : ∀ c ∈ st'.ci, ciOk g c := fun c hc => by
      rw [h4] at hc
      exact facts_all hH.1 c hc
    have hrg : ∀ n lo hi, st'.rg.get n = some (lo, hi) → lo ≤ g n ∧ g n ≤ hi := by
      rw [Bool.or_eq_true] at h6
      rcases h6 with h6 | h6
      · rw [isE_eq h6]; exact fun n lo hi h => (by simp [PT.get_e] at h)
      · exact rgCheck_ok hd hci h6
    have hg : Good U g st' := ⟨hd, fun c hc => (by rw [h3] at hc; cases hc), hci, hrg, by simpa using h2⟩
    obtain ⟨hg1, k⟩ := runPol_ok hN hmix hs mc ml K d g f _ _ _ st' he hg
    generalize hin : inVs 0 0 ars { st0 with nv := arSize ars } = y at *
    obtain ⟨xs, hh, stt⟩ := y
    have hst1 : start ars = (xs, { stt with heap := hh, next := ars.length }) := by unfold start; rw [hin]
    unfold startF at k hg1
    rw [hst1] at k hg1 h8
    have hci0 : stt.ci = [] := by simpa using h8
    have hg2 : Good U g stt := ⟨hg1.defs, hg1.cs, (fun c hc => by rw [hci0] at hc; cases hc), hg1.rg, hg1.ok⟩
    obtain ⟨_, hsame, hval⟩ := inVs_ok (w := w) hin hg2
    obtain ⟨hl1, hl2, hl3⟩ := hval vs (fitVs_congr (fun j hj => (k2 j hj).symm) (by omega) hv)
    obtain ⟨hl3, hl4⟩ := hl3 (rhoOf vs) (rhoOf_agr vs)
    have hI : Inv g (rhoOf vs) { stt with heap := hh, next := ars.length } w := by
      refine ⟨HoldsA.weak hl4, fun _ _ _ _ _ h => (by cases h), fun n b h => ?_, fun n b h => ?_, fun n h => ?_, fun _ _ _ => rfl, fun _ h => (by cases h)⟩
      · obtain ⟨a, l, c, e1, e2, e3⟩ := rhoOf_some h
        have := (List.getElem?_eq_some_iff.1 e1).1
        refine ⟨by show n < ars.length; omega, ?_⟩
        show n ∉ stt.resv
        rw [hsame.resv]; simp [st0]
      · obtain ⟨a, l, c, e1, e2, e3⟩ := rhoOf_some h
        rw [← e3]
        exact hl2 n a l c e1 e2
      · have h : n ∈ stt.resv := h
        rw [hsame.resv] at h; simp [st0] at h
    refine (k (rhoOf vs) w vs (hI.same ⟨rfl, rfl, rfl⟩) hl3).mono fun e w' hp => ?_
    obtain ⟨r', u, rfl, hd, _, hE⟩ := hp
    refine ⟨?_, ⟨hE.os, hE.tape, hE.output, hE.size, fun b hb => hE.frame b hb (fun _ _ => rfl)⟩⟩
    rw [den_b hd]
    show Ending.returned (.bool (ieq (a.val g) 1)) = _
    rw [hH.2]
  · cases h
theorem law_fitH {P : Program} {L : Lk} [LkOk P L] {X : FuncId → Nat} (hN : NamesOk P X) (hmix : P.follows .mixedOrders = true) {f : FuncId} {sum : Sum} (hs : ∀ g, CallOk P U g sum) {mc : FuncId → Bool} {ml : FuncId → Nat} {K d : Nat} {ars : List Ar} {facts : List (Bool × A × A × Bool)} {ds : Defs} {rv : A}
    (h : lawH ars facts ds rv (runPol L U X sum mc ml K d f (startF ars facts).1 (startF ars facts).2) = true) {vs all : List Value} {w : World} (hF : ∀ g : Sg, (∀ j, j < arSize ars → g j = sgOf all j) → EqsP g ds → FactsOk g facts ∧ ieq (rv.val g) 1 = true) (hv : FitAs w ars vs all) :
    Calls P f ⟨vs⟩ w fun e w' => e = .returned (.bool true) ∧ Below w.heap.size w w' :=
  law_trueH hN hmix hs h (sgOf all) hF vs w (fit_all hv)
/-- The same, where conditions are asked too: their answers are told by what the names stand for. -/
def lawQ (ars : List Ar) (facts : List (Bool × A × A × Bool)) (cs : List (Nat × Bool)) (ds : Defs) (rv : A) (r : Option (V × St)) : Bool := match r with
  | some (.w (.c (.b a)), st) => A.beq a rv && (!st.bad && decide (st.cs = cs) && (decide (st.ci = ciL st cs ++ facts) && (isE st.rg || rgAll st id st.rg))) && (wfD (arSize ars) st.nv (defL st st.nv) && (preOk st ds && ((start ars).2.ci.isEmpty && (start ars).2.cs.isEmpty)))
  | _ => false
def CsOk (g : Sg) : List (Nat × Bool) → Prop
  | [] => True
  | c :: r => ieq (g c.1) 1 = c.2 ∧ CsOk g r
theorem cs_all {g : Sg} : ∀ {l : List (Nat × Bool)}, CsOk g l → ∀ c ∈ l, ieq (g c.1) 1 = c.2
  | [], _, c, hc => by cases hc
  | d :: l, ⟨h1, h2⟩, c, hc => by
    rcases List.mem_cons.1 hc with rfl | hc
    · exact h1
    · exact cs_all h2 c hc
theorem law_trueQ {P : Program} {L : Lk} [LkOk P L] {X : FuncId → Nat} (hN : NamesOk P X) (hmix : P.follows .mixedOrders = true) {f : FuncId} {sum : Sum} (hs : ∀ g, CallOk P U g sum) {mc : FuncId → Bool} {ml : FuncId → Nat} {K d : Nat} {ars : List Ar} {facts : List (Bool × A × A × Bool)} {ds : Defs} {rv : A} {cs : List (Nat × Bool)} {o : List Bool}
    (h : lawQ ars facts cs ds rv (runPol L U X sum mc ml K d f (startF ars facts).1 { (startF ars facts).2 with orc := o }) = true) (g0 : Sg) (hF : ∀ g : Sg, (∀ j, j < arSize ars → g j = g0 j) → EqsP g ds → FactsOk g facts ∧ CsOk g cs ∧ ieq (rv.val g) 1 = true) (vs : List Value) (w : World) (hv : fitVs g0 w 0 ars vs) :
    Calls P f ⟨vs⟩ w fun e w' => e = .returned (.bool true) ∧ Below w.heap.size w w' := by
  unfold lawQ at h
  split at h
  · rename_i a st' he
    simp only [Bool.and_eq_true] at h
    obtain ⟨⟨h1, ⟨h2, h3⟩, h4, h6⟩, h5, h7, h8, h9⟩ := h
    obtain rfl := A.beq_eq h1
    rw [decide_eq_true_eq] at h3
    rw [decide_eq_true_eq] at h4
    obtain ⟨k1, k2⟩ := solve_ok U g0 h5
    generalize hg' : solve U (defL st' st'.nv) g0 = g at *
    have hd : DefsOk U g st' := fun n p xa hn => k1 _ (defL_mem hn (getD_lt hn).1)
    have hH := hF g (fun j hj => k2 j hj) (pre_eqs hd h7)
    have hci : ∀ c ∈ st'.ci, ciOk g c := fun c hc => by
      rw [h4] at hc
      rcases List.mem_append.1 hc with hc | hc
      · exact ciL_all hd (cs_all hH.2.1) c hc
      · exact facts_all hH.1 c hc
    have hrg : ∀ n lo hi, st'.rg.get n = some (lo, hi) → lo ≤ g n ∧ g n ≤ hi := by
      rw [Bool.or_eq_true] at h6
      rcases h6 with h6 | h6
      · rw [isE_eq h6]; exact fun n lo hi h => (by simp [PT.get_e] at h)
      · exact rgCheck_ok hd hci h6
    have hg : Good U g st' := ⟨hd, fun c hc => (by rw [h3] at hc; exact cs_all hH.2.1 c hc), hci, hrg, by simpa using h2⟩
    obtain ⟨hg1, k⟩ := runPol_ok hN hmix hs mc ml K d g f _ _ _ st' he hg
    generalize hin : inVs 0 0 ars { st0 with nv := arSize ars } = y at *
    obtain ⟨xs, hh, stt⟩ := y
    have hst1 : start ars = (xs, { stt with heap := hh, next := ars.length }) := by unfold start; rw [hin]
    unfold startF at k hg1
    rw [hst1] at k hg1 h8 h9
    have hci0 : stt.ci = [] := by simpa using h8
    have hcs0 : stt.cs = [] := by simpa using h9
    have hg2 : Good U g stt := ⟨hg1.defs, (fun c hc => by rw [hcs0] at hc; cases hc), (fun c hc => by rw [hci0] at hc; cases hc), hg1.rg, hg1.ok⟩
    obtain ⟨_, hsame, hval⟩ := inVs_ok (w := w) hin hg2
    obtain ⟨hl1, hl2, hl3⟩ := hval vs (fitVs_congr (fun j hj => (k2 j hj).symm) (by omega) hv)
    obtain ⟨hl3, hl4⟩ := hl3 (rhoOf vs) (rhoOf_agr vs)
    have hI : Inv g (rhoOf vs) { stt with heap := hh, next := ars.length } w := by
      refine ⟨HoldsA.weak hl4, fun _ _ _ _ _ h => (by cases h), fun n b h => ?_, fun n b h => ?_, fun n h => ?_, fun _ _ _ => rfl, fun _ h => (by cases h)⟩
      · obtain ⟨a, l, c, e1, e2, e3⟩ := rhoOf_some h
        have := (List.getElem?_eq_some_iff.1 e1).1
        refine ⟨by show n < ars.length; omega, ?_⟩
        show n ∉ stt.resv
        rw [hsame.resv]; simp [st0]
      · obtain ⟨a, l, c, e1, e2, e3⟩ := rhoOf_some h
        rw [← e3]
        exact hl2 n a l c e1 e2
      · have h : n ∈ stt.resv := h
        rw [hsame.resv] at h; simp [st0] at h
    refine (k (rhoOf vs) w vs (hI.same ⟨rfl, rfl, rfl⟩) hl3).mono fun e w' hp => ?_
    obtain ⟨r', u, rfl, hd, _, hE⟩ := hp
    refine ⟨?_, ⟨hE.os, hE.tape, hE.output, hE.size, fun b hb => hE.frame b hb (fun _ _ => rfl)⟩⟩
    rw [den_b hd]
    show Ending.returned (.bool (ieq (a.val g) 1)) = _
    rw [hH.2.2]
  · cases h
theorem law_fitQ {P : Program} {L : Lk} [LkOk P L] {X : FuncId → Nat} (hN : NamesOk P X) (hmix : P.follows .mixedOrders = true) {f : FuncId} {sum : Sum} (hs : ∀ g, CallOk P U g sum) {mc : FuncId → Bool} {ml : FuncId → Nat} {K d : Nat} {ars : List Ar} {facts : List (Bool × A × A × Bool)} {ds : Defs} {rv : A} {cs : List (Nat × Bool)} {o : List Bool}
    (h : lawQ ars facts cs ds rv (runPol L U X sum mc ml K d f (startF ars facts).1 { (startF ars facts).2 with orc := o }) = true) {vs all : List Value} {w : World} (hF : ∀ g : Sg, (∀ j, j < arSize ars → g j = sgOf all j) → EqsP g ds → FactsOk g facts ∧ CsOk g cs ∧ ieq (rv.val g) 1 = true) (hv : FitAs w ars vs all) :
    Calls P f ⟨vs⟩ w fun e w' => e = .returned (.bool true) ∧ Below w.heap.size w w' :=
  law_trueQ hN hmix hs h (sgOf all) hF vs w (fit_all hv)
end
end Go.Proofs.Ytdleeeahonfnkaa.SX
