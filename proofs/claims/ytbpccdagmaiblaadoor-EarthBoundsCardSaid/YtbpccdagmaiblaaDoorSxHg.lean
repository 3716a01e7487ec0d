/- Laws that read a package-level variable, a table of whole numbers: it lies in the name 0, the arguments behind it. -/
import Derived.Test.YtbpccdagmaiblaaDoorSxHa
namespace Go.Proofs.YtbpccdagmaiblaaDoor.SX
open Go Go.RowKit
noncomputable section
/-- The start. -/
def startG (tb : List Int) (ars : List Ar) (facts : List (Bool × A × A × Bool)) : List V × St := match inVs 1 0 ars { st0 with nv := arSize ars } with
  | (xs, h, st) => (xs, { st with heap := hset h 0 ⟨tb.map (fun z => C.i .i64 (.k z)), 0, .vw⟩, next := ars.length + 1, ci := facts })
/-- The names. -/
def rhoG (vs : List Value) : Rho :=
  ⟨fun n => match n with
    | 0 => some globG
    | n + 1 => match vs[n]? with
      | some (.slice (some a) (_ + 1) _) => some a.block
      | _ => none,
   fun n => match n with
    | 0 => 0
    | n + 1 => match vs[n]? with
      | some (.slice (some _) _ c) => c
      | _ => 0,
   fun n => match n with
    | 0 => 0
    | n + 1 => match vs[n]? with
      | some (.slice (some a) _ _) => a.off
      | _ => 0,
   fun _ => true,
   fun n => match n with
    | 0 => default
    | n + 1 => match vs[n]? with
      | some (.slice (some a) _ c) => (a, c)
      | _ => default,
   fun _ => false, ⟨rfl, rfl⟩⟩
theorem rhoG_agr (vs : List Value) : Agr (rhoG vs) 1 vs := fun j a l c hj => by
  have e : 1 + j = j + 1 := by omega
  rw [e]
  cases l with
  | zero => simp [rhoG, hj]
  | succ l => simp [rhoG, hj]
theorem rhoG_some {vs : List Value} {n b : Nat} (h : rhoG vs n = some b) : (n = 0 ∧ b = globG) ∨ ∃ j a l c, n = j + 1 ∧ vs[j]? = some (.slice (some a) l c) ∧ l ≠ 0 ∧ a.block = b := by
  cases n with
  | zero =>
    have h : some globG = some b := h
    cases h
    exact .inl ⟨rfl, rfl⟩
  | succ n =>
    refine .inr ?_
    simp only [rhoG] at h
    split at h
    · rename_i a l c hv; cases h; exact ⟨n, a, l + 1, c, rfl, hv, by omega, rfl⟩
    · cases h
/-- It ends in rv where the facts hold; ds: some of what has been named. -/
def lawG (tb : List Int) (ars : List Ar) (facts : List (Bool × A × A × Bool)) (ds : Defs) (rv : A) (r : Option (V × St)) : Bool := match r with
  | some (.w (.c (.b a)), st) => A.beq a rv && (!st.bad && st.cs.isEmpty && (decide (st.ci = facts) && (isE st.rg || rgAll st id st.rg))) && (wfD (arSize ars) st.nv (defL st st.nv) && (preOk st ds && ((inVs 1 0 ars { st0 with nv := arSize ars }).2.2.ci.isEmpty && tb.all (fun z => decide (-9223372036854775808 ≤ z) && decide (z ≤ 9223372036854775807)))))
  | _ => false
theorem tb_den {g : Sg} {r : Rho} : ∀ {tb : List Int}, (∀ z ∈ tb, -9223372036854775808 ≤ z ∧ z ≤ 9223372036854775807) → DL g r (tb.map fun z => C.i .i64 (.k z)) (tb.map fun z => Value.int .i64 z)
  | [], _ => rfl
  | z :: tb, h => by
    refine DL.cons ?_ (tb_den fun y hy => h y (List.mem_cons_of_mem _ hy))
    have hz : inK .i64 ((A.k z).val g) := h z (List.mem_cons_self ..)
    simp only [C.den]
    rw [if_pos hz]
    rfl
theorem law_trueG {P : Program} {L : Lk} [LkOk P L] {X : FuncId → Nat} (hN : NamesOk P X) (hmix : P.follows .mixedOrders = true) {f : FuncId} {sum : Sum} (hs : ∀ g, CallOk P U g sum) {mc : FuncId → Bool} {ml : FuncId → Nat} {K d : Nat} {tb : List Int} {ars : List Ar} {facts : List (Bool × A × A × Bool)} {ds : Defs} {rv : A}
    (h : lawG tb ars facts ds rv (runPol L U X sum mc ml K d f (startG tb ars facts).1 (startG tb ars facts).2) = true) (g0 : Sg) (hF : ∀ g : Sg, (∀ j, j < arSize ars → g j = g0 j) → EqsP g ds → FactsOk g facts ∧ ieq (rv.val g) 1 = true) (vs : List Value) (w : World) (hv : fitVs g0 w 0 ars vs)
    (hG : globG < w.heap.size) (hT : ∀ i z, tb[i]? = some z → w.cell? ⟨globG, i, none⟩ = some (.int .i64 z)) :
    Calls P f ⟨vs⟩ w fun e w' => e = .returned (.bool true) ∧ Below w.heap.size w w' := by
  unfold lawG at h
  split at h
  · rename_i a st' he
    simp only [Bool.and_eq_true] at h
    obtain ⟨⟨h1, ⟨h2, h3⟩, h4, h6⟩, h5, h7, h8, h9⟩ := h
    obtain rfl := A.beq_eq h1
    have h3 : st'.cs = [] := by simpa using h3
    rw [decide_eq_true_eq] at h4
    obtain ⟨k1, k2⟩ := solve_ok U g0 h5
    generalize hg' : solve U (defL st' st'.nv) g0 = g at *
    have hd : DefsOk U g st' := fun n p xa hn => k1 _ (defL_mem hn (getD_lt hn).1)
    have hH := hF g (fun j hj => k2 j hj) (pre_eqs hd h7)
    have hci : ∀ c ∈ st'.ci, ciOk g c := fun c hc => by
      rw [h4] at hc
      exact facts_all hH.1 c hc
    have hrg : ∀ n lo hi, st'.rg.get n = some (lo, hi) → lo ≤ g n ∧ g n ≤ hi := by
      rw [Bool.or_eq_true] at h6
      rcases h6 with h6 | h6
      · rw [isE_eq h6]; exact fun n lo hi h => (by simp [PT.get_e] at h)
      · exact rgCheck_ok hd hci h6
    have hg : Good U g st' := ⟨hd, fun c hc => (by rw [h3] at hc; cases hc), hci, hrg, by simpa using h2⟩
    obtain ⟨hg1, k⟩ := runPol_ok hN hmix hs mc ml K d g f _ _ _ st' he hg
    have htb : ∀ z ∈ tb, -9223372036854775808 ≤ z ∧ z ≤ 9223372036854775807 := fun z hz => by
      have := List.all_eq_true.1 h9 z hz
      rw [Bool.and_eq_true, decide_eq_true_eq, decide_eq_true_eq] at this
      exact this
    generalize hin : inVs 1 0 ars { st0 with nv := arSize ars } = y at *
    obtain ⟨xs, hh, stt⟩ := y
    have hst1 : startG tb ars facts = (xs, { stt with heap := hset hh 0 ⟨tb.map (fun z => C.i .i64 (.k z)), 0, .vw⟩, next := ars.length + 1, ci := facts }) := by unfold startG; rw [hin]
    rw [hst1] at k hg1
    have hci0 : stt.ci = [] := by simpa using h8
    have hg2 : Good U g stt := ⟨hg1.defs, hg1.cs, (fun c hc => by rw [hci0] at hc; cases hc), hg1.rg, hg1.ok⟩
    obtain ⟨_, hsame, hval⟩ := inVs_ok (w := w) hin hg2
    obtain ⟨hl1, hl2, hl3⟩ := hval vs (fitVs_congr (fun j hj => (k2 j hj).symm) (by omega) hv)
    obtain ⟨hl3, hl4⟩ := hl3 (rhoG vs) (rhoG_agr vs)
    have hI : Inv g (rhoG vs) { stt with heap := hset hh 0 ⟨tb.map (fun z => C.i .i64 (.k z)), 0, .vw⟩, next := ars.length + 1, ci := facts } w := by
      refine ⟨HoldsA.weak fun n bk hn => ?_, fun _ _ _ _ _ h => (by cases h), fun n b h => ?_, fun n b h => ?_, fun n h => ?_, fun _ _ _ => rfl, fun _ h => (by cases h)⟩
      · have hn2 : hget (hset hh 0 ⟨tb.map (fun z => C.i .i64 (.k z)), 0, .vw⟩) n = some bk := hn
        clear hn
        rw [hget_hset] at hn2
        split at hn2
        · rename_i e
          subst e
          cases hn2
          refine ⟨globG, rfl, .inl ⟨rfl, rfl, tb.map (fun z => Value.int .i64 z), tb_den htb, fun i v hi => ?_⟩⟩
          rw [List.getElem?_map] at hi
          cases hz : tb[i]? with
          | none => rw [hz] at hi; cases hi
          | some z =>
            rw [hz] at hi
            cases hi
            have e : (rhoG vs).f 0 + i = i := by show 0 + i = i; omega
            rw [e]
            exact hT i z hz
        · exact hl4 n bk hn2
      · have hres : stt.resv = [] := hsame.resv
        have hnr : n ∉ stt.resv := by rw [hres]; simp
        refine ⟨?_, hnr⟩
        show n < ars.length + 1
        rcases rhoG_some h with ⟨e, _⟩ | ⟨j, a, l, c, e0, e1, _, _⟩
        · omega
        · have := (List.getElem?_eq_some_iff.1 e1).1
          omega
      · rcases rhoG_some h with ⟨_, e⟩ | ⟨j, a, l, c, e0, e1, e2, e3⟩
        · rw [e]; exact hG
        · rw [← e3]; exact hl2 j a l c e1 e2
      · have h : n ∈ stt.resv := h
        rw [show stt.resv = [] from hsame.resv] at h; simp at h
    refine (k (rhoG vs) w vs hI hl3).mono fun e w' hp => ?_
    obtain ⟨r', u, rfl, hd, _, hE⟩ := hp
    refine ⟨?_, ⟨hE.os, hE.tape, hE.output, hE.size, fun b hb => hE.frame b hb (fun _ _ => rfl)⟩⟩
    rw [den_b hd]
    show Ending.returned (.bool (ieq (a.val g) 1)) = _
    rw [hH.2]
  · cases h
theorem law_fitG {P : Program} {L : Lk} [LkOk P L] {X : FuncId → Nat} (hN : NamesOk P X) (hmix : P.follows .mixedOrders = true) {f : FuncId} {sum : Sum} (hs : ∀ g, CallOk P U g sum) {mc : FuncId → Bool} {ml : FuncId → Nat} {K d : Nat} {tb : List Int} {ars : List Ar} {facts : List (Bool × A × A × Bool)} {ds : Defs} {rv : A}
    (h : lawG tb ars facts ds rv (runPol L U X sum mc ml K d f (startG tb ars facts).1 (startG tb ars facts).2) = true) {vs all : List Value} {w : World} (hF : ∀ g : Sg, (∀ j, j < arSize ars → g j = sgOf all j) → EqsP g ds → FactsOk g facts ∧ ieq (rv.val g) 1 = true) (hv : FitAs w ars vs all)
    (hG : globG < w.heap.size) (hT : ∀ i z, tb[i]? = some z → w.cell? ⟨globG, i, none⟩ = some (.int .i64 z)) :
    Calls P f ⟨vs⟩ w fun e w' => e = .returned (.bool true) ∧ Below w.heap.size w w' :=
  law_trueG hN hmix hs h (sgOf all) hF vs w (fit_all hv) hG hT
end
end Go.Proofs.YtbpccdagmaiblaaDoor.SX
