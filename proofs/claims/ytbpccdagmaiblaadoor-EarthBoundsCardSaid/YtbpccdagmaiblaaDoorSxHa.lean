/- Facts told ahead about names that a run gives: each is told by what the names stand for. -/
import Derived.Test.YtbpccdagmaiblaaDoorSxI2
namespace Go.Proofs.YtbpccdagmaiblaaDoor.SX
open Go Go.RowKit
noncomputable section
/-- It ends in rv where the facts hold; ds: some of what has been named. -/
def lawH (ars : List Ar) (facts : List (Bool × A × A × Bool)) (ds : Defs) (rv : A) (r : Option (V × St)) : Bool := match r with
  | some (.w (.c (.b a)), st) => A.beq a rv && (!st.bad && st.cs.isEmpty && (decide (st.ci = facts) && (isE st.rg || rgAll st id st.rg))) && (wfD (arSize ars) st.nv (defL st st.nv) && (preOk st ds && (start ars).2.ci.isEmpty))
  | _ => false
theorem pre_eqs {g : Sg} {st : St} (hd : DefsOk U g st) : ∀ {ds : Defs}, preOk st ds = true → EqsP g ds
  | [], _ => trivial
  | (n, p, xa) :: r, h => by
    unfold preOk at h
    rw [Bool.and_eq_true] at h
    obtain ⟨h4, h5⟩ := h
    refine ⟨?_, pre_eqs hd h5⟩
    split at h4
    · rename_i q ys hq
      cases hb : A.beqL xa ys
      · rw [hb] at h4; cases h4
      · rw [hb, cond_true, decide_eq_true_eq] at h4
        rw [beqL_eq hb, h4]
        exact hd n q ys hq
    · cases h4
/-- The same, where conditions are asked too: their answers are told by what the names stand for. -/
def lawQ (ars : List Ar) (facts : List (Bool × A × A × Bool)) (cs : List (Nat × Bool)) (ds : Defs) (rv : A) (r : Option (V × St)) : Bool := match r with
  | some (.w (.c (.b a)), st) => A.beq a rv && (!st.bad && decide (st.cs = cs) && (decide (st.ci = ciL st cs ++ facts) && (isE st.rg || rgAll st id st.rg))) && (wfD (arSize ars) st.nv (defL st st.nv) && (preOk st ds && ((start ars).2.ci.isEmpty && (start ars).2.cs.isEmpty)))
  | _ => false
def CsOk (g : Sg) : List (Nat × Bool) → Prop
  | [] => True
  | c :: r => ieq (g c.1) 1 = c.2 ∧ CsOk g r
theorem cs_all {g : Sg} : ∀ {l : List (Nat × Bool)}, CsOk g l → ∀ c ∈ l, ieq (g c.1) 1 = c.2
  | [], _, c, hc => by cases hc
  | d :: l, ⟨h1, h2⟩, c, hc => by
    rcases List.mem_cons.1 hc with rfl | hc
    · exact h1
    · exact cs_all h2 c hc
end
end Go.Proofs.YtbpccdagmaiblaaDoor.SX
