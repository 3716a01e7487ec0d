/- A region in any order whose last operation waits for all others: the others under a condition that the last one breaks. Nothing of a program is used. -/
import Derived.Test.YtdndomknjefgkaaDnQ
import Derived.OrdersHeld
namespace Go.Proofs.Ytdndomknjefgkaa
open Go.RowKit
section
variable {P : Program} {ops : Array Oper} {Q Q' : Exit → Act → World → Prop} {S : World → Prop} {md : Region.Mode}
theorem upon_monoQ {o : Oper} {a : Act} {K : Act → World → Prop} (hI : ∀ e a w, e ≠ Exit.normal → Q' e a w → Q e a w) {r : Result Next} (h : o.upon P a K Q' r) : o.upon P a K Q r := by
  unfold Oper.upon at h ⊢
  split at h
  · exact h
  · exact h
  · exact h
  · refine h.mono ?_
    intro e w hk
    cases e with
    | returned v => exact hk
    | panicked c => exact hI _ _ _ (by simp) hk
    | outgrown => obtain ⟨a, w, hq⟩ := hk; exact ⟨a, w, hI _ _ _ (by simp) hq⟩
  · exact h
  · exact hI _ _ _ (by simp) h
  · exact h.elim
theorem wpOp_monoQ (hI : ∀ e a w, e ≠ Exit.normal → Q' e a w → Q e a w) {i : Nat} {K : Act → World → Prop} {a : Act} {w : World} (h : wpOp P ops Q' i K a w) : wpOp P ops Q i K a w := by
  unfold wpOp at h ⊢
  split
  · rename_i e; rw [e] at h; exact h
  · rename_i o e
    rw [e] at h
    dsimp only at h
    split at h
    · rename_i hw
      rw [if_pos hw]
      rcases h with h | ⟨h1, a, w, hq⟩
      · exact .inl (upon_monoQ hI h)
      · exact .inr ⟨h1, a, w, hI _ _ _ (by simp) hq⟩
    · rename_i hw
      rw [if_neg hw]; exact h
def lastB (md : Region.Mode) (ops : Array Oper) (m : Nat) : Bool :=
  Nat.blt m ops.size && (List.range ops.size).all fun j => match ops[j]? with
    | none => true
    | some o => (o.after.all fun e => !Region.binds md e || (Nat.blt e.on j && !(Nat.beq e.on m))) && (Nat.beq j m || (List.range ops.size).any fun k => ((ops[k]?).map fun om => om.after.any fun e => Region.binds md e && Nat.beq e.on j).getD false)
theorem lastB_spec {m : Nat} (h : lastB md ops m = true) : m < ops.size ∧ (∀ j o, ops[j]? = some o → ∀ e ∈ o.after, Region.binds md e = true → e.on < j ∧ e.on ≠ m) ∧ ∀ j, j < ops.size → j ≠ m → ∃ (k : Nat) (om : Oper), ops[k]? = some om ∧ ∃ e ∈ om.after, Region.binds md e = true ∧ e.on = j := by
  unfold lastB at h
  rw [Bool.and_eq_true] at h
  obtain ⟨h1, h2⟩ := h
  have hm : m < ops.size := by simpa [Nat.blt_eq] using h1
  rw [List.all_eq_true] at h2
  refine ⟨hm, fun j o ho e he hb => ?_, fun j hj hne => ?_⟩
  · have hj := (Array.getElem?_eq_some_iff.1 ho).1
    have := h2 j (List.mem_range.2 hj)
    rw [ho] at this
    dsimp only at this
    rw [Bool.and_eq_true, Array.all_eq_true'] at this
    have := this.1 e he
    rw [hb] at this
    simp [Nat.blt_eq] at this
    exact ⟨this.1, Nat.ne_of_beq_eq_false this.2⟩
  · have := h2 j (List.mem_range.2 hj)
    rw [Array.getElem?_eq_getElem hj] at this
    dsimp only at this
    rw [Bool.and_eq_true, Bool.or_eq_true] at this
    rcases this.2 with h3 | h3
    · exact absurd (Nat.eq_of_beq_eq_true h3) hne
    · rw [List.any_eq_true] at h3
      obtain ⟨k, hk, h4⟩ := h3
      rw [Array.getElem?_eq_getElem (List.mem_range.1 hk)] at h4
      simp only [Option.map_some, Option.getD_some, Array.any_eq_true'] at h4
      obtain ⟨e, he, h5⟩ := h4
      rw [Bool.and_eq_true] at h5
      exact ⟨k, _, Array.getElem?_eq_getElem (List.mem_range.1 hk), e, he, h5.1, Nat.eq_of_beq_eq_true h5.2⟩
/-- What has come up waited for what has come up. -/
def Closed (md : Region.Mode) (ops : Array Oper) (listed : Array Bool) : Prop := ∀ k o, ops[k]? = some o → listed.getD k false = true → ∀ e ∈ o.after, Region.binds md e = true → listed.getD e.on false = true
theorem Closed.add {listed : Array Bool} {i : Nat} (h : Closed md ops listed) (hi : i ∈ Region.ready md ops listed) : Closed md ops (listed.setIfInBounds i true) := fun k o ho hk e he hb => by
  obtain ⟨_, oi, hoi, hall⟩ := mem_ready.1 hi
  refine getD_set_true ?_
  by_cases e1 : k = i
  · subst e1
    rw [hoi] at ho; injection ho with ho; subst ho
    exact hall e he hb
  · refine h k o ho ?_ e he hb
    rwa [getD_set_ne false (Ne.symm e1)] at hk
theorem before_last {m : Nat} (h : lastB md ops m = true) {listed : Array Bool} (hc : Closed md ops listed) (hm : m ∈ Region.ready md ops listed) : ∀ n j, ops.size ≤ j + n → j < ops.size → j ≠ m → listed.getD j false = true
  | 0, j, h1, h2, _ => by omega
  | n + 1, j, h1, h2, hne => by
    obtain ⟨_, hlt, hall⟩ := lastB_spec h
    obtain ⟨k, ok, hk, e, he, hb, rfl⟩ := hall j h2 hne
    have hj := (hlt k ok hk e he hb).1
    by_cases e1 : k = m
    · have hk' : ops[m]? = some ok := e1 ▸ hk
      obtain ⟨_, om, hom, ham⟩ := mem_ready.1 hm
      rw [hk'] at hom; injection hom with hom; subst hom
      exact ham e he hb
    · exact hc k ok hk (before_last h hc hm n k (by omega) (Array.getElem?_eq_some_iff.1 hk).1 e1) e he hb
theorem all_listed {m : Nat} (h : lastB md ops m = true) {listed : Array Bool} (hs : listed.size = ops.size) (hr : Region.ready md ops listed = []) (hml : listed.getD m true = true) : ∀ k j, j < k → j < ops.size → listed.getD j false = true
  | 0, _, hj, _ => by omega
  | k + 1, j, hj, hjs => by
    obtain ⟨hm, hlt, _⟩ := lastB_spec h
    by_cases hu : listed.getD j true = false
    · exfalso
      have : j ∈ Region.ready md ops listed := mem_ready.2 ⟨hu, _, Array.getElem?_eq_getElem hjs, fun e he hb => by
        have h1 := hlt j _ (Array.getElem?_eq_getElem hjs) e he hb
        exact all_listed h hs hr hml k e.on (by omega) (by omega)⟩
      rw [hr] at this; cases this
    · have hj2 : j < listed.size := by omega
      simp [hj2] at hu ⊢; exact hu
theorem any_last {m : Nat} (h : lastB md ops m = true) (hI : ∀ e a w, e ≠ Exit.normal → Q' e a w → Q e a w) (hend : ∀ a w, Q' .normal a w → wpOp P ops Q m (fun a' w' => Q .normal a' w') a w) :
    ∀ (n : Nat) (listed : Array Bool) (a : Act) (w : World), listed.size = ops.size → listed.getD m true = false → Closed md ops listed → wpAnyH P md ops Q' S n (listed.setIfInBounds m true) a w → wpAny P md ops Q (n + 1) listed a w := by
  obtain ⟨hm, hlt, _⟩ := lastB_spec h
  intro n
  induction n with
  | zero =>
    intro listed a w hs hml hcl H
    have hm2 : m < listed.size := by omega
    refine ⟨fun hr => ?_, fun i hi => ?_⟩
    · have := ready_mono (md := md) (ops := ops) (listed := listed) (i := m) (j := m)
      exfalso
      have hml' : (listed.setIfInBounds m true).getD m true = true := by simp [hm2]
      have hal := all_listed h (listed := listed.setIfInBounds m true) (by simpa using hs) H.1 hml'
      have : m ∈ Region.ready md ops listed := mem_ready.2 ⟨hml, _, Array.getElem?_eq_getElem hm, fun e he hb => by
        have h1 := hlt m _ (Array.getElem?_eq_getElem hm) e he hb
        have h2 := hal (e.on + 1) e.on (by omega) (by omega)
        have h3 : e.on < listed.size := by omega
        simp [h3, Ne.symm h1.2] at h2 ⊢; exact h2⟩
      rw [hr] at this; cases this
    · by_cases e : i = m
      · subst e
        exact wpOp_mono (fun a' w' hq => ⟨H.1, hq⟩) (hend a w H.2)
      · have := ready_mono (i := m) hi e
        rw [H.1] at this; cases this
  | succ n ih =>
    intro listed a w hs hml hcl H
    have hm2 : m < listed.size := by omega
    have hml' : (listed.setIfInBounds m true).getD m true = true := by simp [hm2]
    refine ⟨fun hr => ?_, fun i hi => ?_⟩
    · exfalso
      have hr' : Region.ready md ops (listed.setIfInBounds m true) = [] := by
        refine List.eq_nil_iff_forall_not_mem.2 fun j hj => ?_
        obtain ⟨h0, o, ho, ha⟩ := mem_ready.1 hj
        have hjm : j ≠ m := fun e => by subst e; rw [hml'] at h0; cases h0
        have hjs := (Array.getElem?_eq_some_iff.1 ho).1
        have hj2 : j < listed.size := by omega
        have : j ∈ Region.ready md ops listed := mem_ready.2 ⟨by simp [hj2, Ne.symm hjm] at h0 ⊢; exact h0, o, ho, fun e he hb => by
          have h1 := hlt j o ho e he hb
          have h2 := ha e he hb
          have h3 : e.on < listed.size := by omega
          simp [h3, Ne.symm h1.2] at h2 ⊢; exact h2⟩
        rw [hr] at this; cases this
      have hal := all_listed h (listed := listed.setIfInBounds m true) (by simpa using hs) hr' hml'
      have : m ∈ Region.ready md ops listed := mem_ready.2 ⟨hml, _, Array.getElem?_eq_getElem hm, fun e he hb => by
        have h1 := hlt m _ (Array.getElem?_eq_getElem hm) e he hb
        have h2 := hal (e.on + 1) e.on (by omega) (by omega)
        have h3 : e.on < listed.size := by omega
        simp [h3, Ne.symm h1.2] at h2 ⊢; exact h2⟩
      rw [hr] at this; cases this
    · by_cases e : i = m
      · subst e
        have hr' : Region.ready md ops (listed.setIfInBounds i true) = [] := by
          refine List.eq_nil_iff_forall_not_mem.2 fun j hj => ?_
          obtain ⟨h0, o, ho, _⟩ := mem_ready.1 hj
          have hji : j ≠ i := fun e => by subst e; rw [hml'] at h0; cases h0
          have hjs := (Array.getElem?_eq_some_iff.1 ho).1
          have h5 := before_last h hcl hi ops.size j (by omega) hjs hji
          have hj2 : j < listed.size := by omega
          simp [hj2, Ne.symm hji] at h0 h5
          rw [h0] at h5; cases h5
        exact wpOp_mono (fun a' w' hq => wpAny_done hr' hq _) (hend a w (H.1 hr'))
      · have h1 := H.2 i (ready_mono (i := m) hi e)
        refine wpOp_mono (fun a' w' h2 => ih _ a' w' (by simpa using hs) ?_ (hcl.add hi) ?_) (wpOp_monoQ hI h1)
        · simp [hm2, e] at hml ⊢; exact hml
        · rw [Array.setIfInBounds_comm _ _ e]; exact h2.2
/-- The beginning: the last operation is counted as done; behind the others it comes. -/
theorem wp_region_last {id m : Nat} {a : Act} {w : World} (hm : P.follows .mixedOrders = true) (h : lastB .any ops m = true) (hI : ∀ e a w, e ≠ Exit.normal → Q' e a w → Q e a w) (hend : ∀ a w, Q' .normal a w → wpOp P ops Q m (fun a' w' => Q .normal a' w') a w) {n : Nat} (hn : ops.size = n + 1)
    (H : wpAnyH P .any ops Q' S n ((Array.replicate ops.size false).setIfInBounds m true) a { w with drawn := w.drawn + 1 }) : (Code.region id ops true).wp P Q a w := by
  refine wp_region_any hm ?_
  rw [show wpAny P .any ops Q ops.size = wpAny P .any ops Q (n + 1) by rw [hn]]
  refine any_last h hI hend n _ a _ (by simp) ?_ ?_ H
  · have := (lastB_spec h).1
    simp [this]
  · intro k o ho hk
    exfalso
    have := (Array.getElem?_eq_some_iff.1 ho).1
    simp [this] at hk
end
end Go.Proofs.Ytdndomknjefgkaa
