/- The runner: the known calls together; a law over symbols. -/
import Derived.Test.YtahedampmjfoeaaSxN
namespace Go.Proofs.Ytahedampmjfoeaa.SX
open Go Go.RowKit
abbrev Sum := FuncId → List V → St → Option (V × St)
def one (id : Nat) (S : List V → St → Option (V × St)) : Sum := fun f args st => bif Nat.beq f id then S args st else none
def orS (s t : Sum) : Sum := fun f args st => match s f args st with
  | some r => some r
  | none => t f args st
theorem one_ok {g : Sg} {id : Nat} {S : List V → St → Option (V × St)} (h : CaseOk g id S) : CallOk Try.prog U g (one id S) := fun f args st v st' he hg => by
  unfold one at he
  rw [nbeq, Bool.cond_decide] at he
  split at he
  · rename_i hf; subst hf
    exact h args st v st' he hg
  · cases he
theorem orS_ok {g : Sg} {s t : Sum} (hs : CallOk Try.prog U g s) (ht : CallOk Try.prog U g t) : CallOk Try.prog U g (orS s t) := fun f args st v st' he hg => by
  unfold orS at he
  split at he
  · rename_i r hr; cases he; exact hs f args st v st' hr hg
  · exact ht f args st v st' he hg
def sums : Sum :=
  orS (one 35 satS) <|
  orS (one 33 clampS) <|
  orS (one 39 subS) <|
  orS (one 41 mulS) <|
  orS (one 43 divS) <|
  orS (one 45 muldivS) <|
  orS (one 48 absS) <|
  orS (one 37 addS) <|
  orS (one 15 wmulS) <|
  orS (one 24 waddS) <|
  orS (one 57 wrootS) <|
  noSum
theorem sums_ok (g : Sg) : CallOk Try.prog U g sums :=
  orS_ok (one_ok sat_case) <|
  orS_ok (one_ok clamp_case) <|
  orS_ok (one_ok sub_case) <|
  orS_ok (one_ok mul_case) <|
  orS_ok (one_ok div_case) <|
  orS_ok (one_ok muldiv_case) <|
  orS_ok (one_ok abs_case) <|
  orS_ok (one_ok add_case) <|
  orS_ok (one_ok wmul_case) <|
  orS_ok (one_ok wadd_case) <|
  orS_ok (one_ok wroot_case) <|
  noSum_ok

/-! ### Symbols, solved -/
def solve (U : Nat → List Int → Int) : List (Nat × Pr × List A) → Sg → Sg
  | [], g => g
  | (n, p, xa) :: r, g => fun i => if i = n then mean U p (xa.map (A.val (solve U r g))) else solve U r g i
def A.ltB (n : Nat) : A → Bool
  | .k _ => true
  | .x i => Nat.blt i n
/-- Each is told by earlier ones; none of the first nv is told. -/
def wfD (nv : Nat) : Nat → List (Nat × Pr × List A) → Bool
  | _, [] => true
  | b, (n, _, xa) :: r => Nat.blt n b && Nat.ble nv n && xa.all (A.ltB n) && wfD nv n r
theorem val_congr {g h : Sg} {n : Nat} {xa : List A} (ha : xa.all (A.ltB n) = true) (he : ∀ i, i < n → g i = h i) : xa.map (A.val g) = xa.map (A.val h) := by
  apply List.map_congr_left
  intro a hm
  rw [List.all_eq_true] at ha
  have := ha a hm
  cases a with
  | k z => rfl
  | x i => simp only [A.ltB, nblt] at this; exact he i (by simpa using this)
theorem wfD_lt {nv : Nat} : ∀ {l : List (Nat × Pr × List A)} {b : Nat}, wfD nv b l = true → ∀ d ∈ l, d.1 < b ∧ nv ≤ d.1 ∧ d.2.2.all (A.ltB d.1) = true
  | [], _, _, d, hd => by cases hd
  | (n, p, xa) :: r, b, h, d, hd => by
    unfold wfD at h
    simp only [Bool.and_eq_true, nblt, nble, decide_eq_true_eq] at h
    obtain ⟨⟨⟨h1, h2⟩, h3⟩, h4⟩ := h
    rcases List.mem_cons.1 hd with rfl | hd
    · exact ⟨h1, h2, h3⟩
    · obtain ⟨k1, k2, k3⟩ := wfD_lt h4 d hd
      exact ⟨by omega, k2, k3⟩
theorem solve_ok (U : Nat → List Int → Int) {nv : Nat} (g : Sg) : ∀ {l : List (Nat × Pr × List A)} {b : Nat}, wfD nv b l = true → DefsOk U (solve U l g) l ∧ ∀ i, i < nv → solve U l g i = g i
  | [], _, _ => ⟨fun d hd => (by cases hd), fun _ _ => rfl⟩
  | (n, p, xa) :: r, b, h => by
    have hh := h
    unfold wfD at h
    simp only [Bool.and_eq_true, nblt, nble, decide_eq_true_eq] at h
    obtain ⟨⟨⟨h1, h2⟩, h3⟩, h4⟩ := h
    obtain ⟨k1, k2⟩ := solve_ok U g h4
    have same : ∀ i, i < n → solve U ((n, p, xa) :: r) g i = solve U r g i := fun i hi => by
      show (if i = n then _ else solve U r g i) = _
      rw [if_neg (by omega)]
    refine ⟨fun d hd => ?_, fun i hi => (by rw [same i (by omega)]; exact k2 i hi)⟩
    rcases List.mem_cons.1 hd with rfl | hd
    · rw [val_congr h3 same]
      show (if n = n then _ else _) = _
      rw [if_pos rfl]
    · obtain ⟨l1, _, l3⟩ := wfD_lt h4 d hd
      rw [same d.1 l1, val_congr l3 (fun i hi => same i (by omega))]
      exact k1 d hd
/-- A call over symbols that the runner sees end. -/
theorem sym_call {P : Program} {X : FuncId → Nat} {U : Nat → List Int → Int} (hN : NamesOk P X) (hmix : P.follows .mixedOrders = true) {f : FuncId} {sum : Sum} (hs : ∀ g, CallOk P U g sum) {K d nv : Nat} {args : List V} {orc : List Bool} {v : V} {st' : St}
    (h : runCall P U X sum K d f args { st0 with nv := nv, orc := orc } = some (v, st')) (hwf : wfD nv st'.nv st'.defs = true) (g0 : Sg)
    (hcs : ∀ g, (∀ i, i < nv → g i = g0 i) → DefsOk U g st'.defs → ∀ c ∈ st'.cs, ieq (g c.1) 1 = c.2) :
    ∃ g, (∀ i, i < nv → g i = g0 i) ∧ DefsOk U g st'.defs ∧ ∀ w vs, VL g (fun _ => none) args vs → Calls P f ⟨vs⟩ w fun e w' => ∃ r' u, e = .returned u ∧ v.Den g r' u ∧ Below w.heap.size w w' := by
  obtain ⟨k1, k2⟩ := solve_ok U g0 hwf
  refine ⟨solve U st'.defs g0, k2, k1, fun w vs hv => ?_⟩
  have hg : Good U (solve U st'.defs g0) st' := ⟨k1, hcs _ k2 k1⟩
  obtain ⟨_, k⟩ := runCall_ok hN hmix (hs _) K d f args _ v st' h hg
  have hI : Inv (solve U st'.defs g0) (fun _ => none) { st0 with nv := nv, orc := orc } w :=
    ⟨fun n bk h => (by simp [st0, hget] at h), fun _ _ _ h => (by cases h), fun _ _ h => (by cases h), fun _ _ h => (by cases h), fun n h => (by simp [st0] at h)⟩
  refine (k (fun _ => none) w vs hI hv).mono fun e w' hp => ?_
  obtain ⟨r', u, rfl, hd, _, hE⟩ := hp
  exact ⟨r', u, rfl, hd, below_of_ext hE⟩
/-- A law over symbols: true where its last symbol is. -/
theorem sym_true {P : Program} {X : FuncId → Nat} {U : Nat → List Int → Int} (hN : NamesOk P X) (hmix : P.follows .mixedOrders = true) {f : FuncId} {sum : Sum} (hs : ∀ g, CallOk P U g sum) {K d nv : Nat} {args : List V} {orc : List Bool} {b : A} {st' : St}
    (h : runCall P U X sum K d f args { st0 with nv := nv, orc := orc } = some (.w (.c (.b b)), st')) (hwf : wfD nv st'.nv st'.defs = true) (g0 : Sg)
    (hcs : ∀ g, (∀ i, i < nv → g i = g0 i) → DefsOk U g st'.defs → (∀ c ∈ st'.cs, ieq (g c.1) 1 = c.2) ∧ ieq (b.val g) 1 = true) (vs : List Value) (hv : ∀ g, (∀ i, i < nv → g i = g0 i) → VL g (fun _ => none) args vs) (w : World) :
    Calls P f ⟨vs⟩ w fun e w' => e = .returned (.bool true) ∧ Below w.heap.size w w' := by
  obtain ⟨g, h1, h2, k⟩ := sym_call hN hmix hs h hwf g0 (fun g a b => (hcs g a b).1)
  refine (k w vs (hv g h1)).mono fun e w' hp => ?_
  obtain ⟨r', u, rfl, hd, hb⟩ := hp
  refine ⟨?_, hb⟩
  rw [den_b hd, (hcs g h1 h2).2]
end Go.Proofs.Ytahedampmjfoeaa.SX
