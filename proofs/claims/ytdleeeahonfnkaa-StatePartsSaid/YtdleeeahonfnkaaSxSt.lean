/- The runner: known calls of package state: is it within its box, is its length near One? -/
import Derived.Test.YtdleeeahonfnkaaStF
import Derived.Test.YtdleeeahonfnkaaStH
import Derived.Test.YtdleeeahonfnkaaSxQ
namespace Go.Proofs.Ytdleeeahonfnkaa.SX
open Go Go.RowKit
noncomputable section
section
variable {g : Sg}
theorem cells_row4 {l : List C} {xa : List A} {n : Nat} (hx : intsC l = some xa) (hn : xa.length = n) {r : Rho} {v : Value} (hv : V.Den g r (.w (.agg l)) v) :
    v = .agg (rowA n (cellF (xa.map (A.val g)))) ∧ ∀ a ∈ xa, inK .i64 (a.val g) := by
  obtain ⟨vs, rfl, hd⟩ := den_agg hv
  have hdl := hd.length
  have hlen := intsC_len hx
  refine ⟨?_, fun a ha => ?_⟩
  · rw [rowA_of (n := n) vs (cellF (xa.map (A.val g))) (by omega) (fun j hj => (intsC_ok hx hd j (by omega)).1)]
  · obtain ⟨j, hj, rfl⟩ := List.mem_iff_getElem.1 ha
    have := (intsC_ok hx hd j hj).2
    simpa [hj] using this
theorem cell_in4 {xa : List A} (h : ∀ a ∈ xa, inK .i64 (a.val g)) (k : Nat) : -9223372036854775808 ≤ cellF (xa.map (A.val g)) k ∧ cellF (xa.map (A.val g)) k ≤ 9223372036854775807 := by
  unfold cellF
  by_cases hk : k < xa.length
  · have e : (xa.map (A.val g)).getD k 0 = (xa[k]).val g := by simp [List.getD, hk]
    rw [e]
    exact inK_i64.1 (h _ (List.getElem_mem hk))
  · have e : (xa.map (A.val g)).getD k 0 = 0 := by simp [List.getD, hk]
    rw [e]; omega
end
/-- Of numbers chosen by one condition: the condition, the ones, the others. -/
def selsOf (st : St) : List A → Option (Nat × List A × List A)
  | [.x n] => (match getD st n with
    | some (.sel, [.x c, a, b]) => some (c, [a], [b])
    | _ => none)
  | .x n :: r => (match getD st n, selsOf st r with
    | some (.sel, [.x c, a, b]), some (d, ps, bs) => bif Nat.beq c d then some (c, a :: ps, b :: bs) else none
    | _, _ => none)
  | _ => none
def unitL (st : St) (xa : List A) : Bool := match xa with
  | x :: l => (match unitO st x with
    | some ys => A.beqL ys l
    | none => false)
  | [] => false
/-- The numbers of a quaternion made of length one, in their order: of what. -/
def marksOf (m : Nat) (st : St) : Nat → List A → Option (List A)
  | i, [x] => (match uArgs st m x with
    | some (.k (.ofNat j) :: ys) => bif Nat.beq i j then some ys else none
    | _ => none)
  | i, x :: r => (match uArgs st m x, marksOf m st (i + 1) r with
    | some (.k (.ofNat j) :: ys), some zs => bif Nat.beq i j && A.beqL ys zs then some ys else none
    | _, _ => none)
  | _, [] => none
def unitM (st : St) (xa : List A) : Bool := (match marksOf 72 st 0 xa with
  | some ys => Nat.beq ys.length 4
  | none => false) || (match marksOf 74 st 0 xa with
  | some ys => Nat.beq ys.length 4
  | none => false)
def unitA (st : St) (xa : List A) : Bool := unitM st xa || unitL st xa
/-- A number that a name has been told to be. -/
def ciVal : List (Bool × A × A × Bool) → A → Option Int
  | [], _ => none
  | (e, p, q, v) :: r, a => bif e && (v && A.beq p a) then (match q with
    | .k z => some z
    | .x _ => ciVal r a) else ciVal r a
/-- Told to be one. -/
def isYes (st : St) : A → Bool
  | .k z => ieq z 1
  | .x n => (match csGet st.cs n with
    | some b => b
    | none => false) || (match ciVal st.ci (.x n) with
    | some z => ieq z 1
    | none => false)
def asked70 (st : St) (xa : List A) : Bool := match nameOf st (.u 70) xa with
  | some a => isYes st a
  | none => false
/-- Four numbers, or those that they are chosen of, are near. -/
def nearK (st : St) (xa : List A) : Bool := bif unitA st xa || asked70 st xa then true else match selsOf st xa with
  | some (c, ps, bs) => ((match allK ps with
    | some z => nearQ (cellF z)
    | none => false) || (match getD st c with
    | some (.u 70, ys) => A.beqL ys ps
    | _ => false)) && unitA { st with cs := (c, false) :: st.cs } bs
  | none => false
section
variable {g : Sg}
theorem unitL_ok {st : St} (hg : Good U g st) {xa : List A} (hl : xa.length = 4) (h : unitL st xa = true) : nearQ (cellF (xa.map (A.val g))) = true := by
  unfold unitL at h
  split at h
  · rename_i x l
    split at h
    · rename_i ys hys
      have e := beqL_eq h
      subst e
      obtain ⟨h1, h2⟩ := unitO_ok hg hys
      rw [nearQ_iff, sqS_list (by simpa using hl)]
      exact ⟨by simpa using h1, by simpa using h2⟩
    · cases h
  · cases h
theorem selsOf_ok {st : St} (hd : DefsOk U g st) : ∀ {xa : List A} {c : Nat} {ps bs : List A}, selsOf st xa = some (c, ps, bs) → ps.length = xa.length ∧ bs.length = xa.length ∧ xa.map (A.val g) = bif ieq (g c) 1 then ps.map (A.val g) else bs.map (A.val g)
  | [], c, ps, bs, h => by simp [selsOf] at h
  | [.k z], c, ps, bs, h => by simp [selsOf] at h
  | .k z :: y :: r, c, ps, bs, h => by simp [selsOf] at h
  | [.x n], c, ps, bs, h => by
    unfold selsOf at h
    split at h
    · rename_i c' a b hn
      cases h
      have := hd n _ _ hn
      refine ⟨rfl, rfl, ?_⟩
      show [g n] = _
      rw [this]
      show [bif ieq (g c) 1 then a.val g else b.val g] = _
      cases ieq (g c) 1 <;> rfl
    · cases h
  | .x n :: y :: r, c, ps, bs, h => by
    rw [selsOf] at h
    · split at h
      · rename_i c' a b d ps' bs' hn hr
        rw [nbeq, Bool.cond_decide] at h
        split at h
        · rename_i e
          subst e
          cases h
          obtain ⟨h1, h2, h3⟩ := selsOf_ok hd hr
          have := hd n _ _ hn
          refine ⟨by simp [h1], by simp [h2], ?_⟩
          rw [List.map_cons, h3]
          show g n :: _ = _
          rw [this]
          show (bif ieq (g c) 1 then a.val g else b.val g) :: _ = _
          cases ieq (g c) 1 <;> rfl
        · cases h
      · cases h
    · simp
theorem marksOf_ok {m : Nat} {st : St} (hg : Good U g st) : ∀ {xa : List A} {i : Nat} {ys : List A}, marksOf m st i xa = some ys → ∀ j, j < xa.length → (xa.map (A.val g)).getD j 0 = U m (((i + j : Nat) : Int) :: ys.map (A.val g))
  | [], i, ys, h => by simp [marksOf] at h
  | [x], i, ys, h => by
    unfold marksOf at h
    split at h
    · rename_i j zs hu
      rw [nbeq, Bool.cond_decide] at h
      split at h
      · rename_i e
        subst e
        cases h
        intro k hk
        obtain rfl : k = 0 := by simpa using hk
        have := uArgs_ok hg hu
        show x.val g = _
        rw [this]; rfl
      · cases h
    · cases h
  | x :: y :: r, i, ys, h => by
    rw [marksOf] at h
    · split at h
      · rename_i j zs ws hu hm
        cases hc : (Nat.beq i j && A.beqL zs ws)
        · rw [hc] at h; cases h
        · rw [hc, cond_true] at h
          cases h
          rw [Bool.and_eq_true, nbeq, decide_eq_true_eq] at hc
          obtain ⟨rfl, e2⟩ := hc
          have e2 := beqL_eq e2
          subst e2
          intro k hk
          cases k with
          | zero =>
            have := uArgs_ok hg hu
            show x.val g = _
            rw [this]; rfl
          | succ k =>
            have := marksOf_ok hg hm k (by simpa using hk)
            rw [show i + (k + 1) = i + 1 + k by omega]
            exact this
      · cases h
    · simp
/-- Four numbers that are those of a list that is near. -/
theorem near_of {L q : List Int} (hL : L.length = 4) (hn : nearQ (cellF L) = true) (e : ∀ j, j < 4 → cellF q j = clampv (L.getD j 0) (-1073741840) 1073741840) : nearQ (cellF q) = true := by
  have e : ∀ j, j < 4 → cellF q j = cellF L j := fun j hj => by
    have h2 := near_bd hL hn
    rw [e j hj]
    have h3 : L.getD j 0 ∈ L := by
      have hj' : j < L.length := by omega
      simp [List.getD, hj']
    have h4 := h2 _ h3
    unfold cellF
    generalize L.getD j 0 = q at *
    unfold clampv; (repeat' split) <;> omega
  rw [← hn]
  unfold nearQ
  simp only [sqS, e 0 (by omega), e 1 (by omega), e 2 (by omega), e 3 (by omega)]
/-- A quaternion as it is kept. -/
def keptL (l : List Int) : List Int := bif nearQ (cellF l) then l else unitNs l
theorem keptL_len {l : List Int} (hl : l.length = 4) : (keptL l).length = 4 := by
  unfold keptL
  cases nearQ (cellF l)
  · exact unitNs_len hl
  · exact hl
theorem keptL_near {l : List Int} (hl : l.length = 4) : nearQ (cellF (keptL l)) = true := by
  unfold keptL
  cases h : nearQ (cellF l)
  · exact unitNs_near hl
  · exact h
theorem unitM_ok {st : St} (hg : Good U g st) {xa : List A} (hl : xa.length = 4) (h : unitM st xa = true) : nearQ (cellF (xa.map (A.val g))) = true := by
  unfold unitM at h
  rw [Bool.or_eq_true] at h
  rcases h with h | h
  · split at h
    · rename_i ys hm
      rw [nbeq, decide_eq_true_eq] at h
      have hk := marksOf_ok hg hm
      have hL : (ys.map (A.val g)).length = 4 := by simpa using h
      refine near_of (unitNs_len hL) (unitNs_near hL) fun j hj => ?_
      have h1 := hk j (by omega)
      show (xa.map (A.val g)).getD j 0 = _
      rw [h1]
      show clampv ((unitNs (ys.map (A.val g))).getD ((0 + j : Nat) : Int).toNat 0) _ _ = _
      rw [show ((0 + j : Nat) : Int).toNat = j by omega]
    · cases h
  · split at h
    · rename_i ys hm
      rw [nbeq, decide_eq_true_eq] at h
      have hk := marksOf_ok hg hm
      have hL : (ys.map (A.val g)).length = 4 := by simpa using h
      refine near_of (keptL_len hL) (keptL_near hL) fun j hj => ?_
      have h1 := hk j (by omega)
      show (xa.map (A.val g)).getD j 0 = _
      rw [h1]
      show clampv ((keptL (ys.map (A.val g))).getD ((0 + j : Nat) : Int).toNat 0) _ _ = _
      rw [show ((0 + j : Nat) : Int).toNat = j by omega]
    · cases h
theorem unitA_ok {st : St} (hg : Good U g st) {xa : List A} (hl : xa.length = 4) (h : unitA st xa = true) : nearQ (cellF (xa.map (A.val g))) = true := by
  unfold unitA at h
  rw [Bool.or_eq_true] at h
  rcases h with h | h
  · exact unitM_ok hg hl h
  · exact unitL_ok hg hl h
theorem ciVal_ok : ∀ {l : List (Bool × A × A × Bool)} {a : A} {z : Int}, (∀ c ∈ l, ciOk g c) → ciVal l a = some z → a.val g = z
  | [], a, z, _, h => by simp [ciVal] at h
  | (e, p, q, v) :: r, a, z, hc, h => by
    have ih := ciVal_ok (l := r) (a := a) (z := z) (fun c h => hc c (List.mem_cons_of_mem _ h))
    unfold ciVal at h
    cases hb : (e && (v && A.beq p a))
    · rw [hb, cond_false] at h
      exact ih h
    · rw [hb, cond_true] at h
      rw [Bool.and_eq_true, Bool.and_eq_true] at hb
      obtain ⟨rfl, rfl, hp⟩ := hb
      have hp := A.beq_eq hp
      subst hp
      split at h
      · rename_i y
        cases h
        have := hc _ (List.mem_cons_self ..)
        have this : ieq (p.val g) z = true := this
        rw [ieq_iff, decide_eq_true_eq] at this
        exact this
      · exact ih h
theorem isYes_ok {st : St} (hg : Good U g st) {a : A} (h : isYes st a = true) : ieq (a.val g) 1 = true := by
  cases a with
  | k z => exact h
  | x n =>
    unfold isYes at h
    rw [Bool.or_eq_true] at h
    rcases h with h | h
    · split at h
      · rename_i b hb
        subst h
        exact hg.cs _ (csGet_mem hb)
      · cases h
    · split at h
      · rename_i z hz
        rw [ciVal_ok hg.ci hz]; exact h
      · cases h
theorem asked70_ok {st : St} (hg : Good U g st) {xa : List A} (h : asked70 st xa = true) : nearQ (cellF (xa.map (A.val g))) = true := by
  unfold asked70 at h
  split at h
  · rename_i a ha
    have e := nameOf_val hg ha
    have e : a.val g = b2i (nearQ (cellF (xa.map (A.val g)))) := e
    cases hq : nearQ (cellF (xa.map (A.val g)))
    · rw [hq] at e
      have e : a.val g = 0 := e
      have h := isYes_ok hg h
      rw [e] at h; cases h
    · rfl
  · cases h
theorem nearK_ok {st : St} (hg : Good U g st) {xa : List A} (hl : xa.length = 4) (h : nearK st xa = true) : nearQ (cellF (xa.map (A.val g))) = true := by
  unfold nearK at h
  cases h1 : unitA st xa || asked70 st xa
  · rw [h1, cond_false] at h
    split at h
    · rename_i c ps bs hs
      rw [Bool.and_eq_true] at h
      obtain ⟨h2, h3⟩ := h
      obtain ⟨k1, k2, k3⟩ := selsOf_ok hg.defs hs
      rw [k3]
      cases hc : ieq (g c) 1
      · rw [cond_false]
        exact unitA_ok (st := { st with cs := (c, false) :: st.cs }) ⟨hg.defs, fun d hd => by
          rcases List.mem_cons.1 hd with rfl | hd
          · exact hc
          · exact hg.cs d hd, hg.ci, hg.rg, hg.ok⟩ (by omega) h3
      · rw [cond_true]
        rw [Bool.or_eq_true] at h2
        rcases h2 with h2 | h2
        · split at h2
          · rename_i z hz
            rw [allK_val hz]; exact h2
          · cases h2
        · split at h2
          · rename_i ys hd
            have e := beqL_eq h2
            subst e
            have := hg.defs _ _ _ hd
            have this : g c = b2i (nearQ (cellF (ys.map (A.val g)))) := this
            rw [this, ieq_b2i] at hc
            exact hc
          · cases h2
    · cases h
  · rw [Bool.or_eq_true] at h1
    rcases h1 with h1 | h1
    · exact unitA_ok hg hl h1
    · exact asked70_ok hg h1
end
/-- Does it have to be no? -/
def notOne (st : St) (a : A) : Bool := match ciVal st.ci a with
  | some z => !ieq z 1
  | none => false
/-- Told not to be one. -/
def isNo (st : St) : A → Bool
  | .k z => !ieq z 1
  | .x n => (match csGet st.cs n with
    | some b => !b
    | none => false) || notOne st (.x n)
/-- What is told of it. -/
def toldA (st : St) (a : A) : A := bif isYes st a then .k 1 else bif isNo st a then .k 0 else a
def nearA (xa : List A) (st : St) : A × St := bif nearK st xa then (.k 1, st) else match app U (.u 70) xa st with
  | (a, st1) => (toldA st1 a, st1)
def nearS (args : List V) (st : St) : Option (V × St) := match args with
  | [.w (.agg l)] => (match intsC l with
    | some xa => bif Nat.beq xa.length 4 then (match nearA xa st with | (a, st1) => some (.w (.c (.b a)), st1)) else none
    | none => none)
  | _ => none
def boxR (st : St) : Nat → List A → Bool
  | _, [] => true
  | i, a :: l => (match rangeOf st a with
    | some (lo, hi) => ile (-boxF i) lo && ile hi (boxF i)
    | none => false) && boxR st (i + 1) l
def goodSt (args : List V) (st : St) : Option (V × St) := match args with
  | [.w (.agg l)] => (match intsC l with
    | some xa => bif Nat.beq xa.length 24 then (bif boxR st 4 (xa.drop 4) then (match nearA (xa.take 4) st with | (a, st1) => some (.w (.c (.b a)), st1))
        else match app U (.u 71) xa st with | (a, st1) => some (.w (.c (.b (bif notOne st1 a then .k 0 else a))), st1)) else none
    | none => none)
  | _ => none
section
variable {g : Sg}
theorem yes_of {st : St} (hg : Good U g st) {a : A} {b : Bool} (e : a.val g = b2i b) (h : isYes st a = true) : b = true := by
  cases b
  · have e : a.val g = 0 := e
    have h := isYes_ok hg h
    rw [e] at h; cases h
  · rfl
theorem no_of {st : St} (hg : Good U g st) {a : A} {b : Bool} (e : a.val g = b2i b) (hn : isNo st a = true) : b = false := by
  cases b
  · rfl
  · exfalso
    have e : a.val g = 1 := e
    cases a with
    | k z =>
      have : (!ieq z 1) = true := hn
      have e : z = 1 := e
      subst e
      cases this
    | x n =>
      unfold isNo at hn
      rw [Bool.or_eq_true] at hn
      rcases hn with hn | hn
      · split at hn
        · rename_i b hb
          have := hg.cs _ (csGet_mem hb)
          have e : g n = 1 := e
          have this : ieq (g n) 1 = b := this
          rw [e] at this
          rw [← this] at hn
          cases hn
        · cases hn
      · unfold notOne at hn
        split at hn
        · rename_i z hz
          have := ciVal_ok hg.ci hz
          have e : (A.x n).val g = 1 := e
          rw [e] at this
          rw [← this] at hn
          cases hn
        · cases hn
theorem toldA_ok {st : St} (hg : Good U g st) {a : A} {b : Bool} (e : a.val g = b2i b) : ieq ((toldA st a).val g) 1 = b := by
  unfold toldA
  cases hy : isYes st a
  · rw [cond_false]
    cases hn : isNo st a
    · rw [cond_false, e, ieq_b2i]
    · rw [cond_true, no_of hg e hn]; rfl
  · rw [cond_true, yes_of hg e hy]; rfl
theorem nearA_ok {st st' : St} {xa : List A} {a : A} (h : nearA xa st = (a, st')) (hl : xa.length = 4) (hg : Good U g st') : Good U g st ∧ Same st st' ∧ ieq (a.val g) 1 = nearQ (cellF (xa.map (A.val g))) := by
  unfold nearA at h
  cases hk : nearK st xa
  · rw [hk, cond_false] at h
    split at h
    rename_i b st1 e1
    cases h
    obtain ⟨h1, h2, h3⟩ := app_ok e1 hg
    exact ⟨h1, h2, toldA_ok hg h3⟩
  · rw [hk, cond_true] at h
    cases h
    exact ⟨hg, Same.refl _, (nearK_ok hg hl hk).symm⟩
theorem boxR_ok {st : St} (hg : Good U g st) : ∀ {xa : List A} {i : Nat}, boxR st i xa = true → ∀ j, j < xa.length → -boxF (i + j) ≤ (xa.map (A.val g)).getD j 0 ∧ (xa.map (A.val g)).getD j 0 ≤ boxF (i + j)
  | [], i, _, j, hj => by simp at hj
  | a :: l, i, h, j, hj => by
    unfold boxR at h
    rw [Bool.and_eq_true] at h
    obtain ⟨h1, h2⟩ := h
    cases j with
    | zero =>
      split at h1
      · rename_i lo hi hr
        rw [Bool.and_eq_true, ile_iff, ile_iff, decide_eq_true_eq, decide_eq_true_eq] at h1
        have := range_ok hg a lo hi hr
        show -boxF i ≤ a.val g ∧ a.val g ≤ boxF i
        omega
      · cases h1
    | succ j =>
      have := boxR_ok hg h2 j (by simpa using hj)
      rw [show i + (j + 1) = i + 1 + j by omega]
      simpa using this
theorem near_case : CaseOk g 128 nearS := fun args st v st' h hg => by
  unfold nearS at h
  split at h
  · rename_i l
    split at h
    · rename_i xa hxa
      rw [nbeq, Bool.cond_decide] at h
      split at h
      · rename_i hlen
        split at h
        rename_i a st1 h1
        cases h
        obtain ⟨g1, s1, e1⟩ := nearA_ok h1 hlen hg
        refine ⟨g1, fun r w vs hI hv => ?_⟩
        match vs, hv with
        | [y], ⟨hy, _⟩ =>
          obtain ⟨rfl, hin⟩ := cells_row4 hxa hlen hy
          refine (near_any _ w).mono fun e w' hp => ?_
          obtain ⟨rfl, hb⟩ := hp
          obtain ⟨k1, k2⟩ := below_mem (hI.same s1) hb
          exact ⟨r, _, rfl, e1 ▸ mk_b r a, k1, k2⟩
      · cases h
    · cases h
  · cases h
theorem rnear_case : CaseOk g 132 nearS := fun args st v st' h hg => by
  unfold nearS at h
  split at h
  · rename_i l
    split at h
    · rename_i xa hxa
      rw [nbeq, Bool.cond_decide] at h
      split at h
      · rename_i hlen
        split at h
        rename_i a st1 h1
        cases h
        obtain ⟨g1, s1, e1⟩ := nearA_ok h1 hlen hg
        refine ⟨g1, fun r w vs hI hv => ?_⟩
        match vs, hv with
        | [y], ⟨hy, _⟩ =>
          obtain ⟨rfl, hin⟩ := cells_row4 hxa hlen hy
          refine (rnear_any _ w).mono fun e w' hp => ?_
          obtain ⟨rfl, hb⟩ := hp
          obtain ⟨k1, k2⟩ := below_mem (hI.same s1) hb
          exact ⟨r, _, rfl, e1 ▸ mk_b r a, k1, k2⟩
      · cases h
    · cases h
  · cases h
theorem goodSt_ok {f : FuncId} (hc : ∀ (F : Nat → Int) (w : World), Calls Try.prog f #[.agg (rowA 24 F)] w fun e w' => e = .returned (.bool (goodQ F)) ∧ Below w.heap.size w w') : CaseOk g f goodSt := fun args st v st' h hg => by
  unfold goodSt at h
  split at h
  · rename_i l
    split at h
    · rename_i xa hxa
      rw [nbeq, Bool.cond_decide] at h
      split at h
      · rename_i hlen
        have key : ∀ a st1, v = .w (.c (.b a)) → st1 = st' → Good U g st → Same st st1 → ieq (a.val g) 1 = goodQ (cellF (xa.map (A.val g))) → Good U g st ∧ ∀ r w vs, Inv g r st w → VL g r [.w (.agg l)] vs → Said g f vs st' v r w := by
          intro a st1 hv hs g1 s1 e1
          subst hv; subst hs
          refine ⟨g1, fun r w vs hI hv => ?_⟩
          match vs, hv with
          | [y], ⟨hy, _⟩ =>
            obtain ⟨rfl, hin⟩ := cells_row4 hxa hlen hy
            refine (hc _ w).mono fun e w' hp => ?_
            obtain ⟨rfl, hb⟩ := hp
            obtain ⟨k1, k2⟩ := below_mem (hI.same s1) hb
            exact ⟨r, _, rfl, e1 ▸ mk_b r a, k1, k2⟩
        cases hbx : boxR st 4 (xa.drop 4)
        · rw [hbx, cond_false] at h
          split at h
          rename_i a st1 h1
          cases h
          obtain ⟨k1, k2, k3⟩ := app_ok h1 hg
          have k4 : ieq (a.val g) 1 = goodQ (cellF (xa.map (A.val g))) := by
            rw [k3]
            show ieq (U 71 _) 1 = _
            simp only [U, ieq_b2i]
          refine key _ _ rfl rfl k1 k2 ?_
          cases hn : notOne st' a
          · exact k4
          · rw [cond_true, ← k4]
            unfold notOne at hn
            split at hn
            · rename_i z hz
              rw [ciVal_ok hg.ci hz]
              show ieq 0 1 = ieq z 1
              have hn : (!ieq z 1) = true := hn
              rw [Bool.not_eq_true'] at hn
              rw [hn]; rfl
            · cases hn
        · rw [hbx, cond_true] at h
          split at h
          rename_i a st1 h1
          cases h
          obtain ⟨k1, k2, k3⟩ := nearA_ok h1 (by simp [hlen]) hg
          refine key _ _ rfl rfl k1 k2 ?_
          have e : ∀ j, j < 4 → cellF ((xa.take 4).map (A.val g)) j = cellF (xa.map (A.val g)) j := fun j hj => by
            unfold cellF
            simp [List.getD, hj]
          have e4 : sqS (cellF ((xa.take 4).map (A.val g))) 4 = sqS (cellF (xa.map (A.val g))) 4 := by
            simp only [sqS, e 0 (by omega), e 1 (by omega), e 2 (by omega), e 3 (by omega)]
          have e5 : nearQ (cellF ((xa.take 4).map (A.val g))) = nearQ (cellF (xa.map (A.val g))) := by
            unfold nearQ
            rw [e4, e 0 (by omega), e 1 (by omega), e 2 (by omega), e 3 (by omega)]
          rw [k3, e5]
          unfold goodQ
          cases hq : nearQ (cellF (xa.map (A.val g)))
          · rw [Bool.and_false]
          · rw [(inBox_iff _ 24).2 (fun j hj => ?_), Bool.true_and]
            by_cases h4 : j < 4
            · have hq4 := hq
              rw [← e5] at hq4
              have hl4 : ((xa.take 4).map (A.val g)).length = 4 := by simp [hlen]
              have h6 := near_bd hl4 hq4 (((xa.take 4).map (A.val g)).getD j 0) (by
                have hj' : j < ((xa.take 4).map (A.val g)).length := by omega
                simp only [List.getD, List.getElem?_eq_getElem hj', Option.getD_some]
                exact List.getElem_mem hj')
              have h7 : cellF ((xa.take 4).map (A.val g)) j = ((xa.take 4).map (A.val g)).getD j 0 := rfl
              rw [← h7, e j h4] at h6
              have h8 : boxF j = 1073741840 := by
                unfold boxF; rw [nblt, decide_eq_true h4]; rfl
              rw [h8]; exact h6
            · have := boxR_ok k1 hbx (j - 4) (by simp [hlen]; omega)
              rw [show 4 + (j - 4) = j by omega] at this
              have h9 : ((xa.drop 4).map (A.val g)).getD (j - 4) 0 = cellF (xa.map (A.val g)) j := by
                unfold cellF
                simp [List.getD, show 4 + (j - 4) = j by omega]
              rw [h9] at this
              exact this
      · cases h
    · cases h
  · cases h
end
/-- A quaternion made of length one: its numbers, what clamps. -/
def unitHit (xa : List A) (st : St) : A × St := bif nearK st xa then (.k 0, st) else app U (.u 73) xa st
def four72 (xa : List A) (st : St) : List A × St := match app U (.u 72) (.k 0 :: xa) st with
  | (a, st1) => match app U (.u 72) (.k 1 :: xa) st1 with
    | (b, st2) => match app U (.u 72) (.k 2 :: xa) st2 with
      | (c, st3) => match app U (.u 72) (.k 3 :: xa) st3 with
        | (d, st4) => ([a, b, c, d], st4)
def unitS (args : List V) (st : St) : Option (V × St) := match args with
  | [.w (.c (.p n o)), .w (.agg l)] => (match intsC l with
    | some xa => bif Nat.beq xa.length 4 then (match hget st.heap n with
      | none => none
      | some bk => match bif bk.kd.free then lkL bk.cells o else none with
        | some (.b h) => (match four72 xa st with
          | (ys, st1) => match unitHit xa st1 with
            | (rh, st2) => match orA h rh st2 with
              | (h', st3) => some (.w (.agg (ys.map (C.i .i64))), { st3 with heap := hset st3.heap n ⟨bk.cells.set o (.b h'), bk.ty, bk.kd⟩ }))
        | _ => none) else none
    | none => none)
  | _ => none
section
variable {g : Sg}
theorem dl_ints4 {r : Rho} : ∀ {l : List A}, (∀ a ∈ l, inK .i64 (a.val g)) → DL g r (l.map (C.i .i64)) ((l.map (A.val g)).map (Value.int .i64))
  | [], _ => DL.nil
  | a :: _, h => DL.cons (mk_i r (h a (List.mem_cons_self ..))) (dl_ints4 fun b hb => h b (List.mem_cons_of_mem _ hb))
theorem u72_in (k : Int) (l : List Int) : inK .i64 (U 72 (k :: l)) := inK_i64.2 (by
  show -9223372036854775808 ≤ clampv _ _ _ ∧ clampv _ _ _ ≤ 9223372036854775807
  unfold clampv; (repeat' split) <;> omega)
theorem unitHit_ok {st st' : St} {xa : List A} {a : A} (h : unitHit xa st = (a, st')) (hl : xa.length = 4) (hg : Good U g st') : Good U g st ∧ Same st st' ∧ ieq (a.val g) 1 = unitNH (xa.map (A.val g)) := by
  unfold unitHit at h
  cases hk : nearK st xa
  · rw [hk, cond_false] at h
    obtain ⟨h1, h2, h3⟩ := app_ok h hg
    refine ⟨h1, h2, ?_⟩
    rw [h3]
    show ieq (U 73 _) 1 = _
    simp only [U, ieq_b2i]
  · rw [hk, cond_true] at h
    cases h
    exact ⟨hg, Same.refl _, (unit_nohit (by simpa using hl) (nearK_ok hg hl hk)).symm⟩
theorem four72_ok {st st' : St} {xa ys : List A} (h : four72 xa st = (ys, st')) (hg : Good U g st') : Good U g st ∧ Same st st' ∧ ys.map (A.val g) = [U 72 (0 :: xa.map (A.val g)), U 72 (1 :: xa.map (A.val g)), U 72 (2 :: xa.map (A.val g)), U 72 (3 :: xa.map (A.val g))] := by
  unfold four72 at h
  split at h
  rename_i a st1 h1
  split at h
  rename_i b st2 h2
  split at h
  rename_i c st3 h3
  split at h
  rename_i d st4 h4
  cases h
  obtain ⟨d1, d2, d3⟩ := app_ok h4 hg
  obtain ⟨c1, c2, c3⟩ := app_ok h3 d1
  obtain ⟨b1, b2, b3⟩ := app_ok h2 c1
  obtain ⟨a1, a2, a3⟩ := app_ok h1 b1
  refine ⟨a1, ((a2.trans b2).trans c2).trans d2, ?_⟩
  show [a.val g, b.val g, c.val g, d.val g] = _
  rw [a3, b3, c3, d3]; rfl
theorem unitS_ok {f : FuncId} (hc : ∀ (p o : Nat) (F : Nat → Int) (h : Bool) (w : World), Fl p o h w → Calls Try.prog f #[.pointer (some ⟨p, o, none⟩), .agg (rowA 4 F)] w fun e w' => e = .returned (.agg (rowA 4 (unitF F))) ∧ FlW p o (h || unitH F) w w') : CaseOk g f unitS := fun args st v st' h hg => by
  unfold unitS at h
  split at h
  · rename_i n o l
    split at h
    · rename_i xa hxa
      rw [nbeq, Bool.cond_decide] at h
      split at h
      · rename_i hlen
        split at h
        · cases h
        · rename_i bk hbk
          split at h
          · rename_i hb hl
            obtain ⟨hfr, hl⟩ := free_lk hl
            split at h
            rename_i ys st1 h1
            split at h
            rename_i rh st2 h2
            split at h
            rename_i h' st3 h3
            cases h
            have hg3 : Good U g st3 := ⟨hg.defs, hg.cs, hg.ci, hg.rg, hg.ok⟩
            obtain ⟨g2, s3, e3⟩ := orA_ok h3 hg3
            obtain ⟨g1, s2, e2⟩ := unitHit_ok h2 hlen g2
            obtain ⟨g0, s1, e1⟩ := four72_ok h1 g1
            have hs := (s1.trans s2).trans s3
            refine ⟨g0, fun r w vs hI hv => ?_⟩
            match vs, hv with
            | [x, y], ⟨hx, hy, _⟩ =>
              obtain ⟨q, hq, rfl⟩ := den_p hx
              obtain ⟨rfl, _⟩ := cells_row4 hxa hlen hy
              obtain ⟨k1, k2⟩ := flag_mem (h' := h') (st' := { st3 with heap := hset st3.heap n ⟨bk.cells.set o (.b h'), bk.ty, bk.kd⟩ }) hbk hfr hl hI hq (by rw [hs.heap]) hs.next hs.resv
              refine (hc q (r.f n + o) (cellF (xa.map (A.val g))) _ w k1).mono fun e w' hp => ?_
              obtain ⟨rfl, hk⟩ := hp
              have hL : (xa.map (A.val g)).length = 4 := by simpa using hlen
              rw [unitNH_at hL] at hk
              obtain ⟨m1, m2⟩ := k2 w' (by rw [e3, e2]; exact hk)
              refine ⟨r, _, rfl, ?_, m1, m2⟩
              have hys : ys.length = 4 := by
                have := congrArg List.length e1
                simpa using this
              have e4 : rowA 4 (unitF (cellF (xa.map (A.val g)))) = ⟨(ys.map (A.val g)).map (Value.int .i64)⟩ := by
                rw [e1]
                refine (rowA_of (n := 4) _ _ rfl fun j hj => ?_).symm
                match j, hj with
                | 0, _ => rw [unitF_at hL (show 0 < 4 by omega)]; rfl
                | 1, _ => rw [unitF_at hL (show 1 < 4 by omega)]; rfl
                | 2, _ => rw [unitF_at hL (show 2 < 4 by omega)]; rfl
                | 3, _ => rw [unitF_at hL (show 3 < 4 by omega)]; rfl
              rw [e4]
              refine ⟨_, rfl, dl_ints4 fun a ha => ?_⟩
              have h1 : a.val g ∈ ys.map (A.val g) := List.mem_map_of_mem ha
              rw [e1] at h1
              simp only [List.mem_cons, List.not_mem_nil, or_false] at h1
              rcases h1 with h1 | h1 | h1 | h1 <;> (rw [h1]; exact u72_in _ _)
          · cases h
      · cases h
    · cases h
  · cases h
end
def four74 (xa : List A) (st : St) : List A × St := match app U (.u 74) (.k 0 :: xa) st with
  | (a, st1) => match app U (.u 74) (.k 1 :: xa) st1 with
    | (b, st2) => match app U (.u 74) (.k 2 :: xa) st2 with
      | (c, st3) => match app U (.u 74) (.k 3 :: xa) st3 with
        | (d, st4) => ([a, b, c, d], st4)
/-- A quaternion as it is kept; what clamps. -/
def keptQ (xa : List A) (st : St) : List A × A × St := bif nearK st xa then (xa, .k 0, st) else match app U (.u 70) xa st with
  | (a, st0) => bif isYes st0 a then (xa, .k 0, st0) else bif isNo st0 a then (match four72 xa st0 with
    | (l, st1) => match app U (.u 73) xa st1 with
      | (h, st2) => (l, h, st2)) else match four74 xa st0 with
    | (l, st1) => match app U (.u 75) xa st1 with
      | (h, st2) => (l, h, st2)
/-- Numbers clamped to their bounds, from the i-th on. -/
def clampL : Nat → List A → A → St → List A × A × St
  | _, [], h, st => ([], h, st)
  | i, a :: r, h, st => match valA 10 [a, .k (-boxF i), .k (boxF i)] st with
    | (v, st1) => match hitA 11 [a, .k (-boxF i), .k (boxF i)] st1 with
      | (rh, st2) => match orA h rh st2 with
        | (h1, st3) => match clampL (i + 1) r h1 st3 with
          | (l, h2, st4) => (v :: l, h2, st4)
def keepSt (args : List V) (st : St) : Option (V × St) := match args with
  | [.w (.c (.p n o)), .w (.agg l)] => (match intsC l with
    | some xa => bif Nat.beq xa.length 24 then (match hget st.heap n with
      | none => none
      | some bk => match bif bk.kd.free then lkL bk.cells o else none with
        | some (.b h) => (match keptQ (xa.take 4) st with
          | (ys, rh, st1) => match orA h rh st1 with
            | (h1, st2) => match clampL 4 (xa.drop 4) h1 st2 with
              | (zs, h2, st3) => some (.w (.agg ((ys ++ zs).map (C.i .i64))), { st3 with heap := hset st3.heap n ⟨bk.cells.set o (.b h2), bk.ty, bk.kd⟩ }))
        | _ => none) else none
    | none => none)
  | _ => none
def clampSt (args : List V) (st : St) : Option (V × St) := match args with
  | [.w (.c (.p n o)), .w (.agg l)] => (match intsC l with
    | some xa => bif Nat.beq xa.length 24 then (match hget st.heap n with
      | none => none
      | some bk => match bif bk.kd.free then lkL bk.cells o else none with
        | some (.b h) => (match clampL 4 (xa.drop 4) h st with
              | (zs, h2, st3) => some (.w (.agg ((xa.take 4 ++ zs).map (C.i .i64))), { st3 with heap := hset st3.heap n ⟨bk.cells.set o (.b h2), bk.ty, bk.kd⟩ }))
        | _ => none) else none
    | none => none)
  | _ => none
section
variable {g : Sg}
def boxI : Nat → List Int → List Int
  | _, [] => []
  | i, a :: r => clampv a (-boxF i) (boxF i) :: boxI (i + 1) r
def boxOr : Nat → List Int → Bool
  | _, [] => false
  | i, a :: r => clamph a (-boxF i) (boxF i) || boxOr (i + 1) r
theorem clampL_ok : ∀ {i : Nat} {xa l : List A} {h h2 : A} {st st' : St}, clampL i xa h st = (l, h2, st') → Good U g st' → Good U g st ∧ Same st st' ∧ l.map (A.val g) = boxI i (xa.map (A.val g)) ∧ ieq (h2.val g) 1 = (ieq (h.val g) 1 || boxOr i (xa.map (A.val g)))
  | i, [], l, h, h2, st, st', he, hg => by
    cases he
    exact ⟨hg, Same.refl _, rfl, by simp [boxOr]⟩
  | i, a :: r, l, h, h2, st, st', he, hg => by
    unfold clampL at he
    split at he
    rename_i v st1 e1
    split at he
    rename_i rh st2 e2
    split at he
    rename_i h1 st3 e3
    split at he
    rename_i l' h' st4 e4
    cases he
    obtain ⟨a1, a2, a3, a4⟩ := clampL_ok e4 hg
    obtain ⟨b1, b2, b3⟩ := orA_ok e3 a1
    obtain ⟨c1, c2, c3⟩ := hitA_ok e2 b1
    obtain ⟨d1, d2, d3⟩ := valA_ok e1 c1
    refine ⟨d1, ((d2.trans c2).trans b2).trans a2, ?_, ?_⟩
    · rw [List.map_cons, a3, d3]; rfl
    · rw [a4, b3, c3]
      show (_ || ieq (b2i (clamph (a.val g) (-boxF i) (boxF i))) 1 || _) = (_ || (clamph (a.val g) (-boxF i) (boxF i) || _))
      rw [ieq_b2i, Bool.or_assoc]
theorem boxI_get : ∀ {l : List Int} {i j : Nat}, j < l.length → (boxI i l).getD j 0 = clampv (l.getD j 0) (-boxF (i + j)) (boxF (i + j))
  | [], _, _, h => by simp at h
  | a :: r, i, 0, _ => rfl
  | a :: r, i, j + 1, h => by
    have := boxI_get (l := r) (i := i + 1) (j := j) (by simpa using h)
    rw [show i + (j + 1) = i + 1 + j by omega]
    exact this
theorem boxI_len : ∀ {l : List Int} {i : Nat}, (boxI i l).length = l.length
  | [], _ => rfl
  | a :: r, i => by simp [boxI, boxI_len]
theorem boxOr_snoc : ∀ {l : List Int} {i : Nat} {a : Int}, boxOr i (l ++ [a]) = (boxOr i l || clamph a (-boxF (i + l.length)) (boxF (i + l.length)))
  | [], i, a => by simp [boxOr]
  | b :: r, i, a => by
    have := boxOr_snoc (l := r) (i := i + 1) (a := a)
    simp only [List.cons_append, boxOr, this, List.length_cons, Bool.or_assoc]
    rw [show i + (r.length + 1) = i + 1 + r.length by omega]
theorem boxOr_box (f : Nat → Int) : ∀ n, boxOr 4 ((List.range n).map fun k => f (4 + k)) = boxO f n
  | 0 => rfl
  | n + 1 => by
    rw [List.range_succ, List.map_append, List.map_singleton, boxOr_snoc, boxOr_box f n]
    simp [boxO]
theorem keptQ_ok {st st' : St} {xa l : List A} {h : A} (he : keptQ xa st = (l, h, st')) (hl : xa.length = 4) (hg : Good U g st') :
    Good U g st ∧ Same st st' ∧ (∀ j, j < 4 → (l.map (A.val g)).getD j 0 = (keptL (xa.map (A.val g))).getD j 0) ∧ l.length = 4 ∧ ieq (h.val g) 1 = (bif nearQ (cellF (xa.map (A.val g))) then false else unitNH (xa.map (A.val g))) := by
  have hL : (xa.map (A.val g)).length = 4 := by simpa using hl
  have cl : ∀ {L : List Int} {j : Nat}, L.length = 4 → nearQ (cellF L) = true → j < 4 → clampv (L.getD j 0) (-1073741840) 1073741840 = L.getD j 0 := fun {L j} h1 h2 hj => by
    have h3 := near_bd h1 h2 (L.getD j 0) (by
      have hj' : j < L.length := by omega
      simp [List.getD, hj'])
    unfold clampv; (repeat' split) <;> omega
  unfold keptQ at he
  cases hk : nearK st xa
  · rw [hk, cond_false] at he
    split at he
    rename_i a0 st0 h0
    have hn0 : Good U g st0 → a0.val g = b2i (nearQ (cellF (xa.map (A.val g)))) := fun hg0 => (app_ok h0 hg0).2.2
    cases hy : isYes st0 a0
    · rw [hy, cond_false] at he
      cases hn : isNo st0 a0
      · rw [hn, cond_false] at he
        split at he
        rename_i l1 st1 h1
        split at he
        rename_i h2 st2 h3
        cases he
        obtain ⟨a1, a2, a3⟩ := app_ok h3 hg
        unfold four74 at h1
        split at h1
        rename_i a s1 q1
        split at h1
        rename_i b s2 q2
        split at h1
        rename_i c s3 q3
        split at h1
        rename_i d s4 q4
        cases h1
        obtain ⟨d1, d2, d3⟩ := app_ok q4 a1
        obtain ⟨c1, c2, c3⟩ := app_ok q3 d1
        obtain ⟨b1, b2, b3⟩ := app_ok q2 c1
        obtain ⟨e1, e2, e3⟩ := app_ok q1 b1
        obtain ⟨f1, f2, _⟩ := app_ok h0 e1
        refine ⟨f1, (((f2.trans e2).trans b2).trans c2).trans (d2.trans a2), fun j hj => ?_, rfl, ?_⟩
        · rw [← cl (keptL_len hL) (keptL_near hL) hj]
          match j, hj with
          | 0, _ => show a.val g = _; rw [e3]; rfl
          | 1, _ => show b.val g = _; rw [b3]; rfl
          | 2, _ => show c.val g = _; rw [c3]; rfl
          | 3, _ => show d.val g = _; rw [d3]; rfl
        · rw [a3]
          show ieq (U 75 _) 1 = _
          simp only [U, ieq_b2i]
      · rw [hn, cond_true] at he
        split at he
        rename_i l1 st1 h1
        split at he
        rename_i h2 st2 h3
        cases he
        obtain ⟨a1, a2, a3⟩ := app_ok h3 hg
        obtain ⟨b1, b2, b3⟩ := four72_ok h1 a1
        obtain ⟨f1, f2, _⟩ := app_ok h0 b1
        have hnq := no_of b1 (hn0 b1) hn
        have hlen : l.length = 4 := by
          have := congrArg List.length b3
          simpa using this
        refine ⟨f1, (f2.trans b2).trans a2, fun j hj => ?_, hlen, ?_⟩
        · rw [b3]
          unfold keptL
          rw [hnq, cond_false, ← cl (unitNs_len hL) (unitNs_near hL) hj]
          match j, hj with
          | 0, _ => rfl
          | 1, _ => rfl
          | 2, _ => rfl
          | 3, _ => rfl
        · rw [a3, hnq, cond_false]
          show ieq (U 73 _) 1 = _
          simp only [U, ieq_b2i]
    · rw [hy, cond_true] at he
      cases he
      obtain ⟨f1, f2, _⟩ := app_ok h0 hg
      have hq := yes_of hg (hn0 hg) hy
      refine ⟨f1, f2, fun j hj => ?_, hl, ?_⟩
      · unfold keptL; rw [hq]; rfl
      · rw [hq]; rfl
  · rw [hk, cond_true] at he
    cases he
    have hq := nearK_ok hg hl hk
    refine ⟨hg, Same.refl _, fun j hj => ?_, hl, ?_⟩
    · unfold keptL; rw [hq]; rfl
    · rw [hq]; rfl
end
section
variable {g : Sg}
theorem take4 {L : List Int} (hL : L.length = 24) : L.take 4 = [cellF L 0, cellF L 1, cellF L 2, cellF L 3] := by
  refine List.ext_getElem? fun j => ?_
  by_cases hj : j < 4
  · rw [List.getElem?_take_of_lt hj]
    match j, hj with
    | 0, _ => simp [cellF, List.getD, hL]
    | 1, _ => simp [cellF, List.getD, hL]
    | 2, _ => simp [cellF, List.getD, hL]
    | 3, _ => simp [cellF, List.getD, hL]
  · rw [List.getElem?_eq_none (by simp; omega), List.getElem?_eq_none (by simp; omega)]
theorem drop4 {L : List Int} (hL : L.length = 24) : L.drop 4 = (List.range 20).map fun k => cellF L (4 + k) := by
  refine List.ext_getElem? fun j => ?_
  by_cases hj : j < 20
  · rw [List.getElem?_drop, List.getElem?_map, List.getElem?_range hj]
    simp [cellF, List.getD, show 4 + j < L.length by omega]
  · rw [List.getElem?_eq_none (by simp; omega), List.getElem?_eq_none (by simp; omega)]
theorem near_take {L : List Int} (hL : L.length = 24) : nearQ (cellF (L.take 4)) = nearQ (cellF L) := by
  rw [take4 hL]; rfl
theorem keptF_low {L : List Int} (hL : L.length = 24) {j : Nat} (hj : j < 4) : keptF (cellF L) j = (keptL (L.take 4)).getD j 0 := by
  unfold keptF boxed keptL
  rw [if_pos hj, near_take hL]
  cases nearQ (cellF L)
  · rw [cond_false, cond_false, take4 hL, ← unitF_list]
    unfold turnF
    rw [if_pos hj]
    match j, hj with
    | 0, _ => rfl
    | 1, _ => rfl
    | 2, _ => rfl
    | 3, _ => rfl
  · rw [cond_true, cond_true, take4 hL]
    match j, hj with
    | 0, _ => rfl
    | 1, _ => rfl
    | 2, _ => rfl
    | 3, _ => rfl
theorem box_high {L : List Int} (hL : L.length = 24) {j : Nat} (h4 : 4 ≤ j) (hj : j < 24) : (boxI 4 (L.drop 4)).getD (j - 4) 0 = clampv (cellF L j) (-boxF j) (boxF j) := by
  rw [boxI_get (by simp; omega), show 4 + (j - 4) = j by omega]
  congr 1
  unfold cellF
  simp [List.getD, show 4 + (j - 4) = j by omega]
theorem keptF_high {L : List Int} (hL : L.length = 24) {j : Nat} (h4 : 4 ≤ j) (hj : j < 24) : keptF (cellF L) j = (boxI 4 (L.drop 4)).getD (j - 4) 0 := by
  rw [box_high hL h4 hj]
  unfold keptF boxed
  rw [if_neg (by omega)]
  cases nearQ (cellF L)
  · rw [cond_false]
    unfold turnF
    rw [if_neg (by omega)]
  · rfl
theorem keptH_list {L : List Int} (hL : L.length = 24) : keptH (cellF L) = ((bif nearQ (cellF (L.take 4)) then false else unitNH (L.take 4)) || boxOr 4 (L.drop 4)) := by
  unfold keptH
  rw [near_take hL, take4 hL, unitH_list, drop4 hL, boxOr_box]
theorem clamp_in (a : Int) (j : Nat) : inK .i64 (clampv a (-boxF j) (boxF j)) := inK_i64.2 (by
  have := boxF_bd j
  unfold clampv; (repeat' split) <;> omega)
/-- Twenty-four numbers, given as a list. -/
theorem den_row24 {r : Rho} {l : List A} {F : Nat → Int} (hl : l.length = 24) (h : ∀ j, j < 24 → (l.map (A.val g)).getD j 0 = F j) (hin : ∀ j, j < 24 → inK .i64 (F j)) : V.Den g r (.w (.agg (l.map (C.i .i64)))) (.agg (rowA 24 F)) := by
  have e : rowA 24 F = ⟨(l.map (A.val g)).map (Value.int .i64)⟩ := (rowA_of (n := 24) _ _ (by simp [hl]) fun j hj => by
    rw [← h j hj]
    simp [List.getD, hl, hj]).symm
  rw [e]
  refine ⟨_, rfl, dl_ints4 fun a ha => ?_⟩
  obtain ⟨j, hj, rfl⟩ := List.mem_iff_getElem.1 ha
  have h1 := h j (by omega)
  have h2 : (l.map (A.val g)).getD j 0 = (l[j]).val g := by simp [List.getD, hj]
  rw [← h2, h1]
  exact hin j (by omega)
theorem keep_case : CaseOk g 66 keepSt := fun args st v st' h hg => by
  unfold keepSt at h
  split at h
  · rename_i n o l
    split at h
    · rename_i xa hxa
      rw [nbeq, Bool.cond_decide] at h
      split at h
      · rename_i hlen
        split at h
        · cases h
        · rename_i bk hbk
          split at h
          · rename_i hb hl
            obtain ⟨hfr, hl⟩ := free_lk hl
            split at h
            rename_i ys rh st1 h1
            split at h
            rename_i h0 st2 h2
            split at h
            rename_i zs h' st3 h3
            cases h
            have hg3 : Good U g st3 := ⟨hg.defs, hg.cs, hg.ci, hg.rg, hg.ok⟩
            obtain ⟨g2, s3, e3, e4⟩ := clampL_ok h3 hg3
            obtain ⟨g1, s2, e2⟩ := orA_ok h2 g2
            obtain ⟨g0, s1, e1, y4, e5⟩ := keptQ_ok h1 (by simp [hlen]) g1
            have hs := (s1.trans s2).trans s3
            refine ⟨g0, fun r w vs hI hv => ?_⟩
            match vs, hv with
            | [x, y], ⟨hx, hy, _⟩ =>
              obtain ⟨q, hq, rfl⟩ := den_p hx
              obtain ⟨rfl, hin⟩ := cells_row4 hxa hlen hy
              obtain ⟨k1, k2⟩ := flag_mem (h' := h') (st' := { st3 with heap := hset st3.heap n ⟨bk.cells.set o (.b h'), bk.ty, bk.kd⟩ }) hbk hfr hl hI hq (by rw [hs.heap]) hs.next hs.resv
              refine (skeep_any q (r.f n + o) (cellF (xa.map (A.val g))) _ w k1).mono fun e w' hp => ?_
              obtain ⟨rfl, hk⟩ := hp
              have hL : (xa.map (A.val g)).length = 24 := by simpa using hlen
              rw [List.map_take] at e1 e5
              rw [List.map_drop] at e3 e4
              rw [keptH_list hL] at hk
              obtain ⟨m1, m2⟩ := k2 w' (by rw [e4, e2, e5, Bool.or_assoc]; exact hk)
              have z20 : zs.length = 20 := by
                have := congrArg List.length e3
                rw [boxI_len] at this
                simpa [hlen] using this
              refine ⟨r, _, rfl, den_row24 (by simp [y4, z20]) (fun j hj => ?_) (fun j hj => ?_), m1, m2⟩
              · rw [List.map_append]
                by_cases h4 : j < 4
                · rw [keptF_low hL h4, ← e1 j h4]
                  simp [List.getD, List.getElem?_append_left, y4, h4]
                · rw [keptF_high hL (by omega) hj, ← e3]
                  simp only [List.getD]
                  rw [List.getElem?_append_right (by simp [y4]; omega)]
                  simp [y4]
              · by_cases h4 : j < 4
                · rw [keptF_low hL h4]
                  have hT : ((xa.map (A.val g)).take 4).length = 4 := by simp [hlen]
                  have := near_bd (keptL_len hT) (keptL_near hT) ((keptL ((xa.map (A.val g)).take 4)).getD j 0) (by
                    have hj' : j < (keptL ((xa.map (A.val g)).take 4)).length := by rw [keptL_len hT]; omega
                    simp [List.getD, hj'])
                  exact inK_i64.2 (by omega)
                · rw [keptF_high hL (by omega) hj, box_high hL (by omega) hj]
                  exact clamp_in _ _
          · cases h
      · cases h
    · cases h
  · cases h
theorem clamp_caseS : CaseOk g 130 clampSt := fun args st v st' h hg => by
  unfold clampSt at h
  split at h
  · rename_i n o l
    split at h
    · rename_i xa hxa
      rw [nbeq, Bool.cond_decide] at h
      split at h
      · rename_i hlen
        split at h
        · cases h
        · rename_i bk hbk
          split at h
          · rename_i hb hl
            obtain ⟨hfr, hl⟩ := free_lk hl
            split at h
            rename_i zs h' st3 h3
            cases h
            have hg3 : Good U g st3 := ⟨hg.defs, hg.cs, hg.ci, hg.rg, hg.ok⟩
            obtain ⟨g2, hs, e3, e4⟩ := clampL_ok h3 hg3
            refine ⟨g2, fun r w vs hI hv => ?_⟩
            match vs, hv with
            | [x, y], ⟨hx, hy, _⟩ =>
              obtain ⟨q, hq, rfl⟩ := den_p hx
              obtain ⟨rfl, hin⟩ := cells_row4 hxa hlen hy
              obtain ⟨k1, k2⟩ := flag_mem (h' := h') (st' := { st3 with heap := hset st3.heap n ⟨bk.cells.set o (.b h'), bk.ty, bk.kd⟩ }) hbk hfr hl hI hq (by rw [hs.heap]) hs.next hs.resv
              refine (sclamp_any q (r.f n + o) (cellF (xa.map (A.val g))) _ w k1).mono fun e w' hp => ?_
              obtain ⟨rfl, hk⟩ := hp
              have hL : (xa.map (A.val g)).length = 24 := by simpa using hlen
              rw [List.map_drop] at e3 e4
              obtain ⟨m1, m2⟩ := k2 w' (by rw [e4, drop4 hL, boxOr_box]; exact hk)
              have z20 : zs.length = 20 := by
                have := congrArg List.length e3
                rw [boxI_len] at this
                simpa [hlen] using this
              refine ⟨r, _, rfl, den_row24 (by simp [hlen, z20]) (fun j hj => ?_) (fun j hj => ?_), m1, m2⟩
              · rw [List.map_append]
                unfold boxed
                by_cases h4 : j < 4
                · rw [if_pos h4]
                  unfold cellF
                  simp only [List.getD]
                  rw [List.getElem?_append_left (by simp [hlen]; omega)]
                  simp [h4]
                · rw [if_neg h4, ← box_high hL (by omega) hj, ← e3]
                  simp only [List.getD]
                  rw [List.getElem?_append_right (by simp [hlen]; omega)]
                  simp [hlen]
              · unfold boxed
                by_cases h4 : j < 4
                · rw [if_pos h4]
                  exact inK_i64.2 (cell_in4 hin j)
                · rw [if_neg h4]
                  exact clamp_in _ _
          · cases h
      · cases h
    · cases h
  · cases h
end
theorem near_congr {f h : Nat → Int} (e : ∀ j, j < 4 → f j = h j) : nearQ f = nearQ h := by
  unfold nearQ
  simp only [sqS, e 0 (by omega), e 1 (by omega), e 2 (by omega), e 3 (by omega)]
theorem good_congr {f h : Nat → Int} (e : ∀ j, j < 24 → f j = h j) : goodQ f = goodQ h := by
  have hb : inBox f 24 = inBox h 24 := by
    rw [Bool.eq_iff_iff, inBox_iff, inBox_iff]
    exact ⟨fun k j hj => by rw [← e j hj]; exact k j hj, fun k j hj => by rw [e j hj]; exact k j hj⟩
  unfold goodQ
  rw [hb, near_congr fun j hj => e j (by omega)]
def sumsSt : Sum :=
  orS (one 66 keepSt) <|
  orS (one 130 clampSt) <|
  orS (one 151 unitS) <|
  orS (one 128 nearS) <|
  orS (one 132 nearS) <|
  orS (one 70 goodSt) <|
  orS (one 71 goodSt) <|
  noSum
theorem sumsSt_ok (g : Sg) : CallOk Try.prog U g sumsSt :=
  orS_ok (one_ok keep_case) <|
  orS_ok (one_ok clamp_caseS) <|
  orS_ok (one_ok (unitS_ok unit_any)) <|
  orS_ok (one_ok near_case) <|
  orS_ok (one_ok rnear_case) <|
  orS_ok (one_ok (goodSt_ok sgood_any)) <|
  orS_ok (one_ok (goodSt_ok srgood_any)) <|
  noSum_ok
end
end Go.Proofs.Ytdleeeahonfnkaa.SX
