/- A call whose text the runner tells, made a known call: a flag that lies alone in its block, and whole numbers. -/
import Derived.Test.YtbpccdagmaiblaaDoorSE
namespace Go.Proofs.YtbpccdagmaiblaaDoor.SX
open Go Go.RowKit
noncomputable section

/-- The start: a flag alone in its block, and whole numbers. -/
def startC (ty : TypeId) (ks : List (Option IntKind)) (facts : List (Bool × A × A × Bool)) : List V × St :=
  match inCs 0 (none :: ks) { st0 with nv := ks.length + 1, ci := facts } with
  | (c0 :: cs, st) => (.w (.c (.p 1 0)) :: cs.map (fun c => .w (.c c)), { st with heap := [(1, ⟨[c0], ty, .own⟩)], next := 2 })
  | (_, st) => ([], st)
/-- What comes out: a number, a flag, what has been named. -/
def outC (ty : TypeId) (m : Nat) (facts : List (Bool × A × A × Bool)) (ds : Defs) (rv h' : A) (r : Option (V × St)) : Bool := match r with
  | some (.w (.c (.i .i64 v)), st) => A.beq v rv && ((match hget st.heap 1 with
      | some ⟨[.b h], t, .own⟩ => A.beq h h' && Nat.beq t ty
      | _ => false) && ((!st.bad && st.cs.isEmpty && (decide (st.ci = facts) && (isE st.rg || rgAll st id st.rg))) && (wfD m st.nv (defL st st.nv) && decide (defL st st.nv = ds))))
  | _ => false
def argsG (hb : Bool) (az : List Int) : Sg := fun i => match i with
  | 0 => b2i hb
  | i + 1 => az.getD i 0
theorem VL_of_DL {g : Sg} {r : Rho} : ∀ {cs : List C} {vs : List Value}, DL g r cs vs → VL g r (cs.map fun c => V.w (.c c)) vs
  | [], [], _ => trivial
  | [], _ :: _, h => by simp [DL] at h
  | _ :: _, [], h => by simp [DL] at h
  | c :: cs, v :: vs, h => by
    simp only [DL, List.map_cons, List.cons.injEq] at h
    exact ⟨h.1, VL_of_DL (cs := cs) h.2⟩
theorem fitInts {g : Sg} : ∀ {az : List Int} {i : Nat}, (∀ j, j < az.length → g (i + j) = az.getD j 0) → (∀ a ∈ az, inK .i64 a) → fitCs g i (az.map fun _ => some .i64) (az.map (Value.int .i64))
  | [], _, _, _ => trivial
  | a :: az, i, h, hk => by
    have h0 := h 0 (by simp)
    simp only [Nat.add_zero, List.getD_cons_zero] at h0
    refine ⟨⟨by rw [h0], by rw [h0]; exact hk a (List.mem_cons_self ..)⟩, fitInts (fun j hj => ?_) fun b hb => hk b (List.mem_cons_of_mem _ hb)⟩
    have := h (j + 1) (by simp; omega)
    simp only [List.getD_cons_succ] at this
    rw [← this]; congr 1; omega
theorem fun_call {P : Program} {L : Lk} [LkOk P L] {X : FuncId → Nat} (hN : NamesOk P X) (hmix : P.follows .mixedOrders = true) {f : FuncId} {sum : Sum} (hs : ∀ g, CallOk P U g sum) {mc : FuncId → Bool} {ml : FuncId → Nat} {K d : Nat}
    {ty : TypeId} {facts : List (Bool × A × A × Bool)} {ds : Defs} {rv h' : A} (az : List Int)
    (h : outC ty (az.length + 1) facts ds rv h' (runPol L U X sum mc ml K d f (startC ty (az.map fun _ => some .i64) facts).1 (startC ty (az.map fun _ => some .i64) facts).2) = true)
    (hb : Bool) (hf : ∀ g : Sg, (∀ j, j < az.length + 1 → g j = argsG hb az j) → EqsP g ds → ∀ c ∈ facts, ciOk g c)
    (hk : ∀ a ∈ az, inK .i64 a) (q : Nat) (w : World) (hw : w.heap[q]? = some (.cells ⟨[.bool hb]⟩ ty (0, 0))) :
    ∃ g : Sg, (∀ j, j < az.length + 1 → g j = argsG hb az j) ∧ EqsP g ds ∧
      Calls P f ⟨.pointer (some ⟨q, 0, none⟩) :: az.map (Value.int .i64)⟩ w fun e w' => e = .returned (.int .i64 (rv.val g)) ∧ inK .i64 (rv.val g) ∧ FlW q 0 (ieq (h'.val g) 1) w w' := by
  unfold outC at h
  split at h
  · rename_i v st' he
    simp only [Bool.and_eq_true] at h
    obtain ⟨hv, hh, ⟨⟨⟨h2, h3⟩, h4, h6⟩, h5, h7⟩⟩ := h
    obtain rfl := A.beq_eq hv
    rw [decide_eq_true_eq] at h7
    have h3 : st'.cs = [] := by simpa using h3
    rw [decide_eq_true_eq] at h4
    obtain ⟨k1, k2⟩ := solve_ok U (argsG hb az) h5
    generalize hg' : solve U (defL st' st'.nv) (argsG hb az) = g at *
    have hd : DefsOk U g st' := fun n p xa hn => k1 _ (defL_mem hn (getD_lt hn).1)
    have hE0 : EqsP g ds := by rw [← h7]; exact eqs_of k1
    have hci : ∀ c ∈ st'.ci, ciOk g c := fun c hc => (by rw [h4] at hc; exact hf g (fun j hj => k2 j hj) hE0 c hc)
    have hrg : ∀ n lo hi, st'.rg.get n = some (lo, hi) → lo ≤ g n ∧ g n ≤ hi := by
      rw [Bool.or_eq_true] at h6
      rcases h6 with h6 | h6
      · rw [isE_eq h6]; exact fun n lo hi h => (by simp [PT.get_e] at h)
      · exact rgCheck_ok hd hci h6
    have hg : Good U g st' := ⟨hd, fun c hc => (by rw [h3] at hc; cases hc), hci, hrg, by simpa using h2⟩
    refine ⟨g, fun j hj => k2 j hj, hE0, ?_⟩
    obtain ⟨hg1, k⟩ := runPol_ok hN hmix hs mc ml K d g f _ _ _ st' he hg
    have hlen : (az.map fun _ => (some IntKind.i64 : Option IntKind)).length = az.length := by simp
    generalize hin : inCs 0 (none :: az.map fun _ => (some IntKind.i64 : Option IntKind)) { st0 with nv := (az.map fun _ => (some IntKind.i64 : Option IntKind)).length + 1, ci := facts } = y at *
    obtain ⟨xs, stt⟩ := y
    cases xs with
    | nil =>
      exfalso
      unfold inCs at hin
      split at hin
      split at hin
      cases hin
    | cons c0 cs =>
    have hst1 : startC ty (az.map fun _ => some .i64) facts = (.w (.c (.p 1 0)) :: cs.map (fun c => .w (.c c)), { stt with heap := [(1, ⟨[c0], ty, .own⟩)], next := 2 }) := by unfold startC; rw [hin]
    rw [hst1] at k hg1
    have hg2 : Good U g stt := ⟨hg1.defs, hg1.cs, hg1.ci, hg1.rg, hg1.ok⟩
    let r : Rho := ⟨fun n => if n = 1 then some q else if n = 0 then some globG else none, fun _ => 0, fun _ => 0, fun n => decide (n = 0), fun _ => default, fun _ => false, ⟨rfl, rfl⟩⟩
    obtain ⟨_, hsame, hval⟩ := inCs_ok (z := r) hin hg2
    have hfit : fitCs g 0 (none :: az.map fun _ => some .i64) (.bool hb :: az.map (Value.int .i64)) := by
      refine ⟨?_, fitInts (fun j hj => ?_) hk⟩
      · show Value.bool hb = .bool (ieq (g 0) 1)
        rw [k2 0 (by omega)]
        show _ = Value.bool (ieq (b2i hb) 1)
        rw [ieq_b2i]
      · rw [k2 (0 + 1 + j) (by omega)]
        have : 0 + 1 + j = j + 1 := by omega
        rw [this]; rfl
    have hD := hval _ hfit
    have hD0 : c0.den g r = some (.bool hb) ∧ DL g r cs (az.map (Value.int .i64)) := by
      simp only [DL, List.map_cons, List.cons.injEq] at hD
      exact hD
    have hres : stt.resv = [] := hsame.resv
    have hG : globG < w.heap.size := by
      have := (Array.getElem?_eq_some_iff.1 hw).1
      unfold globG; omega
    have hm : ∀ n b, r n = some b → (n = 1 ∧ b = q) ∨ (n = 0 ∧ b = globG) := fun n b h1 => by
      have h1 : (if n = 1 then some q else if n = 0 then some globG else none) = some b := h1
      split at h1
      · rename_i e; cases h1; exact .inl ⟨e, rfl⟩
      · split at h1
        · rename_i e; cases h1; exact .inr ⟨e, rfl⟩
        · cases h1
    have hone : ∀ n, (hget [((1 : Nat), (⟨[c0], ty, .own⟩ : Bk))] n).isSome = true → n = 1 := fun n hn => by
      simp only [hget, nbeq, Bool.cond_decide] at hn
      split at hn
      · rename_i e; exact e.symm
      · cases hn
    have hI : Inv g r { stt with heap := [(1, ⟨[c0], ty, .own⟩)], next := 2 } w := by
      refine ⟨fun n bk b hn hb' => ?_, fun n m' b hn hm' _ _ _ => (hone n hn).trans (hone m' hm').symm, fun n b h1 => ?_, fun n b h1 => ?_, fun n h1 => ?_, fun _ _ _ => rfl, fun _ h1 => (by cases h1)⟩
      · have e := hone n (isSome_of hn)
        subst e
        have hb' : some q = some b := hb'
        cases hb'
        have hn : some (⟨[c0], ty, .own⟩ : Bk) = some bk := hn
        cases hn
        refine .inr ⟨rfl, [], [.bool hb], [], ?_, rfl, ?_, rfl, rfl⟩
        · simpa using hw
        · show List.map _ _ = _
          simp [hD0.1]
      · refine ⟨?_, ?_⟩
        · show n < 2
          rcases hm n b h1 with ⟨e, _⟩ | ⟨e, _⟩ <;> omega
        · show n ∉ stt.resv
          rw [hres]; simp
      · rcases hm n b h1 with ⟨_, e⟩ | ⟨_, e⟩
        · rw [e]; exact (Array.getElem?_eq_some_iff.1 hw).1
        · rw [e]; exact hG
      · have h1 : n ∈ stt.resv := h1
        rw [hres] at h1; simp at h1
    have hVL : VL g r (.w (.c (.p 1 0)) :: cs.map (fun c => .w (.c c))) (.pointer (some ⟨q, 0, none⟩) :: az.map (Value.int .i64)) := ⟨rfl, VL_of_DL hD0.2⟩
    refine (k r w _ hI hVL).mono fun e w' hp => ?_
    obtain ⟨r', u, rfl, hden, hI', hE⟩ := hp
    refine ⟨by rw [den_i hden], den_in hden, ⟨hE.os, hE.tape, hE.output, by rw [size_set]; exact hE.size, fun b hlt => ?_⟩⟩
    have hr' : r' 1 = some q := (hE.sub.at_ 1 q rfl).1
    by_cases e : b = q
    · subst e
      split at hh
      · rename_i h0 t hget0
        rw [Bool.and_eq_true] at hh
        obtain ⟨e1, e2⟩ := hh
        obtain rfl := A.beq_eq e1
        have e2 : t = ty := by rw [nbeq, decide_eq_true_eq] at e2; exact e2
        subst e2
        obtain ⟨_, pre, vs, post, hw', _, hDL, hside⟩ := (hI'.holds 1 _ b hget0 hr').free rfl
        obtain ⟨rfl, rfl⟩ : pre = [] ∧ post = [] := hside
        have hvs : vs = [.bool (ieq (h0.val g) 1)] := by
          match vs, hDL with
          | [x], hDL =>
            simp only [DL, List.map_cons, List.map_nil, List.cons.injEq, and_true, C.den, Option.some.injEq] at hDL
            rw [hDL]
          | [], hDL => simp [DL] at hDL
          | _ :: _ :: _, hDL => simp [DL] at hDL
        rw [hw', set_block hw, hvs]
        rfl
      · cases hh
    · rw [hE.frame b hlt (fun n hn => ?_), Below.heap_setCell _ _ _ _ e]
      rcases hm n b hn with ⟨_, e'⟩ | ⟨e', _⟩
      · exact absurd e' e
      · show decide (n = 0) = true
        exact decide_eq_true e'
  · cases h

/-! ### Known calls -/
def intsV : List V → Option (List A)
  | [] => some []
  | .w (.c (.i .i64 a)) :: r => match intsV r with
    | some l => some (a :: l)
    | none => none
  | _ => none
/-- The bounds of y, as conditions on sums with it alone tell them. -/
def linCi (st : St) (y : A) : List (Bool × A × A × Bool) → Int → Int → Int × Int
  | [], lo, hi => (lo, hi)
  | (e, p, q, v) :: r, lo, hi => bif e then linCi st y r lo hi else match linF st q, linF st p with
    | (i, m), (j, n) => match addF (-1) n m with
      | [(c, z)] => bif A.beq z y then (bif ieq c 1 then (bif v then linCi st y r (imax lo (1 - (i - j))) hi else linCi st y r lo (imin hi (-(i - j))))
          else bif ieq c (-1) then (bif v then linCi st y r lo (imin hi (i - j - 1)) else linCi st y r (imax lo (i - j)) hi) else linCi st y r lo hi) else linCi st y r lo hi
      | _ => linCi st y r lo hi
theorem linCi_ok {g : Sg} {st : St} (hg : Good U g st) {y : A} : ∀ {l : List (Bool × A × A × Bool)} {lo hi : Int}, (∀ c ∈ l, ciOk g c) → lo ≤ y.val g → y.val g ≤ hi → (linCi st y l lo hi).1 ≤ y.val g ∧ y.val g ≤ (linCi st y l lo hi).2
  | [], lo, hi, _, h1, h2 => ⟨h1, h2⟩
  | (e, p, q, v) :: r, lo, hi, hc, h1, h2 => by
    have ih : ∀ {lo hi : Int}, lo ≤ y.val g → y.val g ≤ hi → (linCi st y r lo hi).1 ≤ y.val g ∧ y.val g ≤ (linCi st y r lo hi).2 := fun h1 h2 => linCi_ok hg (fun c hc' => hc c (List.mem_cons_of_mem _ hc')) h1 h2
    unfold linCi
    cases e
    · rw [cond_false]
      have e1 := linF_val hg q
      have e2 := linF_val hg p
      generalize linF st q = x at *
      generalize linF st p = x' at *
      obtain ⟨i, m⟩ := x
      obtain ⟨j, n⟩ := x'
      simp only at e1 e2 ⊢
      have hv : (!ile (q.val g) (p.val g)) = v := hc _ (List.mem_cons_self ..)
      rw [ile_iff] at hv
      split
      · rename_i c z hm
        have ha : valF g (addF (-1) n m) = -1 * valF g n + valF g m := addF_val
        rw [hm] at ha
        simp only [valF] at ha
        cases hz : A.beq z y
        · exact ih h1 h2
        · obtain rfl := A.beq_eq hz
          rw [cond_true]
          cases hc1 : ieq c 1
          · rw [cond_false]
            cases hc2 : ieq c (-1)
            · exact ih h1 h2
            · rw [cond_true]
              have hc2 : c = -1 := by rw [ieq_iff, decide_eq_true_eq] at hc2; exact hc2
              subst hc2
              cases v
              · simp only [Bool.not_eq_false', decide_eq_true_eq] at hv
                refine ih ?_ h2
                rw [imax_eq]; split <;> omega
              · simp only [Bool.not_eq_true', decide_eq_false_iff_not] at hv
                refine ih h1 ?_
                rw [imin_eq]; split <;> omega
          · rw [cond_true]
            have hc1 : c = 1 := by rw [ieq_iff, decide_eq_true_eq] at hc1; exact hc1
            subst hc1
            cases v
            · simp only [Bool.not_eq_false', decide_eq_true_eq] at hv
              refine ih h1 ?_
              rw [imin_eq]; split <;> omega
            · simp only [Bool.not_eq_true', decide_eq_false_iff_not] at hv
              refine ih ?_ h2
              rw [imax_eq]; split <;> omega
      · exact ih h1 h2
    · exact ih h1 h2
/-- Bounds of a number and a multiple of another. -/
def rangeL (st : St) (a : A) : Rg := match linF st a with
  | (k, [(c, y)]) => (match rangeOf st y with
    | some (lo, hi) => mulAdd c (some (linCi st y st.ci lo hi)) (some (k, k))
    | none => none)
  | _ => rangeOf st a
theorem rangeL_ok {g : Sg} {st : St} (hg : Good U g st) (a : A) : within (rangeL st a) (a.val g) := by
  unfold rangeL
  have e1 := linF_val hg a
  generalize linF st a = x at *
  obtain ⟨k, l⟩ := x
  split
  · rename_i c y e
    cases e
    simp only [valF] at e1
    split
    · rename_i lo hi hr
      have k1 := range_ok hg y _ _ hr
      have k2 := linCi_ok hg (y := y) hg.ci k1.1 k1.2
      have e2 : a.val g = c * y.val g + k := by omega
      rw [e2]
      exact mulAdd_ok' (within_pair k2.1 k2.2) (within_some (Int.le_refl k) (Int.le_refl k))
    · exact within_none _
  · exact range_ok hg a
/-- Within these bounds, where there are any. -/
def inBs (st : St) : List (Option (Int × Int)) → List A → Bool
  | [], [] => true
  | none :: bs, _ :: l => inBs st bs l
  | some (lo, hi) :: bs, a :: l => inBnd lo hi (rangeL st a) && inBs st bs l
  | _, _ => false
def BsOk : List (Option (Int × Int)) → List Int → Prop
  | [], [] => True
  | none :: bs, _ :: l => BsOk bs l
  | some (lo, hi) :: bs, a :: l => (lo ≤ a ∧ a ≤ hi) ∧ BsOk bs l
  | _, _ => False
theorem inBs_ok {g : Sg} {st : St} (hg : Good U g st) : ∀ {bs : List (Option (Int × Int))} {l : List A}, inBs st bs l = true → BsOk bs (l.map (A.val g))
  | [], [], _ => trivial
  | none :: bs, _ :: l, h => inBs_ok hg (bs := bs) h
  | some (lo, hi) :: bs, a :: l, h => by
    unfold inBs at h
    rw [Bool.and_eq_true] at h
    exact ⟨inBnd_ok h.1 (rangeL_ok hg a), inBs_ok hg h.2⟩
  | [], _ :: _, h => by simp [inBs] at h
  | some _ :: _, [], h => by simp [inBs] at h
  | none :: _, [], h => by simp [inBs] at h
/-- A flag alone in its block, whole numbers. -/
def ownS (ty : TypeId) (bs : List (Option (Int × Int))) (pv ph : Nat) (args : List V) (st : St) : Option (V × St) := match args with
  | .w (.c (.p n 0)) :: rest => match hget st.heap n with
    | some ⟨[.b _], t, .own⟩ => match intsV rest with
      | some xa => bif Nat.beq t ty && inBs st bs xa then flagA n 0 pv ph xa st else none
      | none => none
    | _ => none
  | _ => none
theorem intsV_ok {g : Sg} {r : Rho} : ∀ {l : List V} {xa : List A} {vs : List Value}, intsV l = some xa → VL g r l vs → vs = (xa.map (A.val g)).map (Value.int .i64) ∧ ∀ a ∈ xa.map (A.val g), inK .i64 a
  | [], xa, vs, h, hv => by
    cases h
    cases vs with
    | nil => exact ⟨rfl, fun _ h => by cases h⟩
    | cons _ _ => exact hv.elim
  | x :: l, xa, vs, h, hv => by
    unfold intsV at h
    split at h
    · cases ‹_ :: _ = []›
    · rename_i a r' e
      cases e
      split at h
      · rename_i l' hl
        cases h
        cases vs with
        | nil => exact hv.elim
        | cons v vs =>
          obtain ⟨h1, h2⟩ := hv
          obtain ⟨e1, e2⟩ := intsV_ok hl h2
          have i1 := den_in h1
          refine ⟨by rw [den_i h1, e1]; rfl, fun b hb => ?_⟩
          rcases List.mem_cons.1 hb with rfl | hb
          · exact i1
          · exact e2 b hb
      · cases h
    · cases h
theorem own_case {g : Sg} {f : FuncId} {ty : TypeId} {bs : List (Option (Int × Int))} {pv ph : Nat}
    (hin : ∀ az : List Int, inK .i64 (U pv az))
    (hC : ∀ (az : List Int), BsOk bs az → (∀ a ∈ az, inK .i64 a) → ∀ (q : Nat) (hb : Bool) (w : World), w.heap[q]? = some (.cells ⟨[.bool hb]⟩ ty (0, 0)) →
      Calls Tryd.prog f ⟨.pointer (some ⟨q, 0, none⟩) :: az.map (Value.int .i64)⟩ w fun e w' => e = .returned (.int .i64 (U pv az)) ∧ FlW q 0 (hb || ieq (U ph az) 1) w w') :
    CaseOk g f (ownS ty bs pv ph) := fun args st v st' h hg => by
  unfold ownS at h
  split at h
  · rename_i n rest
    split at h
    · rename_i hx t hget0
      split at h
      · rename_i xa hxa
        cases hc : Nat.beq t ty && inBs st bs xa
        · rw [hc] at h; cases h
        · rw [hc, cond_true] at h
          rw [Bool.and_eq_true, nbeq, decide_eq_true_eq] at hc
          obtain ⟨rfl, hlen⟩ := hc
          have hgs := (flag_call (f := 0) (vs := []) h hg).1
          refine ⟨(flag_call (f := 0) (vs := []) h hg).1, fun r w vs hI hv => ?_⟩
          cases vs with
          | nil => exact hv.elim
          | cons x vs =>
          obtain ⟨h1, h2⟩ := hv
          obtain ⟨rfl, hk⟩ := intsV_ok hxa h2
          refine (flag_call h hg).2 r w x hI h1 (hin _) fun q o hb hq hF => ?_
          obtain ⟨q', hq', hx'⟩ := den_p h1
          obtain ⟨_, pre, us, post, hw', hpre, hDL, hside⟩ := (hI.holds n _ q hget0 hq.1).free rfl
          obtain ⟨rfl, rfl⟩ : pre = [] ∧ post = [] := hside
          have hus : us = [.bool (ieq (hx.val g) 1)] := by
            match us, hDL with
            | [y], hDL =>
              simp only [DL, List.map_cons, List.map_nil, List.cons.injEq, and_true, C.den, Option.some.injEq] at hDL
              rw [hDL]
            | [], hDL => simp [DL] at hDL
            | _ :: _ :: _, hDL => simp [DL] at hDL
          have hc := hF.cell
          rw [cell_of_heap hw', hus] at hc
          have ho : o = 0 := by
            rcases Nat.eq_zero_or_pos o with e | e
            · exact e
            · have : ([] ++ ([Value.bool (ieq (hx.val g) 1)] ++ []))[o]? = none := List.getElem?_eq_none_iff.2 (by simp; omega)
              rw [this] at hc; cases hc
          subst ho
          have hb' : ieq (hx.val g) 1 = hb := by simpa using hc
          refine hC (xa.map (A.val g)) (inBs_ok hgs hlen) hk q hb w ?_
          rw [hw', hus, hb']; rfl
      · cases h
    · cases h
  · cases h
/-- The same, where the flag is left as it was. -/
def own0S (ty : TypeId) (bs : List (Option (Int × Int))) (pv : Nat) (args : List V) (st : St) : Option (V × St) := match args with
  | .w (.c (.p n 0)) :: rest => match hget st.heap n with
    | some ⟨[.b hx], t, .own⟩ => match intsV rest with
      | some xa => bif Nat.beq t ty && inBs st bs xa then (match valA pv xa st with
          | (rv, st1) => some (.w (.c (.i .i64 rv)), { st1 with heap := hset st1.heap n ⟨[.b hx], t, .own⟩ })) else none
      | none => none
    | _ => none
  | _ => none
theorem own0_case {g : Sg} {f : FuncId} {ty : TypeId} {bs : List (Option (Int × Int))} {pv : Nat}
    (hin : ∀ az : List Int, inK .i64 (U pv az))
    (hC : ∀ (az : List Int), BsOk bs az → (∀ a ∈ az, inK .i64 a) → ∀ (q : Nat) (hb : Bool) (w : World), w.heap[q]? = some (.cells ⟨[.bool hb]⟩ ty (0, 0)) →
      Calls Tryd.prog f ⟨.pointer (some ⟨q, 0, none⟩) :: az.map (Value.int .i64)⟩ w fun e w' => e = .returned (.int .i64 (U pv az)) ∧ FlW q 0 hb w w') :
    CaseOk g f (own0S ty bs pv) := fun args st v st' h hg => by
  unfold own0S at h
  split at h
  · rename_i n rest
    split at h
    · rename_i hx t hget0
      split at h
      · rename_i xa hxa
        cases hc : Nat.beq t ty && inBs st bs xa
        · rw [hc] at h; cases h
        · rw [hc, cond_true] at h
          rw [Bool.and_eq_true, nbeq, decide_eq_true_eq] at hc
          obtain ⟨rfl, hlen⟩ := hc
          split at h
          rename_i rv st1 h1
          cases h
          have hg1 : Good U g st1 := ⟨hg.defs, hg.cs, hg.ci, hg.rg, hg.ok⟩
          obtain ⟨g0, s1, e1⟩ := valA_ok h1 hg1
          refine ⟨g0, fun r w vs hI hv => ?_⟩
          cases vs with
          | nil => exact hv.elim
          | cons x vs =>
          obtain ⟨hp, h2⟩ := hv
          obtain ⟨rfl, hk⟩ := intsV_ok hxa h2
          obtain ⟨q, hq, rfl⟩ := den_p hp
          obtain ⟨hro, pre, us, post, hw', hpre, hDL, hside⟩ := (hI.holds n _ q hget0 hq).free rfl
          obtain ⟨rfl, rfl⟩ : pre = [] ∧ post = [] := hside
          have hus : us = [.bool (ieq (hx.val g) 1)] := by
            match us, hDL with
            | [y], hDL =>
              simp only [DL, List.map_cons, List.map_nil, List.cons.injEq, and_true, C.den, Option.some.injEq] at hDL
              rw [hDL]
            | [], hDL => simp [DL] at hDL
            | _ :: _ :: _, hDL => simp [DL] at hDL
          have hf0 : r.f n = 0 := hpre.symm
          obtain ⟨_, hM⟩ := flag_mem (h' := hx) (o := 0) (st' := { st1 with heap := hset st1.heap n ⟨[.b hx], t, .own⟩ }) hget0 rfl rfl hI hq (by rw [s1.heap]; rfl) s1.next s1.resv
          rw [hf0] at hM ⊢
          refine (hC (xa.map (A.val g)) (inBs_ok g0 hlen) hk q (ieq (hx.val g) 1) w (by rw [hw', hus]; rfl)).mono fun e w' hp => ?_
          obtain ⟨rfl, hF⟩ := hp
          obtain ⟨k1, k2⟩ := hM w' hF
          exact ⟨r, _, rfl, e1 ▸ mk_i r (by rw [e1]; exact hin _), k1, k2⟩
      · cases h
    · cases h
  · cases h
end
end Go.Proofs.YtbpccdagmaiblaaDoor.SX
