/- The table of declinations as the package-level variable holds it; known calls: sines. -/
import Derived.Test.YtbpccdagmaiblaaDoorSxHg
import Derived.Test.YtbpccdagmaiblaaDoorSxW
import Derived.Test.YtbpccdagmaiblaaDoorSxY
import Derived.Test.YtbpccdagmaiblaaDoorKA
namespace Go.Proofs.YtbpccdagmaiblaaDoor.SX
open Go Go.RowKit
noncomputable section
def tbE : List Int := [3000, 6000, -2000, -1500, -6000, -9000, 3000, 2200, 2500, 500, -2200, -3800, 0, 2200, 950, 900, -1400, -500, -300, 100, 950, 500, 1500, -1700, 100, 700, -800, 500, 1000, 4000, -3000, 500, 3500, -1200, 1000]
/-- All but one. -/
def butS (f0 : FuncId) (s : Sum) : Sum := fun f args st => bif Nat.beq f f0 then none else s f args st
theorem butS_ok {P : Program} {U : Nat → List Int → Int} {g : Sg} {f0 : FuncId} {s : Sum} (h : CallOk P U g s) : CallOk P U g (butS f0 s) := fun f args st v st' he => by
  unfold butS at he
  cases hb : Nat.beq f f0
  · rw [hb] at he
    exact h f args st v st' he
  · rw [hb] at he; cases he
def sumsE : Sum := butS 18 <|
  orS (one 20 (ownS 25 [none] 36 1)) <|
  orS (one 34 (ownS 43 [none] 36 1)) sums3
theorem sumsE_ok (g : Sg) : CallOk Tryd.prog U g sumsE :=
  butS_ok <| orS_ok (one_ok sin_case) <| orS_ok (one_ok sinQ_case) (sums3_ok g)
/-- The table lies in the name 0. -/
def isTb (st : St) : Bool := match hget st.heap 0 with
  | some ⟨l, _, .vw⟩ => decide (l = tbE.map (fun z => C.i .i64 (.k z)))
  | _ => false
theorem tbE_in : ∀ z ∈ tbE, -9223372036854775808 ≤ z ∧ z ≤ 9223372036854775807 := by
  have h : tbE.all (fun z => decide (-9223372036854775808 ≤ z) && decide (z ≤ 9223372036854775807)) = true := by decide +kernel
  exact fun z hz => by
    have := List.all_eq_true.1 h z hz
    rw [Bool.and_eq_true, decide_eq_true_eq, decide_eq_true_eq] at this
    exact this
theorem isTb_ok {g : Sg} {r : Rho} {st : St} {w : World} (h : isTb st = true) (hI : Inv g r st w) : globG < w.heap.size ∧ ∀ i z, tbE[i]? = some z → w.cell? ⟨globG, i, none⟩ = some (.int .i64 z) := by
  have h0 : r 0 = some globG := r.gl.1
  refine ⟨hI.lt 0 globG h0, fun i z hz => ?_⟩
  unfold isTb at h
  split at h
  · rename_i l ty hb
    rw [decide_eq_true_eq] at h
    subst h
    obtain ⟨vs, h1, h2⟩ := (hI.holds 0 _ globG hb h0).read
    have e := DL.unique h1 (tb_den (g := g) (r := r) tbE_in)
    subst e
    have := h2 i (.int .i64 z) (by rw [List.getElem?_map, hz]; rfl)
    rw [r.gl.2, Nat.zero_add] at this
    exact this
  · cases h
set_option maxRecDepth 100000 in
theorem aw8_ran : lawG tbE [] [] [] (.k 1) (runPol lk U X sumsE never never0 100000 40 8 (startG tbE [] []).1 (startG tbE [] []).2) = true := by kernel_rfl
def awakeGS (args : List V) (st : St) : Option (V × St) := match args with
  | [] => bif isTb st then some (.w (.c (.b (.k 1))), st) else none
  | _ => none
theorem awakeG_case {g : Sg} : CaseOk g 8 awakeGS := fun args st v st' h hg => by
  unfold awakeGS at h
  split at h
  · cases ht : isTb st
    · rw [ht] at h; cases h
    · rw [ht] at h
      cases h
      refine ⟨hg, fun r w vs hI hv => ?_⟩
      match vs, hv with
      | [], _ =>
        obtain ⟨k1, k2⟩ := isTb_ok ht hI
        refine (law_trueG namesOk mixed (fun g => sumsE_ok g) aw8_ran (fun _ => 0) (fun _ _ _ => ⟨trivial, rfl⟩) [] w trivial k1 k2).mono fun e w' hp => ?_
        obtain ⟨rfl, hb⟩ := hp
        exact ⟨r, _, rfl, mk_b r (.k 1), (below_mem hI hb).1, (below_mem hI hb).2⟩
  · cases h
/-- With what the document tells of the origin run once. -/
def sumsW : Sum := orS (one 8 awakeGS) sumsE
theorem sumsW_ok (g : Sg) : CallOk Tryd.prog U g sumsW := orS_ok (one_ok awakeG_case) (sumsE_ok g)
/-- A size, always by its mark. -/
def absMk (args : List V) (st : St) : Option (V × St) := match args with
  | [.w (.c (.i .i64 a))] => (match app U (.u 12) [a] st with | (r, st') => some (.w (.c (.i .i64 r)), st'))
  | _ => none
theorem absMk_case {g : Sg} : CaseOk g 18 absMk := fun args st v st' h hg => by
  unfold absMk at h
  split at h
  · rename_i a
    split at h
    rename_i rv st1 happ
    cases h
    obtain ⟨h1, h2, h3⟩ := app_ok happ hg
    refine ⟨h1, fun r w vs hI hv => ?_⟩
    match vs, hv with
    | [x], ⟨hx, _⟩ =>
      obtain rfl := den_i hx
      refine (abs_any (a.val g) w).mono fun e w' hp => ?_
      obtain ⟨rfl, rfl⟩ := hp
      exact ⟨r, _, rfl, (by have h3 : rv.val g = absv (a.val g) := h3; rw [← h3]; exact mk_i r (by rw [h3]; exact absv_i64 _)), hI.same h2, Ext.refl _ _⟩
  · cases h
/-- A closed call that ends in a number. -/
def intOut (z : Int) (r : Option (V × St)) : Bool := match r with
  | some (.w (.c (.i .i64 (.k y))), st) => ieq y z && (Nat.beq st.nv 0 && !st.bad) && (st.cs.isEmpty && (st.ci.isEmpty && isE st.rg))
  | _ => false
theorem closed_int {P : Program} {L : Lk} [LkOk P L] {X : FuncId → Nat} (hN : NamesOk P X) (hmix : P.follows .mixedOrders = true) {f : FuncId} {sum : Sum} (hs : ∀ g, CallOk P U g sum) {K d : Nat} {a b z : Int} (ha : inK .i64 a) (hb : inK .i64 b)
    (h : intOut z (runPol L U X sum never never0 K d f [.w (.c (.i .i64 (.k a))), .w (.c (.i .i64 (.k b)))] { st0 with next := 1 }) = true) (w : World) (hG : globG < w.heap.size) :
    Calls P f ⟨[.int .i64 a, .int .i64 b]⟩ w fun e w' => (e = .returned (.int .i64 z) ∧ inK .i64 z) ∧ Below w.heap.size w w' := by
  unfold intOut at h
  split at h
  · rename_i y st' he
    rw [Bool.and_eq_true, Bool.and_eq_true, Bool.and_eq_true, Bool.and_eq_true, Bool.and_eq_true, nbeq, decide_eq_true_eq] at h
    obtain ⟨⟨h1, h2, h2'⟩, h3, h4, h5⟩ := h
    have h3 : st'.cs = [] := by simpa using h3
    have h4 : st'.ci = [] := by simpa using h4
    have hg : Good U (fun _ => 0) st' := ⟨fun n p xa hd => absurd (getD_lt hd).1 (by omega), fun c hc => (by rw [h3] at hc; cases hc), fun c hc => (by rw [h4] at hc; cases hc), fun n lo hi h => (by rw [isE_eq h5] at h; simp [PT.get_e] at h), by simpa using h2'⟩
    obtain ⟨_, k⟩ := runPol_ok hN hmix hs never never0 K d _ f _ _ _ st' he hg
    have hI : Inv (fun _ => 0) (rhoG []) { st0 with next := 1 } w := by
      refine ⟨fun n bk b hn _ => by simp [st0, hget] at hn, fun _ _ _ _ _ h => (by cases h), fun n b h => ?_, fun n b h => ?_, fun n h => by simp [st0] at h, fun _ _ _ => rfl, fun _ h => (by cases h)⟩
      · rcases rhoG_some h with ⟨e, _⟩ | ⟨j, a, l, c, _, e1, _, _⟩
        · exact ⟨by show n < 1; omega, by simp [st0]⟩
        · simp at e1
      · rcases rhoG_some h with ⟨_, e⟩ | ⟨j, a, l, c, _, e1, _, _⟩
        · rw [e]; exact hG
        · simp at e1
    have hv : VL (fun _ => 0) (rhoG []) [.w (.c (.i .i64 (.k a))), .w (.c (.i .i64 (.k b)))] [.int .i64 a, .int .i64 b] := ⟨mk_i _ (a := .k a) ha, mk_i _ (a := .k b) hb, trivial⟩
    refine (k (rhoG []) w _ hI hv).mono fun e w' hp => ?_
    obtain ⟨r', u, rfl, hd, _, hE⟩ := hp
    rw [ieq_iff, decide_eq_true_eq] at h1
    subst h1
    exact ⟨⟨by rw [den_i hd]; rfl, den_in hd⟩, ⟨hE.os, hE.tape, hE.output, hE.size, fun b hb => hE.frame b hb (fun _ _ => rfl)⟩⟩
  · cases h
def tabN (r k : Nat) : Int := tbE.getD (7 * r + k) 0 * 1073741824
set_option maxRecDepth 100000 in
theorem tab_ran : (List.range 5).all (fun r => (List.range 7).all fun k => intOut (tabN r k) (runPol lk U X sumsE never never0 100000 40 50 [.w (.c (.i .i64 (.k (.ofNat r)))), .w (.c (.i .i64 (.k (.ofNat k))))] { st0 with next := 1 })) = true := by kernel_rfl
/-- The number that it must be. -/
def ptOf (st : St) (a : A) : Option Nat := match rangeOf st a with
  | some (.ofNat lo, hi) => bif ieq (.ofNat lo) hi then some lo else none
  | _ => none
theorem ptOf_ok {g : Sg} {st : St} (hg : Good U g st) {a : A} {n : Nat} (h : ptOf st a = some n) : a.val g = (n : Int) := by
  unfold ptOf at h
  split at h
  · rename_i lo hi hr
    cases he : ieq (.ofNat lo) hi
    · rw [he] at h; cases h
    · rw [he] at h
      cases h
      rw [ieq_iff, decide_eq_true_eq] at he
      have k := range_ok hg a _ _ hr
      have e : ((n : Nat) : Int) = hi := he
      have k1 : ((n : Nat) : Int) ≤ a.val g := k.1
      have k2 := k.2
      omega
  · cases h
def tableS (args : List V) (st : St) : Option (V × St) := match args with
  | [.w (.c (.i .i64 a)), .w (.c (.i .i64 b))] => (match ptOf st a, ptOf st b with
    | some r, some k => bif Nat.blt r 5 && Nat.blt k 7 then some (.w (.c (.i .i64 (.k (tabN r k)))), st) else none
    | _, _ => none)
  | _ => none
theorem table_case {g : Sg} : CaseOk g 50 tableS := fun args st v st' h hg => by
  unfold tableS at h
  split at h
  · rename_i a b
    split at h
    · rename_i m k hr hk
      cases hb : Nat.blt m 5 && Nat.blt k 7
      · rw [hb] at h; cases h
      · rw [hb] at h
        cases h
        rw [Bool.and_eq_true, nblt, nblt, decide_eq_true_eq, decide_eq_true_eq] at hb
        have e1 := ptOf_ok hg hr
        have e2 := ptOf_ok hg hk
        refine ⟨hg, fun r w vs hI hv => ?_⟩
        match vs, hv with
        | [x, y], ⟨hx, hy, _⟩ =>
          have i1 := den_in hx
          have i2 := den_in hy
          obtain rfl := den_i hx
          obtain rfl := den_i hy
          rw [e1] at i1 ⊢
          rw [e2] at i2 ⊢
          have h1 := List.all_eq_true.1 (List.all_eq_true.1 tab_ran m (List.mem_range.2 hb.1)) k (List.mem_range.2 hb.2)
          refine (closed_int namesOk mixed (fun g => sumsE_ok g) (a := .ofNat m) (b := .ofNat k) i1 i2 h1 w (hI.lt 0 globG r.gl.1)).mono fun e w' hp => ?_
          obtain ⟨⟨rfl, hz⟩, hbw⟩ := hp
          exact ⟨r, _, rfl, mk_i r (a := .k (tabN m k)) hz, (below_mem hI hbw).1, (below_mem hI hbw).2⟩
    · cases h
  · cases h
/-- With the document's table. -/
def sumsV : Sum := orS (one 18 absMk) <| orS (one 50 tableS) sumsW
theorem sumsV_ok (g : Sg) : CallOk Tryd.prog U g sumsV := orS_ok (one_ok absMk_case) <| orS_ok (one_ok table_case) (sumsW_ok g)
end
end Go.Proofs.YtbpccdagmaiblaaDoor.SX
