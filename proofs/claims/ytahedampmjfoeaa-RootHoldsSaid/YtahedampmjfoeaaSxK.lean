/- The runner: calls, and what follows of one. -/
import Derived.Test.YtahedampmjfoeaaSxJ
import Derived.Below
namespace Go.Proofs.Ytahedampmjfoeaa.SX
open Go
section
variable {P : Program} {U : Nat → List Int → Int} {X : FuncId → Nat} {g : Sg}
theorem argsT_get : ∀ (l : List V) (i j : Nat) (t : T), i + l.length < 16000 → (argsT i l t).get j = if i ≤ j ∧ j < i + l.length then l[j - i]? else t.get j
  | [], i, j, t, _ => by
    have : ¬ (i ≤ j ∧ j < i + 0) := by omega
    simp [argsT]
    intro h1 h2; omega
  | v :: l, i, j, t, h => by
    simp at h
    rw [argsT, argsT_get l (i + 1) j _ (by omega), PT.get_set 14 t i j v (by omega)]
    simp only [List.length_cons]
    by_cases h1 : i + 1 ≤ j ∧ j < i + 1 + l.length
    · have h2 : i ≤ j ∧ j < i + (l.length + 1) := by omega
      rw [if_pos h1, if_pos h2]
      have : j - i = (j - (i + 1)) + 1 := by omega
      rw [this, List.getElem?_cons_succ]
    · rw [if_neg h1]
      by_cases h3 : j = i
      · subst h3
        have h2 : j ≤ j ∧ j < j + (l.length + 1) := by omega
        rw [if_pos rfl, if_pos h2]; simp
      · rw [if_neg h3, if_neg (by omega)]
theorem VL.get {r : Rho} : ∀ {l : List V} {vs : List Value} {i : Nat} {x : V}, VL g r l vs → l[i]? = some x → ∃ v, vs[i]? = some v ∧ x.Den g r v
  | [], _, _, _, _, h => by simp at h
  | _ :: _, [], _, _, hd, _ => hd.elim
  | y :: l, v :: vs, i, x, ⟨h1, h2⟩, h => by
    cases i with
    | zero => simp at h; subst h; exact ⟨v, rfl, h1⟩
    | succ i => simp at h; obtain ⟨u, hu, hc⟩ := VL.get h2 h; exact ⟨u, by simpa using hu, hc⟩
theorem enter_T {r : Rho} {args : List V} {vs : List Value} (h : VL g r args vs) {n : Nat} (hn : args.length ≤ n) (hl : args.length ≤ 1000) :
    TRel n g r (argsT 0 args .e) { tmps := ⟨vs⟩ ++ Array.replicate (n - (⟨vs⟩ : Array Value).size) undef, defers := [] } := by
  have hs : (⟨vs⟩ : Array Value).size = args.length := h.length
  refine ⟨by simp [hs]; have := h.length; omega, fun i v hv => ?_, rfl⟩
  rw [argsT_get args 0 i .e (by omega)] at hv
  split at hv
  · rename_i hi
    simp at hv
    obtain ⟨u, hu, hd⟩ := VL.get h hv
    refine ⟨u, ?_, hd⟩
    rw [Array.getElem?_append_left (by rw [hs]; omega)]
    simpa using hu
  · simp [PT.get] at hv
def resF (a : Act) : ResultVar → Sem Value := fun
  | .tmp t => pure (a.tmps.getD t undef)
  | .cell p t => do loadVar t (← asAddr (a.tmps.getD p undef))
theorem res_ok {N : Nat} {r : Rho} {t : T} {a : Act} (hT : TRel N g r t a) {heap : List (Nat × Bk)} {w : World} (hH : Holds g r heap w) :
    ∀ {l : List ResultVar} {ws : List W}, resA P t heap l = some ws → ∃ vs, WL g r ws vs ∧ (l.mapM (resF a)).run P w = .ok vs w
  | [], ws, h => by simp [resA] at h; subst h; exact ⟨[], trivial, by simp⟩
  | .tmp i :: l, ws, h => by
    unfold resA at h
    split at h
    · rename_i x hx
      split at h
      · rename_i m hm
        cases h
        obtain ⟨vs, h1, h2⟩ := res_ok hT hH hm
        refine ⟨a.eval (.tmp i) :: vs, ⟨(ev_den hT (o := .tmp i) hx : V.Den g r (.w x) _), h1⟩, ?_⟩
        rw [List.mapM_cons, Sem.run_bind]
        have : (resF a (.tmp i)).run P w = .ok (a.eval (.tmp i)) w := rfl
        rw [this]
        simp only [Result.andThen_ok, Sem.run_bind, h2, Sem.run_pure]
      · cases h
    · cases h
  | .cell p ty :: l, ws, h => by
    unfold resA at h
    split at h
    · rename_i x hx
      split at h
      · rename_i m hm
        cases h
        obtain ⟨vs, h1, h2⟩ := res_ok hT hH hm
        obtain ⟨q, u, hev, hd, hr⟩ := load_var (P := P) hx hT hH
        refine ⟨u :: vs, ⟨hd, h1⟩, ?_⟩
        rw [List.mapM_cons, Sem.run_bind]
        have : (resF a (.cell p ty)).run P w = .ok u w := by
          have hev : a.tmps.getD p undef = .pointer (some q) := hev
          simp only [resF, hev, asAddr, Sem.run_bind, Sem.run_pure, Result.andThen_ok, hr]
        rw [this]
        simp only [Result.andThen_ok, Sem.run_bind, h2, Sem.run_pure]
      · cases h
    · cases h
theorem WL.length {r : Rho} : ∀ {l : List W} {vs : List Value}, WL g r l vs → vs.length = l.length
  | [], [], _ => rfl
  | x :: l, v :: vs, ⟨_, h2⟩ => by simp [WL.length h2]
  | [], _ :: _, h => h.elim
  | _ :: _, [], h => h.elim
theorem results_ok {N : Nat} {r : Rho} {t : T} {a : Act} (hT : TRel N g r t a) {heap : List (Nat × Bk)} {w : World} (hH : Holds g r heap w) {fn : Func} {ws : List W} (h : resA P t heap fn.results.toList = some ws) :
    ∃ u, (retV ws).Den g r u ∧ (results fn a.tmps).run P w = .ok u w := by
  obtain ⟨vs, h1, h2⟩ := res_ok hT hH h
  have hm : (fn.results.mapM (resF a)).run P w = .ok ⟨vs⟩ w := by
    rw [Array.mapM_eq_mapM_toList, Sem.run_map, h2]; rfl
  have hrun : (results fn a.tmps).run P w = .ok (if h : (⟨vs⟩ : Array Value).size = 1 then (⟨vs⟩ : Array Value)[0] else .tuple ⟨vs⟩) w := by
    unfold results
    rw [Sem.run_bind]
    show Result.andThen ((fn.results.mapM (resF a)).run P w) _ = _
    rw [hm]
    rfl
  rw [hrun]
  refine ⟨_, ?_, rfl⟩
  match ws, vs, h1 with
  | [], [], h1 => exact ⟨[], rfl, trivial⟩
  | [x], [v], ⟨hx, _⟩ => exact hx
  | x :: y :: ws, v :: u :: vs, h1 =>
    rw [dif_neg (by simp)]
    exact ⟨_, rfl, h1⟩
theorem hget_below {n : Nat} : ∀ {h : List (Nat × Bk)} {m : Nat} {b : Bk}, hget (below n h) m = some b → hget h m = some b
  | [], m, b, h => by simp [below, hget] at h
  | (k, c) :: r, m, b, h => by
    unfold below at h
    rw [nblt, Bool.cond_decide] at h
    split at h
    · unfold hget at h ⊢
      rw [nbeq, Bool.cond_decide] at h ⊢
      split at h
      · rename_i hk; rw [if_pos hk]; exact h
      · rename_i hk; rw [if_neg hk]; exact hget_below h
    · rename_i hk
      have := hget_below h
      unfold hget
      rw [nbeq, Bool.cond_decide]
      split
      · rename_i hkm
        subst hkm
        exfalso
        have hno : ∀ {l : List (Nat × Bk)}, hget (below n l) k ≠ some b := by
          intro l
          induction l with
          | nil => simp [below, hget]
          | cons y l ih =>
            obtain ⟨i, d⟩ := y
            unfold below
            rw [nblt, Bool.cond_decide]
            split
            · unfold hget
              rw [nbeq, Bool.cond_decide]
              split
              · omega
              · exact ih
            · exact ih
        exact hno h
      · exact this
theorem runCall_ok (hN : NamesOk P X) (hmix : P.follows .mixedOrders = true) {sum : FuncId → List V → St → Option (V × St)} (hs : CallOk P U g sum) (K : Nat) :
    ∀ d, CallOk P U g (runCall P U X sum K d)
  | 0 => fun f args st v st' h => by simp [runCall] at h
  | d + 1 => fun f args st v st' h hg => by
    unfold runCall at h
    split at h
    · rename_i p hp
      cases h
      exact hs f args st v st' hp hg
    · split at h
      · cases h
      · rename_i fn hfn
        have hget : P.funcs[f]? = some fn := toList_get hfn
        split at h
        · cases h
        · rename_i c hbody
          rw [nble, nble] at h
          cases hc : (decide (args.length ≤ fn.ntmps) && decide (args.length ≤ 1000) && codeOk fn.ntmps c)
          · rw [hc] at h; cases h
          · rw [hc] at h
            simp only [cond_true] at h
            rw [Bool.and_eq_true, Bool.and_eq_true, decide_eq_true_eq, decide_eq_true_eq] at hc
            obtain ⟨⟨hc1, hc2⟩, hc3⟩ := hc
            have body : ∀ (ex : Ex) (t : T) (st1 : St), (ex = .normal ∨ ex = .ret) → runCode P U X (runCall P U X sum K d) (drawRun P U X (runCall P U X sum K d)) K c (argsT 0 args .e) st = some (ex, t, st1) →
                (match resA P t st1.heap fn.results.toList with
                | some l => some (retV l, bif l.all W.plain then { st1 with heap := below st.next st1.heap } else st1)
                | none => none) = some (v, st') → Good U g st ∧ ∀ r w vs, Inv g r st w → VL g r args vs →
                Calls P f ⟨vs⟩ w fun e w' => ∃ r' u, e = .returned u ∧ v.Den g r' u ∧ Inv g r' st' w' ∧ Ext r w r' w' := by
              intro ex t st1 hex hrun h
              split at h
              · rename_i l hl
                have hst' : Good U g st1 ∧ ∀ r w, Inv g r st1 w → Inv g r st' w := by
                  cases hp : l.all W.plain
                  · rw [hp] at h
                    simp only [cond_false] at h
                    cases h
                    exact ⟨hg, fun r w hI => hI⟩
                  · rw [hp] at h
                    simp only [cond_true] at h
                    cases h
                    exact ⟨⟨hg.defs, hg.cs⟩, fun r w hI => ⟨fun n bk hn => hI.holds n bk (hget_below hn), hI.inj, hI.fresh, hI.lt, hI.rlt⟩⟩
                have hv : v = retV l := by
                  cases h; rfl
                obtain ⟨k1, k2⟩ := (runCode_ok hN hmix (runCall_ok hN hmix hs K d) (N := fn.ntmps) K).1 c _ _ _ _ _ hc3 hrun hst'.1
                refine ⟨k1, fun r w vs hI hV => ?_⟩
                refine calls_of_wp hget hbody (wp_mono (k2 r _ w (enter_T hV hc1 hc2) hI) fun e a' w' hp => ?_)
                obtain ⟨rfl, r', hT', hI', hE⟩ := hp
                obtain ⟨u, hu, hr⟩ := results_ok hT' hI'.holds hl
                have hfin : a'.defers = [] ∧ ∃ v', (results fn a'.tmps).run P w' = .ok v' w' ∧ ∃ r' u, Ending.returned v' = .returned u ∧ v.Den g r' u ∧ Inv g r' st' w' ∧ Ext r w r' w' :=
                  ⟨hT'.defers, u, hr, r', u, rfl, hv ▸ hu, hst'.2 r' w' hI', hE⟩
                rcases hex with rfl | rfl
                · exact hfin
                · exact hfin
              · cases h
            split at h
            · cases h
            · rename_i ex t st1 hne hrun
              refine body ex t st1 ?_ hrun h
              cases ex with
              | normal => exact .inl rfl
              | exit id => exact absurd rfl (hne id)
              | ret => exact .inr rfl
            · cases h
theorem noSum_ok : CallOk P U g noSum := fun f args st v st' h => by simp [noSum] at h
/-- It ends in 'true', and hangs on no symbol. -/
def trueB (r : Option (V × St)) : Bool := match r with
  | some (.w (.c (.b (.k z))), st) => ieq z 1 && st.defs.isEmpty && st.cs.isEmpty
  | _ => false
/-- The empty memory of the runner fits any. -/
theorem inv0 (w : World) : Inv g (fun _ => none) st0 w :=
  ⟨fun n bk h => by simp [st0, hget] at h, fun _ _ _ h => (by cases h), fun _ _ h => (by cases h), fun _ _ h => (by cases h), fun n h => by simp [st0] at h⟩
theorem below_of_ext {r' : Rho} {w w' : World} (h : Ext (fun _ => none) w r' w') : RowKit.Below w.heap.size w w' :=
  ⟨h.os, h.tape, h.output, h.size, fun b hb => h.frame b hb (fun _ e => by cases e)⟩
/-- A closed call that the runner sees end in 'true' does so, whatever the world. -/
theorem closed_true (hN : NamesOk P X) (hmix : P.follows .mixedOrders = true) {f : FuncId} {sum : FuncId → List V → St → Option (V × St)} (hs : CallOk P U (fun _ => 0) sum) (K d : Nat) (h : trueB (runCall P U X sum K d f [] st0) = true) (w : World) :
    Calls P f #[] w fun e w' => e = .returned (.bool true) ∧ RowKit.Below w.heap.size w w' := by
  unfold trueB at h
  split at h
  · rename_i z st' he
    rw [Bool.and_eq_true, Bool.and_eq_true] at h
    obtain ⟨⟨h1, h2⟩, h3⟩ := h
    have h2 : st'.defs = [] := by simpa using h2
    have h3 : st'.cs = [] := by simpa using h3
    have hg : Good U (fun _ => 0) st' := ⟨fun d hd => (by rw [h2] at hd; cases hd), fun c hc => (by rw [h3] at hc; cases hc)⟩
    obtain ⟨_, k⟩ := runCall_ok hN hmix hs K d f [] st0 _ st' he hg
    refine (k (fun _ => none) w [] (inv0 w) trivial).mono fun e w' hp => ?_
    obtain ⟨r', u, rfl, hd, _, hE⟩ := hp
    refine ⟨?_, below_of_ext hE⟩
    rw [den_b hd]
    show Ending.returned (.bool (ieq z 1)) = _
    rw [h1]
  · cases h
end
end Go.Proofs.Ytahedampmjfoeaa.SX
