/- The runner: regions. -/
import Derived.Test.YtahedampmjfoeaaSxH
namespace Go.Proofs.Ytahedampmjfoeaa.SX
open Go
section
variable {P : Program} {U : Nat → List Int → Int} {X : FuncId → Nat} {g : Sg}
theorem decide_ok {v : V} {st st' : St} {b : Bool} (h : decideC v st = some (b, st')) (hg : Good U g st') :
    Good U g st ∧ Same st st' ∧ ∀ r u, v.Den g r u → u = .bool b := by
  unfold decideC at h
  split at h
  · cases h
    exact ⟨hg, Same.refl _, fun r u hu => den_b hu⟩
  · rename_i n
    split at h
    · rename_i b' hb
      cases h
      refine ⟨hg, Same.refl _, fun r u hu => ?_⟩
      rw [den_b hu]
      have := hg.cs _ (csGet_mem hb)
      show Value.bool (ieq (g n) 1) = _
      rw [this]
    · split at h
      · cases h
        refine ⟨⟨hg.defs, fun c hc => hg.cs c (List.mem_cons_of_mem _ hc)⟩, ⟨rfl, rfl, rfl⟩, fun r u hu => ?_⟩
        rw [den_b hu]
        have := hg.cs _ (List.mem_cons_self ..)
        show Value.bool (ieq (g n) 1) = _
        rw [this]
      · cases h
  · cases h
theorem wanted_ok {ops : Array Oper} {t : T} {o : Oper} {st st' : St} {b : Bool} (h : wantedA ops.toList t o st = some (b, st')) (hg : Good U g st') :
    Good U g st ∧ Same st st' ∧ ∀ n r a, TRel n g r t a → Region.wanted o (yielded ops a.tmps) = b := by
  unfold wantedA at h
  split at h
  · rename_i hgd
    cases h
    exact ⟨hg, Same.refl _, fun n r a hT => by simp [Region.wanted, hgd]⟩
  · rename_i j want hgd
    split at h
    · rename_i oj hoj
      split at h
      · rename_i d hd
        have hget : ops[j]? = some oj := toList_get hoj
        split at h
        · rename_i hu
          cases h
          refine ⟨hg, Same.refl _, fun n r a hT => ?_⟩
          obtain ⟨u, hu1, hu2⟩ := hT.get d _ hu
          obtain ⟨vs, rfl, hvs⟩ := hu2
          simp [Region.wanted, hgd, yielded, hget, hd, hu1]
        · rename_i v hv
          split at h
          · rename_i b' st1 hdc
            cases h
            obtain ⟨h1, h2, h3⟩ := decide_ok hdc hg
            refine ⟨h1, h2, fun n r a hT => ?_⟩
            obtain ⟨u, hu1, hu2⟩ := hT.get d _ hv
            obtain rfl := h3 r u hu2
            simp only [Region.wanted, hgd, yielded, hget, hd, Option.bind_some, hu1]
            cases want <;> cases b' <;> rfl
          · cases h
        · cases h
      · cases h
    · cases h
theorem opsOk_get {N : Nat} {l : List Oper} (h : opsOk N l = true) {o : Oper} (ho : o ∈ l) : ∀ d, o.dst = some d → d < N ∧ d < 16000 := by
  intro d hd
  unfold opsOk at h
  rw [List.all_eq_true] at h
  have := h o ho
  simp only [hd, nblt] at this
  simpa using this
theorem undef_den {r : Rho} : V.Den g r (.tup []) undef := ⟨[], rfl, trivial⟩
theorem runOps_ok (hN : NamesOk P X) {call : FuncId → List V → St → Option (V × St)} (hc : CallOk P U g call) {N : Nat} {ops : Array Oper} (hok : opsOk N ops.toList = true) :
    ∀ (rest : List Oper) (i : Nat) (t t' : T) (st st' : St), rest = ops.toList.drop i → runOps P U X call ops.toList rest t st = some (t', st') → Good U g st' →
    Good U g st ∧ ∀ r a w, TRel N g r t a → Inv g r st w → ∀ (Q : Exit → Act → World → Prop), (∀ a' w' r', TRel N g r' t' a' → Inv g r' st' w' → Ext r w r' w' → Q .normal a' w') →
      wpOps P ops Q (List.range' i rest.length) a w
  | [], i, t, t', st, st', _, h, hg => by
    simp [runOps] at h
    obtain ⟨rfl, rfl⟩ := h
    exact ⟨hg, fun r a w hT hI Q hQ => hQ a w r hT hI (Ext.refl _ _)⟩
  | o :: rest, i, t, t', st, st', hr, h, hg => by
    have hi : ops[i]? = some o := by
      rw [← Array.getElem?_toList]
      have : (ops.toList.drop i)[0]? = some o := by rw [← hr]; rfl
      simpa using this
    have hmem : o ∈ ops.toList := List.mem_of_getElem? (by rw [Array.getElem?_toList]; exact hi)
    have hr' : rest = ops.toList.drop (i + 1) := by
      have : ops.toList.drop (i + 1) = (ops.toList.drop i).drop 1 := by rw [List.drop_drop]
      rw [this, ← hr]; rfl
    unfold runOps at h
    split at h
    · rename_i st0 hw
      split at h
      · rename_i v st1 hs
        obtain ⟨h1, h2⟩ := runOps_ok hN hc hok rest (i + 1) _ _ _ _ hr' h hg
        obtain ⟨h3, h4⟩ := step_ok hN hc hs h1
        obtain ⟨h5, h6, h7⟩ := wanted_ok hw h3
        refine ⟨h5, fun r a w hT hI Q hQ => ?_⟩
        rw [List.length_cons, List.range'_succ]
        simp only [wpOps, hi, h7 N r a hT, if_true]
        refine .inl (h4 N r a w hT (hI.same h6) o rfl _ _ fun u r' w' hd hI' hE => ?_)
        exact h2 r' (a.put o.dst u) w' ((hT.sub hE.sub).put (opsOk_get hok hmem) hd) hI' Q fun a' w'' r'' hT' hI'' hE' => hQ a' w'' r'' hT' hI'' (hE.trans hE')
      · cases h
    · rename_i st0 hw
      obtain ⟨h1, h2⟩ := runOps_ok hN hc hok rest (i + 1) _ _ _ _ hr' h hg
      obtain ⟨h5, h6, h7⟩ := wanted_ok hw h1
      refine ⟨h5, fun r a w hT hI Q hQ => ?_⟩
      rw [List.length_cons, List.range'_succ]
      simp only [wpOps, hi, h7 N r a hT, Bool.false_eq_true, if_false]
      exact h2 r (a.put o.dst undef) w (hT.put (opsOk_get hok hmem) undef_den) (hI.same h6) Q hQ
    · cases h

/-! ### Regions that draw their order -/
theorem findTake_ok (hN : NamesOk P X) {ops : Array Oper} {listed : Array Bool} {stable : List (Nat × Bk)} {t : T} {st : St} :
    ∀ {rs : List Nat} {i : Nat} {v : V} {st' : St}, findTake P U X ops ops.toList listed stable t st rs = some (i, v, st') → Good U g st' →
      Good U g st ∧ Same st st' ∧ i ∈ rs ∧ Region.free .any ops listed i = true ∧ ∃ o, ops[i]? = some o ∧ ∀ N r0 r a w, TRel N g r t a → Sub r0 r → Holds g r0 stable w →
        ∃ u, v.Den g r u ∧ YieldsIf P ops (Holds g r0 stable) o u a
  | [], i, v, st', h, _ => by simp [findTake] at h
  | j :: rs, i, v, st', h, hg => by
    have next : findTake P U X ops ops.toList listed stable t st rs = some (i, v, st') → Good U g st ∧ Same st st' ∧ i ∈ j :: rs ∧ Region.free .any ops listed i = true ∧ ∃ o, ops[i]? = some o ∧
        ∀ N r0 r a w, TRel N g r t a → Sub r0 r → Holds g r0 stable w → ∃ u, v.Den g r u ∧ YieldsIf P ops (Holds g r0 stable) o u a := fun h => by
      obtain ⟨h1, h2, h3, h4⟩ := findTake_ok hN h hg
      exact ⟨h1, h2, List.mem_cons_of_mem _ h3, h4⟩
    unfold findTake at h
    split at h
    · cases h
    · rename_i o ho
      have hget : ops[j]? = some o := toList_get ho
      split at h
      · rename_i st0 hw
        split at h
        · rename_i v' st1 hp
          cases hf : Region.free .any ops listed j
          · rw [hf] at h; exact next h
          · rw [hf] at h
            simp only [cond_true] at h
            cases h
            obtain ⟨p1, p2, p3⟩ := pure_ok hN hp hg
            obtain ⟨w1, w2, w3⟩ := wanted_ok hw p1
            refine ⟨w1, w2.trans p2, List.mem_cons_self .., hf, o, hget, fun N r0 r a w hT hs hH => ?_⟩
            obtain ⟨u, hu, hy⟩ := p3 N r a hT
            exact ⟨u, hu, .inl ⟨w3 N r a hT, fun w' _ => hy o w' rfl⟩⟩
        · split at h
          · rename_i v' hl
            cases hf : Region.free .any ops listed j
            · rw [hf] at h; exact next h
            · rw [hf] at h
              simp only [cond_true] at h
              cases h
              obtain ⟨w1, w2, w3⟩ := wanted_ok hw hg
              refine ⟨w1, w2, List.mem_cons_self .., hf, o, hget, fun N r0 r a w hT hs hH => ?_⟩
              obtain ⟨u, hu, hy⟩ := load_ok (P := P) hl hT (hH.sub hs)
              refine ⟨u, hu, .inl ⟨w3 N r a hT, fun w' hS => ?_⟩⟩
              obtain ⟨u', hu', hy'⟩ := load_ok (P := P) hl hT (hS.sub hs)
              obtain rfl := hu.unique hu'
              exact hy' o rfl
          · exact next h
      · rename_i st0 hw
        cases hf : Region.free .any ops listed j
        · rw [hf] at h; exact next h
        · rw [hf] at h
          simp only [cond_true] at h
          cases h
          obtain ⟨w1, w2, w3⟩ := wanted_ok hw hg
          exact ⟨w1, w2, List.mem_cons_self .., hf, o, hget, fun N r0 r a w hT _ _ => ⟨undef, undef_den, .inr ⟨w3 N r a hT, rfl⟩⟩⟩
      · exact next h
theorem allSame_acc {f : Nat → Option (T × St) → Option (T × St)} : ∀ {rs : List Nat} {F G : T × St}, allSame f rs (some G) = some F → F = G ∧ ∀ i ∈ rs, f i (some F) = some F
  | [], F, G, h => by simp [allSame] at h; subst h; exact ⟨rfl, fun i hi => by cases hi⟩
  | i :: rs, F, G, h => by
    unfold allSame at h
    split at h
    · rename_i x hx
      split at h
      · rename_i hxg
        subst hxg
        obtain ⟨rfl, h2⟩ := allSame_acc h
        exact ⟨rfl, fun j hj => by
          rcases List.mem_cons.1 hj with rfl | hj
          · exact hx
          · exact h2 j hj⟩
      · cases h
    · cases h
theorem allSame_ok {f : Nat → Option (T × St) → Option (T × St)} {rs : List Nat} {F : T × St} (h : allSame f rs none = some F) :
    (∃ i, i ∈ rs ∧ f i none = some F) ∧ ∀ i ∈ rs, f i none = some F ∨ f i (some F) = some F := by
  cases rs with
  | nil => simp [allSame] at h
  | cons i rs =>
    unfold allSame at h
    split at h
    · rename_i x hx
      obtain ⟨rfl, h2⟩ := allSame_acc h
      exact ⟨⟨i, List.mem_cons_self .., hx⟩, fun j hj => by
        rcases List.mem_cons.1 hj with rfl | hj
        · exact .inl hx
        · exact .inr (h2 j hj)⟩
    · cases h
theorem keepsB_get {heap : List (Nat × Bk)} : ∀ {stable : List (Nat × Bk)}, keepsB heap stable = true → ∀ n bk, hget stable n = some bk → hget heap n = some bk
  | [], _, n, bk, h => by simp [hget] at h
  | (m, b) :: r, hk, n, bk, h => by
    unfold keepsB at hk
    split at hk
    · rename_i b' hb
      split at hk
      · rename_i hbb
        subst hbb
        unfold hget at h
        rw [nbeq, Bool.cond_decide] at h
        split at h
        · rename_i hm; subst hm; cases h; exact hb
        · exact keepsB_get hk n bk h
      · cases hk
    · cases hk
theorem holds_keep {stable heap : List (Nat × Bk)} (hk : keepsB heap stable = true) {r0 r' : Rho} {w w' : World} (h0 : Holds g r0 stable w) (hs : Sub r0 r') (h : Holds g r' heap w') : Holds g r0 stable w' := fun n bk hn => by
  obtain ⟨b, vs, h1, h2, h3⟩ := h0 n bk hn
  obtain ⟨b', vs', k1, k2, k3⟩ := h n bk (keepsB_get hk n bk hn)
  have := hs n b h1
  rw [this] at k1; cases k1
  obtain rfl := (h3.sub hs).unique k3
  exact ⟨b, vs, h1, k2, h3⟩
theorem explore_ok (hN : NamesOk P X) {call : FuncId → List V → St → Option (V × St)} (hc : CallOk P U g call) {N : Nat} {ops : Array Oper} (hok : opsOk N ops.toList = true) (hsel : Region.noSelect ops = true)
    {stable : List (Nat × Bk)} {base : Nat} {r0 : Rho} {Q : Exit → Act → World → Prop} (hQp : ∀ c a w, ¬ Q (.panic c) a w) :
    ∀ (n : Nat) (listed : Array Bool) (t tf : T) (st stf : St), explore P U X call ops ops.toList stable base n listed t st = some (tf, stf) → Good U g stf →
      Good U g st ∧ ∀ r a w, TRel N g r t a → Inv g r st w → Sub r0 r → Holds g r0 stable w → (∀ a' w' r', TRel N g r' tf a' → Inv g r' stf w' → Ext r w r' w' → Q .normal a' w') →
        wpAnyH P .any ops Q (Holds g r0 stable) n listed a w
  | 0, listed, t, tf, st, stf, h, hg => by
    unfold explore at h
    split at h
    · rename_i hr
      cases h
      exact ⟨hg, fun r a w hT hI _ _ hQ => wpAnyH_done hr (hQ a w r hT hI (Ext.refl _ _)) 0⟩
    · cases h
  | n + 1, listed, t, tf, st, stf, h, hg => by
    unfold explore at h
    split at h
    · rename_i hr
      cases h
      exact ⟨hg, fun r a w hT hI _ _ hQ => wpAnyH_done hr (hQ a w r hT hI (Ext.refl _ _)) (n + 1)⟩
    · rename_i hne
      split at h
      · rename_i i v st1 hf
        split at h
        · rename_i o ho
          have hget : ops[i]? = some o := toList_get ho
          obtain ⟨h1, h2⟩ := explore_ok hN hc hok hsel hQp n _ _ _ _ _ h hg
          obtain ⟨f1, f2, f3, f4, o', ho', f5⟩ := findTake_ok hN hf h1
          rw [hget] at ho'; cases ho'
          refine ⟨f1, fun r a w hT hI hs hH hQ => ?_⟩
          obtain ⟨u, hu, hy⟩ := f5 N r0 r a w hT hs hH
          have hmem : o ∈ ops.toList := List.mem_of_getElem? (by rw [Array.getElem?_toList]; exact hget)
          refine wpAnyH_take hget hsel f4 (by simpa using f3) (fun c a w h => absurd h (hQp c _ w)) hy hH ?_
          exact h2 r (a.put o.dst u) w (hT.put (opsOk_get hok hmem) hu) (hI.same f2) hs hH hQ
        · cases h
      · obtain ⟨⟨i0, hi0, hb0⟩, hall⟩ := allSame_ok h
        -- one branch
        have branch : ∀ i acc, (match lkL ops.toList i with
            | none => none
            | some o => match wantedA ops.toList t o (startOf st acc) with
              | some (true, st0) => (match stepOp P U X call t (some (base + i)) o.op st0 with
                | some (v, st') => bif keepsB st'.heap stable then explore P U X call ops ops.toList stable base n (listed.setIfInBounds i true) (putT t o.dst v) st' else none
                | none => none)
              | _ => none) = some (tf, stf) → Good U g (startOf st acc) ∧ ∀ r a w, TRel N g r t a → Inv g r (startOf st acc) w → Sub r0 r → Holds g r0 stable w →
                (∀ a' w' r', TRel N g r' tf a' → Inv g r' stf w' → Ext r w r' w' → Q .normal a' w') →
                wpOp P ops Q i (fun a' w' => Holds g r0 stable w' ∧ wpAnyH P .any ops Q (Holds g r0 stable) n (listed.setIfInBounds i true) a' w') a w := by
          intro i acc hb
          split at hb
          · cases hb
          · rename_i o ho
            have hget : ops[i]? = some o := toList_get ho
            have hmem : o ∈ ops.toList := List.mem_of_getElem? (by rw [Array.getElem?_toList]; exact hget)
            split at hb
            · rename_i st0 hw
              split at hb
              · rename_i v st1 hs1
                cases hk : keepsB st1.heap stable
                · rw [hk] at hb; cases hb
                · rw [hk] at hb
                  simp only [cond_true] at hb
                  obtain ⟨h1, h2⟩ := explore_ok hN hc hok hsel hQp n _ _ _ _ _ hb hg
                  obtain ⟨s1, s2⟩ := step_ok hN hc hs1 h1
                  obtain ⟨w1, w2, w3⟩ := wanted_ok hw s1
                  refine ⟨w1, fun r a w hT hI hs hH hQ => ?_⟩
                  unfold wpOp
                  simp only [hget, w3 N r a hT, if_true]
                  refine .inl (s2 N r a w hT (hI.same w2) o rfl _ _ fun u r' w' hd hI' hE => ?_)
                  have hH' := holds_keep hk hH (hs.trans hE.sub) hI'.holds
                  exact ⟨hH', h2 r' (a.put o.dst u) w' ((hT.sub hE.sub).put (opsOk_get hok hmem) hd) hI' (hs.trans hE.sub) hH' fun a' w'' r'' hT' hI'' hE' => hQ a' w'' r'' hT' hI'' (hE.trans hE')⟩
              · cases hb
            · cases hb
        have hgst := (branch i0 none hb0).1
        refine ⟨hgst, fun r a w hT hI hs hH hQ => ?_⟩
        refine wpAnyH_all rfl (fun e => hne e) fun i hi => ?_
        rcases hall i hi with hb | hb
        · exact (branch i none hb).2 r a w hT hI hs hH hQ
        · exact (branch i _ hb).2 r a w hT (hI.same ⟨rfl, rfl, rfl⟩) hs hH hQ
theorem mem_upTo {n : Nat} : ∀ {k m : Nat}, m ∈ upTo n k → n ≤ m ∧ m < n + k
  | 0, m, h => by cases h
  | k + 1, m, h => by
    unfold upTo at h
    rcases List.mem_cons.1 h with rfl | h
    · omega
    · have := mem_upTo h; omega
theorem keepsB_holds {stable heap : List (Nat × Bk)} (hk : keepsB heap stable = true) {r : Rho} {w : World} (h : Holds g r heap w) : Holds g r stable w := fun n bk hn => h n bk (keepsB_get hk n bk hn)
/-- Behind a piece of code. -/
def Post (N : Nat) (g : Sg) (e0 : Exit) (t : T) (st : St) (r : Rho) (w : World) : Exit → Act → World → Prop := fun e a' w' => e = e0 ∧ ∃ r', TRel N g r' t a' ∧ Inv g r' st w' ∧ Ext r w r' w'
theorem drawRun_ok (hN : NamesOk P X) (hmix : P.follows .mixedOrders = true) {call : FuncId → List V → St → Option (V × St)} (hc : CallOk P U g call) {N : Nat} {ops : Array Oper} (hok : opsOk N ops.toList = true) {t t' : T} {st st' : St}
    (h : drawRun P U X call ops t st = some (t', st')) (hg : Good U g st') (id : Nat) :
    Good U g st ∧ ∀ r a w, TRel N g r t a → Inv g r st w → (Code.region id ops true).wp P (Post N g .normal t' st' r w) a w := by
  unfold drawRun at h
  generalize hsx : loadsOf ops.toList t (writesOf P ops.toList t ops.toList) st.heap ops.toList = stable at h
  dsimp only at h
  rw [hsx] at h
  cases hk : (keepsB st.heap stable && Region.noSelect ops)
  · rw [hk] at h; cases h
  · rw [hk] at h
    simp only [cond_true] at h
    rw [Bool.and_eq_true] at hk
    obtain ⟨hk, hsel⟩ := hk
    split at h
    · rename_i t1 st1 he
      cases hres : st.resv.all (fun n => st1.resv.contains n)
      · rw [hres] at h; cases h
      · rw [hres] at h
        simp only [cond_true] at h
        cases h
        have hg1 : Good U g st1 := ⟨hg.defs, hg.cs⟩
        have hres : ∀ n, n ∈ st.resv → n ∈ st1.resv := fun n hn => by
          rw [List.all_eq_true] at hres
          simpa using hres n hn
        refine ⟨(fun h : Good U g _ => ⟨h.defs, h.cs⟩) (explore_ok (r0 := fun _ => none) (Q := fun _ _ _ => False) hN hc hok hsel (fun _ _ _ h => h) _ _ _ _ _ _ he hg1).1, fun r a w hT hI => ?_⟩
        obtain ⟨_, h2⟩ := explore_ok (r0 := r) (Q := Post N g .normal t' { st1 with resv := st.resv } r w) hN hc hok hsel (fun _ _ _ h => by cases h.1) _ _ _ _ _ _ he hg1
        refine wp_region_held hmix (S := Holds g r stable) ?_
        have hI' : Inv g r { st with next := st.next + ops.size, resv := upTo st.next ops.size ++ st.resv } { w with drawn := w.drawn + 1 } := by
          refine ⟨hI.holds, hI.inj, fun n b hb => ?_, hI.lt, fun n hn => ?_⟩
          · obtain ⟨f1, f2⟩ := hI.fresh n b hb
            refine ⟨by show n < st.next + ops.size; omega, fun hn => ?_⟩
            rcases List.mem_append.1 hn with hn | hn
            · have := mem_upTo hn; omega
            · exact f2 hn
          · rcases List.mem_append.1 hn with hn | hn
            · exact (mem_upTo hn).2
            · have := hI.rlt n hn
              show n < st.next + ops.size; omega
        refine h2 r a _ hT hI' (Sub.refl _) (keepsB_holds hk hI'.holds) fun a' w' r' hT' hI'' hE => ⟨rfl, r', hT', ?_, hE.drew⟩
        exact ⟨hI''.holds, hI''.inj, fun n b hb => ⟨(hI''.fresh n b hb).1, fun hn => (hI''.fresh n b hb).2 (hres n hn)⟩, hI''.lt, fun n hn => hI''.rlt n (hres n hn)⟩
    · cases h
end
end Go.Proofs.Ytahedampmjfoeaa.SX
