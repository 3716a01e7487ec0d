/- The runner: code and calls. -/
import Derived.Test.YtahedampmjfoeaaSxI
namespace Go.Proofs.Ytahedampmjfoeaa.SX
open Go
section
variable {P : Program} {U : Nat → List Int → Int} {X : FuncId → Nat} {g : Sg}
def exOf : Ex → Exit
  | .normal => .normal
  | .exit id => .exit id
  | .ret => .ret
theorem Post.later {N : Nat} {e0 : Exit} {t : T} {st : St} {r r1 : Rho} {w w1 : World} (hE : Ext r w r1 w1) {e : Exit} {a' : Act} {w' : World} (h : Post N g e0 t st r1 w1 e a' w') : Post N g e0 t st r w e a' w' := by
  obtain ⟨h1, r', h2, h3, h4⟩ := h
  exact ⟨h1, r', h2, h3, hE.trans h4⟩
theorem exOf_normal {ex : Ex} (h : exOf ex = .normal) : ex = .normal := by cases ex <;> simp_all [exOf]
theorem then_of {K : Act → World → Prop} {Q : Exit → Act → World → Prop} {ex : Ex} (h : ex ≠ .normal) {a : Act} {w : World} (hq : Q (exOf ex) a w) : Exit.then K Q (exOf ex) a w := by
  cases ex
  · exact absurd rfl h
  · exact hq
  · exact hq
theorem rounds_mono {b : Code} {Q Q' : Exit → Act → World → Prop} (h : ∀ e a w, Q e a w → Q' e a w) : ∀ (n : Nat) (a : Act) (w : World), Code.rounds P b Q n a w → Code.rounds P b Q' n a w
  | 0, _, _, hr => hr
  | n + 1, a, w, hr => by
    rw [rounds_succ] at *
    refine wp_mono hr fun e a' w' hq => ?_
    cases e <;> first | exact rounds_mono h n a' w' hq | exact h _ _ _ hq
theorem runCode_ok (hN : NamesOk P X) (hmix : P.follows .mixedOrders = true) {call : FuncId → List V → St → Option (V × St)} (hc : CallOk P U g call) {N : Nat} :
    ∀ (n : Nat), (∀ (c : Code) (t t' : T) (st st' : St) (ex : Ex), codeOk N c = true → runCode P U X call (drawRun P U X call) n c t st = some (ex, t', st') → Good U g st' →
      Good U g st ∧ ∀ r a w, TRel N g r t a → Inv g r st w → c.wp P (Post N g (exOf ex) t' st' r w) a w) ∧
      (∀ (b : Code) (t t' : T) (st st' : St) (ex : Ex), codeOk N b = true → runCode P U X call (drawRun P U X call) n (.loop b) t st = some (ex, t', st') → Good U g st' →
      Good U g st ∧ ∀ r a w, TRel N g r t a → Inv g r st w → Code.rounds P b (Post N g (exOf ex) t' st' r w) n a w)
  | 0 => by
    refine ⟨fun c t t' st st' ex _ h => ?_, fun b t t' st st' ex _ h => ?_⟩
    · simp [runCode] at h
    · simp [runCode] at h
  | n + 1 => by
    obtain ⟨ih1, ih2⟩ := runCode_ok hN hmix hc (N := N) n
    have loops : ∀ (b : Code) (t t' : T) (st st' : St) (ex : Ex), codeOk N b = true → runCode P U X call (drawRun P U X call) (n + 1) (.loop b) t st = some (ex, t', st') → Good U g st' →
        Good U g st ∧ ∀ r a w, TRel N g r t a → Inv g r st w → Code.rounds P b (Post N g (exOf ex) t' st' r w) (n + 1) a w := by
      intro b t t' st st' ex hok h hg
      unfold runCode at h
      simp only at h
      split at h
      · rename_i t1 st1 hb
        obtain ⟨h1, h2⟩ := ih2 b _ _ _ _ _ hok h hg
        obtain ⟨h3, h4⟩ := ih1 b _ _ _ _ _ hok hb h1
        refine ⟨h3, fun r a w hT hI => ?_⟩
        rw [rounds_succ]
        refine wp_mono (h4 r a w hT hI) fun e a' w' hp => ?_
        obtain ⟨rfl, r', hT', hI', hE⟩ := hp
        show Code.rounds P b (Post N g (exOf ex) t' st' r w) n a' w'
        have := h2 r' a' w' hT' hI'
        exact rounds_mono (fun e a w h => Post.later hE h) n a' w' this
      · rename_i hne
        obtain ⟨h3, h4⟩ := ih1 b _ _ _ _ _ hok h hg
        refine ⟨h3, fun r a w hT hI => ?_⟩
        rw [rounds_succ]
        refine wp_mono (h4 r a w hT hI) fun e a' w' hp => ?_
        have he := hp.1
        subst he
        exact then_of (fun hx => by subst hx; exact hne _ _ h) hp
    refine ⟨fun c t t' st st' ex hok h hg => ?_, loops⟩
    cases c with
    | skip =>
      simp [runCode] at h
      obtain ⟨rfl, rfl, rfl⟩ := h
      exact ⟨hg, fun r a w hT hI => wp_skip ⟨rfl, r, hT, hI, Ext.refl _ _⟩⟩
    | region id ops d =>
      unfold runCode at h
      simp only at h
      cases d
      · simp only [cond_false] at h
        split at h
        · rename_i t1 st1 hr
          cases h
          obtain ⟨h1, h2⟩ := runOps_ok hN hc (by simpa [codeOk] using hok) ops.toList 0 _ _ _ _ (by simp) hr hg
          refine ⟨h1, fun r a w hT hI => wp_region ?_⟩
          rw [List.range_eq_range']
          have := h2 r a w hT hI (Post N g .normal _ _ r w) (fun a' w' r' hT' hI' hE => ⟨rfl, r', hT', hI', hE⟩)
          rw [Array.length_toList] at this
          exact this
        · cases h
      · simp only [cond_true] at h
        split at h
        · rename_i t1 st1 hr
          cases h
          exact drawRun_ok hN hmix hc (by simpa [codeOk] using hok) hr hg id
        · cases h
    | seq x y =>
      simp only [codeOk, Bool.and_eq_true] at hok
      unfold runCode at h
      simp only at h
      split at h
      · rename_i t1 st1 hx
        obtain ⟨h1, h2⟩ := ih1 y _ _ _ _ _ hok.2 h hg
        obtain ⟨h3, h4⟩ := ih1 x _ _ _ _ _ hok.1 hx h1
        refine ⟨h3, fun r a w hT hI => wp_seq (wp_mono (h4 r a w hT hI) fun e a' w' hp => ?_)⟩
        obtain ⟨rfl, r', hT', hI', hE⟩ := hp
        exact wp_mono (h2 r' a' w' hT' hI') fun e a w hq => Post.later hE hq
      · rename_i hne
        obtain ⟨h3, h4⟩ := ih1 x _ _ _ _ _ hok.1 h hg
        refine ⟨h3, fun r a w hT hI => wp_seq (wp_mono (h4 r a w hT hI) fun e a' w' hp => ?_)⟩
        have he := hp.1
        subst he
        exact then_of (fun hx => by subst hx; exact hne _ _ h) hp
    | cond c x y =>
      simp only [codeOk, Bool.and_eq_true] at hok
      unfold runCode at h
      simp only at h
      split at h
      · rename_i v hv
        split at h
        · rename_i st1 hd
          obtain ⟨h1, h2⟩ := ih1 x _ _ _ _ _ hok.1 h hg
          obtain ⟨h3, h4, h5⟩ := decide_ok hd h1
          exact ⟨h3, fun r a w hT hI => wp_cond_true (h5 r _ (ev_den hT hv)) (h2 r a w hT (hI.same h4))⟩
        · rename_i st1 hd
          obtain ⟨h1, h2⟩ := ih1 y _ _ _ _ _ hok.2 h hg
          obtain ⟨h3, h4, h5⟩ := decide_ok hd h1
          exact ⟨h3, fun r a w hT hI => wp_cond_false (h5 r _ (ev_den hT hv)) (h2 r a w hT (hI.same h4))⟩
        · cases h
      · cases h
    | block id b =>
      simp only [codeOk] at hok
      unfold runCode at h
      simp only at h
      split at h
      · rename_i j t1 st1 hb
        rw [nbeq, Bool.cond_decide] at h
        split at h
        · rename_i hj
          cases h
          obtain ⟨h3, h4⟩ := ih1 b _ _ _ _ _ hok hb hg
          refine ⟨h3, fun r a w hT hI => wp_block (wp_mono (h4 r a w hT hI) fun e a' w' hp => ?_)⟩
          obtain ⟨rfl, hp⟩ := hp
          show (if j = id then _ else _)
          rw [if_pos hj]
          exact ⟨rfl, hp⟩
        · rename_i hj
          cases h
          obtain ⟨h3, h4⟩ := ih1 b _ _ _ _ _ hok hb hg
          refine ⟨h3, fun r a w hT hI => wp_block (wp_mono (h4 r a w hT hI) fun e a' w' hp => ?_)⟩
          obtain ⟨rfl, hp⟩ := hp
          show (if j = id then _ else _)
          rw [if_neg hj]
          exact ⟨rfl, hp⟩
      · rename_i hne
        obtain ⟨h3, h4⟩ := ih1 b _ _ _ _ _ hok h hg
        refine ⟨h3, fun r a w hT hI => wp_block (wp_mono (h4 r a w hT hI) fun e a' w' hp => ?_)⟩
        have he := hp.1
        subst he
        cases ex with
        | normal => exact hp
        | exit j => exact absurd h (hne _ _ _)
        | ret => exact hp
    | loop b =>
      obtain ⟨h1, h2⟩ := loops b _ _ _ _ _ (by simpa [codeOk] using hok) h hg
      exact ⟨h1, fun r a w hT hI => wp_loop_rounds (n + 1) (h2 r a w hT hI)⟩
    | exit id =>
      simp [runCode] at h
      obtain ⟨rfl, rfl, rfl⟩ := h
      exact ⟨hg, fun r a w hT hI => wp_exit ⟨rfl, r, hT, hI, Ext.refl _ _⟩⟩
    | label l =>
      simp [runCode] at h
      obtain ⟨rfl, rfl, rfl⟩ := h
      exact ⟨hg, fun r a w hT hI => wp_label ⟨rfl, r, hT, hI, Ext.refl _ _⟩⟩
    | ret =>
      simp [runCode] at h
      obtain ⟨rfl, rfl, rfl⟩ := h
      exact ⟨hg, fun r a w hT hI => wp_ret ⟨rfl, r, hT, hI, Ext.refl _ _⟩⟩
    | rangeFunc _ _ _ _ => simp [runCode] at h
    | scope _ => simp [runCode] at h
    | goto _ => simp [runCode] at h
    | refuse _ => simp [runCode] at h
end
end Go.Proofs.Ytahedampmjfoeaa.SX
