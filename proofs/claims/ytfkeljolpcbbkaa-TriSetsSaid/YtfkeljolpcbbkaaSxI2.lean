/- What comes in, as the runner takes it: numbers, bools, structs and arrays of these, slices of these. -/
import Derived.Test.YtfkeljolpcbbkaaSE
import Derived.Test.YtfkeljolpcbbkaaLNU
namespace Go.Proofs.Ytfkeljolpcbbkaa.SX
open Go Go.RowKit

def kindsFs (P : Program) (kinds : TypeId → Option (List (Option IntKind))) : List Field → Nat → Option (List (Option IntKind))
  | [], _ => some []
  | f :: r, o => if f.offset = o then (match kinds f.type with
    | some ks => if ks.length = P.cellsOf f.type then (match kindsFs P kinds r (o + ks.length) with
      | some l => some (ks ++ l)
      | none => none) else none
    | none => none) else none
def kindsP (P : Program) : Nat → TypeId → Option (List (Option IntKind))
  | 0, _ => none
  | d + 1, t => match P.underlying t with
    | some (.int k) => some [some k]
    | some .bool => some [none]
    | some (.array n e) => (match kindsP P d e with
      | some ks => if ks.length = P.cellsOf e ∧ P.cellsOf t = n * ks.length then some (repL ks n) else none
      | none => none)
    | some (.struct fs) => (match kindsFs P (kindsP P d) fs.toList 0 with
      | some ks => if P.cellsOf t = ks.length then some ks else none
      | none => none)
    | _ => none
def FitV : Option IntKind → Value → Prop
  | some k, v => ∃ n, v = .int k n ∧ (Lit.int k n).wf = true
  | none, v => ∃ b, v = .bool b
def FitL : List (Option IntKind) → List Value → Prop
  | [], [] => True
  | k :: l, v :: vs => FitV k v ∧ FitL l vs
  | _, _ => False
theorem FitL.append : ∀ {ks ls : List (Option IntKind)} {cs ds : List Value}, FitL ks cs → FitL ls ds → FitL (ks ++ ls) (cs ++ ds)
  | [], _, [], _, _, h => h
  | _ :: _, _, _ :: _, _, ⟨h1, h2⟩, h => ⟨h1, FitL.append h2 h⟩
  | [], _, _ :: _, _, h, _ => h.elim
  | _ :: _, _, [], _, h, _ => h.elim
section
variable {H : Type} {enc : TypeId × Value → H} {P : Program} {w : World} {base : Nat} {spare : Nat → Bool} {held : Bool}
theorem parts_fit {ks : List (Option IntKind)} : ∀ (n i : Nat) (cs : List Value), cs.length = (i + n) * ks.length → (∀ j, i ≤ j → j < i + n → FitL ks ((cs.drop (j * ks.length)).take ks.length)) → FitL (repL ks n) (cs.drop (i * ks.length))
  | 0, i, cs, hl, _ => by
    have : cs.drop (i * ks.length) = [] := List.drop_eq_nil_of_le (by rw [hl]; simp)
    rw [this]; trivial
  | n + 1, i, cs, hl, h => by
    have h1 := h i (Nat.le_refl _) (by omega)
    have h2 := parts_fit n (i + 1) cs (by rw [hl]; congr 1; omega) (fun j a b => h j (by omega) (by omega))
    have e : cs.drop (i * ks.length) = (cs.drop (i * ks.length)).take ks.length ++ cs.drop ((i + 1) * ks.length) := by
      rw [Nat.add_mul, Nat.one_mul, ← List.drop_drop, List.take_append_drop]
    rw [e]
    exact h1.append h2
theorem flat_trod : ∀ (d : Nat) (t : TypeId) (ks : List (Option IntKind)), kindsP P d t = some ks → ∀ fuel cs x, DataW.trod enc P w base spare held fuel t cs = some x → FitL ks cs
  | 0, t, ks, hk, _, _, _, _ => by simp [kindsP] at hk
  | d + 1, t, ks, hk, 0, cs, x, h => by simp [DataW.trod] at h
  | d + 1, t, ks, hk, fuel + 1, cs, x, h => by
    unfold kindsP at hk
    split at hk
    · rename_i k hu
      cases hk
      obtain ⟨n, rfl, _, hw⟩ := DataW.trod_int hu h
      exact ⟨⟨n, rfl, hw⟩, trivial⟩
    · rename_i hu
      cases hk
      unfold DataW.trod at h
      rw [hu] at h
      split at h <;> simp_all
      exact ⟨⟨_, rfl⟩, trivial⟩
    · rename_i n e hu
      split at hk
      · rename_i k hke
        split at hk
        · rename_i hc
          cases hk
          unfold DataW.trod at h
          rw [hu] at h
          simp only at h
          split at h
          · rename_i hl
            obtain ⟨xs, hm, _⟩ := Option.map_eq_some_iff.1 h
            have hlen : cs.length = (0 + n) * k.length := by rw [hl, hc.2, Nat.zero_add]
            have := parts_fit (ks := k) n 0 cs hlen (fun j _ hj => by
              have hx := mapM_some_get hm j j (by rw [List.getElem?_range (by omega)])
              have hxl := mapM_some_length hm
              rw [List.length_range] at hxl
              obtain ⟨y, hy⟩ : ∃ y, xs[j]? = some y := ⟨xs[j], List.getElem?_eq_getElem (by omega)⟩
              rw [hy, ← hc.1] at hx
              exact flat_trod d e k hke fuel _ y hx)
            simpa using this
          · cases h
        · cases hk
      · cases hk
    · rename_i fs hu
      split at hk
      · rename_i k hkf
        split at hk
        · rename_i hc
          cases hk
          unfold DataW.trod at h
          rw [hu] at h
          simp only at h
          split at h
          · rename_i hl
            obtain ⟨xs, hm, _⟩ := Option.map_eq_some_iff.1 h
            have key : ∀ (l : List Field) (o : Nat) (ls : List (Option IntKind)), kindsFs P (kindsP P d) l o = some ls → (∀ f ∈ l, ∃ y, DataW.trod enc P w base spare held fuel f.type ((cs.drop f.offset).take (P.cellsOf f.type)) = some y) → cs.length = o + ls.length → FitL ls (cs.drop o) := by
              intro l
              induction l with
              | nil =>
                intro o ls hls _ hcs
                simp [kindsFs] at hls
                subst hls
                have : cs.drop o = [] := List.drop_eq_nil_of_le (by simp at hcs; omega)
                rw [this]; trivial
              | cons f l ih =>
                intro o ls hls hf hcs
                unfold kindsFs at hls
                split at hls
                · rename_i ho
                  split at hls
                  · rename_i kf hkf
                    split at hls
                    · rename_i hkl
                      split at hls
                      · rename_i rest hrest
                        cases hls
                        rw [List.length_append] at hcs
                        have h2 := ih (o + kf.length) rest hrest (fun g hg => hf g (List.mem_cons_of_mem _ hg)) (by omega)
                        obtain ⟨y, hy⟩ := hf f (List.mem_cons_self ..)
                        have h1 := flat_trod d f.type kf hkf fuel _ y hy
                        rw [ho, ← hkl] at h1
                        have e : cs.drop o = (cs.drop o).take kf.length ++ cs.drop (o + kf.length) := by
                          rw [← List.drop_drop, List.take_append_drop]
                        rw [e]
                        exact h1.append h2
                      · cases hls
                    · cases hls
                  · cases hls
                · cases hls
            have := key fs.toList 0 ks hkf (fun f hf => by
              obtain ⟨i, hi⟩ := List.getElem?_of_mem hf
              have hx := mapM_some_get hm i f hi
              have hxl := mapM_some_length hm
              have hi' : i < fs.toList.length := (List.getElem?_eq_some_iff.1 hi).1
              exact ⟨xs[i]'(by omega), by rw [hx, List.getElem?_eq_getElem (by omega)]⟩) (by rw [hl, hc]; omega)
            simpa using this
          · cases h
        · cases hk
      · cases hk
    · cases hk
def isAggT (P : Program) (t : TypeId) : Bool := match P.underlying t with
  | some (.struct _) => true
  | some (.array _ _) => true
  | _ => false
theorem open_flat {r : Reach} {b0 : Nat} {t : TypeId} {ks : List (Option IntKind)} {v : Value} {d : DataW H} {ps : List MemPlace} (hk : kindsP P 8 t = some ks) (ha : isAggT P t = true) (hval : Value.okWide P w r b0 t v) (hd : DataW.Trod enc P w base spare held t v d ps) :
    ∃ us, v = .agg ⟨us⟩ ∧ FitL ks us := by
  obtain ⟨fuel, hf⟩ := hd
  have hs : ∃ cs, v = .agg cs := by
    unfold isAggT at ha
    unfold Value.okWide at hval
    split at ha
    · rename_i fs hu; rw [hu] at hval; obtain ⟨cs, e, _⟩ := hval; exact ⟨cs, e⟩
    · rename_i n e hu; rw [hu] at hval; obtain ⟨cs, e, _⟩ := hval; exact ⟨cs, e⟩
    · cases ha
  obtain ⟨⟨us⟩, rfl⟩ := hs
  exact ⟨us, rfl, flat_trod 8 t ks hk fuel _ _ hf⟩
end
/-! ### All that comes in -/
/-! ### Facts told ahead -/
end Go.Proofs.Ytfkeljolpcbbkaa.SX
