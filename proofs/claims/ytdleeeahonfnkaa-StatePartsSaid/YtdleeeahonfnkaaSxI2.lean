/- What comes in, as the runner takes it: numbers, bools, structs and arrays of these, slices of these. -/
import Derived.Test.YtdleeeahonfnkaaSE
import Derived.Test.YtdleeeahonfnkaaLift
namespace Go.Proofs.Ytdleeeahonfnkaa.SX
open Go Go.RowKit

/-- The kinds of a type's cells, one behind the other. -/
def kindsFs (P : Program) (kinds : TypeId → Option (List (Option IntKind))) : List Field → Nat → Option (List (Option IntKind))
  | [], _ => some []
  | f :: r, o => if f.offset = o then (match kinds f.type with
    | some ks => if ks.length = P.cellsOf f.type then (match kindsFs P kinds r (o + ks.length) with
      | some l => some (ks ++ l)
      | none => none) else none
    | none => none) else none
def kindsP (P : Program) : Nat → TypeId → Option (List (Option IntKind))
  | 0, _ => none
  | d + 1, t => match P.underlying t with
    | some (.int k) => some [some k]
    | some .bool => some [none]
    | some (.array n e) => (match kindsP P d e with
      | some ks => if ks.length = P.cellsOf e ∧ P.cellsOf t = n * ks.length then some (repL ks n) else none
      | none => none)
    | some (.struct fs) => (match kindsFs P (kindsP P d) fs.toList 0 with
      | some ks => if P.cellsOf t = ks.length then some ks else none
      | none => none)
    | _ => none
def FitV : Option IntKind → Value → Prop
  | some k, v => ∃ n, v = .int k n ∧ (Lit.int k n).wf = true
  | none, v => ∃ b, v = .bool b
def FitL : List (Option IntKind) → List Value → Prop
  | [], [] => True
  | k :: l, v :: vs => FitV k v ∧ FitL l vs
  | _, _ => False
theorem FitL.length : ∀ {ks : List (Option IntKind)} {cs : List Value}, FitL ks cs → cs.length = ks.length
  | [], [], _ => rfl
  | _ :: l, _ :: vs, ⟨_, h⟩ => by simp [FitL.length h]
  | [], _ :: _, h => h.elim
  | _ :: _, [], h => h.elim
theorem FitL.append : ∀ {ks ls : List (Option IntKind)} {cs ds : List Value}, FitL ks cs → FitL ls ds → FitL (ks ++ ls) (cs ++ ds)
  | [], _, [], _, _, h => h
  | _ :: _, _, _ :: _, _, ⟨h1, h2⟩, h => ⟨h1, FitL.append h2 h⟩
  | [], _, _ :: _, _, h, _ => h.elim
  | _ :: _, _, [], _, h, _ => h.elim
section
variable {H : Type} {enc : TypeId × Value → H} {P : Program} {w : World} {base : Nat} {spare : Nat → Bool} {held : Bool}
/-- Parts of one length. -/
theorem parts_fit {ks : List (Option IntKind)} : ∀ (n i : Nat) (cs : List Value), cs.length = (i + n) * ks.length → (∀ j, i ≤ j → j < i + n → FitL ks ((cs.drop (j * ks.length)).take ks.length)) → FitL (repL ks n) (cs.drop (i * ks.length))
  | 0, i, cs, hl, _ => by
    have : cs.drop (i * ks.length) = [] := List.drop_eq_nil_of_le (by rw [hl]; simp)
    rw [this]; trivial
  | n + 1, i, cs, hl, h => by
    have h1 := h i (Nat.le_refl _) (by omega)
    have h2 := parts_fit n (i + 1) cs (by rw [hl]; congr 1; omega) (fun j a b => h j (by omega) (by omega))
    have e : cs.drop (i * ks.length) = (cs.drop (i * ks.length)).take ks.length ++ cs.drop ((i + 1) * ks.length) := by
      rw [Nat.add_mul, Nat.one_mul, ← List.drop_drop, List.take_append_drop]
    rw [e]
    exact h1.append h2
theorem flat_trod : ∀ (d : Nat) (t : TypeId) (ks : List (Option IntKind)), kindsP P d t = some ks → ∀ fuel cs x, DataW.trod enc P w base spare held fuel t cs = some x → FitL ks cs
  | 0, t, ks, hk, _, _, _, _ => by simp [kindsP] at hk
  | d + 1, t, ks, hk, 0, cs, x, h => by simp [DataW.trod] at h
  | d + 1, t, ks, hk, fuel + 1, cs, x, h => by
    unfold kindsP at hk
    split at hk
    · rename_i k hu
      cases hk
      obtain ⟨n, rfl, _, hw⟩ := DataW.trod_int hu h
      exact ⟨⟨n, rfl, hw⟩, trivial⟩
    · rename_i hu
      cases hk
      unfold DataW.trod at h
      rw [hu] at h
      split at h <;> simp_all
      exact ⟨⟨_, rfl⟩, trivial⟩
    · rename_i n e hu
      split at hk
      · rename_i k hke
        split at hk
        · rename_i hc
          cases hk
          unfold DataW.trod at h
          rw [hu] at h
          simp only at h
          split at h
          · rename_i hl
            obtain ⟨xs, hm, _⟩ := Option.map_eq_some_iff.1 h
            have hlen : cs.length = (0 + n) * k.length := by rw [hl, hc.2, Nat.zero_add]
            have := parts_fit (ks := k) n 0 cs hlen (fun j _ hj => by
              have hx := mapM_some_get hm j j (by rw [List.getElem?_range (by omega)])
              have hxl := mapM_some_length hm
              rw [List.length_range] at hxl
              obtain ⟨y, hy⟩ : ∃ y, xs[j]? = some y := ⟨xs[j], List.getElem?_eq_getElem (by omega)⟩
              rw [hy, ← hc.1] at hx
              exact flat_trod d e k hke fuel _ y hx)
            simpa using this
          · cases h
        · cases hk
      · cases hk
    · rename_i fs hu
      split at hk
      · rename_i k hkf
        split at hk
        · rename_i hc
          cases hk
          unfold DataW.trod at h
          rw [hu] at h
          simp only at h
          split at h
          · rename_i hl
            obtain ⟨xs, hm, _⟩ := Option.map_eq_some_iff.1 h
            have key : ∀ (l : List Field) (o : Nat) (ls : List (Option IntKind)), kindsFs P (kindsP P d) l o = some ls → (∀ f ∈ l, ∃ y, DataW.trod enc P w base spare held fuel f.type ((cs.drop f.offset).take (P.cellsOf f.type)) = some y) → cs.length = o + ls.length → FitL ls (cs.drop o) := by
              intro l
              induction l with
              | nil =>
                intro o ls hls _ hcs
                simp [kindsFs] at hls
                subst hls
                have : cs.drop o = [] := List.drop_eq_nil_of_le (by simp at hcs; omega)
                rw [this]; trivial
              | cons f l ih =>
                intro o ls hls hf hcs
                unfold kindsFs at hls
                split at hls
                · rename_i ho
                  split at hls
                  · rename_i kf hkf
                    split at hls
                    · rename_i hkl
                      split at hls
                      · rename_i rest hrest
                        cases hls
                        rw [List.length_append] at hcs
                        have h2 := ih (o + kf.length) rest hrest (fun g hg => hf g (List.mem_cons_of_mem _ hg)) (by omega)
                        obtain ⟨y, hy⟩ := hf f (List.mem_cons_self ..)
                        have h1 := flat_trod d f.type kf hkf fuel _ y hy
                        rw [ho, ← hkl] at h1
                        have e : cs.drop o = (cs.drop o).take kf.length ++ cs.drop (o + kf.length) := by
                          rw [← List.drop_drop, List.take_append_drop]
                        rw [e]
                        exact h1.append h2
                      · cases hls
                    · cases hls
                  · cases hls
                · cases hls
            have := key fs.toList 0 ks hkf (fun f hf => by
              obtain ⟨i, hi⟩ := List.getElem?_of_mem hf
              have hx := mapM_some_get hm i f hi
              have hxl := mapM_some_length hm
              have hi' : i < fs.toList.length := (List.getElem?_eq_some_iff.1 hi).1
              exact ⟨xs[i]'(by omega), by rw [hx, List.getElem?_eq_getElem (by omega)]⟩) (by rw [hl, hc]; omega)
            simpa using this
          · cases h
        · cases hk
      · cases hk
    · cases hk
def isAggT (P : Program) (t : TypeId) : Bool := match P.underlying t with
  | some (.struct _) => true
  | some (.array _ _) => true
  | _ => false
/-- A struct or an array comes in. -/
theorem open_flat {r : Reach} {b0 : Nat} {t : TypeId} {ks : List (Option IntKind)} {v : Value} {d : DataW H} {ps : List MemPlace} (hk : kindsP P 8 t = some ks) (ha : isAggT P t = true) (hval : Value.okWide P w r b0 t v) (hd : DataW.Trod enc P w base spare held t v d ps) :
    ∃ us, v = .agg ⟨us⟩ ∧ FitL ks us := by
  obtain ⟨fuel, hf⟩ := hd
  have hs : ∃ cs, v = .agg cs := by
    unfold isAggT at ha
    unfold Value.okWide at hval
    split at ha
    · rename_i fs hu; rw [hu] at hval; obtain ⟨cs, e, _⟩ := hval; exact ⟨cs, e⟩
    · rename_i n e hu; rw [hu] at hval; obtain ⟨cs, e, _⟩ := hval; exact ⟨cs, e⟩
    · cases ha
  obtain ⟨⟨us⟩, rfl⟩ := hs
  exact ⟨us, rfl, flat_trod 8 t ks hk fuel _ _ hf⟩
/-- A slice comes in: none; of nothing; of so many. -/
theorem open_slice {r : Reach} {b0 : Nat} {t e : TypeId} {ks : List (Option IntKind)} {v : Value} {d : DataW H} {ps : List MemPlace} (ht : P.underlying t = some (.slice e)) (hk : kindsP P 8 e = some ks) (hs : ks.length = P.cellsOf e) (h0 : 0 < ks.length)
    (hval : Value.okWide P w r b0 t v) (hd : DataW.Trod enc P w base spare held t v d ps) :
    v = .slice none 0 0 ∨ (∃ a c, v = .slice (some a) 0 c) ∨ ∃ (b off n cap : Nat) (us : List Value), v = .slice (some ⟨b, off, none⟩) n cap ∧ n ≠ 0 ∧ n ≤ cap ∧ cap ≤ 9223372036854775807 ∧ b < w.heap.size ∧ FitL (repL ks n) us ∧ ∀ j u, us[j]? = some u → w.cell? ⟨b, off + j, none⟩ = some u := by
  obtain ⟨fuel, hf⟩ := hd
  obtain ⟨a, len, cap, rfl⟩ := Go.WideShapes.okWide_slice ht hval
  rcases DataW.trod_slice ht hf with ⟨h1, _⟩ | ⟨a, len', cap', elems, rest, n, _, h1, _, _, hl, hm, hlen, hel, _⟩
  · left
    simp [Value.cells] at h1
    obtain ⟨rfl, rfl, rfl⟩ := h1
    rfl
  · right
    simp [Value.cells] at h1
    obtain ⟨rfl, rfl, rfl⟩ := h1
    by_cases hz : len = 0
    · subst hz; exact .inl ⟨a, cap, rfl⟩
    · right
      have cell : ∀ i, i < len → ∃ cs, cs.length = ks.length ∧ FitL ks cs ∧ ∀ j, j < ks.length → w.cell? ((a.add (i * ks.length)).add j) = cs[j]? := fun i hi => by
        have h2 := hel i hi
        rw [List.getElem?_eq_getElem (by omega)] at h2
        obtain ⟨cs, hcs, hx⟩ := Option.bind_eq_some_iff.1 h2
        obtain ⟨_, c1, c2⟩ := World.cells?_some hcs
        rw [← hs] at c1 c2
        exact ⟨cs, c1, flat_trod 8 e ks hk n _ _ hx, c2⟩
      have hspot : a.spot = none := by
        obtain ⟨cs, c1, _, c2⟩ := cell 0 (by omega)
        have h3 := c2 0 h0
        rw [List.getElem?_eq_getElem (by omega)] at h3
        have := World.cell?_spot h3
        simpa [Addr.add] using this
      obtain ⟨b, off, sp⟩ := a
      simp only at hspot
      subst hspot
      have all : ∀ k i, i + k = len → ∃ us, FitL (repL ks k) us ∧ us.length = k * ks.length ∧ ∀ j u, us[j]? = some u → w.cell? ⟨b, off + (i * ks.length + j), none⟩ = some u := by
        intro k
        induction k with
        | zero => intro i _; exact ⟨[], trivial, by simp, fun j u hu => by simp at hu⟩
        | succ k ih =>
          intro i hi
          obtain ⟨us, u1, u2, u3⟩ := ih (i + 1) (by omega)
          obtain ⟨cs, c1, c2, c3⟩ := cell i (by omega)
          refine ⟨cs ++ us, c2.append u1, by rw [List.length_append, c1, u2, Nat.add_mul]; omega, fun j u hu => ?_⟩
          by_cases hj : j < cs.length
          · rw [List.getElem?_append_left hj] at hu
            have := c3 j (by omega)
            rw [hu, add_at, add_at] at this
            rwa [Nat.add_assoc] at this
          · rw [List.getElem?_append_right (by omega)] at hu
            have := u3 _ _ hu
            rw [c1] at this hj
            rw [Nat.add_mul, Nat.one_mul] at this
            rwa [show off + (i * ks.length + j) = off + (i * ks.length + ks.length + (j - ks.length)) by omega]
      obtain ⟨us, u1, u2, u3⟩ := all len 0 (by omega)
      refine ⟨b, off, len, cap, us, rfl, hz, hl, hm, ?_, u1, fun j u hu => by have := u3 j u hu; rwa [Nat.zero_mul, Nat.zero_add] at this⟩
      have hp : 0 < us.length := by rw [u2]; exact Nat.mul_pos (by omega) h0
      have := u3 0 us[0] (List.getElem?_eq_getElem hp)
      rw [Nat.zero_mul, Nat.add_zero] at this
      exact World.block_lt_of_cell? w ⟨b, off, none⟩ this
end
/-! ### All that comes in -/
def valNum : Value → Int
  | .int _ n => n
  | .bool b => b2i b
  | _ => 0
def FitA (w : World) : Ar → Value → List Value → Prop
  | .one k, v, us => us = [v] ∧ FitV k v
  | .agg ks, v, us => v = .agg ⟨us⟩ ∧ FitL ks us
  | .sl n ks, v, us => ∃ b off cap, v = .slice (some ⟨b, off, none⟩) n cap ∧ n ≠ 0 ∧ n ≤ cap ∧ b < w.heap.size ∧ FitL (repL ks n) us ∧ ∀ j u, us[j]? = some u → w.cell? ⟨b, off + j, none⟩ = some u
  | .sz, v, us => us = [] ∧ ∃ a c, v = .slice (some a) 0 c
  | .sn, v, us => us = [] ∧ v = .slice none 0 0
  | .lo m, v, us => ∃ a n c, us = [.int .i64 (n : Nat)] ∧ v = .slice (some a) n c ∧ m ≤ n ∧ n ≤ 9223372036854775807 ∧ n ≠ 0 ∧ a.block < w.heap.size
def FitAs (w : World) : List Ar → List Value → List Value → Prop
  | [], [], all => all = []
  | a :: r, v :: vs, all => ∃ us rest, all = us ++ rest ∧ FitA w a v us ∧ FitAs w r vs rest
  | _, _, _ => False
theorem fitC_of {g : Sg} {i : Nat} {k : Option IntKind} {v : Value} (h : FitV k v) (hg : g i = valNum v) : fitC g i k v := by
  cases k with
  | none =>
    obtain ⟨b, rfl⟩ := h
    show Value.bool b = .bool (ieq (g i) 1)
    rw [hg]
    cases b <;> rfl
  | some k =>
    obtain ⟨n, rfl, hw⟩ := h
    have hg : g i = n := hg
    refine ⟨by rw [hg], ?_⟩
    rw [hg]
    have : (Lit.int k n).wf = true := hw
    unfold Lit.wf at this
    simp at this
    exact this
theorem fitCs_of {g : Sg} : ∀ {ks : List (Option IntKind)} {us : List Value} {i : Nat}, FitL ks us → (∀ j u, us[j]? = some u → g (i + j) = valNum u) → fitCs g i ks us
  | [], [], _, _, _ => trivial
  | k :: ks, u :: us, i, ⟨h1, h2⟩, hg => ⟨fitC_of h1 (hg 0 u rfl), fitCs_of h2 (fun j v hv => by have := hg (j + 1) v (by simpa using hv); rwa [show i + 1 + j = i + (j + 1) by omega])⟩
  | [], _ :: _, _, h, _ => h.elim
  | _ :: _, [], _, h, _ => h.elim
theorem fitVs_of {g : Sg} {w : World} : ∀ {ars : List Ar} {vs all : List Value} {i : Nat}, FitAs w ars vs all → (∀ j u, all[j]? = some u → g (i + j) = valNum u) → fitVs g w i ars vs
  | [], [], _, _, _, _ => trivial
  | a :: r, v :: vs, all, i, h, hg => by
    obtain ⟨us, rest, rfl, h1, h2⟩ := h
    have hl : ∀ j u, us[j]? = some u → g (i + j) = valNum u := fun j u hu => hg j u (by rw [List.getElem?_append_left (List.getElem?_eq_some_iff.1 hu).1]; exact hu)
    have hr : ∀ k, k = us.length → ∀ j u, rest[j]? = some u → g (i + k + j) = valNum u := fun k hk j u hu => by
      rw [Nat.add_assoc]
      exact hg (k + j) u (by rw [hk, List.getElem?_append_right (by omega), Nat.add_sub_cancel_left]; exact hu)
    cases a with
    | one k =>
      obtain ⟨rfl, h1⟩ := h1
      exact ⟨fitC_of h1 (hl 0 v rfl), fitVs_of h2 (hr 1 rfl)⟩
    | agg ks =>
      obtain ⟨rfl, h1⟩ := h1
      exact ⟨⟨us, rfl, fitCs_of h1 hl⟩, fitVs_of h2 (hr _ h1.length.symm)⟩
    | sl n ks =>
      obtain ⟨b, off, cap, e, f1, f2, f3, f4, f5⟩ := h1
      exact ⟨⟨b, off, cap, us, e, f1, f2, f3, fitCs_of f4 hl, f5⟩, fitVs_of h2 (hr _ f4.length.symm)⟩
    | sz =>
      obtain ⟨rfl, h1⟩ := h1
      exact ⟨h1, fitVs_of h2 (by simpa using hg)⟩
    | sn =>
      obtain ⟨rfl, h1⟩ := h1
      exact ⟨h1, fitVs_of h2 (by simpa using hg)⟩
    | lo m =>
      obtain ⟨a, n, c, rfl, e, f1, f2, f3, f4⟩ := h1
      exact ⟨⟨a, n, c, e, f1, f2, hl 0 _ rfl, f3, f4⟩, fitVs_of h2 (hr 1 rfl)⟩
  | [], _ :: _, _, _, h, _ => h.elim
  | _ :: _, [], _, _, h, _ => h.elim
/-- The numbers that the arguments give. -/
def sgOf (all : List Value) : Sg := fun j => valNum (all.getD j (.bool false))
theorem fit_all {w : World} {ars : List Ar} {vs all : List Value} (h : FitAs w ars vs all) : fitVs (sgOf all) w 0 ars vs :=
  fitVs_of h (fun j u hu => by unfold sgOf; rw [Nat.zero_add]; simp [List.getD, hu])
theorem law_fit {P : Program} {L : Lk} [LkOk P L] {X : FuncId → Nat} (hN : NamesOk P X) (hmix : P.follows .mixedOrders = true) {f : FuncId} {sum : Sum} (hs : ∀ g, CallOk P U g sum) {mc : FuncId → Bool} {ml : FuncId → Nat} {K d : Nat} {ars : List Ar}
    (h : lawB ars (runPol L U X sum mc ml K d f (start ars).1 (start ars).2) = true) {vs all : List Value} {w : World} (hv : FitAs w ars vs all) :
    Calls P f ⟨vs⟩ w fun e w' => e = .returned (.bool true) ∧ Below w.heap.size w w' :=
  law_true hN hmix hs h (sgOf all) vs w (fit_all hv)
theorem law_fitF {P : Program} {L : Lk} [LkOk P L] {X : FuncId → Nat} (hN : NamesOk P X) (hmix : P.follows .mixedOrders = true) {f : FuncId} {sum : Sum} (hs : ∀ g, CallOk P U g sum) {mc : FuncId → Bool} {ml : FuncId → Nat} {K d : Nat} {ars : List Ar} {facts : List (Bool × A × A × Bool)}
    (h : lawF ars facts (runPol L U X sum mc ml K d f (startF ars facts).1 (startF ars facts).2) = true) {vs all : List Value} {w : World} (hF : ∀ c ∈ facts, ciOk (gF (arSize ars) (sgOf all)) c) (hv : FitAs w ars vs all) :
    Calls P f ⟨vs⟩ w fun e w' => e = .returned (.bool true) ∧ Below w.heap.size w w' :=
  law_trueF hN hmix hs h (sgOf all) hF vs w (fit_all hv)
theorem law_fitN {P : Program} {L : Lk} [LkOk P L] {X : FuncId → Nat} (hN : NamesOk P X) (hmix : P.follows .mixedOrders = true) {f : FuncId} {sum : Sum} (hs : ∀ g, CallOk P U g sum) {mc : FuncId → Bool} {ml : FuncId → Nat} {K d : Nat} {ars : List Ar} {ng : Nat} {facts : List (Bool × A × A × Bool)}
    (h : lawN ars facts (runPol L U X sum mc ml K d f (startN ars ng facts).1 (startN ars ng facts).2) = true) {vs all : List Value} {w : World} (hF : ∀ c ∈ facts, ciOk (gN (arSize ars) (sgOf all)) c) (hv : FitAs w ars vs all) :
    Calls P f ⟨vs⟩ w fun e w' => e = .returned (.bool true) ∧ Below w.heap.size w w' :=
  law_trueN hN hmix hs h (sgOf all) hF vs w (fit_all hv)
theorem law_fitW {P : Program} {L : Lk} [LkOk P L] {X : FuncId → Nat} (hN : NamesOk P X) (hmix : P.follows .mixedOrders = true) {f : FuncId} {sum : Sum} (hs : ∀ g, CallOk P U g sum) {mc : FuncId → Bool} {ml : FuncId → Nat} {K d : Nat} {ars : List Ar} {T : WT}
    (h : T.Ran ars (fun o => runPol L U X sum mc ml K d f (startW ars o).1 (startW ars o).2) (arSize ars) [] []) {vs all : List Value} {w : World} (hv : FitAs w ars vs all) :
    Calls P f ⟨vs⟩ w fun e w' => e = .returned (.bool true) ∧ Below w.heap.size w w' :=
  ways_true hN hmix hs (sgOf all) vs w (fit_all hv) T _ _ _ h (fun c hc => by cases hc)
/-! ### Facts told ahead -/
def FactsOk (g : Sg) : List (Bool × A × A × Bool) → Prop
  | [] => True
  | c :: r => ciOk g c ∧ FactsOk g r
theorem facts_all {g : Sg} : ∀ {l : List (Bool × A × A × Bool)}, FactsOk g l → ∀ c ∈ l, ciOk g c
  | [], _, c, hc => by cases hc
  | d :: l, ⟨h1, h2⟩, c, hc => by
    rcases List.mem_cons.1 hc with rfl | hc
    · exact h1
    · exact facts_all h2 c hc
theorem fact_lt {g : Sg} {a b : A} {v : Bool} (h : decide (a.val g < b.val g) = v) : ciOk g (false, a, b, v) := by
  unfold ciOk
  simp only [cond_false]
  rw [ile_iff, ← decide_not, ← h]
  exact decide_eq_decide.2 (by omega)
theorem fact_eq {g : Sg} {a b : A} {v : Bool} (h : decide (a.val g = b.val g) = v) : ciOk g (true, a, b, v) := by
  unfold ciOk
  simp only [cond_true]
  rw [ieq_iff, ← h]
end Go.Proofs.Ytdleeeahonfnkaa.SX
