/- The runner: memory, regions, code, calls. -/
import Derived.Test.YtdleeeahonfnkaaSB
import Derived.Below
import Derived.Laws.AppendOwn
import Derived.Laws.Tables

/- SxH -/
namespace Go.Proofs.Ytdleeeahonfnkaa.SX
open Go
section
variable {P : Program} {L : Lk} {U : Nat → List Int → Int} {X : FuncId → Nat} {g : Sg} [UOk U] [LkOk P L]
theorem load_var {t : T} {h : List (Nat × Bk)} {ty : TypeId} {x : Operand} {v : V} (hl : loadOp L t h (.load ty x) = some v) {n : Nat} {r : Rho} {a : Act} (hT : TRel n g r t a) {w : World} (hH : Holds g r h w) :
    ∃ q u, a.eval x = .pointer (some q) ∧ v.Den g r u ∧ (loadVar ty q).run P w = .ok u w := by
  unfold loadOp at hl
  simp only at hl
  split at hl
  · rename_i m o hx
    split at hl
    · rename_i bk hbk
      split at hl
      · rename_i y hy
        cases hl
        obtain ⟨q, hq, hev⟩ := den_p (ev_den hT hx)
        have hB := hH m bk q hbk hq
        obtain ⟨vs, hD, hw⟩ := hB.read
        unfold partA at hy
        split at hy
        · rename_i ha
          split at hy
          · rename_i s hs
            split at hy
            · rename_i l' hl'
              cases hy
              obtain ⟨rfl, hle⟩ := takeN_take hl'
              have hlen : ((vs.drop o).take s).length = s := by
                have := hD.length
                simp at hle ⊢; omega
              refine ⟨_, .agg ⟨(vs.drop o).take s⟩, hev, ⟨_, rfl, (hD.drop o).take s⟩, ?_⟩
              have hc := run_loadCells_list (P := P) w ⟨q, r.f m + o, none⟩ ((vs.drop o).take s) (fun j v hv => by
                rw [add_at, Nat.add_assoc]
                refine hw (o + j) v ?_
                rw [List.getElem?_take] at hv
                split at hv
                · rwa [List.getElem?_drop] at hv
                · cases hv)
              rw [hlen] at hc
              simp only [Sem.run_bind, Sem.run_pure, Result.andThen_ok, loadVar, run_isAgg ha, if_true, run_sizeOf hs, hc]
            · cases hy
          · cases hy
        · rename_i ha
          split at hy
          · rename_i c hc
            cases hy
            obtain ⟨u, hu, hd⟩ := hD.get hc
            refine ⟨_, u, hev, hd, ?_⟩
            have hcell : w.cell? ⟨q, r.f m + o, none⟩ = some u := hw o u hu
            simp only [Sem.run_bind, Result.andThen_ok, loadVar, run_isAgg ha, Bool.false_eq_true, if_false, run_load, hcell]
          · cases hy
        · cases hy
      · cases hl
    · cases hl
  · cases hl
theorem load_ok {t : T} {h : List (Nat × Bk)} {op : Op} {v : V} (hl : loadOp L t h op = some v) {n : Nat} {r : Rho} {a : Act} (hT : TRel n g r t a) {w : World} (hH : Holds g r h w) :
    ∃ u, v.Den g r u ∧ ∀ (o : Oper), o.op = op → (execOp a.eval o).run P w = .ok (.value u) w := by
  have hop : ∃ ty x, op = .load ty x := by
    unfold loadOp at hl
    split at hl
    · exact ⟨_, _, rfl⟩
    · cases hl
  obtain ⟨ty, x, rfl⟩ := hop
  obtain ⟨q, u, hev, hd, hr⟩ := load_var (P := P) hl hT hH
  refine ⟨u, hd, fun o ho => ?_⟩
  simp only [execOp, ho, hev, Instr.loadAt, Instr.sureAddr, Sem.run_bind, Sem.run_pure, Result.andThen_ok, hr]
/-- What is said of a runner of calls. -/
def CallOk (P : Program) (U : Nat → List Int → Int) (g : Sg) (call : FuncId → List V → St → Option (V × St)) : Prop :=
  ∀ f args st v st', call f args st = some (v, st') → Good U g st' → Good U g st ∧ ∀ r w vs, Inv g r st w → VL g r args vs →
    Calls P f ⟨vs⟩ w fun e w' => ∃ r' u, e = .returned u ∧ v.Den g r' u ∧ Inv g r' st' w' ∧ Ext r w r' w'
/-- What is said of an operation carried out from the state st. -/
abbrev Does (P : Program) (g : Sg) (_ st' : St) (v : V) (op : Op) (r : Rho) (a : Act) (w : World) : Prop :=
  ∀ (o : Oper), o.op = op → ∀ (next : Act → World → Prop) (Q : Exit → Act → World → Prop),
    (∀ u r' w', v.Den g r' u → Inv g r' st' w' → Ext r w r' w' → next (a.put o.dst u) w') → o.wp P a w next Q
theorem alloc_heap {w : World} {o : Obj} {b : Nat} (h : b < w.heap.size) : (w.alloc o).heap[b]? = w.heap[b]? := by
  simp only [World.alloc, Array.getElem?_push]
  split
  · omega
  · rfl
theorem alloc_new (w : World) (o : Obj) : (w.alloc o).heap[w.heap.size]? = some o := by
  simp only [World.alloc, Array.getElem?_push, if_true]
theorem run_newRow' (e : TypeId) (cells : Array Value) (w : World) : (newRow e cells).run P w = .ok ⟨w.heap.size, 0, none⟩ (w.alloc (.cells cells e)) := rfl
/-- A name for memory that has none that counts. -/
theorem new_name {st st' : St} {H : List (Nat × Bk)} {m q c f' : Nat} {cells : List C} {ty : TypeId} {kd : Kd} {r : Rho} {w w' : World} (hI : Inv g r st w) (hm : r m = none) (hmb : r.bar m = false)
    (hsub : ∀ x bk, hget H x = some bk → hget st.heap x = some bk) (hh : st'.heap = hset H m ⟨cells, ty, kd⟩) (hn : st.next ≤ st'.next) (hlt : m < st'.next) (hres : ∀ n, n ∈ st'.resv → n ∈ st.resv ∧ n ≠ m)
    (hsz : w.heap.size ≤ w'.heap.size) (hq : q < w'.heap.size) (hother : ∀ x b, (hget H x).isSome = true → r x = some b → b ≠ q) (hfr : ∀ b, b < w.heap.size → b ≠ q → w'.heap[b]? = w.heap[b]?)
    (hq2 : w.heap.size ≤ q ∨ ∃ n, r n = some q ∧ r.ro n = false) (hos : w'.os = w.os) (htp : w'.tape = w.tape) (hou : w'.output = w.output)
    (hown : ∀ r', Sub r r' → r'.k m = c → r'.f m = f' → r'.ro m = false → Owned g r' m q ⟨cells, ty, kd⟩ w') :
    ∃ r', r' m = some q ∧ r'.k m = c ∧ r'.f m = f' ∧ Inv g r' st' w' ∧ Ext r w r' w' := by
  have hsubr : Sub r ⟨fun n => if n = m then some q else r n, fun n => if n = m then c else r.k n, fun n => if n = m then f' else r.f n, fun n => if n = m then false else r.ro n, r.z, r.bar⟩ := ⟨fun n b hb => by
    by_cases e : n = m
    · subst e; rw [hm] at hb; cases hb
    · simp [e, hb], rfl⟩
  have some_sub : ∀ x, (hget H x).isSome = true → (hget st.heap x).isSome = true := fun x hx => by
    obtain ⟨bk, hbk⟩ := Option.isSome_iff_exists.1 hx
    exact isSome_of (hsub x bk hbk)
  refine ⟨_, if_pos rfl, if_pos rfl, if_pos rfl, ⟨?_, ?_, ?_, ?_, ?_, ?_, ?_⟩, ⟨hsubr, ?_, hsz, ?_, hos, htp, hou, rfl⟩⟩
  · intro n bk b hb hrb
    rw [hh, hget_hset] at hb
    by_cases e : n = m
    · subst e
      simp only [if_true, Option.some.injEq] at hb; subst hb
      have hqb : q = b := by simpa using hrb
      subst hqb
      exact .inr (hown _ hsubr (if_pos rfl) (if_pos rfl) (if_pos rfl))
    · rw [if_neg e] at hb
      have h1 : r n = some b := by simpa [e] using hrb
      have h2 := hI.holds n bk b (hsub n bk hb) h1
      exact (h2.sub hsubr h1).world (hfr b (hI.lt n b h1) (hother n b (isSome_of hb) h1))
  · intro n k b hn' hk hro h1 h2
    rw [hh] at hn' hk
    by_cases e : n = m <;> by_cases e' : k = m
    · rw [e, e']
    · have hk := (isSome_hset hk).resolve_left e'
      simp [e] at h1
      simp [e'] at h2
      exact absurd h1.symm (hother k b hk h2)
    · have hn' := (isSome_hset hn').resolve_left e
      simp [e'] at h2
      simp [e] at h1
      exact absurd h2.symm (hother n b hn' h1)
    · have hk := (isSome_hset hk).resolve_left e'
      have hn' := (isSome_hset hn').resolve_left e
      simp [e] at h1 hro
      simp [e'] at h2
      exact hI.inj n k b (some_sub n hn') (some_sub k hk) hro h1 h2
  · intro n b h1
    by_cases e : n = m
    · subst e; exact ⟨hlt, fun hc => (hres n hc).2 rfl⟩
    · simp [e] at h1
      obtain ⟨f1, f2⟩ := hI.fresh n b h1
      exact ⟨by omega, fun hc => f2 (hres n hc).1⟩
  · intro n b h1
    by_cases e : n = m
    · simp [e] at h1; omega
    · simp [e] at h1; have := hI.lt n b h1; omega
  · intro n hc
    have := hI.rlt n (hres n hc).1; omega
  · intro n b h1
    by_cases e : n = m
    · subst e; exact hmb
    · simp [e] at h1; exact hI.nobar n b h1
  · intro n hb
    obtain ⟨f1, f2⟩ := hI.free n hb
    exact ⟨by omega, fun hc => f2 (hres n hc).1⟩
  · intro n b h1 h2
    by_cases e : n = m
    · simp [e] at h1
      subst h1
      rcases hq2 with h | h
      · exact .inr h
      · exact .inl h
    · simp [e] at h1 h2; exact .inl ⟨n, h1, h2⟩
  · intro b hb hro
    refine hfr b hb fun e => ?_
    subst e
    rcases hq2 with h | ⟨n, h1, h2⟩
    · omega
    · rw [hro n h1] at h2; cases h2
omit [UOk U] in
/-- The name that memory gets. -/
theorem mkBk_name {nm : Option Nat} {kd : Kd} {cells : List C} {ty : TypeId} {R : Nat → V} {st st' : St} {v : V} (h : mkBk nm kd cells ty R st = some (v, st')) :
    (Good U g st' → Good U g st) ∧ ∃ m, v = R m ∧ st'.heap = hset st.heap m ⟨cells, ty, kd⟩ ∧ st.next ≤ st'.next ∧ (∀ n, n ∈ st'.resv → n ∈ st.resv) ∧
      ∀ r : Rho, (∀ n b, r n = some b → n < st.next ∧ n ∉ st.resv) → (∀ n, n ∈ st.resv → n < st.next) → (∀ n, r.bar n = true → n < st.next ∧ n ∉ st.resv) → r m = none ∧ m < st'.next ∧ (∀ n, n ∈ st'.resv → n ≠ m) ∧ r.bar m = false := by
  unfold mkBk at h
  split at h
  · rename_i m
    cases hc : st.resv.contains m
    · rw [hc] at h; cases h
    · rw [hc] at h
      simp only [cond_true] at h
      cases h
      have hm : m ∈ st.resv := by simpa using hc
      refine ⟨fun hg => ⟨hg.defs, hg.cs, hg.ci, hg.rg, hg.ok⟩, m, rfl, rfl, Nat.le_refl _, fun n hn => (List.mem_filter.1 hn).1, fun r hf hr hb => ⟨?_, hr m hm, fun n hn => ?_, ?_⟩⟩
      · cases hr : r m with
        | none => rfl
        | some b => exact absurd hm (hf m b hr).2
      · have := (List.mem_filter.1 hn).2
        rw [nbeq] at this
        simpa using this
      · cases hr : r.bar m with
        | false => rfl
        | true => exact absurd hm (hb m hr).2
  · cases h
    refine ⟨fun hg => ⟨hg.defs, hg.cs, hg.ci, hg.rg, hg.ok⟩, st.next, rfl, rfl, by simp, fun n hn => hn, fun r hf hr hb => ⟨?_, by simp, fun n hn => ?_, ?_⟩⟩
    · cases hr : r st.next with
      | none => rfl
      | some b => have := (hf _ b hr).1; omega
    · have := hr n hn; omega
    · cases hr : r.bar st.next with
      | false => rfl
      | true => have := (hb _ hr).1; omega
omit [UOk U] in
/-- Memory that is made: what is known of it comes first. -/
theorem mk_any {nm : Option Nat} {kd : Kd} {cells : List C} {ty : TypeId} {R : Nat → V} {st0 st st' : St} {v : V} (h : mkBk nm kd cells ty R st = some (v, st')) (hg : Good U g st')
    (h0 : ∀ x bk, hget st.heap x = some bk → hget st0.heap x = some bk) (h1 : st.next = st0.next) (h2 : st.resv = st0.resv) :
    Good U g st ∧ ∀ r w vs post c, Inv g r st0 w → DL g r cells vs → (match kd with | .own => post = [] | .op s => c * s ≤ vs.length + post.length | .vw => False) →
      ∃ m r', v = R m ∧ r' m = some w.heap.size ∧ r'.k m = c ∧ r'.f m = 0 ∧ Inv g r' st' (w.alloc (.cells ⟨vs ++ post⟩ ty)) ∧ Ext r w r' (w.alloc (.cells ⟨vs ++ post⟩ ty)) := by
  obtain ⟨hg1, m, hv, hh, hn, hrs, hm⟩ := mkBk_name (U := U) (g := g) h
  refine ⟨hg1 hg, fun r w vs post c hI hD hp => ?_⟩
  obtain ⟨m1, m2, m3, m4⟩ := hm r (by rw [h1, h2]; exact hI.fresh) (by rw [h1, h2]; exact hI.rlt) (by rw [h1, h2]; exact hI.free)
  obtain ⟨r', e1, e2, e3, e4, e5⟩ := new_name (w' := w.alloc (.cells ⟨vs ++ post⟩ ty)) (q := w.heap.size) (c := c) (f' := 0) hI m1 m4 h0 hh (by rw [← h1]; exact hn) m2 (fun n hn => ⟨by rw [← h2]; exact hrs n hn, m3 n hn⟩)
    (by rw [World.size_alloc]; omega) (by rw [World.size_alloc]; omega) (fun x b _ hb => by have := hI.lt x b hb; omega) (fun b hb _ => alloc_heap hb) (.inl (Nat.le_refl _)) rfl rfl rfl
    (fun r' hs hk hf hro => ⟨hro, [], vs, post, alloc_new _ _, hf.symm, hD.sub hs, by
      cases kd with
      | own => exact ⟨rfl, hp⟩
      | op s => show r'.f m + r'.k m * s ≤ 0 + vs.length + post.length; rw [hf, hk]; have : c * s ≤ vs.length + post.length := hp; omega
      | vw => exact hp⟩)
  exact ⟨m, r', hv, e1, e2, e3, e4, e5⟩
omit [UOk U] in
theorem mk_ok {nm : Option Nat} {cells : List C} {ty : TypeId} {R : Nat → V} {st st' : St} {v : V} (h : mkBk nm .own cells ty R st = some (v, st')) (hg : Good U g st') :
    Good U g st ∧ ∀ r w vs, Inv g r st w → DL g r cells vs → ∃ m r', v = R m ∧ r' m = some w.heap.size ∧ r'.f m = 0 ∧ Inv g r' st' (w.alloc (.cells ⟨vs⟩ ty)) ∧ Ext r w r' (w.alloc (.cells ⟨vs⟩ ty)) := by
  obtain ⟨h1, h2⟩ := mk_any (st0 := st) h hg (fun _ _ h => h) rfl rfl
  refine ⟨h1, fun r w vs hI hD => ?_⟩
  obtain ⟨m, r', e1, e2, _, e3, e4, e5⟩ := h2 r w vs [] 0 hI hD rfl
  rw [List.append_nil] at e4 e5
  exact ⟨m, r', e1, e2, e3, e4, e5⟩
theorem DL.rep {r : Rho} {l : List C} {vs : List Value} (h : DL g r l vs) : ∀ n, DL g r (repL l n) (repL vs n)
  | 0 => DL.nil
  | n + 1 => h.append (DL.rep h n)
theorem repL_length {α : Type} (l : List α) : ∀ n, (repL l n).length = n * l.length
  | 0 => by simp [repL]
  | n + 1 => by simp [repL, repL_length l n, Nat.add_mul]; omega
theorem repL_get {α : Type} [Inhabited α] (l : List α) (h : 0 < l.length) : ∀ n j, j < n * l.length → (repL l n)[j]? = some (l[j % l.length]!)
  | 0, j, hj => by simp at hj
  | n + 1, j, hj => by
    rw [repL]
    by_cases hlt : j < l.length
    · rw [List.getElem?_append_left hlt, Nat.mod_eq_of_lt hlt]
      simp [hlt]
    · rw [List.getElem?_append_right (by omega), repL_get l h n (j - l.length) (by rw [Nat.add_mul] at hj; omega)]
      congr 2
      rw [← Nat.mod_eq_sub_mod (by omega)]
theorem buildSlice_ok {ty : TypeId} {len : Nat} {parts : List (Nat × W)} {l : List C} {e : TypeId} (h : buildSliceA L ty len parts = some (l, e)) :
    ∀ r (vs : List (Nat × Value)), PL g r parts vs → ∃ ws, DL g r l ws ∧ ∀ w, (Instr.buildSlice ty len ⟨vs⟩).run P w = .ok (.slice (some ⟨w.heap.size, 0, none⟩) len len) (w.alloc (.cells ⟨ws⟩ e)) := by
  intro r vs hP
  unfold buildSliceA at h
  split at h
  · rename_i e' hu
    split at h
    · rename_i s z0 hs hz0
      obtain ⟨i, z, hi, hz, hzc⟩ := zero_ok (P := P) (g := g) hz0
      obtain ⟨cv, hcv, hD⟩ := hzc r
      rw [nble, nbeq, nblt, ← Bool.decide_and, ← Bool.decide_and, Bool.cond_decide] at h
      split at h
      · rename_i hc
        obtain ⟨⟨hc1, hc2⟩, hc3⟩ := hc
        split at h
        · rename_i m hm
          cases h
          have hcl : cv.length = s := by rw [hD.length]; exact hc2
          obtain ⟨ws, h1, h2⟩ := fill_ok (fun _ _ hp => hp) hm hP (hD.rep len)
          refine ⟨ws, h2, fun w => ?_⟩
          have hrange : ((Array.range (len * s)).map (fun x => (z.cells)[x % (z.cells).size]!)) = ⟨repL cv len⟩ := by
            rw [hcv]
            apply Array.ext'
            simp only [Array.toList_map, Array.toList_range]
            apply List.ext_getElem?
            intro j
            rw [List.getElem?_map]
            by_cases hj : j < len * s
            · rw [List.getElem?_range hj, repL_get cv (by omega) len j (by rw [hcl]; exact hj)]
              simp
            · rw [List.getElem?_eq_none (by simp; omega), List.getElem?_eq_none (by rw [repL_length, hcl]; omega)]
              rfl
          unfold Instr.buildSlice
          rw [Sem.run_bind, run_underlying' hu]
          simp only [Result.andThen_ok]
          rw [Sem.run_bind, run_sizeOf hs]
          simp only [Result.andThen_ok]
          rw [if_neg (by show ¬ len * s > 16777216; omega)]
          by_cases h0 : len * s = 0
          · have hr0 : repL cv len = [] := List.eq_nil_of_length_eq_zero (by rw [repL_length, hcl]; exact h0)
            rw [hr0] at h1
            simp only [h0, if_true, Sem.run_bind, Sem.run_pure, Result.andThen_ok]
            have : ((Array.range 0).map (fun x => (#[] : Array Value)[x % (#[] : Array Value).size]!)) = ⟨[]⟩ := by
              apply Array.ext'; simp
            rw [this, h1]
            simp only [Sem.run_bind, run_newRow', Result.andThen_ok, Sem.run_pure]
          · simp only [h0, if_false, Sem.run_bind, Sem.run_pure, Result.andThen_ok, run_zero hi hz, hrange, h1, run_newRow']
        · cases h
      · cases h
    · cases h
  · cases h
theorem setCells_ok {l m : List C} {off : Nat} {vs : List C} (h : setCells l off vs = some m) : off + vs.length ≤ l.length ∧ m = l.take off ++ vs ++ l.drop (off + vs.length) := by
  unfold setCells at h
  rw [nble, Bool.cond_decide] at h
  split at h
  · rename_i hc; cases h; exact ⟨hc, rfl⟩
  · cases h
/-- Cells that are written one behind the other. -/
theorem write_ok {st : St} {n o : Nat} {bk : Bk} {l cs : List C} (hbk : hget st.heap n = some bk) (hfree : bk.kd.free = true) (hl : setCells bk.cells o cs = some l) {r : Rho} {w : World} (hI : Inv g r st w) {q : Nat} (hq : r n = some q)
    {us : List Value} (hD : DL g r cs us) : ∃ w', (storeCells ⟨q, r.f n + o, none⟩ us).run P w = .ok () w' ∧ Inv g r { st with heap := hset st.heap n ⟨l, bk.ty, bk.kd⟩ } w' ∧ Ext r w r w' := by
  obtain ⟨hle, rfl⟩ := setCells_ok hl
  have hB := hI.holds n bk q hbk hq
  obtain ⟨hro, pre, vs, post, hw, hpre, hDv, hside⟩ := hB.free hfree
  have hlv := hDv.length
  have hlu := hD.length
  have hst := run_storeCells_at (P := P) q (r.f n + o) bk.ty us 0 ⟨pre ++ (vs ++ post)⟩ w hw (by rw [Nat.add_zero]; show _ ≤ (pre ++ (vs ++ post)).length; rw [List.length_append, List.length_append]; omega) hD.one
  simp only [Nat.add_zero] at hst
  have hnew : (pre ++ (vs ++ post)).take (r.f n + o) ++ us ++ (pre ++ (vs ++ post)).drop (r.f n + o + us.length) = pre ++ ((vs.take o ++ us ++ vs.drop (o + us.length)) ++ post) := by
    rw [← hpre, List.take_append, List.take_of_length_le (by omega), Nat.add_sub_cancel_left, List.take_append_of_le_length (by omega),
      Nat.add_assoc, List.drop_append, List.drop_of_length_le (by omega), Nat.add_sub_cancel_left, List.nil_append, List.drop_append_of_le_length (by omega)]
    simp only [List.append_assoc]
  refine ⟨_, hst, ⟨?_, ?_, hI.fresh, ?_, hI.rlt, hI.nobar, hI.free⟩, ⟨Sub.refl _, fun k _ h h' => .inl ⟨k, h, h'⟩, ?_, ?_, rfl, rfl, rfl, rfl⟩⟩
  · intro k bk' b hk hrb
    simp only [hget_hset] at hk
    by_cases e : k = n
    · subst e
      simp only [if_true, Option.some.injEq] at hk; subst hk
      rw [hq] at hrb; cases hrb
      refine .inr ⟨hro, pre, vs.take o ++ us ++ vs.drop (o + us.length), post, ?_, hpre, ?_, ?_⟩
      · rw [← hnew]
        exact setRow_heap w q _ _ _ _ hw
      · rw [hlu, List.append_assoc, List.append_assoc]
        exact (hDv.take o).append (hD.append (hDv.drop _))
      · have : (vs.take o ++ us ++ vs.drop (o + us.length)).length = vs.length := by simp; omega
        rw [this]; exact hside
    · rw [if_neg e] at hk
      have h2 := hI.holds k bk' b hk hrb
      have hne : b ≠ q := fun e' => e (hI.inj n k q (isSome_of hbk) (isSome_of hk) hro hq (e' ▸ hrb)).symm
      exact h2.world (setRow_other _ _ _ _ hne)
  · intro k m b hk hm
    have f : ∀ x, (hget (hset st.heap n ⟨bk.cells.take o ++ cs ++ bk.cells.drop (o + cs.length), bk.ty, bk.kd⟩) x).isSome = true → (hget st.heap x).isSome = true := fun x hx => by
      rcases isSome_hset hx with rfl | hx
      · exact isSome_of hbk
      · exact hx
    exact hI.inj k m b (f k hk) (f m hm)
  · intro k b hb; rw [setRow_size]; exact hI.lt k b hb
  · rw [setRow_size]; exact Nat.le_refl _
  · intro b hb hn
    exact setRow_other _ _ _ _ (fun e => by have := hn n (e ▸ hq); rw [hro] at this; cases this)
omit [UOk U] in
theorem writeC_ok {st st' : St} {n o : Nat} {cs : List C} (h : writeC st n o cs = some st') : (Good U g st' → Good U g st) ∧
    ∀ r w q us, Inv g r st w → r n = some q → DL g r cs us → ∃ w', (storeCells ⟨q, r.f n + o, none⟩ us).run P w = .ok () w' ∧ Inv g r st' w' ∧ Ext r w r w' := by
  unfold writeC at h
  split at h
  · rename_i bk hbk
    cases hf : bk.kd.free
    · rw [hf] at h; cases h
    · rw [hf, cond_true] at h
      split at h
      · rename_i m hm
        cases h
        exact ⟨fun hg => ⟨hg.defs, hg.cs, hg.ci, hg.rg, hg.ok⟩, fun r w q us hI hq hD => write_ok (P := P) hbk hf hm hI hq hD⟩
      · cases h
  · cases h
theorem lenC_ok {x : C} {l : Nat} (h : lenC x = some l) {r : Rho} {v : Value} (hd : V.Den g r (.w (.c x)) v) : ∃ b c, v = .slice b l c := by
  unfold lenC at h
  split at h
  · cases h; exact ⟨_, _, den_sn hd⟩
  · cases h; exact ⟨_, _, den_sz hd⟩
  · split at h
    · rename_i hs
      cases h
      obtain ⟨q, c, _, e⟩ := den_sl hs hd
      exact ⟨_, _, e⟩
    · cases h
theorem readC_ok {heap : List (Nat × Bk)} {x : C} {k : Nat} {cs : List C} (h : readC heap x k = some cs) {r : Rho} {w : World} (hH : Holds g r heap w) {v : Value} (hd : V.Den g r (.w (.c x)) v) (hk : k ≠ 0) :
    ∃ a l c us, v = .slice (some a) l c ∧ DL g r cs us ∧ us.length = k ∧ ∀ j u, us[j]? = some u → w.cell? (a.add j) = some u := by
  unfold readC at h
  rw [nbeq, decide_eq_false hk, cond_false] at h
  split at h
  · rename_i m o l hs
    obtain ⟨q, c, hq, rfl⟩ := den_sl hs hd
    split at h
    · rename_i bk hbk
      obtain ⟨rfl, hle⟩ := takeN_take h
      have hB := hH m bk q hbk hq
      obtain ⟨vs, hD, hc⟩ := hB.read
      have hl := hD.length
      refine ⟨_, l, c, (vs.drop o).take k, rfl, (hD.drop o).take k, by simp at hle ⊢; omega, fun j u hu => ?_⟩
      rw [add_at, Nat.add_assoc]
      refine hc (o + j) u ?_
      rw [List.getElem?_take] at hu
      split at hu
      · rwa [List.getElem?_drop] at hu
      · cases hu
    · cases h
  · cases h
theorem first_ok (size k : Nat) {a : Addr} {l c : Nat} {us : List Value} (hl : us.length = k * size) {w : World} (hc : ∀ j u, us[j]? = some u → w.cell? (a.add j) = some u) :
    (Builtin.firstCells size k (.slice (some a) l c)).run P w = .ok us.toArray w := by
  unfold Builtin.firstCells
  simp only
  rw [← hl]
  exact run_loadCells_list w a us hc
omit [UOk U] in
theorem copy_ok {dt t2 ts : TypeId} {x y : C} {st st' : St} {v : V} (h : copyA L dt x y st = some (v, st')) : (Good U g st' → Good U g st) ∧
    ∀ r w vx vy, Inv g r st w → V.Den g r (.w (.c x)) vx → V.Den g r (.w (.c y)) vy → ∃ u w', (Builtin.copy_ #[dt, t2] ts #[vx, vy]).run P w = .ok u w' ∧ v.Den g r u ∧ Inv g r st' w' ∧ Ext r w r w' := by
  unfold copyA at h
  split at h
  · rename_i e hu
    split at h
    · rename_i s l k hs hl hk
      cases h0 : Nat.beq (kmin k l) 0
      · rw [h0, cond_false] at h
        split at h
        · rename_i n o l' cs hsl hcs
          split at h
          · rename_i st1 hw
            cases hin : inKB .i64 (.ofNat (kmin k l))
            · rw [hin] at h; cases h
            · rw [hin, cond_true] at h
              cases h
              obtain ⟨k1, k2⟩ := writeC_ok (P := P) (U := U) (g := g) hw
              refine ⟨k1, fun r w vx vy hI hx hy => ?_⟩
              obtain ⟨q, c, hq, rfl⟩ := den_sl hsl hx
              obtain ⟨b', c', e1⟩ := lenC_ok hl hx
              cases e1
              obtain ⟨by', cy, rfl⟩ := lenC_ok hk hy
              rw [nbeq, decide_eq_false_iff_not] at h0
              rw [kmin_eq] at h0 hcs
              by_cases hz : min k l * s = 0
              · have hcs0 : cs = [] := by unfold readC at hcs; rw [hz, Nat.beq_refl, cond_true] at hcs; cases hcs; rfl
                subst hcs0
                obtain ⟨w', e1, e2, e3⟩ := k2 r w q [] hI hq DL.nil
                refine ⟨_, w', ?_, mk_i r (inKB_in hin : inK .i64 ((A.k (.ofNat (kmin k l))).val g)), e2, e3⟩
                have hs0 : s = 0 := by rcases Nat.mul_eq_zero.1 hz with h | h; exact absurd h h0; exact h
                have hf : (Builtin.firstCells s (Nat.min k l) (.slice by' k cy)).run P w = .ok #[] w := by
                  unfold Builtin.firstCells
                  cases by' with
                  | none => rfl
                  | some a => simp only [hs0, Nat.mul_zero]; exact run_loadCells_list w a [] (fun j u hu => by simp at hu)
                simp only [Builtin.copy_, List.getElem?_toArray, List.getElem?_cons_zero, List.getElem?_cons_succ, Sem.run_bind, run_underlying' hu, Result.andThen_ok, Builtin.lenOf, Sem.run_pure, run_sizeOf hs, hf, e1]
                simp [goInt, A.val, kmin_eq, Nat.min_def]
              · obtain ⟨a, l2, c2, us, e1, hD, hlen, hcell⟩ := readC_ok hcs hI.holds hy hz
                cases e1
                obtain ⟨w', e1, e2, e3⟩ := k2 r w q us hI hq hD
                refine ⟨_, w', ?_, mk_i r (inKB_in hin : inK .i64 ((A.k (.ofNat (kmin k l))).val g)), e2, e3⟩
                have hf := first_ok (P := P) s (Nat.min k l) (a := a) (l := k) (c := cy) (us := us) hlen hcell
                simp only [Builtin.copy_, List.getElem?_toArray, List.getElem?_cons_zero, List.getElem?_cons_succ, Sem.run_bind, run_underlying' hu, Result.andThen_ok, Builtin.lenOf, Sem.run_pure, run_sizeOf hs, hf, e1]
                simp [goInt, A.val, kmin_eq, Nat.min_def]
          · cases h
        · cases h
      · rw [h0, cond_true] at h
        cases h
        refine ⟨fun hg => hg, fun r w vx vy hI hx hy => ?_⟩
        obtain ⟨bx, cx, rfl⟩ := lenC_ok hl hx
        obtain ⟨by', cy, rfl⟩ := lenC_ok hk hy
        rw [nbeq, decide_eq_true_eq, kmin_eq] at h0
        refine ⟨_, w, ?_, mk_i r (k := .i64) (a := .k 0) (inK_i64.2 (by show (_ : Int) ≤ 0 ∧ (0 : Int) ≤ _; omega)), hI, Ext.refl _ _⟩
        have h0' : Nat.min k l = 0 := h0
        have hf : (Builtin.firstCells s (Nat.min k l) (.slice by' k cy)).run P w = .ok #[] w := by
          unfold Builtin.firstCells
          cases by' with
          | none => rfl
          | some a => simp only [h0', Nat.zero_mul]; exact run_loadCells_list w a [] (fun j u hu => by simp at hu)
        have hst : ∀ a : Addr, (storeCells a []).run P w = .ok () w := fun a => rfl
        simp only [Builtin.copy_, List.getElem?_toArray, List.getElem?_cons_zero, List.getElem?_cons_succ, Sem.run_bind, run_underlying' hu, Result.andThen_ok, Builtin.lenOf, Sem.run_pure, run_sizeOf hs, hf]
        cases bx <;> simp [goInt, A.val, h0', hst]
    · cases h
  · cases h
theorem hget_hdel {h : List (Nat × Bk)} {n m : Nat} : hget (hdel h n) m = if m = n then none else hget h m := by
  induction h with
  | nil => simp [hdel, hget]
  | cons x r ih =>
    obtain ⟨k, b⟩ := x
    unfold hdel
    rw [nbeq, Bool.cond_decide]
    split
    · rename_i e
      subst e
      rw [ih]
      by_cases hm : m = k
      · simp [hm]
      · simp [hm, hget, nbeq, Ne.symm hm]
    · rename_i e
      unfold hget
      rw [nbeq, Bool.cond_decide, Bool.cond_decide]
      by_cases hk : k = m
      · subst hk; simp [e]
      · simp only [hk, if_false, ih]
theorem append_in {t ty e : TypeId} {i : TypeInfo} (ht : P.underlying t = some (.slice e)) (hi : P.info? e = some i) {b a : Addr} {l c k cy : Nat} {us : List Value} {w w' : World}
    (hf : (Builtin.firstCells i.size k (.slice (some a) k cy)).run P w = .ok us.toArray w) (hroom : l + k ≤ c) (hst : (storeCells (b.add (l * i.size)) us).run P w = .ok () w') :
    (Builtin.append_ #[t, t] ty #[.slice (some b) l c, .slice (some a) k cy]).run P w = .ok (.slice (some b) (l + k) c) w' := by
  simp [Builtin.append_, run_underlyingP ht, sizeOf, typeInfo, hi, Builtin.lenOf, hroom, hf, hst]
theorem append_zero {t ty e : TypeId} {i : TypeInfo} (ht : P.underlying t = some (.slice e)) (hi : P.info? e = some i) {b a : Option Addr} {l c cy : Nat} {w : World} (hroom : l ≤ c) :
    (Builtin.append_ #[t, t] ty #[.slice b l c, .slice a 0 cy]).run P w = .ok (.slice b l c) w := by
  have hf : (Builtin.firstCells i.size 0 (.slice a 0 cy)).run P w = .ok #[] w := by
    unfold Builtin.firstCells
    cases a with
    | none => rfl
    | some a => simp only [Nat.zero_mul]; exact run_loadCells_list w a [] (fun j u hu => by simp at hu)
  have hst : ∀ a : Addr, (storeCells a []).run P w = .ok () w := fun a => rfl
  cases b <;> simp [Builtin.append_, run_underlyingP ht, sizeOf, typeInfo, hi, Builtin.lenOf, hroom, hf, hst]
theorem drew_inv {r : Rho} {st : St} {w : World} (h : Inv g r st w) : Inv g r st w.drew := h.drew
theorem drew_ext {r r' : Rho} {w w' : World} (h : Ext r w.drew r' w') : Ext r w r' w' := h.drew
theorem drew_heap (w : World) : w.drew.heap = w.heap := rfl
/-- What is behind a new array's known part. -/
theorem grown_len {z : Value} {cv : List Value} {s n cap : Nat} {us : List Value} (hz : z.cells = ⟨cv⟩) (hcv : cv.length = s) (hu : us.length = n * s) (hn : n ≤ cap) :
    cap * s ≤ us.length + (Builtin.zeroCells z.cells (cap - n)).toList.length := by
  have h2 : (Builtin.zeroCells z.cells (cap - n)).toList.length = (cap - n) * z.cells.size := by rw [Array.length_toList, size_zeroCells]
  have h3 : z.cells.size = s := by rw [hz]; exact hcv
  rw [h2, h3, hu, ← Nat.add_mul]
  exact Nat.mul_le_mul_right _ (by omega)
omit [UOk U] in
theorem append_ok {nm : Option Nat} {ty ts : TypeId} {x y : C} {st st' : St} {v : V} (h : appendA L nm ty x y st = some (v, st')) (hg : Good U g st') : Good U g st ∧
    ∀ r w vx vy, Inv g r st w → V.Den g r (.w (.c x)) vx → V.Den g r (.w (.c y)) vy → ∃ u w' r', (Builtin.append_ #[ty, ty] ts #[vx, vy]).run P w = .ok u w' ∧ v.Den g r' u ∧ Inv g r' st' w' ∧ Ext r w r' w' := by
  unfold appendA at h
  split at h
  · rename_i e hu
    have ht := lk_und (P := P) hu
    split at h
    · rename_i i l k hi0 hl hk
      have hi : P.info? e = some i := LkOk.info _ _ hi0
      cases h0 : Nat.beq k 0
      · rw [h0, cond_false] at h
        rw [nbeq, decide_eq_false_iff_not] at h0
        cases hc : ((Nat.ble ((l + k) * i.bytes) 140737488355328 && Nat.ble (l + k) 4611686018427387904) && (zeroLen L e i.size && Nat.blt 0 i.size))
        · rw [hc] at h; cases h
        · rw [hc, cond_true] at h
          rw [Bool.and_eq_true, Bool.and_eq_true, Bool.and_eq_true, nble, nble, nblt, decide_eq_true_eq, decide_eq_true_eq, decide_eq_true_eq] at hc
          obtain ⟨⟨hc1, hc2⟩, hc3, hc4⟩ := hc
          unfold zeroLen at hc3
          split at hc3
          · rename_i z0 hz0
            rw [nbeq, decide_eq_true_eq] at hc3
            obtain ⟨i', z, hi', hz, hzc⟩ := zero_ok (P := P) (g := g) hz0
            rw [hi] at hi'; cases hi'
            have h63 : ((l + k : Nat) : Int) ≤ 9223372036854775807 := by omega
            have hks : k * i.size ≠ 0 := fun e => by rcases Nat.mul_eq_zero.1 e with h | h <;> omega
            split at h
            · rename_i news hnews
              split at h
              · -- nothing before
                obtain ⟨h1, h2⟩ := mk_any (st0 := st) h hg (fun _ _ h => h) rfl rfl
                refine ⟨h1, fun r w vx vy hI hx hy => ?_⟩
                obtain rfl := den_sn hx
                obtain ⟨by', cy, e1⟩ := lenC_ok hk hy
                obtain ⟨a, k', cy, us, rfl, hD, hlen, hcell⟩ := readC_ok hnews hI.holds hy hks
                cases e1
                obtain ⟨cv, hcv, hDz⟩ := hzc r
                have hl0 : l = 0 := by simp [lenC] at hl; omega
                subst hl0
                rw [Nat.zero_add] at hc1 hc2 h63
                have hr := run_append_nil (P := P) w ty ts e i z ht hi hz a k cy us hlen hcell (by omega) h63 (by omega)
                have hge := grownCap_ge w k 0 e
                generalize grownCap w k 0 e = cap at hr hge
                obtain ⟨m, r', rfl, hm, hkm, hfm, hI', hE⟩ := h2 r w.drew us (Builtin.zeroCells z.cells (cap - k)).toList cap (drew_inv hI) hD (grown_len hcv (by rw [hDz.length]; exact hc3) hlen hge)
                refine ⟨_, _, r', hr, ?_, ?_, ?_⟩
                · have := mk_so (g := g) hm (o := 0) (l := k) (d := 0) (by omega)
                  rw [hfm, hkm, drew_heap] at this
                  exact this
                · have e2 : (⟨us ++ (Builtin.zeroCells z.cells (cap - k)).toList⟩ : Array Value) = us.toArray ++ Builtin.zeroCells z.cells (cap - k) := by apply Array.ext'; simp
                  rw [← e2]; exact hI'
                · have e2 : (⟨us ++ (Builtin.zeroCells z.cells (cap - k)).toList⟩ : Array Value) = us.toArray ++ Builtin.zeroCells z.cells (cap - k) := by apply Array.ext'; simp
                  rw [← e2]; exact drew_ext hE
              · rename_i n o l' c
                have hll : l' = l := by simp [lenC, slOf] at hl; exact hl
                subst hll
                rw [nble, Bool.cond_decide] at h
                split at h
                · -- in place
                  rename_i hroom
                  split at h
                  · rename_i st1 hw
                    cases h
                    obtain ⟨k1, k2⟩ := writeC_ok (P := P) (U := U) (g := g) hw
                    refine ⟨k1 hg, fun r w vx vy hI hx hy => ?_⟩
                    obtain ⟨q, hq, rfl⟩ := den_s hx
                    obtain ⟨by', cy, e1⟩ := lenC_ok hk hy
                    obtain ⟨a, k', cy, us, rfl, hD, hlen, hcell⟩ := readC_ok hnews hI.holds hy hks
                    cases e1
                    obtain ⟨w', e1, e2, e3⟩ := k2 r w q us hI hq hD
                    refine ⟨_, w', r, append_in ht hi (first_ok i.size k hlen hcell) hroom ?_, mk_s hq _ _ _, e2, e3⟩
                    rw [add_at, Nat.add_assoc]; exact e1
                  · cases h
                · -- grown
                  rename_i hroom
                  split at h
                  · rename_i olds holds
                    obtain ⟨h1, h2⟩ := mk_any (st0 := st) h hg (fun _ _ h => h) rfl rfl
                    refine ⟨h1, fun r w vx vy hI hx hy => ?_⟩
                    obtain ⟨by', cy, e1⟩ := lenC_ok hk hy
                    obtain ⟨a, k', cy, us, rfl, hD, hlen, hcell⟩ := readC_ok hnews hI.holds hy hks
                    cases e1
                    obtain ⟨q, hq, rfl⟩ := den_s hx
                    obtain ⟨cv, hcv, hDz⟩ := hzc r
                    have hold : ∃ ws, DL g r olds ws ∧ ws.length = l' * i.size ∧ ∀ j u, ws[j]? = some u → w.cell? ((⟨q, r.f n + o, none⟩ : Addr).add j) = some u := by
                      by_cases hz : l' * i.size = 0
                      · have : olds = [] := by unfold readC at holds; rw [hz, Nat.beq_refl, cond_true] at holds; cases holds; rfl
                        subst this
                        exact ⟨[], DL.nil, by simp [hz], fun j u hu => by simp at hu⟩
                      · obtain ⟨b, l2, c2, ws, e2, e3, e4, e5⟩ := readC_ok holds hI.holds hx hz
                        cases e2
                        exact ⟨ws, e3, e4, e5⟩
                    obtain ⟨ws, hDo, hlo, hco⟩ := hold
                    have hr := run_append_grow (P := P) w ty ts e i z ht hi hz ⟨q, r.f n + o, none⟩ l' c ws hlo hco a k cy us hlen hcell (by omega) h63 (growslice_fits (by omega) hc1)
                    have hge := grownCap_ge w (l' + k) c e
                    generalize grownCap w (l' + k) c e = cap at hr hge
                    obtain ⟨m, r', rfl, hm, hkm, hfm, hI', hE⟩ := h2 r w.drew (ws ++ us) (Builtin.zeroCells z.cells (cap - (l' + k))).toList cap (drew_inv hI) (hDo.append hD) (grown_len hcv (by rw [hDz.length]; exact hc3) (by rw [List.length_append, hlo, hlen, Nat.add_mul]) hge)
                    have e2 : (⟨ws ++ us ++ (Builtin.zeroCells z.cells (cap - (l' + k))).toList⟩ : Array Value) = ws.toArray ++ us.toArray ++ Builtin.zeroCells z.cells (cap - (l' + k)) := by apply Array.ext'; simp
                    rw [e2] at hI' hE
                    refine ⟨_, _, r', hr, ?_, hI', drew_ext hE⟩
                    have := mk_so (g := g) hm (o := 0) (l := l' + k) (d := 0) (by omega)
                    rw [hfm, hkm, drew_heap] at this
                    exact this
                  · cases h
              · rename_i n o l' d
                have hll : l' = l := by simp [lenC, slOf] at hl; exact hl
                subst hll
                split at h
                · rename_i bk hbk
                  cases hd : (decide (bk.kd = .op i.size) && (Nat.beq bk.ty e && (Nat.beq o (d * i.size) && Nat.ble (o + l' * i.size) bk.cells.length)))
                  · rw [hd] at h; cases h
                  · rw [hd, cond_true] at h
                    rw [Bool.and_eq_true, Bool.and_eq_true, Bool.and_eq_true, decide_eq_true_eq, nbeq, nbeq, nble, decide_eq_true_eq, decide_eq_true_eq, decide_eq_true_eq] at hd
                    obtain ⟨hkd, hty, hod, hle0⟩ := hd
                    split at h
                    · rename_i olds holds
                      obtain ⟨rfl, hle⟩ := takeN_take holds
                      obtain ⟨h1, h2⟩ := mk_any (st0 := st) h hg (fun x b hb => by rw [hget_hdel] at hb; split at hb; cases hb; exact hb) rfl rfl
                      refine ⟨⟨h1.defs, h1.cs, h1.ci, h1.rg, h1.ok⟩, fun r w vx vy hI hx hy => ?_⟩
                      obtain ⟨by', cy, e1⟩ := lenC_ok hk hy
                      obtain ⟨a, k', cy, us, rfl, hD, hlen, hcell⟩ := readC_ok hnews hI.holds hy hks
                      cases e1
                      obtain ⟨q, hq, hdk, rfl⟩ := den_so hx
                      obtain ⟨cv, hcv, hDz⟩ := hzc r
                      have hB := hI.holds n bk q hbk hq
                      have hO := hB.free (by rw [hkd]; rfl)
                      obtain ⟨hro, pre, vs, post, hw, hpre, hDv, hside⟩ := hO
                      rw [hkd] at hside
                      have hside : r.f n + r.k n * i.size ≤ pre.length + vs.length + post.length := hside
                      have hlv := hDv.length
                      have hDo : DL g r ((bk.cells.drop o).take (l' * i.size)) ((vs.drop o).take (l' * i.size)) := (hDv.drop o).take _
                      have hlo : ((vs.drop o).take (l' * i.size)).length = l' * i.size := by simp at hle ⊢; omega
                      have hle' : o + l' * i.size ≤ vs.length := by rw [hlv]; exact hle0
                      by_cases hroom : l' + k ≤ r.k n - d
                      · -- in place
                        obtain ⟨_, m, hv, hh, hn, hrs, hm⟩ := mkBk_name (U := U) (g := g) h
                        obtain ⟨m1, m2, m3, m4⟩ := hm r hI.fresh hI.rlt hI.free
                        have hmul : r.k n * i.size = d * i.size + (r.k n - d) * i.size := by rw [← Nat.add_mul]; congr 1; omega
                        have hmul2 : (l' + k) * i.size ≤ (r.k n - d) * i.size := Nat.mul_le_mul_right _ hroom
                        have hmul3 : (l' + k) * i.size = l' * i.size + k * i.size := Nat.add_mul _ _ _
                        have htot : (pre ++ (vs ++ post)).length = pre.length + vs.length + post.length := by simp; omega
                        have hst := run_storeCells_at (P := P) q (r.f n + o + l' * i.size) bk.ty us 0 ⟨pre ++ (vs ++ post)⟩ w hw (by rw [Nat.add_zero]; show _ ≤ (pre ++ (vs ++ post)).length; rw [htot]; omega) hD.one
                        simp only [Nat.add_zero] at hst
                        have hnew : (pre ++ (vs ++ post)).take (r.f n + o + l' * i.size) ++ us ++ (pre ++ (vs ++ post)).drop (r.f n + o + l' * i.size + us.length) =
                            (pre ++ (vs ++ post)).take (r.f n + o) ++ (((vs.drop o).take (l' * i.size) ++ us) ++ (pre ++ (vs ++ post)).drop (r.f n + o + l' * i.size + us.length)) := by
                          rw [List.take_add, ← hpre]
                          have : (pre ++ (vs ++ post)).drop (pre.length + o) = vs.drop o ++ post := by
                            rw [List.drop_append, List.drop_of_length_le (by omega), List.nil_append, Nat.add_sub_cancel_left, List.drop_append_of_le_length (by omega)]
                          have t1 : (vs.drop o ++ post).take (l' * i.size) = (vs.drop o).take (l' * i.size) := List.take_append_of_le_length (by rw [List.length_drop]; omega)
                          rw [this, t1]
                          simp only [List.append_assoc]
                        obtain ⟨r', e1, e2, e3, e4, e5⟩ := new_name (g := g) (w' := w.setRow q ((pre ++ (vs ++ post)).take (r.f n + o + l' * i.size) ++ us ++ (pre ++ (vs ++ post)).drop (r.f n + o + l' * i.size + us.length)).toArray) (q := q) (c := r.k n - d) (f' := r.f n + o) hI m1 m4 (H := hdel st.heap n)
                          (fun x b hb => by rw [hget_hdel] at hb; split at hb; cases hb; exact hb) hh hn m2 (fun x hx => ⟨hrs x hx, m3 x hx⟩) (by rw [setRow_size]; exact Nat.le_refl _) (by rw [setRow_size]; exact hI.lt n q hq)
                          (fun x b hx' hb e => by
                            subst e
                            rw [hget_hdel] at hx'
                            split at hx'
                            · cases hx'
                            · rename_i hne; exact hne (hI.inj n x b (isSome_of hbk) hx' hro hq hb).symm)
                          (fun b _ hne => setRow_other _ _ _ _ hne) (.inr ⟨n, hq, hro⟩) rfl rfl rfl
                          (fun r' hs hk' hf' hro' => ⟨hro', (pre ++ (vs ++ post)).take (r.f n + o), (vs.drop o).take (l' * i.size) ++ us, (pre ++ (vs ++ post)).drop (r.f n + o + l' * i.size + us.length), by
                              rw [← hnew]
                              show _ = some (Obj.cells _ e (0, 0))
                              rw [← hty]
                              exact setRow_heap w q _ _ _ _ hw,
                            by rw [List.length_take, htot, hf']; omega, (hDo.append hD).sub hs, by
                              show r'.f m + r'.k m * i.size ≤ _
                              rw [hf', hk']
                              simp only [List.length_append, List.length_take, List.length_drop, hlen] at hlo htot ⊢
                              omega⟩)
                        refine ⟨_, _, r', append_in ht hi (first_ok i.size k hlen hcell) hroom (by rw [add_at]; exact hst), ?_, e4, e5⟩
                        subst hv
                        have := mk_so (g := g) e1 (o := 0) (l := l' + k) (d := 0) (by omega)
                        rw [e2, e3] at this
                        exact this
                      · -- grown
                        have hco : ∀ j u, ((vs.drop o).take (l' * i.size))[j]? = some u → w.cell? ((⟨q, r.f n + o, none⟩ : Addr).add j) = some u := fun j u hu => by
                          rw [add_at, cell_of_heap hw, ← hpre, Nat.add_assoc, List.getElem?_append_right (by omega), Nat.add_sub_cancel_left]
                          rw [List.getElem?_take] at hu
                          split at hu
                          · rw [List.getElem?_append_left (by omega)]
                            rwa [List.getElem?_drop] at hu
                          · cases hu
                        have hr := run_append_grow (P := P) w ty ts e i z ht hi hz ⟨q, r.f n + o, none⟩ l' (r.k n - d) _ hlo hco a k cy us hlen hcell (by omega) h63 (growslice_fits (by omega) hc1)
                        have hge := grownCap_ge w (l' + k) (r.k n - d) e
                        generalize grownCap w (l' + k) (r.k n - d) e = cap at hr hge
                        obtain ⟨m, r', rfl, hm, hkm, hfm, hI', hE⟩ := h2 r w.drew ((vs.drop o).take (l' * i.size) ++ us) (Builtin.zeroCells z.cells (cap - (l' + k))).toList cap (drew_inv hI) (hDo.append hD) (grown_len hcv (by rw [hDz.length]; exact hc3) (by rw [List.length_append, hlo, hlen, Nat.add_mul]) hge)
                        have e2 : (⟨(vs.drop o).take (l' * i.size) ++ us ++ (Builtin.zeroCells z.cells (cap - (l' + k))).toList⟩ : Array Value) = ((vs.drop o).take (l' * i.size)).toArray ++ us.toArray ++ Builtin.zeroCells z.cells (cap - (l' + k)) := by apply Array.ext'; simp
                        rw [e2] at hI' hE
                        refine ⟨_, _, r', hr, ?_, hI', drew_ext hE⟩
                        have := mk_so (g := g) hm (o := 0) (l := l' + k) (d := 0) (by omega)
                        rw [hfm, hkm, drew_heap] at this
                        exact this
                    · cases h
                · cases h
              · cases h
            · cases h
          · cases hc3
      · rw [h0, cond_true] at h
        rw [nbeq, decide_eq_true_eq] at h0
        subst h0
        cases hrm : roomy x
        · rw [hrm] at h; cases h
        · rw [hrm, cond_true] at h
          cases h
          refine ⟨hg, fun r w vx vy hI hx hy => ?_⟩
          obtain ⟨by', cy, rfl⟩ := lenC_ok hk hy
          have hroom : ∃ b l c, vx = .slice b l c ∧ l ≤ c := by
            cases x with
            | s n o l c =>
              obtain ⟨q, _, rfl⟩ := den_s hx
              have hrm : Nat.ble _ c = true := hrm
              rw [nble, decide_eq_true_eq] at hrm
              exact ⟨_, _, _, rfl, hrm⟩
            | sn => exact ⟨_, _, _, den_sn hx, Nat.le_refl _⟩
            | so n o l d =>
              obtain ⟨q, _, hk, rfl⟩ := den_so hx
              exact ⟨_, _, _, rfl, by omega⟩
            | sz i => exact ⟨_, _, _, den_sz hx, Nat.zero_le _⟩
            | _ => simp [lenC, slOf] at hl
          obtain ⟨b, l2, c, rfl, hlc⟩ := hroom
          exact ⟨_, w, r, append_zero ht hi hlc, hx, hI, Ext.refl _ _⟩
    · cases h
  · cases h
omit [UOk U] in
theorem makeSlice_ok {nm : Option Nat} {ty : TypeId} {x y : V} {st st' : St} {v : V} (h : makeSliceA L nm ty x y st = some (v, st')) (hg : Good U g st') : Good U g st ∧
    ∀ r w vx vy, Inv g r st w → x.Den g r vx → y.Den g r vy → ∃ u w' r', (Instr.makeSlice ty vx vy).run P w = .ok u w' ∧ v.Den g r' u ∧ Inv g r' st' w' ∧ Ext r w r' w' := by
  unfold makeSliceA at h
  split at h
  · rename_i e k1 l k2 c hu
    split at h
    · rename_i i z0 hi0 hz0
      have hi : P.info? e = some i := LkOk.info _ _ hi0
      obtain ⟨i', z, hi', hz, hzc⟩ := zero_ok (P := P) (g := g) hz0
      rw [hi] at hi'; cases hi'
      cases hc : (Nat.ble l c && (Nat.ble (i.bytes * c) 140737488355328 && (Nat.ble c 4611686018427387904 && (Nat.beq z0.length i.size && Nat.blt 0 i.size))))
      · rw [hc] at h; cases h
      · rw [hc, cond_true] at h
        rw [Bool.and_eq_true, Bool.and_eq_true, Bool.and_eq_true, Bool.and_eq_true, nble, nble, nble, nbeq, nblt, decide_eq_true_eq, decide_eq_true_eq, decide_eq_true_eq, decide_eq_true_eq, decide_eq_true_eq] at hc
        obtain ⟨c1, c2, c3, c4, c5⟩ := hc
        obtain ⟨h1, h2⟩ := mk_ok h hg
        refine ⟨h1, fun r w vx vy hI hx hy => ?_⟩
        obtain rfl := den_i hx
        obtain rfl := den_i hy
        obtain ⟨cv, hcv, hD⟩ := hzc r
        have hcl : cv.length = i.size := by rw [hD.length]; exact c4
        obtain ⟨m, r', rfl, hm, hf, hI', hE⟩ := h2 r w (repL cv c) hI (hD.rep c)
        refine ⟨_, _, r', ?_, mk_s0 hm hf 0 l c, hI', hE⟩
        have w1 : IntKind.i64.wrap (l : Int) = (l : Int) := by rw [IntKind.wrap_i64]; omega
        have w2 : IntKind.i64.wrap (c : Int) = (c : Int) := by rw [IntKind.wrap_i64]; omega
        have hb : ((i.bytes : Int) * (c : Int)) ≤ 140737488355328 := by
          have : (((i.bytes * c : Nat)) : Int) ≤ 140737488355328 := by omega
          simpa using this
        have hrange : ((Array.range (c * i.size)).map (fun x => (z.cells)[x % (z.cells).size]!)) = ⟨repL cv c⟩ := by
          rw [hcv]
          apply Array.ext'
          simp only [Array.toList_map, Array.toList_range]
          apply List.ext_getElem?
          intro j
          rw [List.getElem?_map]
          by_cases hj : j < c * i.size
          · rw [List.getElem?_range hj, repL_get cv (by omega) c j (by rw [hcl]; exact hj)]
            simp
          · rw [List.getElem?_eq_none (by simp; omega), List.getElem?_eq_none (by rw [repL_length, hcl]; omega)]
            rfl
        have hroom : ∀ w : World, (askRoom (c * i.bytes)).run P w = .ok () w := fun w => by
          unfold askRoom roomBytes
          rw [if_neg (by rw [Nat.mul_comm]; omega)]
          rfl
        have hn1 : ¬ ((c : Int) < 0) := by omega
        have hn2 : ¬ ((i.bytes : Int) * (c : Int) > 2 ^ 48) := by omega
        have hn3 : ¬ ((l : Int) < 0) := by omega
        have hn4 : ¬ ((l : Int) > (c : Int)) := by omega
        unfold Instr.makeSlice
        rw [Sem.run_bind, run_underlying' hu]
        have hs : sizeB L e = some i.size := by unfold sizeB; rw [hi0]
        have hcond : (decide ((c : Int) < 0) || decide ((i.bytes : Int) * (c : Int) > 2 ^ 48) || decide ((l : Int) < 0) || decide ((l : Int) > (c : Int))) = false := by
          rw [decide_eq_false hn1, decide_eq_false hn2, decide_eq_false hn3, decide_eq_false hn4]; rfl
        have htn : ((c : Int)).toNat = c := Int.toNat_natCast c
        have htl : ((l : Int)).toNat = l := Int.toNat_natCast l
        simp only [Result.andThen_ok, A.val, asInt, asIntOf, Sem.run_bind, Sem.run_pure, typeInfo, run_program, hi, Int.ofNat_eq_natCast, w1, w2, hcond, Bool.false_eq_true, if_false, htn, htl, hroom, run_sizeOf hs]
        by_cases h0 : c * i.size = 0
        · have hc0 : c = 0 := by rcases Nat.mul_eq_zero.1 h0 with h | h; exact h; omega
          subst hc0
          have e0 : ((Array.range 0).map (fun x => (#[] : Array Value)[x % (#[] : Array Value).size]!)) = ⟨repL cv 0⟩ := by apply Array.ext'; simp [repL]
          simp only [Nat.zero_mul, if_true, Sem.run_bind, Sem.run_pure, Result.andThen_ok, e0, run_newRow']
        · simp only [h0, if_false, Sem.run_bind, Sem.run_pure, Result.andThen_ok, run_zero hi hz, hrange, run_newRow']
    · cases h
  · cases h
omit [UOk U] in
theorem eff_ok (hN : NamesOk P X) {call : FuncId → List V → St → Option (V × St)} (hc : CallOk P U g call) {t : T} {nm : Option Nat} {op : Op} {st st' : St} {v : V} (h : effOp L call t nm op st = some (v, st')) (hg : Good U g st') :
    Good U g st ∧ ∀ n r a w, TRel n g r t a → Inv g r st w → Does P g st st' v op r a w := by
  unfold effOp at h
  split at h
  · rename_i ty
    split at h
    · rename_i z0 hz0
      obtain ⟨h1, h2⟩ := mk_ok h hg
      refine ⟨h1, fun n r a w hT hI o ho next Q hK => ?_⟩
      obtain ⟨i, z, hi, hz, hzc⟩ := zero_ok (P := P) (g := g) hz0
      obtain ⟨cv, hcv, hD⟩ := hzc r
      obtain ⟨m, r', rfl, hm, hf, hI', hE⟩ := h2 r w cv hI hD
      unfold Oper.wp
      have : (execOp a.eval o).run P w = .ok (.value (.pointer (some ⟨w.heap.size, 0, none⟩))) (w.alloc (.cells ⟨cv⟩ ty)) := by
        simp only [execOp, ho, Instr.alloc, Sem.run_bind, run_zero hi hz, Result.andThen_ok, newVar, run_newRow', Sem.run_pure, hcv]
      rw [this]
      exact hK _ _ _ (mk_p0 hm hf 0) hI' hE
    · cases h
  · rename_i ty x
    split at h
    · rename_i y hy
      obtain ⟨h1, h2⟩ := mk_ok h hg
      refine ⟨h1, fun n r a w hT hI o ho next Q hK => ?_⟩
      obtain ⟨cv, hcv, hD⟩ := W.Den.cells (ev_den hT hy : V.Den g r (.w y) _)
      obtain ⟨m, r', rfl, hm, hf, hI', hE⟩ := h2 r w cv hI hD
      unfold Oper.wp
      have : (execOp a.eval o).run P w = .ok (.value (.pointer (some ⟨w.heap.size, 0, none⟩))) (w.alloc (.cells ⟨cv⟩ ty)) := by
        simp only [execOp, ho, Instr.box, Sem.run_bind, newVar, run_newRow', Result.andThen_ok, Sem.run_pure, hcv]
      rw [this]
      exact hK _ _ _ (mk_p0 hm hf 0) hI' hE
    · cases h
  · rename_i ty len parts
    split at h
    · rename_i l hl
      split at h
      · rename_i cells e hb
        obtain ⟨h1, h2⟩ := mk_ok h hg
        refine ⟨h1, fun n r a w hT hI o ho next Q hK => ?_⟩
        obtain ⟨ws, hD, hrun⟩ := buildSlice_ok (P := P) hb r _ (parts_ok hT hl)
        obtain ⟨m, r', rfl, hm, hf, hI', hE⟩ := h2 r w ws hI hD
        unfold Oper.wp
        have : (execOp a.eval o).run P w = .ok (.value (.slice (some ⟨w.heap.size, 0, none⟩) len len)) (w.alloc (.cells ⟨ws⟩ e)) := by
          have hmap : (parts.map fun (i, x) => (i, a.eval x)) = ⟨parts.toList.map fun (i, x) => (i, a.eval x)⟩ := by
            apply Array.ext'; simp
          simp only [execOp, ho, hmap, Sem.run_bind, hrun, Result.andThen_ok, Sem.run_pure]
        rw [this]
        exact hK _ _ _ (mk_s0 hm hf 0 len len) hI' hE
      · cases h
    · cases h
  · rename_i ty x y
    split at h
    · rename_i m o yv hx hy
      split at h
      · rename_i bk s hbk hs
        cases hlf : (Nat.beq yv.cells.length s && bk.kd.free)
        · rw [hlf] at h; cases h
        · rw [hlf, cond_true] at h
          rw [Bool.and_eq_true, nbeq, decide_eq_true_eq] at hlf
          obtain ⟨hlen, hfree⟩ := hlf
          split at h
          · rename_i l hl
            cases h
            refine ⟨⟨hg.defs, hg.cs, hg.ci, hg.rg, hg.ok⟩, fun n r a w hT hI op ho next Q hK => ?_⟩
            obtain ⟨q', hq', hev⟩ := den_p (ev_den hT hx)
            obtain ⟨cv, hcv, hDc⟩ := W.Den.cells (ev_den hT hy : V.Den g r (.w yv) _)
            have hcl : cv.length = s := by rw [hDc.length]; exact hlen
            obtain ⟨w1, e1, e2, e3⟩ := write_ok (P := P) hbk hfree hl hI hq' hDc
            have hrun : (execOp a.eval op).run P w = .ok .skip w1 := by
              simp only [execOp, ho, hev, Instr.storeAt, Instr.sureAddr, storeVar, Sem.run_bind, Sem.run_pure, Result.andThen_ok, run_sizeOf hs, hcv]
              rw [if_neg (by simp [hcl])]
              rw [e1]
              rfl
            unfold Oper.wp
            rw [hrun]
            exact hK undef r _ ⟨[], rfl, trivial⟩ e2 e3
          · cases h
      · cases h
    · cases h
  · rename_i f args tys
    split at h
    · rename_i l hl
      cases hb : hasBody L f
      · rw [hb] at h; cases h
      · rw [hb] at h
        simp only [cond_true] at h
        obtain ⟨h1, h2⟩ := hc _ _ _ _ _ h hg
        refine ⟨h1, fun n r a w hT hI o ho next Q hK => ?_⟩
        unfold hasBody at hb
        split at hb
        · rename_i fn hfn
          obtain ⟨c, hbody⟩ := Option.isSome_iff_exists.1 hb
          have hget : P.funcs[f]? = some fn := LkOk.fn _ _ hfn
          have hrun : (execOp a.eval o).run P w = .ok (.enter f ⟨args.toList.map a.eval⟩) w := by
            have hmap : args.map a.eval = ⟨args.toList.map a.eval⟩ := by apply Array.ext'; simp
            have hname := hN.names f fn hget
            have hev : a.eval (.func f) = .func (.func f) #[] #[] := rfl
            simp only [execOp, ho, resolve, hev, Deferred.ofValue, Sem.run_bind, Sem.run_pure, Result.andThen_ok, invoke, callFunc, run_program, hget, hname, hbody, Option.isNone_some, hmap]
            simp
          unfold Oper.wp
          rw [hrun]
          refine (h2 r w _ hI (evL_den hT hl)).mono ?_
          rintro e w' ⟨r', u, rfl, hd, hI', hE⟩
          exact hK u r' w' hd hI' hE
        · cases hb
    · cases h
  · rename_i ty lo hi
    split at h
    · rename_i x y hx hy
      obtain ⟨h1, h2⟩ := makeSlice_ok (P := P) h hg
      refine ⟨h1, fun n r a w hT hI o ho next Q hK => ?_⟩
      obtain ⟨u, w', r', e1, e2, e3, e4⟩ := h2 r w _ _ hI (ev_den hT hx) (ev_den hT hy)
      unfold Oper.wp
      have : (execOp a.eval o).run P w = .ok (.value u) w' := by
        simp only [execOp, ho, Sem.run_bind, e1, Result.andThen_ok, Sem.run_pure]
      rw [this]
      exact hK u r' w' e2 e3 e4
    · cases h
  · rename_i b args tys
    split at h
    · rename_i l hl
      have hmap : ∀ a : Act, args.map a.eval = ⟨args.toList.map a.eval⟩ := fun a => by apply Array.ext'; simp
      unfold effB at h
      split at h
      · rename_i t1 t2 x y hty
        rw [nbeq, Bool.cond_decide] at h
        split at h
        · rename_i he
          subst he
          have ht : tys = #[t1, t1] := by apply Array.ext'; assumption
          obtain ⟨h1, h2⟩ := append_ok (P := P) (ts := 0) h hg
          refine ⟨h1, fun n r a w hT hI o ho next Q hK => ?_⟩
          obtain ⟨_, h2⟩ := append_ok (P := P) (ts := o.type) h hg
          have hv := evL_den hT hl
          match hvs : args.toList.map a.eval, hv with
          | [vx, vy], ⟨hx, hy, _⟩ =>
            obtain ⟨u, w', r', e1, e2, e3, e4⟩ := h2 r w _ _ hI hx hy
            unfold Oper.wp
            have : (execOp a.eval o).run P w = .ok (.value u) w' := by
              simp only [execOp, ho, resolve, hmap, hvs, ht, Sem.run_bind, Sem.run_pure, Result.andThen_ok, invoke, builtin, e1]
            rw [this]
            exact hK u r' w' e2 e3 e4
        · cases h
      · rename_i t1 t2 x y hty
        have ht : tys = #[t1, t2] := by apply Array.ext'; assumption
        obtain ⟨h1, _⟩ := copy_ok (P := P) (U := U) (g := g) (ts := 0) (t2 := t2) h
        refine ⟨h1 hg, fun n r a w hT hI o ho next Q hK => ?_⟩
        obtain ⟨_, h2⟩ := copy_ok (P := P) (U := U) (g := g) (ts := o.type) (t2 := t2) h
        have hv := evL_den hT hl
        match hvs : args.toList.map a.eval, hv with
        | [vx, vy], ⟨hx, hy, _⟩ =>
          obtain ⟨u, w', e1, e2, e3, e4⟩ := h2 r w _ _ hI hx hy
          unfold Oper.wp
          have : (execOp a.eval o).run P w = .ok (.value u) w' := by
            simp only [execOp, ho, resolve, hmap, hvs, ht, Sem.run_bind, Sem.run_pure, Result.andThen_ok, invoke, builtin, e1]
          rw [this]
          exact hK u r w' e2 e3 e4
      · cases h
    · cases h
  · cases h
theorem step_ok (hN : NamesOk P X) {call : FuncId → List V → St → Option (V × St)} (hc : CallOk P U g call) {t : T} {nm : Option Nat} {op : Op} {st st' : St} {v : V} (h : stepOp L U X call t nm op st = some (v, st')) (hg : Good U g st') :
    Good U g st ∧ ∀ n r a w, TRel n g r t a → Inv g r st w → Does P g st st' v op r a w := by
  unfold stepOp at h
  split at h
  · rename_i p hp
    cases h
    obtain ⟨h1, h2, h3⟩ := pure_ok hN hp hg
    refine ⟨h1, fun n r a w hT hI o ho next Q hK => ?_⟩
    obtain ⟨u, hd, hy⟩ := h3 n r a hT
    unfold Oper.wp
    rw [hy o w ho]
    exact hK u r w hd (hI.same h2) (Ext.refl _ _)
  · split at h
    · rename_i v' hv
      cases h
      refine ⟨hg, fun n r a w hT hI o ho next Q hK => ?_⟩
      obtain ⟨u, hd, hy⟩ := load_ok (P := P) hv hT hI.holds
      unfold Oper.wp
      rw [hy o ho]
      exact hK u r w hd hI (Ext.refl _ _)
    · exact eff_ok hN hc h hg
end
end Go.Proofs.Ytdleeeahonfnkaa.SX

/- SxI -/
namespace Go.Proofs.Ytdleeeahonfnkaa.SX
open Go
section
variable {P : Program} {L : Lk} {U : Nat → List Int → Int} {X : FuncId → Nat} {g : Sg} [UOk U] [LkOk P L]
theorem decide_ok {v : V} {st st' : St} {b : Bool} (h : decideC v st = some (b, st')) (hg : Good U g st') :
    Good U g st ∧ Same st st' ∧ ∀ r u, v.Den g r u → u = .bool b := by
  unfold decideC at h
  split at h
  · rename_i a
    have hx : decA a st = (b, st') := Option.some.inj h
    obtain ⟨h1, h2, h3⟩ := decA_ok hx hg
    exact ⟨h1, h2, fun r u hu => by rw [den_b hu, h3]⟩
  · cases h
theorem wanted_ok {ops : Array Oper} {t : T} {o : Oper} {st st' : St} {b : Bool} (h : wantedA ops.toList t o st = some (b, st')) (hg : Good U g st') :
    Good U g st ∧ Same st st' ∧ ∀ n r a, TRel n g r t a → Region.wanted o (yielded ops a.tmps) = b := by
  unfold wantedA at h
  split at h
  · rename_i hgd
    cases h
    exact ⟨hg, Same.refl _, fun n r a hT => by simp [Region.wanted, hgd]⟩
  · rename_i j want hgd
    split at h
    · rename_i oj hoj
      split at h
      · rename_i d hd
        have hget : ops[j]? = some oj := toList_get hoj
        split at h
        · rename_i hu
          cases h
          refine ⟨hg, Same.refl _, fun n r a hT => ?_⟩
          obtain ⟨u, hu1, hu2⟩ := hT.get d _ hu
          obtain ⟨vs, rfl, hvs⟩ := hu2
          simp [Region.wanted, hgd, yielded, hget, hd, hu1]
        · rename_i v hv
          split at h
          · rename_i b' st1 hdc
            cases h
            obtain ⟨h1, h2, h3⟩ := decide_ok hdc hg
            refine ⟨h1, h2, fun n r a hT => ?_⟩
            obtain ⟨u, hu1, hu2⟩ := hT.get d _ hv
            obtain rfl := h3 r u hu2
            simp only [Region.wanted, hgd, yielded, hget, hd, Option.bind_some, hu1]
            cases want <;> cases b' <;> rfl
          · cases h
        · cases h
      · cases h
    · cases h
theorem opsOk_get {N : Nat} {l : List Oper} (h : opsOk N l = true) {o : Oper} (ho : o ∈ l) : ∀ d, o.dst = some d → d < N ∧ d < 16000 := by
  intro d hd
  unfold opsOk at h
  rw [List.all_eq_true] at h
  have := h o ho
  simp only [hd, nblt] at this
  simpa using this
theorem undef_den {r : Rho} : V.Den g r (.tup []) undef := ⟨[], rfl, trivial⟩
theorem runOps_ok (hN : NamesOk P X) {call : FuncId → List V → St → Option (V × St)} (hc : CallOk P U g call) {N : Nat} {ops : Array Oper} (hok : opsOk N ops.toList = true) :
    ∀ (rest : List Oper) (i : Nat) (t t' : T) (st st' : St), rest = ops.toList.drop i → runOps L U X call ops.toList rest t st = some (t', st') → Good U g st' →
    Good U g st ∧ ∀ r a w, TRel N g r t a → Inv g r st w → ∀ (Q : Exit → Act → World → Prop), (∀ a' w' r', TRel N g r' t' a' → Inv g r' st' w' → Ext r w r' w' → Q .normal a' w') →
      wpOps P ops Q (List.range' i rest.length) a w
  | [], i, t, t', st, st', _, h, hg => by
    simp [runOps] at h
    obtain ⟨rfl, rfl⟩ := h
    exact ⟨hg, fun r a w hT hI Q hQ => hQ a w r hT hI (Ext.refl _ _)⟩
  | o :: rest, i, t, t', st, st', hr, h, hg => by
    have hi : ops[i]? = some o := by
      rw [← Array.getElem?_toList]
      have : (ops.toList.drop i)[0]? = some o := by rw [← hr]; rfl
      simpa using this
    have hmem : o ∈ ops.toList := List.mem_of_getElem? (by rw [Array.getElem?_toList]; exact hi)
    have hr' : rest = ops.toList.drop (i + 1) := by
      have : ops.toList.drop (i + 1) = (ops.toList.drop i).drop 1 := by rw [List.drop_drop]
      rw [this, ← hr]; rfl
    unfold runOps at h
    split at h
    · rename_i st0 hw
      split at h
      · rename_i v st1 hs
        obtain ⟨h1, h2⟩ := runOps_ok hN hc hok rest (i + 1) _ _ _ _ hr' h hg
        obtain ⟨h3, h4⟩ := step_ok hN hc hs h1
        obtain ⟨h5, h6, h7⟩ := wanted_ok hw h3
        refine ⟨h5, fun r a w hT hI Q hQ => ?_⟩
        rw [List.length_cons, List.range'_succ]
        simp only [wpOps, hi, h7 N r a hT, if_true]
        refine .inl (h4 N r a w hT (hI.same h6) o rfl _ _ fun u r' w' hd hI' hE => ?_)
        exact h2 r' (a.put o.dst u) w' ((hT.sub hE.sub).put (opsOk_get hok hmem) hd) hI' Q fun a' w'' r'' hT' hI'' hE' => hQ a' w'' r'' hT' hI'' (hE.trans hE')
      · cases h
    · rename_i st0 hw
      obtain ⟨h1, h2⟩ := runOps_ok hN hc hok rest (i + 1) _ _ _ _ hr' h hg
      obtain ⟨h5, h6, h7⟩ := wanted_ok hw h1
      refine ⟨h5, fun r a w hT hI Q hQ => ?_⟩
      rw [List.length_cons, List.range'_succ]
      simp only [wpOps, hi, h7 N r a hT, Bool.false_eq_true, if_false]
      exact h2 r (a.put o.dst undef) w (hT.put (opsOk_get hok hmem) undef_den) (hI.same h6) Q hQ
    · cases h

/-! ### Regions that draw their order -/
/-! ### Sets as a number's bits -/
theorem tb_eq (m i : Nat) : tb m i = m.testBit i := by
  unfold tb
  rw [nbeq, Nat.testBit_eq_decide_div_mod_eq]
  rfl
theorem sb_bit (m i j : Nat) : (sb m i).testBit j = (m.testBit j || decide (i = j)) := by
  show (m ||| 2 ^ i).testBit j = _
  rw [Nat.testBit_or, Nat.testBit_two_pow]
structure RepL (n lm : Nat) (listed : Array Bool) : Prop where
  size : listed.size = n
  bit : ∀ i d, i < n → listed.getD i d = lm.testBit i
  high : ∀ i, n ≤ i → lm.testBit i = false
theorem getD_out {l : Array Bool} {i : Nat} {d : Bool} (h : l.size ≤ i) : l.getD i d = d := by
  simp [Array.getD, Nat.not_lt.2 h]
theorem RepL.getF {n lm : Nat} {listed : Array Bool} (h : RepL n lm listed) (i : Nat) : listed.getD i false = lm.testBit i := by
  rcases Nat.lt_or_ge i n with h1 | h1
  · exact h.bit i false h1
  · rw [getD_out (by rw [h.size]; exact h1), h.high i h1]
theorem RepL.set {n lm i : Nat} {listed : Array Bool} (h : RepL n lm listed) (hi : i < n) : RepL n (sb lm i) (listed.setIfInBounds i true) := by
  refine ⟨by rw [Array.size_setIfInBounds]; exact h.size, fun j d hj => ?_, fun j hj => ?_⟩
  · rw [sb_bit]
    by_cases e : i = j
    · subst e
      simp [Array.getD, h.size, hi]
    · rw [getD_set_ne d e, h.bit j d hj]
      simp [e]
  · rw [sb_bit, h.high j hj]
    simp; omega
theorem repL_zero (n : Nat) : RepL n 0 (Array.replicate n false) :=
  ⟨by simp, fun i d hi => by simp [Array.getD, hi], fun i _ => by simp⟩
theorem afterF_eq {n lm : Nat} {listed : Array Bool} (h : RepL n lm listed) : ∀ l : List Edge, afterF lm l = l.all fun e => !Region.binds .any e || listed.getD e.on false
  | [] => rfl
  | e :: r => by
    unfold afterF
    rw [afterF_eq h r, List.all_cons, h.getF, tb_eq]
    cases Region.binds .any e <;> cases lm.testBit e.on <;> rfl
theorem readyF_go {ops : Array Oper} {lm : Nat} {listed : Array Bool} (h : RepL ops.size lm listed) : ∀ (l : List Oper) (k : Nat), (∀ j, j < l.length → ops[k + j]? = l[j]?) → k + l.length = ops.size →
    readyF lm k l = (List.range' k l.length).filter fun i => !listed.getD i true && ((ops[i]?).map (·.after.all fun e => !Region.binds .any e || listed.getD e.on false)).getD false
  | [], k, _, _ => rfl
  | o :: l, k, hl, hk => by
    have ih := readyF_go h l (k + 1) (fun j hj => by have := hl (j + 1) (by simp; omega); simpa [Nat.add_assoc, Nat.add_comm 1 j] using this) (by simp at hk; omega)
    have h0 : ops[k]? = some o := by simpa using hl 0 (by simp)
    have hb := h.bit k true (by simp at hk; omega)
    unfold readyF
    rw [List.length_cons, List.range'_succ, ih, tb_eq, afterF_eq h, Array.all_toList]
    by_cases hy : lm.testBit k = true
    · rw [hy, List.filter_cons_of_neg (by simp [hb, h0, hy])]; rfl
    · rw [Bool.not_eq_true] at hy
      rw [hy, cond_false]
      by_cases hz : (o.after.all fun e => !Region.binds .any e || listed.getD e.on false) = true
      · rw [hz, List.filter_cons_of_pos (by simp only [hb, h0, hy, Option.map_some, Option.getD_some, hz]; rfl)]; rfl
      · rw [Bool.not_eq_true] at hz
        rw [hz, List.filter_cons_of_neg (by simp only [hb, h0, hy, Option.map_some, Option.getD_some, hz]; decide)]; rfl
theorem readyF_eq {ops : Array Oper} {lm : Nat} {listed : Array Bool} (h : RepL ops.size lm listed) : readyF lm 0 ops.toList = Region.ready .any ops listed := by
  rw [readyF_go h ops.toList 0 (fun j _ => by simp) (by simp)]
  unfold Region.ready
  rw [List.range_eq_range']
  simp
theorem onF_eq (i : Nat) : ∀ l : List Edge, onF i l = l.any fun e => Region.binds .any e && e.on == i
  | [] => rfl
  | e :: r => by
    unfold onF
    rw [onF_eq i r, List.any_cons]
    have e1 : (e.on == i) = Nat.beq e.on i := by rw [Bool.eq_iff_iff, Nat.beq_eq, beq_iff_eq]
    rw [e1]
    cases Nat.beq e.on i <;> cases Region.binds .any e <;> rfl
theorem freeL_go {ops : Array Oper} {lm i : Nat} {oi : Oper} {listed : Array Bool} (h : RepL ops.size lm listed) : ∀ (l : List Oper) (k : Nat), (∀ j, j < l.length → ops[k + j]? = l[j]?) → k + l.length = ops.size →
    freeL ops lm i oi k l = (List.range' k l.length).all fun j => j == i || listed.getD j true || match ops[j]? with
      | some oj => oj.after.any (fun e => Region.binds .any e && e.on == i) || oi.apart ops oj
      | none => true
  | [], k, _, _ => rfl
  | o :: l, k, hl, hk => by
    have ih := freeL_go (i := i) (oi := oi) h l (k + 1) (fun j hj => by have := hl (j + 1) (by simp; omega); simpa [Nat.add_assoc, Nat.add_comm 1 j] using this) (by simp at hk; omega)
    have h0 : ops[k]? = some o := by simpa using hl 0 (by simp)
    have hb := h.bit k true (by simp at hk; omega)
    unfold freeL
    rw [List.length_cons, List.range'_succ, List.all_cons, ih, tb_eq, onF_eq, hb, h0]
    have e1 : (k == i) = Nat.beq k i := by rw [Bool.eq_iff_iff, Nat.beq_eq, beq_iff_eq]
    rw [e1]
    simp only [Array.any_toList]
    cases Nat.beq k i <;> cases lm.testBit k <;> cases (o.after.any fun e => Region.binds .any e && e.on == i) <;> cases oi.apart ops o <;> rfl
theorem freeF_ok {ops : Array Oper} {lm i : Nat} {listed : Array Bool} (h : RepL ops.size lm listed) (hf : freeF ops ops.toList lm i = true) : Region.free .any ops listed i = true := by
  unfold freeF at hf
  split at hf
  · cases hf
  · rename_i oi hi
    unfold Region.free
    rw [toList_get hi]
    simp only
    rw [freeL_go h ops.toList 0 (fun j _ => by simp) (by simp)] at hf
    rw [List.range_eq_range', ← Array.length_toList]
    rw [List.all_eq_true] at hf ⊢
    intro j hj
    have := hf j hj
    revert this
    cases ops[j]? <;> exact id
theorem freeL_mono {ops : Array Oper} {rm rl i : Nat} {oi : Oper} (hsub : ∀ k, rm.testBit k = true → rl.testBit k = true) : ∀ (l : List Oper) (k : Nat), freeL ops rm i oi k l = true → freeL ops rl i oi k l = true
  | [], _, h => h
  | o :: l, k, h => by
    unfold freeL at h ⊢
    rw [tb_eq] at h ⊢
    cases hb : Nat.beq k i
    · rw [hb] at h
      cases hm : rm.testBit k
      · rw [hm] at h
        simp only [cond_false] at h ⊢
        cases hc : onF i o.after.toList
        · rw [hc] at h
          cases ha : oi.apart ops o
          · rw [ha] at h; cases h
          · rw [ha] at h
            simp only [cond_false, cond_true] at h
            cases rl.testBit k <;> exact freeL_mono hsub l (k + 1) h
        · rw [hc] at h
          simp only [cond_true] at h
          cases rl.testBit k <;> exact freeL_mono hsub l (k + 1) h
      · rw [hm] at h
        rw [hsub k hm]
        exact freeL_mono hsub l (k + 1) h
    · rw [hb] at h
      exact freeL_mono hsub l (k + 1) h
theorem freeF_mono {ops : Array Oper} {opl : List Oper} {rm rl i : Nat} (hsub : ∀ k, rm.testBit k = true → rl.testBit k = true) (h : freeF ops opl rm i = true) : freeF ops opl rl i = true := by
  unfold freeF at h ⊢
  split at h
  · cases h
  · exact freeL_mono hsub _ _ h
theorem afterF_bit {lm : Nat} : ∀ {l : List Edge}, afterF lm l = true ↔ ∀ e ∈ l, Region.binds .any e = true → lm.testBit e.on = true
  | [] => by simp [afterF]
  | e :: r => by
    unfold afterF
    rw [tb_eq]
    have ih := afterF_bit (lm := lm) (l := r)
    cases hb : Region.binds .any e
    · simp only [cond_false, cond_true, ih, List.mem_cons]
      exact ⟨fun h x hx => by rcases hx with rfl | hx; intro hc; rw [hb] at hc; cases hc; exact h x hx, fun h x hx => h x (.inr hx)⟩
    · cases hm : lm.testBit e.on
      · simp only [cond_true, cond_false, Bool.false_eq_true, false_iff]
        intro h
        have := h e (List.mem_cons_self ..) hb
        rw [hm] at this; cases this
      · simp only [cond_true, ih, List.mem_cons]
        exact ⟨fun h x hx => by rcases hx with rfl | hx; exact fun _ => hm; exact h x hx, fun h x hx => h x (.inr hx)⟩
theorem onF_bit {i : Nat} {l : List Edge} : onF i l = true ↔ ∃ e ∈ l, Region.binds .any e = true ∧ e.on = i := by
  rw [onF_eq, List.any_eq_true]
  simp only [Bool.and_eq_true, beq_iff_eq]
/-- The set of those that a number's bits tell. -/
theorem repOf {n lm : Nat} (h : ∀ i, n ≤ i → lm.testBit i = false) : RepL n lm ((Array.range n).map fun i => lm.testBit i) :=
  ⟨by simp, fun i d hi => by simp [Array.getD, hi], h⟩
theorem allF_bit {rm : Nat} (i : Nat) : ∀ gl : Gh, (allF rm gl).testBit i = (rm.testBit i || gl.any fun x => x.1 == i)
  | [] => by simp [allF]
  | (p, v) :: r => by
    unfold allF
    rw [sb_bit, allF_bit i r, List.any_cons]
    have : (p == i) = decide (p = i) := by rw [Bool.eq_iff_iff, beq_iff_eq, decide_eq_true_eq]
    show _ = (rm.testBit i || ((p == i) || _))
    rw [this]
    cases rm.testBit i <;> cases decide (p = i) <;> simp
theorem ready_bits {ops : Array Oper} {rl : Nat} {listed : Array Bool} (hR : RepL ops.size rl listed) {i : Nat} : i ∈ Region.ready .any ops listed ↔ rl.testBit i = false ∧ ∃ o, ops[i]? = some o ∧ ∀ e ∈ o.after.toList, Region.binds .any e = true → rl.testBit e.on = true := by
  rw [mem_ready]
  constructor
  · rintro ⟨h1, o, h2, h3⟩
    have hlt := (Array.getElem?_eq_some_iff.1 h2).1
    rw [hR.bit i true hlt] at h1
    exact ⟨h1, o, h2, fun e he hb => by rw [← hR.getF]; exact h3 e (by simpa using he) hb⟩
  · rintro ⟨h1, o, h2, h3⟩
    have hlt := (Array.getElem?_eq_some_iff.1 h2).1
    exact ⟨by rw [hR.bit i true hlt]; exact h1, o, h2, fun e he hb => by rw [hR.getF]; exact h3 e (by simpa using he) hb⟩
theorem mem_readyF {ops : Array Oper} {lm : Nat} (hh : ∀ i, ops.size ≤ i → lm.testBit i = false) {i : Nat} : i ∈ readyF lm 0 ops.toList ↔ lm.testBit i = false ∧ ∃ o, ops[i]? = some o ∧ ∀ e ∈ o.after.toList, Region.binds .any e = true → lm.testBit e.on = true := by
  rw [readyF_eq (repOf hh)]
  exact ready_bits (repOf hh)
theorem apartG_ok {ops : Array Oper} {o : Oper} : ∀ {gl : Gh}, apartG ops ops.toList o gl = true → ∀ p v, (p, v) ∈ gl → ∃ q, ops[p]? = some q ∧ q.apart ops o = true ∧ o.apart ops q = true
  | [], _, p, v, hm => by cases hm
  | (p0, v0) :: r, h, p, v, hm => by
    unfold apartG at h
    split at h
    · rename_i q hq
      cases hc : (q.apart ops o && o.apart ops q)
      · rw [hc] at h; cases h
      · rw [hc, cond_true] at h
        rw [Bool.and_eq_true] at hc
        rcases List.mem_cons.1 hm with e | hm
        · cases e; exact ⟨q, toList_get hq, hc.1, hc.2⟩
        · exact apartG_ok h p v hm
    · cases h
theorem apart_mk {ops : Array Oper} {x y : Oper} (h1 : ∀ d, x.dst = some d → d ∉ y.looksAt ops) (h2 : ∀ d, x.dst = some d → y.dst ≠ some d) (h3 : ∀ d, y.dst = some d → d ∉ x.looksAt ops) : x.apart ops y = true := by
  unfold Oper.apart
  rw [Bool.and_eq_true]
  constructor
  · cases hx : x.dst with
    | none => rfl
    | some d =>
      have a := h1 d hx
      have b := h2 d hx
      simp [a, b]
  · cases hy : y.dst with
    | none => rfl
    | some d =>
      have a := h3 d hy
      simp [a]
theorem dstsM_ok : ∀ {l : List Oper} {m M : Nat}, dstsM l m = some M → (∀ k, m.testBit k = true → M.testBit k = true) ∧ (∀ o ∈ l, ∀ d, o.dst = some d → M.testBit d = true ∧ m.testBit d = false) ∧ l.Pairwise fun a b => ∀ d, a.dst = some d → b.dst ≠ some d
  | [], m, M, h => by simp [dstsM] at h; subst h; exact ⟨fun _ h => h, fun o ho => (by cases ho), List.Pairwise.nil⟩
  | o :: r, m, M, h => by
    unfold dstsM at h
    split at h
    · rename_i hd
      obtain ⟨h1, h2, h3⟩ := dstsM_ok h
      refine ⟨h1, fun x hx d hxd => ?_, List.Pairwise.cons (fun b _ d hd' => by rw [hd] at hd'; cases hd') h3⟩
      rcases List.mem_cons.1 hx with rfl | hx
      · rw [hd] at hxd; cases hxd
      · exact h2 x hx d hxd
    · rename_i d hd
      rw [tb_eq] at h
      cases hb : m.testBit d
      · rw [hb, cond_false] at h
        obtain ⟨h1, h2, h3⟩ := dstsM_ok h
        have hm : ∀ k, m.testBit k = true → (sb m d).testBit k = true := fun k hk => by rw [sb_bit, hk]; rfl
        refine ⟨fun k hk => h1 k (hm k hk), fun x hx e hxe => ?_, List.Pairwise.cons (fun b hb' e he => ?_) h3⟩
        · rcases List.mem_cons.1 hx with rfl | hx
          · rw [hd] at hxe; cases hxe
            exact ⟨h1 d (by rw [sb_bit]; simp), hb⟩
          · obtain ⟨k1, k2⟩ := h2 x hx e hxe
            refine ⟨k1, ?_⟩
            rw [sb_bit, Bool.or_eq_false_iff] at k2
            exact k2.1
        · rw [hd] at he; cases he
          intro hbd
          have := (h2 b hb' d hbd).2
          rw [sb_bit] at this
          simp at this
      · rw [hb] at h; cases h
theorem edgeTo_ok {opl : List Oper} {d : Nat} : ∀ {l : List Edge}, edgeTo opl d l = true → ∃ e ∈ l, Region.binds .any e = true ∧ ∃ o, lkL opl e.on = some o ∧ o.dst = some d
  | [], h => by simp [edgeTo] at h
  | e :: r, h => by
    unfold edgeTo at h
    cases hb : Region.binds .any e
    · rw [hb] at h
      obtain ⟨e', h1, h2⟩ := edgeTo_ok (l := r) h
      exact ⟨e', List.mem_cons_of_mem _ h1, h2⟩
    · rw [hb] at h
      simp only [cond_true] at h
      have next : edgeTo opl d r = true → ∃ e' ∈ e :: r, Region.binds .any e' = true ∧ ∃ o, lkL opl e'.on = some o ∧ o.dst = some d := fun h => by
        obtain ⟨e', h1, h2⟩ := edgeTo_ok h
        exact ⟨e', List.mem_cons_of_mem _ h1, h2⟩
      unfold dstOf at h
      cases ho : lkL opl e.on with
      | none => rw [ho] at h; exact next h
      | some o =>
        rw [ho] at h
        simp only at h
        cases hd : o.dst with
        | none => rw [hd] at h; exact next h
        | some x =>
          rw [hd] at h
          simp only [nbeq] at h
          by_cases hx : x = d
          · subst hx
            exact ⟨e, List.mem_cons_self .., hb, o, ho, hd⟩
          · rw [decide_eq_false hx] at h; exact next h
theorem looksOk_ok {opl : List Oper} {m : Nat} {es : List Edge} : ∀ {l : List Nat}, looksOk opl m es l = true → ∀ d ∈ l, m.testBit d = true → edgeTo opl d es = true
  | [], _, d, hd, _ => by cases hd
  | x :: r, h, d, hd, hm => by
    unfold looksOk at h
    rw [tb_eq] at h
    cases hx : m.testBit x
    · rw [hx] at h
      rcases List.mem_cons.1 hd with rfl | hd
      · rw [hx] at hm; cases hm
      · exact looksOk_ok h d hd hm
    · rw [hx, cond_true] at h
      cases he : edgeTo opl x es
      · rw [he] at h; cases h
      · rw [he, cond_true] at h
        rcases List.mem_cons.1 hd with rfl | hd
        · exact he
        · exact looksOk_ok h d hd hm
theorem ssaAll_ok {ops : Array Oper} {opl : List Oper} {m : Nat} : ∀ {l : List Oper}, ssaAll ops opl m l = true → ∀ o ∈ l, looksOk opl m o.after.toList (o.looksAt ops) = true
  | [], _, o, ho => by cases ho
  | x :: r, h, o, ho => by
    unfold ssaAll at h
    cases hx : looksOk opl m x.after.toList (x.looksAt ops)
    · rw [hx] at h; cases h
    · rw [hx, cond_true] at h
      rcases List.mem_cons.1 ho with rfl | ho
      · exact hx
      · exact ssaAll_ok h o ho
structure Ssa (ops : Array Oper) : Prop where
  wait : ∀ (i j : Nat) (oi oj : Oper) d, ops[i]? = some oi → ops[j]? = some oj → oi.dst = some d → d ∈ oj.looksAt ops → onF i oj.after.toList = true
  dst : ∀ (i j : Nat) (oi oj : Oper) d, i ≠ j → ops[i]? = some oi → ops[j]? = some oj → oi.dst = some d → oj.dst ≠ some d
theorem ssaOk_ok {ops : Array Oper} (h : ssaOk ops ops.toList = true) : Ssa ops := by
  unfold ssaOk at h
  split at h
  · cases h
  · rename_i m hm
    obtain ⟨_, h2, h3⟩ := dstsM_ok hm
    have hdst : ∀ (i j : Nat) (oi oj : Oper) d, i ≠ j → ops[i]? = some oi → ops[j]? = some oj → oi.dst = some d → oj.dst ≠ some d := by
      intro i j oi oj d hij hi hj hd
      rw [List.pairwise_iff_getElem] at h3
      obtain ⟨li, hi'⟩ := Array.getElem?_eq_some_iff.1 hi
      obtain ⟨lj, hj'⟩ := Array.getElem?_eq_some_iff.1 hj
      rcases Nat.lt_or_gt_of_ne hij with h | h
      · have := h3 i j (by simpa using li) (by simpa using lj) h d (by rw [Array.getElem_toList]; rw [hi']; exact hd)
        rw [Array.getElem_toList, hj'] at this
        exact this
      · intro hd2
        have := h3 j i (by simpa using lj) (by simpa using li) h d (by rw [Array.getElem_toList]; rw [hj']; exact hd2)
        rw [Array.getElem_toList, hi'] at this
        exact this hd
    refine ⟨fun i j oi oj d hi hj hd hl => ?_, hdst⟩
    have mi : oi ∈ ops.toList := List.mem_of_getElem? (by rw [Array.getElem?_toList]; exact hi)
    have mj : oj ∈ ops.toList := List.mem_of_getElem? (by rw [Array.getElem?_toList]; exact hj)
    obtain ⟨e, he, hb, o, ho, hod⟩ := edgeTo_ok (looksOk_ok (ssaAll_ok h oj mj) d hl (h2 oi mi d hd).1)
    have hei : e.on = i := by
      by_cases heq : e.on = i
      · exact heq
      · exact absurd hd (hdst e.on i o oi d heq (toList_get ho) hi hod)
    exact onF_bit.2 ⟨e, he, hb, hei⟩
/-- What may come up is apart from all that has not come up and does not wait for it. -/
theorem ssa_free {ops : Array Oper} (hs : Ssa ops) {rl i : Nat} {listed : Array Bool} (hR : RepL ops.size rl listed) {o : Oper} (ho : ops[i]? = some o) (ha : ∀ e ∈ o.after.toList, Region.binds .any e = true → rl.testBit e.on = true) : Region.free .any ops listed i = true := by
  unfold Region.free
  rw [ho]
  simp only
  rw [List.all_eq_true]
  intro j hj
  rw [List.mem_range] at hj
  by_cases hji : j = i
  · simp [hji]
  by_cases hl : listed.getD j true = true
  · simp [hl]
  have hl' : rl.testBit j = false := by
    rw [hR.bit j true hj] at hl
    simpa using hl
  have hoj : ops[j]? = some ops[j] := Array.getElem?_eq_getElem hj
  rw [hoj]
  simp only [Bool.or_eq_true]
  right
  by_cases hw : onF i (ops[j]).after.toList = true
  · left
    rw [onF_eq] at hw
    simpa [Array.any_toList] using hw
  · right
    refine apart_mk (fun d hd hm => hw (hs.wait i j o _ d ho hoj hd hm)) (fun d hd => hs.dst i j o _ d (Ne.symm hji) ho hoj hd) fun d hd hm => ?_
    obtain ⟨e, he, hb, hej⟩ := onF_bit.1 (hs.wait j i _ o d hoj ho hd hm)
    have := ha e he hb
    rw [hej, hl'] at this; cases this
theorem freeG_ok {ops : Array Oper} {ssa : Bool} {rm : Nat} {gl : Gh} {i : Nat} {o : Oper} (h : freeG ops ops.toList ssa rm gl i o = true) : ssa = true ∨ (freeF ops ops.toList rm i = true ∧ apartG ops ops.toList o gl = true) := by
  unfold freeG at h
  cases ssa
  · right
    simp only [cond_false] at h
    cases h2 : freeF ops ops.toList rm i
    · rw [h2] at h; cases h
    · rw [h2, cond_true] at h; exact ⟨rfl, h⟩
  · exact .inl rfl
theorem takeOne_ok (hN : NamesOk P X) {ops : Array Oper} {base : Nat} {ssa : Bool} {stable : List (Nat × Bk)} {rm : Nat} {gl : Gh} {t t' : T} {st st' : St} {i : Nat} {o : Oper} {gh : Bool} {v : V} (h : takeOne L U X ops ops.toList base ssa stable rm gl t st i o = some (gh, v, t', st')) (hg : Good U g st') :
    (gh = true ∧ ∃ cells ty, ghostA L t (base + i) o = some (v, cells, ty) ∧ (ssa = true ∨ apartG ops ops.toList o gl = true) ∧ base + i ∈ st.resv ∧ t' = clrT t o.dst ∧ st' = { st with heap := hset st.heap (base + i) ⟨cells, ty, .own⟩, resv := st.resv.filter fun x => !Nat.beq x (base + i) }) ∨
    (gh = false ∧ Good U g st ∧ Same st st' ∧ t' = putT t o.dst v ∧ (ssa = true ∨ (freeF ops ops.toList rm i = true ∧ apartG ops ops.toList o gl = true)) ∧ ∀ N r0 r a w, TRel N g r t a → Sub r0 r → HoldsA g r0 stable w → ∃ u, v.Den g r u ∧ YieldsIf P ops (HoldsA g r0 stable) o u a) := by
  unfold takeOne at h
  split at h
  · rename_i v' cells ty hgh
    cases hc : ((bif ssa then true else apartG ops ops.toList o gl) && st.resv.contains (base + i))
    · rw [hc] at h; cases h
    · rw [hc, cond_true] at h
      rw [Bool.and_eq_true] at hc
      cases h
      refine .inl ⟨rfl, cells, ty, hgh, ?_, by simpa using hc.2, rfl, rfl⟩
      cases ssa
      · exact .inr hc.1
      · exact .inl rfl
  · right
    split at h
    · rename_i st0 hw
      split at h
      · rename_i v' st1 hp
        cases hf : freeG ops ops.toList ssa rm gl i o
        · rw [hf] at h; cases h
        · rw [hf, cond_true] at h
          cases h
          obtain ⟨p1, p2, p3⟩ := pure_ok hN hp hg
          obtain ⟨w1, w2, w3⟩ := wanted_ok hw p1
          refine ⟨rfl, w1, w2.trans p2, rfl, freeG_ok hf, fun N r0 r a w hT hs hH => ?_⟩
          obtain ⟨u, hu, hy⟩ := p3 N r a hT
          exact ⟨u, hu, .inl ⟨w3 N r a hT, fun w' _ => hy o w' rfl⟩⟩
      · split at h
        · rename_i v' hl
          cases hf : freeG ops ops.toList ssa rm gl i o
          · rw [hf] at h; cases h
          · rw [hf, cond_true] at h
            cases h
            obtain ⟨w1, w2, w3⟩ := wanted_ok hw hg
            refine ⟨rfl, w1, w2, rfl, freeG_ok hf, fun N r0 r a w hT hs hH => ?_⟩
            obtain ⟨u, hu, hy⟩ := load_ok (P := P) hl hT (hH.sub hs).weak
            refine ⟨u, hu, .inl ⟨w3 N r a hT, fun w' hS => ?_⟩⟩
            obtain ⟨u', hu', hy'⟩ := load_ok (P := P) hl hT (hS.sub hs).weak
            obtain rfl := hu.unique hu'
            exact hy' o rfl
        · cases h
    · rename_i st0 hw
      cases hf : freeG ops ops.toList ssa rm gl i o
      · rw [hf] at h; cases h
      · rw [hf, cond_true] at h
        cases h
        obtain ⟨w1, w2, w3⟩ := wanted_ok hw hg
        exact ⟨rfl, w1, w2, rfl, freeG_ok hf, fun N r0 r a w hT _ _ => ⟨undef, undef_den, .inr ⟨w3 N r a hT, rfl⟩⟩⟩
    · cases h
theorem allSame_acc {f : Nat → Option (T × St) → Option (T × St)} : ∀ {rs : List Nat} {F G : T × St}, allSame f rs (some G) = some F → F = G ∧ ∀ i ∈ rs, f i (some F) = some F
  | [], F, G, h => by simp [allSame] at h; subst h; exact ⟨rfl, fun i hi => by cases hi⟩
  | i :: rs, F, G, h => by
    unfold allSame at h
    split at h
    · rename_i x hx
      split at h
      · rename_i hxg
        subst hxg
        obtain ⟨rfl, h2⟩ := allSame_acc h
        exact ⟨rfl, fun j hj => by
          rcases List.mem_cons.1 hj with rfl | hj
          · exact hx
          · exact h2 j hj⟩
      · cases h
    · cases h
theorem allSame_ok {f : Nat → Option (T × St) → Option (T × St)} {rs : List Nat} {F : T × St} (h : allSame f rs none = some F) :
    (∃ i, i ∈ rs ∧ f i none = some F) ∧ ∀ i ∈ rs, f i none = some F ∨ f i (some F) = some F := by
  cases rs with
  | nil => simp [allSame] at h
  | cons i rs =>
    unfold allSame at h
    split at h
    · rename_i x hx
      obtain ⟨rfl, h2⟩ := allSame_acc h
      exact ⟨⟨i, List.mem_cons_self .., hx⟩, fun j hj => by
        rcases List.mem_cons.1 hj with rfl | hj
        · exact .inl hx
        · exact .inr (h2 j hj)⟩
    · cases h
theorem keepsB_get {heap : List (Nat × Bk)} : ∀ {stable : List (Nat × Bk)}, keepsB heap stable = true → ∀ n bk, hget stable n = some bk → hget heap n = some bk
  | [], _, n, bk, h => by simp [hget] at h
  | (m, b) :: r, hk, n, bk, h => by
    unfold keepsB at hk
    split at hk
    · rename_i b' hb
      split at hk
      · rename_i hbb
        subst hbb
        unfold hget at h
        rw [nbeq, Bool.cond_decide] at h
        split at h
        · rename_i hm; subst hm; cases h; exact hb
        · exact keepsB_get hk n bk h
      · cases hk
    · cases hk
theorem holds_keep {stable heap : List (Nat × Bk)} (hk : keepsB heap stable = true) {r0 r' : Rho} {w w' : World} (h0 : HoldsA g r0 stable w) (hs : Sub r0 r') (h : Holds g r' heap w') : HoldsA g r0 stable w' := fun n bk hn => by
  obtain ⟨b, h1, h2⟩ := h0 n bk hn
  obtain ⟨a1, a2, a3, a4⟩ := hs.at_ n b h1
  have k2 := h n bk b (keepsB_get hk n bk hn) a1
  refine ⟨b, h1, ?_⟩
  rcases h2 with ⟨c1, c2, vs, c3, c4⟩ | ⟨c1, pre, vs, post, c2, c3, c4, c5⟩
  · rcases k2 with ⟨d1, d2, us, d3, d4⟩ | ⟨d1, _⟩
    · obtain rfl := (c3.sub hs).unique d3
      exact .inl ⟨c1, c2, vs, c3, fun i v hv => by rw [← a3]; exact d4 i v hv⟩
    · rw [a4, c2] at d1; cases d1
  · rcases k2 with ⟨d1, d2, _⟩ | ⟨d1, pre', us, post', d2, d3, d4, d5⟩
    · rw [a4, c1] at d2; cases d2
    · obtain rfl := (c4.sub hs).unique d4
      exact .inr ⟨c1, pre', vs, post', d2, d3.trans a3, c4, d5.sub a2.symm a3.symm⟩

/-! ### Memory made ahead -/
/-- What has been made, and written; names that are held back may have changed. -/
structure ExtN (r : Rho) (w : World) (r' : Rho) (w' : World) : Prop where
  sub : Sub r r'
  new : ∀ n b, r' n = some b → r'.ro n = false → (∃ m, r m = some b ∧ r.ro m = false) ∨ w.heap.size ≤ b
  size : w.heap.size ≤ w'.heap.size
  frame : ∀ b, b < w.heap.size → (∀ n, r n = some b → r.ro n = true) → w'.heap[b]? = w.heap[b]?
  os : w'.os = w.os
  tape : w'.tape = w.tape
  output : w'.output = w.output
theorem Ext.n {r r' : Rho} {w w' : World} (h : Ext r w r' w') : ExtN r w r' w' := ⟨h.sub, h.new, h.size, h.frame, h.os, h.tape, h.output⟩
theorem ExtN.ext {r r' : Rho} {w w' : World} (h : ExtN r w r' w') (hb : r'.bar = r.bar) : Ext r w r' w' := ⟨h.sub, h.new, h.size, h.frame, h.os, h.tape, h.output, hb⟩
theorem ExtN.refl (r : Rho) (w : World) : ExtN r w r w := (Ext.refl r w).n
theorem ExtN.trans {r r1 r2 : Rho} {w w1 w2 : World} (h : ExtN r w r1 w1) (k : ExtN r1 w1 r2 w2) : ExtN r w r2 w2 := by
  refine ⟨h.sub.trans k.sub, fun n b hb hr => ?_, Nat.le_trans h.size k.size, fun b hb hn => ?_, k.os.trans h.os, k.tape.trans h.tape, k.output.trans h.output⟩
  · rcases k.new n b hb hr with ⟨m, h1, h2⟩ | h1
    · exact h.new m b h1 h2
    · exact .inr (Nat.le_trans h.size h1)
  · rw [k.frame b (Nat.lt_of_lt_of_le hb h.size) (fun n e => ?_), h.frame b hb hn]
    cases hr : r1.ro n
    · rcases h.new n b e hr with ⟨m, h1, h2⟩ | h1
      · rw [hn m h1] at h2; cases h2
      · omega
    · rfl
/-- An operation that makes memory, not carried out yet. -/
def GhostR (P : Program) (g : Sg) (r : Rho) (a : Act) (o : Oper) (v : V) (bk : Bk) (n : Nat) : Prop :=
  bk.kd = .own ∧ ∃ vs, ∃ mk : Nat → Value, DL g r bk.cells vs ∧ (∀ w, (execOp a.eval o).run P w = .ok (.value (mk w.heap.size)) (w.alloc (.cells ⟨vs⟩ bk.ty))) ∧ ∀ (r' : Rho) q, r' n = some q → r'.f n = 0 → v.Den g r' (mk q)
theorem ghostA_ok {t : T} {n : Nat} {o : Oper} {v : V} {cells : List C} {ty : TypeId} (h : ghostA L t n o = some (v, cells, ty)) :
    o.guard = none ∧ ∀ N r a, TRel N g r t a → GhostR P g r a o v ⟨cells, ty, .own⟩ n := by
  unfold ghostA at h
  split at h
  · cases h
  · rename_i hgd
    refine ⟨hgd, fun N r a hT => ⟨rfl, ?_⟩⟩
    split at h
    · rename_i t1 hop
      split at h
      · rename_i z0 hz0
        cases h
        obtain ⟨i, z, hi, hz, hzc⟩ := zero_ok (P := P) (g := g) hz0
        obtain ⟨cv, hcv, hD⟩ := hzc r
        exact ⟨cv, fun q => .pointer (some ⟨q, 0, none⟩), hD, fun w => by
          simp only [execOp, hop, Instr.alloc, Sem.run_bind, run_zero hi hz, Result.andThen_ok, newVar, run_newRow', Sem.run_pure, hcv], fun r' q h1 h2 => mk_p0 h1 h2 0⟩
      · cases h
    · rename_i t1 x hop
      split at h
      · rename_i y hy
        cases h
        obtain ⟨cv, hcv, hD⟩ := W.Den.cells (ev_den hT hy : V.Den g r (.w y) _)
        exact ⟨cv, fun q => .pointer (some ⟨q, 0, none⟩), hD, fun w => by
          simp only [execOp, hop, Instr.box, Sem.run_bind, newVar, run_newRow', Result.andThen_ok, Sem.run_pure, hcv], fun r' q h1 h2 => mk_p0 h1 h2 0⟩
      · cases h
    · rename_i t1 len parts hop
      split at h
      · rename_i l hl
        split at h
        · rename_i cs e hb
          cases h
          obtain ⟨ws, hD, hrun⟩ := buildSlice_ok (P := P) hb r _ (parts_ok hT hl)
          refine ⟨ws, fun q => .slice (some ⟨q, 0, none⟩) len len, hD, fun w => ?_, fun r' q h1 h2 => mk_s0 h1 h2 0 len len⟩
          have hmap : (parts.map fun (i, x) => (i, a.eval x)) = ⟨parts.toList.map fun (i, x) => (i, a.eval x)⟩ := by
            apply Array.ext'; simp
          simp only [execOp, hop, hmap, Sem.run_bind, hrun, Result.andThen_ok, Sem.run_pure]
        · cases h
      · cases h
    · cases h
theorem GhostR.put {r r' : Rho} {a : Act} {o : Oper} {v : V} {bk : Bk} {n : Nat} (h : GhostR P g r a o v bk n) (hs : Sub r r') {ops : Array Oper} (hsel : ∀ cs b, o.op ≠ .select cs b) {dst : Option Tmp} (u : Value) (hd : ∀ d, dst = some d → d ∉ o.looksAt ops) :
    GhostR P g r' (a.put dst u) o v bk n := by
  obtain ⟨h0, vs, mk, h1, h2, h3⟩ := h
  exact ⟨h0, vs, mk, h1.sub hs, fun w => by rw [execOp_put (ops := ops) o hsel a dst u hd]; exact h2 w, h3⟩
theorem put_get {a : Act} {dst : Option Tmp} {u : Value} {d : Nat} (h : dst ≠ some d) : (a.put dst u).tmps[d]? = a.tmps[d]? := by
  cases dst with
  | none => rfl
  | some e => simp only [Act.put]; rw [Array.getElem?_setIfInBounds_ne (by intro he; subst he; exact h rfl)]
structure GInv (P : Program) (g : Sg) (ops : Array Oper) (base : Nat) (bar0 : Nat → Bool) (rl rm : Nat) (gl : Gh) (heap : List (Nat × Bk)) (r : Rho) (a : Act) : Prop where
  sub : ∀ i, rm.testBit i = true → rl.testBit i = true
  all : ∀ i, rl.testBit i = true → (allF rm gl).testBit i = true
  each : ∀ p v, (p, v) ∈ gl → ∃ o, ops[p]? = some o ∧ o.guard = none ∧ (∀ e ∈ o.after.toList, Region.binds .any e = true → rm.testBit e.on = true) ∧ rm.testBit p = false ∧
    ((rl.testBit p = true ∧ ∃ u, v.Den g r u ∧ ∀ d, o.dst = some d → a.tmps[d]? = some u) ∨
     (rl.testBit p = false ∧ r.bar (base + p) = true ∧ ∃ bk, hget heap (base + p) = some bk ∧ GhostR P g r a o v bk (base + p)))
  pair : ∀ p v, (p, v) ∈ gl → ∀ p' v', (p', v') ∈ gl → p ≠ p' → ∀ o o', ops[p]? = some o → ops[p']? = some o' → o.apart ops o' = true
  bars1 : ∀ n, r.bar n = true → bar0 n = true ∨ ∃ p v, (p, v) ∈ gl ∧ n = base + p ∧ rl.testBit p = false
  bars2 : ∀ n, bar0 n = true → r.bar n = true
  bar00 : ∀ p v, (p, v) ∈ gl → bar0 (base + p) = false
def cnt (rl : Nat) (gl : Gh) : Nat := (gl.filter fun x => !rl.testBit x.1).length
theorem cnt_le {rl rl' : Nat} (h : ∀ i, rl.testBit i = true → rl'.testBit i = true) : ∀ gl : Gh, cnt rl' gl ≤ cnt rl gl
  | [] => Nat.le_refl _
  | x :: r => by
    have ih := cnt_le h r
    unfold cnt at ih ⊢
    rw [List.filter_cons, List.filter_cons]
    cases h1 : rl.testBit x.1
    · cases rl'.testBit x.1 <;> simp <;> omega
    · rw [h x.1 h1]; simpa using ih
theorem cnt_lt {rl p : Nat} (h : rl.testBit p = false) {v : V} : ∀ {gl : Gh}, (p, v) ∈ gl → cnt (sb rl p) gl + 1 ≤ cnt rl gl
  | [], hm => by cases hm
  | x :: r, hm => by
    have hle : ∀ i, rl.testBit i = true → (sb rl p).testBit i = true := fun i hi => by rw [sb_bit, hi]; rfl
    have h2 := cnt_le hle r
    unfold cnt at h2 ⊢
    rw [List.filter_cons, List.filter_cons]
    rcases List.mem_cons.1 hm with e | hm
    · subst e
      have : (sb rl p).testBit p = true := by rw [sb_bit]; simp
      simp [h, this]; omega
    · have ih := cnt_lt h hm
      unfold cnt at ih
      cases h1 : rl.testBit x.1
      · cases (sb rl p).testBit x.1 <;> simp <;> omega
      · rw [hle x.1 h1]; simpa using ih
theorem cnt_rest {rl : Nat} (o : Oper) : ∀ gl : Gh, cnt rl (restG o gl) ≤ cnt rl gl
  | [] => Nat.le_refl _
  | (p, v) :: r => by
    have ih := cnt_rest (rl := rl) o r
    unfold restG
    cases onF p o.after.toList
    · simp only [cond_false]
      unfold cnt at ih ⊢
      rw [List.filter_cons, List.filter_cons]
      cases rl.testBit p <;> simp <;> omega
    · simp only [cond_true]
      refine Nat.le_trans ih ?_
      unfold cnt
      rw [List.filter_cons]
      cases rl.testBit p <;> simp
theorem mem_waitsG {o : Oper} : ∀ {gl : Gh} {p : Nat} {v : V}, (p, v) ∈ waitsG o gl ↔ (p, v) ∈ gl ∧ onF p o.after.toList = true
  | [], p, v => by simp [waitsG]
  | (p0, v0) :: r, p, v => by
    unfold waitsG
    cases h : onF p0 o.after.toList
    · simp only [cond_false, mem_waitsG (gl := r), List.mem_cons]
      exact ⟨fun ⟨h1, h2⟩ => ⟨.inr h1, h2⟩, fun ⟨h1, h2⟩ => by
        rcases h1 with e | h1
        · cases e; rw [h] at h2; cases h2
        · exact ⟨h1, h2⟩⟩
    · simp only [cond_true, mem_waitsG (gl := r), List.mem_cons]
      exact ⟨fun h1 => by
        rcases h1 with e | h1
        · cases e; exact ⟨.inl rfl, h⟩
        · exact ⟨.inr h1.1, h1.2⟩, fun ⟨h1, h2⟩ => by
        rcases h1 with e | h1
        · exact .inl e
        · exact .inr ⟨h1, h2⟩⟩
theorem mem_restG {o : Oper} : ∀ {gl : Gh} {p : Nat} {v : V}, (p, v) ∈ restG o gl ↔ (p, v) ∈ gl ∧ onF p o.after.toList = false
  | [], p, v => by simp [restG]
  | (p0, v0) :: r, p, v => by
    unfold restG
    cases h : onF p0 o.after.toList
    · simp only [cond_false, mem_restG (gl := r), List.mem_cons]
      exact ⟨fun h1 => by
        rcases h1 with e | h1
        · cases e; exact ⟨.inl rfl, h⟩
        · exact ⟨.inr h1.1, h1.2⟩, fun ⟨h1, h2⟩ => by
        rcases h1 with e | h1
        · exact .inl e
        · exact .inr ⟨h1, h2⟩⟩
    · simp only [cond_true, mem_restG (gl := r), List.mem_cons]
      exact ⟨fun ⟨h1, h2⟩ => ⟨.inr h1, h2⟩, fun ⟨h1, h2⟩ => by
        rcases h1 with e | h1
        · cases e; rw [h] at h2; cases h2
        · exact ⟨h1, h2⟩⟩
theorem TRel.have {N : Nat} {r : Rho} {t : T} {a : Act} (h : TRel N g r t a) {dst : Option Nat} (hd : ∀ d, dst = some d → d < 16000) {v : V} {u : Value} (hv : v.Den g r u) (hu : ∀ d, dst = some d → a.tmps[d]? = some u) : TRel N g r (putT t dst v) a := by
  cases dst with
  | none => exact h
  | some d =>
    refine ⟨h.size, fun i v' hv' => ?_, h.defers⟩
    simp only [putT] at hv'
    rw [PT.get_set 14 t d i v (by have := hd d rfl; omega)] at hv'
    by_cases hi : i = d
    · subst hi
      simp at hv'; subst hv'
      exact ⟨u, hu i rfl, hv⟩
    · simp [hi] at hv'
      exact h.get i v' hv'
theorem putG_T {N : Nat} {ops : Array Oper} (hok : opsOk N ops.toList = true) {r : Rho} {t : T} {a : Act} (h : TRel N g r t a) : ∀ {l : Gh}, (∀ p v, (p, v) ∈ l → ∃ o, ops[p]? = some o ∧ ∃ u, v.Den g r u ∧ ∀ d, o.dst = some d → a.tmps[d]? = some u) → TRel N g r (putG ops.toList t l) a
  | [], _ => h
  | (p, v) :: l, hl => by
    have ih := putG_T hok h (l := l) fun q v hq => hl q v (List.mem_cons_of_mem _ hq)
    unfold putG
    split
    · rename_i o ho
      obtain ⟨o', ho', u, hu, hd⟩ := hl p v (List.mem_cons_self ..)
      rw [toList_get ho] at ho'; cases ho'
      exact ih.have (fun d hd => (opsOk_get hok (List.mem_of_getElem? (by rw [Array.getElem?_toList]; exact toList_get ho)) d hd).2) hu hd
    · exact ih
theorem mem_upTo {n : Nat} : ∀ {k m : Nat}, m ∈ upTo n k → n ≤ m ∧ m < n + k
  | 0, m, h => by cases h
  | k + 1, m, h => by
    unfold upTo at h
    rcases List.mem_cons.1 h with rfl | h
    · omega
    · have := mem_upTo h; omega
theorem keepG_ok {base : Nat} {h h' : List (Nat × Bk)} : ∀ {gl : Gh}, keepG base h h' gl = true → ∀ p v, (p, v) ∈ gl → ∃ b, hget h (base + p) = some b ∧ hget h' (base + p) = some b
  | [], _, _, _, hm => by cases hm
  | (p0, v0) :: r, hk, p, v, hm => by
    unfold keepG at hk
    split at hk
    · rename_i b b' h1 h2
      split at hk
      · rename_i he
        subst he
        rcases List.mem_cons.1 hm with e | hm
        · cases e; exact ⟨_, h1, h2⟩
        · exact keepG_ok hk p v hm
      · cases hk
    · cases hk
theorem PT.get_clr {α : Type} : ∀ (t : PT α) (i j : Nat), (PT.clr t i).get j = if j = i then none else t.get j
  | .e, i, j => by simp [PT.clr, PT.get_e]
  | .n l v r, i, j => by
    unfold PT.clr
    simp only [nbeq, Bool.cond_decide]
    by_cases hi : i = 0
    · subst hi
      simp only [if_true, PT.get_n, nbeq, Bool.cond_decide]
      by_cases hj : j = 0 <;> simp [hj]
    · by_cases ho : i % 2 = 1
      · simp only [hi, ho, if_false, if_true, PT.get_n, nbeq, Bool.cond_decide]
        by_cases hj : j = 0
        · simp [hj, Ne.symm hi]
        · by_cases hjo : j % 2 = 1
          · simp only [hj, hjo, if_false, if_true]
            rw [PT.get_clr l (i / 2) (j / 2)]
            have : (j / 2 = i / 2) ↔ j = i := by omega
            simp [this]
          · have : j ≠ i := by omega
            simp [hj, hjo, this]
      · simp only [hi, ho, if_false, PT.get_n, nbeq, Bool.cond_decide]
        by_cases hj : j = 0
        · simp [hj, Ne.symm hi]
        · by_cases hjo : j % 2 = 1
          · have : j ≠ i := by omega
            simp [hj, hjo, this]
          · simp only [hj, hjo, if_false]
            rw [PT.get_clr r (i / 2 - 1) (j / 2 - 1)]
            have : (j / 2 - 1 = i / 2 - 1) ↔ j = i := by omega
            simp [this]
theorem clrT_get {t : T} {dst : Option Nat} : (∀ d, dst = some d → (clrT t dst).get d = none) ∧ ∀ j v, (clrT t dst).get j = some v → t.get j = some v := by
  unfold clrT
  cases dst with
  | none => exact ⟨fun d hd => (by cases hd), fun j v h => h⟩
  | some d =>
    simp only
    split
    · rename_i hn
      exact ⟨fun e he => by cases he; exact hn, fun j v h => h⟩
    · refine ⟨fun e he => ?_, fun j v h => ?_⟩
      · cases he
        rw [PT.get_clr, if_pos rfl]
      · rw [PT.get_clr] at h
        split at h
        · cases h
        · exact h
theorem TRel.clr {N : Nat} {r : Rho} {t : T} {a : Act} (h : TRel N g r t a) (dst : Option Nat) : TRel N g r (clrT t dst) a :=
  ⟨h.size, fun i v hv => h.get i v (clrT_get.2 i v hv), h.defers⟩
theorem putT_none {t : T} {dst : Option Nat} {v : V} {d : Nat} (hd : ∀ e, dst = some e → e < 16000) (hne : dst ≠ some d) (h : t.get d = none) : (putT t dst v).get d = none := by
  cases dst with
  | none => exact h
  | some e =>
    simp only [putT]
    rw [PT.get_set 14 t e d v (by have := hd e rfl; omega)]
    rw [if_neg (fun he => hne (by rw [he]))]
    exact h
theorem startOf_same (st : St) (acc : Option (T × St)) : Same st (startOf st acc) := by
  cases acc <;> exact ⟨rfl, rfl, rfl⟩
theorem putG_none {N : Nat} {ops : Array Oper} (hok : opsOk N ops.toList = true) {t : T} {d : Nat} : ∀ {l : Gh}, (∀ p v, (p, v) ∈ l → ∀ o, ops[p]? = some o → o.dst ≠ some d) → t.get d = none → (putG ops.toList t l).get d = none
  | [], _, h => h
  | (p, v) :: l, hl, h => by
    have ih := putG_none hok (l := l) (fun q v hq => hl q v (List.mem_cons_of_mem _ hq)) h
    unfold putG
    split
    · rename_i o ho
      exact putT_none (fun e he => (opsOk_get hok (List.mem_of_getElem? (by rw [Array.getElem?_toList]; exact toList_get ho)) e he).2) (hl p v (List.mem_cons_self ..) o (toList_get ho)) ih
    · exact ih
section
variable (P : Program) (N : Nat) (g : Sg) (ops : Array Oper) (stable : List (Nat × Bk)) (base : Nat) (r0 : Rho) (bar0 : Nat → Bool) (Q : Exit → Act → World → Prop)
structure Ctx (rm : Nat) (gl : Gh) (t : T) (st : St) (tf : T) (stf : St) (rl : Nat) (listed : Array Bool) (r : Rho) (a : Act) (w : World) : Prop where
  rep : RepL ops.size rl listed
  inv : GInv P g ops base bar0 rl rm gl st.heap r a
  tr : TRel N g r t a
  abs : ∀ p v, (p, v) ∈ gl → ∀ o d, ops[p]? = some o → o.dst = some d → t.get d = none
  mem : Inv g r st w
  sub : Sub r0 r
  hold : HoldsA g r0 stable w
  cont : ∀ a' w' r', TRel N g r' tf a' → Inv g r' stf w' → r'.bar = bar0 → ExtN r w r' w' → Q .normal a' w'
end
section
variable {N : Nat} {ops : Array Oper} {stable : List (Nat × Bk)} {base : Nat} {r0 : Rho} {bar0 : Nat → Bool} {Q : Exit → Act → World → Prop} {rm : Nat} {gl : Gh} {t tf : T} {st stf : St}
theorem Ctx.high {rl : Nat} {listed : Array Bool} {r : Rho} {a : Act} {w : World} (hc : Ctx P N g ops stable base r0 bar0 Q rm gl t st tf stf rl listed r a w) : ∀ i, ops.size ≤ i → (allF rm gl).testBit i = false := fun i hi => by
  rw [allF_bit]
  cases h1 : rm.testBit i
  · cases h2 : gl.any (fun x => x.1 == i)
    · rfl
    · obtain ⟨⟨p, v⟩, hm, he⟩ := List.any_eq_true.1 h2
      obtain ⟨o, ho, _⟩ := hc.inv.each p v hm
      have := (Array.getElem?_eq_some_iff.1 ho).1
      have he : p = i := by simpa using he
      omega
  · have := hc.inv.sub i h1
    rw [hc.rep.high i hi] at this; cases this
theorem lm_of {rl : Nat} {listed : Array Bool} {r : Rho} {a : Act} {w : World} (hc : Ctx P N g ops stable base r0 bar0 Q rm gl t st tf stf rl listed r a w) {i : Nat} (h1 : rl.testBit i = false) (h2 : (allF rm gl).testBit i = true) : ∃ v, (i, v) ∈ gl := by
  rw [allF_bit, Bool.or_eq_true] at h2
  rcases h2 with h2 | h2
  · rw [hc.inv.sub i h2] at h1; cases h1
  · obtain ⟨⟨p, v⟩, hm, he⟩ := List.any_eq_true.1 h2
    have he : p = i := by simpa using he
    subst he; exact ⟨v, hm⟩
theorem in_lm {p : Nat} {v : V} (h : (p, v) ∈ gl) : (allF rm gl).testBit p = true := by
  rw [allF_bit, Bool.or_eq_true]
  exact .inr (List.any_eq_true.2 ⟨_, h, by simp⟩)
/-- One that has been made ahead comes up. -/
theorem realize (hsel : Region.noSelect ops = true) {rl : Nat} {listed : Array Bool} {r : Rho} {a : Act} {w : World} (hok : opsOk N ops.toList = true) (hc : Ctx P N g ops stable base r0 bar0 Q rm gl t st tf stf rl listed r a w)
    {p : Nat} {v : V} (hp : (p, v) ∈ gl) (hl : rl.testBit p = false) {K : Act → World → Prop}
    (hK : ∀ r' a' w', Ctx P N g ops stable base r0 bar0 Q rm gl t st tf stf (sb rl p) (listed.setIfInBounds p true) r' a' w' → K a' w') :
    wpOp P ops Q p (fun a' w' => HoldsA g r0 stable w' ∧ K a' w') a w := by
  obtain ⟨o, ho, hgd, hed, _, hcase⟩ := hc.inv.each p v hp
  rcases hcase with ⟨h1, _⟩ | ⟨_, hbar, bk, hbk, hkd, vs, mk, hD, hrun, hden⟩
  · rw [hl] at h1; cases h1
  have hI := hc.mem
  have hnone : r (base + p) = none := by
    cases h : r (base + p) with
    | none => rfl
    | some b => rw [hI.nobar _ b h] at hbar; cases hbar
  unfold wpOp
  have hw : Region.wanted o (yielded ops a.tmps) = true := by simp [Region.wanted, hgd]
  simp only [ho, hw, if_true]
  refine .inl ?_
  unfold Oper.wp
  rw [hrun w]
  generalize hr' : (⟨fun n => if n = base + p then some w.heap.size else r n, r.k, fun n => if n = base + p then 0 else r.f n, fun n => if n = base + p then false else r.ro n, r.z, fun n => if n = base + p then false else r.bar n⟩ : Rho) = r'
  have m1 : ∀ n, n ≠ base + p → r' n = r n ∧ r'.f n = r.f n ∧ r'.k n = r.k n ∧ r'.ro n = r.ro n ∧ r'.bar n = r.bar n := fun n hn => by subst hr'; simp [hn]
  have m2 : r' (base + p) = some w.heap.size ∧ r'.f (base + p) = 0 ∧ r'.ro (base + p) = false ∧ r'.bar (base + p) = false := by subst hr'; simp
  have hz : r'.z = r.z := by subst hr'; rfl
  clear hr'
  have hsub : Sub r r' := ⟨fun n b hb => by
    have hn : n ≠ base + p := fun e => by rw [e, hnone] at hb; cases hb
    obtain ⟨a1, a2, a3, a4, _⟩ := m1 n hn
    exact ⟨a1.trans hb, a3, a2, a4⟩, hz⟩
  have hold : HoldsA g r0 stable (w.alloc (.cells ⟨vs⟩ bk.ty)) := fun n bk' hn => by
    obtain ⟨b, b1, b2⟩ := hc.hold n bk' hn
    exact ⟨b, b1, b2.world (alloc_heap (hI.lt n b (hc.sub.at_ n b b1).1))⟩
  have hI' : Inv g r' st (w.alloc (.cells ⟨vs⟩ bk.ty)) := by
    refine ⟨fun n bk' b hn hb => ?_, fun n m b hn hm hro h1 h2 => ?_, fun n b h1 => ?_, fun n b h1 => ?_, hI.rlt, fun n b h1 => ?_, fun n h1 => ?_⟩
    · by_cases e : n = base + p
      · subst e
        rw [m2.1] at hb; cases hb
        rw [hbk] at hn; cases hn
        refine .inr ⟨m2.2.2.1, [], vs, [], ?_, m2.2.1.symm, hD.sub hsub, ?_⟩
        · rw [List.append_nil, List.nil_append]; exact alloc_new _ _
        · rw [hkd]; exact ⟨rfl, rfl⟩
      · rw [(m1 n e).1] at hb
        exact ((hI.holds n bk' b hn hb).sub hsub hb).world (alloc_heap (hI.lt n b hb))
    · by_cases e : n = base + p <;> by_cases e' : m = base + p
      · rw [e, e']
      · rw [e, m2.1] at h1; cases h1
        rw [(m1 m e').1] at h2
        have := hI.lt m _ h2; omega
      · rw [e', m2.1] at h2; cases h2
        rw [(m1 n e).1] at h1
        have := hI.lt n _ h1; omega
      · rw [(m1 n e).1] at h1
        rw [(m1 m e').1] at h2
        rw [(m1 n e).2.2.2.1] at hro
        exact hI.inj n m b hn hm hro h1 h2
    · by_cases e : n = base + p
      · subst e; exact hI.free _ hbar
      · rw [(m1 n e).1] at h1; exact hI.fresh n b h1
    · rw [World.size_alloc]
      by_cases e : n = base + p
      · subst e; rw [m2.1] at h1; cases h1; omega
      · rw [(m1 n e).1] at h1; have := hI.lt n b h1; omega
    · by_cases e : n = base + p
      · subst e; exact m2.2.2.2
      · rw [(m1 n e).1] at h1; rw [(m1 n e).2.2.2.2]; exact hI.nobar n b h1
    · by_cases e : n = base + p
      · subst e; rw [m2.2.2.2] at h1; cases h1
      · rw [(m1 n e).2.2.2.2] at h1; exact hI.free n h1
  have hE : ExtN r w r' (w.alloc (.cells ⟨vs⟩ bk.ty)) := ⟨hsub, fun n b h1 h2 => by
    by_cases e : n = base + p
    · subst e; rw [m2.1] at h1; cases h1; exact .inr (Nat.le_refl _)
    · rw [(m1 n e).1] at h1; rw [(m1 n e).2.2.2.1] at h2; exact .inl ⟨n, h1, h2⟩, by rw [World.size_alloc]; omega, fun b hb _ => alloc_heap hb, rfl, rfl, rfl⟩
  have hlt := (Array.getElem?_eq_some_iff.1 ho).1
  have hbit : ∀ j, (sb rl p).testBit j = true ↔ rl.testBit j = true ∨ p = j := fun j => by rw [sb_bit, Bool.or_eq_true, decide_eq_true_eq]
  have hbitF : ∀ j, j ≠ p → (sb rl p).testBit j = rl.testBit j := fun j hj => by rw [sb_bit, decide_eq_false (Ne.symm hj), Bool.or_false]
  refine ⟨hold, hK r' (a.put o.dst (mk w.heap.size)) _ ⟨hc.rep.set hlt, ⟨fun j hj => (hbit j).2 (.inl (hc.inv.sub j hj)), fun j hj => ?_, fun q v' hq => ?_, hc.inv.pair, fun n hn => ?_, fun n hn => ?_, hc.inv.bar00⟩, ?_, hc.abs, hI', hc.sub.trans hsub, hold, fun a' w' r2 h1 h2 h3 h4 => hc.cont a' w' r2 h1 h2 h3 (hE.trans h4)⟩⟩
  · rcases (hbit j).1 hj with hj | rfl
    · exact hc.inv.all j hj
    · exact in_lm hp
  · obtain ⟨oq, hoq, hgq, hedq, hrq, hcq⟩ := hc.inv.each q v' hq
    refine ⟨oq, hoq, hgq, hedq, hrq, ?_⟩
    by_cases e : q = p
    · subst e
      rw [ho] at hoq; cases hoq
      refine .inl ⟨(hbit q).2 (.inr rfl), ?_⟩
      rcases hcq with ⟨k1, _⟩ | ⟨_, _, bk', _, _, vs', mk', _, hrun', hden'⟩
      · rw [hl] at k1; cases k1
      refine ⟨mk w.heap.size, ?_, fun d hd => ?_⟩
      · have : mk' w.heap.size = mk w.heap.size := by
          have h1 := hrun' w
          rw [hrun w] at h1
          injection h1 with h1 h2
          injection h1 with h1
          exact h1.symm
        rw [← this]
        exact hden' r' _ m2.1 m2.2.1
      · rw [hd]
        simp only [Act.put]
        rw [Array.getElem?_setIfInBounds]
        have := (opsOk_get hok (List.mem_of_getElem? (by rw [Array.getElem?_toList]; exact ho)) d hd).1
        simp [hc.tr.size, this]
    · have hap := Oper.apart_spec (hc.inv.pair q v' hq p v hp e oq o hoq ho)
      rcases hcq with ⟨k1, u, k2, k3⟩ | ⟨k1, k2, bk', k3, k4⟩
      · exact .inl ⟨(hbit q).2 (.inl k1), u, k2.sub hsub, fun d hd => by rw [put_get (hap.2.1 d hd)]; exact k3 d hd⟩
      · refine .inr ⟨by rw [hbitF q e]; exact k1, ?_, bk', k3, k4.put hsub (fun cs b => Region.noSelect_spec hsel q oq cs b hoq) _ hap.2.2⟩
        rw [(m1 (base + q) (by omega)).2.2.2.2]; exact k2
  · by_cases e : n = base + p
    · subst e; rw [m2.2.2.2] at hn; cases hn
    · rw [(m1 n e).2.2.2.2] at hn
      rcases hc.inv.bars1 n hn with h | ⟨q, v', k1, k2, k3⟩
      · exact .inl h
      · exact .inr ⟨q, v', k1, k2, by rw [hbitF q (by omega)]; exact k3⟩
  · have e : n ≠ base + p := fun e => by rw [e, hc.inv.bar00 p v hp] at hn; cases hn
    rw [(m1 n e).2.2.2.2]; exact hc.inv.bars2 n hn
  · refine ⟨?_, fun i v' hv' => ?_, ?_⟩
    · cases o.dst <;> simp [Act.put, hc.tr.size]
    · obtain ⟨u, hu, hd⟩ := hc.tr.get i v' hv'
      cases hdst : o.dst with
      | none => exact ⟨u, hu, hd.sub hsub⟩
      | some d =>
        have hne : i ≠ d := fun e => by rw [e, hc.abs p v hp o d ho hdst] at hv'; cases hv'
        exact ⟨u, by simp only [Act.put]; rw [Array.getElem?_setIfInBounds_ne (Ne.symm hne)]; exact hu, hd.sub hsub⟩
    · cases o.dst <;> exact hc.tr.defers
theorem cnt_zero {rl : Nat} {gl : Gh} (h : cnt rl gl = 0) : ∀ p v, (p, v) ∈ gl → rl.testBit p = true := fun p v hm => by
  unfold cnt at h
  rw [List.length_eq_zero_iff, List.filter_eq_nil_iff] at h
  simpa using h _ hm
theorem cnt_some {rl : Nat} {gl : Gh} (h : cnt rl gl ≠ 0) : ∃ p v, (p, v) ∈ gl ∧ rl.testBit p = false := by
  unfold cnt at h
  have := List.length_pos_iff_exists_mem.1 (Nat.pos_of_ne_zero h)
  obtain ⟨⟨p, v⟩, hm⟩ := this
  rw [List.mem_filter] at hm
  exact ⟨p, v, hm.1, by simpa using hm.2⟩
theorem ghost_ind (hsel : Region.noSelect ops = true) (hok : opsOk N ops.toList = true) {n0 : Nat}
    (hready : ∀ rl listed r a w, Ctx P N g ops stable base r0 bar0 Q rm gl t st tf stf rl listed r a w → ∀ i ∈ Region.ready .any ops listed, (allF rm gl).testBit i = false → ∀ m, n0 + cnt rl gl ≤ m + 1 →
      wpOp P ops Q i (fun a' w' => HoldsA g r0 stable w' ∧ wpAnyH P .any ops Q (HoldsA g r0 stable) m (listed.setIfInBounds i true) a' w') a w)
    (hdone : ∀ rl listed r a w, Ctx P N g ops stable base r0 bar0 Q rm gl t st tf stf rl listed r a w → cnt rl gl = 0 → Region.ready .any ops listed = [] → Q .normal a w)
    (hn0 : n0 = 0 → readyF (allF rm gl) 0 ops.toList = []) :
    ∀ (k : Nat) rl listed r a w, Ctx P N g ops stable base r0 bar0 Q rm gl t st tf stf rl listed r a w → cnt rl gl ≤ k → ∀ m, n0 + k ≤ m → wpAnyH P .any ops Q (HoldsA g r0 stable) m listed a w := by
  intro k
  induction k with
  | zero =>
    intro rl listed r a w hc hk m hm
    have h0 : cnt rl gl = 0 := by omega
    by_cases hr : Region.ready .any ops listed = []
    · exact wpAnyH_done hr (hdone rl listed r a w hc h0 hr) m
    · have hfalse : ∀ i ∈ Region.ready .any ops listed, (allF rm gl).testBit i = false := fun i hi => by
        obtain ⟨k1, _⟩ := (ready_bits hc.rep).1 hi
        cases hb : (allF rm gl).testBit i
        · rfl
        · obtain ⟨v, hv⟩ := lm_of hc k1 hb
          rw [cnt_zero h0 i v hv] at k1; cases k1
      cases m with
      | zero =>
        exfalso
        have h00 : n0 = 0 := by omega
        have he := hn0 h00
        obtain ⟨i, hi⟩ := List.exists_mem_of_ne_nil _ hr
        have k1 := hfalse i hi
        obtain ⟨_, o, k2, k3⟩ := (ready_bits hc.rep).1 hi
        have : i ∈ readyF (allF rm gl) 0 ops.toList := (mem_readyF hc.high).2 ⟨k1, o, k2, fun e he hb => hc.inv.all _ (k3 e he hb)⟩
        rw [he] at this; cases this
      | succ m =>
        exact wpAnyH_all rfl hr fun i hi => hready rl listed r a w hc i hi (hfalse i hi) m (by omega)
  | succ k ih =>
    intro rl listed r a w hc hk m hm
    by_cases h0 : cnt rl gl = 0
    · exact (by
        refine ih rl listed r a w hc (by omega) m (by omega))
    · obtain ⟨p, v, hp, hl⟩ := cnt_some h0
      obtain ⟨o, ho, _, hed, _⟩ := hc.inv.each p v hp
      have hpr : p ∈ Region.ready .any ops listed := (ready_bits hc.rep).2 ⟨hl, o, ho, fun e he hb => hc.inv.sub _ (hed e he hb)⟩
      cases m with
      | zero => omega
      | succ m =>
        refine wpAnyH_all rfl (List.ne_nil_of_mem hpr) fun i hi => ?_
        cases hb : (allF rm gl).testBit i
        · exact hready rl listed r a w hc i hi hb m (by omega)
        · obtain ⟨k1, _⟩ := (ready_bits hc.rep).1 hi
          obtain ⟨v', hv'⟩ := lm_of hc k1 hb
          refine realize hsel hok hc hv' k1 fun r' a' w' hc' => ?_
          have := cnt_lt k1 hv'
          exact ih _ _ _ _ _ hc' (by omega) m (by omega)
theorem finish (hsel : Region.noSelect ops = true) (hok : opsOk N ops.toList = true) (hr : readyF (allF rm gl) 0 ops.toList = []) (ht : tf = putG ops.toList t gl) (hst : stf = st)
    {rl : Nat} {listed : Array Bool} {r : Rho} {a : Act} {w : World} (hc : Ctx P N g ops stable base r0 bar0 Q rm gl t st tf stf rl listed r a w) (m : Nat) (hm : cnt rl gl ≤ m) :
    wpAnyH P .any ops Q (HoldsA g r0 stable) m listed a w := by
  refine ghost_ind (n0 := 0) hsel hok ?_ ?_ (fun _ => hr) (cnt rl gl) rl listed r a w hc (Nat.le_refl _) m (by omega)
  · intro rl listed r a w hc i hi hb m _
    obtain ⟨_, o, k2, k3⟩ := (ready_bits hc.rep).1 hi
    have : i ∈ readyF (allF rm gl) 0 ops.toList := (mem_readyF hc.high).2 ⟨hb, o, k2, fun e he hb => hc.inv.all _ (k3 e he hb)⟩
    rw [hr] at this; cases this
  · intro rl listed r a w hc h0 _
    have hall := cnt_zero h0
    refine hc.cont a w r ?_ (hst ▸ hc.mem) ?_ (ExtN.refl _ _)
    · rw [ht]
      refine putG_T hok hc.tr fun p v hp => ?_
      obtain ⟨o, ho, _, _, _, hcase⟩ := hc.inv.each p v hp
      rcases hcase with ⟨_, h⟩ | ⟨h, _⟩
      · exact ⟨o, ho, h⟩
      · rw [hall p v hp] at h; cases h
    · funext n
      cases hb : r.bar n
      · cases h1 : bar0 n
        · rfl
        · rw [hc.inv.bars2 n h1] at hb; cases hb
      · rcases hc.inv.bars1 n hb with h | ⟨p, v, k1, _, k3⟩
        · exact h.symm
        · rw [hall p v k1] at k3; cases k3
end
section
variable {N : Nat} {ops : Array Oper} {stable : List (Nat × Bk)} {base : Nat} {r0 : Rho} {bar0 : Nat → Bool} {Q : Exit → Act → World → Prop} {rm : Nat} {gl : Gh} {t tf : T} {st stf : St}
/-- What has been made ahead is apart from what may come up. -/
theorem apart_of {ssa : Bool} (hssa : ssa = true → Ssa ops) {rl : Nat} {listed : Array Bool} {r : Rho} {a : Act} {w : World} (hx : Ctx P N g ops stable base r0 bar0 Q rm gl t st tf stf rl listed r a w) {i : Nat} {o : Oper} (ho : ops[i]? = some o) (hlm : (allF rm gl).testBit i = false)
    {gl' : Gh} (hsub : ∀ p v, (p, v) ∈ gl' → (p, v) ∈ gl ∧ onF p o.after.toList = false) (h : ssa = true ∨ apartG ops ops.toList o gl' = true) : ∀ p v, (p, v) ∈ gl' → ∃ q, ops[p]? = some q ∧ q.apart ops o = true ∧ o.apart ops q = true := by
  rcases h with h | h
  · intro p v hp
    obtain ⟨hp, hon⟩ := hsub p v hp
    have hs := hssa h
    obtain ⟨q, hq, _, hed, _, _⟩ := hx.inv.each p v hp
    have hpi : p ≠ i := fun e => by rw [e] at hp; rw [in_lm hp] at hlm; cases hlm
    have k1 : ∀ d, q.dst = some d → d ∉ o.looksAt ops := fun d hd hm => by
      rw [hs.wait p i q o d hq ho hd hm] at hon; cases hon
    have k2 : ∀ d, o.dst = some d → d ∉ q.looksAt ops := fun d hd hm => by
      obtain ⟨e, he, hb, hei⟩ := onF_bit.1 (hs.wait i p o q d ho hq hd hm)
      have := hed e he hb
      rw [hei] at this
      rw [allF_bit, this] at hlm; cases hlm
    exact ⟨q, hq, apart_mk k1 (fun d hd => hs.dst p i q o d hpi hq ho hd) k2, apart_mk k2 (fun d hd => hs.dst i p o q d (Ne.symm hpi) ho hq hd) k1⟩
  · exact apartG_ok h
theorem not_on {rl : Nat} {listed : Array Bool} {r : Rho} {a : Act} {w : World} (hx : Ctx P N g ops stable base r0 bar0 Q rm gl t st tf stf rl listed r a w) {o : Oper} (haf : afterF rm o.after.toList = true) : ∀ p v, (p, v) ∈ gl → (p, v) ∈ gl ∧ onF p o.after.toList = false := fun p v hp => by
  refine ⟨hp, ?_⟩
  cases hon : onF p o.after.toList
  · rfl
  · obtain ⟨e, he, hb, hep⟩ := onF_bit.1 hon
    have := afterF_bit.1 haf e he hb
    obtain ⟨_, _, _, _, k, _⟩ := hx.inv.each p v hp
    rw [hep, k] at this; cases this
theorem ghost_step (hsel : Region.noSelect ops = true) {ssa : Bool} (hssa : ssa = true → Ssa ops) {i : Nat} {o : Oper} {v : V} {cells : List C} {ty : TypeId} (ho : ops[i]? = some o) (b1 : (allF rm gl).testBit i = false) (haf : afterF rm o.after.toList = true)
    (hgh : ghostA L t (base + i) o = some (v, cells, ty)) (hap : ssa = true ∨ apartG ops ops.toList o gl = true) (hrv : base + i ∈ st.resv) {rl : Nat} {listed : Array Bool} {r : Rho} {a : Act} {w : World} (hx : Ctx P N g ops stable base r0 bar0 Q rm gl t st tf stf rl listed r a w) :
    (∃ r', Ctx P N g ops stable base r0 bar0 Q rm ((i, v) :: gl) (clrT t o.dst) { st with heap := hset st.heap (base + i) ⟨cells, ty, .own⟩, resv := st.resv.filter fun x => !Nat.beq x (base + i) } tf stf rl listed r' a w) ∧ cnt rl ((i, v) :: gl) = cnt rl gl + 1 := by
  have hrl : rl.testBit i = false := by
    cases hb : rl.testBit i
    · rfl
    · rw [hx.inv.all i hb] at b1; cases b1
  have hI := hx.mem
  have hfr : ∀ b, r (base + i) ≠ some b := fun b hb => (hI.fresh _ b hb).2 hrv
  have hnb : r.bar (base + i) = false := by
    cases hb : r.bar (base + i)
    · rfl
    · exact absurd hrv (hI.free _ hb).2
  obtain ⟨hgd, hGR⟩ := ghostA_ok (P := P) (g := g) hgh
  have hsub : Sub r { r with bar := fun n => r.bar n || decide (n = base + i) } := ⟨fun n b hb => ⟨hb, rfl, rfl, rfl⟩, rfl⟩
  have hnot : ∀ p v', (p, v') ∈ gl → p ≠ i := fun p v' hp e => by rw [e] at hp; rw [in_lm hp] at b1; cases b1
  have hapt := apart_of hssa hx ho b1 (not_on hx haf) hap
  have hrm : rm.testBit i = false := by
    rw [allF_bit, Bool.or_eq_false_iff] at b1; exact b1.1
  refine ⟨⟨{ r with bar := fun n => r.bar n || decide (n = base + i) }, hx.rep, ⟨hx.inv.sub, fun j hj => ?_, fun p v' hp => ?_, fun p v1 hp q v2 hq hne op oq hop hoq => ?_, fun k hk => ?_, fun k hk => ?_, fun p v' hp => ?_⟩, (hx.tr.clr _).sub hsub, fun p v' hp op d hop hd => ?_, ⟨?_, ?_, ?_, hI.lt, ?_, ?_, ?_⟩, hx.sub.trans hsub, hx.hold, fun a' w' r' k1 k2 k3 k4 => hx.cont a' w' r' k1 k2 k3 ⟨hsub.trans k4.sub, k4.new, k4.size, k4.frame, k4.os, k4.tape, k4.output⟩⟩, ?_⟩
  · rw [allF, sb_bit, hx.inv.all j hj]; rfl
  · rcases List.mem_cons.1 hp with e | hp
    · cases e
      refine ⟨o, ho, hgd, afterF_bit.1 haf, hrm, .inr ⟨hrl, by simp, ⟨cells, ty, .own⟩, by rw [hget_hset, if_pos rfl], ?_⟩⟩
      exact hGR N _ a (hx.tr.sub hsub)
    · obtain ⟨op, hop, k1, k2, k0, k3⟩ := hx.inv.each p v' hp
      refine ⟨op, hop, k1, k2, k0, ?_⟩
      rcases k3 with ⟨k3, u, k4, k5⟩ | ⟨k3, k4, bk, k5, k6⟩
      · exact .inl ⟨k3, u, k4.sub hsub, k5⟩
      · have hpi := hnot p v' hp
        refine .inr ⟨k3, by show (r.bar _ || _) = true; rw [k4]; rfl, bk, by rw [hget_hset, if_neg (by omega)]; exact k5, ?_⟩
        exact k6.put (ops := ops) (dst := none) hsub (fun cs b => Region.noSelect_spec hsel p op cs b hop) undef (fun d hd => by cases hd)
  · rcases List.mem_cons.1 hp with e | hp <;> rcases List.mem_cons.1 hq with e' | hq
    · cases e; cases e'; exact absurd rfl hne
    · cases e
      rw [ho] at hop; cases hop
      obtain ⟨x, hx1, hx2, hx3⟩ := hapt q v2 hq
      rw [hoq] at hx1; cases hx1
      exact hx3
    · cases e'
      rw [ho] at hoq; cases hoq
      obtain ⟨x, hx1, hx2, hx3⟩ := hapt p v1 hp
      rw [hop] at hx1; cases hx1
      exact hx2
    · exact hx.inv.pair p v1 hp q v2 hq hne op oq hop hoq
  · have hk : (r.bar k || decide (k = base + i)) = true := hk
    rw [Bool.or_eq_true, decide_eq_true_eq] at hk
    rcases hk with hk | hk
    · rcases hx.inv.bars1 k hk with k1 | ⟨p, v', k1, k2, k3⟩
      · exact .inl k1
      · exact .inr ⟨p, v', List.mem_cons_of_mem _ k1, k2, k3⟩
    · exact .inr ⟨i, v, List.mem_cons_self .., hk, hrl⟩
  · show (r.bar k || _) = true
    rw [hx.inv.bars2 k hk]; rfl
  · rcases List.mem_cons.1 hp with e | hp
    · cases e
      cases hb : bar0 (base + i)
      · rfl
      · rw [hx.inv.bars2 _ hb] at hnb; cases hnb
    · exact hx.inv.bar00 p v' hp
  · rcases List.mem_cons.1 hp with e | hp
    · cases e
      rw [ho] at hop; cases hop
      exact clrT_get.1 d hd
    · cases hz : (clrT t o.dst).get d with
      | none => rfl
      | some y =>
        have := clrT_get.2 d y hz
        rw [hx.abs p v' hp op d hop hd] at this; cases this
  · intro n bk b hn hb
    have hb : r n = some b := hb
    have hni : n ≠ base + i := fun e => hfr b (e ▸ hb)
    rw [hget_hset, if_neg hni] at hn
    exact (hI.holds n bk b hn hb).sub hsub hb
  · intro n k b hn hk hro h1' h2'
    have h1' : r n = some b := h1'
    have h2' : r k = some b := h2'
    have hn := (isSome_hset hn).resolve_left (fun e => hfr b (e ▸ h1'))
    have hk := (isSome_hset hk).resolve_left (fun e => hfr b (e ▸ h2'))
    exact hI.inj n k b hn hk hro h1' h2'
  · intro n b hb
    obtain ⟨f1, f2⟩ := hI.fresh n b hb
    exact ⟨f1, fun hm => f2 (List.mem_filter.1 hm).1⟩
  · intro n hn
    exact hI.rlt n (List.mem_filter.1 hn).1
  · intro n b hb
    have hb : r n = some b := hb
    show (r.bar n || decide (n = base + i)) = false
    rw [hI.nobar n b hb, decide_eq_false (fun e => by subst e; exact hfr b hb)]; rfl
  · intro n hn
    have hn : (r.bar n || decide (n = base + i)) = true := hn
    rw [Bool.or_eq_true, decide_eq_true_eq] at hn
    rcases hn with hn | rfl
    · obtain ⟨f1, f2⟩ := hI.free n hn
      exact ⟨f1, fun hm => f2 (List.mem_filter.1 hm).1⟩
    · refine ⟨hI.rlt _ hrv, fun hm => ?_⟩
      have := (List.mem_filter.1 hm).2
      simp at this
  · unfold cnt
    rw [List.filter_cons]
    simp [hrl]
theorem pure_step (hsel : Region.noSelect ops = true) (hok : opsOk N ops.toList = true) (hQp : ∀ c a w, ¬ Q (.panic c) a w) {ssa : Bool} (hssa : ssa = true → Ssa ops) {i : Nat} {o : Oper} {v : V} {st1 : St} (hget : ops[i]? = some o) (b1 : (allF rm gl).testBit i = false) (g1 : afterF rm o.after.toList = true)
    (g2 : ssa = true ∨ (freeF ops ops.toList rm i = true ∧ apartG ops ops.toList o gl = true)) (f2 : Same st st1) (f5 : ∀ N r0 r a w, TRel N g r t a → Sub r0 r → HoldsA g r0 stable w → ∃ u, v.Den g r u ∧ YieldsIf P ops (HoldsA g r0 stable) o u a)
    {rl : Nat} {listed : Array Bool} {r : Rho} {a : Act} {w : World} (hx : Ctx P N g ops stable base r0 bar0 Q rm gl t st tf stf rl listed r a w) {m : Nat}
    (hK : ∀ rl' listed' r' a' w', cnt rl' gl ≤ cnt rl gl → Ctx P N g ops stable base r0 bar0 Q (sb rm i) gl (putT t o.dst v) st1 tf stf rl' listed' r' a' w' → wpAnyH P .any ops Q (HoldsA g r0 stable) m listed' a' w') :
    wpAnyH P .any ops Q (HoldsA g r0 stable) (m + 1) listed a w := by
  have hlt := (Array.getElem?_eq_some_iff.1 hget).1
  have hrl : rl.testBit i = false := by
    cases hb : rl.testBit i
    · rfl
    · rw [hx.inv.all i hb] at b1; cases b1
  obtain ⟨u, hu, hy⟩ := f5 N r0 r a w hx.tr hx.sub hx.hold
  have hmem : o ∈ ops.toList := List.mem_of_getElem? (by rw [Array.getElem?_toList]; exact hget)
  have hnot : ∀ p v', (p, v') ∈ gl → p ≠ i := fun p v' hp e => by rw [e] at hp; rw [in_lm hp] at b1; cases b1
  have hed : ∀ e ∈ o.after.toList, Region.binds .any e = true → rl.testBit e.on = true := fun e he hb => hx.inv.sub _ (afterF_bit.1 g1 e he hb)
  have hin : i ∈ Region.ready .any ops listed := (ready_bits hx.rep).2 ⟨hrl, o, hget, hed⟩
  have hle : ∀ j, rl.testBit j = true → (sb rl i).testBit j = true := fun j hj => by rw [sb_bit, hj]; rfl
  have hfree : Region.free .any ops listed i = true := by
    rcases g2 with h | ⟨h, _⟩
    · exact ssa_free (hssa h) hx.rep hget hed
    · exact freeF_ok hx.rep (freeF_mono hx.inv.sub h)
  have g3 := apart_of hssa hx hget b1 (not_on hx g1) (g2.imp id (fun h => h.2))
  refine wpAnyH_take hget hsel hfree (by simpa using hin) (fun c a w h => absurd h (hQp c _ w)) hy hx.hold ?_
  refine hK (sb rl i) _ r (a.put o.dst u) w (cnt_le hle gl) ⟨hx.rep.set hlt, ⟨fun j hj => ?_, fun j hj => ?_, fun p v' hp => ?_, hx.inv.pair, fun k hk => ?_, hx.inv.bars2, hx.inv.bar00⟩, hx.tr.put (opsOk_get hok hmem) hu, fun p v' hp op d hop hd => ?_, hx.mem.same f2, hx.sub, hx.hold, hx.cont⟩
  · rw [sb_bit, Bool.or_eq_true] at hj ⊢
    rcases hj with hj | hj
    · exact .inl (hx.inv.sub j hj)
    · exact .inr hj
  · rw [allF_bit, sb_bit]
    rw [sb_bit, Bool.or_eq_true] at hj
    rcases hj with hj | hj
    · have := hx.inv.all j hj
      rw [allF_bit] at this
      revert this
      cases rm.testBit j <;> cases decide (i = j) <;> simp
    · rw [hj]; simp
  · obtain ⟨op, hop, k1, k2, k0, k3⟩ := hx.inv.each p v' hp
    refine ⟨op, hop, k1, fun e he hb => by rw [sb_bit, k2 e he hb]; rfl, by rw [sb_bit, k0, decide_eq_false (Ne.symm (hnot p v' hp))]; rfl, ?_⟩
    obtain ⟨x, hx1, hx2, _⟩ := g3 p v' hp
    rw [hop] at hx1; cases hx1
    have hap := Oper.apart_spec hx2
    rcases k3 with ⟨k3, y, k4, k5⟩ | ⟨k3, k4, bk, k5, k6⟩
    · exact .inl ⟨hle p k3, y, k4, fun d hd => by rw [put_get (hap.2.1 d hd)]; exact k5 d hd⟩
    · refine .inr ⟨by rw [sb_bit, k3, decide_eq_false (Ne.symm (hnot p v' hp))]; rfl, k4, bk, by rw [f2.heap]; exact k5, k6.put (Sub.refl _) (fun cs b => Region.noSelect_spec hsel p op cs b hop) _ hap.2.2⟩
  · rcases hx.inv.bars1 k hk with k1 | ⟨p, v', k1, k2, k3⟩
    · exact .inl k1
    · exact .inr ⟨p, v', k1, k2, by rw [sb_bit, k3, decide_eq_false (Ne.symm (hnot p v' k1))]; rfl⟩
  · obtain ⟨x, hx1, hx2, _⟩ := g3 p v' hp
    rw [hop] at hx1; cases hx1
    have hap := Oper.apart_spec hx2
    exact putT_none (fun e he => (opsOk_get hok hmem e he).2) (hap.2.1 d hd) (hx.abs p v' hp op d hop hd)
end
theorem sweep_ok (hN : NamesOk P X) {N : Nat} {ops : Array Oper} (hok : opsOk N ops.toList = true) (hsel : Region.noSelect ops = true) {ssa : Bool} (hssa : ssa = true → Ssa ops)
    {stable : List (Nat × Bk)} {base : Nat} {r0 : Rho} {bar0 : Nat → Bool} {Q : Exit → Act → World → Prop} (hQp : ∀ c a w, ¬ Q (.panic c) a w) {tf : T} {stf : St} :
    ∀ (l : List Oper) (i n rm : Nat) (gl : Gh) (t : T) (st : St) (n1 rm1 : Nat) (gl1 : Gh) (t1 : T) (st1 : St), (∀ j, j < l.length → ops[i + j]? = l[j]?) → sweep L U X ops ops.toList base ssa stable l i n rm gl t st = (n1, rm1, gl1, t1, st1) → Good U g st1 →
      Good U g st ∧ ∀ rl listed r a w, Ctx P N g ops stable base r0 bar0 Q rm gl t st tf stf rl listed r a w → ∀ m, n + cnt rl gl ≤ m →
        (∀ rl listed r a w, Ctx P N g ops stable base r0 bar0 Q rm1 gl1 t1 st1 tf stf rl listed r a w → ∀ m, n1 + cnt rl gl1 ≤ m → wpAnyH P .any ops Q (HoldsA g r0 stable) m listed a w) → wpAnyH P .any ops Q (HoldsA g r0 stable) m listed a w
  | [], i, n, rm, gl, t, st, n1, rm1, gl1, t1, st1, _, h, hg => by
    simp only [sweep, Prod.mk.injEq] at h
    obtain ⟨rfl, rfl, rfl, rfl, rfl⟩ := h
    exact ⟨hg, fun rl listed r a w hx m hm hK => hK rl listed r a w hx m hm⟩
  | o :: l, i, n, rm, gl, t, st, n1, rm1, gl1, t1, st1, hl, h, hg => by
    have hl' : ∀ j, j < l.length → ops[i + 1 + j]? = l[j]? := fun j hj => by have := hl (j + 1) (by simp; omega); simpa [Nat.add_assoc, Nat.add_comm 1 j] using this
    have ho : ops[i]? = some o := by simpa using hl 0 (by simp)
    unfold sweep at h
    rw [tb_eq] at h
    cases hb : (allF rm gl).testBit i
    · rw [hb, cond_false] at h
      cases haf : afterF rm o.after.toList
      · rw [haf, cond_false] at h
        exact sweep_ok hN hok hsel hssa hQp l (i + 1) n rm gl t st n1 rm1 gl1 t1 st1 hl' h hg
      · rw [haf, cond_true] at h
        split at h
        · cases h
          exact ⟨hg, fun rl listed r a w hx m hm hK => hK rl listed r a w hx m hm⟩
        · rename_i k
          split at h
          · rename_i v t' st' ht
            obtain ⟨h1, h2⟩ := sweep_ok hN hok hsel hssa hQp (stable := stable) (base := base) (r0 := r0) (bar0 := bar0) (Q := Q) (tf := tf) (stf := stf) l (i + 1) _ _ _ _ _ n1 rm1 gl1 t1 st1 hl' h hg
            rcases takeOne_ok hN ht h1 with ⟨_, cells, ty, k1, k2, k3, rfl, rfl⟩ | ⟨k0, _⟩
            · refine ⟨⟨h1.defs, h1.cs, h1.ci, h1.rg, h1.ok⟩, fun rl listed r a w hx m hm hK => ?_⟩
              obtain ⟨⟨r', hx'⟩, hcn⟩ := ghost_step hsel hssa ho hb haf k1 k2 k3 hx
              exact h2 rl listed r' a w hx' m (by omega) hK
            · cases k0
          · rename_i v t' st' ht
            obtain ⟨h1, h2⟩ := sweep_ok hN hok hsel hssa hQp (stable := stable) (base := base) (r0 := r0) (bar0 := bar0) (Q := Q) (tf := tf) (stf := stf) l (i + 1) _ _ _ _ _ n1 rm1 gl1 t1 st1 hl' h hg
            rcases takeOne_ok hN ht h1 with ⟨k0, _⟩ | ⟨_, k1, k2, rfl, k3, k4⟩
            · cases k0
            · refine ⟨k1, fun rl listed r a w hx m hm hK => ?_⟩
              cases m with
              | zero => omega
              | succ m =>
                exact pure_step hsel hok hQp hssa ho hb haf k3 k2 k4 hx fun rl' listed' r' a' w' hle hx' => h2 rl' listed' r' a' w' hx' m (by omega) hK
          · exact sweep_ok hN hok hsel hssa hQp l (i + 1) _ rm gl t st n1 rm1 gl1 t1 st1 hl' h hg
    · rw [hb, cond_true] at h
      exact sweep_ok hN hok hsel hssa hQp l (i + 1) n rm gl t st n1 rm1 gl1 t1 st1 hl' h hg
theorem explore_ok (hN : NamesOk P X) {call : FuncId → List V → St → Option (V × St)} (hc : CallOk P U g call) {N : Nat} {ops : Array Oper} (hok : opsOk N ops.toList = true) (hsel : Region.noSelect ops = true) {ssa : Bool} (hssa : ssa = true → Ssa ops)
    {stable : List (Nat × Bk)} {base : Nat} {r0 : Rho} {bar0 : Nat → Bool} {Q : Exit → Act → World → Prop} (hQp : ∀ c a w, ¬ Q (.panic c) a w) :
    ∀ (f n : Nat) (rm : Nat) (gl : Gh) (t tf : T) (st stf : St), explore L U X call ops ops.toList ssa stable base f n rm gl t st = some (tf, stf) → Good U g stf →
      Good U g st ∧ ∀ rl listed r a w, Ctx P N g ops stable base r0 bar0 Q rm gl t st tf stf rl listed r a w → ∀ m, n + cnt rl gl ≤ m → wpAnyH P .any ops Q (HoldsA g r0 stable) m listed a w
  | 0, n, rm, gl, t, tf, st, stf, h, hg => by simp [explore] at h
  | f + 1, n, rm, gl, t, tf, st, stf, h, hg => by
    unfold explore at h
    split at h
    rename_i n1 rm1 gl1 t1 st1 hsw
    cases hlt : Nat.blt n1 n
    case true =>
      rw [hlt, cond_true] at h
      obtain ⟨h1, h2⟩ := explore_ok hN hc hok hsel hssa (r0 := r0) (bar0 := bar0) hQp f n1 rm1 gl1 t1 tf st1 stf h hg
      obtain ⟨h3, h4⟩ := sweep_ok hN hok hsel hssa hQp (stable := stable) (base := base) (r0 := r0) (bar0 := bar0) (Q := Q) (tf := tf) (stf := stf) ops.toList 0 n rm gl t st n1 rm1 gl1 t1 st1 (fun j _ => by simp) hsw h1
      exact ⟨h3, fun rl listed r a w hx m hm => h4 rl listed r a w hx m hm h2⟩
    rw [hlt, cond_false] at h
    split at h
    · rename_i hr
      cases h
      exact ⟨hg, fun rl listed r a w hx m hm => finish hsel hok hr rfl rfl hx m (by omega)⟩
    · rename_i rs hne
      split at h
      · cases h
      · rename_i n
        obtain ⟨⟨i0, hi0, hb0⟩, hall⟩ := allSame_ok h
        -- one branch
        have branch : ∀ i acc, (match lkL ops.toList i with
            | none => none
            | some o => bif (bif ssa then true else apartG ops ops.toList o (restG o gl)) then (match wantedA ops.toList (putG ops.toList t (waitsG o gl)) o (startOf st acc) with
              | some (true, st0) => (match stepOp L U X call (putG ops.toList t (waitsG o gl)) (some (base + i)) o.op st0 with
                | some (v, st') => bif keepsB st'.heap stable && keepG base st.heap st'.heap (restG o gl) then explore L U X call ops ops.toList ssa stable base f n (sb (allF rm (waitsG o gl)) i) (restG o gl) (putT (putG ops.toList t (waitsG o gl)) o.dst v) st' else none
                | none => none)
              | _ => none) else none) = some (tf, stf) → Good U g (startOf st acc) ∧ ∀ rl listed r a w, Ctx P N g ops stable base r0 bar0 Q rm gl t st tf stf rl listed r a w → i ∈ Region.ready .any ops listed → (allF rm gl).testBit i = false →
                ∀ m, n + 1 + cnt rl gl ≤ m + 1 → wpOp P ops Q i (fun a' w' => HoldsA g r0 stable w' ∧ wpAnyH P .any ops Q (HoldsA g r0 stable) m (listed.setIfInBounds i true) a' w') a w := by
          intro i acc hb
          split at hb
          · cases hb
          · rename_i o ho
            have hget : ops[i]? = some o := toList_get ho
            have hlt := (Array.getElem?_eq_some_iff.1 hget).1
            have hmem : o ∈ ops.toList := List.mem_of_getElem? (by rw [Array.getElem?_toList]; exact hget)
            cases hap : (bif ssa then true else apartG ops ops.toList o (restG o gl))
            · rw [hap] at hb; cases hb
            · rw [hap, cond_true] at hb
              split at hb
              · rename_i st0 hw
                split at hb
                · rename_i v st1 hs1
                  cases hk : (keepsB st1.heap stable && keepG base st.heap st1.heap (restG o gl))
                  · rw [hk] at hb; cases hb
                  · rw [hk, cond_true] at hb
                    rw [Bool.and_eq_true] at hk
                    obtain ⟨hk, hkg⟩ := hk
                    obtain ⟨h1, h2⟩ := explore_ok hN hc hok hsel hssa (r0 := r0) (bar0 := bar0) hQp f n _ _ _ _ _ _ hb hg
                    obtain ⟨s1, s2⟩ := step_ok hN hc hs1 h1
                    obtain ⟨w1, w2, w3⟩ := wanted_ok hw s1
                    refine ⟨w1, fun rl listed r a w hx hin hlm m hm => ?_⟩
                    obtain ⟨b1, o', ho', b3⟩ := (ready_bits hx.rep).1 hin
                    rw [hget] at ho'; cases ho'
                    have hnot : ∀ p v', (p, v') ∈ gl → p ≠ i := fun p v' hp e => by rw [e] at hp; rw [in_lm hp] at hlm; cases hlm
                    have hapt := apart_of hssa hx hget hlm (gl' := restG o gl) (fun p v hp => mem_restG.1 hp) (by cases ssa; exact .inr hap; exact .inl rfl)
                    have hwl : ∀ p v', (p, v') ∈ waitsG o gl → rl.testBit p = true := fun p v' hp => by
                      obtain ⟨e, he, hb, he2⟩ := onF_bit.1 (mem_waitsG.1 hp).2
                      rw [← he2]; exact b3 e he hb
                    have hT1 : TRel N g r (putG ops.toList t (waitsG o gl)) a := putG_T hok hx.tr fun p v' hp => by
                      obtain ⟨op, hop, _, _, _, hcase⟩ := hx.inv.each p v' (mem_waitsG.1 hp).1
                      rcases hcase with ⟨_, k⟩ | ⟨k, _⟩
                      · exact ⟨op, hop, k⟩
                      · rw [hwl p v' hp] at k; cases k
                    have hle : ∀ j, rl.testBit j = true → (sb rl i).testBit j = true := fun j hj => by rw [sb_bit, hj]; rfl
                    have hcl := Nat.le_trans (cnt_rest (rl := sb rl i) o gl) (cnt_le hle gl)
                    unfold wpOp
                    simp only [hget, w3 N r a hT1, if_true]
                    refine .inl (s2 N r a w hT1 ((hx.mem.same (startOf_same st acc)).same w2) o rfl _ _ fun u r' w' hd hI' hE => ?_)
                    have hH' := holds_keep hk hx.hold (hx.sub.trans hE.sub) hI'.holds
                    refine ⟨hH', h2 (sb rl i) _ r' (a.put o.dst u) w' ⟨hx.rep.set hlt, ⟨fun j hj => ?_, fun j hj => ?_, fun p v' hp => ?_, fun p v1 hp q v2 hq => hx.inv.pair p v1 (mem_restG.1 hp).1 q v2 (mem_restG.1 hq).1, fun k hkb => ?_, fun k hkb => by rw [hE.bar]; exact hx.inv.bars2 k hkb, fun p v' hp => hx.inv.bar00 p v' (mem_restG.1 hp).1⟩, (hT1.sub hE.sub).put (opsOk_get hok hmem) hd, fun p v' hp op d hop hdd => ?_, hI', hx.sub.trans hE.sub, hH', fun a' w'' r'' k1 k2 k3 k4 => hx.cont a' w'' r'' k1 k2 k3 (hE.n.trans k4)⟩ m (by omega)⟩
                    · rw [sb_bit, Bool.or_eq_true, allF_bit, Bool.or_eq_true] at hj
                      rcases hj with (hj | hj) | hj
                      · exact hle j (hx.inv.sub j hj)
                      · obtain ⟨⟨p, v'⟩, hp, he⟩ := List.any_eq_true.1 hj
                        have he : p = j := by simpa using he
                        subst he
                        exact hle p (hwl p v' hp)
                      · rw [sb_bit, hj, Bool.or_true]
                    · rw [sb_bit, Bool.or_eq_true] at hj
                      rw [allF_bit, sb_bit, allF_bit]
                      rcases hj with hj | hj
                      · have hj2 := hx.inv.all j hj
                        rw [allF_bit, Bool.or_eq_true] at hj2
                        rcases hj2 with hj2 | hj2
                        · rw [hj2]; simp
                        · obtain ⟨⟨p, v'⟩, hp, he⟩ := List.any_eq_true.1 hj2
                          cases hon : onF p o.after.toList
                          · have : (restG o gl).any (fun x => x.1 == j) = true := List.any_eq_true.2 ⟨(p, v'), mem_restG.2 ⟨hp, hon⟩, he⟩
                            rw [this]; simp
                          · have : (waitsG o gl).any (fun x => x.1 == j) = true := List.any_eq_true.2 ⟨(p, v'), mem_waitsG.2 ⟨hp, hon⟩, he⟩
                            rw [this]; simp
                      · rw [hj]; simp
                    · obtain ⟨op, hop, k1, k2, k0, k3⟩ := hx.inv.each p v' (mem_restG.1 hp).1
                      refine ⟨op, hop, k1, fun e he hb => by rw [sb_bit, allF_bit, k2 e he hb]; rfl, ?_, ?_⟩
                      · have hno : (waitsG o gl).any (fun x => x.1 == p) = false := by
                          cases ha : (waitsG o gl).any (fun x => x.1 == p)
                          · rfl
                          · obtain ⟨⟨p', v2⟩, hp', he'⟩ := List.any_eq_true.1 ha
                            have he' : p' = p := by simpa using he'
                            subst he'
                            have h1 := (mem_waitsG.1 hp').2
                            rw [(mem_restG.1 hp).2] at h1; cases h1
                        rw [sb_bit, allF_bit, k0, hno, decide_eq_false (Ne.symm (hnot p v' (mem_restG.1 hp).1))]; rfl
                      obtain ⟨x, hx1, hx2, _⟩ := hapt p v' hp
                      rw [hop] at hx1; cases hx1
                      have hap' := Oper.apart_spec hx2
                      rcases k3 with ⟨k3, y, k4, k5⟩ | ⟨k3, k4, bk, k5, k6⟩
                      · exact .inl ⟨hle p k3, y, k4.sub hE.sub, fun d hd => by rw [put_get (hap'.2.1 d hd)]; exact k5 d hd⟩
                      · obtain ⟨b, z1, z2⟩ := keepG_ok hkg p v' hp
                        rw [k5] at z1; cases z1
                        exact .inr ⟨by rw [sb_bit, k3, decide_eq_false (Ne.symm (hnot p v' (mem_restG.1 hp).1))]; rfl, by rw [hE.bar]; exact k4, bk, z2, k6.put hE.sub (fun cs b => Region.noSelect_spec hsel p op cs b hop) _ hap'.2.2⟩
                    · rw [hE.bar] at hkb
                      rcases hx.inv.bars1 k hkb with k1 | ⟨p, v', k1, k2, k3⟩
                      · exact .inl k1
                      · refine .inr ⟨p, v', mem_restG.2 ⟨k1, ?_⟩, k2, by rw [sb_bit, k3, decide_eq_false (Ne.symm (hnot p v' k1))]; rfl⟩
                        cases hon : onF p o.after.toList
                        · rfl
                        · rw [hwl p v' (mem_waitsG.2 ⟨k1, hon⟩)] at k3; cases k3
                    · obtain ⟨x, hx1, hx2, _⟩ := hapt p v' hp
                      rw [hop] at hx1; cases hx1
                      have hap' := Oper.apart_spec hx2
                      refine putT_none (fun e he => (opsOk_get hok hmem e he).2) (hap'.2.1 d hdd) ?_
                      have hpg := (mem_restG.1 hp).1
                      have hon := (mem_restG.1 hp).2
                      refine putG_none hok (fun q v2 hq op2 hop2 => ?_) (hx.abs p v' hpg op d hop hdd)
                      have hne : q ≠ p := fun e => by rw [e] at hq; rw [(mem_waitsG.1 hq).2] at hon; cases hon
                      exact (Oper.apart_spec (hx.inv.pair p v' hpg q v2 (mem_waitsG.1 hq).1 (Ne.symm hne) op op2 hop hop2)).2.1 d hdd
                · cases hb
              · cases hb
        have hgst := (branch i0 none hb0).1
        refine ⟨hgst, fun rl listed r a w hx m hm => ?_⟩
        refine ghost_ind (n0 := n + 1) hsel hok ?_ ?_ (fun h => by omega) (cnt rl gl) rl listed r a w hx (Nat.le_refl _) m hm
        · intro rl listed r a w hx i hi hb m hm
          obtain ⟨_, o, k2, k3⟩ := (ready_bits hx.rep).1 hi
          have hin : i ∈ readyF (allF rm gl) 0 ops.toList := (mem_readyF hx.high).2 ⟨hb, o, k2, fun e he hb => hx.inv.all _ (k3 e he hb)⟩
          rcases hall i hin with h' | h'
          · exact (branch i none h').2 rl listed r a w hx hi hb m hm
          · exact (branch i _ h').2 rl listed r a w hx hi hb m hm
        · intro rl listed r a w hx h0 hr
          exfalso
          have hh := hx.high
          have : ∃ i, i ∈ readyF (allF rm gl) 0 ops.toList := ⟨i0, hi0⟩
          obtain ⟨i, hi⟩ := this
          obtain ⟨k1, o, k2, k3⟩ := (mem_readyF hh).1 hi
          have hback : ∀ j, (allF rm gl).testBit j = true → rl.testBit j = true := fun j hj => by
            cases hb : rl.testBit j
            · obtain ⟨v, hv⟩ := lm_of hx hb hj
              rw [cnt_zero h0 j v hv] at hb; cases hb
            · rfl
          have hrl : rl.testBit i = false := by
            cases hb : rl.testBit i
            · rfl
            · rw [hx.inv.all i hb] at k1; cases k1
          have : i ∈ Region.ready .any ops listed := (ready_bits hx.rep).2 ⟨hrl, o, k2, fun e he hb => hback _ (k3 e he hb)⟩
          rw [hr] at this; cases this
/-- What a region's loads read has a name that counts. -/
theorem rootOf_ok {opl : List Oper} {t : T} {N : Nat} {r : Rho} {a : Act} (hT : TRel N g r t a) : ∀ {n : Nat} {x : Operand} {m : Nat}, rootOf opl t n x = some m → ∃ b, r m = some b
  | 0, x, m, h => by simp [rootOf] at h
  | n + 1, .tmp i, m, h => by
    rw [rootOf] at h
    split at h
    · rename_i o _
      split at h
      · exact rootOf_ok hT h
      · exact rootOf_ok hT h
      · exact rootOf_ok hT h
      · exact rootOf_ok hT h
      · exact rootOf_ok hT h
      · exact rootOf_ok hT h
      · cases h
    · split at h
      · rename_i k o hv
        cases h
        obtain ⟨u, _, hd⟩ := hT.get _ _ hv
        obtain ⟨q, hq, _⟩ := den_p hd
        exact ⟨q, hq⟩
      · rename_i k o l c hv
        cases h
        obtain ⟨u, _, hd⟩ := hT.get _ _ hv
        obtain ⟨q, _, hq, _⟩ := den_sl rfl hd
        exact ⟨q, hq⟩
      · rename_i k o l c hv
        cases h
        obtain ⟨u, _, hd⟩ := hT.get _ _ hv
        obtain ⟨q, _, hq, _⟩ := den_sl rfl hd
        exact ⟨q, hq⟩
      · cases h
  | n + 1, .const v, m, h => by simp [rootOf] at h
  | n + 1, .func v, m, h => by simp [rootOf] at h
theorem loadsOf_ok {opl : List Oper} {t : T} {ws : List Nat} {h : List (Nat × Bk)} {N : Nat} {r : Rho} {a : Act} (hT : TRel N g r t a) : ∀ {l : List Oper} {n : Nat} {bk : Bk}, hget (loadsOf opl t ws h l) n = some bk → ∃ b, r n = some b
  | [], n, bk, hn => by simp [loadsOf, hget] at hn
  | o :: l, n, bk, hn => by
    unfold loadsOf at hn
    split at hn
    · split at hn
      · rename_i m hm
        cases hc : ws.contains m
        · rw [hc] at hn
          simp only [cond_false] at hn
          split at hn
          · rw [hget_hset] at hn
            split at hn
            · rename_i e
              subst e
              exact rootOf_ok hT hm
            · exact loadsOf_ok hT hn
          · exact loadsOf_ok hT hn
        · rw [hc] at hn
          exact loadsOf_ok hT hn
      · exact loadsOf_ok hT hn
    · exact loadsOf_ok hT hn
theorem keepsB_holds {stable heap : List (Nat × Bk)} (hk : keepsB heap stable = true) {r : Rho} (hr : ∀ n bk, hget stable n = some bk → ∃ b, r n = some b) {w : World} (h : Holds g r heap w) : HoldsA g r stable w := fun n bk hn => by
  obtain ⟨b, hb⟩ := hr n bk hn
  exact ⟨b, hb, h n bk b (keepsB_get hk n bk hn) hb⟩
/-- Behind a piece of code. -/
def Post (N : Nat) (g : Sg) (e0 : Exit) (t : T) (st : St) (r : Rho) (w : World) : Exit → Act → World → Prop := fun e a' w' => e = e0 ∧ ∃ r', TRel N g r' t a' ∧ Inv g r' st w' ∧ Ext r w r' w'
theorem drawRun_ok (hN : NamesOk P X) (hmix : P.follows .mixedOrders = true) {call : FuncId → List V → St → Option (V × St)} (hc : CallOk P U g call) {N : Nat} {ops : Array Oper} (hok : opsOk N ops.toList = true) {t t' : T} {st st' : St}
    (h : drawRun L U X call ops t st = some (t', st')) (hg : Good U g st') (id : Nat) :
    Good U g st ∧ ∀ r a w, TRel N g r t a → Inv g r st w → (Code.region id ops true).wp P (Post N g .normal t' st' r w) a w := by
  unfold drawRun at h
  generalize hsx : loadsOf ops.toList t (writesOf L ops.toList t ops.toList) st.heap ops.toList = stable at h
  dsimp only at h
  rw [hsx] at h
  cases hk : (keepsB st.heap stable && Region.noSelect ops)
  · rw [hk] at h; cases h
  · rw [hk] at h
    simp only [cond_true] at h
    rw [Bool.and_eq_true] at hk
    obtain ⟨hk, hsel⟩ := hk
    split at h
    · rename_i t1 st1 he
      cases hres : st.resv.all (fun n => st1.resv.contains n)
      · rw [hres] at h; cases h
      · rw [hres] at h
        simp only [cond_true] at h
        cases h
        have hg1 : Good U g st1 := ⟨hg.defs, hg.cs, hg.ci, hg.rg, hg.ok⟩
        have hres : ∀ n, n ∈ st.resv → n ∈ st1.resv := fun n hn => by
          rw [List.all_eq_true] at hres
          simpa using hres n hn
        refine ⟨(fun h : Good U g _ => ⟨h.defs, h.cs, h.ci, h.rg, h.ok⟩) (explore_ok (r0 := rho0 default) (bar0 := fun _ => false) (Q := fun _ _ _ => False) hN hc hok hsel ssaOk_ok (fun _ _ _ h => h) _ _ _ _ _ _ _ _ he hg1).1, fun r a w hT hI => ?_⟩
        obtain ⟨_, h2⟩ := explore_ok (r0 := r) (bar0 := r.bar) (Q := Post N g .normal t' { st1 with resv := st.resv } r w) hN hc hok hsel ssaOk_ok (fun _ _ _ h => by cases h.1) _ _ _ _ _ _ _ _ he hg1
        refine wp_region_held hmix (S := HoldsA g r stable) ?_
        have hI' : Inv g r { st with next := st.next + ops.size, resv := upTo st.next ops.size ++ st.resv } { w with drawn := w.drawn + 1 } := by
          refine ⟨hI.drew.holds, hI.inj, fun n b hb => ?_, hI.lt, fun n hn => ?_, hI.nobar, fun n hb => ?_⟩
          · obtain ⟨f1, f2⟩ := hI.fresh n b hb
            refine ⟨by show n < st.next + ops.size; omega, fun hn => ?_⟩
            rcases List.mem_append.1 hn with hn | hn
            · have := mem_upTo hn; omega
            · exact f2 hn
          · rcases List.mem_append.1 hn with hn | hn
            · exact (mem_upTo hn).2
            · have := hI.rlt n hn
              show n < st.next + ops.size; omega
          · obtain ⟨f1, f2⟩ := hI.free n hb
            refine ⟨by show n < st.next + ops.size; omega, fun hn => ?_⟩
            rcases List.mem_append.1 hn with hn | hn
            · have := mem_upTo hn; omega
            · exact f2 hn
        refine h2 0 _ r a _ ⟨repL_zero _, ⟨fun i hi => hi, fun i hi => by simp at hi, fun p v hp => (by cases hp), fun p v hp => (by cases hp), fun n hn => .inl hn, fun n hn => hn, fun p v hp => (by cases hp)⟩, hT, fun p v hp => (by cases hp), hI', Sub.refl _, keepsB_holds hk (fun n bk hn => loadsOf_ok hT (hsx ▸ hn)) hI'.holds, fun a' w' r' hT' hI'' hb hE => ⟨rfl, r', hT', ?_, (hE.ext hb).drew⟩⟩ ops.size (by simp [cnt])
        exact ⟨hI''.holds, hI''.inj, fun n b hb => ⟨(hI''.fresh n b hb).1, fun hn => (hI''.fresh n b hb).2 (hres n hn)⟩, hI''.lt, fun n hn => hI''.rlt n (hres n hn), hI''.nobar, fun n hb => ⟨(hI''.free n hb).1, fun hn => (hI''.free n hb).2 (hres n hn)⟩⟩
    · cases h
end
end Go.Proofs.Ytdleeeahonfnkaa.SX

/- SxT -/
namespace Go.Proofs.Ytdleeeahonfnkaa.SX
open Go
section
variable {U : Nat → List Int → Int} {g : Sg}
theorem selA_ok {c : Nat} {a b r : A} {st st' : St} (h : selA U c a b st = (r, st')) (hg : Good U g st') :
    Good U g st ∧ Same st st' ∧ r.val g = (bif ieq (g c) 1 then a.val g else b.val g) := by
  unfold selA at h
  cases hb : A.beq a b
  · rw [hb, cond_false] at h
    obtain ⟨h1, h2, h3⟩ := app_ok h hg
    exact ⟨h1, h2, h3⟩
  · rw [hb] at h
    cases h
    refine ⟨hg, Same.refl _, ?_⟩
    rw [A.beq_eq hb]; cases ieq (g c) 1 <;> rfl
theorem isOne_ok {a : A} (h : isOne a = true) : ieq (a.val g) 1 = true := by cases a <;> simp_all [isOne, A.val]
theorem isNought_ok {a : A} (h : isNought a = true) : ieq (a.val g) 1 = false := by cases a <;> simp_all [isNought, A.val]
theorem selB_ok {c : Nat} {a b r : A} {st st' : St} (h : selB U c a b st = (r, st')) (hg : Good U g st') :
    Good U g st ∧ Same st st' ∧ ieq (r.val g) 1 = (bif ieq (g c) 1 then ieq (a.val g) 1 else ieq (b.val g) 1) := by
  unfold selB at h
  cases hb : A.beq a b
  · rw [hb, cond_false] at h
    cases h1 : (isOne a && isNought b)
    · rw [h1, cond_false] at h
      cases h2 : (isNought a && isOne b)
      · rw [h2, cond_false] at h
        obtain ⟨k1, k2, k3⟩ := app_ok h hg
        refine ⟨k1, k2, ?_⟩
        rw [k3]
        simp only [List.map, mean]
        show ieq (bif ieq (g c) 1 then a.val g else b.val g) 1 = _
        cases ieq (g c) 1 <;> rfl
      · rw [h2, cond_true] at h
        rw [Bool.and_eq_true] at h2
        obtain ⟨k1, k2, k3⟩ := app_ok h hg
        refine ⟨k1, k2, ?_⟩
        rw [k3, isNought_ok (g := g) h2.1, isOne_ok (g := g) h2.2]
        simp only [List.map, mean, ieq_b2i]
        show (!ieq (g c) 1) = _
        cases ieq (g c) 1 <;> rfl
    · rw [h1, cond_true] at h
      rw [Bool.and_eq_true] at h1
      cases h
      refine ⟨hg, Same.refl _, ?_⟩
      rw [isOne_ok (g := g) h1.1, isNought_ok (g := g) h1.2]
      show ieq (g c) 1 = _
      cases ieq (g c) 1 <;> rfl
  · rw [hb] at h
    cases h
    refine ⟨hg, Same.refl _, ?_⟩
    rw [A.beq_eq hb]; cases ieq (g c) 1 <;> rfl
theorem selC_ok {c : Nat} {x y z : C} {st st' : St} (h : selC U c x y st = some (z, st')) (hg : Good U g st') :
    Good U g st ∧ Same st st' ∧ ∀ r, z.den g r = (bif ieq (g c) 1 then x else y).den g r := by
  unfold selC at h
  split at h
  · rename_i a b
    split at h
    rename_i rr st1 hs
    cases h
    obtain ⟨h1, h2, h3⟩ := selB_ok hs hg
    refine ⟨h1, h2, fun r => ?_⟩
    simp only [C.den, h3]
    cases ieq (g c) 1 <;> rfl
  · rename_i k a k' b
    split at h
    · rename_i hk
      subst hk
      split at h
      rename_i rr st1 hs
      cases h
      obtain ⟨h1, h2, h3⟩ := selA_ok hs hg
      refine ⟨h1, h2, fun r => ?_⟩
      simp only [C.den, h3]
      cases ieq (g c) 1 <;> rfl
    · cases h
  · split at h
    · rename_i hxy
      cases h
      refine ⟨hg, Same.refl _, fun r => ?_⟩
      rw [hxy]; cases ieq (g c) 1 <;> rfl
    · cases h
theorem selL_ok {c : Nat} : ∀ {l m z : List C} {st st' : St}, selL U c l m st = some (z, st') → Good U g st' →
    Good U g st ∧ Same st st' ∧ ∀ r, z.map (C.den g r) = (bif ieq (g c) 1 then l else m).map (C.den g r)
  | [], [], z, st, st', h, hg => by
    simp [selL] at h
    obtain ⟨rfl, rfl⟩ := h
    exact ⟨hg, Same.refl _, fun r => by cases ieq (g c) 1 <;> rfl⟩
  | x :: l, y :: m, z, st, st', h, hg => by
    unfold selL at h
    split at h
    · rename_i q st1 h1
      split at h
      · rename_i qs st2 h2
        cases h
        obtain ⟨k1, k2, k3⟩ := selL_ok h2 hg
        obtain ⟨l1, l2, l3⟩ := selC_ok h1 k1
        refine ⟨l1, l2.trans k2, fun r => ?_⟩
        have e1 := k3 r
        have e2 := l3 r
        cases hc : ieq (g c) 1
        · rw [hc] at e1 e2; simp only [cond_false] at e1 e2 ⊢; rw [List.map_cons, List.map_cons, e1, e2]
        · rw [hc] at e1 e2; simp only [cond_true] at e1 e2 ⊢; rw [List.map_cons, List.map_cons, e1, e2]
      · cases h
    · cases h
  | [], _ :: _, _, _, _, h, _ => by simp [selL] at h
  | _ :: _, [], _, _, _, h, _ => by simp [selL] at h
theorem selL_den {c : Nat} {l m z : List C} (h : ∀ r, z.map (C.den g r) = (bif ieq (g c) 1 then l else m).map (C.den g r)) {r : Rho} {vs : List Value} :
    DL g r (bif ieq (g c) 1 then l else m) vs → DL g r z vs := fun hd => by unfold DL at *; rw [h]; exact hd
theorem selW_ok {c : Nat} {x y z : W} {st st' : St} (h : selW U c x y st = some (z, st')) (hg : Good U g st') :
    Good U g st ∧ Same st st' ∧ ∀ r v, (bif ieq (g c) 1 then x else y).Den g r v → z.Den g r v := by
  cases x with
  | c x =>
    cases y with
    | c y =>
      simp only [selW] at h
      split at h
      · rename_i q st1 h1
        cases h
        obtain ⟨k1, k2, k3⟩ := selC_ok h1 hg
        refine ⟨k1, k2, fun r v hd => ?_⟩
        have e := k3 r
        show q.den g r = some v
        rw [e]
        cases hc : ieq (g c) 1 <;> rw [hc] at hd <;> exact hd
      · cases h
    | agg _ => simp [selW] at h
  | agg l =>
    cases y with
    | c _ => simp [selW] at h
    | agg m =>
      simp only [selW] at h
      split at h
      · rename_i q st1 h1
        cases h
        obtain ⟨k1, k2, k3⟩ := selL_ok h1 hg
        refine ⟨k1, k2, fun r v hd => ?_⟩
        have key : ∃ vs, v = .agg ⟨vs⟩ ∧ DL g r (bif ieq (g c) 1 then l else m) vs := by
          cases hc : ieq (g c) 1 <;> rw [hc] at hd <;> exact hd
        obtain ⟨vs, rfl, hd2⟩ := key
        exact ⟨vs, rfl, selL_den k3 hd2⟩
      · cases h
theorem selWs_ok {c : Nat} : ∀ {l m z : List W} {st st' : St}, selWs U c l m st = some (z, st') → Good U g st' →
    Good U g st ∧ Same st st' ∧ ∀ r vs, WL g r (bif ieq (g c) 1 then l else m) vs → WL g r z vs
  | [], [], z, st, st', h, hg => by
    simp [selWs] at h
    obtain ⟨rfl, rfl⟩ := h
    exact ⟨hg, Same.refl _, fun r vs hd => by cases hc : ieq (g c) 1 <;> rw [hc] at hd <;> exact hd⟩
  | x :: l, y :: m, z, st, st', h, hg => by
    unfold selWs at h
    split at h
    · rename_i q st1 h1
      split at h
      · rename_i qs st2 h2
        cases h
        obtain ⟨k1, k2, k3⟩ := selWs_ok h2 hg
        obtain ⟨l1, l2, l3⟩ := selW_ok h1 k1
        refine ⟨l1, l2.trans k2, fun r vs hd => ?_⟩
        cases vs with
        | nil => cases hc : ieq (g c) 1 <;> rw [hc] at hd <;> exact hd.elim
        | cons v vs =>
          refine ⟨l3 r v ?_, k3 r vs ?_⟩
          · cases hc : ieq (g c) 1 <;> rw [hc] at hd <;> exact hd.1
          · cases hc : ieq (g c) 1 <;> rw [hc] at hd <;> exact hd.2
      · cases h
    · cases h
  | [], _ :: _, _, _, _, h, _ => by simp [selWs] at h
  | _ :: _, [], _, _, _, h, _ => by simp [selWs] at h
theorem selV_ok {c : Nat} {x y z : V} {st st' : St} (h : selV U c x y st = some (z, st')) (hg : Good U g st') :
    Good U g st ∧ Same st st' ∧ ∀ r v, (bif ieq (g c) 1 then x else y).Den g r v → z.Den g r v := by
  cases x with
  | w x =>
    cases y with
    | w y =>
      simp only [selV] at h
      split at h
      · rename_i q st1 h1
        cases h
        obtain ⟨k1, k2, k3⟩ := selW_ok h1 hg
        refine ⟨k1, k2, fun r v hd => k3 r v ?_⟩
        cases hc : ieq (g c) 1 <;> rw [hc] at hd <;> exact hd
      · cases h
    | tup _ => simp [selV] at h
  | tup l =>
    cases y with
    | w _ => simp [selV] at h
    | tup m =>
      simp only [selV] at h
      split at h
      · rename_i q st1 h1
        cases h
        obtain ⟨k1, k2, k3⟩ := selWs_ok h1 hg
        refine ⟨k1, k2, fun r v hd => ?_⟩
        have key : ∃ vs, v = .tuple ⟨vs⟩ ∧ WL g r (bif ieq (g c) 1 then l else m) vs := by
          cases hc : ieq (g c) 1 <;> rw [hc] at hd <;> exact hd
        obtain ⟨vs, rfl, hd2⟩ := key
        exact ⟨vs, rfl, k3 r vs hd2⟩
      · cases h
theorem selO_ok {c : Nat} {x y z : Option V} {st st' : St} (h : selO U c x y st = (z, st')) (hg : Good U g st') :
    Good U g st ∧ Same st st' ∧ ∀ q, z = some q → ∃ a b, x = some a ∧ y = some b ∧ ∀ r v, (bif ieq (g c) 1 then a else b).Den g r v → q.Den g r v := by
  unfold selO at h
  split at h
  · rename_i a b
    split at h
    · rename_i q st1 h1
      cases h
      obtain ⟨k1, k2, k3⟩ := selV_ok h1 hg
      exact ⟨k1, k2, fun q hq => by cases hq; exact ⟨a, b, rfl, rfl, k3⟩⟩
    · cases h
      exact ⟨hg, Same.refl _, fun q hq => by cases hq⟩
  · cases h
    exact ⟨hg, Same.refl _, fun q hq => by cases hq⟩
theorem selT_ok {c : Nat} : ∀ {t s z : PT V} {st st' : St}, selT U c t s st = (z, st') → Good U g st' →
    Good U g st ∧ Same st st' ∧ ∀ i q, z.get i = some q → ∃ a b, t.get i = some a ∧ s.get i = some b ∧ ∀ r v, (bif ieq (g c) 1 then a else b).Den g r v → q.Den g r v
  | .n l v r, .n l' v' r', z, st, st', h, hg => by
    unfold selT at h
    split at h
    rename_i x st1 h1
    split at h
    rename_i p st2 h2
    split at h
    rename_i q st3 h3
    cases h
    obtain ⟨a1, a2, a3⟩ := selT_ok h3 hg
    obtain ⟨b1, b2, b3⟩ := selT_ok h2 a1
    obtain ⟨c1, c2, c3⟩ := selO_ok h1 b1
    refine ⟨c1, (c2.trans b2).trans a2, fun i q hq => ?_⟩
    simp only [PT.get_n, nbeq, Bool.cond_decide] at hq ⊢
    by_cases h0 : i = 0
    · simp only [h0, if_true] at hq ⊢
      exact c3 q hq
    · by_cases ho : i % 2 = 1
      · simp only [h0, ho, if_true, if_false] at hq ⊢
        exact b3 _ q hq
      · simp only [h0, ho, if_false] at hq ⊢
        exact a3 _ q hq
  | .e, _, z, st, st', h, hg => by
    simp [selT] at h
    obtain ⟨rfl, rfl⟩ := h
    exact ⟨hg, Same.refl _, fun i q hq => by simp [PT.get_e] at hq⟩
  | .n _ _ _, .e, z, st, st', h, hg => by
    simp [selT] at h
    obtain ⟨rfl, rfl⟩ := h
    exact ⟨hg, Same.refl _, fun i q hq => by simp [PT.get_e] at hq⟩
theorem sorted_get : ∀ {h : List (Nat × Bk)} {n : Nat} {b : Bk}, sortedB h = true → (n, b) ∈ h → hget h n = some b
  | [], _, _, _, hm => by cases hm
  | [(m, c)], n, b, _, hm => by
    rcases List.mem_cons.1 hm with e | hm
    · cases e; unfold hget; rw [nbeq, decide_eq_true rfl]; rfl
    · cases hm
  | (m, c) :: (k, d) :: r, n, b, hs, hm => by
    unfold sortedB at hs
    rw [Bool.and_eq_true, nblt, decide_eq_true_eq] at hs
    rcases List.mem_cons.1 hm with e | hm
    · cases e; unfold hget; rw [nbeq, decide_eq_true rfl]; rfl
    · have low : ∀ {r : List (Nat × Bk)} {k : Nat} {d : Bk}, sortedB ((k, d) :: r) = true → ∀ x ∈ (k, d) :: r, x.1 ≤ k := by
        intro r
        induction r with
        | nil => intro k d _ x hx; rcases List.mem_cons.1 hx with e | hx
                 · subst e; exact Nat.le_refl _
                 · cases hx
        | cons y r ih =>
          intro k d hk x hx
          obtain ⟨y1, y2⟩ := y
          unfold sortedB at hk
          rw [Bool.and_eq_true, nblt, decide_eq_true_eq] at hk
          rcases List.mem_cons.1 hx with e | hx
          · subst e; exact Nat.le_refl _
          · have := ih hk.2 x hx
            omega
      have := low hs.2 _ hm
      unfold hget
      rw [nbeq, decide_eq_false (by simp at this; omega)]
      exact sorted_get hs.2 hm
theorem dropTo_mem {n : Nat} : ∀ {h : List (Nat × Bk)}, ∀ x ∈ dropTo n h, x ∈ h
  | [], x, hx => hx
  | (m, b) :: r, x, hx => by
    unfold dropTo at hx
    cases hb : Nat.blt n m
    · rw [hb] at hx; exact hx
    · rw [hb] at hx; exact List.mem_cons_of_mem _ (dropTo_mem x hx)
theorem selH_ok {c : Nat} : ∀ {h k z : List (Nat × Bk)} {st st' : St}, selH U c h k st = (z, st') → Good U g st' →
    Good U g st ∧ Same st st' ∧ ∀ n bk, (n, bk) ∈ z → ∃ b b', (n, b) ∈ h ∧ (n, b') ∈ k ∧ (bk.ty = b.ty ∧ bk.kd = b.kd) ∧ (bk.ty = b'.ty ∧ bk.kd = b'.kd) ∧ ∀ r vs, DL g r (bif ieq (g c) 1 then b.cells else b'.cells) vs → DL g r bk.cells vs
  | [], k, z, st, st', hs, hg => by
    simp [selH] at hs
    obtain ⟨rfl, rfl⟩ := hs
    exact ⟨hg, Same.refl _, fun n bk hm => by cases hm⟩
  | (n, b) :: r, k, z, st, st', hs, hg => by
    unfold selH at hs
    split at hs
    · cases hs
      exact ⟨hg, Same.refl _, fun n bk hm => by cases hm⟩
    · rename_i m b' q hd
      have hin : ∀ x ∈ (m, b') :: q, x ∈ k := fun x hx => dropTo_mem x (by rw [hd]; exact hx)
      have down : ∀ {k2 : List (Nat × Bk)}, (∀ x ∈ k2, x ∈ k) → ∀ {z st1}, selH U c r k2 st1 = (z, st') → Good U g st1 ∧ Same st1 st' ∧ ∀ n' bk, (n', bk) ∈ z → ∃ p p', (n', p) ∈ (n, b) :: r ∧ (n', p') ∈ k ∧ (bk.ty = p.ty ∧ bk.kd = p.kd) ∧ (bk.ty = p'.ty ∧ bk.kd = p'.kd) ∧ ∀ r vs, DL g r (bif ieq (g c) 1 then p.cells else p'.cells) vs → DL g r bk.cells vs := by
        intro k2 hk2 z st1 h
        obtain ⟨k1, k3, k4⟩ := selH_ok h hg
        refine ⟨k1, k3, fun n' bk hm => ?_⟩
        obtain ⟨p, p', h1, h2, h3⟩ := k4 n' bk hm
        exact ⟨p, p', List.mem_cons_of_mem _ h1, hk2 _ h2, h3⟩
      split at hs
      · rename_i hc
        obtain ⟨rfl, hty, hkd⟩ := hc
        split at hs
        · rename_i l st1 hl
          split at hs
          rename_i rest st2 hr
          cases hs
          obtain ⟨k1, k2, k3⟩ := down (fun x hx => hin x (List.mem_cons_of_mem _ hx)) hr
          obtain ⟨l1, l2, l3⟩ := selL_ok hl k1
          refine ⟨l1, l2.trans k2, fun n' bk hm => ?_⟩
          rcases List.mem_cons.1 hm with e | hm
          · cases e
            exact ⟨b, b', List.mem_cons_self .., hin _ (List.mem_cons_self ..), ⟨rfl, rfl⟩, ⟨hty, hkd⟩, fun r vs hd => selL_den l3 hd⟩
          · exact k3 n' bk hm
        · exact down (fun x hx => hin x (List.mem_cons_of_mem _ hx)) hs
      · exact down hin hs
end

theorem hget_mem : ∀ {h : List (Nat × Bk)} {n : Nat} {b : Bk}, hget h n = some b → (n, b) ∈ h
  | [], _, _, h => by simp [hget] at h
  | (m, c) :: r, n, b, h => by
    unfold hget at h
    rw [nbeq, Bool.cond_decide] at h
    split at h
    · rename_i e; subst e; cases h; exact List.mem_cons_self ..
    · exact List.mem_cons_of_mem _ (hget_mem h)
theorem BkOk.cells {g : Sg} {r : Rho} {n b : Nat} {bk bk' : Bk} {w : World} (h : BkOk g r n b bk w) (ht : bk'.ty = bk.ty) (hk : bk'.kd = bk.kd) (hd : ∀ vs, DL g r bk.cells vs → DL g r bk'.cells vs) : BkOk g r n b bk' w := by
  rcases h with ⟨c1, c2, vs, c3, c4⟩ | ⟨c1, pre, vs, post, c2, c3, c4, c5⟩
  · exact .inl ⟨hk.trans c1, c2, vs, hd vs c3, c4⟩
  · exact .inr ⟨c1, pre, vs, post, by rw [ht]; exact c2, c3, hd vs c4, by rw [hk]; exact c5⟩
theorem memSel_ok {U : Nat → List Int → Int} {g : Sg} {c : Nat} {s1 s2 m m' : St} (h : memSel U c s1 s2 m = some m') (hg : Good U g m') :
    Good U g m ∧ (ieq (g c) 1 = true → ∀ r w, Inv g r s1 w → Inv g r m' w) ∧ (ieq (g c) 1 = false → ∀ r w, Inv g r s2 w → Inv g r m' w) := by
  unfold memSel at h
  cases hs : (sortedB s1.heap && sortedB s2.heap)
  · rw [hs] at h; cases h
  · rw [hs, cond_true] at h
    rw [Bool.and_eq_true] at hs
    split at h
    · rename_i hr
      split at h
      rename_i hh m2 hsel
      cases h
      have hg2 : Good U g m2 := ⟨hg.defs, hg.cs, hg.ci, hg.rg, hg.ok⟩
      obtain ⟨k1, k2, k3⟩ := selH_ok hsel hg2
      have hnx : s1.next ≤ (bif Nat.ble s1.next s2.next then s2.next else s1.next) ∧ s2.next ≤ (bif Nat.ble s1.next s2.next then s2.next else s1.next) := by
        rw [nble, Bool.cond_decide]; split <;> omega
      have in1 : ∀ n, (hget hh n).isSome = true → (hget s1.heap n).isSome = true := fun n hn => by
        obtain ⟨bk, hbk⟩ := Option.isSome_iff_exists.1 hn
        obtain ⟨b, b', m1, m2, _⟩ := k3 n bk (hget_mem hbk)
        exact isSome_of (sorted_get hs.1 m1)
      have in2 : ∀ n, (hget hh n).isSome = true → (hget s2.heap n).isSome = true := fun n hn => by
        obtain ⟨bk, hbk⟩ := Option.isSome_iff_exists.1 hn
        obtain ⟨b, b', m1, m2, _⟩ := k3 n bk (hget_mem hbk)
        exact isSome_of (sorted_get hs.2 m2)
      refine ⟨k1, fun hc r w hI => ⟨fun n bk q hn q1 => ?_, fun n m b hn hm => hI.inj n m b (in1 n hn) (in1 m hm), fun n b hb => ?_, hI.lt, fun n hn => ?_, hI.nobar, fun n hb => ?_⟩, fun hc r w hI => ⟨fun n bk q hn q1 => ?_, fun n m b hn hm => hI.inj n m b (in2 n hn) (in2 m hm), fun n b hb => ?_, hI.lt, fun n hn => ?_, hI.nobar, fun n hb => ?_⟩⟩
      · obtain ⟨b, b', m1, m2, t1, t2, hd⟩ := k3 n bk (hget_mem hn)
        have q2 := hI.holds n b q (sorted_get hs.1 m1) q1
        rw [hc] at hd
        exact q2.cells t1.1 t1.2 (hd r)
      · have := hI.fresh n b hb
        exact ⟨Nat.lt_of_lt_of_le this.1 hnx.1, by show n ∉ s2.resv; rw [← hr]; exact this.2⟩
      · exact Nat.lt_of_lt_of_le (hI.rlt n (by rw [hr]; exact hn)) hnx.1
      · have := hI.free n hb
        exact ⟨Nat.lt_of_lt_of_le this.1 hnx.1, by show n ∉ s2.resv; rw [← hr]; exact this.2⟩
      · obtain ⟨b, b', m1, m2, t1, t2, hd⟩ := k3 n bk (hget_mem hn)
        have q2 := hI.holds n b' q (sorted_get hs.2 m2) q1
        rw [hc] at hd
        exact q2.cells t2.1 t2.2 (hd r)
      · have := hI.fresh n b hb
        exact ⟨Nat.lt_of_lt_of_le this.1 hnx.2, this.2⟩
      · exact Nat.lt_of_lt_of_le (hI.rlt n hn) hnx.2
      · have := hI.free n hb
        exact ⟨Nat.lt_of_lt_of_le this.1 hnx.2, this.2⟩
    · cases h

/-! ### All ways -/
theorem ptSub_get : ∀ {t s : PT (Pr × List A)} {i : Nat} {d : Pr × List A}, ptSub t s = true → t.get i = some d → s.get i = some d
  | .e, _, i, d, _, h => by simp [PT.get_e] at h
  | .n l v r, .n l' v' r', i, d, hs, h => by
    unfold ptSub at hs
    rw [Bool.and_eq_true, Bool.and_eq_true] at hs
    obtain ⟨h1, h2, h3⟩ := hs
    simp only [PT.get_n, nbeq, Bool.cond_decide] at h ⊢
    by_cases h0 : i = 0
    · simp only [h0, if_true] at h ⊢
      subst h
      obtain ⟨p, xs⟩ := d
      simp only at h1
      split at h1
      · rename_i q ys
        cases hb : A.beqL xs ys
        · rw [hb] at h1; cases h1
        · rw [hb, cond_true, decide_eq_true_eq] at h1
          rw [beqL_eq hb, h1]
      · cases h1
    · by_cases ho : i % 2 = 1
      · simp only [h0, ho, if_true, if_false] at h ⊢
        exact ptSub_get h2 h
      · simp only [h0, ho, if_false] at h ⊢
        exact ptSub_get h3 h
  | .n _ _ _, .e, _, _, hs, _ => by simp [ptSub] at hs
section
variable {U : Nat → List Int → Int} {g : Sg} [UOk U] {R : Type} {run : St → Option (R × St)} {mg : Nat → R → St → R → St → Option (R × St)} {Q : R → St → Prop}
def Sat (g : Sg) (l : List (Nat × Bool)) : Prop := ∀ c ∈ l, ieq (g c.1) 1 = c.2
omit [UOk U] in
theorem later_ok {st s : St} (h : later st s = true) (hd : DefsOk U g s) : DefsOk U g st ∧ st.bad = false := by
  unfold later at h
  rw [Bool.and_eq_true, Bool.and_eq_true, nble, decide_eq_true_eq] at h
  obtain ⟨h1, h2, h3⟩ := h
  refine ⟨fun n p xs hn => ?_, by simpa using h3⟩
  obtain ⟨k1, k2⟩ := getD_lt hn
  exact hd n p xs (getD_of (by omega) (ptSub_get h2 k2))
omit [UOk U] in
theorem info_ok {st : St} (hd : DefsOk U g st) {n : Nat} {b : Bool} (h : ieq (g n) 1 = b) : ∀ c ∈ infoOf st n b, ciOk g c := by
  intro c hc
  unfold infoOf at hc
  split at hc
  · rename_i p q hn
    rcases List.mem_cons.1 hc with e | hc
    · subst e
      have := hd _ _ _ hn
      rw [this] at h
      simp only [List.map, mean, cmpF, ieq_b2i] at h
      exact h
    · cases hc
  · rename_i p q hn
    rcases List.mem_cons.1 hc with e | hc
    · subst e
      have := hd _ _ _ hn
      rw [this] at h
      simp only [List.map, mean, cmpF, ieq_b2i] at h
      exact h
    · cases hc
  · cases hc
omit [UOk U] in
theorem ciL_ok {st : St} (hd : DefsOk U g st) : ∀ {l : List (Nat × Bool)}, Sat g l → ∀ c ∈ ciL st l, ciOk g c
  | [], _, c, hc => by cases hc
  | (n, b) :: r, hs, c, hc => by
    unfold ciL at hc
    rcases List.mem_append.1 hc with hc | hc
    · exact info_ok hd (hs (n, b) (List.mem_cons_self ..)) c hc
    · exact ciL_ok hd (fun d hd => hs d (List.mem_cons_of_mem _ hd)) c hc
/-- What may be said of the outcome of some ways. -/
structure Way (U : Nat → List Int → Int) (g : Sg) (Q : R → St → Prop) (st : St) (l : List (Nat × Bool)) (r : R) (s : St) : Prop where
  good : Good U g s → Good U g { st with rg := .e }
  said : Good U g s → Sat g l → Q r s
omit [UOk U] in
theorem backs_ok (hmg : ∀ n r1 s1 r2 s2 r m, mg n r1 s1 r2 s2 = some (r, m) → Good U g m → Good U g s2 ∧ (ieq (g n) 1 = true → Q r1 s1 → Q r m) ∧ (ieq (g n) 1 = false → Q r2 s2 → Q r m))
    {go : List Bool → St → Option (List (Nat × Bool) × R × St)} {st : St}
    (hgo : ∀ pre s, s.heap = st.heap → s.next = st.next → s.resv = st.resv → s.cs = st.cs → s.ci = st.ci → ∀ ds r2 s2, go pre s = some (ds, r2, s2) → Way U g Q s ds r2 s2) :
    ∀ (e : Nat) (l : List (Nat × Bool)) (r r' : R) (s s' : St), s.cs = st.cs → s.ci = st.ci → s.rg = .e → Way U g Q st l r s → backs mg go st e l r s = some (r', s') → Way U g Q st (l.drop e) r' s'
  | 0, l, r, r', s, s', _, _, _, hw, h => by
    simp [backs] at h
    obtain ⟨rfl, rfl⟩ := h
    exact hw
  | e + 1, [], r, r', s, s', _, _, _, hw, h => by simp [backs] at h
  | e + 1, (n, b) :: rest, r, r', s, s', hcs, hci, hrg, hw, h => by
    unfold backs at h
    cases b
    · cases h
    · rw [cond_true] at h
      split at h
      · rename_i ds r2 s2 hg2
        split at h
        · rename_i hds
          split at h
          · rename_i r3 s3 hm
            cases hk : (decide (s3.cs = st.cs) && (decide (s3.ci = st.ci) && isE s3.rg))
            · rw [hk] at h; cases h
            · rw [hk, cond_true] at h
              rw [Bool.and_eq_true, Bool.and_eq_true, decide_eq_true_eq, decide_eq_true_eq] at hk
              have hs := hgo _ (withNames st s) rfl rfl rfl rfl rfl ds r2 s2 hg2
              have back : Good U g (withNames st s) → Good U g s := fun k => ⟨k.defs, by rw [hcs]; exact k.cs, by rw [hci]; exact k.ci, by rw [hrg]; exact fun n lo hi h => (by simp [PT.get_e] at h), k.ok⟩
              refine backs_ok hmg hgo e rest r3 r' s3 s' hk.1 hk.2.1 (isE_eq hk.2.2) ⟨fun k => ?_, fun k hsat => ?_⟩ h
              · exact hw.good (back (hs.good (hmg _ _ _ _ _ _ _ hm k).1))
              · obtain ⟨m1, m2, m3⟩ := hmg _ _ _ _ _ _ _ hm k
                have two : ∀ v, ieq (g n) 1 = v → Sat g ((n, v) :: rest) := fun v hv c hc => by
                  rcases List.mem_cons.1 hc with e | hc
                  · subst e; exact hv
                  · exact hsat c hc
                cases hn : ieq (g n) 1
                · refine m3 hn (hs.said m1 ?_)
                  rw [hds]
                  intro c hc
                  exact two false hn c (List.mem_reverse.1 hc)
                · exact m2 hn (hw.said (back (hs.good m1)) (two true hn))
          · cases h
        · cases h
      · cases h
theorem go_ok (hmg : ∀ n r1 s1 r2 s2 r m, mg n r1 s1 r2 s2 = some (r, m) → Good U g m → Good U g s2 ∧ (ieq (g n) 1 = true → Q r1 s1 → Q r m) ∧ (ieq (g n) 1 = false → Q r2 s2 → Q r m))
    (hq : ∀ r s s', s'.heap = s.heap → s'.next = s.next → s'.resv = s.resv → Q r s → Q r s') {st0 : St}
    (hrun : ∀ s, s.heap = st0.heap → s.next = st0.next → s.resv = st0.resv → ∀ r s', run s = some (r, s') → Good U g s' → Good U g s ∧ Q r s') :
    ∀ (f : Nat) (pre : List Bool) (st : St), st.heap = st0.heap → st.next = st0.next → st.resv = st0.resv → ∀ ds r s, go run mg f pre st = some (ds, r, s) → Way U g Q st ds r s
  | 0, _, _, _, _, _, _, _, _, h => by simp [go] at h
  | f + 1, pre, st, hh, hn, hr, ds, r, s, h => by
    unfold go at h
    split at h
    · cases h
    · rename_i r1 s1 h1
      simp only at h
      generalize hk : s1.cs.length - st.cs.length = k at h
      cases hb : (decide (s1.cs.drop k = st.cs) && (firstTrue pre (s1.cs.take k).reverse && (decide (s1.ci = ciL s1 (s1.cs.take k) ++ st.ci) && (later st s1 && rgAll s1 id s1.rg))))
      · rw [hb] at h; cases h
      · rw [hb, cond_true] at h
        simp only [Bool.and_eq_true, decide_eq_true_eq] at hb
        obtain ⟨b1, b2, b3, b4, b5⟩ := hb
        split at h
        · rename_i r' s' hbk
          cases h
          have hfull : s1.cs = s1.cs.take k ++ st.cs := by rw [← b1]; exact (List.take_append_drop k s1.cs).symm
          have leaf : Way U g Q st (s1.cs.take k) r1 { s1 with cs := st.cs, ci := st.ci, rg := .e, orc := st.orc } := by
            refine ⟨fun kg => ?_, fun kg hsat => ?_⟩
            · obtain ⟨k1, k2⟩ := later_ok b4 (show DefsOk U g s1 from kg.defs)
              exact ⟨k1, kg.cs, kg.ci, fun n lo hi h => (by simp [PT.get_e] at h), k2⟩
            · have hci : ∀ c ∈ s1.ci, ciOk g c := by
                rw [b3]
                intro c hc
                rcases List.mem_append.1 hc with hc | hc
                · exact ciL_ok (show DefsOk U g s1 from kg.defs) hsat c hc
                · exact kg.ci c hc
              have hg1 : Good U g s1 := by
                refine ⟨kg.defs, ?_, hci, rgCheck_ok (show DefsOk U g s1 from kg.defs) hci b5, kg.ok⟩
                rw [hfull]
                intro c hc
                rcases List.mem_append.1 hc with hc | hc
                · exact hsat c hc
                · exact kg.cs c hc
              exact hq r1 s1 _ rfl rfl rfl (hrun { st with orc := pre, rg := .e } hh hn hr _ _ h1 hg1).2
          have := backs_ok hmg (go := go run mg f) (st := st) (fun pre s2 e1 e2 e3 _ _ ds r2 s3 hg2 => go_ok hmg hq hrun f pre s2 (e1.trans hh) (e2.trans hn) (e3.trans hr) ds r2 s3 hg2) _ _ _ _ { s1 with cs := st.cs, ci := st.ci, rg := .e, orc := st.orc } _ rfl rfl rfl leaf hbk
          refine ⟨this.good, fun kg hsat => this.said kg fun c hc => hsat c ?_⟩
          have hlen : pre.length ≤ (s1.cs.take k).length := by
            have : ∀ (p : List Bool) (l : List (Nat × Bool)), firstTrue p l = true → p.length ≤ l.length := by
              intro p
              induction p with
              | nil => intro l _; simp
              | cons x p ih =>
                intro l hl
                cases l with
                | nil => simp [firstTrue] at hl
                | cons y l =>
                  obtain ⟨y1, y2⟩ := y
                  unfold firstTrue at hl
                  rw [Bool.and_eq_true] at hl
                  have := ih l hl.2
                  simp; omega
            have := this _ _ b2
            simpa using this
          have e : (s1.cs.take k).drop ((s1.cs.take k).length - pre.length) = ((s1.cs.take k).reverse.take pre.length).reverse := by
            rw [List.take_reverse, List.reverse_reverse]
          rw [e] at hc
          exact List.mem_reverse.1 hc
        · cases h
theorem mergeRun_ok (hmg : ∀ n r1 s1 r2 s2 r m, mg n r1 s1 r2 s2 = some (r, m) → Good U g m → Good U g s2 ∧ (ieq (g n) 1 = true → Q r1 s1 → Q r m) ∧ (ieq (g n) 1 = false → Q r2 s2 → Q r m))
    (hq : ∀ r s s', s'.heap = s.heap → s'.next = s.next → s'.resv = s.resv → Q r s → Q r s') {st : St}
    (hrun : ∀ s, s.heap = st.heap → s.next = st.next → s.resv = st.resv → ∀ r s', run s = some (r, s') → Good U g s' → Good U g s ∧ Q r s') {r : R} {s : St} (h : mergeRun run mg st = some (r, s)) (hg : Good U g s) : Good U g st ∧ Q r s := by
  unfold mergeRun at h
  split at h
  · cases h
  · rename_i r1 s1 h1
    cases hb : Nat.beq s1.cs.length st.cs.length
    · rw [hb, cond_false] at h
      split at h
      · rename_i r2 s2 h2
        cases he : isE s2.rg
        · rw [he] at h; exact hrun st rfl rfl rfl _ _ h hg
        · rw [he] at h
          cases h
          have := go_ok hmg hq hrun _ _ _ rfl rfl rfl _ _ _ h2
          have hg2 : Good U g s2 := ⟨hg.defs, hg.cs, hg.ci, by rw [isE_eq he]; exact fun n lo hi h => (by simp [PT.get_e] at h), hg.ok⟩
          have k := this.good hg2
          exact ⟨⟨k.defs, k.cs, k.ci, hg.rg, k.ok⟩, hq _ s2 _ rfl rfl rfl (this.said hg2 (fun c hc => by cases hc))⟩
      · exact hrun st rfl rfl rfl _ _ h hg
    · rw [hb, cond_true] at h
      cases h
      obtain ⟨k1, k2⟩ := hrun { st with orc := [] } rfl rfl rfl _ _ h1 ⟨hg.defs, hg.cs, hg.ci, hg.rg, hg.ok⟩
      exact ⟨⟨k1.defs, k1.cs, k1.ci, k1.rg, k1.ok⟩, hq _ s1 _ rfl rfl rfl k2⟩
end
def solve (U : Nat → List Int → Int) : List (Nat × Pr × List A) → Sg → Sg
  | [], g => g
  | (n, p, xa) :: r, g => fun i => if i = n then mean U p (xa.map (A.val (solve U r g))) else solve U r g i
theorem val_congr {g h : Sg} {n : Nat} {xa : List A} (ha : xa.all (A.below n) = true) (he : ∀ i, i < n → g i = h i) : xa.map (A.val g) = xa.map (A.val h) := by
  apply List.map_congr_left
  intro a hm
  rw [List.all_eq_true] at ha
  have := ha a hm
  cases a with
  | k z => rfl
  | x i => simp only [A.below, nblt] at this; exact he i (by simpa using this)
theorem wfD_lt {nv : Nat} : ∀ {l : List (Nat × Pr × List A)} {b : Nat}, wfD nv b l = true → ∀ d ∈ l, d.1 < b ∧ nv ≤ d.1 ∧ d.2.2.all (A.below d.1) = true
  | [], _, _, d, hd => by cases hd
  | (n, p, xa) :: r, b, h, d, hd => by
    unfold wfD at h
    simp only [Bool.and_eq_true, nblt, nble, decide_eq_true_eq] at h
    obtain ⟨⟨⟨h1, h2⟩, h3⟩, h4⟩ := h
    rcases List.mem_cons.1 hd with rfl | hd
    · exact ⟨h1, h2, h3⟩
    · obtain ⟨k1, k2, k3⟩ := wfD_lt h4 d hd
      exact ⟨by omega, k2, k3⟩
theorem solve_ok (U : Nat → List Int → Int) {nv : Nat} (g : Sg) : ∀ {l : List (Nat × Pr × List A)} {b : Nat}, wfD nv b l = true → (∀ d ∈ l, solve U l g d.1 = mean U d.2.1 (d.2.2.map (A.val (solve U l g)))) ∧ ∀ i, i < nv → solve U l g i = g i
  | [], _, _ => ⟨fun d hd => (by cases hd), fun _ _ => rfl⟩
  | (n, p, xa) :: r, b, h => by
    have hh := h
    unfold wfD at h
    simp only [Bool.and_eq_true, nblt, nble, decide_eq_true_eq] at h
    obtain ⟨⟨⟨h1, h2⟩, h3⟩, h4⟩ := h
    obtain ⟨k1, k2⟩ := solve_ok U g h4
    have same : ∀ i, i < n → solve U ((n, p, xa) :: r) g i = solve U r g i := fun i hi => by
      show (if i = n then _ else solve U r g i) = _
      rw [if_neg (by omega)]
    refine ⟨fun d hd => ?_, fun i hi => (by rw [same i (by omega)]; exact k2 i hi)⟩
    rcases List.mem_cons.1 hd with rfl | hd
    · rw [val_congr h3 same]
      show (if n = n then _ else _) = _
      rw [if_pos rfl]
    · obtain ⟨l1, _, l3⟩ := wfD_lt h4 d hd
      rw [same d.1 l1, val_congr l3 (fun i hi => same i (by omega))]
      exact k1 d hd


theorem C.den_congr {g h : Sg} {n : Nat} (he : ∀ i, i < n → g i = h i) {c : C} (hc : c.under n = true) (r : Rho) : c.den g r = c.den h r := by
  have key : ∀ a : A, a.below n = true → a.val g = a.val h := fun a ha => by
    cases a with
    | k z => rfl
    | x i =>
      have : Nat.blt i n = true := ha
      rw [nblt, decide_eq_true_eq] at this
      exact he i this
  cases c with
  | b v => simp only [C.den, key v hc]
  | i k v => simp only [C.den, key v hc]
  | sx k v => simp only [C.den, key v hc]
  | _ => rfl
theorem DL.congr {g h : Sg} {n : Nat} (he : ∀ i, i < n → g i = h i) {l : List C} (hl : l.all (C.under n) = true) {r : Rho} {vs : List Value} (hd : DL g r l vs) : DL h r l vs := by
  unfold DL at *
  rw [← hd]
  apply List.map_congr_left
  intro c hc
  exact (C.den_congr he (List.all_eq_true.1 hl c hc) r).symm
theorem W.Den.congr {g h : Sg} {n : Nat} (he : ∀ i, i < n → g i = h i) {x : W} (hx : x.under n = true) {r : Rho} {v : Value} (hd : x.Den g r v) : x.Den h r v := by
  cases x with
  | c x => exact (C.den_congr he hx r).symm.trans hd
  | agg l => obtain ⟨vs, rfl, hd⟩ := hd; exact ⟨vs, rfl, hd.congr he hx⟩
theorem WL.congr {g h : Sg} {n : Nat} (he : ∀ i, i < n → g i = h i) : ∀ {l : List W} {r : Rho} {vs : List Value}, l.all (W.under n) = true → WL g r l vs → WL h r l vs
  | [], _, [], _, _ => trivial
  | x :: l, r, v :: vs, hl, ⟨h1, h2⟩ => by
    rw [List.all_cons, Bool.and_eq_true] at hl
    exact ⟨h1.congr he hl.1, WL.congr he hl.2 h2⟩
  | [], _, _ :: _, _, h => h.elim
  | _ :: _, _, [], _, h => h.elim
theorem V.Den.congr {g h : Sg} {n : Nat} (he : ∀ i, i < n → g i = h i) {x : V} (hx : x.under n = true) {r : Rho} {v : Value} (hd : x.Den g r v) : x.Den h r v := by
  cases x with
  | w x => exact W.Den.congr he hx hd
  | tup l => obtain ⟨vs, rfl, hd⟩ := hd; exact ⟨vs, rfl, WL.congr he hx hd⟩
theorem cleanT_get {n : Nat} : ∀ {t : PT V} {i : Nat} {v : V}, (cleanT n t).get i = some v → t.get i = some v ∧ v.under n = true
  | .e, i, v, h => by simp [cleanT, PT.get_e] at h
  | .n l x r, i, v, h => by
    unfold cleanT at h
    simp only [PT.get_n, nbeq, Bool.cond_decide] at h ⊢
    by_cases h0 : i = 0
    · simp only [h0, if_true] at h ⊢
      cases x with
      | none => cases h
      | some x =>
        cases hu : x.under n
        · simp only [hu] at h; cases h
        · simp only [hu] at h; cases h; exact ⟨rfl, hu⟩
    · by_cases ho : i % 2 = 1
      · simp only [h0, ho, if_true, if_false] at h ⊢
        exact cleanT_get h
      · simp only [h0, ho, if_false] at h ⊢
        exact cleanT_get h
theorem underT_get {n : Nat} : ∀ {t : PT V} {i : Nat} {v : V}, underT n t = true → t.get i = some v → v.under n = true
  | .e, i, v, _, h => by simp [PT.get_e] at h
  | .n l x r, i, v, hu, h => by
    unfold underT at hu
    rw [Bool.and_eq_true, Bool.and_eq_true] at hu
    obtain ⟨h1, h2, h3⟩ := hu
    simp only [PT.get_n, nbeq, Bool.cond_decide] at h
    by_cases h0 : i = 0
    · simp only [h0, if_true] at h
      subst h; exact h1
    · by_cases ho : i % 2 = 1
      · simp only [h0, ho, if_true, if_false] at h
        exact underT_get h2 h
      · simp only [h0, ho, if_false] at h
        exact underT_get h3 h
theorem cleanH_mem {n : Nat} : ∀ {h : List (Nat × Bk)} {x : Nat × Bk}, x ∈ cleanH n h → x ∈ h ∧ x.2.cells.all (C.under n) = true
  | [], x, hx => by cases hx
  | (m, b) :: r, x, hx => by
    unfold cleanH at hx
    cases hb : b.cells.all (C.under n)
    · rw [hb] at hx
      obtain ⟨h1, h2⟩ := cleanH_mem hx
      exact ⟨List.mem_cons_of_mem _ h1, h2⟩
    · rw [hb] at hx
      rcases List.mem_cons.1 hx with e | hx
      · subst e; exact ⟨List.mem_cons_self .., hb⟩
      · obtain ⟨h1, h2⟩ := cleanH_mem hx
        exact ⟨List.mem_cons_of_mem _ h1, h2⟩
theorem newL_mem {s : St} {lo n : Nat} {p : Pr} {xa : List A} (h : getD s n = some (p, xa)) : ∀ {k : Nat}, lo ≤ n → n < lo + k → (n, p, xa) ∈ newL s lo k
  | 0, h1, h2 => by omega
  | k + 1, h1, h2 => by
    unfold newL
    by_cases e : n = lo + k
    · subst e; rw [h]; exact List.mem_cons_self ..
    · have := newL_mem h (k := k) h1 (by omega)
      split
      · exact List.mem_cons_of_mem _ this
      · exact this
theorem oldOk_get {st s : St} {lo : Nat} : ∀ {k n : Nat}, oldOk st s lo k = true → n < k → ∀ p xs, getD s n = some (p, xs) → getD st n = some (p, xs) ∧ xs.all (A.below lo) = true
  | 0, n, _, h, _, _, _ => by omega
  | k + 1, n, h, hn, p, xs, hd => by
    unfold oldOk at h
    rw [Bool.and_eq_true] at h
    by_cases e : n = k
    · subst e
      have h := h.1
      rw [hd] at h
      simp only at h
      split at h
      · rename_i q ys hq
        rw [Bool.and_eq_true] at h
        cases hb : A.beqL xs ys
        · rw [hb] at h; exact absurd h.1 (by simp)
        · rw [hb, cond_true, decide_eq_true_eq] at h
          rw [hq, beqL_eq hb, h.1]
          exact ⟨rfl, by rw [← beqL_eq hb]; exact h.2⟩
      · cases h
    · exact oldOk_get h.2 (by omega) p xs hd
theorem cleanH_get {n : Nat} : ∀ {h : List (Nat × Bk)} {m : Nat} {b : Bk}, sortedB h = true → hget (cleanH n h) m = some b → hget h m = some b ∧ b.cells.all (C.under n) = true := fun hs hm => by
  obtain ⟨h1, h2⟩ := cleanH_mem (hget_mem hm)
  exact ⟨sorted_get hs h1, h2⟩
theorem clean_ok {U : Nat → List Int → Int} [UOk U] {g : Sg} {t0 : T} {st s : St} (h : cleanOk t0 st s = true) (hg : Good U g st) :
    ∃ g', (∀ i, i < st.nv → g' i = g i) ∧ Good U g' s := by
  unfold cleanOk at h
  simp only [Bool.and_eq_true] at h
  obtain ⟨⟨⟨h1, h2⟩, h0⟩, ⟨h3, h4⟩, ⟨h5, h6⟩, h7, h8⟩ := h
  obtain ⟨k1, k2⟩ := solve_ok U g h4
  refine ⟨_, k2, ?_⟩
  generalize hgd : solve U (newL s st.nv (s.nv - st.nv)) g = g' at *
  have hd : DefsOk U g' s := fun n p xs hn => by
    obtain ⟨l1, l2⟩ := getD_lt hn
    by_cases hlt : n < st.nv
    · obtain ⟨m1, m2⟩ := oldOk_get h3 hlt p xs hn
      rw [k2 n hlt, hg.defs n p xs m1, val_congr m2 (fun i hi => (k2 i hi))]
    · exact k1 _ (newL_mem hn (by omega) (by omega))
  have h5 : s.cs = [] := by simpa using h5
  have h6 : s.ci = [] := by simpa using h6
  have hci : ∀ c ∈ s.ci, ciOk g' c := fun c hc => (by rw [h6] at hc; cases hc)
  exact ⟨hd, fun c hc => (by rw [h5] at hc; cases hc), hci, rgCheck_ok hd hci h7, by simpa using h8⟩
section
variable {U : Nat → List Int → Int} {g : Sg}
theorem mgE_ok {N : Nat} {c : Nat} {r1 r2 r : Ex × T} {s1 s2 m : St} (h : mgE U c r1 s1 r2 s2 = some (r, m)) (hg : Good U g m) :
    Good U g s2 ∧ r.1 = r1.1 ∧ r.1 = r2.1 ∧ (ieq (g c) 1 = true → ∀ rho a w, TRel N g rho r1.2 a → Inv g rho s1 w → TRel N g rho r.2 a ∧ Inv g rho m w) ∧ (ieq (g c) 1 = false → ∀ rho a w, TRel N g rho r2.2 a → Inv g rho s2 w → TRel N g rho r.2 a ∧ Inv g rho m w) := by
  unfold mgE at h
  split at h
  · rename_i he
    split at h
    rename_i t m1 ht
    split at h
    · rename_i m' hm
      cases h
      obtain ⟨k1, k2, k3⟩ := memSel_ok hm hg
      obtain ⟨l1, l2, l3⟩ := selT_ok ht k1
      refine ⟨l1, rfl, he, fun hc rho a w hT hI => ⟨⟨hT.size, fun i v hv => ?_, hT.defers⟩, k2 hc rho w hI⟩, fun hc rho a w hT hI => ⟨⟨hT.size, fun i v hv => ?_, hT.defers⟩, k3 hc rho w hI⟩⟩
      · obtain ⟨x, y, hx, hy, hd⟩ := l3 i v hv
        obtain ⟨u, hu, hud⟩ := hT.get i x hx
        exact ⟨u, hu, hd rho u (by rw [hc]; exact hud)⟩
      · obtain ⟨x, y, hx, hy, hd⟩ := l3 i v hv
        obtain ⟨u, hu, hud⟩ := hT.get i y hy
        exact ⟨u, hu, hd rho u (by rw [hc]; exact hud)⟩
    · cases h
  · cases h
theorem mgV_ok {c : Nat} {r1 r2 r : V} {s1 s2 m : St} (h : mgV U c r1 s1 r2 s2 = some (r, m)) (hg : Good U g m) :
    Good U g s2 ∧ (ieq (g c) 1 = true → ∀ rho u w, r1.Den g rho u → Inv g rho s1 w → r.Den g rho u ∧ Inv g rho m w) ∧ (ieq (g c) 1 = false → ∀ rho u w, r2.Den g rho u → Inv g rho s2 w → r.Den g rho u ∧ Inv g rho m w) := by
  unfold mgV at h
  split at h
  · rename_i v m1 hv
    split at h
    · rename_i m' hm
      cases h
      obtain ⟨k1, k2, k3⟩ := memSel_ok hm hg
      obtain ⟨l1, l2, l3⟩ := selV_ok hv k1
      exact ⟨l1, fun hc rho u w hd hI => ⟨l3 rho u (by rw [hc]; exact hd), k2 hc rho w hI⟩, fun hc rho u w hd hI => ⟨l3 rho u (by rw [hc]; exact hd), k3 hc rho w hI⟩⟩
    · cases h
  · cases h
end
end Go.Proofs.Ytdleeeahonfnkaa.SX

/- SxJ -/
namespace Go.Proofs.Ytdleeeahonfnkaa.SX
open Go
section
variable {P : Program} {L : Lk} {U : Nat → List Int → Int} {X : FuncId → Nat} {g : Sg} [UOk U] [LkOk P L]
def exOf : Ex → Exit
  | .normal => .normal
  | .exit id => .exit id
  | .ret => .ret
theorem Post.later {N : Nat} {e0 : Exit} {t : T} {st : St} {r r1 : Rho} {w w1 : World} (hE : Ext r w r1 w1) {e : Exit} {a' : Act} {w' : World} (h : Post N g e0 t st r1 w1 e a' w') : Post N g e0 t st r w e a' w' := by
  obtain ⟨h1, r', h2, h3, h4⟩ := h
  exact ⟨h1, r', h2, h3, hE.trans h4⟩
theorem exOf_normal {ex : Ex} (h : exOf ex = .normal) : ex = .normal := by cases ex <;> simp_all [exOf]
theorem then_of {K : Act → World → Prop} {Q : Exit → Act → World → Prop} {ex : Ex} (h : ex ≠ .normal) {a : Act} {w : World} (hq : Q (exOf ex) a w) : Exit.then K Q (exOf ex) a w := by
  cases ex
  · exact absurd rfl h
  · exact hq
  · exact hq
theorem rounds_mono {b : Code} {Q Q' : Exit → Act → World → Prop} (h : ∀ e a w, Q e a w → Q' e a w) : ∀ (n : Nat) (a : Act) (w : World), Code.rounds P b Q n a w → Code.rounds P b Q' n a w
  | 0, _, _, hr => hr
  | n + 1, a, w, hr => by
    rw [rounds_succ] at *
    refine wp_mono hr fun e a' w' hq => ?_
    cases e <;> first | exact rounds_mono h n a' w' hq | exact h _ _ _ hq
/-- A piece of code, from slots t on, does what a runner says. -/
def PieceOk (P : Program) (U : Nat → List Int → Int) (g : Sg) (N : Nat) (b : Code) (t : T) (run : St → Option (Ex × T × St)) : Prop :=
  ∀ st st' ex t', run st = some (ex, t', st') → Good U g st' → Good U g st ∧ ∀ r a w, TRel N g r t a → Inv g r st w → b.wp P (Post N g (exOf ex) t' st' r w) a w
def MkOk (P : Program) (U : Nat → List Int → Int) (mk : Bool → T → (St → Option (Ex × T × St)) → St → Option (Ex × T × St)) : Prop :=
  ∀ lp N b t run, (∀ g, PieceOk P U g N b t run) → ∀ g, PieceOk P U g N b t (mk lp t run)
theorem runCode_ok (hN : NamesOk P X) (hmix : P.follows .mixedOrders = true) {call : FuncId → List V → St → Option (V × St)} (hc : ∀ g, CallOk P U g call) {mk : Bool → T → (St → Option (Ex × T × St)) → St → Option (Ex × T × St)} (hmk : MkOk P U mk) {N : Nat} :
    ∀ (n : Nat) (g : Sg), (∀ (c : Code) (t t' : T) (st st' : St) (ex : Ex), codeOk N c = true → runCode L U X call (drawRun L U X call) mk n c t st = some (ex, t', st') → Good U g st' →
      Good U g st ∧ ∀ r a w, TRel N g r t a → Inv g r st w → c.wp P (Post N g (exOf ex) t' st' r w) a w) ∧
      (∀ (b : Code) (t t' : T) (st st' : St) (ex : Ex), codeOk N b = true → runCode L U X call (drawRun L U X call) mk n (.loop b) t st = some (ex, t', st') → Good U g st' →
      Good U g st ∧ ∀ r a w, TRel N g r t a → Inv g r st w → Code.rounds P b (Post N g (exOf ex) t' st' r w) n a w)
  | 0, g => by
    refine ⟨fun c t t' st st' ex _ h => ?_, fun b t t' st st' ex _ h => ?_⟩
    · simp [runCode] at h
    · simp [runCode] at h
  | n + 1, g => by
    obtain ⟨ih1, ih2⟩ := runCode_ok hN hmix hc hmk (N := N) n g
    have piece : ∀ (lp : Bool) (b : Code) (t : T), codeOk N b = true → PieceOk P U g N b t (mk lp t fun st => runCode L U X call (drawRun L U X call) mk n b t st) := fun lp b t hok => hmk lp N b t _ (fun g st st' ex t' h hg => (runCode_ok hN hmix hc hmk (N := N) n g).1 b _ _ _ _ _ hok h hg) g
    have loops : ∀ (b : Code) (t t' : T) (st st' : St) (ex : Ex), codeOk N b = true → runCode L U X call (drawRun L U X call) mk (n + 1) (.loop b) t st = some (ex, t', st') → Good U g st' →
        Good U g st ∧ ∀ r a w, TRel N g r t a → Inv g r st w → Code.rounds P b (Post N g (exOf ex) t' st' r w) (n + 1) a w := by
      intro b t t' st st' ex hok h hg
      unfold runCode at h
      simp only at h
      split at h
      · rename_i t1 st1 hb
        obtain ⟨h1, h2⟩ := ih2 b _ _ _ _ _ hok h hg
        obtain ⟨h3, h4⟩ := piece true b t hok _ _ _ _ hb h1
        refine ⟨h3, fun r a w hT hI => ?_⟩
        rw [rounds_succ]
        refine wp_mono (h4 r a w hT hI) fun e a' w' hp => ?_
        obtain ⟨rfl, r', hT', hI', hE⟩ := hp
        show Code.rounds P b (Post N g (exOf ex) t' st' r w) n a' w'
        have := h2 r' a' w' hT' hI'
        exact rounds_mono (fun e a w h => Post.later hE h) n a' w' this
      · rename_i hne
        obtain ⟨h3, h4⟩ := piece true b t hok _ _ _ _ h hg
        refine ⟨h3, fun r a w hT hI => ?_⟩
        rw [rounds_succ]
        refine wp_mono (h4 r a w hT hI) fun e a' w' hp => ?_
        have he := hp.1
        subst he
        exact then_of (fun hx => by subst hx; exact hne _ _ h) hp
    refine ⟨fun c t t' st st' ex hok h hg => ?_, loops⟩
    cases c with
    | skip =>
      simp [runCode] at h
      obtain ⟨rfl, rfl, rfl⟩ := h
      exact ⟨hg, fun r a w hT hI => wp_skip ⟨rfl, r, hT, hI, Ext.refl _ _⟩⟩
    | region id ops d =>
      unfold runCode at h
      simp only at h
      cases d
      · simp only [cond_false] at h
        split at h
        · rename_i t1 st1 hr
          cases h
          obtain ⟨h1, h2⟩ := runOps_ok hN (hc g) (by simpa [codeOk] using hok) ops.toList 0 _ _ _ _ (by simp) hr hg
          refine ⟨h1, fun r a w hT hI => wp_region ?_⟩
          rw [List.range_eq_range']
          have := h2 r a w hT hI (Post N g .normal _ _ r w) (fun a' w' r' hT' hI' hE => ⟨rfl, r', hT', hI', hE⟩)
          rw [Array.length_toList] at this
          exact this
        · cases h
      · simp only [cond_true] at h
        split at h
        · rename_i t1 st1 hr
          cases h
          exact drawRun_ok hN hmix (hc g) (by simpa [codeOk] using hok) hr hg id
        · cases h
    | seq x y =>
      simp only [codeOk, Bool.and_eq_true] at hok
      unfold runCode at h
      simp only at h
      split at h
      · rename_i t1 st1 hx
        obtain ⟨h1, h2⟩ := piece false y _ hok.2 _ _ _ _ h hg
        obtain ⟨h3, h4⟩ := ih1 x _ _ _ _ _ hok.1 hx h1
        refine ⟨h3, fun r a w hT hI => wp_seq (wp_mono (h4 r a w hT hI) fun e a' w' hp => ?_)⟩
        obtain ⟨rfl, r', hT', hI', hE⟩ := hp
        exact wp_mono (h2 r' a' w' hT' hI') fun e a w hq => Post.later hE hq
      · rename_i hne
        obtain ⟨h3, h4⟩ := ih1 x _ _ _ _ _ hok.1 h hg
        refine ⟨h3, fun r a w hT hI => wp_seq (wp_mono (h4 r a w hT hI) fun e a' w' hp => ?_)⟩
        have he := hp.1
        subst he
        exact then_of (fun hx => by subst hx; exact hne _ _ h) hp
    | cond c x y =>
      simp only [codeOk, Bool.and_eq_true] at hok
      unfold runCode at h
      simp only at h
      split at h
      · rename_i v hv
        split at h
        · rename_i st1 hd
          obtain ⟨h1, h2⟩ := ih1 x _ _ _ _ _ hok.1 h hg
          obtain ⟨h3, h4, h5⟩ := decide_ok hd h1
          exact ⟨h3, fun r a w hT hI => wp_cond_true (h5 r _ (ev_den hT hv)) (h2 r a w hT (hI.same h4))⟩
        · rename_i st1 hd
          obtain ⟨h1, h2⟩ := ih1 y _ _ _ _ _ hok.2 h hg
          obtain ⟨h3, h4, h5⟩ := decide_ok hd h1
          exact ⟨h3, fun r a w hT hI => wp_cond_false (h5 r _ (ev_den hT hv)) (h2 r a w hT (hI.same h4))⟩
        · cases h
      · cases h
    | block id b =>
      simp only [codeOk] at hok
      unfold runCode at h
      simp only at h
      split at h
      · rename_i j t1 st1 hb
        rw [nbeq, Bool.cond_decide] at h
        split at h
        · rename_i hj
          cases h
          obtain ⟨h3, h4⟩ := ih1 b _ _ _ _ _ hok hb hg
          refine ⟨h3, fun r a w hT hI => wp_block (wp_mono (h4 r a w hT hI) fun e a' w' hp => ?_)⟩
          obtain ⟨rfl, hp⟩ := hp
          show (if j = id then _ else _)
          rw [if_pos hj]
          exact ⟨rfl, hp⟩
        · rename_i hj
          cases h
          obtain ⟨h3, h4⟩ := ih1 b _ _ _ _ _ hok hb hg
          refine ⟨h3, fun r a w hT hI => wp_block (wp_mono (h4 r a w hT hI) fun e a' w' hp => ?_)⟩
          obtain ⟨rfl, hp⟩ := hp
          show (if j = id then _ else _)
          rw [if_neg hj]
          exact ⟨rfl, hp⟩
      · rename_i hne
        obtain ⟨h3, h4⟩ := ih1 b _ _ _ _ _ hok h hg
        refine ⟨h3, fun r a w hT hI => wp_block (wp_mono (h4 r a w hT hI) fun e a' w' hp => ?_)⟩
        have he := hp.1
        subst he
        cases ex with
        | normal => exact hp
        | exit j => exact absurd h (hne _ _ _)
        | ret => exact hp
    | loop b =>
      obtain ⟨h1, h2⟩ := loops b _ _ _ _ _ (by simpa [codeOk] using hok) h hg
      exact ⟨h1, fun r a w hT hI => wp_loop_rounds (n + 1) (h2 r a w hT hI)⟩
    | exit id =>
      simp [runCode] at h
      obtain ⟨rfl, rfl, rfl⟩ := h
      exact ⟨hg, fun r a w hT hI => wp_exit ⟨rfl, r, hT, hI, Ext.refl _ _⟩⟩
    | label l =>
      simp [runCode] at h
      obtain ⟨rfl, rfl, rfl⟩ := h
      exact ⟨hg, fun r a w hT hI => wp_label ⟨rfl, r, hT, hI, Ext.refl _ _⟩⟩
    | ret =>
      simp [runCode] at h
      obtain ⟨rfl, rfl, rfl⟩ := h
      exact ⟨hg, fun r a w hT hI => wp_ret ⟨rfl, r, hT, hI, Ext.refl _ _⟩⟩
    | rangeFunc _ _ _ _ => simp [runCode] at h
    | scope _ => simp [runCode] at h
    | goto _ => simp [runCode] at h
    | refuse _ => simp [runCode] at h
theorem mergeE_ok {N : Nat} {c : Code} {t : T} {run : St → Option (Ex × T × St)} (hrun : PieceOk P U g N c t run) : PieceOk P U g N c t (fun st => unE (mergeRun (fun st => reE (run st)) (mgE U) st)) := by
    intro st st' ex t' h hg
    simp only at h
    cases hm : mergeRun (fun st => reE (run st)) (mgE U) st with
    | none => rw [hm] at h; cases h
    | some x =>
      obtain ⟨⟨ex1, t1⟩, s1⟩ := x
      rw [hm] at h
      simp only [unE, Option.some.injEq, Prod.mk.injEq] at h
      obtain ⟨rfl, rfl, rfl⟩ := h
      refine mergeRun_ok (Q := fun (r : Ex × T) s => ∀ rho a w, TRel N g rho t a → Inv g rho st w → c.wp P (Post N g (exOf r.1) r.2 s rho w) a w) (r := (ex1, t1)) ?_ ?_ ?_ hm hg
      · intro n r1 s1 r2 s2 r m hmg hgm
        obtain ⟨k1, e1, e2, k2, k3⟩ := mgE_ok (N := N) hmg hgm
        refine ⟨k1, fun hc hQ rho a w hT hI => wp_mono (hQ rho a w hT hI) fun e a' w' hp => ?_, fun hc hQ rho a w hT hI => wp_mono (hQ rho a w hT hI) fun e a' w' hp => ?_⟩
        · obtain ⟨p1, r', p2, p3, p4⟩ := hp
          obtain ⟨q1, q2⟩ := k2 hc r' a' w' p2 p3
          exact ⟨by rw [p1, e1], r', q1, q2, p4⟩
        · obtain ⟨p1, r', p2, p3, p4⟩ := hp
          obtain ⟨q1, q2⟩ := k3 hc r' a' w' p2 p3
          exact ⟨by rw [p1, e2], r', q1, q2, p4⟩
      · intro r s s' h1 h2 h3 hQ rho a w hT hI
        refine wp_mono (hQ rho a w hT hI) fun e a' w' hp => ?_
        obtain ⟨p1, r', p2, p3, p4⟩ := hp
        exact ⟨p1, r', p2, p3.same ⟨h1, h2, h3⟩, p4⟩
      · intro s h1 h2 h3 r s' hr hg'
        cases hx : run s with
        | none => rw [hx] at hr; cases hr
        | some y =>
          obtain ⟨ex2, t2, s2⟩ := y
          rw [hx] at hr
          simp only [reE, Option.some.injEq, Prod.mk.injEq] at hr
          obtain ⟨rfl, rfl⟩ := hr
          obtain ⟨k1, k2⟩ := hrun _ _ _ _ hx hg'
          exact ⟨k1, fun rho a w hT hI => k2 rho a w hT (hI.same ⟨h1, h2, h3⟩)⟩
theorem BkOk.congr {g g' : Sg} {m : Nat} (he : ∀ i, i < m → g' i = g i) {r : Rho} {n b : Nat} {bk : Bk} {w : World} (h : BkOk g' r n b bk w) (hu : bk.cells.all (C.under m) = true) : BkOk g r n b bk w := by
  rcases h with ⟨c1, c2, vs, c3, c4⟩ | ⟨c1, pre, vs, post, c2, c3, c4, c5⟩
  · exact .inl ⟨c1, c2, vs, c3.congr he hu, c4⟩
  · exact .inr ⟨c1, pre, vs, post, c2, c3, c4.congr he hu, c5⟩
theorem cleanH_some {nv : Nat} {h : List (Nat × Bk)} (hs : sortedB h = true) {n : Nat} (hn : (hget (cleanH nv h) n).isSome = true) : (hget h n).isSome = true := by
  obtain ⟨bk, hbk⟩ := Option.isSome_iff_exists.1 hn
  exact isSome_of (cleanH_get hs hbk).1
theorem clean_E {N : Nat} {c : Code} {t : T} {run : St → Option (Ex × T × St)} (hrun : ∀ g, PieceOk P U g N c t run) : PieceOk P U g N c t (cleanE t run) := by
  intro st st' ex t' h hg
  unfold cleanE at h
  split at h
  · cases h
  · rename_i e t1 s hr
    cases hk : cleanOk t st s
    · rw [hk] at h; cases h
    · rw [hk] at h
      simp only [cond_true, Option.some.injEq, Prod.mk.injEq] at h
      obtain ⟨rfl, rfl, rfl⟩ := h
      have hgs : Good U g st := ⟨hg.defs, hg.cs, hg.ci, hg.rg, hg.ok⟩
      refine ⟨hgs, fun r a w hT hI => ?_⟩
      obtain ⟨g', he, hg'⟩ := clean_ok hk hgs
      obtain ⟨_, k⟩ := hrun g' st s e t1 hr hg'
      unfold cleanOk at hk
      simp only [Bool.and_eq_true] at hk
      have hu := hk.1.1
      have hso := hk.1.2
      have hT' : TRel N g' r t a := ⟨hT.size, fun i v hv => by
        obtain ⟨u, hu1, hu2⟩ := hT.get i v hv
        exact ⟨u, hu1, hu2.congr (fun i hi => (he i hi).symm) (underT_get hu.1 hv)⟩, hT.defers⟩
      have hI' : Inv g' r st w := ⟨fun n bk b hn hb =>
        (hI.holds n bk b hn hb).congr (fun i hi => (he i hi).symm) (List.all_eq_true.1 hu.2 _ (hget_mem hn)), hI.inj, hI.fresh, hI.lt, hI.rlt, hI.nobar, hI.free⟩
      refine wp_mono (k r a w hT' hI') fun e' a' w' hp => ?_
      obtain ⟨p1, r', p2, p3, p4⟩ := hp
      refine ⟨p1, r', ⟨p2.size, fun i v hv => ?_, p2.defers⟩, ⟨fun n bk b hn hb => ?_, fun n m b hn hm => p3.inj n m b (cleanH_some hso hn) (cleanH_some hso hm), p3.fresh, p3.lt, p3.rlt, p3.nobar, p3.free⟩, p4⟩
      · obtain ⟨c1, c2⟩ := cleanT_get hv
        obtain ⟨u, hu1, hu2⟩ := p2.get i v c1
        exact ⟨u, hu1, hu2.congr he c2⟩
      · obtain ⟨c1, c2⟩ := cleanH_get hso hn
        exact (p3.holds n bk b c1 hb).congr he c2
theorem mkE_ok (b : Nat) : MkOk P U (mkE U b) := fun lp N c t run hrun g => by
  unfold mkE
  cases Nat.beq b 0
  · cases (Nat.beq b 1 || !lp)
    · exact clean_E fun g => mergeE_ok (hrun g)
    · exact mergeE_ok (hrun g)
  · exact hrun g
end
end Go.Proofs.Ytdleeeahonfnkaa.SX

/- SxK -/
namespace Go.Proofs.Ytdleeeahonfnkaa.SX
open Go
section
variable {P : Program} {L : Lk} {U : Nat → List Int → Int} {X : FuncId → Nat} {g : Sg} [UOk U] [LkOk P L]
theorem argsT_get : ∀ (l : List V) (i j : Nat) (t : T), i + l.length < 16000 → (argsT i l t).get j = if i ≤ j ∧ j < i + l.length then l[j - i]? else t.get j
  | [], i, j, t, _ => by
    have : ¬ (i ≤ j ∧ j < i + 0) := by omega
    simp [argsT]
    intro h1 h2; omega
  | v :: l, i, j, t, h => by
    simp at h
    rw [argsT, argsT_get l (i + 1) j _ (by omega), PT.get_set 14 t i j v (by omega)]
    simp only [List.length_cons]
    by_cases h1 : i + 1 ≤ j ∧ j < i + 1 + l.length
    · have h2 : i ≤ j ∧ j < i + (l.length + 1) := by omega
      rw [if_pos h1, if_pos h2]
      have : j - i = (j - (i + 1)) + 1 := by omega
      rw [this, List.getElem?_cons_succ]
    · rw [if_neg h1]
      by_cases h3 : j = i
      · subst h3
        have h2 : j ≤ j ∧ j < j + (l.length + 1) := by omega
        rw [if_pos rfl, if_pos h2]; simp
      · rw [if_neg h3, if_neg (by omega)]
theorem VL.get {r : Rho} : ∀ {l : List V} {vs : List Value} {i : Nat} {x : V}, VL g r l vs → l[i]? = some x → ∃ v, vs[i]? = some v ∧ x.Den g r v
  | [], _, _, _, _, h => by simp at h
  | _ :: _, [], _, _, hd, _ => hd.elim
  | y :: l, v :: vs, i, x, ⟨h1, h2⟩, h => by
    cases i with
    | zero => simp at h; subst h; exact ⟨v, rfl, h1⟩
    | succ i => simp at h; obtain ⟨u, hu, hc⟩ := VL.get h2 h; exact ⟨u, by simpa using hu, hc⟩
theorem enter_T {r : Rho} {args : List V} {vs : List Value} (h : VL g r args vs) {n : Nat} (hn : args.length ≤ n) (hl : args.length ≤ 1000) :
    TRel n g r (argsT 0 args .e) { tmps := ⟨vs⟩ ++ Array.replicate (n - (⟨vs⟩ : Array Value).size) undef, defers := [] } := by
  have hs : (⟨vs⟩ : Array Value).size = args.length := h.length
  refine ⟨by simp [hs]; have := h.length; omega, fun i v hv => ?_, rfl⟩
  rw [argsT_get args 0 i .e (by omega)] at hv
  split at hv
  · rename_i hi
    simp at hv
    obtain ⟨u, hu, hd⟩ := VL.get h hv
    refine ⟨u, ?_, hd⟩
    rw [Array.getElem?_append_left (by rw [hs]; omega)]
    simpa using hu
  · simp [PT.get_e] at hv
def resF (a : Act) : ResultVar → Sem Value := fun
  | .tmp t => pure (a.tmps.getD t undef)
  | .cell p t => do loadVar t (← asAddr (a.tmps.getD p undef))
theorem res_ok {N : Nat} {r : Rho} {t : T} {a : Act} (hT : TRel N g r t a) {heap : List (Nat × Bk)} {w : World} (hH : Holds g r heap w) :
    ∀ {l : List ResultVar} {ws : List W}, resA L t heap l = some ws → ∃ vs, WL g r ws vs ∧ (l.mapM (resF a)).run P w = .ok vs w
  | [], ws, h => by simp [resA] at h; subst h; exact ⟨[], trivial, by simp⟩
  | .tmp i :: l, ws, h => by
    unfold resA at h
    split at h
    · rename_i x hx
      split at h
      · rename_i m hm
        cases h
        obtain ⟨vs, h1, h2⟩ := res_ok hT hH hm
        refine ⟨a.eval (.tmp i) :: vs, ⟨(ev_den hT (o := .tmp i) hx : V.Den g r (.w x) _), h1⟩, ?_⟩
        rw [List.mapM_cons, Sem.run_bind]
        have : (resF a (.tmp i)).run P w = .ok (a.eval (.tmp i)) w := rfl
        rw [this]
        simp only [Result.andThen_ok, Sem.run_bind, h2, Sem.run_pure]
      · cases h
    · cases h
  | .cell p ty :: l, ws, h => by
    unfold resA at h
    split at h
    · rename_i x hx
      split at h
      · rename_i m hm
        cases h
        obtain ⟨vs, h1, h2⟩ := res_ok hT hH hm
        obtain ⟨q, u, hev, hd, hr⟩ := load_var (P := P) hx hT hH
        refine ⟨u :: vs, ⟨hd, h1⟩, ?_⟩
        rw [List.mapM_cons, Sem.run_bind]
        have : (resF a (.cell p ty)).run P w = .ok u w := by
          have hev : a.tmps.getD p undef = .pointer (some q) := hev
          simp only [resF, hev, asAddr, Sem.run_bind, Sem.run_pure, Result.andThen_ok, hr]
        rw [this]
        simp only [Result.andThen_ok, Sem.run_bind, h2, Sem.run_pure]
      · cases h
    · cases h
theorem WL.length {r : Rho} : ∀ {l : List W} {vs : List Value}, WL g r l vs → vs.length = l.length
  | [], [], _ => rfl
  | x :: l, v :: vs, ⟨_, h2⟩ => by simp [WL.length h2]
  | [], _ :: _, h => h.elim
  | _ :: _, [], h => h.elim
theorem results_ok {N : Nat} {r : Rho} {t : T} {a : Act} (hT : TRel N g r t a) {heap : List (Nat × Bk)} {w : World} (hH : Holds g r heap w) {fn : Func} {ws : List W} (h : resA L t heap fn.results.toList = some ws) :
    ∃ u, (retV ws).Den g r u ∧ (results fn a.tmps).run P w = .ok u w := by
  obtain ⟨vs, h1, h2⟩ := res_ok (P := P) hT hH h
  have hm : (fn.results.mapM (resF a)).run P w = .ok ⟨vs⟩ w := by
    rw [Array.mapM_eq_mapM_toList, Sem.run_map, h2]; rfl
  have hrun : (results fn a.tmps).run P w = .ok (if h : (⟨vs⟩ : Array Value).size = 1 then (⟨vs⟩ : Array Value)[0] else .tuple ⟨vs⟩) w := by
    unfold results
    rw [Sem.run_bind]
    show Result.andThen ((fn.results.mapM (resF a)).run P w) _ = _
    rw [hm]
    rfl
  rw [hrun]
  refine ⟨_, ?_, rfl⟩
  match ws, vs, h1 with
  | [], [], h1 => exact ⟨[], rfl, trivial⟩
  | [x], [v], ⟨hx, _⟩ => exact hx
  | x :: y :: ws, v :: u :: vs, h1 =>
    rw [dif_neg (by simp)]
    exact ⟨_, rfl, h1⟩
theorem hget_below {n : Nat} : ∀ {h : List (Nat × Bk)} {m : Nat} {b : Bk}, hget (below n h) m = some b → hget h m = some b
  | [], m, b, h => by simp [below, hget] at h
  | (k, c) :: r, m, b, h => by
    unfold below at h
    rw [nblt, Bool.cond_decide] at h
    split at h
    · unfold hget at h ⊢
      rw [nbeq, Bool.cond_decide] at h ⊢
      split at h
      · rename_i hk; rw [if_pos hk]; exact h
      · rename_i hk; rw [if_neg hk]; exact hget_below h
    · rename_i hk
      have := hget_below h
      unfold hget
      rw [nbeq, Bool.cond_decide]
      split
      · rename_i hkm
        subst hkm
        exfalso
        have hno : ∀ {l : List (Nat × Bk)}, hget (below n l) k ≠ some b := by
          intro l
          induction l with
          | nil => simp [below, hget]
          | cons y l ih =>
            obtain ⟨i, d⟩ := y
            unfold below
            rw [nblt, Bool.cond_decide]
            split
            · unfold hget
              rw [nbeq, Bool.cond_decide]
              split
              · omega
              · exact ih
            · exact ih
        exact hno h
      · exact this
theorem some_below {k : Nat} {h : List (Nat × Bk)} {n : Nat} (hn : (hget (below k h) n).isSome = true) : (hget h n).isSome = true := by
  obtain ⟨bk, hbk⟩ := Option.isSome_iff_exists.1 hn
  exact isSome_of (hget_below hbk)
theorem runPol_ok (hN : NamesOk P X) (hmix : P.follows .mixedOrders = true) {sum : FuncId → List V → St → Option (V × St)} (hs : ∀ g, CallOk P U g sum) (mc : FuncId → Bool) (ml : FuncId → Nat) (K : Nat) :
    ∀ d g, CallOk P U g (runPol L U X sum mc ml K d)
  | 0, g => fun f args st v st' h => by simp [runPol] at h
  | d + 1, g => fun f args st v st' h hg => by
    unfold runPol at h
    split at h
    · rename_i p hp
      cases h
      exact hs g f args st v st' hp hg
    · split at h
      · cases h
      · rename_i fn hfn
        have hget : P.funcs[f]? = some fn := LkOk.fn _ _ hfn
        split at h
        · cases h
        · rename_i c hbody
          rw [nble, nble] at h
          cases hc : (decide (args.length ≤ fn.ntmps) && decide (args.length ≤ 1000) && codeOk fn.ntmps c)
          · rw [hc] at h; cases h
          · rw [hc] at h
            simp only [cond_true] at h
            rw [Bool.and_eq_true, Bool.and_eq_true, decide_eq_true_eq, decide_eq_true_eq] at hc
            obtain ⟨⟨hc1, hc2⟩, hc3⟩ := hc
            have plain : ∀ st v st', (match runCode L U X (runPol L U X sum mc ml K d) (drawRun L U X (runPol L U X sum mc ml K d)) (mkE U (ml f)) K c (argsT 0 args .e) st with
                | some (.exit _, _, _) => none
                | some (_, t, st') => (match resA L t st'.heap fn.results.toList with
                  | some l => some (retV l, bif l.all W.plain then { st' with heap := below st.next st'.heap } else st')
                  | none => none)
                | none => none) = some (v, st') → Good U g st' → Good U g st ∧ ∀ r w vs, Inv g r st w → VL g r args vs →
                Calls P f ⟨vs⟩ w fun e w' => ∃ r' u, e = .returned u ∧ v.Den g r' u ∧ Inv g r' st' w' ∧ Ext r w r' w' := by
              intro st v st' h hg
              have body : ∀ (ex : Ex) (t : T) (st1 : St), (ex = .normal ∨ ex = .ret) → runCode L U X (runPol L U X sum mc ml K d) (drawRun L U X (runPol L U X sum mc ml K d)) (mkE U (ml f)) K c (argsT 0 args .e) st = some (ex, t, st1) →
                  (match resA L t st1.heap fn.results.toList with
                  | some l => some (retV l, bif l.all W.plain then { st1 with heap := below st.next st1.heap } else st1)
                  | none => none) = some (v, st') → Good U g st ∧ ∀ r w vs, Inv g r st w → VL g r args vs →
                  Calls P f ⟨vs⟩ w fun e w' => ∃ r' u, e = .returned u ∧ v.Den g r' u ∧ Inv g r' st' w' ∧ Ext r w r' w' := by
                intro ex t st1 hex hrun h
                split at h
                · rename_i l hl
                  have hst' : Good U g st1 ∧ ∀ r w, Inv g r st1 w → Inv g r st' w := by
                    cases hp : l.all W.plain
                    · rw [hp] at h
                      simp only [cond_false] at h
                      cases h
                      exact ⟨hg, fun r w hI => hI⟩
                    · rw [hp] at h
                      simp only [cond_true] at h
                      cases h
                      exact ⟨⟨hg.defs, hg.cs, hg.ci, hg.rg, hg.ok⟩, fun r w hI => ⟨fun n bk b hn hb => hI.holds n bk b (hget_below hn) hb, fun n m b hn hm => hI.inj n m b (some_below hn) (some_below hm), hI.fresh, hI.lt, hI.rlt, hI.nobar, hI.free⟩⟩
                  have hv : v = retV l := by
                    cases h; rfl
                  obtain ⟨k1, k2⟩ := (runCode_ok hN hmix (runPol_ok hN hmix hs mc ml K d) (mkE_ok (ml f)) (N := fn.ntmps) K g).1 c _ _ _ _ _ hc3 hrun hst'.1
                  refine ⟨k1, fun r w vs hI hV => ?_⟩
                  refine calls_of_wp hget hbody (wp_mono (k2 r _ w (enter_T hV hc1 hc2) hI) fun e a' w' hp => ?_)
                  obtain ⟨rfl, r', hT', hI', hE⟩ := hp
                  obtain ⟨u, hu, hr⟩ := results_ok (P := P) hT' hI'.holds hl
                  have hfin : a'.defers = [] ∧ ∃ v', (results fn a'.tmps).run P w' = .ok v' w' ∧ ∃ r' u, Ending.returned v' = .returned u ∧ v.Den g r' u ∧ Inv g r' st' w' ∧ Ext r w r' w' :=
                    ⟨hT'.defers, u, hr, r', u, rfl, hv ▸ hu, hst'.2 r' w' hI', hE⟩
                  rcases hex with rfl | rfl
                  · exact hfin
                  · exact hfin
                · cases h
              split at h
              · cases h
              · rename_i ex t st1 hne hrun
                refine body ex t st1 ?_ hrun h
                cases ex with
                | normal => exact .inl rfl
                | exit id => exact absurd rfl (hne id)
                | ret => exact .inr rfl
              · cases h
            cases hm : mc f
            · rw [hm] at h
              exact plain _ _ _ h hg
            · rw [hm] at h
              unfold mkV at h
              rw [cond_true] at h
              refine mergeRun_ok (Q := fun (v : V) s => ∀ r w vs, Inv g r st w → VL g r args vs → Calls P f ⟨vs⟩ w fun e w' => ∃ r' u, e = .returned u ∧ v.Den g r' u ∧ Inv g r' s w' ∧ Ext r w r' w') ?_ ?_ ?_ h hg
              · intro n r1 s1 r2 s2 r m hmg hgm
                obtain ⟨k1, k2, k3⟩ := mgV_ok hmg hgm
                refine ⟨k1, fun hc hQ rho w vs hI hV => (hQ rho w vs hI hV).mono fun e w' hp => ?_, fun hc hQ rho w vs hI hV => (hQ rho w vs hI hV).mono fun e w' hp => ?_⟩
                · obtain ⟨r', u, p1, p2, p3, p4⟩ := hp
                  obtain ⟨q1, q2⟩ := k2 hc r' u w' p2 p3
                  exact ⟨r', u, p1, q1, q2, p4⟩
                · obtain ⟨r', u, p1, p2, p3, p4⟩ := hp
                  obtain ⟨q1, q2⟩ := k3 hc r' u w' p2 p3
                  exact ⟨r', u, p1, q1, q2, p4⟩
              · intro r s s' h1 h2 h3 hQ rho w vs hI hV
                refine (hQ rho w vs hI hV).mono fun e w' hp => ?_
                obtain ⟨r', u, p1, p2, p3, p4⟩ := hp
                exact ⟨r', u, p1, p2, p3.same ⟨h1, h2, h3⟩, p4⟩
              · intro s h1 h2 h3 r s' hr hg'
                obtain ⟨k1, k2⟩ := plain _ _ _ hr hg'
                exact ⟨k1, fun rho w vs hI hV => k2 rho w vs (hI.same ⟨h1, h2, h3⟩) hV⟩
theorem runCall_ok (hN : NamesOk P X) (hmix : P.follows .mixedOrders = true) {sum : FuncId → List V → St → Option (V × St)} (hs : ∀ g, CallOk P U g sum) (K d : Nat) (g : Sg) : CallOk P U g (runCall L U X sum K d) :=
  runPol_ok hN hmix hs never never0 K d g
omit [UOk U] in
theorem noSum_ok : CallOk P U g noSum := fun f args st v st' h => by simp [noSum] at h
/-- It ends in 'true', and hangs on no symbol. -/
def trueB (r : Option (V × St)) : Bool := match r with
  | some (.w (.c (.b (.k z))), st) => ieq z 1 && (Nat.beq st.nv 0 && !st.bad) && (st.cs.isEmpty && (st.ci.isEmpty && isE st.rg))
  | _ => false
/-- The empty memory of the runner fits any. -/
theorem inv0 (z : Nat → Addr × Nat) (w : World) : Inv g (rho0 z) st0 w :=
  ⟨fun n bk _ h => by simp [st0, hget] at h, fun _ _ _ _ _ _ h => (by cases h), fun _ _ h => (by cases h), fun _ _ h => (by cases h), fun n h => by simp [st0] at h, fun _ _ h => (by cases h), fun _ h => (by cases h)⟩
theorem below_of_ext {z : Nat → Addr × Nat} {r' : Rho} {w w' : World} (h : Ext (rho0 z) w r' w') : RowKit.Below w.heap.size w w' :=
  ⟨h.os, h.tape, h.output, h.size, fun b hb => h.frame b hb (fun _ e => by cases e)⟩
/-- A closed call that the runner sees end in 'true' does so, whatever the world. -/
theorem closed_true (hN : NamesOk P X) (hmix : P.follows .mixedOrders = true) {f : FuncId} {sum : FuncId → List V → St → Option (V × St)} (hs : ∀ g, CallOk P U g sum) (K d : Nat) (h : trueB (runCall L U X sum K d f [] st0) = true) (w : World) :
    Calls P f #[] w fun e w' => e = .returned (.bool true) ∧ RowKit.Below w.heap.size w w' := by
  unfold trueB at h
  split at h
  · rename_i z st' he
    rw [Bool.and_eq_true, Bool.and_eq_true] at h
    rw [Bool.and_eq_true, Bool.and_eq_true, nbeq, decide_eq_true_eq] at h
    rw [Bool.and_eq_true] at h
    obtain ⟨⟨h1, h2, h2'⟩, h3, h4, h5⟩ := h
    have h3 : st'.cs = [] := by simpa using h3
    have h4 : st'.ci = [] := by simpa using h4
    have hg : Good U (fun _ => 0) st' := ⟨fun n p as hd => absurd (getD_lt hd).1 (by omega), fun c hc => (by rw [h3] at hc; cases hc), fun c hc => (by rw [h4] at hc; cases hc), fun n lo hi h => (by rw [isE_eq h5] at h; simp [PT.get_e] at h), by simpa using h2'⟩
    obtain ⟨_, k⟩ := runCall_ok hN hmix hs K d _ f [] st0 _ st' he hg
    refine (k (rho0 default) w [] (inv0 _ w) trivial).mono fun e w' hp => ?_
    obtain ⟨r', u, rfl, hd, _, hE⟩ := hp
    refine ⟨?_, below_of_ext hE⟩
    rw [den_b hd]
    show Ending.returned (.bool (ieq z 1)) = _
    rw [h1]
  · cases h
end
end Go.Proofs.Ytdleeeahonfnkaa.SX
