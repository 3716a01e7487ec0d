/- The runner: loads, stores, memory that is made, calls. -/
import Derived.Test.YtahedampmjfoeaaSxG
import Derived.Laws.Tables
namespace Go.Proofs.Ytahedampmjfoeaa.SX
open Go
section
variable {P : Program} {U : Nat → List Int → Int} {X : FuncId → Nat} {g : Sg}
theorem cell_of_heap {w : World} {q : Nat} {vs : List Value} {ty : TypeId} (h : w.heap[q]? = some (.cells ⟨vs⟩ ty (0, 0))) (o : Nat) : w.cell? ⟨q, o, none⟩ = vs[o]? := by
  simp [World.cell?, h]
theorem load_var {t : T} {h : List (Nat × Bk)} {ty : TypeId} {x : Operand} {v : V} (hl : loadOp P t h (.load ty x) = some v) {n : Nat} {r : Rho} {a : Act} (hT : TRel n g r t a) {w : World} (hH : Holds g r h w) :
    ∃ q u, a.eval x = .pointer (some q) ∧ v.Den g r u ∧ (loadVar ty q).run P w = .ok u w := by
  unfold loadOp at hl
  simp only at hl
  split at hl
  · rename_i m o hx
    split at hl
    · rename_i bk hbk
      split at hl
      · rename_i y hy
        cases hl
        obtain ⟨q, vs, hq, hw, hD⟩ := hH m bk hbk
        obtain ⟨q', hq', hev⟩ := den_p (ev_den hT hx)
        rw [hq] at hq'; cases hq'
        unfold partA at hy
        split at hy
        · rename_i ha
          split at hy
          · rename_i s hs
            split at hy
            · rename_i l' hl'
              cases hy
              obtain ⟨rfl, hle⟩ := takeN_take hl'
              have hlen : ((vs.drop o).take s).length = s := by
                have := hD.length
                simp at hle ⊢; omega
              refine ⟨_, .agg ⟨(vs.drop o).take s⟩, hev, ⟨_, rfl, (hD.drop o).take s⟩, ?_⟩
              have hc := run_loadCells_list (P := P) w ⟨q, o, none⟩ ((vs.drop o).take s) (fun j v hv => by
                rw [add_at, cell_of_heap hw, ← hv, List.getElem?_take]
                split
                · rw [List.getElem?_drop]
                · rename_i hj
                  rw [List.getElem?_eq_none (by rw [hlen]; omega)] at hv
                  cases hv)
              rw [hlen] at hc
              simp only [Sem.run_bind, Sem.run_pure, Result.andThen_ok, loadVar, run_isAgg ha, if_true, run_sizeOf hs, hc]
            · cases hy
          · cases hy
        · rename_i ha
          split at hy
          · rename_i c hc
            cases hy
            obtain ⟨u, hu, hd⟩ := hD.get hc
            refine ⟨_, u, hev, hd, ?_⟩
            have hcell : w.cell? ⟨q, o, none⟩ = some u := by rw [cell_of_heap hw, hu]
            simp only [Sem.run_bind, Sem.run_pure, Result.andThen_ok, loadVar, run_isAgg ha, Bool.false_eq_true, if_false, run_load, hcell]
          · cases hy
        · cases hy
      · cases hl
    · cases hl
  · cases hl
theorem load_ok {t : T} {h : List (Nat × Bk)} {op : Op} {v : V} (hl : loadOp P t h op = some v) {n : Nat} {r : Rho} {a : Act} (hT : TRel n g r t a) {w : World} (hH : Holds g r h w) :
    ∃ u, v.Den g r u ∧ ∀ (o : Oper), o.op = op → (execOp a.eval o).run P w = .ok (.value u) w := by
  have hop : ∃ ty x, op = .load ty x := by
    unfold loadOp at hl
    split at hl
    · exact ⟨_, _, rfl⟩
    · cases hl
  obtain ⟨ty, x, rfl⟩ := hop
  obtain ⟨q, u, hev, hd, hr⟩ := load_var (P := P) hl hT hH
  refine ⟨u, hd, fun o ho => ?_⟩
  simp only [execOp, ho, hev, Instr.loadAt, Instr.sureAddr, Sem.run_bind, Sem.run_pure, Result.andThen_ok, hr]
/-- What is said of a runner of calls. -/
def CallOk (P : Program) (U : Nat → List Int → Int) (g : Sg) (call : FuncId → List V → St → Option (V × St)) : Prop :=
  ∀ f args st v st', call f args st = some (v, st') → Good U g st' → Good U g st ∧ ∀ r w vs, Inv g r st w → VL g r args vs →
    Calls P f ⟨vs⟩ w fun e w' => ∃ r' u, e = .returned u ∧ v.Den g r' u ∧ Inv g r' st' w' ∧ Ext r w r' w'
/-- What is said of an operation carried out from the state st. -/
abbrev Does (P : Program) (g : Sg) (st st' : St) (v : V) (op : Op) (r : Rho) (a : Act) (w : World) : Prop :=
  ∀ (o : Oper), o.op = op → ∀ (next : Act → World → Prop) (Q : Exit → Act → World → Prop),
    (∀ u r' w', v.Den g r' u → Inv g r' st' w' → Ext r w r' w' → next (a.put o.dst u) w') → o.wp P a w next Q
theorem alloc_heap {w : World} {o : Obj} {b : Nat} (h : b < w.heap.size) : (w.alloc o).heap[b]? = w.heap[b]? := by
  simp only [World.alloc, Array.getElem?_push]
  split
  · omega
  · rfl
theorem alloc_new (w : World) (o : Obj) : (w.alloc o).heap[w.heap.size]? = some o := by
  simp only [World.alloc, Array.getElem?_push, if_true]
theorem run_newRow' (e : TypeId) (cells : Array Value) (w : World) : (newRow e cells).run P w = .ok ⟨w.heap.size, 0, none⟩ (w.alloc (.cells cells e)) := rfl
theorem mk_ok {nm : Option Nat} {cells : List C} {ty : TypeId} {R : Nat → V} {st st' : St} {v : V} (h : mkBk nm cells ty R st = some (v, st')) (hg : Good U g st') :
    Good U g st ∧ ∀ r w vs, Inv g r st w → DL g r cells vs → ∃ m r', v = R m ∧ r' m = some w.heap.size ∧ Inv g r' st' (w.alloc (.cells ⟨vs⟩ ty)) ∧ Ext r w r' (w.alloc (.cells ⟨vs⟩ ty)) := by
  have key : ∀ (m : Nat) (st' : St) r w vs, Inv g r st w → DL g r cells vs → r m = none → st'.heap = hset st.heap m ⟨cells, ty⟩ → st.next ≤ st'.next → m < st'.next → (∀ n, n ∈ st'.resv → n ∈ st.resv ∧ n ≠ m) →
      ∃ r', r' m = some w.heap.size ∧ Inv g r' st' (w.alloc (.cells ⟨vs⟩ ty)) ∧ Ext r w r' (w.alloc (.cells ⟨vs⟩ ty)) := by
    intro m st' r w vs hI hD hm hh hn hlt hres
    have hsub : Sub r (fun n => if n = m then some w.heap.size else r n) := fun n b hb => by
      by_cases e : n = m
      · subst e; rw [hm] at hb; cases hb
      · simp [e, hb]
    refine ⟨fun n => if n = m then some w.heap.size else r n, by simp, ⟨?_, ?_, ?_, ?_, ?_⟩, ⟨hsub, ?_, ?_, ?_, rfl, rfl, rfl⟩⟩
    · intro n bk hb
      rw [hh, hget_hset] at hb
      by_cases e : n = m
      · subst e
        simp at hb; subst hb
        exact ⟨w.heap.size, vs, by simp, alloc_new _ _, hD.sub hsub⟩
      · simp [e] at hb
        obtain ⟨b, us, h1, h2, h3⟩ := hI.holds n bk hb
        exact ⟨b, us, hsub n b h1, by rw [alloc_heap (hI.lt n b h1)]; exact h2, h3.sub hsub⟩
    · intro n k b h1 h2
      by_cases e : n = m <;> by_cases e' : k = m <;> simp [e, e'] at h1 h2 ⊢
      · have := hI.lt k b h2; omega
      · have := hI.lt n b h1; omega
      · exact hI.inj n k b h1 h2
    · intro n b h1
      by_cases e : n = m
      · subst e; exact ⟨hlt, fun hc => (hres n hc).2 rfl⟩
      · simp [e] at h1
        obtain ⟨f1, f2⟩ := hI.fresh n b h1
        exact ⟨by omega, fun hc => f2 (hres n hc).1⟩
    · intro n b h1
      rw [World.size_alloc]
      by_cases e : n = m
      · simp [e] at h1; omega
      · simp [e] at h1; have := hI.lt n b h1; omega
    · intro n hc
      have := hI.rlt n (hres n hc).1; omega
    · intro n b h1
      by_cases e : n = m
      · simp [e] at h1; exact .inr (by omega)
      · simp [e] at h1; exact .inl h1
    · rw [World.size_alloc]; omega
    · intro b hb _
      exact alloc_heap hb
  unfold mkBk at h
  split at h
  · rename_i m
    cases hc : st.resv.contains m
    · rw [hc] at h; cases h
    · rw [hc] at h
      simp only [cond_true] at h
      cases h
      refine ⟨⟨hg.defs, hg.cs⟩, fun r w vs hI hD => ?_⟩
      have hm : m ∈ st.resv := by simpa using hc
      have hr : r m = none := by
        cases hr : r m with
        | none => rfl
        | some b => exact absurd hm (hI.fresh m b hr).2
      obtain ⟨r', h1, h2, h3⟩ := key m { st with heap := hset st.heap m ⟨cells, ty⟩, resv := st.resv.filter fun x => !Nat.beq x m } r w vs hI hD hr rfl (Nat.le_refl _) (hI.rlt m hm) (fun n hn => by
        rw [List.mem_filter] at hn
        refine ⟨hn.1, ?_⟩
        have := hn.2
        rw [nbeq] at this
        simpa using this)
      exact ⟨m, r', rfl, h1, h2, h3⟩
  · cases h
    refine ⟨⟨hg.defs, hg.cs⟩, fun r w vs hI hD => ?_⟩
    have hr : r st.next = none := by
      cases hr : r st.next with
      | none => rfl
      | some b => have := (hI.fresh _ b hr).1; omega
    obtain ⟨r', h1, h2, h3⟩ := key st.next { st with heap := hset st.heap st.next ⟨cells, ty⟩, next := st.next + 1 } r w vs hI hD hr rfl (by simp) (by simp) (fun n hn => ⟨hn, by have := hI.rlt n hn; omega⟩)
    exact ⟨st.next, r', rfl, h1, h2, h3⟩
theorem DL.rep {r : Rho} {l : List C} {vs : List Value} (h : DL g r l vs) : ∀ n, DL g r (repL l n) (repL vs n)
  | 0 => DL.nil
  | n + 1 => h.append (DL.rep h n)
theorem repL_length {α : Type} (l : List α) : ∀ n, (repL l n).length = n * l.length
  | 0 => by simp [repL]
  | n + 1 => by simp [repL, repL_length l n, Nat.add_mul]; omega
theorem repL_get {α : Type} [Inhabited α] (l : List α) (h : 0 < l.length) : ∀ n j, j < n * l.length → (repL l n)[j]? = some (l[j % l.length]!)
  | 0, j, hj => by simp at hj
  | n + 1, j, hj => by
    rw [repL]
    by_cases hlt : j < l.length
    · rw [List.getElem?_append_left hlt, Nat.mod_eq_of_lt hlt]
      simp [hlt]
    · rw [List.getElem?_append_right (by omega), repL_get l h n (j - l.length) (by rw [Nat.add_mul] at hj; omega)]
      congr 2
      rw [← Nat.mod_eq_sub_mod (by omega)]
theorem buildSlice_ok {ty : TypeId} {len : Nat} {parts : List (Nat × W)} {l : List C} {e : TypeId} (h : buildSliceA P ty len parts = some (l, e)) :
    ∀ r (vs : List (Nat × Value)), PL g r parts vs → ∃ ws, DL g r l ws ∧ ∀ w, (Instr.buildSlice ty len ⟨vs⟩).run P w = .ok (.slice (some ⟨w.heap.size, 0, none⟩) len len) (w.alloc (.cells ⟨ws⟩ e)) := by
  intro r vs hP
  unfold buildSliceA at h
  split at h
  · rename_i e' hu
    split at h
    · rename_i s z0 hs hz0
      obtain ⟨i, z, hi, hz, hzc⟩ := zero_ok (g := g) hz0
      obtain ⟨cv, hcv, hD⟩ := hzc r
      rw [nble, nbeq, nblt, ← Bool.decide_and, ← Bool.decide_and, Bool.cond_decide] at h
      split at h
      · rename_i hc
        obtain ⟨⟨hc1, hc2⟩, hc3⟩ := hc
        split at h
        · rename_i m hm
          cases h
          have hcl : cv.length = s := by rw [hD.length]; exact hc2
          obtain ⟨ws, h1, h2⟩ := fill_ok (fun _ _ hp => hp) hm hP (hD.rep len)
          refine ⟨ws, h2, fun w => ?_⟩
          have hrange : ((Array.range (len * s)).map (fun x => (z.cells)[x % (z.cells).size]!)) = ⟨repL cv len⟩ := by
            rw [hcv]
            apply Array.ext'
            simp only [Array.toList_map, Array.toList_range]
            apply List.ext_getElem?
            intro j
            rw [List.getElem?_map]
            by_cases hj : j < len * s
            · rw [List.getElem?_range hj, repL_get cv (by omega) len j (by rw [hcl]; exact hj)]
              simp
            · rw [List.getElem?_eq_none (by simp; omega), List.getElem?_eq_none (by rw [repL_length, hcl]; omega)]
              rfl
          unfold Instr.buildSlice
          rw [Sem.run_bind, run_underlying' hu]
          simp only [Result.andThen_ok]
          rw [Sem.run_bind, run_sizeOf hs]
          simp only [Result.andThen_ok]
          rw [if_neg (by show ¬ len * s > 16777216; omega)]
          by_cases h0 : len * s = 0
          · have hr0 : repL cv len = [] := List.eq_nil_of_length_eq_zero (by rw [repL_length, hcl]; exact h0)
            rw [hr0] at h1
            simp only [h0, if_true, Sem.run_bind, Sem.run_pure, Result.andThen_ok]
            have : ((Array.range 0).map (fun x => (#[] : Array Value)[x % (#[] : Array Value).size]!)) = ⟨[]⟩ := by
              apply Array.ext'; simp
            rw [this, h1]
            simp only [Sem.run_bind, run_newRow', Result.andThen_ok, Sem.run_pure]
          · simp only [h0, if_false, Sem.run_bind, Sem.run_pure, Result.andThen_ok, run_zero hi hz, hrange, h1, run_newRow']
        · cases h
      · cases h
    · cases h
  · cases h
theorem setCells_ok {l m : List C} {off : Nat} {vs : List C} (h : setCells l off vs = some m) : off + vs.length ≤ l.length ∧ m = l.take off ++ vs ++ l.drop (off + vs.length) := by
  unfold setCells at h
  rw [nble, Bool.cond_decide] at h
  split at h
  · rename_i hc; cases h; exact ⟨hc, rfl⟩
  · cases h
theorem eff_ok (hN : NamesOk P X) {call : FuncId → List V → St → Option (V × St)} (hc : CallOk P U g call) {t : T} {nm : Option Nat} {op : Op} {st st' : St} {v : V} (h : effOp P call t nm op st = some (v, st')) (hg : Good U g st') :
    Good U g st ∧ ∀ n r a w, TRel n g r t a → Inv g r st w → Does P g st st' v op r a w := by
  unfold effOp at h
  split at h
  · rename_i ty
    split at h
    · rename_i z0 hz0
      obtain ⟨h1, h2⟩ := mk_ok h hg
      refine ⟨h1, fun n r a w hT hI o ho next Q hK => ?_⟩
      obtain ⟨i, z, hi, hz, hzc⟩ := zero_ok (g := g) hz0
      obtain ⟨cv, hcv, hD⟩ := hzc r
      obtain ⟨m, r', rfl, hm, hI', hE⟩ := h2 r w cv hI hD
      unfold Oper.wp
      have : (execOp a.eval o).run P w = .ok (.value (.pointer (some ⟨w.heap.size, 0, none⟩))) (w.alloc (.cells ⟨cv⟩ ty)) := by
        simp only [execOp, ho, Instr.alloc, Sem.run_bind, run_zero hi hz, Result.andThen_ok, newVar, run_newRow', Sem.run_pure, hcv]
      rw [this]
      exact hK _ _ _ (mk_p hm 0) hI' hE
    · cases h
  · rename_i ty x
    split at h
    · rename_i y hy
      obtain ⟨h1, h2⟩ := mk_ok h hg
      refine ⟨h1, fun n r a w hT hI o ho next Q hK => ?_⟩
      obtain ⟨cv, hcv, hD⟩ := W.Den.cells (ev_den hT hy : V.Den g r (.w y) _)
      obtain ⟨m, r', rfl, hm, hI', hE⟩ := h2 r w cv hI hD
      unfold Oper.wp
      have : (execOp a.eval o).run P w = .ok (.value (.pointer (some ⟨w.heap.size, 0, none⟩))) (w.alloc (.cells ⟨cv⟩ ty)) := by
        simp only [execOp, ho, Instr.box, Sem.run_bind, newVar, run_newRow', Result.andThen_ok, Sem.run_pure, hcv]
      rw [this]
      exact hK _ _ _ (mk_p hm 0) hI' hE
    · cases h
  · rename_i ty len parts
    split at h
    · rename_i l hl
      split at h
      · rename_i cells e hb
        obtain ⟨h1, h2⟩ := mk_ok h hg
        refine ⟨h1, fun n r a w hT hI o ho next Q hK => ?_⟩
        obtain ⟨ws, hD, hrun⟩ := buildSlice_ok hb r _ (parts_ok hT hl)
        obtain ⟨m, r', rfl, hm, hI', hE⟩ := h2 r w ws hI hD
        unfold Oper.wp
        have : (execOp a.eval o).run P w = .ok (.value (.slice (some ⟨w.heap.size, 0, none⟩) len len)) (w.alloc (.cells ⟨ws⟩ e)) := by
          have hmap : (parts.map fun (i, x) => (i, a.eval x)) = ⟨parts.toList.map fun (i, x) => (i, a.eval x)⟩ := by
            apply Array.ext'; simp
          simp only [execOp, ho, hmap, Sem.run_bind, hrun, Result.andThen_ok, Sem.run_pure]
        rw [this]
        exact hK _ _ _ (mk_s hm 0 len len) hI' hE
      · cases h
    · cases h
  · rename_i ty x y
    split at h
    · rename_i m o yv hx hy
      split at h
      · rename_i bk s hbk hs
        rw [nbeq, Bool.cond_decide] at h
        split at h
        · rename_i hlen
          split at h
          · rename_i l hl
            cases h
            obtain ⟨hle, rfl⟩ := setCells_ok hl
            refine ⟨⟨hg.defs, hg.cs⟩, fun n r a w hT hI op ho next Q hK => ?_⟩
            obtain ⟨q, vs, hq, hw, hD⟩ := hI.holds m bk hbk
            obtain ⟨q', hq', hev⟩ := den_p (ev_den hT hx)
            rw [hq] at hq'; cases hq'
            obtain ⟨cv, hcv, hDc⟩ := W.Den.cells (ev_den hT hy : V.Den g r (.w yv) _)
            have hcl : cv.length = s := by rw [hDc.length]; exact hlen
            have hrun : (execOp a.eval op).run P w = .ok .skip (w.setRow q ⟨vs.take o ++ cv ++ vs.drop (o + cv.length)⟩) := by
              have hst := run_storeCells_at (P := P) q o bk.ty cv 0 ⟨vs⟩ w hw (by rw [Nat.add_zero, hDc.length]; show _ ≤ vs.length; rw [hD.length]; exact hle) hDc.one
              simp only [execOp, ho, hev, Instr.storeAt, Instr.sureAddr, storeVar, Sem.run_bind, Sem.run_pure, Result.andThen_ok, run_sizeOf hs, hcv]
              rw [if_neg (by simp [hcl])]
              simp only [Nat.add_zero] at hst
              rw [hst]
              rfl
            unfold Oper.wp
            rw [hrun]
            refine hK undef r _ ⟨[], rfl, trivial⟩ ⟨?_, hI.inj, hI.fresh, ?_, hI.rlt⟩ ⟨Sub.refl _, fun _ _ h => .inl h, ?_, ?_, rfl, rfl, rfl⟩
            · intro k bk' hk
              simp only [hget_hset] at hk
              by_cases e : k = m
              · subst e
                simp at hk; subst hk
                refine ⟨q, _, hq, setRow_heap w q _ _ _ _ hw, ?_⟩
                rw [hDc.length, List.append_assoc]
                exact (hD.take o).append (hDc.append (hD.drop _))
              · simp [e] at hk
                obtain ⟨b, us, h1, h2, h3⟩ := hI.holds k bk' hk
                refine ⟨b, us, h1, ?_, h3⟩
                have hne : b ≠ q := fun e' => e (hI.inj k m b h1 (by rw [e']; exact hq))
                rw [setRow_other _ _ _ _ hne]
                exact h2
            · intro k b hb; rw [setRow_size]; exact hI.lt k b hb
            · rw [setRow_size]; exact Nat.le_refl _
            · intro b hb hn
              exact setRow_other _ _ _ _ (fun e => hn m (e ▸ hq))
          · cases h
        · cases h
      · cases h
    · cases h
  · rename_i f args tys
    split at h
    · rename_i l hl
      cases hb : hasBody P f
      · rw [hb] at h; cases h
      · rw [hb] at h
        simp only [cond_true] at h
        obtain ⟨h1, h2⟩ := hc _ _ _ _ _ h hg
        refine ⟨h1, fun n r a w hT hI o ho next Q hK => ?_⟩
        unfold hasBody at hb
        split at hb
        · rename_i fn hfn
          obtain ⟨c, hbody⟩ := Option.isSome_iff_exists.1 hb
          have hget : P.funcs[f]? = some fn := toList_get hfn
          have hrun : (execOp a.eval o).run P w = .ok (.enter f ⟨args.toList.map a.eval⟩) w := by
            have hmap : args.map a.eval = ⟨args.toList.map a.eval⟩ := by apply Array.ext'; simp
            have hname := hN.names f fn hget
            have hev : a.eval (.func f) = .func (.func f) #[] #[] := rfl
            simp only [execOp, ho, resolve, hev, Deferred.ofValue, Sem.run_bind, Sem.run_pure, Result.andThen_ok, invoke, callFunc, run_program, hget, hname, hbody, Option.isNone_some, hmap]
            simp
          unfold Oper.wp
          rw [hrun]
          refine (h2 r w _ hI (evL_den hT hl)).mono ?_
          rintro e w' ⟨r', u, rfl, hd, hI', hE⟩
          exact hK u r' w' hd hI' hE
        · cases hb
    · cases h
  · cases h
theorem step_ok (hN : NamesOk P X) {call : FuncId → List V → St → Option (V × St)} (hc : CallOk P U g call) {t : T} {nm : Option Nat} {op : Op} {st st' : St} {v : V} (h : stepOp P U X call t nm op st = some (v, st')) (hg : Good U g st') :
    Good U g st ∧ ∀ n r a w, TRel n g r t a → Inv g r st w → Does P g st st' v op r a w := by
  unfold stepOp at h
  split at h
  · rename_i p hp
    cases h
    obtain ⟨h1, h2, h3⟩ := pure_ok hN hp hg
    refine ⟨h1, fun n r a w hT hI o ho next Q hK => ?_⟩
    obtain ⟨u, hd, hy⟩ := h3 n r a hT
    unfold Oper.wp
    rw [hy o w ho]
    exact hK u r w hd (hI.same h2) (Ext.refl _ _)
  · split at h
    · rename_i v' hv
      cases h
      refine ⟨hg, fun n r a w hT hI o ho next Q hK => ?_⟩
      obtain ⟨u, hd, hy⟩ := load_ok hv hT hI.holds
      unfold Oper.wp
      rw [hy o ho]
      exact hK u r w hd hI (Ext.refl _ _)
    · exact eff_ok hN hc h hg
end
end Go.Proofs.Ytahedampmjfoeaa.SX
