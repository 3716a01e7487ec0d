/- The runner: known calls of package tri and of the document's own covariances. -/
import Derived.Test.YtfkeljolpcbbkaaPE
import Derived.Test.YtfkeljolpcbbkaaSE
import Derived.Test.YtfkeljolpcbbkaaTRX
import Derived.Test.YtfkeljolpcbbkaaRowE
namespace Go.Proofs.Ytfkeljolpcbbkaa.SX
open Go Go.RowKit
noncomputable section
def valsA : List (Nat × List A) → St → List A × St
  | [], st => ([], st)
  | (n, xa) :: r, st => match valA n xa st with
    | (a, st1) => match valsA r st1 with
      | (l, st2) => (a :: l, st2)
section
variable {g : Sg}
theorem valsA_ok : ∀ {l : List (Nat × List A)} {r : List A} {st st' : St}, valsA l st = (r, st') → Good U g st' → Good U g st ∧ Same st st' ∧ r.map (A.val g) = l.map fun x => U x.1 (x.2.map (A.val g))
  | [], r, st, st', h, hg => by
    cases h
    exact ⟨hg, Same.refl _, rfl⟩
  | (_, _) :: l, r, st, st', h, hg => by
    unfold valsA at h
    split at h
    rename_i a st1 h1
    split at h
    rename_i l' st2 h2
    cases h
    obtain ⟨k1, k2, k3⟩ := valsA_ok h2 hg
    obtain ⟨m1, m2, m3⟩ := valA_ok h1 k1
    exact ⟨m1, m2.trans k2, by rw [List.map_cons, List.map_cons, k3, m3]⟩
def flagV (n o : Nat) (outs : List (Nat × List A)) (ph : Nat) (xa : List A) (st : St) : Option (List A × St) :=
  match hget st.heap n with
  | none => none
  | some bk => match bif bk.kd.free then lkL bk.cells o else none with
    | some (.b h) => (match valsA outs st with
      | (l, st1) => match hitA ph xa st1 with
        | (rh, st2) => match orA h rh st2 with
          | (h', st3) => some (l, { st3 with heap := hset st3.heap n ⟨bk.cells.set o (.b h'), bk.ty, bk.kd⟩ }))
    | _ => none
theorem flagV_ok {n o ph : Nat} {outs : List (Nat × List A)} {xa l : List A} {st st' : St} (h : flagV n o outs ph xa st = some (l, st')) (hg : Good U g st') :
    Good U g st ∧ l.map (A.val g) = (outs.map fun x => U x.1 (x.2.map (A.val g))) ∧ ∀ r w x, Inv g r st w → V.Den g r (.w (.c (.p n o))) x →
      ∃ q hb, x = .pointer (some ⟨q, r.f n + o, none⟩) ∧ (r n = some q ∧ ∀ m, (hget st.heap m).isSome = true → r m = some q → m = n) ∧ Fl q (r.f n + o) hb w ∧
        ∀ w', FlW q (r.f n + o) (hb || ieq (U ph (xa.map (A.val g))) 1) w w' → Inv g r st' w' ∧ Ext r w r w' := by
  unfold flagV at h
  split at h
  · cases h
  · rename_i bk hbk
    split at h
    · rename_i hb hl
      obtain ⟨hfr, hl⟩ := free_lk hl
      split at h
      rename_i rv st1 h1
      split at h
      rename_i rh st2 h2
      split at h
      rename_i h' st3 h3
      cases h
      have hg3 : Good U g st3 := ⟨hg.defs, hg.cs, hg.ci, hg.rg, hg.ok⟩
      obtain ⟨g2, s3, e3⟩ := orA_ok h3 hg3
      obtain ⟨g1, s2, e2⟩ := hitA_ok h2 g2
      obtain ⟨g0, s1, e1⟩ := valsA_ok h1 g1
      have hs := (s1.trans s2).trans s3
      refine ⟨g0, e1, fun r w x hI hx => ?_⟩
      obtain ⟨q, hq, rfl⟩ := den_p hx
      have hro := ((hI.holds n bk q hbk hq).free hfr).ro
      obtain ⟨k1, k2⟩ := flag_mem (h' := h') (st' := { st3 with heap := hset st3.heap n ⟨bk.cells.set o (.b h'), bk.ty, bk.kd⟩ }) hbk hfr hl hI hq (by rw [hs.heap]) hs.next hs.resv
      refine ⟨q, _, rfl, ⟨hq, fun m hm hmq => (hI.inj n m q (isSome_of hbk) hm hro hq hmq).symm⟩, k1, fun w' hk => k2 w' ?_⟩
      rw [e3, e2]; exact hk
    · cases h
theorem dl_ints {r : Rho} : ∀ {l : List A}, (∀ a ∈ l, inK .i64 (a.val g)) → DL g r (l.map (C.i .i64)) ((l.map (A.val g)).map (Value.int .i64))
  | [], _ => DL.nil
  | a :: _, h => DL.cons (mk_i r (h a (List.mem_cons_self ..))) (dl_ints fun b hb => h b (List.mem_cons_of_mem _ hb))
theorem cells_row {l : List C} {xa : List A} {n : Nat} (hx : intsC l = some xa) (hn : xa.length = n) {r : Rho} {v : Value} (hv : V.Den g r (.w (.agg l)) v) :
    v = .agg (rowA n (cellF (xa.map (A.val g)))) ∧ ∀ a ∈ xa, inK .i64 (a.val g) := by
  obtain ⟨vs, rfl, hd⟩ := den_agg hv
  have hdl := hd.length
  have hlen := intsC_len hx
  refine ⟨?_, fun a ha => ?_⟩
  · rw [rowA_of (n := n) vs (cellF (xa.map (A.val g))) (by omega) (fun j hj => (intsC_ok hx hd j (by omega)).1)]
  · obtain ⟨j, hj, rfl⟩ := List.mem_iff_getElem.1 ha
    have := (intsC_ok hx hd j hj).2
    simpa [hj] using this

theorem cell_in {xa : List A} (h : ∀ a ∈ xa, inK .i64 (a.val g)) (k : Nat) : -9223372036854775808 ≤ cellF (xa.map (A.val g)) k ∧ cellF (xa.map (A.val g)) k ≤ 9223372036854775807 := by
  unfold cellF
  by_cases hk : k < xa.length
  · have e : (xa.map (A.val g)).getD k 0 = (xa[k]).val g := by simp [List.getD, hk]
    rw [e]
    exact inK_i64.1 (h _ (List.getElem_mem hk))
  · have e : (xa.map (A.val g)).getD k 0 = 0 := by simp [List.getD, hk]
    rw [e]; omega
theorem atV_i64 (f : Nat → Int) (i j : Int) : inK .i64 (atV f i j) := inK_i64.2 (by have := atV_bd f i j; omega)
def atS (args : List V) (st : St) : Option (V × St) := match args with
  | [.w (.c (.p n o)), .w (.agg l), .w (.c (.i .i64 i)), .w (.c (.i .i64 j))] => (match intsC l with
    | some xa => bif Nat.beq xa.length 300 then flagA n o 50 51 (i :: j :: xa) st else none
    | none => none)
  | _ => none
theorem at_case : CaseOk g 87 atS := fun args st v st' h hg => by
  unfold atS at h
  split at h
  · rename_i n o l i j
    split at h
    · rename_i xa hxa
      rw [nbeq, Bool.cond_decide] at h
      split at h
      · rename_i hlen
        refine ⟨(flag_call (f := 0) (vs := []) h hg).1, fun r w vs hI hv => ?_⟩
        match vs, hv with
        | [x, y, z, u], ⟨hx, hy, hz, hu, _⟩ =>
          obtain ⟨rfl, _⟩ := cells_row hxa hlen hy
          obtain rfl := den_i hz
          obtain rfl := den_i hu
          refine (flag_call h hg).2 r w x hI hx (atV_i64 _ _ _) fun q o hb _ hF => ?_
          simp only [U, List.map_cons, ieq_b2i]
          exact at_any q o _ _ _ hb w hF
      · cases h
    · cases h
  · cases h
def pickU (i j : A) (xa : List A) (st : St) : A × St := match i, j with
  | .k i, .k j => bif aboveB i j then (xa.getD (plc i j).toNat (.k 0), st) else bif decide (i = j) && inN i then (.k 1073741824, st) else (.k 0, st)
  | i, j => valA 52 (i :: j :: xa) st
theorem getD_val (xa : List A) (k : Nat) : (xa.getD k (.k 0)).val g = cellF (xa.map (A.val g)) k := by
  unfold cellF
  by_cases hk : k < xa.length
  · simp [List.getD, hk]
  · simp [List.getD, hk, A.val]
theorem pickU_ok {i j r : A} {xa : List A} {st st' : St} (h : pickU i j xa st = (r, st')) (hg : Good U g st') : Good U g st ∧ Same st st' ∧ r.val g = uF (cellF (xa.map (A.val g))) (i.val g) (j.val g) := by
  unfold pickU at h
  split at h
  · rename_i i j
    refine ⟨?_, ?_, ?_⟩
    · cases h1 : aboveB i j <;> rw [h1] at h
      · cases h2 : (decide (i = j) && inN i) <;> rw [h2] at h <;> cases h <;> exact hg
      · cases h; exact hg
    · cases h1 : aboveB i j <;> rw [h1] at h
      · cases h2 : (decide (i = j) && inN i) <;> rw [h2] at h <;> cases h <;> exact Same.refl _
      · cases h; exact Same.refl _
    · show _ = uF _ i j
      unfold uF
      cases h1 : aboveB i j <;> rw [h1] at h
      · cases h2 : (decide (i = j) && inN i) <;> rw [h2] at h <;> cases h <;> rfl
      · cases h; exact getD_val _ _
  · obtain ⟨h1, h2, h3⟩ := valA_ok h hg
    exact ⟨h1, h2, h3⟩
def uS (args : List V) (st : St) : Option (V × St) := match args with
  | [.w (.agg l), .w (.c (.i .i64 i)), .w (.c (.i .i64 j))] => (match intsC l with
    | some xa => bif Nat.beq xa.length 300 then (match pickU i j xa st with | (r, st1) => some (.w (.c (.i .i64 r)), st1)) else none
    | none => none)
  | _ => none
theorem u_case : CaseOk g 85 uS := fun args st v st' h hg => by
  unfold uS at h
  split at h
  · rename_i l i j
    split at h
    · rename_i xa hxa
      rw [nbeq, Bool.cond_decide] at h
      split at h
      · rename_i hlen
        split at h
        rename_i a st1 h1
        cases h
        obtain ⟨g1, s1, e1⟩ := pickU_ok h1 hg
        refine ⟨g1, fun r w vs hI hv => ?_⟩
        match vs, hv with
        | [y, z, u], ⟨hy, hz, hu, _⟩ =>
          obtain ⟨rfl, hin⟩ := cells_row hxa hlen hy
          obtain rfl := den_i hz
          obtain rfl := den_i hu
          refine (triU_any _ _ _ w).mono fun e w' hp => ?_
          obtain ⟨rfl, hb⟩ := hp
          obtain ⟨k1, k2⟩ := below_mem (hI.same s1) hb
          exact ⟨r, _, rfl, e1 ▸ mk_i r (by rw [e1]; exact inK_i64.2 (uF_bd (cell_in hin) _ _)), k1, k2⟩
      · cases h
    · cases h
  · cases h
def goodS (args : List V) (st : St) : Option (V × St) := match args with
  | [.w (.agg l)] => (match intsC l with
    | some xa => bif Nat.beq xa.length 300 then (match hitA 54 xa st with | (r, st1) => some (.w (.c (.b r)), st1)) else none
    | none => none)
  | _ => none
theorem good_case : CaseOk g 83 goodS := fun args st v st' h hg => by
  unfold goodS at h
  split at h
  · rename_i l
    split at h
    · rename_i xa hxa
      rw [nbeq, Bool.cond_decide] at h
      split at h
      · rename_i hlen
        split at h
        rename_i a st1 h1
        cases h
        obtain ⟨g1, s1, e1⟩ := hitA_ok h1 hg
        refine ⟨g1, fun r w vs hI hv => ?_⟩
        match vs, hv with
        | [y], ⟨hy, _⟩ =>
          obtain ⟨rfl, _⟩ := cells_row hxa hlen hy
          refine (good_any _ w).mono fun e w' hp => ?_
          obtain ⟨rfl, hb⟩ := hp
          obtain ⟨k1, k2⟩ := below_mem (hI.same s1) hb
          have e2 : ieq (a.val g) 1 = goodB (cellF (xa.map (A.val g))) := by rw [e1]; simp only [U, ieq_b2i]
          exact ⟨r, _, rfl, e2 ▸ mk_b r a, k1, k2⟩
      · cases h
    · cases h
  · cases h
def condO : Nat → List A → List (Nat × List A)
  | _, [] => []
  | k, a :: r => (bif Nat.blt k 276 then (0, [a]) else (10, [a, .k 1, .k 72057594037927936])) :: condO (k + 1) r
theorem condO_ok : ∀ (xa : List A) (k : Nat) (f : Nat → Int), (∀ j, j < xa.length → (xa.getD j (.k 0)).val g = f (k + j)) →
    (condO k xa).map (fun x => U x.1 (x.2.map (A.val g))) = (List.range xa.length).map fun j => condF f (k + j)
  | [], _, _, _ => rfl
  | a :: r, k, f, h => by
    have h0 := h 0 (by simp)
    have ih := condO_ok r (k + 1) f (fun j hj => by
      have := h (j + 1) (by simpa using hj)
      simpa [Nat.add_assoc, Nat.add_comm 1 j] using this)
    rw [condO, List.map_cons, ih, List.length_cons, List.range_succ_eq_map, List.map_cons, List.map_map]
    congr 1
    · simp only [List.getD_cons_zero, Nat.add_zero] at h0
      show U _ _ = condF f k
      unfold condF
      rw [nblt, Bool.cond_decide]
      by_cases hk : k < 276
      · rw [if_pos hk, if_pos hk, ← h0]; rfl
      · rw [if_neg hk, if_neg hk, ← h0]; rfl
    · refine List.map_congr_left fun j _ => ?_
      show condF f (k + 1 + j) = condF f (k + (j + 1))
      congr 1; omega
theorem cond_i64 {f : Nat → Int} (k : Nat) : inK .i64 (condF f k) := by
  refine inK_i64.2 ?_
  unfold condF
  split
  · have := satv_lo (f k); have := satv_hi (f k); omega
  · unfold clampv; (repeat' split) <;> omega
theorem getD_cell (xa : List A) (j : Nat) : (xa.getD j (.k 0)).val g = cellF (xa.map (A.val g)) j := getD_val xa j
theorem mk_row {r : Rho} {l : List A} {n : Nat} {F : Nat → Int} (hl : l.map (A.val g) = (List.range n).map F) (hin : ∀ k, inK .i64 (F k)) : V.Den g r (.w (.agg (l.map (C.i .i64)))) (.agg (rowA n F)) := by
  rw [rowA_list, ← hl]
  refine ⟨_, rfl, dl_ints fun a ha => ?_⟩
  have h1 : a.val g ∈ l.map (A.val g) := List.mem_map_of_mem ha
  rw [hl] at h1
  obtain ⟨k, _, hk⟩ := List.mem_map.1 h1
  rw [← hk]; exact hin k
def condS (args : List V) (st : St) : Option (V × St) := match args with
  | [.w (.c (.p n o)), .w (.agg l)] => (match intsC l with
    | some xa => bif Nat.beq xa.length 300 then (match flagV n o (condO 0 xa) 53 xa st with
      | some (r, st1) => some (.w (.agg (r.map (C.i .i64))), st1)
      | none => none) else none
    | none => none)
  | _ => none
theorem cond_case : CaseOk g 89 condS := fun args st v st' h hg => by
  unfold condS at h
  split at h
  · rename_i n o l
    split at h
    · rename_i xa hxa
      rw [nbeq, Bool.cond_decide] at h
      split at h
      · rename_i hlen
        split at h
        · rename_i ra st1 h1
          cases h
          obtain ⟨g1, e1, k1⟩ := flagV_ok h1 hg
          refine ⟨g1, fun r w vs hI hv => ?_⟩
          match vs, hv with
          | [x, y], ⟨hx, hy, _⟩ =>
            obtain ⟨rfl, _⟩ := cells_row hxa hlen hy
            obtain ⟨q, hb, rfl, _, hF, hK⟩ := k1 r w x hI hx
            refine (condition_any q _ _ _ w hF).mono fun e w' hp => ?_
            obtain ⟨rfl, hk⟩ := hp
            obtain ⟨m1, m2⟩ := hK w' (flag_is (by simp only [U, ieq_b2i]) hk)
            refine ⟨r, _, rfl, mk_row ?_ (fun k => cond_i64 k), m1, m2⟩
            rw [e1, condO_ok xa 0 (cellF (xa.map (A.val g))) (fun j _ => by rw [Nat.zero_add]; exact getD_cell xa j), hlen]
            simp only [Nat.zero_add]
        · cases h
      · cases h
    · cases h
  · cases h
def diagO (xa : List A) : Nat → List (Nat × List A)
  | 0 => []
  | k + 1 => diagO xa k ++ [(50, .k (.ofNat k) :: .k (.ofNat k) :: xa)]
theorem diagO_ok (xa : List A) : ∀ n, (diagO xa n).map (fun x => U x.1 (x.2.map (A.val g))) = (List.range n).map fun k : Nat => atV (cellF (xa.map (A.val g))) (k : Int) (k : Int)
  | 0 => rfl
  | n + 1 => by
    rw [diagO, List.map_append, diagO_ok xa n, List.range_succ, List.map_append]
    rfl
def diagS (args : List V) (st : St) : Option (V × St) := match args with
  | [.w (.c (.p n o)), .w (.agg l)] => (match intsC l with
    | some xa => bif Nat.beq xa.length 300 then (match flagV n o (diagO xa 24) 57 xa st with
      | some (r, st1) => some (.w (.agg (r.map (C.i .i64))), st1)
      | none => none) else none
    | none => none)
  | _ => none
theorem diag_case : CaseOk g 91 diagS := fun args st v st' h hg => by
  unfold diagS at h
  split at h
  · rename_i n o l
    split at h
    · rename_i xa hxa
      rw [nbeq, Bool.cond_decide] at h
      split at h
      · rename_i hlen
        split at h
        · rename_i ra st1 h1
          cases h
          obtain ⟨g1, e1, k1⟩ := flagV_ok h1 hg
          refine ⟨g1, fun r w vs hI hv => ?_⟩
          match vs, hv with
          | [x, y], ⟨hx, hy, _⟩ =>
            obtain ⟨rfl, _⟩ := cells_row hxa hlen hy
            obtain ⟨q, hb, rfl, _, hF, hK⟩ := k1 r w x hI hx
            refine (diag_any q _ _ _ w hF).mono fun e w' hp => ?_
            obtain ⟨rfl, hk⟩ := hp
            obtain ⟨m1, m2⟩ := hK w' (flag_is (by simp only [U, ieq_b2i]) hk)
            refine ⟨r, _, rfl, mk_row ?_ (fun k => ?_), m1, m2⟩
            · rw [e1, diagO_ok]
              refine List.map_congr_left fun k hk => ?_
              unfold diagF
              rw [if_pos (List.mem_range.1 hk)]
            · unfold diagF
              split
              · exact atV_i64 _ _ _
              · exact inK_i64.2 (by omega)
        · cases h
      · cases h
    · cases h
  · cases h
def setO (i j v : A) : Nat → List A → List (Nat × List A)
  | _, [] => []
  | k, a :: r => (56, [i, j, v, .k (.ofNat k), a]) :: setO i j v (k + 1) r
theorem setO_ok (i j v : A) : ∀ (xa : List A) (k : Nat) (f : Nat → Int), (∀ m, m < xa.length → (xa.getD m (.k 0)).val g = f (k + m)) →
    (setO i j v k xa).map (fun x => U x.1 (x.2.map (A.val g))) = (List.range xa.length).map fun m => setC (i.val g) (j.val g) (v.val g) ((k + m : Nat) : Int) (f (k + m))
  | [], _, _, _ => rfl
  | a :: r, k, f, h => by
    have h0 := h 0 (by simp)
    have ih := setO_ok i j v r (k + 1) f (fun m hm => by
      have := h (m + 1) (by simpa using hm)
      simpa [Nat.add_assoc, Nat.add_comm 1 m] using this)
    rw [setO, List.map_cons, ih, List.length_cons]
    conv => rhs; rw [List.range_succ_eq_map, List.map_cons, List.map_map]
    congr 1
    · simp only [List.getD_cons_zero, Nat.add_zero] at h0
      show setC (i.val g) (j.val g) (v.val g) (k : Int) (a.val g) = _
      rw [h0]; rfl
    · refine List.map_congr_left fun m _ => ?_
      show setC _ _ _ ((k + 1 + m : Nat) : Int) (f (k + 1 + m)) = setC _ _ _ ((k + (m + 1) : Nat) : Int) (f (k + (m + 1)))
      rw [show k + 1 + m = k + (m + 1) by omega]
def setA (i j v : A) (xa : List A) (st : St) : List A × St := match i, j with
  | .k p, .k q => bif aboveB p q then (xa.set (plc p q).toNat v, st) else (xa, st)
  | i, j => (match valsA (setO i j v 0 (xa.take 276)) st with
    | (l, st1) => (l ++ xa.drop 276, st1))
def setF (f : Nat → Int) (i j v : Int) : Nat → Int := fun k => setC i j v (k : Int) (f k)
theorem setA_ok {i j v : A} {xa l : List A} {st st' : St} (h : setA i j v xa st = (l, st')) (hg : Good U g st') :
    Good U g st ∧ Same st st' ∧ l.map (A.val g) = (List.range xa.length).map (setF (cellF (xa.map (A.val g))) (i.val g) (j.val g) (v.val g)) := by
  have hself : xa.map (A.val g) = (List.range xa.length).map (cellF (xa.map (A.val g))) := by
    refine List.ext_getElem? fun m => ?_
    by_cases hm : m < xa.length
    · simp [hm, cellF]
    · simp [hm]
  unfold setA at h
  split at h
  · rename_i p q
    cases hc : aboveB p q
    · rw [hc, cond_false] at h
      cases h
      refine ⟨hg, Same.refl _, ?_⟩
      refine hself.trans (List.map_congr_left fun m _ => ?_)
      show _ = setC p q (v.val g) m _
      unfold setC
      rw [hc, if_neg (by simp)]
    · rw [hc, cond_true] at h
      cases h
      obtain ⟨h0, h1, h2⟩ := (aboveB_iff p q).1 hc
      obtain ⟨k0, k1, k2, k3⟩ := plc_bd h0 h1 h2
      refine ⟨hg, Same.refl _, ?_⟩
      refine List.ext_getElem? fun m => ?_
      rw [List.map_set]
      by_cases hm : m < xa.length
      · have er : ((List.range xa.length).map (setF (cellF (xa.map (A.val g))) ((A.k p).val g) ((A.k q).val g) (v.val g)))[m]? = some (setC p q (v.val g) m (cellF (xa.map (A.val g)) m)) := by
          rw [List.getElem?_map, List.getElem?_range hm]; rfl
        rw [List.getElem?_set, er]
        unfold setC
        rw [hc]
        by_cases e : (plc p q).toNat = m
        · rw [if_pos e, if_pos (by rw [List.length_map]; omega), if_pos ⟨rfl, by omega⟩]
        · rw [if_neg e, if_neg (by omega)]
          simp [hm, cellF]
      · simp [hm]
  · split at h
    rename_i l0 st1 h0
    cases h
    obtain ⟨h1, h2, h3⟩ := valsA_ok h0 hg
    refine ⟨h1, h2, ?_⟩
    have e3 : l0.map (A.val g) = (List.range (xa.take 276).length).map (setF (cellF (xa.map (A.val g))) (i.val g) (j.val g) (v.val g)) := by
      rw [h3, setO_ok i j v (xa.take 276) 0 (cellF (xa.map (A.val g))) (fun m hm => by
        rw [Nat.zero_add, ← getD_cell xa m]
        simp only [List.length_take] at hm
        simp [List.getD, show m < 276 by omega])]
      refine List.map_congr_left fun m _ => ?_
      rw [Nat.zero_add]; rfl
    rw [List.map_append, e3]
    refine List.ext_getElem? fun m => ?_
    by_cases hm : m < (xa.take 276).length
    · have hm2 : m < xa.length := by simp only [List.length_take] at hm; omega
      rw [List.getElem?_append_left (by simpa using hm)]
      simp only [List.getElem?_map, List.getElem?_range hm, List.getElem?_range hm2]
    · rw [List.getElem?_append_right (by simpa using hm)]
      simp only [List.length_map, List.length_range]
      have hd : (xa.map (A.val g))[m]? = ((List.range xa.length).map (cellF (xa.map (A.val g))))[m]? := by rw [← hself]
      by_cases hl : m < xa.length
      · have hlen : (xa.take 276).length = 276 := by simp only [List.length_take] at hm ⊢; omega
        rw [hlen] at hm ⊢
        have e4 : ((xa.drop 276).map (A.val g))[m - 276]? = (xa.map (A.val g))[m]? := by
          rw [List.getElem?_map, List.getElem?_map, List.getElem?_drop, show 276 + (m - 276) = m by omega]
        rw [e4, hd]
        simp only [List.getElem?_map, List.getElem?_range hl, Option.map_some]
        congr 1
        unfold setF setC
        cases hc : aboveB (i.val g) (j.val g)
        · rw [if_neg (by simp)]
        · obtain ⟨q0, q1, q2⟩ := (aboveB_iff _ _).1 hc
          have := plc_bd q0 q1 q2
          rw [if_neg (by omega)]
      · rw [List.getElem?_eq_none (by simp only [List.length_map, List.length_drop, List.length_take] at hm ⊢; omega), List.getElem?_eq_none (by simpa using hl)]
theorem set_row (f : Nat → Int) (i j v : Int) (w : World) : Calls Try.prog 92 #[.agg (rowA 300 f), .int .i64 i, .int .i64 j, .int .i64 v] w fun e w' => e = .returned (.agg (rowA 300 (setF f i j v))) ∧ Below w.heap.size w w' := by
  cases hc : aboveB i j
  · refine (set_out f i j v w hc).mono ?_
    rintro e w' ⟨rfl, hb⟩
    refine ⟨?_, hb⟩
    rw [rowA_congr (n := 300) (f := setF f i j v) (g := f) fun k _ => by unfold setF setC; rw [hc, if_neg (by simp)]]
  · obtain ⟨h0, h1, h2⟩ := (aboveB_iff i j).1 hc
    obtain ⟨k0, k1, k2, k3⟩ := plc_bd h0 h1 h2
    refine (set_in f i j v w h0 h1 h2).mono ?_
    rintro e w' ⟨rfl, hb⟩
    refine ⟨?_, hb⟩
    rw [rowA_congr (n := 300) (f := setF f i j v) (g := upd f (plc i j).toNat v) fun k _ => by
      unfold setF setC upd
      rw [hc]
      by_cases e : k = (plc i j).toNat
      · rw [if_pos e, if_pos ⟨rfl, by omega⟩]
      · rw [if_neg e, if_neg (by omega)]]
def setS (args : List V) (st : St) : Option (V × St) := match args with
  | [.w (.agg l), .w (.c (.i .i64 i)), .w (.c (.i .i64 j)), .w (.c (.i .i64 v))] => (match intsC l with
    | some xa => bif Nat.beq xa.length 300 then (match setA i j v xa st with | (r, st1) => some (.w (.agg (r.map (C.i .i64))), st1)) else none
    | none => none)
  | _ => none
theorem set_case : CaseOk g 92 setS := fun args st v st' h hg => by
  unfold setS at h
  split at h
  · rename_i l i j u
    split at h
    · rename_i xa hxa
      rw [nbeq, Bool.cond_decide] at h
      split at h
      · rename_i hlen
        split at h
        rename_i ra st1 h1
        cases h
        obtain ⟨g1, s1, e1⟩ := setA_ok h1 hg
        refine ⟨g1, fun r w vs hI hv => ?_⟩
        match vs, hv with
        | [y, z, t, m], ⟨hy, hz, ht, hm, _⟩ =>
          obtain ⟨rfl, hin⟩ := cells_row hxa hlen hy
          have i1 := den_in hm
          obtain rfl := den_i hz
          obtain rfl := den_i ht
          obtain rfl := den_i hm
          refine (set_row _ _ _ _ w).mono fun e w' hp => ?_
          obtain ⟨rfl, hb⟩ := hp
          obtain ⟨k1, k2⟩ := below_mem (hI.same s1) hb
          refine ⟨r, _, rfl, mk_row (by rw [e1, hlen]) (fun k => ?_), k1, k2⟩
          unfold setF setC
          split
          · exact i1
          · exact inK_i64.2 (cell_in hin k)
      · cases h
    · cases h
  · cases h
theorem most_bd {f : Nat → Int} (h : ∀ k, -9223372036854775808 ≤ f k ∧ f k ≤ 9223372036854775807) : ∀ n, -9223372036854775808 ≤ mostF f n ∧ mostF f n ≤ 9223372036854775807
  | 0 => h _
  | n + 1 => by
    have h1 := most_bd h n
    have h2 := h (276 + (n + 1))
    rw [mostF]
    omega
def mostS (args : List V) (st : St) : Option (V × St) := match args with
  | [.w (.agg l)] => (match intsC l with
    | some xa => bif Nat.beq xa.length 300 then (match valA 55 xa st with | (r, st1) => some (.w (.c (.i .i64 r)), st1)) else none
    | none => none)
  | _ => none
theorem most_case : CaseOk g 93 mostS := fun args st v st' h hg => by
  unfold mostS at h
  split at h
  · rename_i l
    split at h
    · rename_i xa hxa
      rw [nbeq, Bool.cond_decide] at h
      split at h
      · rename_i hlen
        split at h
        rename_i a st1 h1
        cases h
        obtain ⟨g1, s1, e1⟩ := valA_ok h1 hg
        refine ⟨g1, fun r w vs hI hv => ?_⟩
        match vs, hv with
        | [y], ⟨hy, _⟩ =>
          obtain ⟨rfl, hin⟩ := cells_row hxa hlen hy
          refine (most_any _ w).mono fun e w' hp => ?_
          obtain ⟨rfl, hb⟩ := hp
          obtain ⟨k1, k2⟩ := below_mem (hI.same s1) hb
          have e2 : a.val g = mostF (cellF (xa.map (A.val g))) 23 := e1
          exact ⟨r, _, rfl, e2 ▸ mk_i r (by rw [e2]; exact inK_i64.2 (most_bd (cell_in hin) _)), k1, k2⟩
      · cases h
    · cases h
  · cases h
def newO : Nat → List A → List (Nat × List A)
  | 0, _ => []
  | k + 1, [] => (0, [.k 1]) :: newO k []
  | k + 1, a :: r => (10, [a, .k 1, .k 72057594037927936]) :: newO k r
theorem newO_ok : ∀ (k : Nat) (xa : List A) (l : Nat → Int), (∀ m, m < xa.length → (xa.getD m (.k 0)).val g = l m) →
    (newO k xa).map (fun x => U x.1 (x.2.map (A.val g))) = (List.range k).map fun m => if m < xa.length then clampv (l m) 1 72057594037927936 else 1
  | 0, _, _, _ => rfl
  | k + 1, [], l, h => by
    have ih := newO_ok k [] l (fun m hm => absurd hm (by simp))
    rw [newO, List.map_cons, ih]
    conv => rhs; rw [List.range_succ_eq_map, List.map_cons, List.map_map]
    congr 1
  | k + 1, a :: r, l, h => by
    have h0 := h 0 (by simp)
    have ih := newO_ok k r (fun m => l (m + 1)) (fun m hm => by
      have := h (m + 1) (by simpa using hm)
      simpa using this)
    rw [newO, List.map_cons, ih]
    conv => rhs; rw [List.range_succ_eq_map, List.map_cons, List.map_map]
    congr 1
    · simp only [List.getD_cons_zero] at h0
      show clampv (a.val g) 1 72057594037927936 = _
      rw [if_pos (by simp), h0]
    · refine List.map_congr_left fun m _ => ?_
      simp
def zerosA : Nat → List A
  | 0 => []
  | k + 1 => .k 0 :: zerosA k
theorem zerosA_ok : ∀ k, (zerosA k).map (A.val g) = (List.range k).map fun _ => 0
  | 0 => rfl
  | k + 1 => by
    rw [zerosA, List.map_cons, zerosA_ok k, List.range_succ_eq_map, List.map_cons, List.map_map]
    rfl
def newT (n o : Nat) (xa : List A) (st : St) : Option (V × St) := match flagV n o (newO 24 xa) 58 xa st with
  | some (r, st1) => some (.w (.agg ((zerosA 276 ++ r).map (C.i .i64))), st1)
  | none => none
def newS (args : List V) (st : St) : Option (V × St) := match args with
  | [.w (.c (.p n o)), .w (.c .sn)] => newT n o [] st
  | [.w (.c (.p n o)), .w (.c x)] => (match slOf x with
    | some (m, mo, l) => bif Nat.beq m n then none else bif Nat.ble l 1000 then (match intsAt st.heap m mo l with
      | some xa => newT n o xa st
      | none => none) else none
    | none => none)
  | _ => none
theorem newT_ok {n o : Nat} {xa : List A} {st st' : St} {v : V} {vs : List Value} (h : newT n o xa st = some (v, st')) (hg : Good U g st') :
    Good U g st ∧ ∀ r w x, Inv g r st w → V.Den g r (.w (.c (.p n o))) x →
      (∀ q o hb, (r n = some q ∧ ∀ m, (hget st.heap m).isSome = true → r m = some q → m = n) → Fl q o hb w →
        Calls Try.prog 153 ⟨.pointer (some ⟨q, o, none⟩) :: vs⟩ w fun e w' => e = .returned (.agg (rowA 300 (newF (cellF (xa.map (A.val g))) xa.length))) ∧ FlW q o (hb || newH (cellF (xa.map (A.val g))) xa.length 24) w w') →
      Said g 153 (x :: vs) st' v r w := by
  unfold newT at h
  split at h
  · rename_i ra st1 h1
    cases h
    obtain ⟨g1, e1, k1⟩ := flagV_ok h1 hg
    refine ⟨g1, fun r w x hI hx hC => ?_⟩
    obtain ⟨q, hb, rfl, hq, hF, hK⟩ := k1 r w x hI hx
    refine (hC q _ hb hq hF).mono fun e w' hp => ?_
    obtain ⟨rfl, hk⟩ := hp
    obtain ⟨m1, m2⟩ := hK w' (flag_is (by simp only [U, ieq_b2i, List.length_map]) hk)
    refine ⟨r, _, rfl, mk_row ?_ (fun k => ?_), m1, m2⟩
    · rw [List.map_append, zerosA_ok, e1, newO_ok 24 xa (cellF (xa.map (A.val g))) (fun m _ => getD_cell xa m)]
      refine List.ext_getElem? fun m => ?_
      by_cases h1 : m < 276
      · rw [List.getElem?_append_left (by simpa using h1)]
        simp [h1, newF, show m < 300 by omega]
      · rw [List.getElem?_append_right (by simp; omega)]
        simp only [List.length_map, List.length_range]
        by_cases h2 : m < 300
        · simp [h1, newF, h2, show m - 276 < 24 by omega]
        · simp [h2, show ¬ m - 276 < 24 by omega]
    · refine inK_i64.2 ?_
      unfold newF
      split
      · omega
      · split
        · unfold clampv; (repeat' split) <;> omega
        · omega
  · cases h
theorem new_case : CaseOk g 153 newS := fun args st v st' h hg => by
  unfold newS at h
  split at h
  · rename_i n o
    refine ⟨(newT_ok (vs := []) h hg).1, fun r w vs hI hv => ?_⟩
    match vs, hv with
    | [x, y], ⟨hx, hy, _⟩ =>
      obtain rfl := den_sn hy
      refine (newT_ok h hg).2 r w x hI hx fun q o hb _ hF => ?_
      exact new_any q o none 0 0 _ hb w hF (fun hn => absurd hn (by simp)) (by simp)
  · rename_i n o x _
    split at h
    · rename_i m mo l hsl
      rw [nbeq, Bool.cond_decide] at h
      split at h
      · cases h
      · rename_i hmn
        rw [nble, Bool.cond_decide] at h
        split at h
        · rename_i hl
          split at h
          · rename_i xa hxa
            refine ⟨(newT_ok (vs := []) h hg).1, fun r w vs hI hv => ?_⟩
            match vs, hv with
            | [x, y], ⟨hx, hy, _⟩ =>
              obtain ⟨q1, c, hq1, rfl⟩ := den_sl hsl hy
              obtain ⟨e1, sm, p1, k1, k2, k3⟩ := intsAt_ok hxa hI hq1
              rw [hq1] at k1; cases k1
              refine (newT_ok h hg).2 r w x hI hx fun q o hb hq hF => ?_
              have := new_any q o (some ⟨q1, r.f m + mo, none⟩) l c (cellF (xa.map (A.val g))) hb w hF (fun _ => ⟨q1, _, rfl, k2, (fun e => hmn (hq.2 m sm (e ▸ hq1))), k3⟩) (by omega)
              rw [e1]
              exact this
          · cases h
        · cases h
    · cases h
  · cases h
end
end
end Go.Proofs.Ytfkeljolpcbbkaa.SX
