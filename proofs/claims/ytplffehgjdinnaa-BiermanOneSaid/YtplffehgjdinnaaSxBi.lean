/- The runner: calls of package bierman whose arguments are numbers. -/
import Derived.Test.YtplffehgjdinnaaSxTr
import Derived.Test.YtplffehgjdinnaaBieE
import Derived.Test.YtplffehgjdinnaaBieL
namespace Go.Proofs.Ytplffehgjdinnaa
open Go.RowKit
theorem mulv_bd (a b : Int) : -1152921504606846976 ≤ mulv a b ∧ mulv a b ≤ 1152921504606846976 := ⟨satv_lo _, satv_hi _⟩
theorem quov_bd2 (a b : Int) : -1152921504606846976 ≤ quov a b ∧ quov a b ≤ 1152921504606846976 := by
  unfold quov divv
  split
  · exact side_bd _
  · exact ⟨satv_lo _, satv_hi _⟩
theorem bD_bd (p a : Nat → Int) (j : Nat) : 1 ≤ bD p a j ∧ bD p a j ≤ 72057594037927936 := by
  unfold bD clampv
  (repeat' split) <;> omega
theorem condF_bd (p : Nat → Int) (k : Nat) : -1152921504606846976 ≤ condF p k ∧ condF p k ≤ 1152921504606846976 := by
  unfold condF
  split
  · exact ⟨satv_lo _, satv_hi _⟩
  · unfold clampv; (repeat' split) <;> omega
theorem nexO_bd (p b : Nat → Int) {o : Nat → Int} (x : Int) (j : Nat) (h : ∀ k, -1152921504606846976 ≤ o k ∧ o k ≤ 1152921504606846976) : ∀ t k, -1152921504606846976 ≤ nexO p b o x j t k ∧ nexO p b o x j t k ≤ 1152921504606846976
  | 0, k => h k
  | t + 1, k => by
    rw [nexO]; unfold upd
    split
    · exact ⟨satv_lo _, satv_hi _⟩
    · exact nexO_bd p b x j h t k
theorem lrO_bd {p : Nat → Int} (f v a : Nat → Int) (h : ∀ k, -1152921504606846976 ≤ p k ∧ p k ≤ 1152921504606846976) : ∀ n k, -1152921504606846976 ≤ lrO p f v a n k ∧ lrO p f v a n k ≤ 1152921504606846976
  | 0, k => h k
  | n + 1, k => by
    rw [lrO]
    refine nexO_bd _ _ _ _ (fun q => ?_) _ _
    unfold upd
    split
    · have := bD_bd p a n; omega
    · exact lrO_bd f v a h n q
theorem updF_bd (p h : Nat → Int) (r : Int) (k : Nat) : -1152921504606846976 ≤ updF p h r k ∧ updF p h r k ≤ 1152921504606846976 := lrO_bd _ _ _ (condF_bd p) _ _
theorem bA_bd (p h : Nat → Int) (r : Int) (hr : 1 ≤ r ∧ r ≤ 72057594037927936) : ∀ j, -1152921504606846976 ≤ bA p h r j ∧ bA p h r j ≤ 1152921504606846976
  | 0 => by unfold bA; omega
  | j + 1 => ⟨satv_lo _, satv_hi _⟩
theorem rV_bd (r : Int) : 1 ≤ rV r ∧ rV r ≤ 72057594037927936 := by
  unfold rV clampv
  (repeat' split) <;> omega
theorem updS_bd (p h : Nat → Int) (r : Int) : -1152921504606846976 ≤ updS p h r ∧ updS p h r ≤ 1152921504606846976 := bA_bd _ _ _ (rV_bd r) _
/-- What is measured alone, by lists. -/
def innL (hs : List Int) : List (List Int) → List Int → Int → Int × Bool
  | col :: cs, d :: ds, a =>
    forceI (dotl (hs.take (col.length + 1)) (col ++ [1073741824])) fun f => forceI (mulv d f) fun v => forceI (mulv f v) fun m => forceI (addv a m) fun a1 =>
    forceB (dothl (hs.take (col.length + 1)) (col ++ [1073741824]) || mulh d f || mulh f v || addh a m) fun hh => match innL hs cs ds a1 with
    | (s, h) => (s, hh || h)
  | _, _, a => (a, false)
theorem innL_ok (p h : Nat → Int) (r : Int) : ∀ (n j : Nat), j + n = 24 →
    innL ((List.range 24).map h) ((List.range' j n).map fun k => (List.range k).map (colU p k)) ((List.range' j n).map fun k => p (276 + k)) (bA p h r j) = (bA p h r 24, (List.range' j n).any fun k => lookH1 p h r k)
  | 0, j, e => by
    obtain rfl : j = 24 := by omega
    simp [innL]
  | n + 1, j, e => by
    have hj : j < 24 := by omega
    have ih := innL_ok p h r n (j + 1) (by omega)
    simp only [List.range'_succ, List.map_cons, List.any_cons]
    rw [innL]
    simp only [forceI_eq, forceB_eq, List.length_map, List.length_range]
    have e1 : ((List.range 24).map h).take (j + 1) = (List.range (j + 1)).map h := by
      rw [← List.map_take, List.take_range, Nat.min_eq_left (by omega)]
    have e2 : (List.range j).map (colU p j) ++ [1073741824] = (List.range (j + 1)).map (colU p j) := by
      rw [List.range_succ, List.map_append, List.map_singleton, colU_one p hj]
    rw [e1, e2, dotl_range, dothl_range]
    rw [show dotv h (colU p j) (j + 1) = bF p h j from rfl, show mulv (p (276 + j)) (bF p h j) = bV p h j from rfl, show addv (bA p h r j) (mulv (bF p h j) (bV p h j)) = bA p h r (j + 1) from rfl, ih]
    unfold lookH1
    dsimp only
def innZ (l : List Int) : Int × Bool :=
  forceL (mapN (condF (cellL l)) (List.range 300)) fun cp =>
  forceL (mapN (fun k => satv (cellL l (300 + k))) (List.range 24)) fun hs =>
  forceLL (mapLL (fun k => mapN (fun t => colU (cellL cp) k t) (List.range k)) (List.range 24)) fun cols =>
  forceL (mapN (fun k => cellL cp (276 + k)) (List.range 24)) fun ds =>
  match innL hs cols ds (rV (cellL l 324)) with
  | (s, h) => (s, condH (cellL l) || ((List.range 24).any (fun k => sath (cellL l (300 + k))) || (rH (cellL l 324) || h)))
theorem innZ_ok (l : List Int) : innZ l = (updS (cellL l) (fun k => cellL l (300 + k)) (cellL l 324), innH (cellL l) (fun k => cellL l (300 + k)) (cellL l 324)) := by
  unfold innZ
  simp only [forceL_eq, forceLL_eq, mapN_eq, mapLL_eq]
  generalize hp : cellL l = p
  generalize hh : (fun k => p (300 + k)) = h
  generalize hr : p 324 = r
  have hh' : ∀ k, p (300 + k) = h k := fun k => by rw [← hh]
  simp only [hh']
  have ec : ((List.range 24).map fun k => (List.range k).map fun t => colU (cellL ((List.range 300).map (condF p))) k t) = (List.range' 0 24).map fun k => (List.range k).map (colU (condF p) k) := by
    rw [← List.range_eq_range']
    refine List.map_congr_left fun k hk => List.map_congr_left fun t ht => ?_
    exact uF_congr (fun m hm => cellL_range _ (by omega)) _ _
  have ed : ((List.range 24).map fun k => cellL ((List.range 300).map (condF p)) (276 + k)) = (List.range' 0 24).map fun k => condF p (276 + k) := by
    rw [← List.range_eq_range']
    refine List.map_congr_left fun k hk => ?_
    have hk : k < 24 := by simpa using hk
    exact cellL_range _ (by omega)
  have es : ((List.range 24).map fun k => satv (h k)) = (List.range 24).map (satH h) := rfl
  have := innL_ok (condF p) (satH h) (rV r) 24 0 rfl
  rw [show bA (condF p) (satH h) (rV r) 0 = rV r from rfl] at this
  rw [ec, ed, es, this]
  dsimp only
  rw [← List.range_eq_range', anyN_range, anyN_range]
  unfold innH lookH updS
  refine Prod.ext ?_ ?_
  · dsimp only
  · dsimp only
    simp only [Bool.or_assoc]
end Go.Proofs.Ytplffehgjdinnaa
namespace Go.Proofs.Ytplffehgjdinnaa.SX
open Go Go.RowKit
noncomputable section
variable {g : Sg}
def lenB (n : Nat) (l : List A) : Bool := Nat.beq l.length n
theorem lenB_eq {n : Nat} {l : List A} (h : lenB n l = true) : l.length = n := by unfold lenB at h; exact Nat.eq_of_beq_eq_true h
def updO (out : List Int) : List W := [.agg (((out.take 300).map A.k).map (C.i .i64)), .agg ((((out.drop 300).take 24).map A.k).map (C.i .i64)), .c (.i .i64 (.k (out.getD 324 0)))]
def updC (args : List V) (st : St) : Option (V × St) := match args with
  | [.w (.c (.p n o)), .w (.agg l), .w (.agg h), .w (.c (.i .i64 r))] => (match intsC l, intsC h with
    | some xa, some ya => bif lenB 300 xa && lenB 24 ya then (match allK (xa ++ (ya ++ [r])) with
      | some lk => (match updZ lk with
        | (out, hh) => (match flagV n o [] 63 [.k (b2i hh)] st with
          | some (_, st1) => some (.tup (updO out), st1)
          | none => none))
      | none => none) else none
    | _, _ => none)
  | _ => none
def innC (args : List V) (st : St) : Option (V × St) := match args with
  | [.w (.c (.p n o)), .w (.agg l), .w (.agg h), .w (.c (.i .i64 r))] => (match intsC l, intsC h with
    | some xa, some ya => bif lenB 300 xa && lenB 24 ya then (match allK (xa ++ (ya ++ [r])) with
      | some lk => (match innZ lk with
        | (s, hh) => (match flagV n o [] 63 [.k (b2i hh)] st with
          | some (_, st1) => some (.w (.c (.i .i64 (.k s))), st1)
          | none => none))
      | none => none) else none
    | _, _ => none)
  | _ => none
theorem cellB_app {x y : List Int} {r : Int} (hx : x.length = 300) (hy : y.length = 24) : (∀ k, k < 300 → cellL (x ++ (y ++ [r])) k = cellF x k) ∧ (∀ k, k < 24 → cellL (x ++ (y ++ [r])) (300 + k) = cellF y k) ∧ cellL (x ++ (y ++ [r])) 324 = r := by
  refine ⟨fun k hk => ?_, fun k hk => ?_, ?_⟩
  · unfold cellL cellF
    simp only [List.getD]
    rw [List.getElem?_append_left (by omega)]
  · unfold cellL cellF
    simp only [List.getD]
    rw [List.getElem?_append_right (by omega), List.getElem?_append_left (by omega), hx, show 300 + k - 300 = k by omega]
  · unfold cellL
    simp only [List.getD]
    rw [List.getElem?_append_right (by omega), List.getElem?_append_right (by omega), hx, hy]
    rfl
theorem ks_val : ∀ l : List Int, (l.map A.k).map (A.val g) = l
  | [] => rfl
  | z :: l => by rw [List.map_cons, List.map_cons, ks_val l]; rfl
theorem bie_case {f : FuncId} {S : List V → St → Option (V × St)} {ev : List Int → V × Bool}
    (hS : ∀ args st, S args st = (match args with
      | [.w (.c (.p n o)), .w (.agg l), .w (.agg h), .w (.c (.i .i64 r))] => (match intsC l, intsC h with
        | some xa, some ya => bif lenB 300 xa && lenB 24 ya then (match allK (xa ++ (ya ++ [r])) with
          | some lk => (match flagV n o [] 63 [.k (b2i (ev lk).2)] st with
            | some (_, st1) => some ((ev lk).1, st1)
            | none => none)
          | none => none) else none
        | _, _ => none)
      | _ => none))
    (hev : ∀ (lk : List Int) (p o : Nat) (hb : Bool) (w : World) (r : Rho), Fl p o hb w → Calls Try.prog f #[.pointer (some ⟨p, o, none⟩), .agg (rowA 300 (cellL lk)), .agg (rowA 24 fun k => cellL lk (300 + k)), .int .i64 (cellL lk 324)] w fun e w' => (∃ u, e = .returned u ∧ V.Den g r (ev lk).1 u) ∧ FlW p o (hb || (ev lk).2) w w') : CaseOk g f S := fun args st v st' h hg => by
  rw [hS] at h
  split at h
  · rename_i n o l y r0
    split at h
    · rename_i xa ya hxa hya
      cases hlen : lenB 300 xa && lenB 24 ya
      · rw [hlen] at h; cases h
      · rw [hlen, cond_true] at h
        simp only [Bool.and_eq_true] at hlen
        obtain ⟨l1, l2⟩ := hlen
        have l1 := lenB_eq l1
        have l2 := lenB_eq l2
        split at h
        · rename_i lk hall
          split at h
          · rename_i ra st1 h1
            cases h
            obtain ⟨g1, e1, k1⟩ := flagV_ok h1 hg
            refine ⟨g1, fun r w vs hI hv => ?_⟩
            match vs, hv with
            | [x, z, u, q], ⟨hx, hz, hu, hq, _⟩ =>
              obtain ⟨rfl, _⟩ := cells_row hxa l1 hz
              obtain ⟨rfl, _⟩ := cells_row hya l2 hu
              obtain rfl := den_i hq
              obtain ⟨qq, hb, rfl, _, hF, hK⟩ := k1 r w x hI hx
              have hc := cellB_app (x := xa.map (A.val g)) (y := ya.map (A.val g)) (r := r0.val g) (by simpa using l1) (by simpa using l2)
              have hL := allK_val (g := g) hall
              rw [List.map_append, List.map_append] at hL
              rw [show [r0].map (A.val g) = [r0.val g] from rfl] at hL
              rw [hL] at hc
              rw [rowA_congr (n := 300) (fun k hk => (hc.1 k hk).symm), rowA_congr (n := 24) (fun k hk => (hc.2.1 k hk).symm), ← hc.2.2]
              refine (hev lk qq _ hb w r hF).mono fun e w' hp => ?_
              obtain ⟨⟨u, rfl, hu⟩, hk⟩ := hp
              obtain ⟨m1, m2⟩ := hK w' (flag_is (by
                show _ = (hb || ieq (b2i (ev lk).2) 1)
                rw [ieq_b2i]) hk)
              exact ⟨r, _, rfl, hu, m1, m2⟩
          · cases h
        · cases h
    · cases h
  · cases h
theorem upd_case : CaseOk g 88 updC := bie_case (ev := fun lk => (.tup (updO (updZ lk).1), (updZ lk).2)) (fun args st => rfl) fun lk p o hb w r hF => by
  refine (upd_any p o (cellL lk) (fun k => cellL lk (300 + k)) (cellL lk 324) hb w hF).mono fun e w' hp => ?_
  obtain ⟨rfl, hk⟩ := hp
  have hZ := updZ_ok lk
  refine ⟨⟨_, rfl, ?_⟩, by rw [hZ]; exact hk⟩
  rw [hZ]
  dsimp only
  refine ⟨_, rfl, ?_, ?_, ?_, trivial⟩
  · refine mk_row ?_ (fun k => inK_i64.2 (by have := updF_bd (cellL lk) (fun k => cellL lk (300 + k)) (cellL lk 324) k; omega))
    rw [ks_val, List.take_left' (by simp)]
  · refine mk_row ?_ (fun k => inK_i64.2 (by have := quov_bd2 (updB (cellL lk) (fun k => cellL lk (300 + k)) k) (updS (cellL lk) (fun k => cellL lk (300 + k)) (cellL lk 324)); unfold updK; omega))
    rw [ks_val, List.drop_left' (by simp), List.take_left' (by simp)]
  · have : ((List.range 300).map (updF (cellL lk) (fun k => cellL lk (300 + k)) (cellL lk 324)) ++ ((List.range 24).map (updK (cellL lk) (fun k => cellL lk (300 + k)) (cellL lk 324)) ++ [updS (cellL lk) (fun k => cellL lk (300 + k)) (cellL lk 324)])).getD 324 0 = updS (cellL lk) (fun k => cellL lk (300 + k)) (cellL lk 324) := by
      simp only [List.getD]
      rw [List.getElem?_append_right (by simp), List.getElem?_append_right (by simp)]
      simp
    rw [this]
    have hb := updS_bd (cellL lk) (fun k => cellL lk (300 + k)) (cellL lk 324)
    generalize updS (cellL lk) (fun k => cellL lk (300 + k)) (cellL lk 324) = s at *
    exact mk_i (a := A.k s) r (inK_i64.2 (by show (-9223372036854775808 : Int) ≤ s ∧ s ≤ 9223372036854775807; omega))
theorem inn_case : CaseOk g 91 innC := bie_case (ev := fun lk => (.w (.c (.i .i64 (.k (innZ lk).1))), (innZ lk).2)) (fun args st => rfl) fun lk p o hb w r hF => by
  refine (inn_any p o (cellL lk) (fun k => cellL lk (300 + k)) (cellL lk 324) hb w hF).mono fun e w' hp => ?_
  obtain ⟨rfl, hk⟩ := hp
  have hZ := innZ_ok lk
  refine ⟨⟨_, rfl, ?_⟩, by rw [hZ]; exact hk⟩
  rw [hZ]
  have hb := updS_bd (cellL lk) (fun k => cellL lk (300 + k)) (cellL lk 324)
  generalize updS (cellL lk) (fun k => cellL lk (300 + k)) (cellL lk 324) = s at *
  exact mk_i (a := A.k s) r (inK_i64.2 (by show (-9223372036854775808 : Int) ≤ s ∧ s ≤ 9223372036854775807; omega))
def sumsBi : Sum := orS (one 88 updC) <| orS (one 91 innC) <| orS (one 84 newS) sums
theorem sumsBi_ok (g : Sg) : CallOk Try.prog U g sumsBi := orS_ok (one_ok upd_case) <| orS_ok (one_ok inn_case) <| orS_ok (one_ok new_case) (sums_ok g)
end
end Go.Proofs.Ytplffehgjdinnaa.SX
