/- The runner: known calls of package thornton. -/
import Derived.Test.YtfkeljolpcbbkaaSxTr
import Derived.Test.YtfkeljolpcbbkaaTHS
import Derived.Test.YtfkeljolpcbbkaaTAB
namespace Go.Proofs.Ytfkeljolpcbbkaa
open Go.RowKit
theorem quov_bd (a b : Int) : -1152921504606846976 ≤ quov a b ∧ quov a b ≤ 1152921504606846976 := by
  unfold quov divv
  split
  · exact side_bd _
  · exact ⟨satv_lo _, satv_hi _⟩
theorem dF_bd (W e : Nat → Int) (j : Nat) : 1 ≤ dF W e j ∧ dF W e j ≤ 72057594037927936 := by
  unfold dF clampv
  (repeat' split) <;> omega
theorem outI_bd (W e : Nat → Int) {o : Nat → Int} (j : Nat) (h : ∀ k, -1152921504606846976 ≤ o k ∧ o k ≤ 1152921504606846976) : ∀ (t k : Nat), -1152921504606846976 ≤ outI W e o j t k ∧ outI W e o j t k ≤ 1152921504606846976
  | 0, k => by
    unfold outI upd
    split
    · have := dF_bd W e j; omega
    · exact h k
  | t + 1, k => by
    unfold outI upd
    split
    · exact quov_bd _ _
    · exact outI_bd W e j h t k
theorem stO_bd (W e : Nat → Int) : ∀ (n k : Nat), -1152921504606846976 ≤ stO W e n k ∧ stO W e n k ≤ 1152921504606846976
  | 0, _ => by unfold stO; omega
  | n + 1, k => outI_bd _ _ _ (stO_bd W e n) _ k
theorem stepF_bd (p g q : Nat → Int) (k : Nat) : -1152921504606846976 ≤ stepF p g q k ∧ stepF p g q k ≤ 1152921504606846976 := stO_bd _ _ _ _
end Go.Proofs.Ytfkeljolpcbbkaa
namespace Go.Proofs.Ytfkeljolpcbbkaa.SX
open Go Go.RowKit
noncomputable section
variable {g : Sg}
theorem step_in (p g q : Nat → Int) (k : Nat) : inK .i64 (stepF p g q k) := inK_i64.2 (by have := stepF_bd p g q k; omega)
def rowO (R : A) : List Nat → List (Nat × List A)
  | [] => []
  | k :: l => (61, [.k (.ofNat k), R]) :: rowO R l
theorem rowO_ok (R : A) : ∀ l : List Nat, (rowO R l).map (fun x => U x.1 (x.2.map (A.val g))) = l.map fun k => decK k (R.val g)
  | [] => rfl
  | k :: l => by rw [rowO, List.map_cons, rowO_ok R l]; rfl
def lenIs (n : Nat) (l : List A) : Bool := Nat.beq l.length n
def stepA (n o : Nat) (xs : List A) (st : St) : Option (V × St) := match valA 60 xs st with
  | (R, st1) => match flagV n o (rowO R (List.range 300)) 62 xs st1 with
    | some (r, st2) => some (.w (.agg (r.map (C.i .i64))), st2)
    | none => none
def idO : List Int → List (Nat × List A)
  | [] => []
  | z :: l => (63, [.k z]) :: idO l
theorem idO_ok : ∀ l : List Int, (idO l).map (fun x => U x.1 (x.2.map (A.val g))) = l
  | [] => rfl
  | z :: l => by rw [idO, List.map_cons, idO_ok l]; rfl
def stepK (tab : List (List Int × List Int × Bool)) (n o : Nat) (l : List Int) (st : St) : Option (V × St) := match findTab l tab with
  | some (r, h) => (match flagV n o (idO r) 63 [.k (b2i h)] st with
    | some (ra, st1) => some (.w (.agg (ra.map (C.i .i64))), st1)
    | none => none)
  | none => none
def stepS (tab : List (List Int × List Int × Bool)) (args : List V) (st : St) : Option (V × St) := match args with
  | [.w (.c (.p n o)), .w (.agg l), .w (.agg f), .w (.agg q)] => (match intsC l, intsC f, intsC q with
    | some xa, some ya, some za => bif lenIs 300 xa && (lenIs 576 ya && lenIs 24 za) then (match allK (xa ++ (ya ++ za)) with | some l => stepK tab n o l st | none => stepA n o (xa ++ (ya ++ za)) st) else none
    | _, _, _ => none)
  | _ => none
theorem lenIs_eq {n : Nat} {l : List A} (h : lenIs n l = true) : l.length = n := by unfold lenIs at h; exact Nat.eq_of_beq_eq_true h
theorem cellF_app {x y z : List Int} (hx : x.length = 300) (hy : y.length = 576) : (∀ k, k < 300 → cellL (x ++ (y ++ z)) k = cellF x k) ∧ (∀ k, k < 576 → cellL (x ++ (y ++ z)) (300 + k) = cellF y k) ∧ (∀ k, cellL (x ++ (y ++ z)) (876 + k) = cellF z k) := by
  refine ⟨fun k hk => ?_, fun k hk => ?_, fun k => ?_⟩
  · unfold cellL cellF
    simp only [List.getD]
    rw [List.getElem?_append_left (by omega)]
  · unfold cellL cellF
    simp only [List.getD]
    rw [List.getElem?_append_right (by omega), List.getElem?_append_left (by omega), hx, show 300 + k - 300 = k by omega]
  · unfold cellL cellF
    simp only [List.getD]
    rw [List.getElem?_append_right (by omega), List.getElem?_append_right (by omega), hx, hy, show 876 + k - 300 - 576 = k by omega]
theorem step_case {tab : List (List Int × List Int × Bool)} (htab : ∀ e ∈ tab, stepZ e.1 = e.2) : CaseOk g 96 (stepS tab) := fun args st v st' h hg => by
  unfold stepS at h
  split at h
  · rename_i n o l f q
    split at h
    · rename_i xa ya za hxa hya hza
      cases hlen : lenIs 300 xa && (lenIs 576 ya && lenIs 24 za)
      · rw [hlen] at h; cases h
      · rw [hlen, cond_true] at h
        simp only [Bool.and_eq_true] at hlen
        obtain ⟨l1, l2, l3⟩ := hlen
        have l1 := lenIs_eq l1
        have l2 := lenIs_eq l2
        have l3 := lenIs_eq l3
        split at h
        · rename_i lk hall
          unfold stepK at h
          split at h
          · rename_i rr hh hfind
            split at h
            · rename_i ra st1 h1
              cases h
              obtain ⟨g1, e1, k1⟩ := flagV_ok h1 hg
              refine ⟨g1, fun r w vs hI hv => ?_⟩
              match vs, hv with
              | [x, y, z, u], ⟨hx, hy, hz, hu, _⟩ =>
                obtain ⟨rfl, _⟩ := cells_row hxa l1 hy
                obtain ⟨rfl, _⟩ := cells_row hya l2 hz
                obtain ⟨rfl, _⟩ := cells_row hza l3 hu
                obtain ⟨qq, hb, rfl, _, hF, hK⟩ := k1 r w x hI hx
                have hc := cellF_app (x := xa.map (A.val g)) (y := ya.map (A.val g)) (z := za.map (A.val g)) (by simpa using l1) (by simpa using l2)
                have hL := allK_val (g := g) hall
                rw [List.map_append, List.map_append] at hL
                rw [rowA_congr (n := 300) (fun k hk => (hc.1 k hk).symm), rowA_congr (n := 576) (fun k hk => (hc.2.1 k hk).symm), rowA_congr (n := 24) (fun k _ => (hc.2.2 k).symm), hL]
                have hZ := findTab_ok htab hfind
                rw [stepZ_eq, stepL_ok] at hZ
                have h0 := congrArg Prod.fst hZ
                have h2 := congrArg Prod.snd hZ
                refine (step_any qq _ (cellL lk) (fun k => cellL lk (300 + k)) (fun k => cellL lk (876 + k)) hb w hF).mono fun e w' hp => ?_
                obtain ⟨rfl, hk⟩ := hp
                obtain ⟨m1, m2⟩ := hK w' (flag_is (by
                  show _ = (hb || ieq (b2i hh) 1)
                  rw [ieq_b2i]
                  exact congrArg (hb || ·) h2) hk)
                refine ⟨r, _, rfl, mk_row ?_ (step_in _ _ _), m1, m2⟩
                rw [e1, idO_ok]
                exact h0.symm
            · cases h
          · cases h
        · unfold stepA at h
          split at h
          rename_i R st1 h1
          split at h
          · rename_i ra st2 h2
            cases h
            obtain ⟨g1, e1, k1⟩ := flagV_ok h2 hg
            obtain ⟨g0, s0, e0⟩ := valA_ok h1 g1
            refine ⟨g0, fun r w vs hI hv => ?_⟩
            match vs, hv with
            | [x, y, z, u], ⟨hx, hy, hz, hu, _⟩ =>
              obtain ⟨rfl, _⟩ := cells_row hxa l1 hy
              obtain ⟨rfl, _⟩ := cells_row hya l2 hz
              obtain ⟨rfl, _⟩ := cells_row hza l3 hu
              obtain ⟨qq, hb, rfl, _, hF, hK⟩ := k1 r w x (hI.same s0) hx
              have hc := cellF_app (x := xa.map (A.val g)) (y := ya.map (A.val g)) (z := za.map (A.val g)) (by simpa using l1) (by simpa using l2)
              rw [List.map_append, List.map_append] at e0 hK
              rw [rowA_congr (n := 300) (fun k hk => (hc.1 k hk).symm), rowA_congr (n := 576) (fun k hk => (hc.2.1 k hk).symm), rowA_congr (n := 24) (fun k _ => (hc.2.2 k).symm)]
              generalize xa.map (A.val g) ++ (ya.map (A.val g) ++ za.map (A.val g)) = L at *
              refine (step_any qq _ (cellL L) (fun k => cellL L (300 + k)) (fun k => cellL L (876 + k)) hb w hF).mono fun e w' hp => ?_
              obtain ⟨rfl, hk⟩ := hp
              obtain ⟨m1, m2⟩ := hK w' (flag_is (by simp only [U, ieq_b2i]; rw [stepZ_eq, stepL_ok]) hk)
              refine ⟨r, _, rfl, mk_row ?_ (step_in _ _ _), m1, m2⟩
              rw [e1, rowO_ok, e0]
              refine List.map_congr_left fun k hk => ?_
              have hk : k < 300 := by simpa using hk
              show decK k ((encN (stepZ L).1 : Nat) : Int) = _
              rw [stepZ_eq, stepL_ok, decK_enc (fun a ha => by
                obtain ⟨m, _, rfl⟩ := List.mem_map.1 ha
                have := stepF_bd (cellL L) (fun k => cellL L (300 + k)) (fun k => cellL L (876 + k)) m
                omega) (by simpa using hk)]
              simp [List.getD, hk]
          · cases h
    · cases h
  · cases h
end
end Go.Proofs.Ytfkeljolpcbbkaa.SX
