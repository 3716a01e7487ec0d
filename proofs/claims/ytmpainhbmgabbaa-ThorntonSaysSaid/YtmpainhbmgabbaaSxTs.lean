/- The runner: the document's own step of a covariance; few calls beside it. -/
import Derived.Test.YtmpainhbmgabbaaSTX
import Derived.Test.YtmpainhbmgabbaaThoR
namespace Go.Proofs.Ytmpainhbmgabbaa.SX
open Go Go.RowKit
noncomputable section
variable {g : Sg}
def rstepS (args : List V) (st : St) : Option (V × St) := match args with
  | [.w (.c (.p n o)), .w (.agg l), .w (.c (.p m mo)), .w (.agg q)] => bif Nat.beq m n then none else (match intsC l, intsAt st.heap m mo 576, intsC q with
    | some xa, some ya, some za => bif lenIs 300 xa && (lenIs 576 ya && lenIs 24 za) then (match allK (xa ++ (ya ++ za)) with | some l => stepK n o l st | none => stepA n o (xa ++ (ya ++ za)) st) else none
    | _, _, _ => none)
  | _ => none
theorem rstep_case : CaseOk g 101 rstepS := fun args st v st' h hg => by
  unfold rstepS at h
  split at h
  · rename_i n o l m mo q
    rw [nbeq, Bool.cond_decide] at h
    split at h
    · cases h
    rename_i hmn
    split at h
    · rename_i xa ya za hxa hya hza
      cases hlen : lenIs 300 xa && (lenIs 576 ya && lenIs 24 za)
      · rw [hlen] at h; cases h
      · rw [hlen, cond_true] at h
        simp only [Bool.and_eq_true] at hlen
        obtain ⟨l1, l2, l3⟩ := hlen
        have l1 := lenIs_eq l1
        have l2 := lenIs_eq l2
        have l3 := lenIs_eq l3
        split at h
        · rename_i lk hall
          unfold stepK at h
          split at h
          · rename_i rr hh hfind
            split at h
            · rename_i ra st1 h1
              cases h
              obtain ⟨g1, e1, k1⟩ := flagV_ok h1 hg
              refine ⟨g1, fun r w vs hI hv => ?_⟩
              match vs, hv with
              | [x, y, z, u], ⟨hx, hy, hz, hu, _⟩ =>
                obtain ⟨rfl, _⟩ := cells_row hxa l1 hy
                obtain ⟨q1, hq1, rfl⟩ := den_p hz
                obtain ⟨rfl, _⟩ := cells_row hza l3 hu
                obtain ⟨_, sm, p1, y1, y2, y3⟩ := intsAt_ok hya hI hq1
                rw [hq1] at y1; cases y1
                obtain ⟨qq, hb, rfl, hq, hF, hK⟩ := k1 r w x hI hx
                have hc := cellF_app (x := xa.map (A.val g)) (y := ya.map (A.val g)) (z := za.map (A.val g)) (by simpa using l1) (by simpa using l2)
                have hL := allK_val (g := g) hall
                rw [List.map_append, List.map_append] at hL
                rw [rowA_congr (n := 300) (fun k hk => (hc.1 k hk).symm), rowA_congr (n := 24) (fun k _ => (hc.2.2 k).symm)]
                replace y3 := y3.congr (fun k hk => (hc.2.1 k hk).symm)
                rw [hL] at y3 ⊢
                have hZ := findTab_ok stepTab_ok hfind
                rw [stepZ_eq, stepL_ok] at hZ
                have h0 := congrArg Prod.fst hZ
                have h2 := congrArg Prod.snd hZ
                refine (rstep_any qq _ q1 _ (cellL lk) (fun k => cellL lk (300 + k)) (fun k => cellL lk (876 + k)) hb w hF y2 (fun e => hmn (hq.2 m sm (e ▸ hq1))) y3).mono fun e w' hp => ?_
                obtain ⟨rfl, hk⟩ := hp
                obtain ⟨m1, m2⟩ := hK w' (flag_is (by
                  show _ = (hb || ieq (b2i hh) 1)
                  rw [ieq_b2i]
                  exact congrArg (hb || ·) h2) hk)
                refine ⟨r, _, rfl, mk_row ?_ (step_in _ _ _), m1, m2⟩
                rw [e1, idO_ok]
                exact h0.symm
            · cases h
          · cases h
        · unfold stepA at h
          split at h
          rename_i R st1 h1
          split at h
          · rename_i ra st2 h2
            cases h
            obtain ⟨g1, e1, k1⟩ := flagV_ok h2 hg
            obtain ⟨g0, s0, e0⟩ := valA_ok h1 g1
            refine ⟨g0, fun r w vs hI hv => ?_⟩
            match vs, hv with
            | [x, y, z, u], ⟨hx, hy, hz, hu, _⟩ =>
              obtain ⟨rfl, _⟩ := cells_row hxa l1 hy
              obtain ⟨q1, hq1, rfl⟩ := den_p hz
              obtain ⟨rfl, _⟩ := cells_row hza l3 hu
              obtain ⟨_, sm, p1, y1, y2, y3⟩ := intsAt_ok hya hI hq1
              rw [hq1] at y1; cases y1
              obtain ⟨qq, hb, rfl, hq, hF, hK⟩ := k1 r w x (hI.same s0) hx
              have hc := cellF_app (x := xa.map (A.val g)) (y := ya.map (A.val g)) (z := za.map (A.val g)) (by simpa using l1) (by simpa using l2)
              rw [List.map_append, List.map_append] at e0 hK
              rw [rowA_congr (n := 300) (fun k hk => (hc.1 k hk).symm), rowA_congr (n := 24) (fun k _ => (hc.2.2 k).symm)]
              replace y3 := y3.congr (fun k hk => (hc.2.1 k hk).symm)
              generalize xa.map (A.val g) ++ (ya.map (A.val g) ++ za.map (A.val g)) = L at *
              refine (rstep_any qq _ q1 _ (cellL L) (fun k => cellL L (300 + k)) (fun k => cellL L (876 + k)) hb w hF y2 (fun e => hmn (hq.2 m (by first | exact s0.heap ▸ sm | exact s0.heap.symm ▸ sm) (e ▸ hq1))) y3).mono fun e w' hp => ?_
              obtain ⟨rfl, hk⟩ := hp
              obtain ⟨m1, m2⟩ := hK w' (flag_is (by simp only [U, ieq_b2i]; rw [stepZ_eq, stepL_ok]) hk)
              refine ⟨r, _, rfl, mk_row ?_ (step_in _ _ _), m1, m2⟩
              rw [e1, rowO_ok, e0]
              refine List.map_congr_left fun k hk => ?_
              have hk : k < 300 := by simpa using hk
              show decK k ((encN (stepZ L).1 : Nat) : Int) = _
              rw [stepZ_eq, stepL_ok, decK_enc (fun a ha => by
                obtain ⟨m, _, rfl⟩ := List.mem_map.1 ha
                have := stepF_bd (cellL L) (fun k => cellL L (300 + k)) (fun k => cellL L (876 + k)) m
                omega) (by simpa using hk)]
              simp [List.getD, hk]
          · cases h
    · cases h
  · cases h
def sumsTs : Sum := orS (one 99 stepS) <| orS (one 101 rstepS) <| orS (one 100 newS) sums2
theorem sumsTs_ok (g : Sg) : CallOk Try.prog U g sumsTs := orS_ok (one_ok step_case) <| orS_ok (one_ok rstep_case) <| orS_ok (one_ok new_case) (sums2_ok g)
end
end Go.Proofs.Ytmpainhbmgabbaa.SX
