/- The runner: sums of products and lengths, the program's and the document's own. -/
import Derived.Test.YtdleeeahonfnkaaSF
import Derived.Test.YtdleeeahonfnkaaSxQ
import Derived.Test.YtdleeeahonfnkaaQR
import Derived.Test.YtdleeeahonfnkaaQS
import Derived.Test.YtdleeeahonfnkaaRootH
namespace Go.Proofs.Ytdleeeahonfnkaa.SX
open Go Go.RowKit
noncomputable section
section
variable {g : Sg}
theorem sumQ_cons (a : Int) (l : List Int) : ∀ n, sumQ (fun i => (a :: l).getD i 0) (n + 1) = sumQ (fun i => l.getD i 0) n + satv a * satv a
  | 0 => by simp [sumQ]
  | n + 1 => by
    rw [sumQ, sumQ_cons a l n, sumQ]
    simp only [List.getD_cons_succ]
    omega
theorem sumQ_list : ∀ (l : List Int), sumQ (fun i => l.getD i 0) l.length = sqL l
  | [] => rfl
  | a :: l => by rw [List.length_cons, sumQ_cons, sumQ_list l]; rfl
def roomC : C → Bool
  | .s _ _ l c => Nat.ble l c
  | _ => true
theorem room_ok {x : C} {n o l : Nat} (hx : slOf x = some (n, o, l)) (hr : roomC x = true) {r : Rho} {v : Value} (h : V.Den g r (.w (.c x)) v) : ∃ q c, r n = some q ∧ l ≤ c ∧ v = .slice (some ⟨q, r.f n + o, none⟩) l c := by
  cases x with
  | s n' o' l' c' =>
    simp only [slOf, Option.some.injEq, Prod.mk.injEq] at hx
    obtain ⟨rfl, rfl, rfl⟩ := hx
    obtain ⟨q, h1, h2⟩ := den_s h
    have hr : Nat.ble l' c' = true := hr
    rw [nble, decide_eq_true_eq] at hr
    exact ⟨q, _, h1, hr, h2⟩
  | so n' o' l' d' =>
    simp only [slOf, Option.some.injEq, Prod.mk.injEq] at hx
    obtain ⟨rfl, rfl, rfl⟩ := hx
    obtain ⟨q, h1, h3, h2⟩ := den_so h
    exact ⟨q, _, h1, by omega, h2⟩
  | _ => simp [slOf] at hx
/-- A length. -/
def hypS (args : List V) (st : St) : Option (V × St) := match args with
  | [.w (.c (.p n o)), .w (.c x)] => (match slOf x with
    | some (m, mo, l) => bif Nat.beq m n || !roomC x then none else bif Nat.ble 1 l && Nat.ble l 62 then (match intsAt st.heap m mo l with
      | some xa => flagA n o 32 33 xa st
      | none => none) else none
    | none => none)
  | _ => none
theorem qhyp_case : CaseOk g 126 hypS := fun args st v st' h hg => by
  unfold hypS at h
  split at h
  · rename_i n o x
    split at h
    · rename_i m mo l hsl
      cases hc : (Nat.beq m n || !roomC x)
      · rw [hc, cond_false] at h
        simp only [nbeq, Bool.or_eq_false_iff, Bool.not_eq_false', decide_eq_false_iff_not] at hc
        obtain ⟨hmn, hroom⟩ := hc
        rw [nble, nble, ← Bool.decide_and, Bool.cond_decide] at h
        split at h
        · rename_i hl
          obtain ⟨hl1, hl2⟩ := hl
          split at h
          · rename_i xa has
            refine ⟨(flag_call (f := 0) (vs := []) h hg).1, fun r w vs hI hv => ?_⟩
            match vs, hv with
            | [x, y], ⟨hx, hy, _⟩ =>
              obtain ⟨q', c', hq', hlc, rfl⟩ := room_ok hsl hroom hy
              obtain ⟨e1, sm, q1, k1, k2, k3⟩ := intsAt_ok has hI hq'
              rw [hq'] at k1; cases k1
              refine (flag_call h hg).2 r w x hI hx (sat_i64 _) fun q o hb hq hF => ?_
              have hc := qhypot q o q' _ c' _ l hb w hF hl2 k2 (fun e => hmn (hq.2 m sm (e ▸ hq'))) k3
              have e2 := sumQ_list (xa.map (A.val g))
              have e3 := anyS_list (xa.map (A.val g))
              rw [List.length_map, e1] at e2 e3
              rw [e2, e3] at hc
              simp only [U, rootF_eq, ieq_b2i, ← Bool.or_assoc]
              exact hc
          · cases h
        · cases h
      · rw [hc] at h; cases h
    · cases h
  · cases h
theorem hyp_case : CaseOk g 125 hypS := fun args st v st' h hg => by
  unfold hypS at h
  split at h
  · rename_i n o x
    split at h
    · rename_i m mo l hsl
      cases hc : (Nat.beq m n || !roomC x)
      · rw [hc, cond_false] at h
        simp only [nbeq, Bool.or_eq_false_iff, Bool.not_eq_false', decide_eq_false_iff_not] at hc
        obtain ⟨hmn, hroom⟩ := hc
        rw [nble, nble, ← Bool.decide_and, Bool.cond_decide] at h
        split at h
        · rename_i hl
          obtain ⟨hl1, hl2⟩ := hl
          split at h
          · rename_i xa has
            refine ⟨(flag_call (f := 0) (vs := []) h hg).1, fun r w vs hI hv => ?_⟩
            match vs, hv with
            | [x, y], ⟨hx, hy, _⟩ =>
              obtain ⟨q', c', hq', hlc, rfl⟩ := room_ok hsl hroom hy
              obtain ⟨e1, sm, q1, k1, k2, k3⟩ := intsAt_ok has hI hq'
              rw [hq'] at k1; cases k1
              refine (flag_call h hg).2 r w x hI hx (sat_i64 _) fun q o hb hq hF => ?_
              have hc := hypot q o q' _ c' _ l hb w hF hl2 hl1 hlc k2 (fun e => hmn (hq.2 m sm (e ▸ hq'))) k3
              have e2 := sumQ_list (xa.map (A.val g))
              have e3 := anyS_list (xa.map (A.val g))
              rw [List.length_map, e1] at e2 e3
              rw [e2, e3] at hc
              simp only [U, rootF_eq, ieq_b2i, ← Bool.or_assoc]
              exact hc
          · cases h
        · cases h
      · rw [hc] at h; cases h
    · cases h
  · cases h
theorem qdot_case : CaseOk g 58 dotS := fun args st v st' h hg => by
  unfold dotS at h
  split at h
  · rename_i n o s x y
    split at h
    · rename_i m mo l k ko l' hsx hsy
      cases hc : (Nat.beq m n || Nat.beq k n || !Nat.beq l l')
      · rw [hc] at h
        simp only [cond_false] at h
        simp only [nbeq, Bool.or_eq_false_iff, Bool.not_eq_false', decide_eq_false_iff_not, decide_eq_true_eq] at hc
        obtain ⟨⟨hc1, hc2⟩, rfl⟩ := hc
        rw [nble, nble, ← Bool.decide_and, Bool.cond_decide] at h
        split at h
        · rename_i hb
          obtain ⟨hl, hs⟩ := hb
          split at h
          · rename_i xa bs has hbs
            refine ⟨(flag_call (f := 0) (vs := []) h hg).1, fun r w vs hI hv => ?_⟩
            match vs, hv with
            | [x, y, z, u], ⟨hx, hy, hz, hu, _⟩ =>
              obtain rfl := den_i hy
              obtain ⟨q1, c, hq1, rfl⟩ := den_sl hsx hz
              obtain ⟨q2, c', hq2, rfl⟩ := den_sl hsy hu
              obtain ⟨e1, sm1, p1, k1, k2, k3⟩ := intsAt_ok has hI hq1
              obtain ⟨e2, sm2, p2, j1, j2, j3⟩ := intsAt_ok hbs hI hq2
              rw [hq1] at k1; cases k1
              rw [hq2] at j1; cases j1
              refine (flag_call h hg).2 r w x hI hx (sat_i64 _) fun q o hb hq hF => ?_
              have hd := qdot q o q1 _ c q2 _ c' _ _ s l hb w hF hs hl k2 j2 (fun e => hc1 (hq.2 m sm1 (e ▸ hq1))) (fun e => hc2 (hq.2 k sm2 (e ▸ hq2))) k3 j3
              obtain ⟨z1, z2⟩ := zip_sum (g := g) xa bs l e1.symm e2.symm
              rw [z1, z2] at hd
              simp only [U, List.map_cons, ieq_b2i, ← Bool.or_assoc]
              exact hd
          · cases h
        · cases h
      · rw [hc] at h; cases h
    · cases h
  · cases h
end
def sums3 : Sum :=
  orS (one 98 dotS) <|
  orS (one 58 dotS) <|
  orS (one 125 hypS) <|
  orS (one 126 hypS) <|
  sums2
theorem sums3_ok (g : Sg) : CallOk Try.prog U g sums3 :=
  orS_ok (one_ok dot_case) <|
  orS_ok (one_ok qdot_case) <|
  orS_ok (one_ok hyp_case) <|
  orS_ok (one_ok qhyp_case) <|
  sums2_ok g
end
end Go.Proofs.Ytdleeeahonfnkaa.SX
