/- The runner: sums of products. -/
import Derived.Test.YtdleeeahonfnkaaPE
import Derived.Test.YtdleeeahonfnkaaSE

/- SxO -/
namespace Go.Proofs.Ytdleeeahonfnkaa.SX
open Go Go.RowKit
noncomputable section
section
variable {g : Sg}
def zipL : List A → List A → List A
  | a :: l, b :: m => a :: b :: zipL l m
  | _, _ => []
theorem zip_sum : ∀ (xa bs : List A) (n : Nat), n = xa.length → n = bs.length →
    sumP (fun i => (xa.map (A.val g)).getD i 0) (fun i => (bs.map (A.val g)).getD i 0) n = dotL ((zipL xa bs).map (A.val g)) ∧
    anyP (fun i => (xa.map (A.val g)).getD i 0) (fun i => (bs.map (A.val g)).getD i 0) n = dotH ((zipL xa bs).map (A.val g))
  | [], bs, n, h1, h2 => by
    subst h1
    exact ⟨by simp [zipL, dotL, sumP], by simp [zipL, dotH, anyP]⟩
  | a :: xa, [], n, h1, h2 => by subst h2; simp at h1
  | a :: xa, b :: bs, n, h1, h2 => by
    obtain ⟨k1, k2⟩ := zip_sum xa bs xa.length rfl (by simp at h1 h2; omega)
    have hs : ∀ n, sumP (fun i => ((a :: xa).map (A.val g)).getD i 0) (fun i => ((b :: bs).map (A.val g)).getD i 0) (n + 1) =
        sumP (fun i => (xa.map (A.val g)).getD i 0) (fun i => (bs.map (A.val g)).getD i 0) n + satv (a.val g) * satv (b.val g) := by
      intro n
      induction n with
      | zero => simp [sumP]
      | succ n ih => rw [sumP, ih, sumP]; simp only [List.map_cons, List.getD_cons_succ]; omega
    have ha : ∀ n, anyP (fun i => ((a :: xa).map (A.val g)).getD i 0) (fun i => ((b :: bs).map (A.val g)).getD i 0) (n + 1) =
        (anyP (fun i => (xa.map (A.val g)).getD i 0) (fun i => (bs.map (A.val g)).getD i 0) n || sath (a.val g) || sath (b.val g)) := by
      intro n
      induction n with
      | zero => simp [anyP]
      | succ n ih =>
        rw [anyP, ih, anyP]; simp only [List.map_cons, List.getD_cons_succ]
        generalize anyP _ _ n = x
        generalize sath _ = y
        generalize sath (b.val g) = z
        cases x <;> cases y <;> cases z <;> simp
    subst h1
    rw [List.length_cons, hs, ha, k1, k2]
    exact ⟨by simp [zipL, dotL], by simp [zipL, dotH]⟩
def dotS (args : List V) (st : St) : Option (V × St) := match args with
  | [.w (.c (.p n o)), .w (.c (.i .i64 (.k (.ofNat s)))), .w (.c x), .w (.c y)] => (match slOf x, slOf y with
    | some (m, mo, l), some (k, ko, l') => bif Nat.beq m n || Nat.beq k n || !Nat.beq l l' then none else bif Nat.ble l 100 && Nat.ble s 120 then
      (match intsAt st.heap m mo l, intsAt st.heap k ko l with
      | some xa, some bs => flagA n o 16 17 (.k (.ofNat s) :: zipL xa bs) st
      | _, _ => none) else none
    | _, _ => none)
  | _ => none
theorem dot_case : CaseOk g 98 dotS := fun args st v st' h hg => by
  unfold dotS at h
  split at h
  · rename_i n o s x y
    split at h
    · rename_i m mo l k ko l' hsx hsy
      cases hc : (Nat.beq m n || Nat.beq k n || !Nat.beq l l')
      · rw [hc] at h
        simp only [cond_false] at h
        simp only [nbeq, Bool.or_eq_false_iff, Bool.not_eq_false', decide_eq_false_iff_not, decide_eq_true_eq] at hc
        obtain ⟨⟨hc1, hc2⟩, rfl⟩ := hc
        rw [nble, nble, ← Bool.decide_and, Bool.cond_decide] at h
        split at h
        · rename_i hb
          obtain ⟨hl, hs⟩ := hb
          split at h
          · rename_i xa bs has hbs
            refine ⟨(flag_call (f := 0) (vs := []) h hg).1, fun r w vs hI hv => ?_⟩
            match vs, hv with
            | [x, y, z, u], ⟨hx, hy, hz, hu, _⟩ =>
              obtain rfl := den_i hy
              obtain ⟨q1, c, hq1, rfl⟩ := den_sl hsx hz
              obtain ⟨q2, c', hq2, rfl⟩ := den_sl hsy hu
              obtain ⟨e1, sm1, p1, k1, k2, k3⟩ := intsAt_ok has hI hq1
              obtain ⟨e2, sm2, p2, j1, j2, j3⟩ := intsAt_ok hbs hI hq2
              rw [hq1] at k1; cases k1
              rw [hq2] at j1; cases j1
              refine (flag_call h hg).2 r w x hI hx (sat_i64 _) fun q o hb hq hF => ?_
              have hd := dot_fx q o q1 _ l c q2 _ l c' _ _ s l hb w hF hs hl (Nat.le_refl _) (Nat.le_refl _) (by omega) k2 j2 (fun e => hc1 (hq.2 m sm1 (e ▸ hq1))) (fun e => hc2 (hq.2 k sm2 (e ▸ hq2))) k3 j3
              obtain ⟨z1, z2⟩ := zip_sum (g := g) xa bs l e1.symm e2.symm
              rw [z1, z2] at hd
              simp only [U, List.map_cons, ieq_b2i, ← Bool.or_assoc]
              exact hd
          · cases h
        · cases h
      · rw [hc] at h; cases h
    · cases h
  · cases h
end
end
end Go.Proofs.Ytdleeeahonfnkaa.SX
