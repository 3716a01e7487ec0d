/- The runner: sums of products. -/
import Derived.Test.YtbpccdagmaiblaaDoorPE
import Derived.Test.YtbpccdagmaiblaaDoorSE

/- SxO -/
namespace Go.Proofs.YtbpccdagmaiblaaDoor.SX
open Go Go.RowKit
noncomputable section
section
variable {g : Sg}
def zipL : List A → List A → List A
  | a :: l, b :: m => a :: b :: zipL l m
  | _, _ => []
theorem zip_sum : ∀ (xa bs : List A) (n : Nat), n = xa.length → n = bs.length →
    sumP (fun i => (xa.map (A.val g)).getD i 0) (fun i => (bs.map (A.val g)).getD i 0) n = dotL ((zipL xa bs).map (A.val g)) ∧
    anyP (fun i => (xa.map (A.val g)).getD i 0) (fun i => (bs.map (A.val g)).getD i 0) n = dotH ((zipL xa bs).map (A.val g))
  | [], bs, n, h1, h2 => by
    subst h1
    exact ⟨by simp [zipL, dotL, sumP], by simp [zipL, dotH, anyP]⟩
  | a :: xa, [], n, h1, h2 => by subst h2; simp at h1
  | a :: xa, b :: bs, n, h1, h2 => by
    obtain ⟨k1, k2⟩ := zip_sum xa bs xa.length rfl (by simp at h1 h2; omega)
    have hs : ∀ n, sumP (fun i => ((a :: xa).map (A.val g)).getD i 0) (fun i => ((b :: bs).map (A.val g)).getD i 0) (n + 1) =
        sumP (fun i => (xa.map (A.val g)).getD i 0) (fun i => (bs.map (A.val g)).getD i 0) n + satv (a.val g) * satv (b.val g) := by
      intro n
      induction n with
      | zero => simp [sumP]
      | succ n ih => rw [sumP, ih, sumP]; simp only [List.map_cons, List.getD_cons_succ]; omega
    have ha : ∀ n, anyP (fun i => ((a :: xa).map (A.val g)).getD i 0) (fun i => ((b :: bs).map (A.val g)).getD i 0) (n + 1) =
        (anyP (fun i => (xa.map (A.val g)).getD i 0) (fun i => (bs.map (A.val g)).getD i 0) n || sath (a.val g) || sath (b.val g)) := by
      intro n
      induction n with
      | zero => simp [anyP]
      | succ n ih =>
        rw [anyP, ih, anyP]; simp only [List.map_cons, List.getD_cons_succ]
        generalize anyP _ _ n = x
        generalize sath _ = y
        generalize sath (b.val g) = z
        cases x <;> cases y <;> cases z <;> simp
    subst h1
    rw [List.length_cons, hs, ha, k1, k2]
    exact ⟨by simp [zipL, dotL], by simp [zipL, dotH]⟩
def dotS (args : List V) (st : St) : Option (V × St) := match args with
  | [.w (.c (.p n o)), .w (.c (.i .i64 (.k (.ofNat s)))), .w (.c x), .w (.c y)] => (match slOf x, slOf y with
    | some (m, mo, l), some (k, ko, l') => bif Nat.beq m n || Nat.beq k n || !Nat.beq l l' then none else bif Nat.ble l 100 && Nat.ble s 120 then
      (match intsAt st.heap m mo l, intsAt st.heap k ko l with
      | some xa, some bs => flagA n o 16 17 (.k (.ofNat s) :: zipL xa bs) st
      | _, _ => none) else none
    | _, _ => none)
  | _ => none
end
end
end Go.Proofs.YtbpccdagmaiblaaDoor.SX
