/- The runner: sums of products and lengths, the program's and the document's own. -/
import Derived.Test.YtbpccdagmaiblaaDoorSF
import Derived.Test.YtbpccdagmaiblaaDoorSxQ
namespace Go.Proofs.YtbpccdagmaiblaaDoor.SX
open Go Go.RowKit
noncomputable section
section
variable {g : Sg}
def roomC : C → Bool
  | .s _ _ l c => Nat.ble l c
  | _ => true
theorem room_ok {x : C} {n o l : Nat} (hx : slOf x = some (n, o, l)) (hr : roomC x = true) {r : Rho} {v : Value} (h : V.Den g r (.w (.c x)) v) : ∃ q c, r n = some q ∧ l ≤ c ∧ v = .slice (some ⟨q, r.f n + o, none⟩) l c := by
  cases x with
  | s n' o' l' c' =>
    simp only [slOf, Option.some.injEq, Prod.mk.injEq] at hx
    obtain ⟨rfl, rfl, rfl⟩ := hx
    obtain ⟨q, h1, h2⟩ := den_s h
    have hr : Nat.ble l' c' = true := hr
    rw [nble, decide_eq_true_eq] at hr
    exact ⟨q, _, h1, hr, h2⟩
  | so n' o' l' d' =>
    simp only [slOf, Option.some.injEq, Prod.mk.injEq] at hx
    obtain ⟨rfl, rfl, rfl⟩ := hx
    obtain ⟨q, h1, h3, h2⟩ := den_so h
    exact ⟨q, _, h1, by omega, h2⟩
  | _ => simp [slOf] at hx
/-- A length. -/
def hypS (args : List V) (st : St) : Option (V × St) := match args with
  | [.w (.c (.p n o)), .w (.c x)] => (match slOf x with
    | some (m, mo, l) => bif Nat.beq m n || !roomC x then none else bif Nat.ble 1 l && Nat.ble l 62 then (match intsAt st.heap m mo l with
      | some xa => flagA n o 32 33 xa st
      | none => none) else none
    | none => none)
  | _ => none
end
def sums3 : Sum :=
  sums2
theorem sums3_ok (g : Sg) : CallOk Tryd.prog U g sums3 :=
  sums2_ok g
end
end Go.Proofs.YtbpccdagmaiblaaDoor.SX
