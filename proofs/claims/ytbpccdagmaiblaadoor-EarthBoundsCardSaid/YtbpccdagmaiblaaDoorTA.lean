/- Sine and cosine by their series; this program's are near. -/
import Derived.Test.YtbpccdagmaiblaaDoorSE

/- TrigB -/
namespace Go.Proofs.YtbpccdagmaiblaaDoor.SX
open Go
noncomputable section
theorem mq_near {a b : Int} (a1 : -2147483648 ≤ a) (a2 : a ≤ 2147483648) (b1 : -2147483648 ≤ b) (b2 : b ≤ 2147483648) :
    -536870912 ≤ 1073741824 * mq a b - a * b ∧ 1073741824 * mq a b - a * b ≤ 536870912 := by
  have hm := bil b1 b2 (d := a) (S := 2147483648) a1 a2
  rw [Int.mul_comm b a] at hm
  have hr := rnd_nr (a * b) 30
  have e : ((2 ^ 30 : Nat) : Int) = 1073741824 := by decide
  rw [e] at hr
  unfold mq
  rw [satv_id (a := a) (by unfold mx; omega) (by unfold mx; omega), satv_id (a := b) (by unfold mx; omega) (by unfold mx; omega)]
  rw [satv_id (by unfold mx; omega) (by unfold mx; omega)]
  omega
/-- A product of a number from 0 to Z by a number that is not below 0. -/
theorem mq_pos {z s Z H : Int} (z1 : 0 ≤ z) (z2 : z ≤ Z) (hZ : Z ≤ 2147483648) (s1 : 0 ≤ s) (s2 : s ≤ H) (hH : H ≤ 2147483648) : 0 ≤ mq z s ∧ 1073741824 * mq z s ≤ Z * H + 536870912 := by
  have h := mq_near (a := z) (b := s) (by omega) (by omega) (by omega) (by omega)
  have k1 : 0 ≤ z * s := Int.mul_nonneg z1 s1
  have k2 : z * s ≤ Z * H := Int.mul_le_mul z2 s2 s1 (by omega)
  omega
theorem mq_neg {z s Z H : Int} (z1 : 0 ≤ z) (z2 : z ≤ Z) (hZ : Z ≤ 2147483648) (s1 : s ≤ 0) (s2 : -H ≤ s) (hH : H ≤ 2147483648) : mq z s ≤ 0 ∧ -(Z * H) - 536870912 ≤ 1073741824 * mq z s := by
  have h := mq_near (a := z) (b := s) (by omega) (by omega) (by omega) (by omega)
  have k1 : 0 ≤ z * (-s) := Int.mul_nonneg z1 (by omega)
  have k2 : z * (-s) ≤ Z * H := Int.mul_le_mul z2 (by omega) (by omega) (by omega)
  rw [Int.mul_neg] at k1 k2
  omega
/-- The square of what lies within an eighth of a turn. -/
theorem zq_bd {w : Int} (h1 : -843314860 ≤ w) (h2 : w ≤ 843314860) : 0 ≤ mq w w ∧ mq w w ≤ 662400000 := by
  have h := mq_near (a := w) (b := w) (by omega) (by omega) (by omega) (by omega)
  have k := bil h1 h2 (d := w) h1 h2
  have k0 : 0 ≤ w * w := Nm.sqnn w
  omega
theorem sin5_bd {z : Int} (z1 : 0 ≤ z) (z2 : z ≤ 662400000) :
    (0 ≤ mq z 27 ∧ mq z 27 ≤ 17) ∧ (0 ≤ mq z (2959 - mq z 27) ∧ mq z (2959 - mq z 27) ≤ 1826) ∧
    (mq z (-213044 + mq z (2959 - mq z 27)) ≤ 0 ∧ -131430 ≤ mq z (-213044 + mq z (2959 - mq z 27))) ∧
    (0 ≤ mq z (8947849 + mq z (-213044 + mq z (2959 - mq z 27))) ∧ mq z (8947849 + mq z (-213044 + mq z (2959 - mq z 27))) ≤ 5520051) ∧
    (mq z (-178956971 + mq z (8947849 + mq z (-213044 + mq z (2959 - mq z 27)))) ≤ 0 ∧ -110400002 ≤ mq z (-178956971 + mq z (8947849 + mq z (-213044 + mq z (2959 - mq z 27))))) := by
  have h1 := mq_pos z1 z2 (by decide) (s := 27) (H := 27) (by decide) (by decide) (by decide)
  generalize mq z 27 = m1 at *
  have h2 := mq_pos z1 z2 (by decide) (s := 2959 - m1) (H := 2959) (by omega) (by omega) (by decide)
  generalize mq z (2959 - m1) = m2 at *
  have h3 := mq_neg z1 z2 (by decide) (s := -213044 + m2) (H := 213044) (by omega) (by omega) (by decide)
  generalize mq z (-213044 + m2) = m3 at *
  have h4 := mq_pos z1 z2 (by decide) (s := 8947849 + m3) (H := 8947849) (by omega) (by omega) (by decide)
  generalize mq z (8947849 + m3) = m4 at *
  have h5 := mq_neg z1 z2 (by decide) (s := -178956971 + m4) (H := 178956971) (by omega) (by omega) (by decide)
  generalize mq z (-178956971 + m4) = m5 at *
  omega
theorem cos6_bd {z : Int} (z1 : 0 ≤ z) (z2 : z ≤ 662400000) :
    (0 ≤ mq z 2 ∧ mq z 2 ≤ 2) ∧ (mq z (-296 + mq z 2) ≤ 0 ∧ -184 ≤ mq z (-296 + mq z 2)) ∧
    (0 ≤ mq z (26631 + mq z (-296 + mq z 2)) ∧ mq z (26631 + mq z (-296 + mq z 2)) ≤ 16431) ∧
    (mq z (-1491308 + mq z (26631 + mq z (-296 + mq z 2))) ≤ 0 ∧ -920008 ≤ mq z (-1491308 + mq z (26631 + mq z (-296 + mq z 2)))) ∧
    (0 ≤ mq z (44739243 + mq z (-1491308 + mq z (26631 + mq z (-296 + mq z 2)))) ∧ mq z (44739243 + mq z (-1491308 + mq z (26631 + mq z (-296 + mq z 2)))) ≤ 27600002) ∧
    (mq z (-536870912 + mq z (44739243 + mq z (-1491308 + mq z (26631 + mq z (-296 + mq z 2))))) ≤ 0 ∧ -331200002 ≤ mq z (-536870912 + mq z (44739243 + mq z (-1491308 + mq z (26631 + mq z (-296 + mq z 2)))))) := by
  have h1 := mq_pos z1 z2 (by decide) (s := 2) (H := 2) (by decide) (by decide) (by decide)
  generalize mq z 2 = m1 at *
  have h2 := mq_neg z1 z2 (by decide) (s := -296 + m1) (H := 296) (by omega) (by omega) (by decide)
  generalize mq z (-296 + m1) = m2 at *
  have h3 := mq_pos z1 z2 (by decide) (s := 26631 + m2) (H := 26631) (by omega) (by omega) (by decide)
  generalize mq z (26631 + m2) = m3 at *
  have h4 := mq_neg z1 z2 (by decide) (s := -1491308 + m3) (H := 1491308) (by omega) (by omega) (by decide)
  generalize mq z (-1491308 + m3) = m4 at *
  have h5 := mq_pos z1 z2 (by decide) (s := 44739243 + m4) (H := 44739243) (by omega) (by omega) (by decide)
  generalize mq z (44739243 + m4) = m5 at *
  have h6 := mq_neg z1 z2 (by decide) (s := -536870912 + m5) (H := 536870912) (by omega) (by omega) (by decide)
  generalize mq z (-536870912 + m5) = m6 at *
  omega
theorem sinP_in {w : Int} (h1 : -843314860 ≤ w) (h2 : w ≤ 843314860) : -843314861 ≤ sinP w ∧ sinP w ≤ 843314861 := by
  obtain ⟨z1, z2⟩ := zq_bd h1 h2
  obtain ⟨_, _, _, _, h5⟩ := sin5_bd z1 z2
  unfold sinP
  generalize mq (mq w w) (-178956971 + mq (mq w w) (8947849 + mq (mq w w) (-213044 + mq (mq w w) (2959 - mq (mq w w) 27)))) = m at *
  have h := mq_near (a := w) (b := 1073741824 + m) (by omega) (by omega) (by omega) (by omega)
  have k := bil h1 h2 (d := 1073741824 + m) (S := 1073741824) (by omega) (by omega)
  omega
theorem cosP_in {w : Int} (h1 : -843314860 ≤ w) (h2 : w ≤ 843314860) : 742541822 ≤ cosP w ∧ cosP w ≤ 1073741824 := by
  obtain ⟨z1, z2⟩ := zq_bd h1 h2
  obtain ⟨_, _, _, _, _, h6⟩ := cos6_bd z1 z2
  unfold cosP
  omega
theorem clamp_in {z : Int} (h1 : -1073741824 ≤ z) (h2 : z ≤ 1073741824) : clampv z (-1073741824) 1073741824 = z := by
  unfold clampv; (repeat' split) <;> omega
theorem sineF_in {w : Int} (h1 : -1686629713 ≤ w) (h2 : w ≤ 1686629713) : -1073741824 ≤ sineF w ∧ sineF w ≤ 1073741824 := by
  unfold sineF
  split
  · split
    · have := cosP_in (w := 1686629713 + w) (by omega) (by omega); omega
    · have := sinP_in (w := w) (by omega) (by omega); omega
  · split
    · have := cosP_in (w := 1686629713 - w) (by omega) (by omega); omega
    · have := sinP_in (w := w) (by omega) (by omega); omega
theorem wrapT_in (a : Int) : -3373259426 < wrapT a ∧ wrapT a ≤ 3373259426 := by
  have hm1 := Int.tmod_lt_of_pos a (show (0 : Int) < 6746518852 by decide)
  have hm2 := Int.lt_tmod_of_pos a (show (0 : Int) < 6746518852 by decide)
  unfold wrapT
  (repeat' split) <;> omega
theorem foldT_in {w : Int} (h1 : -3373259426 < w) (h2 : w ≤ 3373259426) : -1686629713 ≤ foldT w ∧ foldT w ≤ 1686629713 := by
  unfold foldT
  (repeat' split) <;> omega
/-- Nothing is clamped. -/
theorem sinF_eq (a : Int) : sinF a = sineF (foldT (wrapT (satv a))) := by
  have h1 := wrapT_in (satv a)
  have h2 := foldT_in h1.1 h1.2
  have h3 := sineF_in h2.1 h2.2
  exact clamp_in h3.1 h3.2
end
end Go.Proofs.YtbpccdagmaiblaaDoor.SX

/- TrP -/
namespace Go.Proofs.YtbpccdagmaiblaaDoor.Tr
open Go SX
/-- The value at x. -/
def ev : List Int → Int → Int
  | [], _ => 0
  | c :: l, x => c + x * ev l x
/-- The sum of the sizes. -/
def evA : List Int → Int → Int
  | [], _ => 0
  | c :: l, B => (c.natAbs : Int) + B * evA l B
theorem ev_bd {x B : Int} (h1 : -B ≤ x) (h2 : x ≤ B) : ∀ l, -(evA l B) ≤ ev l x ∧ ev l x ≤ evA l B
  | [] => by simp [ev, evA]
  | c :: l => by
    have ih := ev_bd h1 h2 l
    have k := bil h1 h2 ih.1 ih.2
    show -((c.natAbs : Int) + B * evA l B) ≤ c + x * ev l x ∧ c + x * ev l x ≤ (c.natAbs : Int) + B * evA l B
    omega
def addL : List Int → List Int → List Int
  | [], m => m
  | a :: l, m => match m with
    | [] => a :: l
    | b :: m => (a + b) :: addL l m
theorem addL_ev (x : Int) : ∀ l m, ev (addL l m) x = ev l x + ev m x
  | [], m => by simp [addL, ev]
  | a :: l, [] => by simp [addL, ev]
  | a :: l, b :: m => by
    have ih := addL_ev x l m
    simp only [addL, ev, ih]
    grind
def smul (c : Int) (l : List Int) : List Int := l.map (c * ·)
theorem smul_ev (c x : Int) : ∀ l, ev (smul c l) x = c * ev l x
  | [] => by simp [smul, ev]
  | a :: l => by
    have ih := smul_ev c x l
    simp only [smul, List.map_cons, ev] at ih ⊢
    rw [ih]; grind
def mulL : List Int → List Int → List Int
  | [], _ => []
  | a :: l, m => addL (smul a m) (0 :: mulL l m)
theorem mulL_ev (x : Int) : ∀ l m, ev (mulL l m) x = ev l x * ev m x
  | [], m => by simp [mulL, ev]
  | a :: l, m => by
    have ih := mulL_ev x l m
    simp only [mulL, addL_ev, smul_ev, ev, ih]
    grind
/-- In the square of the unknown. -/
def inter : List Int → List Int
  | [] => []
  | c :: l => c :: 0 :: inter l
theorem inter_ev (x : Int) : ∀ l, ev (inter l) x = ev l (x * x)
  | [] => rfl
  | c :: l => by
    have ih := inter_ev x l
    simp only [inter, ev, ih]
    grind
/-- At the opposite number. -/
def alt : List Int → List Int
  | [] => []
  | c :: l => c :: smul (-1) (alt l)
theorem alt_ev (x : Int) : ∀ l, ev (alt l) x = ev l (-x)
  | [] => rfl
  | c :: l => by
    have ih := alt_ev x l
    simp only [alt, ev, smul_ev, ih]
    grind
/-- At r times the number. -/
def scl (r : Int) : Int → List Int → List Int
  | _, [] => []
  | m, c :: l => m * c :: scl r (m * r) l
theorem scl_ev (r x : Int) : ∀ l m, ev (scl r m l) x = m * ev l (r * x)
  | [], m => by simp [scl, ev]
  | c :: l, m => by
    have ih := scl_ev r x l (m * r)
    simp only [scl, ev, ih]
    grind
/-- How much a polynomial grows. -/
def evL : List Int → Int → Int
  | [], _ => 0
  | _ :: l, B => evA l B + B * evL l B
theorem ev_lip {x y B E : Int} (x1 : -B ≤ x) (x2 : x ≤ B) (y1 : -B ≤ y) (y2 : y ≤ B) (e1 : -E ≤ x - y) (e2 : x - y ≤ E) :
    ∀ l, -(evL l B * E) ≤ ev l x - ev l y ∧ ev l x - ev l y ≤ evL l B * E
  | [] => by simp [ev, evL]
  | c :: l => by
    have ih := ev_lip x1 x2 y1 y2 e1 e2 l
    have hb := ev_bd y1 y2 l
    have k1 := bil hb.1 hb.2 e1 e2
    have k2 := bil x1 x2 ih.1 ih.2
    have e : ev (c :: l) x - ev (c :: l) y = ev l y * (x - y) + x * (ev l x - ev l y) := by simp only [ev]; grind
    have e' : evL (c :: l) B * E = evA l B * E + B * (evL l B * E) := by simp only [evL]; grind
    rw [e, e']
    omega
/-! ### Two unknowns -/
def ev2 : List (List Int) → Int → Int → Int
  | [], _, _ => 0
  | p :: L, x, y => ev p y + x * ev2 L x y
def evA2 : List (List Int) → Int → Int → Int
  | [], _, _ => 0
  | p :: L, B, C => evA p C + B * evA2 L B C
theorem ev2_bd {x y B C : Int} (x1 : -B ≤ x) (x2 : x ≤ B) (y1 : -C ≤ y) (y2 : y ≤ C) : ∀ L, -(evA2 L B C) ≤ ev2 L x y ∧ ev2 L x y ≤ evA2 L B C
  | [] => by simp [ev2, evA2]
  | p :: L => by
    have ih := ev2_bd x1 x2 y1 y2 L
    have hp := ev_bd y1 y2 p
    have k := bil x1 x2 ih.1 ih.2
    show -(evA p C + B * evA2 L B C) ≤ ev p y + x * ev2 L x y ∧ ev p y + x * ev2 L x y ≤ evA p C + B * evA2 L B C
    omega
def addL2 : List (List Int) → List (List Int) → List (List Int)
  | [], m => m
  | a :: l, m => match m with
    | [] => a :: l
    | b :: m => addL a b :: addL2 l m
theorem addL2_ev (x y : Int) : ∀ l m, ev2 (addL2 l m) x y = ev2 l x y + ev2 m x y
  | [], m => by simp [addL2, ev2]
  | a :: l, [] => by simp [addL2, ev2]
  | a :: l, b :: m => by
    have ih := addL2_ev x y l m
    simp only [addL2, ev2, ih, addL_ev]
    grind
def smul2 (c : Int) (L : List (List Int)) : List (List Int) := L.map (smul c)
theorem smul2_ev (c x y : Int) : ∀ L, ev2 (smul2 c L) x y = c * ev2 L x y
  | [] => by simp [smul2, ev2]
  | a :: l => by
    have ih := smul2_ev c x y l
    simp only [smul2, List.map_cons, ev2, smul_ev] at ih ⊢
    rw [ih]; grind
/-- The one's value times the other's. -/
def outer (p q : List Int) : List (List Int) := p.map fun c => smul c q
theorem outer_ev (q : List Int) (x y : Int) : ∀ p, ev2 (outer p q) x y = ev p x * ev q y
  | [] => by simp [outer, ev2, ev]
  | a :: l => by
    have ih := outer_ev q x y l
    simp only [outer, List.map_cons, ev2, ev, smul_ev] at ih ⊢
    rw [ih]; grind
def shiftY (L : List (List Int)) : List (List Int) := L.map (0 :: ·)
theorem shiftY_ev (x y : Int) : ∀ L, ev2 (shiftY L) x y = y * ev2 L x y
  | [] => by simp [shiftY, ev2]
  | a :: l => by
    have ih := shiftY_ev x y l
    simp only [shiftY, List.map_cons, ev2, ev] at ih ⊢
    rw [ih]; grind
def stepE (c : Int) (Q : List (List Int)) : List (List Int) := addL2 [[c]] (addL2 ([] :: Q) (shiftY Q))
/-- At a sum. -/
def exp2 : List Int → List (List Int)
  | [] => []
  | c :: l => stepE c (exp2 l)
theorem exp2_ev (x y : Int) : ∀ l, ev2 (exp2 l) x y = ev l (x + y)
  | [] => rfl
  | c :: l => by
    have ih := exp2_ev x y l
    simp only [exp2, stepE, addL2_ev, shiftY_ev, ev2, ev, ih]
    grind
end Go.Proofs.YtbpccdagmaiblaaDoor.Tr

/- TrS -/
namespace Go.Proofs.YtbpccdagmaiblaaDoor.Tr
open Go SX
def snL : List Int := [0, ((2968282508838084083783946951720703125 * 2 ^ 1208 : Nat) : Int), 0, (-((989427502946028027927982317240234375 * 2 ^ 1147 : Nat) : Int)), 0, ((197885500589205605585596463448046875 * 2 ^ 1085 : Nat) : Int), 0, (-((9423119075676457408837926830859375 * 2 ^ 1024 : Nat) : Int)), 0, ((1047013230630717489870880758984375 * 2 ^ 961 : Nat) : Int), 0, (-((19036604193285772543106922890625 * 2 ^ 900 : Nat) : Int)), 0, ((488118056238096731874536484375 * 2 ^ 838 : Nat) : Int), 0, (-((4648743392743778398805109375 * 2 ^ 777 : Nat) : Int)), 0, ((273455493690810494047359375 * 2 ^ 713 : Nat) : Int), 0, (-((1599154933864388854078125 * 2 ^ 652 : Nat) : Int)), 0, ((15230046989184655753125 * 2 ^ 590 : Nat) : Int), 0, (-((60197814186500615625 * 2 ^ 529 : Nat) : Int)), 0, ((802637522486674875 * 2 ^ 466 : Nat) : Int), 0, (-((2286716588281125 * 2 ^ 405 : Nat) : Int)), 0, ((11264613735375 * 2 ^ 343 : Nat) : Int), 0, (-((24224975775 * 2 ^ 282 : Nat) : Int)), 0, ((734090175 * 2 ^ 217 : Nat) : Int), 0, (-((1233765 * 2 ^ 156 : Nat) : Int)), 0, ((3705 * 2 ^ 94 : Nat) : Int), 0, (-42949672960), 0]
def cnL : List Int := [((2968282508838084083783946951720703125 * 2 ^ 1238 : Nat) : Int), 0, (-((2968282508838084083783946951720703125 * 2 ^ 1177 : Nat) : Int)), 0, ((989427502946028027927982317240234375 * 2 ^ 1115 : Nat) : Int), 0, (-((65961833529735201861865487816015625 * 2 ^ 1054 : Nat) : Int)), 0, ((9423119075676457408837926830859375 * 2 ^ 991 : Nat) : Int), 0, (-((209402646126143497974176151796875 * 2 ^ 930 : Nat) : Int)), 0, ((6345534731095257514368974296875 * 2 ^ 868 : Nat) : Int), 0, (-((69731150891156675982076640625 * 2 ^ 807 : Nat) : Int)), 0, ((4648743392743778398805109375 * 2 ^ 743 : Nat) : Int), 0, (-((30383943743423388227484375 * 2 ^ 682 : Nat) : Int)), 0, ((319830986772877770815625 * 2 ^ 620 : Nat) : Int), 0, (-((1384549726289514159375 * 2 ^ 559 : Nat) : Int)), 0, ((20065938062166871875 * 2 ^ 496 : Nat) : Int), 0, (-((61741347883590375 * 2 ^ 435 : Nat) : Int)), 0, ((326673798325875 * 2 ^ 373 : Nat) : Int), 0, (-((750974249025 * 2 ^ 312 : Nat) : Int)), 0, ((24224975775 * 2 ^ 247 : Nat) : Int), 0, (-((43181775 * 2 ^ 186 : Nat) : Int)), 0, ((137085 * 2 ^ 124 : Nat) : Int), 0, (-((195 * 2 ^ 63 : Nat) : Int)), 0, 1]
/-- The common denominator. -/
def DT : Int := ((2968282508838084083783946951720703125 * 2 ^ 1238 : Nat) : Int)
def ES : Int := ((175453207222301 * 2 ^ 2619 : Nat) : Int)
def KK : Int := ((19642445951129 * 2 ^ 1264 : Nat) : Int)
def sN (x : Int) : Int := ev snL x
def cN (x : Int) : Int := ev cnL x
/-- Sine and cosine in units of 2^-44, cut off; angles in units of 2^-30. -/
def sT (x : Int) : Int := sN x * 17592186044416 / DT
def cT (x : Int) : Int := cN x * 17592186044416 / DT
def RS : List (List Int) := addL2 (smul2 DT (exp2 snL)) (smul2 (-1) (addL2 (outer snL cnL) (outer cnL snL)))
def RC : List (List Int) := addL2 (smul2 DT (exp2 cnL)) (smul2 (-1) (addL2 (outer cnL cnL) (smul2 (-1) (outer snL snL))))
theorem RS_b : ile (evA2 RS 3373259426 3373259426) ES = true := by kernel_rfl
theorem RC_b : ile (evA2 RC 3373259426 3373259426) ES = true := by kernel_rfl
theorem add_s {x y : Int} (x1 : -3373259426 ≤ x) (x2 : x ≤ 3373259426) (y1 : -3373259426 ≤ y) (y2 : y ≤ 3373259426) : -ES ≤ DT * sN (x + y) - (sN x * cN y + cN x * sN y) ∧ DT * sN (x + y) - (sN x * cN y + cN x * sN y) ≤ ES := by
  have h := ev2_bd x1 x2 y1 y2 RS
  have hb := RS_b
  rw [ile_iff, decide_eq_true_eq] at hb
  have e : ev2 RS x y = DT * sN (x + y) - (sN x * cN y + cN x * sN y) := by
    unfold RS sN cN
    rw [addL2_ev, smul2_ev, smul2_ev, addL2_ev, outer_ev, outer_ev, exp2_ev]
    omega
  rw [e] at h
  generalize DT * sN (x + y) - (sN x * cN y + cN x * sN y) = k at *
  omega
theorem add_c {x y : Int} (x1 : -3373259426 ≤ x) (x2 : x ≤ 3373259426) (y1 : -3373259426 ≤ y) (y2 : y ≤ 3373259426) : -ES ≤ DT * cN (x + y) - (cN x * cN y - sN x * sN y) ∧ DT * cN (x + y) - (cN x * cN y - sN x * sN y) ≤ ES := by
  have h := ev2_bd x1 x2 y1 y2 RC
  have hb := RC_b
  rw [ile_iff, decide_eq_true_eq] at hb
  have e : ev2 RC x y = DT * cN (x + y) - (cN x * cN y - sN x * sN y) := by
    unfold RC sN cN
    rw [addL2_ev, smul2_ev, smul2_ev, addL2_ev, smul2_ev, outer_ev, outer_ev, exp2_ev]
    omega
  rw [e] at h
  generalize DT * cN (x + y) - (cN x * cN y - sN x * sN y) = k at *
  omega

theorem alt_s : alt snL = smul (-1) snL := by decide +kernel
theorem alt_c : alt cnL = cnL := by decide +kernel
theorem sN_neg (x : Int) : sN (-x) = -sN x := by
  unfold sN
  rw [← alt_ev, alt_s, smul_ev]; omega
theorem cN_neg (x : Int) : cN (-x) = cN x := by
  unfold cN
  rw [← alt_ev, alt_c]
theorem DT_pos : 0 < DT := by decide +kernel
theorem cN_0 : cN 0 = DT := by decide +kernel
theorem KK_b : DT * DT + ES < (DT + KK) * (DT + KK) := by decide +kernel
theorem KK_s : 0 ≤ KK ∧ KK * 17592186044416 ≤ DT := by decide +kernel
theorem ES_b : 0 ≤ ES ∧ 17592186044416 * ES ≤ DT * DT := by decide +kernel
theorem circ {x : Int} (x1 : -3373259426 ≤ x) (x2 : x ≤ 3373259426) : -ES ≤ DT * DT - (cN x * cN x + sN x * sN x) ∧ DT * DT - (cN x * cN x + sN x * sN x) ≤ ES := by
  have h := add_c x1 x2 (y := -x) (by omega) (by omega)
  rw [cN_neg, sN_neg, show x + -x = 0 by omega, cN_0, Int.mul_neg] at h
  have e : DT * DT - (cN x * cN x - -(sN x * sN x)) = DT * DT - (cN x * cN x + sN x * sN x) := by omega
  rw [e] at h
  exact h
theorem root_le {a b d k E : Int} (hd : 0 < d) (hk : 0 ≤ k) (h : a * a + b * b ≤ d * d + E) (hE : d * d + E < (d + k) * (d + k)) : a ≤ d + k := by
  refine Int.not_lt.1 fun hc => ?_
  have k1 := Int.mul_le_mul (Int.le_of_lt hc) (Int.le_of_lt hc) (by omega) (by omega)
  have k2 := Nm.sqnn b
  omega
theorem sN_in {x : Int} (x1 : -3373259426 ≤ x) (x2 : x ≤ 3373259426) : -(DT + KK) ≤ sN x ∧ sN x ≤ DT + KK := by
  have h := circ x1 x2
  have e : -sN x * -sN x = sN x * sN x := by grind
  have k1 := root_le (a := sN x) (b := cN x) DT_pos KK_s.1 (E := ES) (by omega) KK_b
  have k2 := root_le (a := -sN x) (b := cN x) DT_pos KK_s.1 (E := ES) (by omega) KK_b
  omega
theorem cN_in {x : Int} (x1 : -3373259426 ≤ x) (x2 : x ≤ 3373259426) : -(DT + KK) ≤ cN x ∧ cN x ≤ DT + KK := by
  have h := circ x1 x2
  have e : -cN x * -cN x = cN x * cN x := by grind
  have k1 := root_le (a := cN x) (b := sN x) DT_pos KK_s.1 (E := ES) (by omega) KK_b
  have k2 := root_le (a := -cN x) (b := sN x) DT_pos KK_s.1 (E := ES) (by omega) KK_b
  omega
theorem fl (a : Int) : DT * (a * 17592186044416 / DT) ≤ a * 17592186044416 ∧ a * 17592186044416 < DT * (a * 17592186044416 / DT) + DT := by
  have h1 := Int.mul_ediv_add_emod (a * 17592186044416) DT
  have h2 := Int.emod_nonneg (a * 17592186044416) (Int.ne_of_gt DT_pos)
  have h3 := Int.emod_lt_of_pos (a * 17592186044416) DT_pos
  omega
/-- A number over d, in the unit o, cut off: its bounds. -/
theorem fl_in {d k o a q : Int} (hd : 0 < d) (ho : k * o ≤ d) (h1 : -(d + k) ≤ a) (h2 : a ≤ d + k) (ho0 : 0 ≤ o) (hq : d * q ≤ a * o ∧ a * o < d * q + d) : -o - 2 ≤ q ∧ q ≤ o + 1 := by
  have k1 := Int.mul_le_mul_of_nonneg_right h2 ho0
  have k2 := Int.mul_le_mul_of_nonneg_right h1 ho0
  have e1 : (d + k) * o = d * o + k * o := by grind
  have e2 : -(d + k) * o = -(d * o) - k * o := by grind
  constructor
  · refine Int.le_of_mul_le_mul_left (a := d) ?_ hd
    have e3 : d * (-o - 2) = -(d * o) - 2 * d := by grind
    omega
  · refine Int.le_of_mul_le_mul_left (a := d) ?_ hd
    have e3 : d * (o + 1) = d * o + d := by grind
    omega
theorem flS (a : Int) : -DT ≤ DT * (a * 17592186044416 / DT) - a * 17592186044416 ∧ DT * (a * 17592186044416 / DT) - a * 17592186044416 ≤ DT := by
  have h := fl a
  have hd := DT_pos
  generalize DT * (a * 17592186044416 / DT) = k at *
  generalize a * 17592186044416 = m at *
  generalize DT = d at *
  omega
theorem flN (a : Int) : -DT ≤ DT * -(a * 17592186044416 / DT) - -a * 17592186044416 ∧ DT * -(a * 17592186044416 / DT) - -a * 17592186044416 ≤ DT := by
  have h := flS a
  have e1 : DT * -(a * 17592186044416 / DT) = -(DT * (a * 17592186044416 / DT)) := by grind
  have e2 : -a * 17592186044416 = -(a * 17592186044416) := by grind
  rw [e1, e2]
  generalize DT * (a * 17592186044416 / DT) = k at *
  generalize a * 17592186044416 = m at *
  generalize DT = d at *
  omega
theorem sT_in {x : Int} (x1 : -3373259426 ≤ x) (x2 : x ≤ 3373259426) : -17592186044416 - 2 ≤ sT x ∧ sT x ≤ 17592186044416 + 1 := by
  have h := sN_in x1 x2
  exact fl_in DT_pos KK_s.2 h.1 h.2 (by decide) (fl _)
theorem cT_in {x : Int} (x1 : -3373259426 ≤ x) (x2 : x ≤ 3373259426) : -17592186044416 - 2 ≤ cT x ∧ cT x ≤ 17592186044416 + 1 := by
  have h := cN_in x1 x2
  exact fl_in DT_pos KK_s.2 h.1 h.2 (by decide) (fl _)
theorem bnd3 {d u r M : Int} (hd : 0 < d) (h1 : -M ≤ u) (h2 : u ≤ M) (r1 : -d ≤ r) (r2 : r ≤ d) : -(M * (d * d)) ≤ d * (u * r) ∧ d * (u * r) ≤ M * (d * d) := by
  have k := bil h1 h2 (d := r) (S := d) r1 r2
  have k1 := Int.mul_le_mul_of_nonneg_left k.1 (Int.le_of_lt hd)
  have k2 := Int.mul_le_mul_of_nonneg_left k.2 (Int.le_of_lt hd)
  have e1 : d * (M * d) = M * (d * d) := by grind
  have e2 : d * (-(M * d)) = -(M * (d * d)) := by grind
  omega
/-- From numbers over d to numbers in the unit o. -/
theorem low {d o A1 C2 C1 A2 Z a1 c2 c1 a2 z E M : Int} (hd : 0 < d) (hoM : o + 2 = M) (ho : 8 ≤ o) (hE : o * E ≤ d * d) (hR : -E ≤ d * Z - (A1 * C2 + C1 * A2) ∧ d * Z - (A1 * C2 + C1 * A2) ≤ E)
    (h1 : -d ≤ d * a1 - A1 * o ∧ d * a1 - A1 * o ≤ d) (h2 : -d ≤ d * c2 - C2 * o ∧ d * c2 - C2 * o ≤ d) (h3 : -d ≤ d * c1 - C1 * o ∧ d * c1 - C1 * o ≤ d) (h4 : -d ≤ d * a2 - A2 * o ∧ d * a2 - A2 * o ≤ d) (h5 : -d ≤ d * z - Z * o ∧ d * z - Z * o ≤ d)
    (b1 : -M ≤ a1) (b1' : a1 ≤ M) (b2 : -M ≤ c2) (b2' : c2 ≤ M) (b3 : -M ≤ c1) (b3' : c1 ≤ M) (b4 : -M ≤ a2) (b4' : a2 ≤ M) : -(8 * o) ≤ o * z - (a1 * c2 + c1 * a2) ∧ o * z - (a1 * c2 + c1 * a2) ≤ 8 * o := by
  obtain ⟨r1, e1⟩ : ∃ r, A1 * o = d * a1 + r := ⟨A1 * o - d * a1, by omega⟩
  obtain ⟨r2, e2⟩ : ∃ r, C2 * o = d * c2 + r := ⟨C2 * o - d * c2, by omega⟩
  obtain ⟨r3, e3⟩ : ∃ r, C1 * o = d * c1 + r := ⟨C1 * o - d * c1, by omega⟩
  obtain ⟨r4, e4⟩ : ∃ r, A2 * o = d * a2 + r := ⟨A2 * o - d * a2, by omega⟩
  obtain ⟨r5, e5⟩ : ∃ r, Z * o = d * z + r := ⟨Z * o - d * z, by omega⟩
  have p1 := bnd3 hd b1 b1' (r := r2) (by omega) (by omega)
  have p2 := bnd3 hd b2 b2' (r := r1) (by omega) (by omega)
  have p3 := bnd3 hd b3 b3' (r := r4) (by omega) (by omega)
  have p4 := bnd3 hd b4 b4' (r := r3) (by omega) (by omega)
  have p5 := bnd3 (u := o) (M := o) hd (by omega) (by omega) (r := r5) (by omega) (by omega)
  have q1 := bil (u := r1) (d := r2) (B := d) (S := d) (by omega) (by omega) (by omega) (by omega)
  have q2 := bil (u := r3) (d := r4) (B := d) (S := d) (by omega) (by omega) (by omega) (by omega)
  have t1 := Int.mul_le_mul_of_nonneg_left hR.1 (show 0 ≤ o by omega)
  have t2 := Int.mul_le_mul_of_nonneg_left hR.2 (show 0 ≤ o by omega)
  have t3 := Int.mul_le_mul_of_nonneg_left t1 (show 0 ≤ o by omega)
  have t4 := Int.mul_le_mul_of_nonneg_left t2 (show 0 ≤ o by omega)
  have t5 := Int.mul_le_mul_of_nonneg_left hE (show 0 ≤ o by omega)
  have key : d * d * (o * z - (a1 * c2 + c1 * a2)) = o * (o * (d * Z - (A1 * C2 + C1 * A2))) - d * (o * r5) + d * (a1 * r2) + d * (c2 * r1) + d * (c1 * r4) + d * (a2 * r3) + r1 * r2 + r3 * r4 := by
    have s1 : o * (o * (A1 * C2)) = (d * a1 + r1) * (d * c2 + r2) := by rw [← e1, ← e2]; grind
    have s2 : o * (o * (C1 * A2)) = (d * c1 + r3) * (d * a2 + r4) := by rw [← e3, ← e4]; grind
    have s3 : o * (o * (d * Z)) = o * d * (d * z + r5) := by rw [← e5]; grind
    have s4 : o * (o * (d * Z - (A1 * C2 + C1 * A2))) = o * (o * (d * Z)) - o * (o * (A1 * C2)) - o * (o * (C1 * A2)) := by grind
    rw [s4, s1, s2, s3]; grind
  have n1 : o * (o * -E) = -(o * (o * E)) := by grind
  have n2 : M * (d * d) = o * (d * d) + 2 * (d * d) := by rw [← hoM]; grind
  have n3 : 0 < d * d := Int.mul_pos hd hd
  have n4 := Int.mul_le_mul_of_nonneg_right ho (Int.le_of_lt n3)
  constructor
  · refine Int.le_of_mul_le_mul_left (a := d * d) ?_ n3
    have e : d * d * -(8 * o) = -(8 * (o * (d * d))) := by grind
    rw [key, e]; omega
  · refine Int.le_of_mul_le_mul_left (a := d * d) ?_ n3
    have e : d * d * (8 * o) = 8 * (o * (d * d)) := by grind
    rw [key, e]; omega
theorem sum_s {x y : Int} (x1 : -3373259426 ≤ x) (x2 : x ≤ 3373259426) (y1 : -3373259426 ≤ y) (y2 : y ≤ 3373259426) : -(8 * 17592186044416) ≤ 17592186044416 * sT (x + y) - (sT x * cT y + cT x * sT y) ∧ 17592186044416 * sT (x + y) - (sT x * cT y + cT x * sT y) ≤ 8 * 17592186044416 := by
  have b1 := sT_in x1 x2
  have b2 := cT_in y1 y2
  have b3 := cT_in x1 x2
  have b4 := sT_in y1 y2
  exact low (M := 17592186044416 + 2) DT_pos rfl (by decide) ES_b.2 (add_s x1 x2 y1 y2) (flS _) (flS _) (flS _) (flS _) (flS _) (by omega) (by omega) (by omega) (by omega) (by omega) (by omega) (by omega) (by omega)
theorem sum_c {x y : Int} (x1 : -3373259426 ≤ x) (x2 : x ≤ 3373259426) (y1 : -3373259426 ≤ y) (y2 : y ≤ 3373259426) : -(8 * 17592186044416) ≤ 17592186044416 * cT (x + y) - (cT x * cT y - sT x * sT y) ∧ 17592186044416 * cT (x + y) - (cT x * cT y - sT x * sT y) ≤ 8 * 17592186044416 := by
  have b1 := cT_in x1 x2
  have b2 := cT_in y1 y2
  have b3 := sT_in x1 x2
  have b4 := sT_in y1 y2
  have hR := add_c x1 x2 y1 y2
  have e : ∀ p q : Int, p - q * sN y = p + -q * sN y := fun p q => by grind
  have e' : ∀ p q : Int, p - q * sT y = p + -q * sT y := fun p q => by grind
  rw [e] at hR
  rw [e']
  exact low (M := 17592186044416 + 2) DT_pos rfl (by decide) ES_b.2 hR (flS _) (flS _) (flN _) (flS _) (flS _) (by omega) (by omega) (by omega) (by omega) (by omega) (by omega) (by omega) (by omega)
end Go.Proofs.YtbpccdagmaiblaaDoor.Tr

/- TrM -/
namespace Go.Proofs.YtbpccdagmaiblaaDoor.Tr
open Go SX
theorem sTQ : sT 1686629713 = 17592186044415 := by decide +kernel
theorem cTQ : cT 1686629713 = 1069 := by decide +kernel
theorem sTQn : sT (-1686629713) = -17592186044416 := by decide +kernel
theorem cTQn : cT (-1686629713) = 1069 := by decide +kernel
theorem sTP : sT 3373259426 = 2138 := by decide +kernel
theorem cTP : cT 3373259426 = -17592186044416 := by decide +kernel
theorem sTPn : sT (-3373259426) = -2139 := by decide +kernel
theorem cTPn : cT (-3373259426) = -17592186044416 := by decide +kernel
theorem sTE : sT 843314857 = 12439554053316 := by decide +kernel
theorem cTE : cT 843314857 = 12439554042487 := by decide +kernel
theorem sQ {x : Int} (x1 : -3373259426 ≤ x) (x2 : x ≤ 3373259426) : -1100 ≤ sT (x + 1686629713) - cT x ∧ sT (x + 1686629713) - cT x ≤ 1100 := by
  have h := sum_s x1 x2 (y := 1686629713) (by decide) (by decide)
  rw [sTQ, cTQ] at h
  have b1 := sT_in x1 x2
  have b2 := cT_in x1 x2
  omega
theorem cQ {x : Int} (x1 : -3373259426 ≤ x) (x2 : x ≤ 3373259426) : -1100 ≤ cT (x + 1686629713) + sT x ∧ cT (x + 1686629713) + sT x ≤ 1100 := by
  have h := sum_c x1 x2 (y := 1686629713) (by decide) (by decide)
  rw [sTQ, cTQ] at h
  have b1 := sT_in x1 x2
  have b2 := cT_in x1 x2
  omega
theorem sQn {x : Int} (x1 : -3373259426 ≤ x) (x2 : x ≤ 3373259426) : -1100 ≤ sT (x + (-1686629713)) + cT x ∧ sT (x + (-1686629713)) + cT x ≤ 1100 := by
  have h := sum_s x1 x2 (y := (-1686629713)) (by decide) (by decide)
  rw [sTQn, cTQn] at h
  have b1 := sT_in x1 x2
  have b2 := cT_in x1 x2
  omega
theorem cQn {x : Int} (x1 : -3373259426 ≤ x) (x2 : x ≤ 3373259426) : -1100 ≤ cT (x + (-1686629713)) - sT x ∧ cT (x + (-1686629713)) - sT x ≤ 1100 := by
  have h := sum_c x1 x2 (y := (-1686629713)) (by decide) (by decide)
  rw [sTQn, cTQn] at h
  have b1 := sT_in x1 x2
  have b2 := cT_in x1 x2
  omega
theorem sP {x : Int} (x1 : -3373259426 ≤ x) (x2 : x ≤ 3373259426) : -2200 ≤ sT (x + 3373259426) + sT x ∧ sT (x + 3373259426) + sT x ≤ 2200 := by
  have h := sum_s x1 x2 (y := 3373259426) (by decide) (by decide)
  rw [sTP, cTP] at h
  have b1 := sT_in x1 x2
  have b2 := cT_in x1 x2
  omega
theorem cP {x : Int} (x1 : -3373259426 ≤ x) (x2 : x ≤ 3373259426) : -2200 ≤ cT (x + 3373259426) + cT x ∧ cT (x + 3373259426) + cT x ≤ 2200 := by
  have h := sum_c x1 x2 (y := 3373259426) (by decide) (by decide)
  rw [sTP, cTP] at h
  have b1 := sT_in x1 x2
  have b2 := cT_in x1 x2
  omega
theorem sPn {x : Int} (x1 : -3373259426 ≤ x) (x2 : x ≤ 3373259426) : -2200 ≤ sT (x + (-3373259426)) + sT x ∧ sT (x + (-3373259426)) + sT x ≤ 2200 := by
  have h := sum_s x1 x2 (y := (-3373259426)) (by decide) (by decide)
  rw [sTPn, cTPn] at h
  have b1 := sT_in x1 x2
  have b2 := cT_in x1 x2
  omega
theorem cPn {x : Int} (x1 : -3373259426 ≤ x) (x2 : x ≤ 3373259426) : -2200 ≤ cT (x + (-3373259426)) + cT x ∧ cT (x + (-3373259426)) + cT x ≤ 2200 := by
  have h := sum_c x1 x2 (y := (-3373259426)) (by decide) (by decide)
  rw [sTPn, cTPn] at h
  have b1 := sT_in x1 x2
  have b2 := cT_in x1 x2
  omega
def c1L : Int := 13083983718189492746090841795771191974570786689064640149161563322228981043801256047490754562256870992609094001622398778880972105806017617961735777200973548695455105217374901325610429058098883599420173989205704137450029028531109768982485205078558503061827823438034328324911616248160410985160959796974339639821471063538804292612688268913481543403690114690631514875614268161879978496824681955328000000000
def l2L : List Int := snL.drop 2
theorem snL_is : snL = 0 :: c1L :: l2L := by decide +kernel
theorem c1_b : ile (100 * (1686629713 * evA l2L 1686629713)) (47 * c1L) = true := by decide +kernel
theorem c1_D : c1L * 1073741824 = DT := by decide +kernel
theorem sT_neg (x : Int) : -sT x - 1 ≤ sT (-x) ∧ sT (-x) ≤ -sT x := by
  have h1 := fl (sN x)
  have h2 := fl (sN (-x))
  have hd := DT_pos
  unfold sT
  rw [sN_neg, Int.neg_mul] at h2 ⊢
  generalize sN x * 17592186044416 / DT = p at *
  generalize -(sN x * 17592186044416) / DT = q at *
  generalize sN x * 17592186044416 = m at *
  generalize DT = d at *
  have e1 : d * (p + q) = d * p + d * q := by grind
  constructor
  · refine Int.not_lt.1 fun hc => ?_
    have k := Int.mul_le_mul_of_nonneg_left (show p + q ≤ -2 by omega) (Int.le_of_lt hd)
    omega
  · refine Int.not_lt.1 fun hc => ?_
    have k := Int.mul_le_mul_of_nonneg_left (show 1 ≤ p + q by omega) (Int.le_of_lt hd)
    omega
theorem cT_neg (x : Int) : cT (-x) = cT x := by unfold cT; rw [cN_neg]
/-- Up to a quarter turn the sine is at least the half of its angle. -/
theorem jord {z : Int} (z1 : 0 ≤ z) (z2 : z ≤ 1686629713) : 868352 * z ≤ 100 * (sT z + 1) := by
  have h1 := fl (sN z)
  have hb := ev_bd (x := z) (B := 1686629713) (by omega) (by omega) l2L
  have hc := c1_b
  rw [ile_iff, decide_eq_true_eq] at hc
  have e : sN z = z * (c1L + z * ev l2L z) := by
    unfold sN
    rw [snL_is]; simp only [ev]; grind
  have k := bil (u := z) (B := 1686629713) (by omega) (by omega) hb.1 hb.2
  have hd := c1_D
  have hp := DT_pos
  change DT * sT z ≤ _ ∧ _ < DT * sT z + DT at h1
  generalize sT z = q at *
  generalize z * ev l2L z = v at *
  generalize 1686629713 * evA l2L 1686629713 = m at *
  generalize hcc : c1L = c at *
  rw [e] at h1
  have k1 := Int.mul_nonneg z1 (show 0 ≤ 100 * (c + v) - 53 * c by omega)
  have e2 : z * (100 * (c + v) - 53 * c) = 100 * (z * (c + v)) - 53 * (z * c) := by grind
  have e3 : DT * q = 1073741824 * (c * q) := by rw [← hd]; grind
  have e4 : z * (c + v) * 17592186044416 = 17592186044416 * (z * (c + v)) := by grind
  rw [e3, e4] at h1
  have hc0 : 0 < c := by omega
  refine Int.le_of_mul_le_mul_left (a := c) ?_ hc0
  have e5 : c * (868352 * z) = 868352 * (z * c) := by grind
  have e6 : c * (100 * (q + 1)) = 100 * (c * q) + 100 * c := by grind
  rw [e5, e6]
  omega
theorem jord_n {z : Int} (z1 : z ≤ 0) (z2 : -1686629713 ≤ z) : 868352 * -z ≤ 100 * (-sT z + 1) := by
  have h := jord (z := -z) (by omega) (by omega)
  have h2 := sT_neg z
  omega
/-- A small sine is of a small angle, where the cosine is great. -/
theorem small {z e : Int} (z1 : -3373259426 ≤ z) (z2 : z ≤ 3373259426) (s1 : -e ≤ sT z) (s2 : sT z ≤ e) (hc : 5000 ≤ cT z) : -(100 * (e + 1)) ≤ 868352 * z ∧ 868352 * z ≤ 100 * (e + 1) := by
  rcases Int.lt_or_le 1686629713 z with h | h
  · exfalso
    have k1 := cP (x := z + -3373259426) (by omega) (by omega)
    rw [show z + -3373259426 + 3373259426 = z by omega] at k1
    have k2 := sQ (x := z + -3373259426) (by omega) (by omega)
    have k3 := jord (z := z + -3373259426 + 1686629713) (by omega) (by omega)
    omega
  rcases Int.lt_or_le z (-1686629713) with h' | h'
  · exfalso
    have k1 := cPn (x := z + 3373259426) (by omega) (by omega)
    rw [show z + 3373259426 + -3373259426 = z by omega] at k1
    have k2 := sQn (x := z + 3373259426) (by omega) (by omega)
    have k3 := jord_n (z := z + 3373259426 + -1686629713) (by omega) (by omega)
    omega
  rcases Int.le_total 0 z with h0 | h0
  · have k := jord h0 h
    omega
  · have k := jord_n h0 h'
    omega
theorem diff_s {x y : Int} (x1 : -3373259426 ≤ x) (x2 : x ≤ 3373259426) (y1 : -3373259426 ≤ y) (y2 : y ≤ 3373259426) : -(10 * 17592186044416) ≤ 17592186044416 * sT (x - y) - (sT x * cT y - cT x * sT y) ∧ 17592186044416 * sT (x - y) - (sT x * cT y - cT x * sT y) ≤ 10 * 17592186044416 := by
  have h := sum_s x1 x2 (y := -y) (by omega) (by omega)
  rw [cT_neg, ← Int.sub_eq_add_neg] at h
  have hn := sT_neg y
  have hc := cT_in x1 x2
  obtain ⟨r, hr, r1, r2⟩ : ∃ r, sT (-y) = -sT y + r ∧ -1 ≤ r ∧ r ≤ 0 := ⟨sT (-y) + sT y, by omega, by omega, by omega⟩
  rw [hr] at h
  have e : cT x * (-sT y + r) = -(cT x * sT y) + cT x * r := by grind
  rw [e] at h
  have k : -(17592186044416 + 2) ≤ cT x * r ∧ cT x * r ≤ 17592186044416 + 2 := by
    rcases (show r = 0 ∨ r = -1 by omega) with h0 | h0 <;> subst h0 <;> omega
  omega
theorem diff_c {x y : Int} (x1 : -3373259426 ≤ x) (x2 : x ≤ 3373259426) (y1 : -3373259426 ≤ y) (y2 : y ≤ 3373259426) : -(10 * 17592186044416) ≤ 17592186044416 * cT (x - y) - (cT x * cT y + sT x * sT y) ∧ 17592186044416 * cT (x - y) - (cT x * cT y + sT x * sT y) ≤ 10 * 17592186044416 := by
  have h := sum_c x1 x2 (y := -y) (by omega) (by omega)
  rw [cT_neg, ← Int.sub_eq_add_neg] at h
  have hn := sT_neg y
  have hc := sT_in x1 x2
  obtain ⟨r, hr, r1, r2⟩ : ∃ r, sT (-y) = -sT y + r ∧ -1 ≤ r ∧ r ≤ 0 := ⟨sT (-y) + sT y, by omega, by omega, by omega⟩
  rw [hr] at h
  have e : sT x * (-sT y + r) = -(sT x * sT y) + sT x * r := by grind
  rw [e] at h
  have k : -(17592186044416 + 2) ≤ sT x * r ∧ sT x * r ≤ 17592186044416 + 2 := by
    rcases (show r = 0 ∨ r = -1 by omega) with h0 | h0 <;> subst h0 <;> omega
  omega
/-- An angle within a whole turn, brought within a half one. -/
theorem home {z : Int} (z1 : -6746518852 ≤ z) (z2 : z ≤ 6746518852) : ∃ y, (y = z ∨ y = z - 6746518852 ∨ y = z + 6746518852) ∧ -3373259426 ≤ y ∧ y ≤ 3373259426 ∧ (-4400 ≤ sT y - sT z ∧ sT y - sT z ≤ 4400) ∧ (-4400 ≤ cT y - cT z ∧ cT y - cT z ≤ 4400) := by
  rcases Int.lt_or_le 3373259426 z with h | h
  · have a1 := sP (x := z + -3373259426) (by omega) (by omega)
    have a2 := cP (x := z + -3373259426) (by omega) (by omega)
    have a3 := sPn (x := z + -3373259426) (by omega) (by omega)
    have a4 := cPn (x := z + -3373259426) (by omega) (by omega)
    rw [show z + -3373259426 + 3373259426 = z by omega] at a1 a2
    rw [show z + -3373259426 + -3373259426 = z - 6746518852 by omega] at a3 a4
    exact ⟨z - 6746518852, .inr (.inl rfl), by omega, by omega, by omega, by omega⟩
  rcases Int.lt_or_le z (-3373259426) with h' | h'
  · have a1 := sPn (x := z + 3373259426) (by omega) (by omega)
    have a2 := cPn (x := z + 3373259426) (by omega) (by omega)
    have a3 := sP (x := z + 3373259426) (by omega) (by omega)
    have a4 := cP (x := z + 3373259426) (by omega) (by omega)
    rw [show z + 3373259426 + -3373259426 = z by omega] at a1 a2
    rw [show z + 3373259426 + 3373259426 = z + 6746518852 by omega] at a3 a4
    exact ⟨z + 6746518852, .inr (.inr rfl), by omega, by omega, by omega, by omega⟩
  · exact ⟨z, .inl rfl, by omega, by omega, by omega, by omega⟩
/-- Two angles whose sines and cosines go together are one, but for whole turns. -/
theorem near_ang {x y e : Int} (x1 : -3373259426 ≤ x) (x2 : x ≤ 3373259426) (y1 : -3373259426 ≤ y) (y2 : y ≤ 3373259426) (h1 : -(e * 17592186044416) ≤ sT x * cT y - cT x * sT y) (h2 : sT x * cT y - cT x * sT y ≤ e * 17592186044416) (h3 : 10000 * 17592186044416 ≤ cT x * cT y + sT x * sT y) :
    ∃ z, (z = x - y ∨ z = x - y - 6746518852 ∨ z = x - y + 6746518852) ∧ -3373259426 ≤ z ∧ z ≤ 3373259426 ∧ -(100 * (e + 4500)) ≤ 868352 * z ∧ 868352 * z ≤ 100 * (e + 4500) := by
  obtain ⟨z, hz, z1, z2, hs, hc⟩ := home (z := x - y) (by omega) (by omega)
  have k1 := diff_s x1 x2 y1 y2
  have k2 := diff_c x1 x2 y1 y2
  have k3 := small z1 z2 (e := e + 4420) (by omega) (by omega) (by omega)
  exact ⟨z, hz, z1, z2, by omega, by omega⟩
end Go.Proofs.YtbpccdagmaiblaaDoor.Tr

/- TrA -/
namespace Go.Proofs.YtbpccdagmaiblaaDoor.Tr
open Go SX
noncomputable section
/-- One step of a series: where P s is near T, 2^60 P times the rounded product of the square and s is near Z T. -/
theorem step {x s T P e M e2 : Int} (x1 : -843314860 ≤ x) (x2 : x ≤ 843314860) (hP : 0 ≤ P) (s1 : -M ≤ s) (s2 : s ≤ M) (hM : M ≤ 2147483648)
    (h1 : -(e * P) ≤ 1024 * (P * s - T)) (h2 : 1024 * (P * s - T) ≤ e * P) (he : 711179953100419600 * e + 549755813888 * M + 590295810358705651712 ≤ 1152921504606846976 * e2) :
    -(e2 * (1152921504606846976 * P)) ≤ 1024 * (1152921504606846976 * P * mq (mq x x) s - x * x * T) ∧ 1024 * (1152921504606846976 * P * mq (mq x x) s - x * x * T) ≤ e2 * (1152921504606846976 * P) := by
  obtain ⟨z1, z2⟩ := zq_bd x1 x2
  have hz := mq_near (a := x) (b := x) (by omega) (by omega) (by omega) (by omega)
  have hk := bil x1 x2 (d := x) x1 x2
  have k0 : 0 ≤ x * x := Nm.sqnn x
  generalize mq x x = z at *
  have hm := mq_near (a := z) (b := s) (by omega) (by omega) (by omega) (by omega)
  generalize mq z s = m at *
  generalize x * x = Z at *
  have b1 := bil (u := s) (d := 1073741824 * z - Z) s1 s2 hz.1 hz.2
  have b2 := bil (u := Z) (d := 1024 * (P * s - T)) (B := 711179953100419600) (S := e * P) (by omega) (by omega) h1 h2
  have p1 := bil (u := P) (d := 1073741824 * m - z * s) (B := P) (by omega) (by omega) hm.1 hm.2
  have p2 := bil (u := P) (d := s * (1073741824 * z - Z)) (B := P) (by omega) (by omega) b1.2 b1.1
  have hf := Int.mul_le_mul_of_nonneg_left he hP
  have id : 1024 * (1152921504606846976 * P * m - Z * T) = 1024 * 1073741824 * (P * (1073741824 * m - z * s)) + 1024 * (P * (s * (1073741824 * z - Z))) + Z * (1024 * (P * s - T)) := by grind
  have e1 : P * (711179953100419600 * e + 549755813888 * M + 590295810358705651712) = 711179953100419600 * (e * P) + 1024 * (P * (M * 536870912)) + 1024 * 1073741824 * (P * 536870912) := by grind
  have e2' : e2 * (1152921504606846976 * P) = P * (1152921504606846976 * e2) := by grind
  rw [id, e2']
  omega

def cS : List Int := [2187250724783011924372502227117621365353169430893212436425770606409952999199375923223513177023053824, -316189598932980445896092612924822947292302076736137132495618495438143519767658496, 13712538692841302755372877088539866878333751235691422546919424, -283184049134001617226918671350365729849344, 3411494732131660201984, -27]
def cC : List Int := [2521728396569246669585858566409191283525103313309788586748690777871726193375821479130513040312634601011624191379636224, -1093625362391505962186251113558810682676584715446606218212885303204976499599687961611756588511526912, 79047400174956877668619235627030112008805148140905257342809363389937430265069568, -2285422860057626981580669788365473288004094602825383393886208, 35398670755748094611301285822325856403456, -341264765363626704896, 2]
theorem sin_ser {w : Int} (h1 : -843314860 ≤ w) (h2 : w ≤ 843314860) :
    -(1306 * 2037035976334486086268445688409378161051468393665936250636140449354381299763336706183397376) ≤ 1024 * (2037035976334486086268445688409378161051468393665936250636140449354381299763336706183397376 * (1073741824 + mq (mq w w) (-178956971 + mq (mq w w) (8947849 + mq (mq w w) (-213044 + mq (mq w w) (2959 - mq (mq w w) 27))))) - evL1 (w * w) cS) ∧ 1024 * (2037035976334486086268445688409378161051468393665936250636140449354381299763336706183397376 * (1073741824 + mq (mq w w) (-178956971 + mq (mq w w) (8947849 + mq (mq w w) (-213044 + mq (mq w w) (2959 - mq (mq w w) 27))))) - evL1 (w * w) cS) ≤ 1306 * 2037035976334486086268445688409378161051468393665936250636140449354381299763336706183397376 := by
  obtain ⟨z1, z2⟩ := zq_bd h1 h2
  have hb := sin5_bd z1 z2
  simp only [cS, evL1, Int.mul_zero, Int.add_zero]
  have g5 := step (x := w) (s := 27) (T := 27) (P := 1) (e := 0) (M := 27) (e2 := 513) h1 h2 (by decide) (by decide) (by decide) (by decide) (by decide) (by decide) (by decide)
  generalize hm5 : mq (mq w w) 27 = m5 at *
  have g4 := step (x := w) (s := (2959 - m5)) (T := (3411494732131660201984 + w * w * (-27))) (P := 1152921504606846976) (e := 513) (M := 2959) (e2 := 829) h1 h2 (by decide) (by omega) (by omega) (by decide) (by omega) (by omega) (by decide)
  generalize hm4 : mq (mq w w) (2959 - m5) = m4 at *
  have g3 := step (x := w) (s := (-213044 + m4)) (T := (-283184049134001617226918671350365729849344 + w * w * (3411494732131660201984 + w * w * (-27)))) (P := 1329227995784915872903807060280344576) (e := 829) (M := 213044) (e2 := 1024) h1 h2 (by decide) (by omega) (by omega) (by decide) (by omega) (by omega) (by decide)
  generalize hm3 : mq (mq w w) (-213044 + m4) = m3 at *
  have g2 := step (x := w) (s := (8947849 + m3)) (T := (13712538692841302755372877088539866878333751235691422546919424 + w * w * (-283184049134001617226918671350365729849344 + w * w * (3411494732131660201984 + w * w * (-27))))) (P := 1532495540865888858358347027150309183618739122183602176) (e := 1024) (M := 8947849) (e2 := 1148) h1 h2 (by decide) (by omega) (by omega) (by decide) (by omega) (by omega) (by decide)
  generalize hm2 : mq (mq w w) (8947849 + m3) = m2 at *
  have g1 := step (x := w) (s := (-178956971 + m2)) (T := (-316189598932980445896092612924822947292302076736137132495618495438143519767658496 + w * w * (13712538692841302755372877088539866878333751235691422546919424 + w * w * (-283184049134001617226918671350365729849344 + w * w * (3411494732131660201984 + w * w * (-27)))))) (P := 1766847064778384329583297500742918515827483896875618958121606201292619776) (e := 1148) (M := 178956971) (e2 := 1306) h1 h2 (by decide) (by omega) (by omega) (by decide) (by omega) (by omega) (by decide)
  generalize hm1 : mq (mq w w) (-178956971 + m2) = m1 at *
  omega
theorem cos_ser {w : Int} (h1 : -843314860 ≤ w) (h2 : w ≤ 843314860) :
    -(1533 * 2348542582773833227889480596789337027375682548908319870707290971532209025114608443463698998384768703031934976) ≤ 1024 * (2348542582773833227889480596789337027375682548908319870707290971532209025114608443463698998384768703031934976 * (1073741824 + mq (mq w w) (-536870912 + mq (mq w w) (44739243 + mq (mq w w) (-1491308 + mq (mq w w) (26631 + mq (mq w w) (-296 + mq (mq w w) 2)))))) - evL1 (w * w) cC) ∧ 1024 * (2348542582773833227889480596789337027375682548908319870707290971532209025114608443463698998384768703031934976 * (1073741824 + mq (mq w w) (-536870912 + mq (mq w w) (44739243 + mq (mq w w) (-1491308 + mq (mq w w) (26631 + mq (mq w w) (-296 + mq (mq w w) 2)))))) - evL1 (w * w) cC) ≤ 1533 * 2348542582773833227889480596789337027375682548908319870707290971532209025114608443463698998384768703031934976 := by
  obtain ⟨z1, z2⟩ := zq_bd h1 h2
  have hb := cos6_bd z1 z2
  simp only [cC, evL1, Int.mul_zero, Int.add_zero]
  have g6 := step (x := w) (s := 2) (T := 2) (P := 1) (e := 0) (M := 2) (e2 := 513) h1 h2 (by decide) (by decide) (by decide) (by decide) (by decide) (by decide) (by decide)
  generalize hm6 : mq (mq w w) 2 = m6 at *
  have g5 := step (x := w) (s := (-296 + m6)) (T := (-341264765363626704896 + w * w * 2)) (P := 1152921504606846976) (e := 513) (M := 296) (e2 := 829) h1 h2 (by decide) (by omega) (by omega) (by decide) (by omega) (by omega) (by decide)
  generalize hm5 : mq (mq w w) (-296 + m6) = m5 at *
  have g4 := step (x := w) (s := (26631 + m5)) (T := (35398670755748094611301285822325856403456 + w * w * (-341264765363626704896 + w * w * 2))) (P := 1329227995784915872903807060280344576) (e := 829) (M := 26631) (e2 := 1024) h1 h2 (by decide) (by omega) (by omega) (by decide) (by omega) (by omega) (by decide)
  generalize hm4 : mq (mq w w) (26631 + m5) = m4 at *
  have g3 := step (x := w) (s := (-1491308 + m4)) (T := (-2285422860057626981580669788365473288004094602825383393886208 + w * w * (35398670755748094611301285822325856403456 + w * w * (-341264765363626704896 + w * w * 2)))) (P := 1532495540865888858358347027150309183618739122183602176) (e := 1024) (M := 1491308) (e2 := 1145) h1 h2 (by decide) (by omega) (by omega) (by decide) (by omega) (by omega) (by decide)
  generalize hm3 : mq (mq w w) (-1491308 + m4) = m3 at *
  have g2 := step (x := w) (s := (44739243 + m3)) (T := (79047400174956877668619235627030112008805148140905257342809363389937430265069568 + w * w * (-2285422860057626981580669788365473288004094602825383393886208 + w * w * (35398670755748094611301285822325856403456 + w * w * (-341264765363626704896 + w * w * 2))))) (P := 1766847064778384329583297500742918515827483896875618958121606201292619776) (e := 1145) (M := 44739243) (e2 := 1240) h1 h2 (by decide) (by omega) (by omega) (by decide) (by omega) (by omega) (by decide)
  generalize hm2 : mq (mq w w) (44739243 + m3) = m2 at *
  have g1 := step (x := w) (s := (-536870912 + m2)) (T := (-1093625362391505962186251113558810682676584715446606218212885303204976499599687961611756588511526912 + w * w * (79047400174956877668619235627030112008805148140905257342809363389937430265069568 + w * w * (-2285422860057626981580669788365473288004094602825383393886208 + w * w * (35398670755748094611301285822325856403456 + w * w * (-341264765363626704896 + w * w * 2)))))) (P := 2037035976334486086268445688409378161051468393665936250636140449354381299763336706183397376) (e := 1240) (M := 536870912) (e2 := 1533) h1 h2 (by decide) (by omega) (by omega) (by decide) (by omega) (by omega) (by decide)
  generalize hm1 : mq (mq w w) (-536870912 + m2) = m1 at *
  omega
/-- 2^360 times the sine's series, the cosine's, exactly. -/
def SS (w : Int) : Int := 1073741824 * w * evL1 (w * w) cS
def CC (w : Int) : Int := evL1 (w * w) cC
abbrev DD : Int := 2348542582773833227889480596789337027375682548908319870707290971532209025114608443463698998384768703031934976
theorem sinP_near {w : Int} (h1 : -843314860 ≤ w) (h2 : w ≤ 843314860) : -(1538 * DD) ≤ 1024 * (DD * sinP w - SS w) ∧ 1024 * (DD * sinP w - SS w) ≤ 1538 * DD := by
  have hs := sin_ser h1 h2
  obtain ⟨z1, z2⟩ := zq_bd h1 h2
  obtain ⟨_, _, _, _, h5⟩ := sin5_bd z1 z2
  unfold sinP SS DD
  generalize mq (mq w w) (-178956971 + mq (mq w w) (8947849 + mq (mq w w) (-213044 + mq (mq w w) (2959 - mq (mq w w) 27)))) = m at *
  have h := mq_near (a := w) (b := 1073741824 + m) (by omega) (by omega) (by omega) (by omega)
  have b := bil h1 h2 hs.1 hs.2
  generalize evL1 (w * w) cS = T at *
  generalize mq w (1073741824 + m) = r at *
  have e1 : 1073741824 * w * T = 1073741824 * (w * T) := by grind
  have e2 : w * (1024 * (2037035976334486086268445688409378161051468393665936250636140449354381299763336706183397376 * (1073741824 + m) - T)) = 1024 * (2037035976334486086268445688409378161051468393665936250636140449354381299763336706183397376 * (w * (1073741824 + m)) - w * T) := by grind
  omega
theorem cosP_near {w : Int} (h1 : -843314860 ≤ w) (h2 : w ≤ 843314860) : -(1533 * DD) ≤ 1024 * (DD * cosP w - CC w) ∧ 1024 * (DD * cosP w - CC w) ≤ 1533 * DD := by
  have hs := cos_ser h1 h2
  unfold cosP CC DD
  omega
end
end Go.Proofs.YtbpccdagmaiblaaDoor.Tr

/- TrN -/
namespace Go.Proofs.YtbpccdagmaiblaaDoor.Tr
open Go SX
theorem ev_evL1 (x : Int) : ∀ l, ev l x = evL1 x l
  | [] => rfl
  | c :: l => by simp only [ev, evL1, ev_evL1 x l]
def ssL : List Int := 0 :: smul 1073741824 (inter cS)
def ccL : List Int := inter cC
theorem SS_is (w : Int) : SS w = ev ssL w := by
  unfold SS ssL
  have e : ev (0 :: smul 1073741824 (inter cS)) w = 0 + w * ev (smul 1073741824 (inter cS)) w := rfl
  rw [e, smul_ev, inter_ev, ev_evL1]; grind
theorem CC_is (w : Int) : CC w = ev ccL w := by
  unfold CC ccL
  rw [inter_ev, ev_evL1]
def dSL : List Int := addL (smul (1073741824 * DD) snL) (smul (-DT) ssL)
def dCL : List Int := addL (smul (1073741824 * DD) cnL) (smul (-DT) ccL)
theorem dS_b : ile (1024 * evA dSL 843314860) (332 * (DD * DT)) = true := by kernel_rfl
theorem dC_b : ile (1024 * evA dCL 843314860) (249 * (DD * DT)) = true := by kernel_rfl
theorem near_low {D d p S s q t e E : Int} (hD : 0 < D) (hd : 0 < d) (h1 : -(t * D) ≤ 1024 * (D * p - S)) (h1' : 1024 * (D * p - S) ≤ t * D)
    (h2 : -(e * (D * d)) ≤ 1024 * (1073741824 * D * s - d * S)) (h2' : 1024 * (1073741824 * D * s - d * S) ≤ e * (D * d)) (h3 : d * q ≤ s * 17592186044416 ∧ s * 17592186044416 < d * q + d) (hE : 16 * (t + e) + 1 = E) : -E ≤ 16384 * p - q ∧ 16384 * p - q ≤ E := by
  have k1 := Int.mul_le_mul_of_nonneg_left h1 (Int.le_of_lt hd)
  have k2 := Int.mul_le_mul_of_nonneg_left h1' (Int.le_of_lt hd)
  have k3 := Int.mul_le_mul_of_nonneg_left h3.1 (Int.le_of_lt hD)
  have k4 := Int.mul_le_mul_of_nonneg_left (Int.le_of_lt h3.2) (Int.le_of_lt hD)
  have n : 0 < D * d := Int.mul_pos hD hd
  have e1 : d * -(t * D) = -(t * (D * d)) := by grind
  have e2 : d * (1024 * (D * p - S)) = 1024 * (D * d * p) - 1024 * (d * S) := by grind
  have e3 : d * (t * D) = t * (D * d) := by grind
  have e4 : D * (d * q) = D * d * q := by grind
  have e5 : D * (s * 17592186044416) = 17592186044416 * (D * s) := by grind
  have e6 : D * (d * q + d) = D * d * q + D * d := by grind
  have e7 : 1073741824 * D * s = 1073741824 * (D * s) := by grind
  rw [e1, e2] at k1
  rw [e2, e3] at k2
  rw [e4, e5] at k3
  rw [e5, e6] at k4
  rw [e7] at h2 h2'
  subst hE
  constructor
  · refine Int.le_of_mul_le_mul_left (a := D * d) ?_ n
    have e8 : D * d * -(16 * (t + e) + 1) = -(16 * (t * (D * d)) + 16 * (e * (D * d)) + D * d) := by grind
    have e9 : D * d * (16384 * p - q) = 16384 * (D * d * p) - D * d * q := by grind
    rw [e8, e9]; omega
  · refine Int.le_of_mul_le_mul_left (a := D * d) ?_ n
    have e8 : D * d * (16 * (t + e) + 1) = 16 * (t * (D * d)) + 16 * (e * (D * d)) + D * d := by grind
    have e9 : D * d * (16384 * p - q) = 16384 * (D * d * p) - D * d * q := by grind
    rw [e8, e9]; omega
theorem DD_pos : 0 < DD := by decide +kernel
theorem sinP_T {w : Int} (h1 : -843314860 ≤ w) (h2 : w ≤ 843314860) : -29921 ≤ 16384 * sinP w - sT w ∧ 16384 * sinP w - sT w ≤ 29921 := by
  have k := sinP_near h1 h2
  have hb := ev_bd h1 h2 dSL
  have hc := dS_b
  rw [ile_iff, decide_eq_true_eq] at hc
  have e : ev dSL w = 1073741824 * DD * sN w - DT * SS w := by
    unfold dSL sN
    rw [addL_ev, smul_ev, smul_ev, SS_is]; grind
  rw [e] at hb
  have f := fl (sN w)
  change DT * sT w ≤ _ ∧ _ < DT * sT w + DT at f
  refine near_low (e := 332) DD_pos DT_pos k.1 k.2 ?_ ?_ f (by decide)
  · generalize 1073741824 * DD * sN w - DT * SS w = a at *
    generalize DD * DT = b at *
    generalize evA dSL 843314860 = c at *
    omega
  · generalize 1073741824 * DD * sN w - DT * SS w = a at *
    generalize DD * DT = b at *
    generalize evA dSL 843314860 = c at *
    omega
theorem cosP_T {w : Int} (h1 : -843314860 ≤ w) (h2 : w ≤ 843314860) : -28513 ≤ 16384 * cosP w - cT w ∧ 16384 * cosP w - cT w ≤ 28513 := by
  have k := cosP_near h1 h2
  have hb := ev_bd h1 h2 dCL
  have hc := dC_b
  rw [ile_iff, decide_eq_true_eq] at hc
  have e : ev dCL w = 1073741824 * DD * cN w - DT * CC w := by
    unfold dCL cN
    rw [addL_ev, smul_ev, smul_ev, CC_is]; grind
  rw [e] at hb
  have f := fl (cN w)
  change DT * cT w ≤ _ ∧ _ < DT * cT w + DT at f
  refine near_low (e := 249) DD_pos DT_pos k.1 k.2 ?_ ?_ f (by decide)
  · generalize 1073741824 * DD * cN w - DT * CC w = a at *
    generalize DD * DT = b at *
    generalize evA dCL 843314860 = c at *
    omega
  · generalize 1073741824 * DD * cN w - DT * CC w = a at *
    generalize DD * DT = b at *
    generalize evA dCL 843314860 = c at *
    omega
/-- Within a quarter turn. -/
theorem sineF_T {w : Int} (h1 : -1686629713 ≤ w) (h2 : w ≤ 1686629713) : -31031 ≤ 16384 * sineF w - sT w ∧ 16384 * sineF w - sT w ≤ 31031 := by
  unfold sineF
  split
  · split
    · have k := cosP_T (w := 1686629713 + w) (by omega) (by omega)
      have m := cQ (x := w) (by omega) (by omega)
      rw [show w + 1686629713 = 1686629713 + w by omega] at m
      omega
    · have k := sinP_T (w := w) (by omega) (by omega)
      omega
  · split
    · have k := cosP_T (w := 1686629713 - w) (by omega) (by omega)
      have m := cQn (x := w) (by omega) (by omega)
      rw [show w + -1686629713 = -(1686629713 - w) by omega, cT_neg] at m
      omega
    · have k := sinP_T (w := w) (by omega) (by omega)
      omega
/-- Within half a turn. -/
theorem foldT_T {w : Int} (h1 : -3373259426 < w) (h2 : w ≤ 3373259426) : -33241 ≤ 16384 * sineF (foldT w) - sT w ∧ 16384 * sineF (foldT w) - sT w ≤ 33241 := by
  have hf := foldT_in h1 h2
  have k := sineF_T hf.1 hf.2
  have g : foldT w = w ∨ foldT w = 3373259426 - w ∨ foldT w = -3373259426 - w := by
    unfold foldT; (repeat' split) <;> omega
  rcases g with g | g | g <;> rw [g] at k ⊢
  · omega
  · have m := sP (x := -w) (by omega) (by omega)
    rw [show -w + 3373259426 = 3373259426 - w by omega] at m
    have n := sT_neg w
    omega
  · have m := sPn (x := -w) (by omega) (by omega)
    rw [show -w + -3373259426 = -3373259426 - w by omega] at m
    have n := sT_neg w
    omega
/-- The sine that this program tells. -/
theorem sinF_T {a w : Int} (_h1 : -3373259426 ≤ w) (_h2 : w ≤ 3373259426) (h : wrapT (satv a) = w) : -33241 ≤ 16384 * sinF a - sT w ∧ 16384 * sinF a - sT w ≤ 33241 := by
  have hw := wrapT_in (satv a)
  rw [sinF_eq]
  rw [h] at hw ⊢
  exact foldT_T hw.1 hw.2
theorem wrapT_id {a : Int} (h1 : -3373259426 < a) (h2 : a ≤ 3373259426) : wrapT a = a := by
  have e : a.tmod 6746518852 = a := by
    rcases Int.le_total 0 a with h | h
    · rw [Int.tmod_eq_of_lt h (by omega)]
    · have := Int.neg_tmod (a := -a) (b := 6746518852)
      rw [Int.neg_neg] at this
      rw [this, Int.tmod_eq_of_lt (by omega) (by omega)]; omega
  unfold wrapT
  rw [e]
  (repeat' split) <;> omega
theorem sinF_in {w : Int} (h1 : -3373259426 < w) (h2 : w ≤ 3373259426) : -33241 ≤ 16384 * sinF w - sT w ∧ 16384 * sinF w - sT w ≤ 33241 :=
  sinF_T (by omega) h2 (by rw [satv_id (by unfold mx; omega) (by unfold mx; omega)]; exact wrapT_id h1 h2)
theorem wrapT_up {a : Int} (h1 : 3373259426 < a) (h2 : a ≤ 3373259426 + 3373259426) : wrapT a = a - 6746518852 := by
  unfold wrapT
  rcases Int.lt_or_le a 6746518852 with h | h
  · rw [Int.tmod_eq_of_lt (by omega) h]
    (repeat' split) <;> omega
  · have e : a = 6746518852 := by omega
    subst e; decide
/-- The cosine: the sine of a quarter turn more. -/
theorem cosF_in {w : Int} (h1 : -3373259426 < w) (h2 : w ≤ 3373259426) : -36561 ≤ 16384 * sinF (1686629713 + w) - cT w ∧ 16384 * sinF (1686629713 + w) - cT w ≤ 36561 := by
  have m := sQ (x := w) (by omega) (by omega)
  rw [show w + 1686629713 = 1686629713 + w by omega] at m
  rcases Int.lt_or_le 3373259426 (1686629713 + w) with h | h
  · have e : wrapT (satv (1686629713 + w)) = 1686629713 + w - 6746518852 := by
      rw [satv_id (by unfold mx; omega) (by unfold mx; omega)]; exact wrapT_up h (by omega)
    have k := sinF_T (by omega) (by omega) e
    have n := cP (x := w) (by omega) (by omega)
    have m2 := sQ (x := 1686629713 + w - 6746518852) (by omega) (by omega)
    have m3 := sPn (x := w + -1686629713) (by omega) (by omega)
    rw [show w + -1686629713 + -3373259426 = 1686629713 + w - 6746518852 by omega] at m3
    have m4 := sQn (x := w) (by omega) (by omega)
    omega
  · have k := sinF_in (w := 1686629713 + w) (by omega) h
    omega
end Go.Proofs.YtbpccdagmaiblaaDoor.Tr
