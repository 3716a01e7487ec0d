/- Together. -/
import Derived.Test.YtfkeljolpcbbkaaRows
import Derived.Carry
import Derived.DataShut
import Derived.Lib.SmallJoins
import Derived.OpenShut
import Derived.ProofKit

/- Lift -/
namespace Go.Proofs.Ytfkeljolpcbbkaa
open Go.ChangeShapes Go.WideShapes Go.ChangeAt Go.RowKit

theorem own_any : ownKnob Try.prog.godebug = none := by kernel_rfl
theorem laidOut_any : laidOutB Try.prog = true := by kernel_rfl
theorem wf_i64 {a : Int} (h : (Lit.int .i64 a).wf = true) : -9223372036854775808 ≤ a ∧ a ≤ 9223372036854775807 := (Lit.wf_int_iff .i64 a).1 h
def readsB (P : Program) (t : TypeId) : Bool := P.readableRec t && decide (t < P.types.size)
theorem carry_all {H : Type} {enc : TypeId × Value → H} {P : Program} (hl : laidOutB P = true) {W W' : World} (hb : Below W.heap.size W W') :
    ∀ (ts : List TypeId) (vs : List Value) (ds : List (DataW H)) (ps : List MemPlace), ts.all (readsB P) = true → DataW.TrodAll enc P W 0 (fun _ => true) true ts vs ds ps →
      (∀ x ∈ ps, x.block < W.heap.size) → DataW.TrodAll enc P W' 0 (fun b => decide (b < W.heap.size)) true ts vs ds ps
  | [], vs, ds, ps, _, h, _ => by
    cases vs <;> cases ds <;> simp [DataW.TrodAll] at h ⊢
    exact h
  | t :: ts, vs, ds, ps, hr, h, hlt => by
    obtain ⟨v, vs', d, ds', p, q, rfl, rfl, rfl, h1, h2⟩ := trodAll_cons h
    rw [List.all_cons, Bool.and_eq_true] at hr
    have hr1 := hr.1
    unfold readsB at hr1
    rw [Bool.and_eq_true, decide_eq_true_eq] at hr1
    exact ⟨p, q, Below.trod hl hr1.1 hr1.2 h1 hb (fun x hx => hlt x (List.mem_append_left _ hx)), carry_all hl hb ts vs' ds' q hr.2 h2 (fun x hx => hlt x (List.mem_append_right _ hx)), rfl⟩
theorem law_post {H : Type} {enc : TypeId × Value → H} {P : Program} {f : Func} {s : ChangeSpec} {apart fresh handsOn : Bool} {W W' : World} {args : Array Value} {ds : List (DataW H)} {before : List MemPlace} {t : TypeId}
    (hl : laidOutB P = true) (hr : f.params.toList.all (readsB P) = true) (hs : s.vars = []) (hrt : f.resultTypes = #[t]) (ht : P.underlying t = some .bool)
    (hfn : s.fn H (ds ++ []) = { results := [.lit (.bool true)], args := ds }) (hW : DataW.Whole enc P f.params.toList s.vars apart W args.toList ds [] before) (hb : Below W.heap.size W W') :
    s.post enc P f apart fresh handsOn false W args (.bool true) W' := by
  have hlt := hW.lt
  have hW' := hW
  obtain ⟨p, q, hA, hV, rfl, hz, hn⟩ := hW
  have hq : q = [] := by rw [hs] at hV; exact hV
  subst hq
  refine ⟨ds, [], p ++ [], [], p, [], hW', ?_, ?_, ?_, hb.frame _, fun h => by cases h⟩
  · rw [hfn, hrt]
    exact trodAll_cons_mk (shut_bool ht _) trodAll_mk0
  · rw [hfn]
    exact carry_all hl hb _ _ _ _ hr hA (fun x hx => hlt x (List.mem_append_left _ hx))
  · rw [hfn, hs]
    exact rfl
end Go.Proofs.Ytfkeljolpcbbkaa

/- Norm -/
namespace Go.Proofs.Ytfkeljolpcbbkaa.Nm
structure Sp (R n : Int) : Prop where
  nn : 0 ≤ R
  hi : n ≤ R * R + R
  lo : R = 0 ∨ R * R - R < n
theorem sqnn (x : Int) : 0 ≤ x * x := by
  rcases Int.le_total 0 x with h | h
  · exact Int.mul_nonneg h h
  · exact Int.mul_nonneg_of_nonpos_of_nonpos h h
theorem le_of_sq {c m : Int} (hm : 0 ≤ m) (h : c * c ≤ m * m) : c ≤ m := by
  rcases Int.lt_or_le m c with h1 | h1
  · have : m * m < c * c := by
      have h2 : m * m ≤ m * c := Int.mul_le_mul_of_nonneg_left (Int.le_of_lt h1) hm
      have h3 : m * c < c * c := Int.mul_lt_mul_of_pos_right h1 (by omega)
      omega
    omega
  · exact h1
theorem gap {x y : Int} (hy : 0 ≤ y) (h : y + 1 ≤ x) : y * y + y ≤ x * x - x := by
  have := Int.mul_le_mul h (show y ≤ x - 1 by omega) hy (by omega)
  grind
theorem Sp.mono {a b S T : Int} (ha : Sp a S) (hb : Sp b T) (h : S ≤ T) : a ≤ b := by
  rcases Int.lt_or_le b a with h1 | h1
  · have := gap hb.nn h1
    have := ha.lo
    have := hb.hi
    have := hb.nn
    omega
  · exact h1
theorem Sp.join {a k m S Y : Int} (ha : Sp a S) (hk : Sp k (a * a + Y)) (hm : Sp m (S + Y)) (hY : 0 ≤ Y) (hS : 0 ≤ S) : k ≤ m + 1 ∧ m ≤ k + 1 := by
  have h1 := ha.nn
  have h2 := hk.nn
  have h3 := hm.nn
  have am : a ≤ m := ha.mono hm (by omega)
  have ak : a ≤ k := by
    apply le_of_sq h2
    rcases Int.lt_or_le k a with h | h
    · have := gap h2 h
      have := hk.hi
      omega
    · exact Int.mul_le_mul h h h1 h2
  constructor
  · rcases Int.lt_or_le (m + 1) k with h | h
    · have g := gap (show 0 ≤ m + 1 by omega) h
      have := hk.lo
      have := hm.hi
      have := ha.lo
      have e : (m + 1) * (m + 1) = m * m + 2 * m + 1 := by grind
      have : a = 0 → a * a = 0 := fun h => by rw [h]; rfl
      omega
    · exact h
  · rcases Int.lt_or_le (k + 1) m with h | h
    · have g := gap (show 0 ≤ k + 1 by omega) h
      have := hm.lo
      have := hk.hi
      have := ha.hi
      have e : (k + 1) * (k + 1) = k * k + 2 * k + 1 := by grind
      omega
    · exact h
/-! lists -/
def sq : List Int → Int
  | [] => 0
  | a :: l => sq l + a * a
def dt : List Int → List Int → Int
  | a :: l, b :: m => dt l m + a * b
  | _, _ => 0
def ad : List Int → List Int → List Int
  | a :: l, b :: m => (a + b) :: ad l m
  | _, _ => []
theorem sq_nn : ∀ l, 0 ≤ sq l
  | [] => Int.le_refl _
  | a :: l => by have := sq_nn l; have := sqnn a; simp only [sq]; omega
theorem cs_step (A B C x y : Int) (hA : 0 ≤ A) (hB : 0 ≤ B) (h : C*C ≤ A*B) : (C + x*y)*(C+x*y) ≤ (A + x*x)*(B+y*y) := by
  have key : 2*(C*(x*y)) ≤ A*(y*y) + B*(x*x) := by
    apply le_of_sq
    · have := Int.mul_nonneg hA (sqnn y); have := Int.mul_nonneg hB (sqnn x); omega
    · have h1 := Int.mul_le_mul_of_nonneg_right h (sqnn (x*y))
      have h2 := sqnn (A*(y*y) - B*(x*x))
      grind
  grind
theorem cs : ∀ l m : List Int, dt l m * dt l m ≤ sq l * sq m
  | [], m => by simp [dt, sq]
  | a :: l, [] => by simp [dt, sq]
  | a :: l, b :: m => by
    have h := cs l m
    simp only [dt, sq]
    exact cs_step _ _ _ _ _ (sq_nn l) (sq_nn m) h
theorem sq_ad : ∀ l m : List Int, l.length = m.length → sq (ad l m) = sq l + 2 * dt l m + sq m
  | [], [], _ => rfl
  | a :: l, b :: m, h => by
    have := sq_ad l m (by simpa using h)
    simp only [ad, sq, dt]
    grind
  | [], _ :: _, h => by simp at h
  | _ :: _, [], h => by simp at h
theorem tri2 {l m : List Int} (hl : l.length = m.length) {α β : Int} (ha : 0 ≤ α) (hb : 0 ≤ β) (h1 : sq l ≤ α * α) (h2 : sq m ≤ β * β) : sq (ad l m) ≤ (α + β) * (α + β) := by
  have hc : dt l m ≤ α * β := by
    apply le_of_sq (Int.mul_nonneg ha hb)
    have := cs l m
    have k1 : sq l * sq m ≤ (α * α) * (β * β) := Int.mul_le_mul h1 h2 (sq_nn m) (sqnn α)
    grind
  rw [sq_ad l m hl]
  grind
theorem Sp.tri {s n m : Int} {l k : List Int} (hl : l.length = k.length) (hs : Sp s (sq (ad l k))) (hn : Sp n (sq l)) (hm : Sp m (sq k)) : s ≤ n + m + 2 := by
  have h1 := hn.nn
  have h2 := hm.nn
  have h3 := hs.nn
  have := tri2 hl (α := n + 1) (β := m + 1) (by omega) (by omega) (by have := hn.hi; grind) (by have := hm.hi; grind)
  rcases Int.lt_or_le (n + m + 2) s with h | h
  · have g := gap (show 0 ≤ n + m + 2 by omega) h
    have e : (n + 1 + (m + 1)) = n + m + 2 := by omega
    rw [e] at this
    have := hs.lo
    omega
  · exact h
def sc (k : Int) : List Int → List Int
  | [] => []
  | a :: l => k * a :: sc k l
theorem sc_len (k : Int) : ∀ l, (sc k l).length = l.length
  | [] => rfl
  | _ :: l => by simp [sc, sc_len k l]
theorem sq_sc (k : Int) : ∀ l, sq (sc k l) = k * k * sq l
  | [] => by simp [sc, sq]
  | a :: l => by
    have := sq_sc k l
    simp only [sc, sq]
    grind
def Near (P k : Int) : List Int → List Int → Prop
  | [], [] => True
  | y :: ys, a :: al => (-P ≤ 2 * (P * y - a * k) ∧ 2 * (P * y - a * k) ≤ P) ∧ Near P k ys al
  | _, _ => False
theorem Near.len {P k : Int} : ∀ {ys al : List Int}, Near P k ys al → ys.length = al.length
  | [], [], _ => rfl
  | _ :: _, _ :: _, ⟨_, h⟩ => by simp [Near.len h]
  | [], _ :: _, h => h.elim
  | _ :: _, [], h => h.elim
theorem near_split {P k : Int} (hP : 0 ≤ P) : ∀ {ys al : List Int}, Near P k ys al → ∃ ds : List Int, ds.length = al.length ∧ sc (2 * P) ys = ad (sc (2 * k) al) ds ∧ sc (2 * k) al = ad (sc (2 * P) ys) (sc (-1) ds) ∧ sq ds ≤ (ys.length : Int) * (P * P) ∧ sq (sc (-1) ds) = sq ds
  | [], [], _ => ⟨[], rfl, rfl, rfl, by simp [sq], rfl⟩
  | y :: ys, a :: al, ⟨h1, h2⟩ => by
    obtain ⟨ds, k1, k2, k3, k4, k5⟩ := near_split hP h2
    refine ⟨2 * (P * y - a * k) :: ds, by simp [k1], ?_, ?_, ?_, ?_⟩
    · simp only [sc, ad, k2]
      congr 1
      grind
    · simp only [sc, ad]
      rw [← k3]
      congr 1
      grind
    · simp only [sq, List.length_cons]
      have : (2 * (P * y - a * k)) * (2 * (P * y - a * k)) ≤ P * P := by
        generalize 2 * (P * y - a * k) = d at *
        rcases Int.le_total 0 d with h | h
        · exact Int.mul_le_mul h1.2 h1.2 h (by omega)
        · have := Int.mul_le_mul (show -d ≤ P by omega) (show -d ≤ P by omega) (by omega) (by omega)
          rwa [Int.neg_mul_neg] at this
      have e : ((ys.length + 1 : Nat) : Int) * (P * P) = (ys.length : Int) * (P * P) + P * P := by
        rw [Int.natCast_add, Int.add_mul]; simp
      omega
    · simp only [sc, sq, k5]
      grind
  | [], _ :: _, h => h.elim
  | _ :: _, [], h => h.elim
theorem Sp.scale {P K t n w : Int} {ys al : List Int} (hP : 0 < P) (hK0 : 0 ≤ K) (hK : K ≤ 16 * P) (hnr : Near P K ys al) (hl : ys.length ≤ 4) (ht : Sp t (sq ys)) (hn : Sp n (sq al))
    (hw1 : -P ≤ 2 * (P * w - n * K)) (hw2 : 2 * (P * w - n * K) ≤ P) : t ≤ w + 18 ∧ w ≤ t + 18 := by
  obtain ⟨ds, k1, k2, k3, k4, k5⟩ := near_split (Int.le_of_lt hP) hnr
  have hlen := hnr.len
  have hd : sq ds ≤ (2 * P) * (2 * P) := by
    have : (ys.length : Int) * (P * P) ≤ 4 * (P * P) := Int.mul_le_mul_of_nonneg_right (by omega) (sqnn P)
    grind
  have tn := ht.nn
  have nn := hn.nn
  constructor
  · -- above
    have h1 : sq (sc (2 * K) al) ≤ (2 * K * (n + 1)) * (2 * K * (n + 1)) := by
      rw [sq_sc]
      have := hn.hi
      have h2 : sq al ≤ (n + 1) * (n + 1) := by grind
      have := Int.mul_le_mul_of_nonneg_left h2 (sqnn (2 * K))
      grind
    have h3 := tri2 (by rw [sc_len]; omega) (show 0 ≤ 2 * K * (n + 1) from Int.mul_nonneg (by omega) (by omega)) (show 0 ≤ 2 * P by omega) h1 hd
    rw [← k2, sq_sc] at h3
    rcases ht.lo with h0 | h0
    · -- t is nought
      have hnk : 0 ≤ n * K := Int.mul_nonneg nn hK0
      have : -P ≤ 2 * (P * w) := by omega
      rcases Int.lt_or_le (-1) w with h | h
      · omega
      · have := Int.mul_le_mul_of_nonneg_left (show w ≤ -1 by omega) (Int.le_of_lt hP)
        omega
    · have h4 : (2 * P * (t - 1)) * (2 * P * (t - 1)) ≤ (2 * K * (n + 1) + 2 * P) * (2 * K * (n + 1) + 2 * P) := by
        have h5 : (t - 1) * (t - 1) ≤ sq ys := by grind
        have := Int.mul_le_mul_of_nonneg_left h5 (sqnn (2 * P))
        grind
      have h6 := le_of_sq (Int.add_nonneg (Int.mul_nonneg (by omega) (by omega)) (by omega)) h4
      rcases Int.lt_or_le (w + 18) t with h | h
      · have := Int.mul_le_mul_of_nonneg_left (show w + 19 ≤ t by omega) (Int.le_of_lt hP)
        grind
      · exact h
  · have h1 : sq (sc (2 * P) ys) ≤ (2 * P * (t + 1)) * (2 * P * (t + 1)) := by
      rw [sq_sc]
      have := ht.hi
      have h2 : sq ys ≤ (t + 1) * (t + 1) := by grind
      have := Int.mul_le_mul_of_nonneg_left h2 (sqnn (2 * P))
      grind
    have h3 := tri2 (l := sc (2 * P) ys) (m := sc (-1) ds) (by rw [sc_len, sc_len]; omega) (show 0 ≤ 2 * P * (t + 1) from Int.mul_nonneg (by omega) (by omega)) (show 0 ≤ 2 * P by omega) h1 (by rw [k5]; exact hd)
    rw [← k3, sq_sc] at h3
    have h6 : K * (n - 1) ≤ P * (t + 2) := by
      rcases hn.lo with h0 | h0
      · have h7 : 0 ≤ P * (t + 2) := Int.mul_nonneg (by omega) (by omega)
        rw [h0]; omega
      · have h4 : (2 * K * (n - 1)) * (2 * K * (n - 1)) ≤ (2 * P * (t + 2)) * (2 * P * (t + 2)) := by
          have h5 : (n - 1) * (n - 1) ≤ sq al := by grind
          have := Int.mul_le_mul_of_nonneg_left h5 (sqnn (2 * K))
          grind
        have := le_of_sq (Int.mul_nonneg (by omega) (by omega)) h4
        grind
    rcases Int.lt_or_le (t + 18) w with h | h
    · have := Int.mul_le_mul_of_nonneg_left (show t + 19 ≤ w by omega) (Int.le_of_lt hP)
      grind
    · exact h
end Go.Proofs.Ytfkeljolpcbbkaa.Nm

/- Unit -/
namespace Go.Proofs.Ytfkeljolpcbbkaa.Nm
theorem mem_sq : ∀ {l : List Int} {x : Int}, x ∈ l → x * x ≤ sq l
  | [], _, h => by cases h
  | a :: l, x, h => by
    have h1 := sq_nn l
    have h2 := sqnn a
    simp only [sq]
    rcases List.mem_cons.1 h with rfl | h
    · omega
    · have := mem_sq h; omega
theorem abs_le_of {x n : Int} (hn : 0 ≤ n) (h : x * x ≤ n * n + n) : -n ≤ x ∧ x ≤ n := by
  have up : ∀ y : Int, y * y ≤ n * n + n → y ≤ n := fun y hy => by
    rcases Int.lt_or_le n y with h1 | h1
    · have := gap hn (show n + 1 ≤ y from h1)
      omega
    · exact h1
  have := up x h
  have := up (-x) (by rw [Int.neg_mul_neg]; exact h)
  omega
theorem Sp.mem {n : Int} {l : List Int} (h : Sp n (sq l)) {x : Int} (hx : x ∈ l) : -n ≤ x ∧ x ≤ n :=
  abs_le_of h.nn (Int.le_trans (mem_sq hx) h.hi)
theorem cap_of {P K y a : Int} (hP : 1 ≤ P) (hK : 0 ≤ K) (ha : -P ≤ a ∧ a ≤ P) (h : -P ≤ 2 * (P * y - a * K) ∧ 2 * (P * y - a * K) ≤ P) : -K ≤ y ∧ y ≤ K := by
  have h1 := Int.mul_le_mul_of_nonneg_right ha.1 hK
  have h2 := Int.mul_le_mul_of_nonneg_right ha.2 hK
  constructor
  · rcases Int.lt_or_le y (-K) with h3 | h3
    · have := Int.mul_le_mul_of_nonneg_left (show y ≤ -K - 1 by omega) (show 0 ≤ P by omega)
      grind
    · exact h3
  · rcases Int.lt_or_le K y with h3 | h3
    · have := Int.mul_le_mul_of_nonneg_left (show K + 1 ≤ y by omega) (show 0 ≤ P by omega)
      grind
    · exact h3
theorem near_sum {n K A : Int} {rs qs : List Int} (hn : 1 ≤ n) (hK : 0 ≤ K) (hr : Near n K rs qs) (hl : rs.length ≤ 4) (hA : 0 ≤ A) (hq : sq qs ≤ A * A) :
    -(2 * (K * A) * n) ≤ n * n * sq rs - K * K * sq qs ∧ n * n * sq rs - K * K * sq qs ≤ 2 * (K * A) * n + n * n := by
  obtain ⟨ds, k1, k2, _, k4, _⟩ := near_split (P := n) (by omega) hr
  have hlen : (sc (2 * K) qs).length = ds.length := by rw [sc_len, k1]
  have e := congrArg sq k2
  rw [sq_sc, sq_ad _ _ hlen, sq_sc] at e
  have hd : sq ds ≤ (2 * n) * (2 * n) := by
    have h4 : (rs.length : Int) ≤ 4 := by omega
    have := Int.mul_le_mul_of_nonneg_right h4 (sqnn n)
    grind
  have hc : ∀ t : Int, t * t = dt (sc (2 * K) qs) ds * dt (sc (2 * K) qs) ds → t ≤ (2 * (K * A)) * (2 * n) := fun t ht => by
    apply le_of_sq (Int.mul_nonneg (Int.mul_nonneg (by omega) (Int.mul_nonneg hK hA)) (by omega))
    rw [ht]
    have h1 := cs (sc (2 * K) qs) ds
    rw [sq_sc] at h1
    have h2 : (2 * K) * (2 * K) * sq qs ≤ (2 * K) * (2 * K) * (A * A) := Int.mul_le_mul_of_nonneg_left hq (sqnn (2 * K))
    have h3 := Int.mul_le_mul h2 hd (sq_nn ds) (Int.mul_nonneg (sqnn _) (sqnn _))
    grind
  have c1 := hc (dt (sc (2 * K) qs) ds) rfl
  have c2 := hc (-dt (sc (2 * K) qs) ds) (by rw [Int.neg_mul_neg])
  have h0 := sq_nn ds
  generalize dt (sc (2 * K) qs) ds = D at *
  generalize sq ds = E at *
  generalize sq rs = R at *
  generalize sq qs = Q at *
  have x1 : (2 * n) * (2 * n) * R = 4 * (n * n * R) := by grind
  have x2 : (2 * K) * (2 * K) * Q = 4 * (K * K * Q) := by grind
  have x3 : (2 * (K * A)) * (2 * n) = 2 * (2 * (K * A) * n) := by grind
  have x4 : (2 * n) * (2 * n) = 4 * (n * n) := by grind
  rw [x1, x2] at e
  rw [x3] at c1 c2
  rw [x4] at hd
  generalize n * n * R = p at *
  generalize K * K * Q = q at *
  generalize 2 * (K * A) * n = z at *
  generalize n * n = s at *
  omega
theorem unit_sum {n K : Int} {rs qs : List Int} (hK : 0 ≤ K) (hn : 1 ≤ n) (hr : Near n K rs qs) (hl : rs.length ≤ 4) (hs : Sp n (sq qs)) :
    n * (sq rs - K * K) ≤ K * K + 2 * (K * (n + 1)) + n ∧ -(K * K + 2 * (K * (n + 1)) + n) ≤ n * (sq rs - K * K) := by
  have hA : sq qs ≤ (n + 1) * (n + 1) := by have := hs.hi; grind
  obtain ⟨h1, h2⟩ := near_sum hn hK hr hl (by omega) hA
  have h3 : n * n - n < sq qs := by
    rcases hs.lo with h | h
    · omega
    · exact h
  have h4 := hs.hi
  have k1 : K * K * sq qs ≤ K * K * (n * n + n) := Int.mul_le_mul_of_nonneg_left h4 (sqnn K)
  have k2 : K * K * (n * n - n) ≤ K * K * sq qs := Int.mul_le_mul_of_nonneg_left (by omega) (sqnn K)
  have e1 : n * (n * (sq rs - K * K)) = n * n * sq rs - K * K * (n * n) := by grind
  have e2 : n * (K * K + 2 * (K * (n + 1)) + n) = K * K * n + 2 * (K * (n + 1)) * n + n * n := by grind
  have e3 : n * -(K * K + 2 * (K * (n + 1)) + n) = -(K * K * n + 2 * (K * (n + 1)) * n + n * n) := by rw [Int.mul_neg, e2]
  have e4 : K * K * (n * n + n) = K * K * (n * n) + K * K * n := Int.mul_add _ _ _
  have e5 : K * K * (n * n - n) = K * K * (n * n) - K * K * n := Int.mul_sub _ _ _
  rw [e4] at k1
  rw [e5] at k2
  have hs0 := sqnn n
  constructor
  · refine Int.le_of_mul_le_mul_left (a := n) ?_ (by omega)
    rw [e1, e2]
    clear e1 e2 e3 e4 e5 h3 h4 hA
    generalize n * n * sq rs = p at *
    generalize K * K * sq qs = q at *
    generalize 2 * (K * (n + 1)) * n = z at *
    generalize K * K * (n * n) = t at *
    generalize K * K * n = u at *
    generalize n * n = s at *
    omega
  · refine Int.le_of_mul_le_mul_left (a := n) ?_ (by omega)
    rw [e1, e3]
    clear e1 e2 e3 e4 e5 h3 h4 hA
    generalize n * n * sq rs = p at *
    generalize K * K * sq qs = q at *
    generalize 2 * (K * (n + 1)) * n = z at *
    generalize K * K * (n * n) = t at *
    generalize K * K * n = u at *
    generalize n * n = s at *
    omega
theorem unit_low {n m : Int} {qs al : List Int} (hn : 1 ≤ n) (hr : Near n 1073741824 qs al) (hl : qs.length ≤ 4) (h1 : n * n - n < sq al) (hm : Sp m (sq qs)) : 536870916 ≤ m := by
  obtain ⟨ds, k1, k2, k3, k4, k5⟩ := near_split (P := n) (by omega) hr
  have hm0 := hm.nn
  rcases Int.lt_or_le m 536870916 with hlt | hge
  · exfalso
    have e := congrArg sq k3
    rw [sq_sc] at e
    have hlen : (sc (2 * n) qs).length = (sc (-1) ds).length := by rw [sc_len, sc_len, k1]; exact hr.len
    have hd : sq (sc (-1) ds) ≤ (2 * n) * (2 * n) := by
      rw [k5]
      have h4 : (qs.length : Int) ≤ 4 := by omega
      have := Int.mul_le_mul_of_nonneg_right h4 (sqnn n)
      grind
    have hq : sq (sc (2 * n) qs) ≤ (2 * n * 536870917) * (2 * n * 536870917) := by
      rw [sq_sc]
      have h5 : sq qs ≤ 536870917 * 536870917 := by
        have h6 := hm.hi
        have := Int.mul_le_mul (show m ≤ 536870915 by omega) (show m ≤ 536870915 by omega) hm0 (by omega)
        omega
      have := Int.mul_le_mul_of_nonneg_left h5 (sqnn (2 * n))
      grind
    have t := tri2 hlen (Int.mul_nonneg (by omega) (by omega)) (by omega) hq hd
    rw [← e] at t
    have u : (2 * n * 536870917 + 2 * n) * (2 * n * 536870917 + 2 * n) = 4 * (536870918 * 536870918) * (n * n) := by grind
    rw [u] at t
    have v := Int.mul_le_mul_of_nonneg_left (show n * n - n + 1 ≤ sq al by omega) (show (0 : Int) ≤ 2 * 1073741824 * (2 * 1073741824) by omega)
    have w : 0 ≤ (n - 2) * (n - 2) := sqnn _
    have w2 : (n - 2) * (n - 2) = n * n - 4 * n + 4 := by grind
    have w3 := sqnn n
    have w4 : 1 ≤ n * n := by have := Int.mul_le_mul hn hn (by omega) (by omega); omega
    generalize n * n = s at *
    generalize sq al = A at *
    omega
  · exact hge
theorem unit_near {n m : Int} {rs qs al : List Int} (hn : 1 ≤ n) (hq : Near n 1073741824 qs al) (hl : qs.length ≤ 4) (h1 : n * n - n < sq al) (hm : Sp m (sq qs)) (hr : Near m 1073741824 rs qs) :
    1152921504606846976 - 4294967296 ≤ sq rs ∧ sq rs ≤ 1152921504606846976 + 4294967296 := by
  have hlow := unit_low hn hq hl h1 hm
  obtain ⟨k1, k2⟩ := unit_sum (by omega) (by omega) hr (by rw [hr.len]; exact hl) hm
  have e : (1073741824 : Int) * 1073741824 = 1152921504606846976 := by decide
  rw [e] at k1 k2
  constructor
  · rcases Int.lt_or_le (sq rs) (1152921504606846976 - 4294967296) with h | h
    · have := Int.mul_le_mul_of_nonneg_left (show sq rs - 1152921504606846976 ≤ -4294967297 by omega) (show 0 ≤ m by omega)
      omega
    · exact h
  · rcases Int.lt_or_le (1152921504606846976 + 4294967296) (sq rs) with h | h
    · have := Int.mul_le_mul_of_nonneg_left (show 4294967297 ≤ sq rs - 1152921504606846976 by omega) (show 0 ≤ m by omega)
      omega
    · exact h
theorem unit_len {n S : Int} (h : Sp n S) (h1 : 1152921504606846976 - 4294967296 ≤ S) (h2 : S ≤ 1152921504606846976 + 4294967296) : 1073741822 ≤ n ∧ n ≤ 1073741826 := by
  have h0 := h.nn
  have h3 := h.hi
  constructor
  · rcases Int.lt_or_le n 1073741822 with hl | hl
    · have := Int.mul_le_mul (show n ≤ 1073741821 by omega) (show n ≤ 1073741821 by omega) h0 (by omega)
      omega
    · exact hl
  · rcases Int.lt_or_le 1073741826 n with hl | hl
    · have h4 : n * n - n < S := by
        rcases h.lo with h5 | h5
        · omega
        · exact h5
      have := Int.mul_le_mul (show 1073741827 ≤ n by omega) (show 1073741826 ≤ n - 1 by omega) (by omega) (by omega)
      rw [Int.mul_sub, Int.mul_one] at this
      omega
    · exact hl
theorem unit_step {n u q : Int} (h1 : 1073741822 ≤ n) (h2 : n ≤ 1073741826) (hu : -1073741826 ≤ u ∧ u ≤ 1073741826) (h : -n ≤ 2 * (n * q - u * 1073741824) ∧ 2 * (n * q - u * 1073741824) ≤ n) : -2 ≤ q - u ∧ q - u ≤ 2 := by
  have e : n * (q - u) = (n * q - u * 1073741824) + u * (1073741824 - n) := by grind
  have b : -2147483652 ≤ u * (1073741824 - n) ∧ u * (1073741824 - n) ≤ 2147483652 := by
    have : n = 1073741822 ∨ n = 1073741823 ∨ n = 1073741824 ∨ n = 1073741825 ∨ n = 1073741826 := by omega
    rcases this with rfl | rfl | rfl | rfl | rfl <;> omega
  generalize n * q - u * 1073741824 = d at *
  generalize u * (1073741824 - n) = f at *
  constructor
  · rcases Int.lt_or_le (q - u) (-2) with hl | hl
    · have := Int.mul_le_mul_of_nonneg_left (show q - u ≤ -3 by omega) (show 0 ≤ n by omega)
      omega
    · exact hl
  · rcases Int.lt_or_le 2 (q - u) with hl | hl
    · have := Int.mul_le_mul_of_nonneg_left (show 3 ≤ q - u by omega) (show 0 ≤ n by omega)
      omega
    · exact hl
theorem mem_small {l : List Int} {x : Int} (h : sq l ≤ 1152921504606846976 + 4294967296) (hx : x ∈ l) : -1073741826 ≤ x ∧ x ≤ 1073741826 :=
  abs_le_of (by omega) (Int.le_trans (mem_sq hx) (by omega))
theorem unit_more {n : Int} {qs us : List Int} (hr : Near n 1073741824 qs us) (hl : qs.length ≤ 4) (hs : Sp n (sq us)) (h1 : 1152921504606846976 - 4294967296 ≤ sq us) (h2 : sq us ≤ 1152921504606846976 + 4294967296) :
    1152921504606846976 - 4294967296 ≤ sq qs ∧ sq qs ≤ 1152921504606846976 + 4294967296 := by
  obtain ⟨n1, n2⟩ := unit_len hs h1 h2
  obtain ⟨k1, k2⟩ := unit_sum (by omega) (by omega) hr hl hs
  have e : (1073741824 : Int) * 1073741824 = 1152921504606846976 := by decide
  rw [e] at k1 k2
  constructor
  · rcases Int.lt_or_le (sq qs) (1152921504606846976 - 4294967296) with h | h
    · have := Int.mul_le_mul_of_nonneg_left (show sq qs - 1152921504606846976 ≤ -4294967297 by omega) (show 0 ≤ n by omega)
      omega
    · exact h
  · rcases Int.lt_or_le (1152921504606846976 + 4294967296) (sq qs) with h | h
    · have := Int.mul_le_mul_of_nonneg_left (show 4294967297 ≤ sq qs - 1152921504606846976 by omega) (show 0 ≤ n by omega)
      omega
    · exact h
end Go.Proofs.Ytfkeljolpcbbkaa.Nm
