/- The runner: calls that take lists; wide numbers; all of these together. -/
import Derived.Test.YtahedampmjfoeaaSxM
import Derived.Test.YtahedampmjfoeaaFxE
namespace Go.Proofs.Ytahedampmjfoeaa.SX
open Go Go.RowKit
section
variable {g : Sg}
/-- The whole numbers that stand in cells. -/
def intsC : List C → Option (List A)
  | [] => some []
  | .i .i64 a :: r => match intsC r with
    | some l => some (a :: l)
    | none => none
  | _ :: _ => none
theorem intsC_ok {r : Rho} : ∀ {l : List C} {xa : List A} {vs : List Value}, intsC l = some xa → DL g r l vs → ∀ i, i < xa.length → vs[i]? = some (.int .i64 ((xa.map (A.val g)).getD i 0)) ∧ inK .i64 ((xa.map (A.val g)).getD i 0)
  | [], xa, vs, h, _, i, hi => by simp [intsC] at h; subst h; simp at hi
  | .i k a :: l, xa, vs, h, hD, i, hi => by
    cases k <;> simp only [intsC] at h <;> try cases h
    split at h
    · rename_i m hm
      cases h
      obtain ⟨v, vs, rfl, h1, h2⟩ := hD.cons_inv
      cases i with
      | zero =>
        refine ⟨?_, den_in (r := r) h1⟩
        have := den_i (r := r) (g := g) h1
        subst this; rfl
      | succ i =>
        obtain ⟨k1, k2⟩ := intsC_ok hm h2 i (by simpa using hi)
        exact ⟨by simpa using k1, by simpa using k2⟩
    · cases h
  | .b _ :: _, _, _, h, _, _, _ => by simp [intsC] at h
  | .p _ _ :: _, _, _, h, _, _, _ => by simp [intsC] at h
  | .pn :: _, _, _, h, _, _, _ => by simp [intsC] at h
  | .s _ _ _ _ :: _, _, _, h, _, _, _ => by simp [intsC] at h
  | .sn :: _, _, _, h, _, _, _ => by simp [intsC] at h
theorem intsC_len : ∀ {l : List C} {xa : List A}, intsC l = some xa → xa.length = l.length
  | [], xa, h => by simp [intsC] at h; subst h; rfl
  | .i k a :: l, xa, h => by
    cases k <;> simp only [intsC] at h <;> try cases h
    split at h
    · rename_i m hm
      cases h
      simp [intsC_len hm]
    · cases h
  | .b _ :: _, _, h => by simp [intsC] at h
  | .p _ _ :: _, _, h => by simp [intsC] at h
  | .pn :: _, _, h => by simp [intsC] at h
  | .s _ _ _ _ :: _, _, h => by simp [intsC] at h
  | .sn :: _, _, h => by simp [intsC] at h
/-- A slice of whole numbers, xa it lies. -/
def intsAt (heap : List (Nat × Bk)) (n o l : Nat) : Option (List A) := match hget heap n with
  | some bk => match takeN (bk.cells.drop o) l with
    | some m => intsC m
    | none => none
  | none => none
theorem intsAt_ok {st : St} {n o l : Nat} {xa : List A} (h : intsAt st.heap n o l = some xa) {r : Rho} {w : World} (hI : Inv g r st w) :
    xa.length = l ∧ ∃ q, r n = some q ∧ q < w.heap.size ∧ Ints w q o l (fun i => (xa.map (A.val g)).getD i 0) := by
  unfold intsAt at h
  split at h
  · rename_i bk hbk
    split at h
    · rename_i m hm
      obtain ⟨rfl, hl⟩ := takeN_take hm
      have hlen := intsC_len h
      have hlen : xa.length = l := by rw [hlen]; simp at hl ⊢; omega
      obtain ⟨q, vs, hq, hw, hD⟩ := hI.holds n bk hbk
      refine ⟨hlen, q, hq, hI.lt n q hq, ⟨fun i hi => ?_⟩⟩
      obtain ⟨k1, _⟩ := intsC_ok h ((hD.drop o).take l) i (by omega)
      rw [cell_of_heap hw, ← k1, List.getElem?_take, if_pos hi, List.getElem?_drop]
    · cases h
  · cases h
theorem rnd_zero (v : Int) : rnd v 0 = v := by
  unfold rnd withSign
  have : rq v.natAbs 0 = v.natAbs := by unfold rq halfOf; simp
  rw [this]
  by_cases h : v < 0 <;> simp [h] <;> omega
theorem sumS_cons (a : Int) (l : List Int) : ∀ n, sumS (fun i => (a :: l).getD i 0) (n + 1) = sumS (fun i => l.getD i 0) n + satv a
  | 0 => by simp [sumS]
  | n + 1 => by
    rw [sumS, sumS_cons a l n, sumS]
    simp only [List.getD_cons_succ]
    omega
theorem sumS_list : ∀ (l : List Int), sumS (fun i => l.getD i 0) l.length = sumL l
  | [] => rfl
  | a :: l => by rw [List.length_cons, sumS_cons, sumS_list l]; rfl
theorem anyS_cons (a : Int) (l : List Int) : ∀ n, anyS (fun i => (a :: l).getD i 0) (n + 1) = (anyS (fun i => l.getD i 0) n || sath a)
  | 0 => by simp [anyS]
  | n + 1 => by
    rw [anyS, anyS_cons a l n, anyS]
    simp only [List.getD_cons_succ]
    cases anyS (fun i => l.getD i 0) n <;> cases sath a <;> simp
theorem anyS_list : ∀ (l : List Int), anyS (fun i => l.getD i 0) l.length = anyL l
  | [] => rfl
  | a :: l => by rw [List.length_cons, anyS_cons, anyS_list l]; rfl
def addS (args : List V) (st : St) : Option (V × St) := match args with
  | [.w (.c (.p n o)), .w (.c (.s m mo l _))] => bif Nat.beq m n then none else bif Nat.ble l 9223372036854775807 then (match intsAt st.heap m mo l with
    | some xa => flagA n o 14 15 xa st
    | none => none) else none
  | _ => none
theorem add_case : CaseOk g 37 addS := fun args st v st' h hg => by
  unfold addS at h
  split at h
  · rename_i n o m mo l c
    rw [nbeq, nble, Bool.cond_decide, Bool.cond_decide] at h
    split at h
    · cases h
    · rename_i hmn
      split at h
      · rename_i hl
        split at h
        · rename_i xa has
          refine ⟨(flag_call (f := 0) (vs := []) h hg).1, fun r w vs hI hv => ?_⟩
          match vs, hv with
          | [x, y], ⟨hx, hy, _⟩ =>
            obtain ⟨q', hq', rfl⟩ := den_s hy
            obtain ⟨e1, q1, k1, k2, k3⟩ := intsAt_ok has hI
            rw [hq'] at k1; cases k1
            refine (flag_call h hg).2 r w x hI hx (sat_i64 _) fun q hb hq hF => ?_
            have hc := add_fx q o q' mo l c _ hb w hF hl k2 (fun e => hmn (hI.inj m n q' hq' (e ▸ hq))) k3
            have e2 := sumS_list (xa.map (A.val g))
            have e3 := anyS_list (xa.map (A.val g))
            rw [List.length_map, e1] at e2 e3
            rw [e2, e3, rnd_zero] at hc
            simp only [U, ieq_b2i, ← Bool.or_assoc]
            exact hc
        · cases h
      · cases h
  · cases h

/-! ### Wide numbers -/
/-- The number that two parts stand for. -/
def joinA (h l : A) (st : St) : A × St := match h, l with
  | .x i, .x j => (match st.defs.find? (fun d => Nat.beq d.1 i), st.defs.find? (fun d => Nat.beq d.1 j) with
    | some (i', .u 21, [z]), some (j', .u 22, [z']) => if i' = i ∧ j' = j ∧ z = z' then (z, st) else app U (.u 23) [.x i, .x j] st
    | _, _ => app U (.u 23) [.x i, .x j] st)
  | h, l => app U (.u 23) [h, l] st
theorem find_mem {l : List (Nat × Pr × List A)} {p : Nat × Pr × List A → Bool} {d : Nat × Pr × List A} (h : l.find? p = some d) : d ∈ l := List.mem_of_find?_eq_some h
theorem joinA_ok {h l r : A} {st st' : St} (he : joinA h l st = (r, st')) (hg : Good U g st') :
    Good U g st ∧ Same st st' ∧ r.val g = h.val g * 18446744073709551616 + l.val g := by
  have gen : ∀ h l : A, app U (.u 23) [h, l] st = (r, st') → Good U g st ∧ Same st st' ∧ r.val g = h.val g * 18446744073709551616 + l.val g := fun h l he => by
    obtain ⟨h1, h2, h3⟩ := app_ok he hg
    exact ⟨h1, h2, h3⟩
  unfold joinA at he
  split at he
  · rename_i i j
    split at he
    · rename_i i' z j' z' hi hj
      split at he
      · rename_i hc
        obtain ⟨rfl, rfl, rfl⟩ := hc
        cases he
        refine ⟨hg, Same.refl _, ?_⟩
        have e1 := hg.defs _ (find_mem hi)
        have e2 := hg.defs _ (find_mem hj)
        simp only [mean, List.map, U] at e1 e2
        show r.val g = g i' * 18446744073709551616 + g j'
        rw [e1, e2]
        unfold wh wl; omega
      · exact gen _ _ he
    · exact gen _ _ he
  · exact gen _ _ he
/-- A number in its two parts. -/
def splitA (z : A) (st : St) : W × St := match app U (.u 21) [z] st with
  | (h, st1) => match app U (.u 22) [z] st1 with
    | (l, st2) => (.agg [.i .i64 h, .i .u64 l], st2)
theorem wide_in {z : Int} (h : InW z) : inK .i64 (wh z) ∧ inK .u64 (wl z) := by
  have h1 := h.lo
  have h2 := h.hi
  unfold wh wl
  rw [inK_i64, inK_u64]
  omega
theorem splitA_ok {z : A} {x : W} {st st' : St} (he : splitA z st = (x, st')) (hg : Good U g st') :
    Good U g st ∧ Same st st' ∧ (InW (z.val g) → ∀ r, x.Den g r (Wv (z.val g))) := by
  unfold splitA at he
  split at he
  rename_i h st1 h1
  split at he
  rename_i l st2 h2
  cases he
  obtain ⟨g1, s1, e1⟩ := app_ok h2 hg
  obtain ⟨g0, s0, e0⟩ := app_ok h1 g1
  refine ⟨g0, s0.trans s1, fun hin r => ?_⟩
  obtain ⟨k1, k2⟩ := wide_in hin
  have e0 : h.val g = wh (z.val g) := e0
  have e1 : l.val g = wl (z.val g) := e1
  refine ⟨[.int .i64 (wh (z.val g)), .int .u64 (wl (z.val g))], rfl, DL.cons ?_ (DL.cons ?_ DL.nil)⟩
  · have := mk_i r (k := .i64) (a := h) (g := g) (by rw [e0]; exact k1)
    rw [e0] at this; exact this
  · have := mk_i r (k := .u64) (a := l) (g := g) (by rw [e1]; exact k2)
    rw [e1] at this; exact this
/-- Two parts that come in: the number, within 128 bits. -/
theorem wide_arg {h l : A} {r : Rho} {v : Value} (hd : V.Den g r (.w (.agg [.i .i64 h, .i .u64 l])) v) : v = Wv (h.val g * 18446744073709551616 + l.val g) ∧ InW (h.val g * 18446744073709551616 + l.val g) := by
  obtain ⟨vs, rfl, hD⟩ := den_agg hd
  obtain ⟨a, vs, rfl, h1, hD⟩ := hD.cons_inv
  obtain ⟨b, vs, rfl, h2, hD⟩ := hD.cons_inv
  obtain rfl := hD.nil_inv
  have i1 := inK_i64.1 (den_in (r := r) (v := a) h1)
  have i2 := inK_u64.1 (den_in (r := r) (v := b) h2)
  obtain rfl := den_i (r := r) (v := a) h1
  obtain rfl := den_i (r := r) (v := b) h2
  refine ⟨?_, ⟨by omega, by omega⟩⟩
  have e1 : wh (h.val g * 18446744073709551616 + l.val g) = h.val g := by unfold wh; omega
  have e2 : wl (h.val g * 18446744073709551616 + l.val g) = l.val g := by unfold wl; omega
  show Value.agg #[_, _] = .agg #[_, _]
  rw [e1, e2]
theorem below_mem {r : Rho} {st : St} {w w' : World} (hI : Inv g r st w) (hb : Below w.heap.size w w') : Inv g r st w' ∧ Ext r w r w' :=
  ⟨⟨fun n bk hn => by
      obtain ⟨b, vs, h1, h2, h3⟩ := hI.holds n bk hn
      exact ⟨b, vs, h1, by rw [hb.block b (hI.lt n b h1)]; exact h2, h3⟩, hI.inj, hI.fresh, fun n b h => Nat.lt_of_lt_of_le (hI.lt n b h) hb.size, hI.rlt⟩,
    ⟨Sub.refl _, fun _ _ h => .inl h, hb.size, fun b hlt _ => hb.block b hlt, hb.os, hb.tape, hb.output⟩⟩
def wmulS (args : List V) (st : St) : Option (V × St) := match args with
  | [.w (.c (.i .i64 a)), .w (.c (.i .i64 b))] => (match app U (.u 20) [a, b] st with
    | (z, st1) => match splitA z st1 with
      | (x, st2) => some (.w x, st2))
  | _ => none
theorem mul_inW {a b : Int} (ha : inK .i64 a) (hb : inK .i64 b) : InW (a * b) := by
  rw [inK_i64] at ha hb
  have h1 : (a * b).natAbs ≤ 9223372036854775808 * 9223372036854775808 := by
    rw [Int.natAbs_mul]
    exact Nat.mul_le_mul (by omega) (by omega)
  exact ⟨by omega, by omega⟩
theorem wmul_case : CaseOk g 15 wmulS := fun args st v st' h hg => by
  unfold wmulS at h
  split at h
  · rename_i a b
    split at h
    rename_i z st1 h1
    split at h
    rename_i x st2 h2
    cases h
    obtain ⟨g1, s1, e1⟩ := splitA_ok h2 hg
    obtain ⟨g0, s0, e0⟩ := app_ok h1 g1
    refine ⟨g0, fun r w vs hI hv => ?_⟩
    match vs, hv with
    | [p, q], ⟨hx, hy, _⟩ =>
      have i1 := den_in hx
      have i2 := den_in hy
      obtain rfl := den_i hx
      obtain rfl := den_i hy
      have e0 : z.val g = a.val g * b.val g := e0
      refine (wmul_any (a.val g) (b.val g) w (inK_i64.1 i1).1 (inK_i64.1 i1).2 (inK_i64.1 i2).1 (inK_i64.1 i2).2).mono fun e w' hp => ?_
      obtain ⟨rfl, hb⟩ := hp
      obtain ⟨k1, k2⟩ := below_mem (hI.same (s0.trans s1)) hb
      exact ⟨r, _, rfl, e0 ▸ e1 (by rw [e0]; exact mul_inW i1 i2) r, k1, k2⟩
  · cases h
def isK : A → Bool
  | .k _ => true
  | .x _ => false
def wrootS (args : List V) (st : St) : Option (V × St) := match args with
  | [.w (.agg [.i .i64 h, .i .u64 l])] => (match joinA h l st with
    | (z, st1) => bif isK z then none else (match app U (.u 26) [z] st1 with
      | (a, st2) => match app U (.u 27) [z] st2 with
        | (b, st3) => some (.tup [.c (.i .i64 a), .c (.b b)], st3)))
  | _ => none
theorem root_top (n : Nat) (h : n ≤ 85070591730234615856620279821087277056) : rootN n ≤ 9223372036854775807 := by
  obtain ⟨h1, h2⟩ := isq_spec n
  have h3 : isq n ≤ 9223372036854775807 := isq_le (by omega)
  unfold rootN
  split
  · rename_i h4
    rcases Nat.lt_or_ge (isq n) 9223372036854775807 with h5 | h5
    · omega
    · have : isq n = 9223372036854775807 := by omega
      rw [this] at h4
      omega
  · omega
theorem root_i64 (z : Int) : inK .i64 (U 26 [z]) := by
  simp only [U]
  unfold rootOk
  rw [inK_i64, ile_iff, ile_iff, ← Bool.decide_and, Bool.cond_decide]
  split
  · rename_i h
    obtain ⟨h1, h2⟩ := h
    have := root_top z.toNat (by omega)
    omega
  · omega
theorem wroot_case : CaseOk g 57 wrootS := fun args st v st' h hg => by
  unfold wrootS at h
  split at h
  · rename_i p q
    split at h
    rename_i z st1 h1
    cases hz : isK z
    rotate_left
    · rw [hz] at h; cases h
    rw [hz] at h
    rw [cond_false] at h
    split at h
    rename_i a st2 h2
    split at h
    rename_i b st3 h3
    cases h
    obtain ⟨g2, s2, e2⟩ := app_ok h3 hg
    obtain ⟨g1, s1, e1⟩ := app_ok h2 g2
    obtain ⟨g0, s0, e0⟩ := joinA_ok h1 g1
    refine ⟨g0, fun r w vs hI hv => ?_⟩
    match vs, hv with
    | [x], ⟨hx, _⟩ =>
      obtain ⟨rfl, hin⟩ := wide_arg hx
      rw [← e0] at hin ⊢
      have hres : ∀ c w', Below w.heap.size w w' → c = .tuple #[.int .i64 (U 26 [z.val g]), .bool (rootOk (z.val g))] → ∃ r' u, Ending.returned c = .returned u ∧ V.Den g r' (.tup [.c (.i .i64 a), .c (.b b)]) u ∧ Inv g r' st' w' ∧ Ext r w r' w' := by
        intro c w' hb hc
        obtain ⟨k1, k2⟩ := below_mem (hI.same ((s0.trans s1).trans s2)) hb
        refine ⟨r, c, rfl, ?_, k1, k2⟩
        subst hc
        have e1 : a.val g = U 26 [z.val g] := e1
        have e2 : b.val g = b2i (rootOk (z.val g)) := e2
        refine ⟨[.int .i64 (U 26 [z.val g]), .bool (rootOk (z.val g))], rfl, ?_, ?_, trivial⟩
        · rw [← e1]; exact mk_i r (by rw [e1]; exact root_i64 _)
        · have := mk_b (g := g) r b; rw [e2, ieq_b2i] at this; exact this
      have hok : rootOk (z.val g) = decide (0 ≤ z.val g ∧ z.val g ≤ 85070591730234615856620279821087277056) := by unfold rootOk; rw [ile_iff, ile_iff, ← Bool.decide_and]
      by_cases c1 : 0 ≤ z.val g
      · by_cases c2 : z.val g ≤ 85070591730234615856620279821087277056
        · refine (wroot_any (z.val g) w c1 c2).mono fun e w' hp => ?_
          obtain ⟨rfl, hb⟩ := hp
          exact hres _ w' hb (by rw [hok, decide_eq_true ⟨c1, c2⟩]; simp only [U, hok, decide_eq_true (show _ ∧ _ from ⟨c1, c2⟩), cond_true])
        · refine (wroot_big (z.val g) w c1 (by omega)).mono fun e w' hp => ?_
          obtain ⟨rfl, hb⟩ := hp
          have hf : decide (0 ≤ z.val g ∧ z.val g ≤ 85070591730234615856620279821087277056) = false := by simp; omega
          exact hres _ w' hb (by rw [hok, hf]; simp only [U, hok, hf, cond_false])
      · refine (wroot_neg (z.val g) w (by omega)).mono fun e w' hp => ?_
        obtain ⟨rfl, hb⟩ := hp
        have hf : decide (0 ≤ z.val g ∧ z.val g ≤ 85070591730234615856620279821087277056) = false := by simp; omega
        exact hres _ w' hb (by rw [hok, hf]; simp only [U, hok, hf, cond_false])
  · cases h

/-! ### Sums of wide numbers -/
def joinsA : List C → St → Option (List A × St)
  | [], st => some ([], st)
  | .i .i64 h :: .i .u64 l :: r, st => (match joinA h l st with
    | (z, st1) => match joinsA r st1 with
      | some (m, st2) => some (z :: m, st2)
      | none => none)
  | _, _ => none
theorem joinsA_ok : ∀ {l : List C} {m : List A} {st st' : St}, joinsA l st = some (m, st') → Good U g st' → Good U g st ∧ Same st st' ∧ l.length = 2 * m.length ∧
    ∀ r vs, DL g r l vs → ∀ i, i < m.length → InW ((m.map (A.val g)).getD i 0) ∧ vs[i * 2]? = some (.int .i64 (wh ((m.map (A.val g)).getD i 0))) ∧ vs[i * 2 + 1]? = some (.int .u64 (wl ((m.map (A.val g)).getD i 0)))
  | [], m, st, st', h, hg => by
    simp [joinsA] at h
    obtain ⟨rfl, rfl⟩ := h
    exact ⟨hg, Same.refl _, rfl, fun r vs _ i hi => by simp at hi⟩
  | .i k1 h :: .i k2 l :: rest, m, st, st', hh, hg => by
    have hk : k1 = .i64 ∧ k2 = .u64 := by cases k1 <;> cases k2 <;> first | exact ⟨rfl, rfl⟩ | (simp [joinsA] at hh)
    obtain ⟨rfl, rfl⟩ := hk
    rw [joinsA] at hh
    split at hh
    rename_i z st1 h1
    split at hh
    · rename_i m' st2 h2
      cases hh
      obtain ⟨g1, s1, l1, k⟩ := joinsA_ok h2 hg
      obtain ⟨g0, s0, e0⟩ := joinA_ok h1 g1
      refine ⟨g0, s0.trans s1, by simp [l1]; omega, fun r vs hD i hi => ?_⟩
      obtain ⟨a, vs, rfl, d1, hD⟩ := hD.cons_inv
      obtain ⟨b, vs, rfl, d2, hD⟩ := hD.cons_inv
      cases i with
      | zero =>
        have ha : V.Den g r (.w (.agg [.i .i64 h, .i .u64 l])) (.agg ⟨[a, b]⟩) := ⟨_, rfl, DL.cons d1 (DL.cons d2 DL.nil)⟩
        obtain ⟨e1, e2⟩ := wide_arg ha
        have e1 : Value.agg ⟨[a, b]⟩ = .agg ⟨[.int .i64 (wh (h.val g * 18446744073709551616 + l.val g)), .int .u64 (wl (h.val g * 18446744073709551616 + l.val g))]⟩ := e1
        injection e1 with e1
        injection e1 with e1
        injection e1 with e3 e4
        injection e4 with e4
        simp only [List.map_cons, List.getD_cons_zero, e0]
        exact ⟨e2, by simp [e3], by simp [e4]⟩
      | succ i =>
        obtain ⟨q1, q2, q3⟩ := k r vs hD i (by simpa using hi)
        simp only [List.map_cons, List.getD_cons_succ]
        have a1 : (i + 1) * 2 = i * 2 + 1 + 1 := by omega
        rw [a1]
        exact ⟨q1, by simpa using q2, by simpa using q3⟩
    · cases hh
  | [.i _ _], _, _, _, h, _ => by simp [joinsA] at h
  | .i k _ :: .b _ :: _, _, _, _, h, _ => by cases k <;> simp [joinsA] at h
  | .i k _ :: .p _ _ :: _, _, _, _, h, _ => by cases k <;> simp [joinsA] at h
  | .i k _ :: .pn :: _, _, _, _, h, _ => by cases k <;> simp [joinsA] at h
  | .i k _ :: .s _ _ _ _ :: _, _, _, _, h, _ => by cases k <;> simp [joinsA] at h
  | .i k _ :: .sn :: _, _, _, _, h, _ => by cases k <;> simp [joinsA] at h
  | .b _ :: _, _, _, _, h, _ => by simp [joinsA] at h
  | .p _ _ :: _, _, _, _, h, _ => by simp [joinsA] at h
  | .pn :: _, _, _, _, h, _ => by simp [joinsA] at h
  | .s _ _ _ _ :: _, _, _, _, h, _ => by simp [joinsA] at h
  | .sn :: _, _, _, _, h, _ => by simp [joinsA] at h
def waddS (args : List V) (st : St) : Option (V × St) := match args with
  | [.w (.c (.s n o l _))] => (match hget st.heap n with
    | some bk => (match takeN (bk.cells.drop o) (2 * l) with
      | some m => bif Nat.ble l 9223372036854775807 then (match joinsA m st with
        | some (zs, st1) => (match app U (.u 24) zs st1 with
          | (z, st2) => match app U (.u 25) zs st2 with
            | (b, st3) => match splitA z st3 with
              | (x, st4) => some (.tup [x, .c (.b b)], st4))
        | none => none) else none
      | none => none)
    | none => none)
  | _ => none
theorem inWB_iff (z : Int) : inWB z = true ↔ InW z := by
  unfold inWB
  rw [ile_iff, ile_iff]
  simp
  exact ⟨fun ⟨h1, h2⟩ => ⟨h1, h2⟩, fun ⟨h1, h2⟩ => ⟨h1, h2⟩⟩
theorem accum_shift (a : Int) (l : List Int) : ∀ k, accum (fun i => (a :: l).getD i 0) (k + 1) = a + accum (fun i => l.getD i 0) k
  | 0 => by simp [accum]
  | k + 1 => by rw [accum, accum_shift a l k, accum]; simp only [List.getD_cons_succ]; omega
/-- Where the sum stops. -/
theorem wsum_spec : ∀ (l : List Int) (c : Int), ∃ m, m ≤ l.length ∧ (∀ k, 0 < k → k ≤ m → InW (c + accum (fun i => l.getD i 0) k)) ∧
    ((m = l.length ∧ wsum c l = some (c + accum (fun i => l.getD i 0) l.length)) ∨ (m < l.length ∧ ¬ InW (c + accum (fun i => l.getD i 0) (m + 1)) ∧ wsum c l = none))
  | [], c => ⟨0, by simp, fun k h1 h2 => by omega, .inl ⟨rfl, by simp [wsum, accum]⟩⟩
  | a :: l, c => by
    cases hb : inWB (c + a)
    · refine ⟨0, by simp, fun k h1 h2 => by omega, .inr ⟨by simp, ?_, by simp [wsum, hb]⟩⟩
      rw [accum_shift]
      simp only [accum, Int.add_zero]
      intro h; rw [(inWB_iff _).2 h] at hb; cases hb
    · obtain ⟨m, h1, h2, h3⟩ := wsum_spec l (c + a)
      have hw : wsum c (a :: l) = wsum (c + a) l := by simp [wsum, hb]
      refine ⟨m + 1, by simp; omega, fun k k1 k2 => ?_, ?_⟩
      · cases k with
        | zero => omega
        | succ k =>
          rw [accum_shift, ← Int.add_assoc]
          rcases Nat.eq_zero_or_pos k with h0 | h0
          · subst h0; simp only [accum, Int.add_zero]; exact (inWB_iff _).1 hb
          · exact h2 k h0 (by omega)
      · rw [hw]
        rcases h3 with ⟨e1, e2⟩ | ⟨e1, e2, e3⟩
        · refine .inl ⟨by simp [e1], ?_⟩
          rw [e2, List.length_cons, accum_shift, Int.add_assoc]
        · refine .inr ⟨by simp; omega, ?_, e3⟩
          rw [accum_shift, ← Int.add_assoc]; exact e2
theorem wadd_case : CaseOk g 24 waddS := fun args st v st' h hg => by
  unfold waddS at h
  split at h
  · rename_i n o l c
    split at h
    · rename_i bk hbk
      split at h
      · rename_i m hm
        rw [nble, Bool.cond_decide] at h
        split at h
        · rename_i hl
          split at h
          · rename_i zs st1 h1
            split at h
            rename_i z st2 h2
            split at h
            rename_i b st3 h3
            split at h
            rename_i x st4 h4
            cases h
            obtain ⟨g3, s3, e3⟩ := splitA_ok h4 hg
            obtain ⟨g2, s2, e2⟩ := app_ok h3 g3
            obtain ⟨g1, s1, e1⟩ := app_ok h2 g2
            obtain ⟨g0, s0, l0, k0⟩ := joinsA_ok h1 g1
            obtain ⟨rfl, hle⟩ := takeN_take hm
            have hzl : zs.length = l := by simp at l0 hle; omega
            refine ⟨g0, fun r w vs hI hv => ?_⟩
            match vs, hv with
            | [y], ⟨hy, _⟩ =>
              obtain ⟨q, hq, rfl⟩ := den_s hy
              obtain ⟨q', vs, hq', hw, hD⟩ := hI.holds n bk hbk
              rw [hq] at hq'; cases hq'
              have kk := k0 r _ ((hD.drop o).take (2 * l))
              obtain ⟨mm, m1, m2, m3⟩ := wsum_spec (zs.map (A.val g)) 0
              rw [List.length_map, hzl] at m1 m3
              have hcells : _root_.Go.Proofs.Ytahedampmjfoeaa.Holds w q o l (fun i => (zs.map (A.val g)).getD i 0) := by
                refine ⟨fun i hi => ?_, fun i hi => ?_⟩
                · have := (kk i (by omega)).2.1
                  rw [List.getElem?_take, if_pos (by omega), List.getElem?_drop] at this
                  rw [cell_of_heap hw]; exact this
                · have := (kk i (by omega)).2.2
                  rw [List.getElem?_take, if_pos (by omega), List.getElem?_drop] at this
                  rw [cell_of_heap hw, Nat.add_assoc]; exact this
              have hacc : ∀ k, k ≤ mm → InW (accum (fun i => (zs.map (A.val g)).getD i 0) k) := fun k hk => by
                rcases Nat.eq_zero_or_pos k with h0 | h0
                · subst h0; exact inW_zero
                · have := m2 k h0 hk; rwa [Int.zero_add] at this
              refine (wadd_any q o l c mm _ w hl (hI.lt n q hq) (fun i hi => (kk i (by omega)).1) m1 hacc (by rcases m3 with ⟨e, _⟩ | ⟨_, e, _⟩; exact .inl e; exact .inr (by rwa [Int.zero_add] at e)) hcells).mono fun e w' hp => ?_
              obtain ⟨rfl, hb⟩ := hp
              obtain ⟨k1, k2⟩ := below_mem (hI.same (((s0.trans s1).trans s2).trans s3)) hb
              refine ⟨r, _, rfl, ?_, k1, k2⟩
              have e1 : z.val g = U 24 (zs.map (A.val g)) := e1
              have e2 : b.val g = b2i (wsum 0 (zs.map (A.val g))).isSome := e2
              unfold addRes
              rcases m3 with ⟨f1, f2⟩ | ⟨f1, _, f2⟩
              · rw [if_pos f1]
                rw [f2] at e2
                simp only [U, f2, Int.zero_add] at e1
                refine ⟨[Wv (accum (fun i => (zs.map (A.val g)).getD i 0) l), .bool true], rfl, ?_, ?_, trivial⟩
                · rw [← e1]; exact e3 (by rw [e1]; exact f1 ▸ hacc mm (Nat.le_refl _)) r
                · have := mk_b (g := g) r b; rw [e2, ieq_b2i] at this; exact this
              · rw [if_neg (by omega)]
                rw [f2] at e2
                simp only [U, f2] at e1
                refine ⟨[Wv 0, .bool false], rfl, ?_, ?_, trivial⟩
                · have := e3 (by rw [e1]; exact inW_zero) r; rw [e1] at this; exact this
                · have := mk_b (g := g) r b; rw [e2, ieq_b2i] at this; exact this
          · cases h
        · cases h
      · cases h
    · cases h
  · cases h
end
end Go.Proofs.Ytahedampmjfoeaa.SX
