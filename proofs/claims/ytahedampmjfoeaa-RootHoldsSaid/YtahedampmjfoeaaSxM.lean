/- The runner: calls of packages fx and wide by what they are known to answer. -/
import Derived.Test.YtahedampmjfoeaaSxL
import Derived.Test.YtahedampmjfoeaaFxD
import Derived.Test.YtahedampmjfoeaaWideI
namespace Go.Proofs.Ytahedampmjfoeaa.SX
open Go Go.RowKit

def sumL : List Int → Int
  | [] => 0
  | a :: l => sumL l + satv a
def anyL : List Int → Bool
  | [] => false
  | a :: l => anyL l || sath a
def dotL : List Int → Int
  | a :: b :: l => dotL l + satv a * satv b
  | _ => 0
def dotH : List Int → Bool
  | a :: b :: l => dotH l || sath a || sath b
  | _ => false
def inWB (z : Int) : Bool := ile (-170141183460469231731687303715884105728) z && !ile 170141183460469231731687303715884105728 z
/-- The sum of all, if each sum on the way (from acc on) is in bounds. -/
def wsum : Int → List Int → Option Int
  | acc, [] => some acc
  | acc, z :: l => bif inWB (acc + z) then wsum (acc + z) l else none
def rootOk (z : Int) : Bool := ile 0 z && ile z 85070591730234615856620279821087277056
/-- What the marks stand for. -/
def U (n : Nat) (l : List Int) : Int := match n with
  | 0 => (match l with | [a] => satv a | _ => 0)
  | 1 => (match l with | [a] => b2i (sath a) | _ => 0)
  | 2 => (match l with | [a, b, s] => satv (rnd (satv a * satv b) s.toNat) | _ => 0)
  | 3 => (match l with | [a, b, s] => b2i (sath a || sath b || sath (rnd (satv a * satv b) s.toNat)) | _ => 0)
  | 4 => (match l with | [a, b, s] => divv (satv a * 2 ^ s.toNat) (satv b) | _ => 0)
  | 5 => (match l with | [a, b, s] => b2i (sath a || sath b || divh (satv a * 2 ^ s.toNat) (satv b)) | _ => 0)
  | 6 => (match l with | [a, b, d] => divv (satv a * satv b) (satv d) | _ => 0)
  | 7 => (match l with | [a, b, d] => b2i (sath a || sath b || sath d || divh (satv a * satv b) (satv d)) | _ => 0)
  | 8 => (match l with | [a, b] => satv (satv a - satv b) | _ => 0)
  | 9 => (match l with | [a, b] => b2i (sath a || sath b || sath (satv a - satv b)) | _ => 0)
  | 10 => (match l with | [a, lo, hi] => clampv a lo hi | _ => 0)
  | 11 => (match l with | [a, lo, hi] => b2i (clamph a lo hi) | _ => 0)
  | 12 => (match l with | [a] => absv a | _ => 0)
  | 14 => satv (sumL l)
  | 15 => b2i (anyL l || sath (sumL l))
  | 16 => (match l with | s :: r => satv (rnd (dotL r) s.toNat) | _ => 0)
  | 17 => (match l with | s :: r => b2i (dotH r || sath (rnd (dotL r) s.toNat)) | _ => 0)
  | 20 => (match l with | [a, b] => a * b | _ => 0)
  | 21 => (match l with | [z] => wh z | _ => 0)
  | 22 => (match l with | [z] => wl z | _ => 0)
  | 23 => (match l with | [h, x] => h * 18446744073709551616 + x | _ => 0)
  | 24 => (match wsum 0 l with | some z => z | none => 0)
  | 25 => b2i (wsum 0 l).isSome
  | 26 => (match l with | [z] => (bif rootOk z then (rootN z.toNat : Nat) else 0) | _ => 0)
  | 27 => (match l with | [z] => b2i (rootOk z) | _ => 0)
  | 28 => (match l with | [x, y] => cmpI x y | _ => 0)
  | _ => 0

/-! ### A flag -/
def orA (h x : A) (st : St) : A × St := match h with
  | .k z => bif ieq z 1 then (.k 1, st) else (x, st)
  | .x n => match x with
    | .k z => bif ieq z 1 then (.k 1, st) else (.x n, st)
    | .x m => app U .sel [.x n, .k 1, .x m] st
theorem orA_ok {g : Sg} {h x r : A} {st st' : St} (ho : orA h x st = (r, st')) (hg : Good U g st') :
    Good U g st ∧ Same st st' ∧ ieq (r.val g) 1 = (ieq (h.val g) 1 || ieq (x.val g) 1) := by
  unfold orA at ho
  split at ho
  · rename_i z
    cases hz : ieq z 1
    · rw [hz] at ho; cases ho
      exact ⟨hg, Same.refl _, by simp [A.val, hz]⟩
    · rw [hz] at ho; cases ho
      exact ⟨hg, Same.refl _, by simp [A.val, hz]; decide⟩
  · rename_i n
    split at ho
    · rename_i z
      cases hz : ieq z 1
      · rw [hz] at ho; cases ho
        exact ⟨hg, Same.refl _, by simp [A.val, hz]⟩
      · rw [hz] at ho; cases ho
        exact ⟨hg, Same.refl _, by simp [A.val, hz]; decide⟩
    · rename_i m
      obtain ⟨h1, h2, h3⟩ := app_ok ho hg
      refine ⟨h1, h2, ?_⟩
      rw [h3]
      simp only [List.map, mean, val_k]
      cases ieq (A.val g (.x n)) 1
      · simp
      · simp [ieq]
def flagA (n o : Nat) (pv ph : Nat) (xa : List A) (st : St) : Option (V × St) :=
  match hget st.heap n with
  | none => none
  | some bk => match lkL bk.cells o with
    | some (.b h) => (match app U (.u pv) xa st with
      | (rv, st1) => match app U (.u ph) xa st1 with
        | (rh, st2) => match orA h rh st2 with
          | (h', st3) => some (.w (.c (.i .i64 rv)), { st3 with heap := hset st3.heap n ⟨bk.cells.set o (.b h'), bk.ty⟩ }))
    | _ => none
theorem lkL_lt {α : Type} {l : List α} {i : Nat} {x : α} (h : lkL l i = some x) : i < l.length := (List.getElem?_eq_some_iff.1 (lkL_get h)).1
theorem DL.set {g : Sg} {r : Rho} {l : List C} {vs : List Value} (h : DL g r l vs) (o : Nat) {c : C} {v : Value} (hc : c.den g r = some v) : DL g r (l.set o c) (vs.set o v) := by
  unfold DL at *
  rw [List.map_set, List.map_set, h, hc]
/-- A flag that a call sets where something has been clamped: memory before it and behind it. -/
theorem flag_mem {g : Sg} {st : St} {n o : Nat} {bk : Bk} {h h' : A} (hb : hget st.heap n = some bk) (hl : lkL bk.cells o = some (.b h)) {r : Rho} {w : World} (hI : Inv g r st w) {q : Nat} (hq : r n = some q) {st' : St}
    (hst : st'.heap = hset st.heap n ⟨bk.cells.set o (.b h'), bk.ty⟩) (hnx : st'.next = st.next) (hrs : st'.resv = st.resv) :
    Fl q o (ieq (h.val g) 1) w ∧ ∀ w', FlW q o (ieq (h'.val g) 1) w w' → Inv g r st' w' ∧ Ext r w r w' := by
  obtain ⟨q', vs, hq', hw, hD⟩ := hI.holds n bk hb
  rw [hq] at hq'; cases hq'
  obtain ⟨u, hu, hd⟩ := hD.get hl
  have hu' : u = .bool (ieq (h.val g) 1) := (Option.some.inj hd).symm
  have hF : Fl q o (ieq (h.val g) 1) w := ⟨by rw [cell_of_heap hw, hu, hu'], by simp [World.frozen?, hw], hI.lt n q hq⟩
  refine ⟨hF, fun w' hk => ⟨⟨?_, hI.inj, ?_, ?_, ?_⟩, ⟨Sub.refl _, fun _ _ h => .inl h, hk.size, ?_, ?_, ?_, ?_⟩⟩⟩
  · intro m b hm
    rw [hst, hget_hset] at hm
    by_cases e : m = n
    · subst e
      simp at hm; subst hm
      refine ⟨q, vs.set o (.bool (ieq (h'.val g) 1)), hq, ?_, hD.set o rfl⟩
      rw [hk.out.block q hF.lt, set_block hw]
      simp
    · simp [e] at hm
      obtain ⟨b', us, k1, k2, k3⟩ := hI.holds m b hm
      refine ⟨b', us, k1, ?_, k3⟩
      rw [hk.block (hI.lt m b' k1) (fun e' => e (hI.inj m n b' k1 (by rw [e']; exact hq)))]
      exact k2
  · rw [hnx, hrs]; exact hI.fresh
  · intro m b hm; exact Nat.lt_of_lt_of_le (hI.lt m b hm) hk.size
  · rw [hnx, hrs]; exact hI.rlt
  · intro b hb hn
    exact hk.block hb (fun e => hn n (e ▸ hq))
  · exact hk.out.os
  · exact hk.out.tape
  · exact hk.out.output
theorem flagA_ok {g : Sg} {n o pv ph : Nat} {xa : List A} {st st' : St} {v : V} (h : flagA n o pv ph xa st = some (v, st')) (hg : Good U g st') :
    Good U g st ∧ ∃ bk hb rv, v = .w (.c (.i .i64 rv)) ∧ rv.val g = U pv (xa.map (A.val g)) ∧ hget st.heap n = some bk ∧ lkL bk.cells o = some (.b hb) ∧
      ∀ r w, Inv g r st w → ∀ q, r n = some q → Fl q o (ieq (hb.val g) 1) w ∧ ∀ w', FlW q o (ieq (hb.val g) 1 || ieq (U ph (xa.map (A.val g))) 1) w w' → Inv g r st' w' ∧ Ext r w r w' := by
  unfold flagA at h
  split at h
  · cases h
  · rename_i bk hbk
    split at h
    · rename_i hb hl
      split at h
      rename_i rv st1 h1
      split at h
      rename_i rh st2 h2
      split at h
      rename_i h' st3 h3
      cases h
      have hg3 : Good U g st3 := ⟨hg.defs, hg.cs⟩
      obtain ⟨g2, s3, e3⟩ := orA_ok h3 hg3
      obtain ⟨g1, s2, e2⟩ := app_ok h2 g2
      obtain ⟨g0, s1, e1⟩ := app_ok h1 g1
      have hs := (s1.trans s2).trans s3
      refine ⟨g0, bk, hb, rv, rfl, e1, hbk, hl, fun r w hI q hq => ?_⟩
      obtain ⟨k1, k2⟩ := flag_mem (h' := h') (st' := { st3 with heap := hset st3.heap n ⟨bk.cells.set o (.b h'), bk.ty⟩ }) hbk hl hI hq (by rw [hs.heap]) hs.next hs.resv
      refine ⟨k1, fun w' hk => k2 w' ?_⟩
      rw [e3, e2]; exact hk
    · cases h

/-! ### Each call -/
abbrev Said (g : Sg) (f : FuncId) (vs : List Value) (st' : St) (v : V) (r : Rho) (w : World) : Prop :=
  Calls Try.prog f ⟨vs⟩ w fun e w' => ∃ r' u, e = .returned u ∧ v.Den g r' u ∧ Inv g r' st' w' ∧ Ext r w r' w'
theorem flag_call {g : Sg} {f : FuncId} {n o pv ph : Nat} {xa : List A} {st st' : St} {v : V} {vs : List Value} (h : flagA n o pv ph xa st = some (v, st')) (hg : Good U g st') :
    Good U g st ∧ ∀ r w x, Inv g r st w → V.Den g r (.w (.c (.p n o))) x → (inK .i64 (U pv (xa.map (A.val g)))) →
      (∀ q hb, r n = some q → Fl q o hb w → Calls Try.prog f ⟨.pointer (some ⟨q, o, none⟩) :: vs⟩ w fun e w' => e = .returned (.int .i64 (U pv (xa.map (A.val g)))) ∧ FlW q o (hb || ieq (U ph (xa.map (A.val g))) 1) w w') →
      Said g f (x :: vs) st' v r w := by
  obtain ⟨h1, bk, hb, rv, rfl, e1, _, _, h2⟩ := flagA_ok h hg
  refine ⟨h1, fun r w x hI hx hin hC => ?_⟩
  obtain ⟨q, hq, rfl⟩ := den_p hx
  obtain ⟨hF, hK⟩ := h2 r w hI q hq
  refine (hC q _ hq hF).mono fun e w' hp => ?_
  obtain ⟨rfl, hk⟩ := hp
  obtain ⟨k1, k2⟩ := hK w' hk
  exact ⟨r, _, rfl, e1 ▸ mk_i r (by rw [e1]; exact hin), k1, k2⟩
theorem sat_i64 (a : Int) : inK .i64 (satv a) := inK_i64.2 (by have := satv_lo a; have := satv_hi a; omega)
theorem side_i64 (v : Int) : inK .i64 (sideOf v) := inK_i64.2 (by have := side_bd v; omega)
theorem divv_i64 (v d : Int) : inK .i64 (divv v d) := by
  unfold divv; split
  · exact side_i64 v
  · exact sat_i64 _
def satS (args : List V) (st : St) : Option (V × St) := match args with
  | [.w (.c (.p n o)), .w (.c (.i .i64 a))] => flagA n o 0 1 [a] st
  | _ => none
def clampS (args : List V) (st : St) : Option (V × St) := match args with
  | [.w (.c (.p n o)), .w (.c (.i .i64 a)), .w (.c (.i .i64 b)), .w (.c (.i .i64 c))] => flagA n o 10 11 [a, b, c] st
  | _ => none
def subS (args : List V) (st : St) : Option (V × St) := match args with
  | [.w (.c (.p n o)), .w (.c (.i .i64 a)), .w (.c (.i .i64 b))] => flagA n o 8 9 [a, b] st
  | _ => none
def mulS (args : List V) (st : St) : Option (V × St) := match args with
  | [.w (.c (.p n o)), .w (.c (.i .i64 a)), .w (.c (.i .i64 b)), .w (.c (.i .i64 (.k (.ofNat s))))] => bif Nat.ble s 120 then flagA n o 2 3 [a, b, .k (.ofNat s)] st else none
  | _ => none
def divS (args : List V) (st : St) : Option (V × St) := match args with
  | [.w (.c (.p n o)), .w (.c (.i .i64 a)), .w (.c (.i .i64 b)), .w (.c (.i .i64 (.k (.ofNat s))))] => bif Nat.ble s 66 then flagA n o 4 5 [a, b, .k (.ofNat s)] st else none
  | _ => none
def muldivS (args : List V) (st : St) : Option (V × St) := match args with
  | [.w (.c (.p n o)), .w (.c (.i .i64 a)), .w (.c (.i .i64 b)), .w (.c (.i .i64 d))] => flagA n o 6 7 [a, b, d] st
  | _ => none
def absS (args : List V) (st : St) : Option (V × St) := match args with
  | [.w (.c (.i .i64 a))] => (match app U (.u 12) [a] st with | (r, st') => some (.w (.c (.i .i64 r)), st'))
  | _ => none
section
variable {g : Sg}
abbrev CaseOk (g : Sg) (f : FuncId) (S : List V → St → Option (V × St)) : Prop := ∀ args st v st', S args st = some (v, st') → Good U g st' →
  Good U g st ∧ ∀ r w vs, Inv g r st w → VL g r args vs → Said g f vs st' v r w
theorem sat_case : CaseOk g 35 satS := fun args st v st' h hg => by
  unfold satS at h
  split at h
  · rename_i n o a
    refine ⟨(flag_call (f := 0) (vs := []) h hg).1, fun r w vs hI hv => ?_⟩
    match vs, hv with
    | [x, y], ⟨hx, hy, _⟩ =>
      obtain rfl := den_i hy
      refine (flag_call h hg).2 r w x hI hx (sat_i64 _) fun q hb _ hF => ?_
      simp only [U, List.map, ieq_b2i]
      exact sat_any q o _ hb w hF
  · cases h
theorem clamp_case : CaseOk g 33 clampS := fun args st v st' h hg => by
  unfold clampS at h
  split at h
  · rename_i n o a b c
    refine ⟨(flag_call (f := 0) (vs := []) h hg).1, fun r w vs hI hv => ?_⟩
    match vs, hv with
    | [x, y, z, u], ⟨hx, hy, hz, hu, _⟩ =>
      have i1 := den_in hy
      have i2 := den_in hz
      have i3 := den_in hu
      obtain rfl := den_i hy
      obtain rfl := den_i hz
      obtain rfl := den_i hu
      refine (flag_call h hg).2 r w x hI hx (by simp only [U, List.map]; unfold clampv; (repeat' split) <;> assumption) fun q hb _ hF => ?_
      simp only [U, List.map, ieq_b2i]
      exact clamp_any q o _ _ _ hb w hF
  · cases h
theorem sub_case : CaseOk g 39 subS := fun args st v st' h hg => by
  unfold subS at h
  split at h
  · rename_i n o a b
    refine ⟨(flag_call (f := 0) (vs := []) h hg).1, fun r w vs hI hv => ?_⟩
    match vs, hv with
    | [x, y, z], ⟨hx, hy, hz, _⟩ =>
      obtain rfl := den_i hy
      obtain rfl := den_i hz
      refine (flag_call h hg).2 r w x hI hx (sat_i64 _) fun q hb _ hF => ?_
      simp only [U, List.map, ieq_b2i, ← Bool.or_assoc]
      exact sub_any q o _ _ hb w hF
  · cases h
theorem mul_case : CaseOk g 41 mulS := fun args st v st' h hg => by
  unfold mulS at h
  split at h
  · rename_i n o a b s
    rw [nble, Bool.cond_decide] at h
    split at h
    · rename_i hs
      refine ⟨(flag_call (f := 0) (vs := []) h hg).1, fun r w vs hI hv => ?_⟩
      match vs, hv with
      | [x, y, z, u], ⟨hx, hy, hz, hu, _⟩ =>
        obtain rfl := den_i hy
        obtain rfl := den_i hz
        obtain rfl := den_i hu
        refine (flag_call h hg).2 r w x hI hx (sat_i64 _) fun q hb _ hF => ?_
        simp only [U, List.map, ieq_b2i, ← Bool.or_assoc]
        exact mul_fx q o _ _ s hb w hF hs
    · cases h
  · cases h
theorem div_case : CaseOk g 43 divS := fun args st v st' h hg => by
  unfold divS at h
  split at h
  · rename_i n o a b s
    rw [nble, Bool.cond_decide] at h
    split at h
    · rename_i hs
      refine ⟨(flag_call (f := 0) (vs := []) h hg).1, fun r w vs hI hv => ?_⟩
      match vs, hv with
      | [x, y, z, u], ⟨hx, hy, hz, hu, _⟩ =>
        obtain rfl := den_i hy
        obtain rfl := den_i hz
        obtain rfl := den_i hu
        refine (flag_call h hg).2 r w x hI hx (divv_i64 _ _) fun q hb _ hF => ?_
        simp only [U, List.map, ieq_b2i, ← Bool.or_assoc]
        exact div_fx q o _ _ s hb w hF hs
    · cases h
  · cases h
theorem muldiv_case : CaseOk g 45 muldivS := fun args st v st' h hg => by
  unfold muldivS at h
  split at h
  · rename_i n o a b d
    refine ⟨(flag_call (f := 0) (vs := []) h hg).1, fun r w vs hI hv => ?_⟩
    match vs, hv with
    | [x, y, z, u], ⟨hx, hy, hz, hu, _⟩ =>
      obtain rfl := den_i hy
      obtain rfl := den_i hz
      obtain rfl := den_i hu
      refine (flag_call h hg).2 r w x hI hx (divv_i64 _ _) fun q hb _ hF => ?_
      simp only [U, List.map, ieq_b2i, ← Bool.or_assoc]
      exact muldiv_fx q o _ _ _ hb w hF
  · cases h
theorem absv_i64 (a : Int) : inK .i64 (absv a) := by
  unfold absv; rw [inK_i64]; (repeat' split) <;> omega
theorem abs_case : CaseOk g 48 absS := fun args st v st' h hg => by
  unfold absS at h
  split at h
  · rename_i a
    split at h
    rename_i rv st1 happ
    cases h
    obtain ⟨h1, h2, h3⟩ := app_ok happ hg
    refine ⟨h1, fun r w vs hI hv => ?_⟩
    match vs, hv with
    | [x], ⟨hx, _⟩ =>
      obtain rfl := den_i hx
      refine (abs_any (a.val g) w).mono fun e w' hp => ?_
      obtain ⟨rfl, rfl⟩ := hp
      exact ⟨r, _, rfl, (by have h3 : rv.val g = absv (a.val g) := h3; rw [← h3]; exact mk_i r (by rw [h3]; exact absv_i64 _)), hI.same h2, Ext.refl _ _⟩
  · cases h
end
end Go.Proofs.Ytahedampmjfoeaa.SX
