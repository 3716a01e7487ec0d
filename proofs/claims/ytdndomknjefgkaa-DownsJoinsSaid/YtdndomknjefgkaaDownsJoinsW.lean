/- What a sampler tells is the join of what was taken since. -/
import Derived.Test.YtdndomknjefgkaaDownsJoinsN
import Derived.Test.YtdndomknjefgkaaDownsSplitsW
namespace Go.Proofs.Ytdndomknjefgkaa.Rg
open Go.RowKit
theorem list_one8 {ops : Array Oper} {rest : List Oper} {o : Oper} {a : Act} {w : World} {Q : Exit → Act → World → Prop} (hgd : o.guard = none) (x : Operand) (ho : o.op = Op.buildSlice 39 1 #[(0, x)]) (f : Nat → Int) (hx : a.eval x = .agg (rowA 8 f))
    (h : wpList Try.prog ops Q rest (a.put o.dst (.slice (some ⟨w.heap.size, 0, none⟩) 1 1)) (w.alloc (.cells (rowA 8 f) 32))) : wpList Try.prog ops Q (o :: rest) a w :=
  wpList_plain hgd fun K hK => by
    unfold Oper.wp
    simp [execOp, ho, hx, run_one8, Result.andThen]
    exact hK _ _ h
/-- A law's memory: a flag, a sampler, a list of one's own. -/
structure Mj (w : World) (p A : Nat) (F : Nat → Int) (v : Value) (S : List Sam) (W : World) : Prop where
  m : M2 w p A F W
  r : IRow W v S
  o : ∀ b, b ∈ own v → w.heap.size ≤ b ∧ b ≠ p ∧ b ≠ A
theorem Mj.touch {w W W2 : World} {p A : Nat} {F G : Nat → Int} {v : Value} {S : List Sam} (h : Mj w p A F v S W) (m : M2 w p A G W2) (t : Tch [p, A] W W2) : Mj w p A G v S W2 :=
  ⟨m, h.r.keep t (fun q hq => by have := h.o q hq; simp; omega), h.o⟩
theorem Mj.flag {w W W2 : World} {p A : Nat} {F : Nat → Int} {v : Value} {S : List Sam} (h : Mj w p A F v S W) (k : FlW p 0 false W W2) : Mj w p A F v S W2 :=
  ⟨h.m.flag k, h.r.keep (Tch.flag k) (fun q hq => by have := h.o q hq; simp; omega), h.o⟩
theorem Mj.box {w W : World} {p A : Nat} {F : Nat → Int} {v : Value} {S : List Sam} (h : Mj w p A F v S W) (o : Obj) (r : Array Value) : Mj w p A F v S ((W.alloc o).setRow W.heap.size r) :=
  ⟨h.m.box o r, h.r.keep (((Tch.refl [W.heap.size] W).alloc o).row (.inl (by simp)) r) (fun q hq => by have := h.r.lt q hq; simp; omega), h.o⟩
theorem mj_nil {w W : World} {p A : Nat} {F : Nat → Int} (m : M2 w p A F W) : Mj w p A F (.slice none 0 0) [] W := ⟨m, .nil, by simp [own]⟩
/-- A sample joins the list. -/
theorem Mj.app {w W : World} {p A : Nat} {F : Nat → Int} {v : Value} {S : List Sam} (h : Mj w p A F v S W) (y : Sam) (hS : S.length < 900) :
    ∃ a2 c2 W2, (Builtin.append_ #[39, 39] 39 #[v, .slice (some ⟨W.heap.size, 0, none⟩) 1 1]).run Try.prog (W.alloc (.cells (rowA 8 (fn y)) 32)) = .ok (.slice a2 (S.length + 1) c2) W2 ∧ Mj w p A F (.slice a2 (S.length + 1) c2) (S ++ [y]) W2 ∧ ∀ b, b < W.heap.size → b ∉ own v → W2.heap[b]? = W.heap[b]? := by
  have t0 : Tch [] W (W.alloc (.cells (rowA 8 (fn y)) 32)) := (Tch.refl _ _).alloc _
  have hr := h.r.keep t0 (by simp)
  have hb : Blk (W.alloc (.cells (rowA 8 (fn y)) 32)) W.heap.size (rowA 8 (fn y)) 32 := Blk.made _ _ _ rfl
  obtain ⟨a2, c2, W2, h1, h2, h3, h4⟩ := app_any8 _ 39 v S [y] (some ⟨W.heap.size, 0, none⟩) 1 hr (.inr ⟨_, _, rfl, hb.ints.congr fun j hj => by
    have := flk_at 8 [y] 0 j (by simpa using hj)
    rw [Nat.mul_zero, Nat.zero_add] at this
    rw [this]; rfl⟩) (by simp; omega)
  have e : (S ++ [y]).length = S.length + 1 := by simp
  rw [e] at h1 h2 h4
  have m1 := h.m.alloc (.cells (rowA 8 (fn y)) 32)
  have hp : p ∉ own v := fun hm => (h.o p hm).2.1 rfl
  have hA : A ∉ own v := fun hm => (h.o A hm).2.2 rfl
  have hlo : ∀ q, q ∈ own v → w.heap.size ≤ q := fun q hq => (h.o q hq).1
  have hkeep : ∀ b, b < W.heap.size → b ∉ own v → W2.heap[b]? = W.heap[b]? := fun b hb hn => (h3.block b (by simp; omega) hn).trans (t0.block b hb (by simp))
  refine ⟨a2, c2, W2, h1, ⟨⟨⟨by rw [h3.cell m1.f.lt hp]; exact m1.f.cell, by rw [frozen_same (h3.block p m1.f.lt hp)]; exact m1.f.free, Nat.lt_of_lt_of_le m1.f.lt h3.size⟩, h3.blk m1.a hA, h3.blk m1.a hA, m1.K.trans (h3.below m1.K.size hlo), m1.d⟩, h2, fun q hq => ?_⟩, hkeep⟩
  rcases h4 q hq with h5 | h5
  · exact h.o q h5
  · have h6 := m1.f.lt
    have h7 := m1.a.lt
    have h8 := m1.K.size
    omega
theorem Mj.arg {w W : World} {p A : Nat} {F : Nat → Int} {a : Option Addr} {n c : Nat} {S : List Sam} (h : Mj w p A F (.slice a n c) S W) (hn : S.length = n) (hs : ∀ y ∈ S, y.length = 8) (hk : n ≤ 1000) : Arg 8 W a n S ∧ ∀ g o', a = some ⟨g, o', none⟩ → g ≠ p := by
  subst hn
  refine ⟨⟨rfl, hs, by omega, ?_⟩, fun g o' e => ?_⟩
  · rcases h.r.inv with ⟨h1, h2⟩ | ⟨g, cap, F', h1, hB, hc, hcm, hF⟩
    · subst h2; exact .inl rfl
    · injection h1 with h1 _ _
      subst h1
      refine .inr ⟨g, 0, rfl, hB.lt, ⟨fun i hi => ?_⟩⟩
      rw [Nat.zero_add, hB.cell, rowA_get _ (by omega), hF i hi]
  · subst e
    exact (h.o g (by simp [own])).2.1
set_option maxRecDepth 100000 in
set_option maxHeartbeats 32000000 in
theorem djoins_walk (a : Int) (ad : Option Addr) (n c : Nat) (l : List Sam) (w : World) (hl : Arg 8 w ad n l) : Calls Try.prog 5 #[.int .i64 a, .slice ad n c] w fun e w' => e = .returned (.bool true) ∧ Below w.heap.size w w' := by
  have hbig := hl.big
  go_enter Try.func5, Try.ntmps5
  go_wp2_with fail
  refine (dawake_any w).mono ?_
  rintro e w0 ⟨rfl, k0⟩
  have k0 := Lib.hid k0
  have HL := Lib.hid hl
  clear hl
  by_cases ha1 : a < 1000
  · go_wp2_with fail
    refine (dnew_bad a w0 (.inl ha1)).mono ?_
    rintro e w1 ⟨rfl, rfl⟩
    go_wp2_with fail
    go_ret
    exact ⟨rfl, k0.out⟩
  by_cases ha2 : 100000 < a
  · go_wp2_with fail
    refine (dnew_bad a w0 (.inr ha2)).mono ?_
    rintro e w1 ⟨rfl, rfl⟩
    go_wp2_with fail
    go_ret
    exact ⟨rfl, k0.out⟩
  go_wp2_with fail
  refine (dnew_any a w0 (by omega) (by omega)).mono ?_
  rintro e w1 ⟨rfl, hb1, k1⟩
  have k1 := Lib.hid k1
  have hb1 := Lib.hid hb1
  by_cases hn : n ≤ 100
  · have e1 : ¬ (100 : Int) < (n : Int) := by omega
    have mk : M2 w w1.heap.size w0.heap.size (newS a) (w1.alloc (.cells #[.bool false] 29)) := by
      have h0 := k0.out.size
      have h1 := k1.out.size
      have h2 := hb1.out.lt
      exact ⟨Fl.made _ _ _, hb1.out.alloc _, hb1.out.alloc _, (k0.out.trans (k1.out.mono k0.out.size)).alloc (by omega) _, by omega, by omega, .inr ⟨rfl, rfl, rfl⟩, by omega, h0, h0⟩
    have m0 := Lib.hid (mj_nil mk)
    clear mk hb1 k1
    go_wp2_with fail
    generalize w1.alloc _ = X0 at *
    generalize hp : w1.heap.size = p at *
    generalize hA : w0.heap.size = A at *
    go_loopw [8, 9, 10, 11] (fun v8 v9 v10 i wr => ∃ (k : Nat) (S : List Sam) (tk : Int) (a8 : Option Addr) (c8 : Nat), k ≤ n ∧ i = .int .i64 k ∧ v8 = .slice a8 S.length c8 ∧ v9 = .int .i64 tk ∧ v10 = .int .i64 (tk - sput (newS a) (l.take k) 3) ∧ (0 ≤ tk ∧ tk ≤ 100000 * k) ∧ Hid (Sn (sput (newS a) (l.take k)) S k) ∧ Hid (Mj w p A (sput (newS a) (l.take k)) (.slice a8 S.length c8) S wr)) (fun _ _ _ i _ => n - (intOf i).toNat)
    case atStart => exact ⟨0, [], 0, none, 0, Nat.zero_le _, rfl, rfl, rfl, rfl, ⟨by omega, by omega⟩, Lib.hid (Sn.new a), m0⟩
    case round =>
      clear m0
      obtain ⟨k, S, tk, a8, c8, hk, rfl, rfl, rfl, rfl, htk, hS, m⟩ := hrel
      have hk0 : (0 : Int) ≤ (k : Int) := by omega
      have hbd : Bd k (sput (newS a) (l.take k)) := by
        have := (Bd.new a).sput (l.take k) 0 (by omega)
        rw [Int.zero_add, List.length_take, Nat.min_eq_left (by rw [HL.out.len]; exact hk)] at this
        exact this
      have HB := Lib.hid hbd
      have HTK := Lib.hid htk
      clear hbd htk
      by_cases hlt : k < n
      · have hltI : (k : Int) < (n : Int) := by omega
        obtain ⟨gg, oo, y, rfl, hy, hy8, hgw, hI0⟩ := HL.out.one hlt
        have hI := hI0.below m.out.m.K hgw
        have HI0 := Lib.hid hI0
        clear hI0
        have HY := Lib.hid hy
        clear hy
        have hsn : sput (newS a) (l.take (k + 1)) = nextF (sput (newS a) (l.take k)) (fn y) := by rw [take_snoc l k (by rw [HL.out.len]; exact hlt), sput_snoc, ← HY.out]
        have HS := Lib.hid hsn
        clear hsn
        generalize hF : sput (newS a) (l.take k) = F at *
        clear hF
        go_upto_region 14 with (first
          | ((with_reducible refine mid_load 32 (.tmp 44) ?_ ?_ gg (oo + k * 8) 8 (fn y) ?_ hI _ Try.underlying32 ?_ imuSize ?_); rfl; rfl; rfl; rfl)
          | (go_at_call 10; refine (m2_put m.out.m HB.out (by omega) (fn y) _ rfl _ _ _ rfl rfl rfl).mono ?_; rintro e w3 ⟨rfl, m3, t3⟩; have hZ : Blk (w3.alloc (.cells #[.int .i64 0, .int .i64 0, .int .i64 0, .int .i64 0, .int .i64 0, .int .i64 0, .int .i64 0, .int .i64 0] 32)) w3.heap.size (rowA 8 fun _ => 0) 32 := Blk.made _ _ _ rfl)
          | ((with_reducible refine row_store 32 (.tmp 12) (.tmp 47) ?_ ?_ w3.heap.size 8 (toldR F (fn y)) (fun _ => 0) 32 ?_ ?_ hZ imuSize ?_); rfl; rfl; rfl; rfl))
        have HZp := Lib.hid (Nat.ne_of_gt m3.f.lt)
        have hvz : ∀ q, q ∈ own (.slice a8 S.length c8) → q < w3.heap.size := fun q hq => Nat.lt_of_lt_of_le (m.out.r.lt q hq) t3.size
        have HV := Lib.hid hvz
        clear hvz
        have m4 := Lib.hid ((m.out.touch m3 t3).box (.cells #[.int .i64 0, .int .i64 0, .int .i64 0, .int .i64 0, .int .i64 0, .int .i64 0, .int .i64 0, .int .i64 0] 32) (rowA 8 (toldR F (fn y))))
        have z4 := hZ.setRow (d := rowA 8 (toldR F (fn y)))
        clear hZ m3 t3 hI m
        generalize World.setRow _ w3.heap.size _ = X4 at *
        generalize w3.heap.size = z at *
        cases htk : took F (fn y)
        · have hE : errI F (fn y) = 1 := by unfold errI; rw [htk]; rfl
          have HT := Lib.hid htk
          clear htk z4
          go_wp2_with fail
          go_roundw
          case rel =>
            refine ⟨k + 1, S, tk, a8, c8, by omega, by go_num, rfl, rfl, ?_, by have := HTK.out; omega, ?_, ?_⟩
            · rw [HS.out, nextF_no HT.out]
            · rw [HS.out]; exact Lib.hid (hS.out.skip HT.out)
            · rw [HS.out]; exact m4
          case measure => simp [intOf]; omega
        · have hE : errI F (fn y) = 0 := by unfold errI; rw [htk]; rfl
          have hok : okI (fn y) = true := by unfold took at htk; rw [Bool.and_eq_true] at htk; exact htk.1
          have OB := Lib.hid (okI_bd hok)
          have HT := Lib.hid htk
          have hS9 : S.length < 900 := by have := hS.out.len; omega
          obtain ⟨a2, c2, W2, hr, m5, hkp⟩ := m4.out.app y hS9
          have hI4 := HI0.out.below m4.out.m.K hgw
          clear htk hok
          have zl := z4.lt
          go_upto_region 16 with (first
            | ((with_reducible refine mid_load 32 (.tmp 55) ?_ ?_ gg (oo + k * 8) 8 (fn y) ?_ hI4 _ Try.underlying32 ?_ imuSize ?_); rfl; rfl; rfl; rfl)
            | ((with_reducible refine list_one8 ?_ (.tmp 56) ?_ (fn y) ?_ ?_); rfl; rfl; rfl)
            | (at_builtin; refine list_appR _ rfl _ _ 39 39 rfl _ _ rfl rfl hr ?_))
          have m5 := Lib.hid m5
          clear hr hI4 m4
          have hN3 := next3 F (fn y) HT.out
          have z5 : Blk W2 z (rowA 8 (toldR F (fn y))) 32 := (hkp z z4.lt (fun hm => Nat.lt_irrefl _ (HV.out z hm))).trans z4
          clear hkp z4
          have e1 : W2.cell? ⟨gg, oo + k * 8 + 1, none⟩ = some (.int .i64 (fn y 1)) := (HI0.out.below m5.out.m.K hgw).at_ 1 (by omega)
          have hw1 : IntKind.i64.wrap (tk + fn y 1) = tk + fn y 1 := by have := HTK.out; have := OB.out; rw [IntKind.wrap_i64]; omega
          go_upto_region 17 with (fail)
          clear e1 hw1
          have hlen : (S ++ [y]).length = S.length + 1 := by simp
          have HLn := Lib.hid hlen
          clear hlen
          have HN3 := Lib.hid hN3
          clear hN3
          cases htd : told F (fn y)
          · have HD := Lib.hid htd
            have hst := hS.out.stay HT.out hy8 htd
            clear htd
            have HST := Lib.hid hst
            clear hst
            go_wp2_with fail
            go_roundw
            case rel =>
              refine ⟨k + 1, S ++ [y], tk + fn y 1, a2, c2, by omega, by go_num, by rw [HLn.out], rfl, ?_, by have := HTK.out; have := OB.out; omega, ?_, ?_⟩
              · rw [HS.out, HN3.out, HD.out]; congr 1; simp; omega
              · rw [HS.out]; exact HST
              · rw [HS.out, HLn.out]; exact m5
            case measure => simp [intOf]; omega
          · have HD := Lib.hid htd
            have hrows := Lib.hid (hS.out.rows HT.out htd)
            have hnn : ∀ x ∈ S ++ [y], x.length = 8 := fun x hx => by
              rcases List.mem_append.1 hx with h | h
              · exact hS.out.nine x h
              · simp at h; subst h; exact hy8
            have hwn : whole F (fn y) 1 = F 3 + fn y 1 := rfl
            have htr : toldR F (fn y) 1 = F 3 + fn y 1 := by unfold toldR; rw [htd]; rfl
            have HW := Lib.hid htr
            have hst := Lib.hid (sn_tell k HT.out htd)
            obtain ⟨hargs, hpa⟩ := m5.out.arg HLn.out hnn (by omega)
            have HAr := Lib.hid (And.intro hargs hpa)
            clear htd hnn hwn htr hargs hpa
            go_upto_region 19 with (first
              | (go_at_call 11; refine (join_any p 0 a2 (S.length + 1) c2 (S ++ [y]) false _ m5.out.m.f HAr.out.1 HAr.out.2 (by omega)).mono ?_; rw [hrows.out.1, hrows.out.2]; rintro e w7 ⟨rfl, k7⟩; have hZ7 : Blk (w7.alloc (.cells #[.int .i64 0, .int .i64 0, .int .i64 0, .int .i64 0, .int .i64 0, .int .i64 0, .int .i64 0, .int .i64 0] 32)) w7.heap.size (rowA 8 fun _ => 0) 32 := Blk.made _ _ _ rfl)
              | ((with_reducible refine row_store 32 (.tmp 15) (.tmp 71) ?_ ?_ w7.heap.size 8 (toldR F (fn y)) (fun _ => 0) 32 ?_ ?_ hZ7 imuSize ?_); rfl; rfl; rfl; rfl))
            have hzp : z ≠ p := HZp.out
            have z7 := z5.flag hzp k7
            have l7 := z7.lt
            have m7 := Lib.hid (m5.out.m.flag k7 |>.box (.cells #[.int .i64 0, .int .i64 0, .int .i64 0, .int .i64 0, .int .i64 0, .int .i64 0, .int .i64 0, .int .i64 0] 32) (rowA 8 (toldR F (fn y))))
            have z8 := (z7.alloc (.cells #[.int .i64 0, .int .i64 0, .int .i64 0, .int .i64 0, .int .i64 0, .int .i64 0, .int .i64 0, .int .i64 0] 32)).otherRow (b := w7.heap.size) (d := rowA 8 (toldR F (fn y))) (by omega)
            have y8 := hZ7.setRow (d := rowA 8 (toldR F (fn y)))
            clear z5 k7 hZ7 z7 l7 hzp m5 HAr
            generalize World.setRow _ w7.heap.size _ = X8 at *
            generalize w7.heap.size = z2 at *
            obtain ⟨c0, c1, c2', c3, c4, c5, c6, c7⟩ := cells8 z8
            obtain ⟨d0, d1, d2, d3, d4, d5, d6, d7⟩ := cells8 y8
            have hNe : ∀ W, Sem.run Try.prog (binOp .neq 32 (.agg (L8 (toldR F (fn y)))) (.agg (L8 (toldR F (fn y))))) W = .ok (.bool false) W := fun W => by
              have := neq_row imuFlat (toldR F (fn y)) (toldR F (fn y)) W
              rw [eqB_same] at this
              exact this
            have hGd : ∀ op x' y' W, Sem.run Try.prog (eqGuard op 32 x' y' (.agg (L8 (toldR F (fn y)))) (.agg (L8 (toldR F (fn y))))) W = .ok () W := fun op x' y' W => guard_row imuFlat (toldR F (fn y)) (toldR F (fn y)) W op x' y'
            have hw1 : IntKind.i64.wrap (tk - F 3 + toldR F (fn y) 1) = tk - F 3 + toldR F (fn y) 1 := by
              have := HTK.out
              have := OB.out
              rw [HW.out, IntKind.wrap_i64]; omega
            clear z8 y8
            go_wp2_with fail
            go_roundw
            case rel =>
              refine ⟨k + 1, [], tk + fn y 1, none, 0, by omega, by go_num, rfl, rfl, ?_, by have := HTK.out; have := OB.out; omega, ?_, ?_⟩
              · rw [HS.out, HN3.out, HD.out]
                have := HW.out
                congr 1
                simp
                omega
              · rw [HS.out]; exact hst
              · rw [HS.out]; exact Lib.hid (mj_nil m7.out)
            case measure => simp [intOf]; omega
      · obtain rfl : k = n := by omega
        generalize hF : sput (newS a) (l.take k) = F at *
        have hw1 : IntKind.i64.wrap (tk - F 3 + F 3) = tk := by
          have := HTK.out
          rw [IntKind.wrap_i64]; omega
        have hw2 : wrap64 tk = tk := by
          have := HTK.out
          unfold wrap64
          omega
        go_wp2_with fail
        refine (m.out.m.pending (F 3) rfl).mono ?_
        rintro e w9 ⟨rfl, rfl⟩
        go_wp2_with fail
        go_ret
        exact ⟨rfl, m.out.m.K⟩
  · have e1 : (100 : Int) < (n : Int) := by omega
    go_wp2_with fail
    go_ret
    exact ⟨rfl, k0.out.trans (k1.out.mono k0.out.size)⟩
end Go.Proofs.Ytdndomknjefgkaa.Rg
