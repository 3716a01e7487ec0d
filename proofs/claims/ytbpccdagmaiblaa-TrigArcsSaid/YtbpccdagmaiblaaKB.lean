/- Angles: known calls. -/
import Derived.Test.YtbpccdagmaiblaaAwakes
import Derived.Test.YtbpccdagmaiblaaKA
import Derived.Test.YtbpccdagmaiblaaSxW
import Derived.Test.YtbpccdagmaiblaaSxY
import Derived.Test.YtbpccdagmaiblaaSxZ

/- SlopeR -/
namespace Go.Proofs.Ytbpccdagmaiblaa.SX.slope
open Go SX
noncomputable section
def facts : List (Bool × A × A × Bool) := [(false, .x 2, .k 0, false), (false, .k 1073741824, .x 2, false)]
def ds : Defs := [(58, .sel, [.x 3, .x 32, .x 57]),
  (57, .u 2, [.x 2, .x 56, .k 30]),
  (56, .lin 1073741824 [1], [.x 55]),
  (55, .u 2, [.x 33, .x 54, .k 30]),
  (54, .lin (-357913941) [1], [.x 53]),
  (53, .u 2, [.x 33, .x 52, .k 30]),
  (52, .lin 214748365 [1], [.x 51]),
  (51, .u 2, [.x 33, .x 50, .k 30]),
  (50, .lin (-153391689) [1], [.x 49]),
  (49, .u 2, [.x 33, .x 48, .k 30]),
  (48, .lin 119304647 [1], [.x 47]),
  (47, .u 2, [.x 33, .x 46, .k 30]),
  (46, .lin (-97612893) [1], [.x 45]),
  (45, .u 2, [.x 33, .x 44, .k 30]),
  (44, .lin 82595525 [1], [.x 43]),
  (43, .u 2, [.x 33, .x 42, .k 30]),
  (42, .lin (-71582788) [1], [.x 41]),
  (41, .u 2, [.x 33, .x 40, .k 30]),
  (40, .lin 63161284 [1], [.x 39]),
  (39, .u 2, [.x 33, .x 38, .k 30]),
  (38, .lin (-56512728) [1], [.x 37]),
  (37, .u 2, [.x 33, .x 36, .k 30]),
  (36, .lin 51130563 [(-1)], [.x 34]),
  (35, .lin 0 [(-1)], [.x 34]),
  (34, .u 2, [.x 33, .k 46684427, .k 30]),
  (33, .u 2, [.x 2, .x 2, .k 30]),
  (32, .lin 843314857 [1], [.x 31]),
  (31, .u 2, [.x 6, .x 30, .k 30]),
  (30, .lin 1073741824 [1], [.x 29]),
  (29, .u 2, [.x 7, .x 28, .k 30]),
  (28, .lin (-357913941) [1], [.x 27]),
  (27, .u 2, [.x 7, .x 26, .k 30]),
  (26, .lin 214748365 [1], [.x 25]),
  (25, .u 2, [.x 7, .x 24, .k 30]),
  (24, .lin (-153391689) [1], [.x 23]),
  (23, .u 2, [.x 7, .x 22, .k 30]),
  (22, .lin 119304647 [1], [.x 21]),
  (21, .u 2, [.x 7, .x 20, .k 30]),
  (20, .lin (-97612893) [1], [.x 19]),
  (19, .u 2, [.x 7, .x 18, .k 30]),
  (18, .lin 82595525 [1], [.x 17]),
  (17, .u 2, [.x 7, .x 16, .k 30]),
  (16, .lin (-71582788) [1], [.x 15]),
  (15, .u 2, [.x 7, .x 14, .k 30]),
  (14, .lin 63161284 [1], [.x 13]),
  (13, .u 2, [.x 7, .x 12, .k 30]),
  (12, .lin (-56512728) [1], [.x 11]),
  (11, .u 2, [.x 7, .x 10, .k 30]),
  (10, .lin 51130563 [(-1)], [.x 8]),
  (9, .lin 0 [(-1)], [.x 8]),
  (8, .u 2, [.x 7, .k 46684427, .k 30]),
  (7, .u 2, [.x 6, .x 6, .k 30]),
  (6, .u 4, [.x 4, .x 5, .k 30]),
  (5, .lin 1073741824 [1], [.x 2]),
  (4, .lin (-1073741824) [1], [.x 2]),
  (3, .cmp .lss, [.k 444758426, .x 2]),
  (2, .conv .i64, [.x 1])]
def rv : A := (.x 58)
def hx : A := (.x 0)
set_option maxRecDepth 1000000 in
theorem ran : outC 25 2 facts ds rv hx (runPol lk U X sums (fun f => Nat.beq f 55) (fun _ => 0) 100000 40 55 (startC 25 [some .i64] facts).1 (startC 25 [some .i64] facts).2) = true := by kernel_rfl
end
end Go.Proofs.Ytbpccdagmaiblaa.SX.slope

/- TrigR -/
namespace Go.Proofs.Ytbpccdagmaiblaa.SX
open Go Go.RowKit
noncomputable section
theorem slopeF_i64 (az : List Int) : inK .i64 (U 40 az) := by
  refine inK_i64.2 ?_
  unfold U
  simp only
  split
  · have := slopeF_bd ‹Int›
    omega
  · omega
theorem slope_case {g : Sg} : CaseOk g 55 (own0S 25 [some (0, 1073741824)] 40) :=
  own0_case slopeF_i64 fun az hbs hk q hb w hw => by
    match az, hbs with
    | [a], ⟨⟨l1, l2⟩, _⟩ =>
    have ha : inK .i64 a := hk a (List.mem_cons_self ..)
    obtain ⟨g, hga, hE, hc⟩ := fun_call namesOk mixed (fun g => sums_ok g) [a] slope.ran hb (fun g hj hE => by
      have e1 : g 1 = a := hj 1 (by simp)
      have e2 : g 2 = wrapF .i64 (g 1) := eqs_at hE 56 _ rfl
      rw [e1, conv64 ha] at e2
      intro c hc
      simp only [slope.facts, List.mem_cons, List.not_mem_nil, or_false] at hc
      rcases hc with rfl | rfl
      · show (!ile 0 (g 2)) = false
        rw [e2, ile_iff, decide_eq_true (by omega)]; rfl
      · show (!ile (g 2) 1073741824) = false
        rw [e2, ile_iff, decide_eq_true (by omega)]; rfl) hk q w hw
    have e0 : g 0 = b2i hb := hga 0 (by simp)
    have e1 : g 1 = a := hga 1 (by simp)
    have f58 : g 58 = bif ieq (g 3) 1 then g 32 else g 57 := eqs_at hE 0 _ rfl
    have f57 : g 57 = mq (g 2) (g 56) := eqs_at hE 1 _ rfl
    have f56 : g 56 = (1) * g 55 + (1073741824) := eqs_at hE 2 _ rfl
    have f55 : g 55 = mq (g 33) (g 54) := eqs_at hE 3 _ rfl
    have f54 : g 54 = (1) * g 53 + (-357913941) := eqs_at hE 4 _ rfl
    have f53 : g 53 = mq (g 33) (g 52) := eqs_at hE 5 _ rfl
    have f52 : g 52 = (1) * g 51 + (214748365) := eqs_at hE 6 _ rfl
    have f51 : g 51 = mq (g 33) (g 50) := eqs_at hE 7 _ rfl
    have f50 : g 50 = (1) * g 49 + (-153391689) := eqs_at hE 8 _ rfl
    have f49 : g 49 = mq (g 33) (g 48) := eqs_at hE 9 _ rfl
    have f48 : g 48 = (1) * g 47 + (119304647) := eqs_at hE 10 _ rfl
    have f47 : g 47 = mq (g 33) (g 46) := eqs_at hE 11 _ rfl
    have f46 : g 46 = (1) * g 45 + (-97612893) := eqs_at hE 12 _ rfl
    have f45 : g 45 = mq (g 33) (g 44) := eqs_at hE 13 _ rfl
    have f44 : g 44 = (1) * g 43 + (82595525) := eqs_at hE 14 _ rfl
    have f43 : g 43 = mq (g 33) (g 42) := eqs_at hE 15 _ rfl
    have f42 : g 42 = (1) * g 41 + (-71582788) := eqs_at hE 16 _ rfl
    have f41 : g 41 = mq (g 33) (g 40) := eqs_at hE 17 _ rfl
    have f40 : g 40 = (1) * g 39 + (63161284) := eqs_at hE 18 _ rfl
    have f39 : g 39 = mq (g 33) (g 38) := eqs_at hE 19 _ rfl
    have f38 : g 38 = (1) * g 37 + (-56512728) := eqs_at hE 20 _ rfl
    have f37 : g 37 = mq (g 33) (g 36) := eqs_at hE 21 _ rfl
    have f36 : g 36 = (-1) * g 34 + (51130563) := eqs_at hE 22 _ rfl
    have f35 : g 35 = (-1) * g 34 + (0) := eqs_at hE 23 _ rfl
    have f34 : g 34 = mq (g 33) ((46684427)) := eqs_at hE 24 _ rfl
    have f33 : g 33 = mq (g 2) (g 2) := eqs_at hE 25 _ rfl
    have f32 : g 32 = (1) * g 31 + (843314857) := eqs_at hE 26 _ rfl
    have f31 : g 31 = mq (g 6) (g 30) := eqs_at hE 27 _ rfl
    have f30 : g 30 = (1) * g 29 + (1073741824) := eqs_at hE 28 _ rfl
    have f29 : g 29 = mq (g 7) (g 28) := eqs_at hE 29 _ rfl
    have f28 : g 28 = (1) * g 27 + (-357913941) := eqs_at hE 30 _ rfl
    have f27 : g 27 = mq (g 7) (g 26) := eqs_at hE 31 _ rfl
    have f26 : g 26 = (1) * g 25 + (214748365) := eqs_at hE 32 _ rfl
    have f25 : g 25 = mq (g 7) (g 24) := eqs_at hE 33 _ rfl
    have f24 : g 24 = (1) * g 23 + (-153391689) := eqs_at hE 34 _ rfl
    have f23 : g 23 = mq (g 7) (g 22) := eqs_at hE 35 _ rfl
    have f22 : g 22 = (1) * g 21 + (119304647) := eqs_at hE 36 _ rfl
    have f21 : g 21 = mq (g 7) (g 20) := eqs_at hE 37 _ rfl
    have f20 : g 20 = (1) * g 19 + (-97612893) := eqs_at hE 38 _ rfl
    have f19 : g 19 = mq (g 7) (g 18) := eqs_at hE 39 _ rfl
    have f18 : g 18 = (1) * g 17 + (82595525) := eqs_at hE 40 _ rfl
    have f17 : g 17 = mq (g 7) (g 16) := eqs_at hE 41 _ rfl
    have f16 : g 16 = (1) * g 15 + (-71582788) := eqs_at hE 42 _ rfl
    have f15 : g 15 = mq (g 7) (g 14) := eqs_at hE 43 _ rfl
    have f14 : g 14 = (1) * g 13 + (63161284) := eqs_at hE 44 _ rfl
    have f13 : g 13 = mq (g 7) (g 12) := eqs_at hE 45 _ rfl
    have f12 : g 12 = (1) * g 11 + (-56512728) := eqs_at hE 46 _ rfl
    have f11 : g 11 = mq (g 7) (g 10) := eqs_at hE 47 _ rfl
    have f10 : g 10 = (-1) * g 8 + (51130563) := eqs_at hE 48 _ rfl
    have f9 : g 9 = (-1) * g 8 + (0) := eqs_at hE 49 _ rfl
    have f8 : g 8 = mq (g 7) ((46684427)) := eqs_at hE 50 _ rfl
    have f7 : g 7 = mq (g 6) (g 6) := eqs_at hE 51 _ rfl
    have f6 : g 6 = divv (satv (g 4) * 2 ^ 30) (satv (g 5)) := eqs_at hE 52 _ rfl
    have f5 : g 5 = (1) * g 2 + (1073741824) := eqs_at hE 53 _ rfl
    have f4 : g 4 = (1) * g 2 + (-1073741824) := eqs_at hE 54 _ rfl
    have f3 : g 3 = b2i (cmpF .lss ((444758426)) (g 2)) := eqs_at hE 55 _ rfl
    have f2 : g 2 = wrapF .i64 (g 1) := eqs_at hE 56 _ rfl
    rw [e1, conv64 ha] at f2
    refine hc.mono fun e w' hp => ?_
    obtain ⟨rfl, _, hF⟩ := hp
    have hx : ieq (slope.hx.val g) 1 = hb := by
      show ieq (g 0) 1 = hb
      rw [e0, ieq_b2i]
    rw [hx] at hF
    refine ⟨?_, hF⟩
    congr 2
    show g 58 = slopeF a
    rw [f2] at f57 f33 f5 f4 f3
    simp only [f58, f57, f56, f55, f54, f53, f52, f51, f50, f49, f48, f47, f46, f45, f44, f43, f42, f41, f40, f39, f38, f37, f36, f34, f33, f32, f31, f30, f29, f28, f27, f26, f25, f24, f23, f22, f21, f20, f19, f18, f17, f16, f15, f14, f13, f12, f11, f10, f8, f7, f6, f5, f4, f3, ieq_b2i, lssF, slopeF, atanS]
    simp only [Int.one_mul, Int.neg_mul, Int.sub_eq_add_neg, Int.add_comm, Bool.cond_decide]
def sumsT3 : Sum := orS (one 55 (own0S 25 [some (0, 1073741824)] 40)) sums
theorem sumsT3_ok (g : Sg) : CallOk Try.prog U g sumsT3 := orS_ok (one_ok slope_case) (sums_ok g)
end
end Go.Proofs.Ytbpccdagmaiblaa.SX

/- AtanR -/
namespace Go.Proofs.Ytbpccdagmaiblaa.SX.atan
open Go SX
noncomputable section
def facts : List (Bool × A × A × Bool) := []
def ds : Defs := [(82, .sel, [.x 11, .x 10, .x 80]),
  (81, .sel, [.x 11, .x 24, .x 79]),
  (80, .sel, [.x 13, .x 57, .x 78]),
  (79, .sel, [.x 13, .x 56, .x 77]),
  (78, .sel, [.x 14, .x 67, .x 76]),
  (77, .sel, [.x 14, .x 66, .x 75]),
  (76, .sel, [.x 22, .x 70, .x 74]),
  (75, .sel, [.x 22, .x 72, .x 21]),
  (74, .sel, [.x 10, .k 1, .x 73]),
  (73, .u 5, [.x 5, .x 8, .k 30]),
  (72, .lin 1686629713 [(-1)], [.x 71]),
  (71, .u 40, [.x 68]),
  (70, .sel, [.x 10, .k 1, .x 69]),
  (69, .u 5, [.x 8, .x 5, .k 30]),
  (68, .u 4, [.x 8, .x 5, .k 30]),
  (67, .sel, [.x 18, .x 60, .x 65]),
  (66, .sel, [.x 18, .x 63, .x 19]),
  (65, .sel, [.x 10, .k 1, .x 64]),
  (64, .u 5, [.x 5, .x 15, .k 30]),
  (63, .lin 1686629713 [1], [.x 61]),
  (62, .lin 1686629713 [(-1)], [.x 61]),
  (61, .u 40, [.x 58]),
  (60, .sel, [.x 10, .k 1, .x 59]),
  (59, .u 5, [.x 15, .x 5, .k 30]),
  (58, .u 4, [.x 15, .x 5, .k 30]),
  (57, .sel, [.x 14, .x 41, .x 55]),
  (56, .sel, [.x 14, .x 40, .x 54]),
  (55, .sel, [.x 42, .x 45, .x 51]),
  (54, .sel, [.x 42, .x 48, .x 53]),
  (53, .lin 0 [(-1)], [.x 52]),
  (52, .u 40, [.x 49]),
  (51, .sel, [.x 10, .k 1, .x 50]),
  (50, .u 5, [.x 25, .x 8, .k 30]),
  (49, .u 4, [.x 25, .x 8, .k 30]),
  (48, .lin (-1686629713) [1], [.x 46]),
  (47, .lin 1686629713 [(-1)], [.x 46]),
  (46, .u 40, [.x 43]),
  (45, .sel, [.x 10, .k 1, .x 44]),
  (44, .u 5, [.x 8, .x 25, .k 30]),
  (43, .u 4, [.x 8, .x 25, .k 30]),
  (42, .cmp .lss, [.x 8, .x 25]),
  (41, .sel, [.x 26, .x 29, .x 36]),
  (40, .sel, [.x 26, .x 33, .x 39]),
  (39, .lin (-3373259426) [1], [.x 37]),
  (38, .lin 3373259426 [(-1)], [.x 37]),
  (37, .u 40, [.x 34]),
  (36, .sel, [.x 10, .k 1, .x 35]),
  (35, .u 5, [.x 25, .x 15, .k 30]),
  (34, .u 4, [.x 25, .x 15, .k 30]),
  (33, .lin (-1686629713) [(-1)], [.x 30]),
  (32, .lin 1686629713 [1], [.x 30]),
  (31, .lin 1686629713 [(-1)], [.x 30]),
  (30, .u 40, [.x 27]),
  (29, .sel, [.x 10, .k 1, .x 28]),
  (28, .u 5, [.x 15, .x 25, .k 30]),
  (27, .u 4, [.x 15, .x 25, .k 30]),
  (26, .cmp .lss, [.x 15, .x 25]),
  (25, .lin 0 [(-1)], [.x 5]),
  (24, .sel, [.x 12, .k 0, .x 23]),
  (23, .sel, [.x 14, .x 19, .x 21]),
  (22, .cmp .lss, [.x 8, .x 5]),
  (21, .u 40, [.x 20]),
  (20, .u 4, [.x 5, .x 8, .k 30]),
  (19, .lin 3373259426 [(-1)], [.x 17]),
  (18, .cmp .lss, [.x 15, .x 5]),
  (17, .u 40, [.x 16]),
  (16, .u 4, [.x 5, .x 15, .k 30]),
  (15, .lin 0 [(-1)], [.x 8]),
  (14, .cmp .lss, [.x 8, .k 0]),
  (13, .cmp .lss, [.x 5, .k 0]),
  (12, .cmp .eql, [.x 8, .k 0]),
  (11, .cmp .eql, [.x 5, .k 0]),
  (10, .sel, [.x 7, .k 1, .x 9]),
  (9, .u 1, [.x 4]),
  (8, .u 0, [.x 4]),
  (7, .sel, [.x 0, .k 1, .x 6]),
  (6, .u 1, [.x 3]),
  (5, .u 0, [.x 3]),
  (4, .conv .i64, [.x 2]),
  (3, .conv .i64, [.x 1])]
def rv : A := (.x 81)
def hx : A := (.x 82)
set_option maxRecDepth 1000000 in
theorem ran : outC 25 3 facts ds rv hx (runPol lk U X sumsT3 (fun f => Nat.beq f 16) (fun _ => 0) 100000 40 16 (startC 25 [some .i64, some .i64] facts).1 (startC 25 [some .i64, some .i64] facts).2) = true := by kernel_rfl
end
end Go.Proofs.Ytbpccdagmaiblaa.SX.atan

/- TrigS -/
namespace Go.Proofs.Ytbpccdagmaiblaa.SX
open Go Go.RowKit
noncomputable section
theorem atanF_i64 (az : List Int) : inK .i64 (U 38 az) := by
  refine inK_i64.2 ?_
  unfold U
  simp only
  split
  · rename_i y x
    have := atanF_bd y x
    omega
  · omega
theorem abs_p {a : Int} (h1 : 0 ≤ a) (h2 : a ≤ 1152921504606846976) : absv a = a := by
  unfold absv; rw [if_neg (by omega), if_neg (by omega)]; omega
theorem abs_n {a : Int} (h1 : a ≤ 0) (h2 : -1152921504606846976 ≤ a) : absv a = -a := by
  unfold absv; rw [if_neg (by omega), if_neg (by omega)]; omega
theorem hit0 {A B : Int} (h1 : 0 ≤ A) (h2 : A ≤ B) (h3 : 0 < B) (h4 : B ≤ 1152921504606846976) : (sath A || sath B || divh (satv A * 2 ^ 30) (satv B)) = false := by
  rw [satv_id (a := A) (by unfold mx; omega) (by unfold mx; omega), satv_id (a := B) (by unfold mx; omega) (by unfold mx; omega)]
  have k := (divZ_pos (v := A * 2 ^ 30) (d := B) (by omega)).1 (by omega)
  have k2 : A * 2 ^ 30 / B ≤ 2 ^ 30 := by
    refine Int.ediv_le_of_le_mul h3 ?_
    rw [Int.mul_comm]
    exact Int.mul_le_mul_of_nonneg_left h2 (by decide)
  unfold divh
  rw [if_neg (by omega)]
  simp only [sath, Bool.or_eq_false_iff, decide_eq_false_iff_not]
  omega
theorem eqlF (a b : Int) : cmpF .eql a b = decide (a = b) := by
  show ieq a b = _
  rw [ieq_iff]
theorem b2i_f : b2i false = 0 := rfl
theorem ieq_or (H : Bool) : ieq (bif H then 1 else 0) 1 = H := by cases H <;> rfl
theorem or_hit {h : Bool} {z : Int} {a : Bool} (hz : z = b2i a) : ieq (bif ieq z 1 then 1 else b2i h) 1 = (a || h) := by
  subst hz; cases a <;> cases h <;> rfl
theorem atan_case {g : Sg} : CaseOk g 16 (ownS 25 [none, none] 38 39) :=
  own_case atanF_i64 fun az hbs hk q hb w hw => by
    match az, hbs with
    | [y, x], _ =>
    have hy : inK .i64 y := hk y (List.mem_cons_self ..)
    have hx : inK .i64 x := hk x (List.mem_cons_of_mem _ (List.mem_cons_self ..))
    obtain ⟨g, hga, hE, hc⟩ := fun_call namesOk mixed (fun g => sumsT3_ok g) [y, x] atan.ran hb (fun g hj hE c hc => by cases hc) hk q w hw
    have e0 : g 0 = b2i hb := hga 0 (by simp)
    have e1 : g 1 = y := hga 1 (by simp)
    have e2 : g 2 = x := hga 2 (by simp)
    have f82 : g 82 = bif ieq (g 11) 1 then g 10 else g 80 := eqs_at hE 0 _ rfl
    have f81 : g 81 = bif ieq (g 11) 1 then g 24 else g 79 := eqs_at hE 1 _ rfl
    have f80 : g 80 = bif ieq (g 13) 1 then g 57 else g 78 := eqs_at hE 2 _ rfl
    have f79 : g 79 = bif ieq (g 13) 1 then g 56 else g 77 := eqs_at hE 3 _ rfl
    have f78 : g 78 = bif ieq (g 14) 1 then g 67 else g 76 := eqs_at hE 4 _ rfl
    have f77 : g 77 = bif ieq (g 14) 1 then g 66 else g 75 := eqs_at hE 5 _ rfl
    have f76 : g 76 = bif ieq (g 22) 1 then g 70 else g 74 := eqs_at hE 6 _ rfl
    have f75 : g 75 = bif ieq (g 22) 1 then g 72 else g 21 := eqs_at hE 7 _ rfl
    have f74 : g 74 = bif ieq (g 10) 1 then (1) else g 73 := eqs_at hE 8 _ rfl
    have f73 : g 73 = b2i (sath (g 5) || sath (g 8) || divh (satv (g 5) * 2 ^ 30) (satv (g 8))) := eqs_at hE 9 _ rfl
    have f72 : g 72 = (-1) * g 71 + (1686629713) := eqs_at hE 10 _ rfl
    have f71 : g 71 = slopeF (g 68) := eqs_at hE 11 _ rfl
    have f70 : g 70 = bif ieq (g 10) 1 then (1) else g 69 := eqs_at hE 12 _ rfl
    have f69 : g 69 = b2i (sath (g 8) || sath (g 5) || divh (satv (g 8) * 2 ^ 30) (satv (g 5))) := eqs_at hE 13 _ rfl
    have f68 : g 68 = divv (satv (g 8) * 2 ^ 30) (satv (g 5)) := eqs_at hE 14 _ rfl
    have f67 : g 67 = bif ieq (g 18) 1 then g 60 else g 65 := eqs_at hE 15 _ rfl
    have f66 : g 66 = bif ieq (g 18) 1 then g 63 else g 19 := eqs_at hE 16 _ rfl
    have f65 : g 65 = bif ieq (g 10) 1 then (1) else g 64 := eqs_at hE 17 _ rfl
    have f64 : g 64 = b2i (sath (g 5) || sath (g 15) || divh (satv (g 5) * 2 ^ 30) (satv (g 15))) := eqs_at hE 18 _ rfl
    have f63 : g 63 = (1) * g 61 + (1686629713) := eqs_at hE 19 _ rfl
    have f62 : g 62 = (-1) * g 61 + (1686629713) := eqs_at hE 20 _ rfl
    have f61 : g 61 = slopeF (g 58) := eqs_at hE 21 _ rfl
    have f60 : g 60 = bif ieq (g 10) 1 then (1) else g 59 := eqs_at hE 22 _ rfl
    have f59 : g 59 = b2i (sath (g 15) || sath (g 5) || divh (satv (g 15) * 2 ^ 30) (satv (g 5))) := eqs_at hE 23 _ rfl
    have f58 : g 58 = divv (satv (g 15) * 2 ^ 30) (satv (g 5)) := eqs_at hE 24 _ rfl
    have f57 : g 57 = bif ieq (g 14) 1 then g 41 else g 55 := eqs_at hE 25 _ rfl
    have f56 : g 56 = bif ieq (g 14) 1 then g 40 else g 54 := eqs_at hE 26 _ rfl
    have f55 : g 55 = bif ieq (g 42) 1 then g 45 else g 51 := eqs_at hE 27 _ rfl
    have f54 : g 54 = bif ieq (g 42) 1 then g 48 else g 53 := eqs_at hE 28 _ rfl
    have f53 : g 53 = (-1) * g 52 + (0) := eqs_at hE 29 _ rfl
    have f52 : g 52 = slopeF (g 49) := eqs_at hE 30 _ rfl
    have f51 : g 51 = bif ieq (g 10) 1 then (1) else g 50 := eqs_at hE 31 _ rfl
    have f50 : g 50 = b2i (sath (g 25) || sath (g 8) || divh (satv (g 25) * 2 ^ 30) (satv (g 8))) := eqs_at hE 32 _ rfl
    have f49 : g 49 = divv (satv (g 25) * 2 ^ 30) (satv (g 8)) := eqs_at hE 33 _ rfl
    have f48 : g 48 = (1) * g 46 + (-1686629713) := eqs_at hE 34 _ rfl
    have f47 : g 47 = (-1) * g 46 + (1686629713) := eqs_at hE 35 _ rfl
    have f46 : g 46 = slopeF (g 43) := eqs_at hE 36 _ rfl
    have f45 : g 45 = bif ieq (g 10) 1 then (1) else g 44 := eqs_at hE 37 _ rfl
    have f44 : g 44 = b2i (sath (g 8) || sath (g 25) || divh (satv (g 8) * 2 ^ 30) (satv (g 25))) := eqs_at hE 38 _ rfl
    have f43 : g 43 = divv (satv (g 8) * 2 ^ 30) (satv (g 25)) := eqs_at hE 39 _ rfl
    have f42 : g 42 = b2i (cmpF .lss (g 8) (g 25)) := eqs_at hE 40 _ rfl
    have f41 : g 41 = bif ieq (g 26) 1 then g 29 else g 36 := eqs_at hE 41 _ rfl
    have f40 : g 40 = bif ieq (g 26) 1 then g 33 else g 39 := eqs_at hE 42 _ rfl
    have f39 : g 39 = (1) * g 37 + (-3373259426) := eqs_at hE 43 _ rfl
    have f38 : g 38 = (-1) * g 37 + (3373259426) := eqs_at hE 44 _ rfl
    have f37 : g 37 = slopeF (g 34) := eqs_at hE 45 _ rfl
    have f36 : g 36 = bif ieq (g 10) 1 then (1) else g 35 := eqs_at hE 46 _ rfl
    have f35 : g 35 = b2i (sath (g 25) || sath (g 15) || divh (satv (g 25) * 2 ^ 30) (satv (g 15))) := eqs_at hE 47 _ rfl
    have f34 : g 34 = divv (satv (g 25) * 2 ^ 30) (satv (g 15)) := eqs_at hE 48 _ rfl
    have f33 : g 33 = (-1) * g 30 + (-1686629713) := eqs_at hE 49 _ rfl
    have f32 : g 32 = (1) * g 30 + (1686629713) := eqs_at hE 50 _ rfl
    have f31 : g 31 = (-1) * g 30 + (1686629713) := eqs_at hE 51 _ rfl
    have f30 : g 30 = slopeF (g 27) := eqs_at hE 52 _ rfl
    have f29 : g 29 = bif ieq (g 10) 1 then (1) else g 28 := eqs_at hE 53 _ rfl
    have f28 : g 28 = b2i (sath (g 15) || sath (g 25) || divh (satv (g 15) * 2 ^ 30) (satv (g 25))) := eqs_at hE 54 _ rfl
    have f27 : g 27 = divv (satv (g 15) * 2 ^ 30) (satv (g 25)) := eqs_at hE 55 _ rfl
    have f26 : g 26 = b2i (cmpF .lss (g 15) (g 25)) := eqs_at hE 56 _ rfl
    have f25 : g 25 = (-1) * g 5 + (0) := eqs_at hE 57 _ rfl
    have f24 : g 24 = bif ieq (g 12) 1 then (0) else g 23 := eqs_at hE 58 _ rfl
    have f23 : g 23 = bif ieq (g 14) 1 then g 19 else g 21 := eqs_at hE 59 _ rfl
    have f22 : g 22 = b2i (cmpF .lss (g 8) (g 5)) := eqs_at hE 60 _ rfl
    have f21 : g 21 = slopeF (g 20) := eqs_at hE 61 _ rfl
    have f20 : g 20 = divv (satv (g 5) * 2 ^ 30) (satv (g 8)) := eqs_at hE 62 _ rfl
    have f19 : g 19 = (-1) * g 17 + (3373259426) := eqs_at hE 63 _ rfl
    have f18 : g 18 = b2i (cmpF .lss (g 15) (g 5)) := eqs_at hE 64 _ rfl
    have f17 : g 17 = slopeF (g 16) := eqs_at hE 65 _ rfl
    have f16 : g 16 = divv (satv (g 5) * 2 ^ 30) (satv (g 15)) := eqs_at hE 66 _ rfl
    have f15 : g 15 = (-1) * g 8 + (0) := eqs_at hE 67 _ rfl
    have f14 : g 14 = b2i (cmpF .lss (g 8) ((0))) := eqs_at hE 68 _ rfl
    have f13 : g 13 = b2i (cmpF .lss (g 5) ((0))) := eqs_at hE 69 _ rfl
    have f12 : g 12 = b2i (cmpF .eql (g 8) ((0))) := eqs_at hE 70 _ rfl
    have f11 : g 11 = b2i (cmpF .eql (g 5) ((0))) := eqs_at hE 71 _ rfl
    have f10 : g 10 = bif ieq (g 7) 1 then (1) else g 9 := eqs_at hE 72 _ rfl
    have f9 : g 9 = b2i (sath (g 4)) := eqs_at hE 73 _ rfl
    have f8 : g 8 = satv (g 4) := eqs_at hE 74 _ rfl
    have f7 : g 7 = bif ieq (g 0) 1 then (1) else g 6 := eqs_at hE 75 _ rfl
    have f6 : g 6 = b2i (sath (g 3)) := eqs_at hE 76 _ rfl
    have f5 : g 5 = satv (g 3) := eqs_at hE 77 _ rfl
    have f4 : g 4 = wrapF .i64 (g 2) := eqs_at hE 78 _ rfl
    have f3 : g 3 = wrapF .i64 (g 1) := eqs_at hE 79 _ rfl
    rw [e1, conv64 hy] at f3
    rw [e2, conv64 hx] at f4
    rw [f3] at f5 f6
    rw [f4] at f8 f9
    refine hc.mono fun e w' hp => ?_
    obtain ⟨rfl, _, hF⟩ := hp
    have Y1 := satv_lo y
    have Y2 := satv_hi y
    have X1 := satv_lo x
    have X2 := satv_hi x
    have f10' : g 10 = b2i (hb || sath y || sath x) := by
      rw [f10, f7, e0, f6, f9]
      cases hb <;> cases sath y <;> cases sath x <;> rfl
    rw [← f5] at Y1 Y2
    rw [← f8] at X1 X2
    have hxx : ieq (atan.hx.val g) 1 = (hb || ieq (U 39 [y, x]) 1) := by
      show ieq (g 82) 1 = (hb || ieq (b2i (sath y || sath x)) 1)
      rw [ieq_b2i, ← Bool.or_assoc]
      generalize (hb || sath y || sath x) = H at *
      clear hF hc hga e0 e1 e2 hE f3 f4 f5 f6 f7 f8 f9 f10
      simp only [f82, f80, f78, f76, f74, f73, f70, f69, f67, f65, f64, f60, f59, f57, f55, f51, f50, f45, f44, f42, f41, f36, f35, f29, f28, f26, f25, f22, f18, f15, f14, f13, f11, ieq_b2i, lssF, eqlF, Int.one_mul, Int.neg_mul, Int.add_zero, Bool.cond_decide]
      generalize g 5 = Y at *
      generalize g 8 = X at *
      (repeat' split) <;> first
        | exact (congrArg (fun t => ieq t 1) f10').trans (ieq_b2i H)
        | (rw [hit0 (by omega) (by omega) (by omega) (by omega), f10', ieq_b2i, b2i_f, ieq_or]; done)
        | omega
    rw [hxx] at hF
    refine ⟨?_, hF⟩
    congr 2
    show g 81 = atanF y x
    have ey : satv y = g 5 := f5.symm
    have ex : satv x = g 8 := f8.symm
    clear hF hc hga e0 e1 e2 hE f3 f4 f5 f6 f7 f8 f9 f10 f10' hxx
    unfold atanF
    rw [ey, ex]
    simp only [f81, f79, f77, f75, f72, f71, f68, f66, f63, f61, f58, f56, f54, f53, f52, f49, f48, f46, f43, f42, f40, f39, f37, f34, f33, f30, f27, f26, f25, f24, f23, f22, f21, f20, f19, f18, f17, f16, f15, f14, f13, f12, f11, ieq_b2i, lssF, eqlF, Int.one_mul, Int.neg_mul, Int.add_zero, Bool.cond_decide]
    clear f82 f81 f80 f79 f78 f77 f76 f75 f74 f73 f72 f71 f70 f69 f68 f67 f66 f65 f64 f63 f62 f61 f60 f59 f58 f57 f56 f55 f54 f53 f52 f51 f50 f49 f48 f47 f46 f45 f44 f43 f42 f41 f40 f39 f38 f37 f36 f35 f34 f33 f32 f31 f30 f29 f28 f27 f26 f25 f24 f23 f22 f21 f20 f19 f18 f17 f16 f15 f14 f13 f12 f11
    generalize g 5 = Y at *
    generalize g 8 = X at *
    have s1 : satv Y = Y := satv_id (by unfold mx; omega) (by unfold mx; omega)
    have s2 : satv X = X := satv_id (by unfold mx; omega) (by unfold mx; omega)
    have s3 : satv (-Y) = -Y := satv_id (by unfold mx; omega) (by unfold mx; omega)
    have s4 : satv (-X) = -X := satv_id (by unfold mx; omega) (by unfold mx; omega)
    rw [s1, s2, s3, s4]
    rcases Int.lt_or_le Y 0 with hY | hY <;> rcases Int.lt_or_le X 0 with hX | hX <;>
      (first | rw [abs_n (a := Y) (by omega) (by omega)] | rw [abs_p (a := Y) (by omega) (by omega)]) <;>
      (first | rw [abs_n (a := X) (by omega) (by omega)] | rw [abs_p (a := X) (by omega) (by omega)]) <;>
      (repeat' split) <;> omega
end
end Go.Proofs.Ytbpccdagmaiblaa.SX

/- AtanQR -/
namespace Go.Proofs.Ytbpccdagmaiblaa.SX.atanQ
open Go SX
noncomputable section
def facts : List (Bool × A × A × Bool) := []
def ds : Defs := [(534, .sel, [.x 11, .x 277, .x 532]),
  (533, .sel, [.x 11, .x 276, .x 531]),
  (532, .sel, [.x 13, .x 405, .x 530]),
  (531, .sel, [.x 13, .x 404, .x 529]),
  (530, .sel, [.x 406, .x 409, .x 528]),
  (529, .sel, [.x 406, .x 467, .x 527]),
  (528, .sel, [.x 342, .x 10, .x 470]),
  (527, .sel, [.x 342, .k 0, .x 526]),
  (526, .sel, [.x 471, .x 500, .x 525]),
  (525, .u 2, [.x 468, .x 524, .k 30]),
  (524, .lin 1073741824 [1], [.x 523]),
  (523, .u 2, [.x 501, .x 522, .k 30]),
  (522, .lin (-357913941) [1], [.x 521]),
  (521, .u 2, [.x 501, .x 520, .k 30]),
  (520, .lin 214748365 [1], [.x 519]),
  (519, .u 2, [.x 501, .x 518, .k 30]),
  (518, .lin (-153391689) [1], [.x 517]),
  (517, .u 2, [.x 501, .x 516, .k 30]),
  (516, .lin 119304647 [1], [.x 515]),
  (515, .u 2, [.x 501, .x 514, .k 30]),
  (514, .lin (-97612893) [1], [.x 513]),
  (513, .u 2, [.x 501, .x 512, .k 30]),
  (512, .lin 82595525 [1], [.x 511]),
  (511, .u 2, [.x 501, .x 510, .k 30]),
  (510, .lin (-71582788) [1], [.x 509]),
  (509, .u 2, [.x 501, .x 508, .k 30]),
  (508, .lin 63161284 [1], [.x 507]),
  (507, .u 2, [.x 501, .x 506, .k 30]),
  (506, .lin (-56512728) [1], [.x 505]),
  (505, .u 2, [.x 501, .x 504, .k 30]),
  (504, .lin 51130563 [(-1)], [.x 502]),
  (503, .lin 0 [(-1)], [.x 502]),
  (502, .u 2, [.x 501, .k 46684427, .k 30]),
  (501, .u 2, [.x 468, .x 468, .k 30]),
  (500, .lin 843314857 [1], [.x 499]),
  (499, .u 2, [.x 474, .x 498, .k 30]),
  (498, .lin 1073741824 [1], [.x 497]),
  (497, .u 2, [.x 475, .x 496, .k 30]),
  (496, .lin (-357913941) [1], [.x 495]),
  (495, .u 2, [.x 475, .x 494, .k 30]),
  (494, .lin 214748365 [1], [.x 493]),
  (493, .u 2, [.x 475, .x 492, .k 30]),
  (492, .lin (-153391689) [1], [.x 491]),
  (491, .u 2, [.x 475, .x 490, .k 30]),
  (490, .lin 119304647 [1], [.x 489]),
  (489, .u 2, [.x 475, .x 488, .k 30]),
  (488, .lin (-97612893) [1], [.x 487]),
  (487, .u 2, [.x 475, .x 486, .k 30]),
  (486, .lin 82595525 [1], [.x 485]),
  (485, .u 2, [.x 475, .x 484, .k 30]),
  (484, .lin (-71582788) [1], [.x 483]),
  (483, .u 2, [.x 475, .x 482, .k 30]),
  (482, .lin 63161284 [1], [.x 481]),
  (481, .u 2, [.x 475, .x 480, .k 30]),
  (480, .lin (-56512728) [1], [.x 479]),
  (479, .u 2, [.x 475, .x 478, .k 30]),
  (478, .lin 51130563 [(-1)], [.x 476]),
  (477, .lin 0 [(-1)], [.x 476]),
  (476, .u 2, [.x 475, .k 46684427, .k 30]),
  (475, .u 2, [.x 474, .x 474, .k 30]),
  (474, .u 4, [.x 472, .x 473, .k 30]),
  (473, .lin 1073741824 [1], [.x 468]),
  (472, .lin (-1073741824) [1], [.x 468]),
  (471, .cmp .lss, [.k 444758426, .x 468]),
  (470, .sel, [.x 10, .k 1, .x 469]),
  (469, .u 5, [.x 5, .x 8, .k 30]),
  (468, .u 4, [.x 5, .x 8, .k 30]),
  (467, .sel, [.x 410, .x 440, .x 466]),
  (466, .lin 1686629713 [(-1)], [.x 465]),
  (465, .u 2, [.x 407, .x 464, .k 30]),
  (464, .lin 1073741824 [1], [.x 463]),
  (463, .u 2, [.x 441, .x 462, .k 30]),
  (462, .lin (-357913941) [1], [.x 461]),
  (461, .u 2, [.x 441, .x 460, .k 30]),
  (460, .lin 214748365 [1], [.x 459]),
  (459, .u 2, [.x 441, .x 458, .k 30]),
  (458, .lin (-153391689) [1], [.x 457]),
  (457, .u 2, [.x 441, .x 456, .k 30]),
  (456, .lin 119304647 [1], [.x 455]),
  (455, .u 2, [.x 441, .x 454, .k 30]),
  (454, .lin (-97612893) [1], [.x 453]),
  (453, .u 2, [.x 441, .x 452, .k 30]),
  (452, .lin 82595525 [1], [.x 451]),
  (451, .u 2, [.x 441, .x 450, .k 30]),
  (450, .lin (-71582788) [1], [.x 449]),
  (449, .u 2, [.x 441, .x 448, .k 30]),
  (448, .lin 63161284 [1], [.x 447]),
  (447, .u 2, [.x 441, .x 446, .k 30]),
  (446, .lin (-56512728) [1], [.x 445]),
  (445, .u 2, [.x 441, .x 444, .k 30]),
  (444, .lin 51130563 [(-1)], [.x 442]),
  (443, .lin 0 [(-1)], [.x 442]),
  (442, .u 2, [.x 441, .k 46684427, .k 30]),
  (441, .u 2, [.x 407, .x 407, .k 30]),
  (440, .lin 843314856 [(-1)], [.x 438]),
  (439, .lin 843314857 [1], [.x 438]),
  (438, .u 2, [.x 413, .x 437, .k 30]),
  (437, .lin 1073741824 [1], [.x 436]),
  (436, .u 2, [.x 414, .x 435, .k 30]),
  (435, .lin (-357913941) [1], [.x 434]),
  (434, .u 2, [.x 414, .x 433, .k 30]),
  (433, .lin 214748365 [1], [.x 432]),
  (432, .u 2, [.x 414, .x 431, .k 30]),
  (431, .lin (-153391689) [1], [.x 430]),
  (430, .u 2, [.x 414, .x 429, .k 30]),
  (429, .lin 119304647 [1], [.x 428]),
  (428, .u 2, [.x 414, .x 427, .k 30]),
  (427, .lin (-97612893) [1], [.x 426]),
  (426, .u 2, [.x 414, .x 425, .k 30]),
  (425, .lin 82595525 [1], [.x 424]),
  (424, .u 2, [.x 414, .x 423, .k 30]),
  (423, .lin (-71582788) [1], [.x 422]),
  (422, .u 2, [.x 414, .x 421, .k 30]),
  (421, .lin 63161284 [1], [.x 420]),
  (420, .u 2, [.x 414, .x 419, .k 30]),
  (419, .lin (-56512728) [1], [.x 418]),
  (418, .u 2, [.x 414, .x 417, .k 30]),
  (417, .lin 51130563 [(-1)], [.x 415]),
  (416, .lin 0 [(-1)], [.x 415]),
  (415, .u 2, [.x 414, .k 46684427, .k 30]),
  (414, .u 2, [.x 413, .x 413, .k 30]),
  (413, .u 4, [.x 411, .x 412, .k 30]),
  (412, .lin 1073741824 [1], [.x 407]),
  (411, .lin (-1073741824) [1], [.x 407]),
  (410, .cmp .lss, [.k 444758426, .x 407]),
  (409, .sel, [.x 10, .k 1, .x 408]),
  (408, .u 5, [.x 8, .x 5, .k 30]),
  (407, .u 4, [.x 8, .x 5, .k 30]),
  (406, .cmp .lss, [.x 8, .x 5]),
  (405, .sel, [.x 278, .x 281, .x 345]),
  (404, .sel, [.x 278, .x 341, .x 403]),
  (403, .sel, [.x 346, .x 376, .x 402]),
  (402, .lin 0 [(-1)], [.x 401]),
  (401, .u 2, [.x 343, .x 400, .k 30]),
  (400, .lin 1073741824 [1], [.x 399]),
  (399, .u 2, [.x 377, .x 398, .k 30]),
  (398, .lin (-357913941) [1], [.x 397]),
  (397, .u 2, [.x 377, .x 396, .k 30]),
  (396, .lin 214748365 [1], [.x 395]),
  (395, .u 2, [.x 377, .x 394, .k 30]),
  (394, .lin (-153391689) [1], [.x 393]),
  (393, .u 2, [.x 377, .x 392, .k 30]),
  (392, .lin 119304647 [1], [.x 391]),
  (391, .u 2, [.x 377, .x 390, .k 30]),
  (390, .lin (-97612893) [1], [.x 389]),
  (389, .u 2, [.x 377, .x 388, .k 30]),
  (388, .lin 82595525 [1], [.x 387]),
  (387, .u 2, [.x 377, .x 386, .k 30]),
  (386, .lin (-71582788) [1], [.x 385]),
  (385, .u 2, [.x 377, .x 384, .k 30]),
  (384, .lin 63161284 [1], [.x 383]),
  (383, .u 2, [.x 377, .x 382, .k 30]),
  (382, .lin (-56512728) [1], [.x 381]),
  (381, .u 2, [.x 377, .x 380, .k 30]),
  (380, .lin 51130563 [(-1)], [.x 378]),
  (379, .lin 0 [(-1)], [.x 378]),
  (378, .u 2, [.x 377, .k 46684427, .k 30]),
  (377, .u 2, [.x 343, .x 343, .k 30]),
  (376, .lin (-843314857) [(-1)], [.x 374]),
  (375, .lin 843314857 [1], [.x 374]),
  (374, .u 2, [.x 349, .x 373, .k 30]),
  (373, .lin 1073741824 [1], [.x 372]),
  (372, .u 2, [.x 350, .x 371, .k 30]),
  (371, .lin (-357913941) [1], [.x 370]),
  (370, .u 2, [.x 350, .x 369, .k 30]),
  (369, .lin 214748365 [1], [.x 368]),
  (368, .u 2, [.x 350, .x 367, .k 30]),
  (367, .lin (-153391689) [1], [.x 366]),
  (366, .u 2, [.x 350, .x 365, .k 30]),
  (365, .lin 119304647 [1], [.x 364]),
  (364, .u 2, [.x 350, .x 363, .k 30]),
  (363, .lin (-97612893) [1], [.x 362]),
  (362, .u 2, [.x 350, .x 361, .k 30]),
  (361, .lin 82595525 [1], [.x 360]),
  (360, .u 2, [.x 350, .x 359, .k 30]),
  (359, .lin (-71582788) [1], [.x 358]),
  (358, .u 2, [.x 350, .x 357, .k 30]),
  (357, .lin 63161284 [1], [.x 356]),
  (356, .u 2, [.x 350, .x 355, .k 30]),
  (355, .lin (-56512728) [1], [.x 354]),
  (354, .u 2, [.x 350, .x 353, .k 30]),
  (353, .lin 51130563 [(-1)], [.x 351]),
  (352, .lin 0 [(-1)], [.x 351]),
  (351, .u 2, [.x 350, .k 46684427, .k 30]),
  (350, .u 2, [.x 349, .x 349, .k 30]),
  (349, .u 4, [.x 347, .x 348, .k 30]),
  (348, .lin 1073741824 [1], [.x 343]),
  (347, .lin (-1073741824) [1], [.x 343]),
  (346, .cmp .lss, [.k 444758426, .x 343]),
  (345, .sel, [.x 10, .k 1, .x 344]),
  (344, .u 5, [.x 14, .x 8, .k 30]),
  (343, .u 4, [.x 14, .x 8, .k 30]),
  (342, .cmp .eql, [.x 8, .k 0]),
  (341, .sel, [.x 282, .x 313, .x 340]),
  (340, .lin (-1686629713) [1], [.x 338]),
  (339, .lin 1686629713 [(-1)], [.x 338]),
  (338, .u 2, [.x 279, .x 337, .k 30]),
  (337, .lin 1073741824 [1], [.x 336]),
  (336, .u 2, [.x 314, .x 335, .k 30]),
  (335, .lin (-357913941) [1], [.x 334]),
  (334, .u 2, [.x 314, .x 333, .k 30]),
  (333, .lin 214748365 [1], [.x 332]),
  (332, .u 2, [.x 314, .x 331, .k 30]),
  (331, .lin (-153391689) [1], [.x 330]),
  (330, .u 2, [.x 314, .x 329, .k 30]),
  (329, .lin 119304647 [1], [.x 328]),
  (328, .u 2, [.x 314, .x 327, .k 30]),
  (327, .lin (-97612893) [1], [.x 326]),
  (326, .u 2, [.x 314, .x 325, .k 30]),
  (325, .lin 82595525 [1], [.x 324]),
  (324, .u 2, [.x 314, .x 323, .k 30]),
  (323, .lin (-71582788) [1], [.x 322]),
  (322, .u 2, [.x 314, .x 321, .k 30]),
  (321, .lin 63161284 [1], [.x 320]),
  (320, .u 2, [.x 314, .x 319, .k 30]),
  (319, .lin (-56512728) [1], [.x 318]),
  (318, .u 2, [.x 314, .x 317, .k 30]),
  (317, .lin 51130563 [(-1)], [.x 315]),
  (316, .lin 0 [(-1)], [.x 315]),
  (315, .u 2, [.x 314, .k 46684427, .k 30]),
  (314, .u 2, [.x 279, .x 279, .k 30]),
  (313, .lin (-843314856) [1], [.x 310]),
  (312, .lin 843314856 [(-1)], [.x 310]),
  (311, .lin 843314857 [1], [.x 310]),
  (310, .u 2, [.x 285, .x 309, .k 30]),
  (309, .lin 1073741824 [1], [.x 308]),
  (308, .u 2, [.x 286, .x 307, .k 30]),
  (307, .lin (-357913941) [1], [.x 306]),
  (306, .u 2, [.x 286, .x 305, .k 30]),
  (305, .lin 214748365 [1], [.x 304]),
  (304, .u 2, [.x 286, .x 303, .k 30]),
  (303, .lin (-153391689) [1], [.x 302]),
  (302, .u 2, [.x 286, .x 301, .k 30]),
  (301, .lin 119304647 [1], [.x 300]),
  (300, .u 2, [.x 286, .x 299, .k 30]),
  (299, .lin (-97612893) [1], [.x 298]),
  (298, .u 2, [.x 286, .x 297, .k 30]),
  (297, .lin 82595525 [1], [.x 296]),
  (296, .u 2, [.x 286, .x 295, .k 30]),
  (295, .lin (-71582788) [1], [.x 294]),
  (294, .u 2, [.x 286, .x 293, .k 30]),
  (293, .lin 63161284 [1], [.x 292]),
  (292, .u 2, [.x 286, .x 291, .k 30]),
  (291, .lin (-56512728) [1], [.x 290]),
  (290, .u 2, [.x 286, .x 289, .k 30]),
  (289, .lin 51130563 [(-1)], [.x 287]),
  (288, .lin 0 [(-1)], [.x 287]),
  (287, .u 2, [.x 286, .k 46684427, .k 30]),
  (286, .u 2, [.x 285, .x 285, .k 30]),
  (285, .u 4, [.x 283, .x 284, .k 30]),
  (284, .lin 1073741824 [1], [.x 279]),
  (283, .lin (-1073741824) [1], [.x 279]),
  (282, .cmp .lss, [.k 444758426, .x 279]),
  (281, .sel, [.x 10, .k 1, .x 280]),
  (280, .u 5, [.x 8, .x 14, .k 30]),
  (279, .u 4, [.x 8, .x 14, .k 30]),
  (278, .cmp .lss, [.x 8, .x 14]),
  (277, .sel, [.x 13, .x 147, .x 275]),
  (276, .sel, [.x 13, .x 146, .x 274]),
  (275, .sel, [.x 148, .x 152, .x 215]),
  (274, .sel, [.x 148, .x 212, .x 273]),
  (273, .sel, [.x 216, .x 246, .x 272]),
  (272, .lin 3373259426 [(-1)], [.x 271]),
  (271, .u 2, [.x 213, .x 270, .k 30]),
  (270, .lin 1073741824 [1], [.x 269]),
  (269, .u 2, [.x 247, .x 268, .k 30]),
  (268, .lin (-357913941) [1], [.x 267]),
  (267, .u 2, [.x 247, .x 266, .k 30]),
  (266, .lin 214748365 [1], [.x 265]),
  (265, .u 2, [.x 247, .x 264, .k 30]),
  (264, .lin (-153391689) [1], [.x 263]),
  (263, .u 2, [.x 247, .x 262, .k 30]),
  (262, .lin 119304647 [1], [.x 261]),
  (261, .u 2, [.x 247, .x 260, .k 30]),
  (260, .lin (-97612893) [1], [.x 259]),
  (259, .u 2, [.x 247, .x 258, .k 30]),
  (258, .lin 82595525 [1], [.x 257]),
  (257, .u 2, [.x 247, .x 256, .k 30]),
  (256, .lin (-71582788) [1], [.x 255]),
  (255, .u 2, [.x 247, .x 254, .k 30]),
  (254, .lin 63161284 [1], [.x 253]),
  (253, .u 2, [.x 247, .x 252, .k 30]),
  (252, .lin (-56512728) [1], [.x 251]),
  (251, .u 2, [.x 247, .x 250, .k 30]),
  (250, .lin 51130563 [(-1)], [.x 248]),
  (249, .lin 0 [(-1)], [.x 248]),
  (248, .u 2, [.x 247, .k 46684427, .k 30]),
  (247, .u 2, [.x 213, .x 213, .k 30]),
  (246, .lin 2529944569 [(-1)], [.x 244]),
  (245, .lin 843314857 [1], [.x 244]),
  (244, .u 2, [.x 219, .x 243, .k 30]),
  (243, .lin 1073741824 [1], [.x 242]),
  (242, .u 2, [.x 220, .x 241, .k 30]),
  (241, .lin (-357913941) [1], [.x 240]),
  (240, .u 2, [.x 220, .x 239, .k 30]),
  (239, .lin 214748365 [1], [.x 238]),
  (238, .u 2, [.x 220, .x 237, .k 30]),
  (237, .lin (-153391689) [1], [.x 236]),
  (236, .u 2, [.x 220, .x 235, .k 30]),
  (235, .lin 119304647 [1], [.x 234]),
  (234, .u 2, [.x 220, .x 233, .k 30]),
  (233, .lin (-97612893) [1], [.x 232]),
  (232, .u 2, [.x 220, .x 231, .k 30]),
  (231, .lin 82595525 [1], [.x 230]),
  (230, .u 2, [.x 220, .x 229, .k 30]),
  (229, .lin (-71582788) [1], [.x 228]),
  (228, .u 2, [.x 220, .x 227, .k 30]),
  (227, .lin 63161284 [1], [.x 226]),
  (226, .u 2, [.x 220, .x 225, .k 30]),
  (225, .lin (-56512728) [1], [.x 224]),
  (224, .u 2, [.x 220, .x 223, .k 30]),
  (223, .lin 51130563 [(-1)], [.x 221]),
  (222, .lin 0 [(-1)], [.x 221]),
  (221, .u 2, [.x 220, .k 46684427, .k 30]),
  (220, .u 2, [.x 219, .x 219, .k 30]),
  (219, .u 4, [.x 217, .x 218, .k 30]),
  (218, .lin 1073741824 [1], [.x 213]),
  (217, .lin (-1073741824) [1], [.x 213]),
  (216, .cmp .lss, [.k 444758426, .x 213]),
  (215, .sel, [.x 10, .k 1, .x 214]),
  (214, .u 5, [.x 5, .x 12, .k 30]),
  (213, .u 4, [.x 5, .x 12, .k 30]),
  (212, .sel, [.x 153, .x 184, .x 211]),
  (211, .lin 1686629713 [1], [.x 209]),
  (210, .lin 1686629713 [(-1)], [.x 209]),
  (209, .u 2, [.x 150, .x 208, .k 30]),
  (208, .lin 1073741824 [1], [.x 207]),
  (207, .u 2, [.x 185, .x 206, .k 30]),
  (206, .lin (-357913941) [1], [.x 205]),
  (205, .u 2, [.x 185, .x 204, .k 30]),
  (204, .lin 214748365 [1], [.x 203]),
  (203, .u 2, [.x 185, .x 202, .k 30]),
  (202, .lin (-153391689) [1], [.x 201]),
  (201, .u 2, [.x 185, .x 200, .k 30]),
  (200, .lin 119304647 [1], [.x 199]),
  (199, .u 2, [.x 185, .x 198, .k 30]),
  (198, .lin (-97612893) [1], [.x 197]),
  (197, .u 2, [.x 185, .x 196, .k 30]),
  (196, .lin 82595525 [1], [.x 195]),
  (195, .u 2, [.x 185, .x 194, .k 30]),
  (194, .lin (-71582788) [1], [.x 193]),
  (193, .u 2, [.x 185, .x 192, .k 30]),
  (192, .lin 63161284 [1], [.x 191]),
  (191, .u 2, [.x 185, .x 190, .k 30]),
  (190, .lin (-56512728) [1], [.x 189]),
  (189, .u 2, [.x 185, .x 188, .k 30]),
  (188, .lin 51130563 [(-1)], [.x 186]),
  (187, .lin 0 [(-1)], [.x 186]),
  (186, .u 2, [.x 185, .k 46684427, .k 30]),
  (185, .u 2, [.x 150, .x 150, .k 30]),
  (184, .lin 2529944570 [1], [.x 181]),
  (183, .lin 843314856 [(-1)], [.x 181]),
  (182, .lin 843314857 [1], [.x 181]),
  (181, .u 2, [.x 156, .x 180, .k 30]),
  (180, .lin 1073741824 [1], [.x 179]),
  (179, .u 2, [.x 157, .x 178, .k 30]),
  (178, .lin (-357913941) [1], [.x 177]),
  (177, .u 2, [.x 157, .x 176, .k 30]),
  (176, .lin 214748365 [1], [.x 175]),
  (175, .u 2, [.x 157, .x 174, .k 30]),
  (174, .lin (-153391689) [1], [.x 173]),
  (173, .u 2, [.x 157, .x 172, .k 30]),
  (172, .lin 119304647 [1], [.x 171]),
  (171, .u 2, [.x 157, .x 170, .k 30]),
  (170, .lin (-97612893) [1], [.x 169]),
  (169, .u 2, [.x 157, .x 168, .k 30]),
  (168, .lin 82595525 [1], [.x 167]),
  (167, .u 2, [.x 157, .x 166, .k 30]),
  (166, .lin (-71582788) [1], [.x 165]),
  (165, .u 2, [.x 157, .x 164, .k 30]),
  (164, .lin 63161284 [1], [.x 163]),
  (163, .u 2, [.x 157, .x 162, .k 30]),
  (162, .lin (-56512728) [1], [.x 161]),
  (161, .u 2, [.x 157, .x 160, .k 30]),
  (160, .lin 51130563 [(-1)], [.x 158]),
  (159, .lin 0 [(-1)], [.x 158]),
  (158, .u 2, [.x 157, .k 46684427, .k 30]),
  (157, .u 2, [.x 156, .x 156, .k 30]),
  (156, .u 4, [.x 154, .x 155, .k 30]),
  (155, .lin 1073741824 [1], [.x 150]),
  (154, .lin (-1073741824) [1], [.x 150]),
  (153, .cmp .lss, [.k 444758426, .x 150]),
  (152, .sel, [.x 10, .k 1, .x 151]),
  (151, .u 5, [.x 12, .x 5, .k 30]),
  (150, .u 4, [.x 12, .x 5, .k 30]),
  (149, .cmp .eql, [.x 5, .k 0]),
  (148, .cmp .lss, [.x 12, .x 5]),
  (147, .sel, [.x 15, .x 19, .x 85]),
  (146, .sel, [.x 15, .x 81, .x 145]),
  (145, .sel, [.x 86, .x 117, .x 144]),
  (144, .lin (-3373259426) [1], [.x 142]),
  (143, .lin 3373259426 [(-1)], [.x 142]),
  (142, .u 2, [.x 83, .x 141, .k 30]),
  (141, .lin 1073741824 [1], [.x 140]),
  (140, .u 2, [.x 118, .x 139, .k 30]),
  (139, .lin (-357913941) [1], [.x 138]),
  (138, .u 2, [.x 118, .x 137, .k 30]),
  (137, .lin 214748365 [1], [.x 136]),
  (136, .u 2, [.x 118, .x 135, .k 30]),
  (135, .lin (-153391689) [1], [.x 134]),
  (134, .u 2, [.x 118, .x 133, .k 30]),
  (133, .lin 119304647 [1], [.x 132]),
  (132, .u 2, [.x 118, .x 131, .k 30]),
  (131, .lin (-97612893) [1], [.x 130]),
  (130, .u 2, [.x 118, .x 129, .k 30]),
  (129, .lin 82595525 [1], [.x 128]),
  (128, .u 2, [.x 118, .x 127, .k 30]),
  (127, .lin (-71582788) [1], [.x 126]),
  (126, .u 2, [.x 118, .x 125, .k 30]),
  (125, .lin 63161284 [1], [.x 124]),
  (124, .u 2, [.x 118, .x 123, .k 30]),
  (123, .lin (-56512728) [1], [.x 122]),
  (122, .u 2, [.x 118, .x 121, .k 30]),
  (121, .lin 51130563 [(-1)], [.x 119]),
  (120, .lin 0 [(-1)], [.x 119]),
  (119, .u 2, [.x 118, .k 46684427, .k 30]),
  (118, .u 2, [.x 83, .x 83, .k 30]),
  (117, .lin (-2529944569) [1], [.x 114]),
  (116, .lin 2529944569 [(-1)], [.x 114]),
  (115, .lin 843314857 [1], [.x 114]),
  (114, .u 2, [.x 89, .x 113, .k 30]),
  (113, .lin 1073741824 [1], [.x 112]),
  (112, .u 2, [.x 90, .x 111, .k 30]),
  (111, .lin (-357913941) [1], [.x 110]),
  (110, .u 2, [.x 90, .x 109, .k 30]),
  (109, .lin 214748365 [1], [.x 108]),
  (108, .u 2, [.x 90, .x 107, .k 30]),
  (107, .lin (-153391689) [1], [.x 106]),
  (106, .u 2, [.x 90, .x 105, .k 30]),
  (105, .lin 119304647 [1], [.x 104]),
  (104, .u 2, [.x 90, .x 103, .k 30]),
  (103, .lin (-97612893) [1], [.x 102]),
  (102, .u 2, [.x 90, .x 101, .k 30]),
  (101, .lin 82595525 [1], [.x 100]),
  (100, .u 2, [.x 90, .x 99, .k 30]),
  (99, .lin (-71582788) [1], [.x 98]),
  (98, .u 2, [.x 90, .x 97, .k 30]),
  (97, .lin 63161284 [1], [.x 96]),
  (96, .u 2, [.x 90, .x 95, .k 30]),
  (95, .lin (-56512728) [1], [.x 94]),
  (94, .u 2, [.x 90, .x 93, .k 30]),
  (93, .lin 51130563 [(-1)], [.x 91]),
  (92, .lin 0 [(-1)], [.x 91]),
  (91, .u 2, [.x 90, .k 46684427, .k 30]),
  (90, .u 2, [.x 89, .x 89, .k 30]),
  (89, .u 4, [.x 87, .x 88, .k 30]),
  (88, .lin 1073741824 [1], [.x 83]),
  (87, .lin (-1073741824) [1], [.x 83]),
  (86, .cmp .lss, [.k 444758426, .x 83]),
  (85, .sel, [.x 10, .k 1, .x 84]),
  (84, .u 5, [.x 14, .x 12, .k 30]),
  (83, .u 4, [.x 14, .x 12, .k 30]),
  (82, .cmp .eql, [.x 12, .k 0]),
  (81, .sel, [.x 20, .x 52, .x 80]),
  (80, .lin (-1686629713) [(-1)], [.x 77]),
  (79, .lin 1686629713 [1], [.x 77]),
  (78, .lin 1686629713 [(-1)], [.x 77]),
  (77, .u 2, [.x 17, .x 76, .k 30]),
  (76, .lin 1073741824 [1], [.x 75]),
  (75, .u 2, [.x 53, .x 74, .k 30]),
  (74, .lin (-357913941) [1], [.x 73]),
  (73, .u 2, [.x 53, .x 72, .k 30]),
  (72, .lin 214748365 [1], [.x 71]),
  (71, .u 2, [.x 53, .x 70, .k 30]),
  (70, .lin (-153391689) [1], [.x 69]),
  (69, .u 2, [.x 53, .x 68, .k 30]),
  (68, .lin 119304647 [1], [.x 67]),
  (67, .u 2, [.x 53, .x 66, .k 30]),
  (66, .lin (-97612893) [1], [.x 65]),
  (65, .u 2, [.x 53, .x 64, .k 30]),
  (64, .lin 82595525 [1], [.x 63]),
  (63, .u 2, [.x 53, .x 62, .k 30]),
  (62, .lin (-71582788) [1], [.x 61]),
  (61, .u 2, [.x 53, .x 60, .k 30]),
  (60, .lin 63161284 [1], [.x 59]),
  (59, .u 2, [.x 53, .x 58, .k 30]),
  (58, .lin (-56512728) [1], [.x 57]),
  (57, .u 2, [.x 53, .x 56, .k 30]),
  (56, .lin 51130563 [(-1)], [.x 54]),
  (55, .lin 0 [(-1)], [.x 54]),
  (54, .u 2, [.x 53, .k 46684427, .k 30]),
  (53, .u 2, [.x 17, .x 17, .k 30]),
  (52, .lin (-2529944570) [(-1)], [.x 48]),
  (51, .lin 2529944570 [1], [.x 48]),
  (50, .lin 843314856 [(-1)], [.x 48]),
  (49, .lin 843314857 [1], [.x 48]),
  (48, .u 2, [.x 23, .x 47, .k 30]),
  (47, .lin 1073741824 [1], [.x 46]),
  (46, .u 2, [.x 24, .x 45, .k 30]),
  (45, .lin (-357913941) [1], [.x 44]),
  (44, .u 2, [.x 24, .x 43, .k 30]),
  (43, .lin 214748365 [1], [.x 42]),
  (42, .u 2, [.x 24, .x 41, .k 30]),
  (41, .lin (-153391689) [1], [.x 40]),
  (40, .u 2, [.x 24, .x 39, .k 30]),
  (39, .lin 119304647 [1], [.x 38]),
  (38, .u 2, [.x 24, .x 37, .k 30]),
  (37, .lin (-97612893) [1], [.x 36]),
  (36, .u 2, [.x 24, .x 35, .k 30]),
  (35, .lin 82595525 [1], [.x 34]),
  (34, .u 2, [.x 24, .x 33, .k 30]),
  (33, .lin (-71582788) [1], [.x 32]),
  (32, .u 2, [.x 24, .x 31, .k 30]),
  (31, .lin 63161284 [1], [.x 30]),
  (30, .u 2, [.x 24, .x 29, .k 30]),
  (29, .lin (-56512728) [1], [.x 28]),
  (28, .u 2, [.x 24, .x 27, .k 30]),
  (27, .lin 51130563 [(-1)], [.x 25]),
  (26, .lin 0 [(-1)], [.x 25]),
  (25, .u 2, [.x 24, .k 46684427, .k 30]),
  (24, .u 2, [.x 23, .x 23, .k 30]),
  (23, .u 4, [.x 21, .x 22, .k 30]),
  (22, .lin 1073741824 [1], [.x 17]),
  (21, .lin (-1073741824) [1], [.x 17]),
  (20, .cmp .lss, [.k 444758426, .x 17]),
  (19, .sel, [.x 10, .k 1, .x 18]),
  (18, .u 5, [.x 12, .x 14, .k 30]),
  (17, .u 4, [.x 12, .x 14, .k 30]),
  (16, .cmp .eql, [.x 14, .k 0]),
  (15, .cmp .lss, [.x 12, .x 14]),
  (14, .lin 0 [(-1)], [.x 5]),
  (13, .cmp .lss, [.x 5, .k 0]),
  (12, .lin 0 [(-1)], [.x 8]),
  (11, .cmp .lss, [.x 8, .k 0]),
  (10, .sel, [.x 7, .k 1, .x 9]),
  (9, .u 1, [.x 4]),
  (8, .u 0, [.x 4]),
  (7, .sel, [.x 0, .k 1, .x 6]),
  (6, .u 1, [.x 3]),
  (5, .u 0, [.x 3]),
  (4, .conv .i64, [.x 2]),
  (3, .conv .i64, [.x 1])]
def rv : A := (.x 533)
def hx : A := (.x 534)
set_option maxRecDepth 1000000 in
theorem ran : outC 60 3 facts ds rv hx (runPol lk U X sums3 (fun f => Nat.beq f 47) (fun _ => 0) 100000 40 47 (startC 60 [some .i64, some .i64] facts).1 (startC 60 [some .i64, some .i64] facts).2) = true := by kernel_rfl
end
end Go.Proofs.Ytbpccdagmaiblaa.SX.atanQ

/- TrigU -/
namespace Go.Proofs.Ytbpccdagmaiblaa.SX
open Go Go.RowKit
noncomputable section
set_option maxRecDepth 100000 in
theorem atanQ_81 {g : Sg} (hE : EqsP g atanQ.ds) : g 81 = (-1) * slopeF (g 17) + (-1686629713) := by
    have f20 : g 20 = b2i (cmpF .lss ((444758426)) (g 17)) := eqs_at hE 514 _ rfl
    have f21 : g 21 = (1) * g 17 + (-1073741824) := eqs_at hE 513 _ rfl
    have f22 : g 22 = (1) * g 17 + (1073741824) := eqs_at hE 512 _ rfl
    have f23 : g 23 = divv (satv (g 21) * 2 ^ 30) (satv (g 22)) := eqs_at hE 511 _ rfl
    have f24 : g 24 = mq (g 23) (g 23) := eqs_at hE 510 _ rfl
    have f25 : g 25 = mq (g 24) ((46684427)) := eqs_at hE 509 _ rfl
    have f27 : g 27 = (-1) * g 25 + (51130563) := eqs_at hE 507 _ rfl
    have f28 : g 28 = mq (g 24) (g 27) := eqs_at hE 506 _ rfl
    have f29 : g 29 = (1) * g 28 + (-56512728) := eqs_at hE 505 _ rfl
    have f30 : g 30 = mq (g 24) (g 29) := eqs_at hE 504 _ rfl
    have f31 : g 31 = (1) * g 30 + (63161284) := eqs_at hE 503 _ rfl
    have f32 : g 32 = mq (g 24) (g 31) := eqs_at hE 502 _ rfl
    have f33 : g 33 = (1) * g 32 + (-71582788) := eqs_at hE 501 _ rfl
    have f34 : g 34 = mq (g 24) (g 33) := eqs_at hE 500 _ rfl
    have f35 : g 35 = (1) * g 34 + (82595525) := eqs_at hE 499 _ rfl
    have f36 : g 36 = mq (g 24) (g 35) := eqs_at hE 498 _ rfl
    have f37 : g 37 = (1) * g 36 + (-97612893) := eqs_at hE 497 _ rfl
    have f38 : g 38 = mq (g 24) (g 37) := eqs_at hE 496 _ rfl
    have f39 : g 39 = (1) * g 38 + (119304647) := eqs_at hE 495 _ rfl
    have f40 : g 40 = mq (g 24) (g 39) := eqs_at hE 494 _ rfl
    have f41 : g 41 = (1) * g 40 + (-153391689) := eqs_at hE 493 _ rfl
    have f42 : g 42 = mq (g 24) (g 41) := eqs_at hE 492 _ rfl
    have f43 : g 43 = (1) * g 42 + (214748365) := eqs_at hE 491 _ rfl
    have f44 : g 44 = mq (g 24) (g 43) := eqs_at hE 490 _ rfl
    have f45 : g 45 = (1) * g 44 + (-357913941) := eqs_at hE 489 _ rfl
    have f46 : g 46 = mq (g 24) (g 45) := eqs_at hE 488 _ rfl
    have f47 : g 47 = (1) * g 46 + (1073741824) := eqs_at hE 487 _ rfl
    have f48 : g 48 = mq (g 23) (g 47) := eqs_at hE 486 _ rfl
    have f52 : g 52 = (-1) * g 48 + (-2529944570) := eqs_at hE 482 _ rfl
    have f53 : g 53 = mq (g 17) (g 17) := eqs_at hE 481 _ rfl
    have f54 : g 54 = mq (g 53) ((46684427)) := eqs_at hE 480 _ rfl
    have f56 : g 56 = (-1) * g 54 + (51130563) := eqs_at hE 478 _ rfl
    have f57 : g 57 = mq (g 53) (g 56) := eqs_at hE 477 _ rfl
    have f58 : g 58 = (1) * g 57 + (-56512728) := eqs_at hE 476 _ rfl
    have f59 : g 59 = mq (g 53) (g 58) := eqs_at hE 475 _ rfl
    have f60 : g 60 = (1) * g 59 + (63161284) := eqs_at hE 474 _ rfl
    have f61 : g 61 = mq (g 53) (g 60) := eqs_at hE 473 _ rfl
    have f62 : g 62 = (1) * g 61 + (-71582788) := eqs_at hE 472 _ rfl
    have f63 : g 63 = mq (g 53) (g 62) := eqs_at hE 471 _ rfl
    have f64 : g 64 = (1) * g 63 + (82595525) := eqs_at hE 470 _ rfl
    have f65 : g 65 = mq (g 53) (g 64) := eqs_at hE 469 _ rfl
    have f66 : g 66 = (1) * g 65 + (-97612893) := eqs_at hE 468 _ rfl
    have f67 : g 67 = mq (g 53) (g 66) := eqs_at hE 467 _ rfl
    have f68 : g 68 = (1) * g 67 + (119304647) := eqs_at hE 466 _ rfl
    have f69 : g 69 = mq (g 53) (g 68) := eqs_at hE 465 _ rfl
    have f70 : g 70 = (1) * g 69 + (-153391689) := eqs_at hE 464 _ rfl
    have f71 : g 71 = mq (g 53) (g 70) := eqs_at hE 463 _ rfl
    have f72 : g 72 = (1) * g 71 + (214748365) := eqs_at hE 462 _ rfl
    have f73 : g 73 = mq (g 53) (g 72) := eqs_at hE 461 _ rfl
    have f74 : g 74 = (1) * g 73 + (-357913941) := eqs_at hE 460 _ rfl
    have f75 : g 75 = mq (g 53) (g 74) := eqs_at hE 459 _ rfl
    have f76 : g 76 = (1) * g 75 + (1073741824) := eqs_at hE 458 _ rfl
    have f77 : g 77 = mq (g 17) (g 76) := eqs_at hE 457 _ rfl
    have f80 : g 80 = (-1) * g 77 + (-1686629713) := eqs_at hE 454 _ rfl
    have f81 : g 81 = bif ieq (g 20) 1 then g 52 else g 80 := eqs_at hE 453 _ rfl
    have l48 : g 48 = mq (g 23) (atanS (mq (g 23) (g 23))) := by
      simp only [f48, f47, f46, f45, f44, f43, f42, f41, f40, f39, f38, f37, f36, f35, f34, f33, f32, f31, f30, f29, f28, f27, f25, f24, atanS]
      simp only [Int.one_mul, Int.neg_mul, Int.sub_eq_add_neg, Int.add_comm]
    have l77 : g 77 = mq (g 17) (atanS (mq (g 17) (g 17))) := by
      simp only [f77, f76, f75, f74, f73, f72, f71, f70, f69, f68, f67, f66, f65, f64, f63, f62, f61, f60, f59, f58, f57, f56, f54, f53, atanS]
      simp only [Int.one_mul, Int.neg_mul, Int.sub_eq_add_neg, Int.add_comm]
    rw [f81, f20, ieq_b2i, lssF, Bool.cond_decide]
    unfold slopeF
    split
    · rw [f52]; rw [l48, f23, f21, f22, show (1 : Int) * g 17 + -1073741824 = g 17 - 1073741824 by omega, show (1 : Int) * g 17 + 1073741824 = g 17 + 1073741824 by omega]; try omega
    · rw [f80]; rw [l77]; try omega
set_option maxRecDepth 100000 in
theorem atanQ_145 {g : Sg} (hE : EqsP g atanQ.ds) : g 145 = (1) * slopeF (g 83) + (-3373259426) := by
    have f86 : g 86 = b2i (cmpF .lss ((444758426)) (g 83)) := eqs_at hE 448 _ rfl
    have f87 : g 87 = (1) * g 83 + (-1073741824) := eqs_at hE 447 _ rfl
    have f88 : g 88 = (1) * g 83 + (1073741824) := eqs_at hE 446 _ rfl
    have f89 : g 89 = divv (satv (g 87) * 2 ^ 30) (satv (g 88)) := eqs_at hE 445 _ rfl
    have f90 : g 90 = mq (g 89) (g 89) := eqs_at hE 444 _ rfl
    have f91 : g 91 = mq (g 90) ((46684427)) := eqs_at hE 443 _ rfl
    have f93 : g 93 = (-1) * g 91 + (51130563) := eqs_at hE 441 _ rfl
    have f94 : g 94 = mq (g 90) (g 93) := eqs_at hE 440 _ rfl
    have f95 : g 95 = (1) * g 94 + (-56512728) := eqs_at hE 439 _ rfl
    have f96 : g 96 = mq (g 90) (g 95) := eqs_at hE 438 _ rfl
    have f97 : g 97 = (1) * g 96 + (63161284) := eqs_at hE 437 _ rfl
    have f98 : g 98 = mq (g 90) (g 97) := eqs_at hE 436 _ rfl
    have f99 : g 99 = (1) * g 98 + (-71582788) := eqs_at hE 435 _ rfl
    have f100 : g 100 = mq (g 90) (g 99) := eqs_at hE 434 _ rfl
    have f101 : g 101 = (1) * g 100 + (82595525) := eqs_at hE 433 _ rfl
    have f102 : g 102 = mq (g 90) (g 101) := eqs_at hE 432 _ rfl
    have f103 : g 103 = (1) * g 102 + (-97612893) := eqs_at hE 431 _ rfl
    have f104 : g 104 = mq (g 90) (g 103) := eqs_at hE 430 _ rfl
    have f105 : g 105 = (1) * g 104 + (119304647) := eqs_at hE 429 _ rfl
    have f106 : g 106 = mq (g 90) (g 105) := eqs_at hE 428 _ rfl
    have f107 : g 107 = (1) * g 106 + (-153391689) := eqs_at hE 427 _ rfl
    have f108 : g 108 = mq (g 90) (g 107) := eqs_at hE 426 _ rfl
    have f109 : g 109 = (1) * g 108 + (214748365) := eqs_at hE 425 _ rfl
    have f110 : g 110 = mq (g 90) (g 109) := eqs_at hE 424 _ rfl
    have f111 : g 111 = (1) * g 110 + (-357913941) := eqs_at hE 423 _ rfl
    have f112 : g 112 = mq (g 90) (g 111) := eqs_at hE 422 _ rfl
    have f113 : g 113 = (1) * g 112 + (1073741824) := eqs_at hE 421 _ rfl
    have f114 : g 114 = mq (g 89) (g 113) := eqs_at hE 420 _ rfl
    have f117 : g 117 = (1) * g 114 + (-2529944569) := eqs_at hE 417 _ rfl
    have f118 : g 118 = mq (g 83) (g 83) := eqs_at hE 416 _ rfl
    have f119 : g 119 = mq (g 118) ((46684427)) := eqs_at hE 415 _ rfl
    have f121 : g 121 = (-1) * g 119 + (51130563) := eqs_at hE 413 _ rfl
    have f122 : g 122 = mq (g 118) (g 121) := eqs_at hE 412 _ rfl
    have f123 : g 123 = (1) * g 122 + (-56512728) := eqs_at hE 411 _ rfl
    have f124 : g 124 = mq (g 118) (g 123) := eqs_at hE 410 _ rfl
    have f125 : g 125 = (1) * g 124 + (63161284) := eqs_at hE 409 _ rfl
    have f126 : g 126 = mq (g 118) (g 125) := eqs_at hE 408 _ rfl
    have f127 : g 127 = (1) * g 126 + (-71582788) := eqs_at hE 407 _ rfl
    have f128 : g 128 = mq (g 118) (g 127) := eqs_at hE 406 _ rfl
    have f129 : g 129 = (1) * g 128 + (82595525) := eqs_at hE 405 _ rfl
    have f130 : g 130 = mq (g 118) (g 129) := eqs_at hE 404 _ rfl
    have f131 : g 131 = (1) * g 130 + (-97612893) := eqs_at hE 403 _ rfl
    have f132 : g 132 = mq (g 118) (g 131) := eqs_at hE 402 _ rfl
    have f133 : g 133 = (1) * g 132 + (119304647) := eqs_at hE 401 _ rfl
    have f134 : g 134 = mq (g 118) (g 133) := eqs_at hE 400 _ rfl
    have f135 : g 135 = (1) * g 134 + (-153391689) := eqs_at hE 399 _ rfl
    have f136 : g 136 = mq (g 118) (g 135) := eqs_at hE 398 _ rfl
    have f137 : g 137 = (1) * g 136 + (214748365) := eqs_at hE 397 _ rfl
    have f138 : g 138 = mq (g 118) (g 137) := eqs_at hE 396 _ rfl
    have f139 : g 139 = (1) * g 138 + (-357913941) := eqs_at hE 395 _ rfl
    have f140 : g 140 = mq (g 118) (g 139) := eqs_at hE 394 _ rfl
    have f141 : g 141 = (1) * g 140 + (1073741824) := eqs_at hE 393 _ rfl
    have f142 : g 142 = mq (g 83) (g 141) := eqs_at hE 392 _ rfl
    have f144 : g 144 = (1) * g 142 + (-3373259426) := eqs_at hE 390 _ rfl
    have f145 : g 145 = bif ieq (g 86) 1 then g 117 else g 144 := eqs_at hE 389 _ rfl
    have l114 : g 114 = mq (g 89) (atanS (mq (g 89) (g 89))) := by
      simp only [f114, f113, f112, f111, f110, f109, f108, f107, f106, f105, f104, f103, f102, f101, f100, f99, f98, f97, f96, f95, f94, f93, f91, f90, atanS]
      simp only [Int.one_mul, Int.neg_mul, Int.sub_eq_add_neg, Int.add_comm]
    have l142 : g 142 = mq (g 83) (atanS (mq (g 83) (g 83))) := by
      simp only [f142, f141, f140, f139, f138, f137, f136, f135, f134, f133, f132, f131, f130, f129, f128, f127, f126, f125, f124, f123, f122, f121, f119, f118, atanS]
      simp only [Int.one_mul, Int.neg_mul, Int.sub_eq_add_neg, Int.add_comm]
    rw [f145, f86, ieq_b2i, lssF, Bool.cond_decide]
    unfold slopeF
    split
    · rw [f117]; rw [l114, f89, f87, f88, show (1 : Int) * g 83 + -1073741824 = g 83 - 1073741824 by omega, show (1 : Int) * g 83 + 1073741824 = g 83 + 1073741824 by omega]; try omega
    · rw [f144]; rw [l142]; try omega
set_option maxRecDepth 100000 in
theorem atanQ_212 {g : Sg} (hE : EqsP g atanQ.ds) : g 212 = (1) * slopeF (g 150) + (1686629713) := by
    have f153 : g 153 = b2i (cmpF .lss ((444758426)) (g 150)) := eqs_at hE 381 _ rfl
    have f154 : g 154 = (1) * g 150 + (-1073741824) := eqs_at hE 380 _ rfl
    have f155 : g 155 = (1) * g 150 + (1073741824) := eqs_at hE 379 _ rfl
    have f156 : g 156 = divv (satv (g 154) * 2 ^ 30) (satv (g 155)) := eqs_at hE 378 _ rfl
    have f157 : g 157 = mq (g 156) (g 156) := eqs_at hE 377 _ rfl
    have f158 : g 158 = mq (g 157) ((46684427)) := eqs_at hE 376 _ rfl
    have f160 : g 160 = (-1) * g 158 + (51130563) := eqs_at hE 374 _ rfl
    have f161 : g 161 = mq (g 157) (g 160) := eqs_at hE 373 _ rfl
    have f162 : g 162 = (1) * g 161 + (-56512728) := eqs_at hE 372 _ rfl
    have f163 : g 163 = mq (g 157) (g 162) := eqs_at hE 371 _ rfl
    have f164 : g 164 = (1) * g 163 + (63161284) := eqs_at hE 370 _ rfl
    have f165 : g 165 = mq (g 157) (g 164) := eqs_at hE 369 _ rfl
    have f166 : g 166 = (1) * g 165 + (-71582788) := eqs_at hE 368 _ rfl
    have f167 : g 167 = mq (g 157) (g 166) := eqs_at hE 367 _ rfl
    have f168 : g 168 = (1) * g 167 + (82595525) := eqs_at hE 366 _ rfl
    have f169 : g 169 = mq (g 157) (g 168) := eqs_at hE 365 _ rfl
    have f170 : g 170 = (1) * g 169 + (-97612893) := eqs_at hE 364 _ rfl
    have f171 : g 171 = mq (g 157) (g 170) := eqs_at hE 363 _ rfl
    have f172 : g 172 = (1) * g 171 + (119304647) := eqs_at hE 362 _ rfl
    have f173 : g 173 = mq (g 157) (g 172) := eqs_at hE 361 _ rfl
    have f174 : g 174 = (1) * g 173 + (-153391689) := eqs_at hE 360 _ rfl
    have f175 : g 175 = mq (g 157) (g 174) := eqs_at hE 359 _ rfl
    have f176 : g 176 = (1) * g 175 + (214748365) := eqs_at hE 358 _ rfl
    have f177 : g 177 = mq (g 157) (g 176) := eqs_at hE 357 _ rfl
    have f178 : g 178 = (1) * g 177 + (-357913941) := eqs_at hE 356 _ rfl
    have f179 : g 179 = mq (g 157) (g 178) := eqs_at hE 355 _ rfl
    have f180 : g 180 = (1) * g 179 + (1073741824) := eqs_at hE 354 _ rfl
    have f181 : g 181 = mq (g 156) (g 180) := eqs_at hE 353 _ rfl
    have f184 : g 184 = (1) * g 181 + (2529944570) := eqs_at hE 350 _ rfl
    have f185 : g 185 = mq (g 150) (g 150) := eqs_at hE 349 _ rfl
    have f186 : g 186 = mq (g 185) ((46684427)) := eqs_at hE 348 _ rfl
    have f188 : g 188 = (-1) * g 186 + (51130563) := eqs_at hE 346 _ rfl
    have f189 : g 189 = mq (g 185) (g 188) := eqs_at hE 345 _ rfl
    have f190 : g 190 = (1) * g 189 + (-56512728) := eqs_at hE 344 _ rfl
    have f191 : g 191 = mq (g 185) (g 190) := eqs_at hE 343 _ rfl
    have f192 : g 192 = (1) * g 191 + (63161284) := eqs_at hE 342 _ rfl
    have f193 : g 193 = mq (g 185) (g 192) := eqs_at hE 341 _ rfl
    have f194 : g 194 = (1) * g 193 + (-71582788) := eqs_at hE 340 _ rfl
    have f195 : g 195 = mq (g 185) (g 194) := eqs_at hE 339 _ rfl
    have f196 : g 196 = (1) * g 195 + (82595525) := eqs_at hE 338 _ rfl
    have f197 : g 197 = mq (g 185) (g 196) := eqs_at hE 337 _ rfl
    have f198 : g 198 = (1) * g 197 + (-97612893) := eqs_at hE 336 _ rfl
    have f199 : g 199 = mq (g 185) (g 198) := eqs_at hE 335 _ rfl
    have f200 : g 200 = (1) * g 199 + (119304647) := eqs_at hE 334 _ rfl
    have f201 : g 201 = mq (g 185) (g 200) := eqs_at hE 333 _ rfl
    have f202 : g 202 = (1) * g 201 + (-153391689) := eqs_at hE 332 _ rfl
    have f203 : g 203 = mq (g 185) (g 202) := eqs_at hE 331 _ rfl
    have f204 : g 204 = (1) * g 203 + (214748365) := eqs_at hE 330 _ rfl
    have f205 : g 205 = mq (g 185) (g 204) := eqs_at hE 329 _ rfl
    have f206 : g 206 = (1) * g 205 + (-357913941) := eqs_at hE 328 _ rfl
    have f207 : g 207 = mq (g 185) (g 206) := eqs_at hE 327 _ rfl
    have f208 : g 208 = (1) * g 207 + (1073741824) := eqs_at hE 326 _ rfl
    have f209 : g 209 = mq (g 150) (g 208) := eqs_at hE 325 _ rfl
    have f211 : g 211 = (1) * g 209 + (1686629713) := eqs_at hE 323 _ rfl
    have f212 : g 212 = bif ieq (g 153) 1 then g 184 else g 211 := eqs_at hE 322 _ rfl
    have l181 : g 181 = mq (g 156) (atanS (mq (g 156) (g 156))) := by
      simp only [f181, f180, f179, f178, f177, f176, f175, f174, f173, f172, f171, f170, f169, f168, f167, f166, f165, f164, f163, f162, f161, f160, f158, f157, atanS]
      simp only [Int.one_mul, Int.neg_mul, Int.sub_eq_add_neg, Int.add_comm]
    have l209 : g 209 = mq (g 150) (atanS (mq (g 150) (g 150))) := by
      simp only [f209, f208, f207, f206, f205, f204, f203, f202, f201, f200, f199, f198, f197, f196, f195, f194, f193, f192, f191, f190, f189, f188, f186, f185, atanS]
      simp only [Int.one_mul, Int.neg_mul, Int.sub_eq_add_neg, Int.add_comm]
    rw [f212, f153, ieq_b2i, lssF, Bool.cond_decide]
    unfold slopeF
    split
    · rw [f184]; rw [l181, f156, f154, f155, show (1 : Int) * g 150 + -1073741824 = g 150 - 1073741824 by omega, show (1 : Int) * g 150 + 1073741824 = g 150 + 1073741824 by omega]; try omega
    · rw [f211]; rw [l209]; try omega
set_option maxRecDepth 100000 in
theorem atanQ_273 {g : Sg} (hE : EqsP g atanQ.ds) : g 273 = (-1) * slopeF (g 213) + (3373259426) := by
    have f216 : g 216 = b2i (cmpF .lss ((444758426)) (g 213)) := eqs_at hE 318 _ rfl
    have f217 : g 217 = (1) * g 213 + (-1073741824) := eqs_at hE 317 _ rfl
    have f218 : g 218 = (1) * g 213 + (1073741824) := eqs_at hE 316 _ rfl
    have f219 : g 219 = divv (satv (g 217) * 2 ^ 30) (satv (g 218)) := eqs_at hE 315 _ rfl
    have f220 : g 220 = mq (g 219) (g 219) := eqs_at hE 314 _ rfl
    have f221 : g 221 = mq (g 220) ((46684427)) := eqs_at hE 313 _ rfl
    have f223 : g 223 = (-1) * g 221 + (51130563) := eqs_at hE 311 _ rfl
    have f224 : g 224 = mq (g 220) (g 223) := eqs_at hE 310 _ rfl
    have f225 : g 225 = (1) * g 224 + (-56512728) := eqs_at hE 309 _ rfl
    have f226 : g 226 = mq (g 220) (g 225) := eqs_at hE 308 _ rfl
    have f227 : g 227 = (1) * g 226 + (63161284) := eqs_at hE 307 _ rfl
    have f228 : g 228 = mq (g 220) (g 227) := eqs_at hE 306 _ rfl
    have f229 : g 229 = (1) * g 228 + (-71582788) := eqs_at hE 305 _ rfl
    have f230 : g 230 = mq (g 220) (g 229) := eqs_at hE 304 _ rfl
    have f231 : g 231 = (1) * g 230 + (82595525) := eqs_at hE 303 _ rfl
    have f232 : g 232 = mq (g 220) (g 231) := eqs_at hE 302 _ rfl
    have f233 : g 233 = (1) * g 232 + (-97612893) := eqs_at hE 301 _ rfl
    have f234 : g 234 = mq (g 220) (g 233) := eqs_at hE 300 _ rfl
    have f235 : g 235 = (1) * g 234 + (119304647) := eqs_at hE 299 _ rfl
    have f236 : g 236 = mq (g 220) (g 235) := eqs_at hE 298 _ rfl
    have f237 : g 237 = (1) * g 236 + (-153391689) := eqs_at hE 297 _ rfl
    have f238 : g 238 = mq (g 220) (g 237) := eqs_at hE 296 _ rfl
    have f239 : g 239 = (1) * g 238 + (214748365) := eqs_at hE 295 _ rfl
    have f240 : g 240 = mq (g 220) (g 239) := eqs_at hE 294 _ rfl
    have f241 : g 241 = (1) * g 240 + (-357913941) := eqs_at hE 293 _ rfl
    have f242 : g 242 = mq (g 220) (g 241) := eqs_at hE 292 _ rfl
    have f243 : g 243 = (1) * g 242 + (1073741824) := eqs_at hE 291 _ rfl
    have f244 : g 244 = mq (g 219) (g 243) := eqs_at hE 290 _ rfl
    have f246 : g 246 = (-1) * g 244 + (2529944569) := eqs_at hE 288 _ rfl
    have f247 : g 247 = mq (g 213) (g 213) := eqs_at hE 287 _ rfl
    have f248 : g 248 = mq (g 247) ((46684427)) := eqs_at hE 286 _ rfl
    have f250 : g 250 = (-1) * g 248 + (51130563) := eqs_at hE 284 _ rfl
    have f251 : g 251 = mq (g 247) (g 250) := eqs_at hE 283 _ rfl
    have f252 : g 252 = (1) * g 251 + (-56512728) := eqs_at hE 282 _ rfl
    have f253 : g 253 = mq (g 247) (g 252) := eqs_at hE 281 _ rfl
    have f254 : g 254 = (1) * g 253 + (63161284) := eqs_at hE 280 _ rfl
    have f255 : g 255 = mq (g 247) (g 254) := eqs_at hE 279 _ rfl
    have f256 : g 256 = (1) * g 255 + (-71582788) := eqs_at hE 278 _ rfl
    have f257 : g 257 = mq (g 247) (g 256) := eqs_at hE 277 _ rfl
    have f258 : g 258 = (1) * g 257 + (82595525) := eqs_at hE 276 _ rfl
    have f259 : g 259 = mq (g 247) (g 258) := eqs_at hE 275 _ rfl
    have f260 : g 260 = (1) * g 259 + (-97612893) := eqs_at hE 274 _ rfl
    have f261 : g 261 = mq (g 247) (g 260) := eqs_at hE 273 _ rfl
    have f262 : g 262 = (1) * g 261 + (119304647) := eqs_at hE 272 _ rfl
    have f263 : g 263 = mq (g 247) (g 262) := eqs_at hE 271 _ rfl
    have f264 : g 264 = (1) * g 263 + (-153391689) := eqs_at hE 270 _ rfl
    have f265 : g 265 = mq (g 247) (g 264) := eqs_at hE 269 _ rfl
    have f266 : g 266 = (1) * g 265 + (214748365) := eqs_at hE 268 _ rfl
    have f267 : g 267 = mq (g 247) (g 266) := eqs_at hE 267 _ rfl
    have f268 : g 268 = (1) * g 267 + (-357913941) := eqs_at hE 266 _ rfl
    have f269 : g 269 = mq (g 247) (g 268) := eqs_at hE 265 _ rfl
    have f270 : g 270 = (1) * g 269 + (1073741824) := eqs_at hE 264 _ rfl
    have f271 : g 271 = mq (g 213) (g 270) := eqs_at hE 263 _ rfl
    have f272 : g 272 = (-1) * g 271 + (3373259426) := eqs_at hE 262 _ rfl
    have f273 : g 273 = bif ieq (g 216) 1 then g 246 else g 272 := eqs_at hE 261 _ rfl
    have l244 : g 244 = mq (g 219) (atanS (mq (g 219) (g 219))) := by
      simp only [f244, f243, f242, f241, f240, f239, f238, f237, f236, f235, f234, f233, f232, f231, f230, f229, f228, f227, f226, f225, f224, f223, f221, f220, atanS]
      simp only [Int.one_mul, Int.neg_mul, Int.sub_eq_add_neg, Int.add_comm]
    have l271 : g 271 = mq (g 213) (atanS (mq (g 213) (g 213))) := by
      simp only [f271, f270, f269, f268, f267, f266, f265, f264, f263, f262, f261, f260, f259, f258, f257, f256, f255, f254, f253, f252, f251, f250, f248, f247, atanS]
      simp only [Int.one_mul, Int.neg_mul, Int.sub_eq_add_neg, Int.add_comm]
    rw [f273, f216, ieq_b2i, lssF, Bool.cond_decide]
    unfold slopeF
    split
    · rw [f246]; rw [l244, f219, f217, f218, show (1 : Int) * g 213 + -1073741824 = g 213 - 1073741824 by omega, show (1 : Int) * g 213 + 1073741824 = g 213 + 1073741824 by omega]; try omega
    · rw [f272]; rw [l271]; try omega
set_option maxRecDepth 100000 in
theorem atanQ_341 {g : Sg} (hE : EqsP g atanQ.ds) : g 341 = (1) * slopeF (g 279) + (-1686629713) := by
    have f282 : g 282 = b2i (cmpF .lss ((444758426)) (g 279)) := eqs_at hE 252 _ rfl
    have f283 : g 283 = (1) * g 279 + (-1073741824) := eqs_at hE 251 _ rfl
    have f284 : g 284 = (1) * g 279 + (1073741824) := eqs_at hE 250 _ rfl
    have f285 : g 285 = divv (satv (g 283) * 2 ^ 30) (satv (g 284)) := eqs_at hE 249 _ rfl
    have f286 : g 286 = mq (g 285) (g 285) := eqs_at hE 248 _ rfl
    have f287 : g 287 = mq (g 286) ((46684427)) := eqs_at hE 247 _ rfl
    have f289 : g 289 = (-1) * g 287 + (51130563) := eqs_at hE 245 _ rfl
    have f290 : g 290 = mq (g 286) (g 289) := eqs_at hE 244 _ rfl
    have f291 : g 291 = (1) * g 290 + (-56512728) := eqs_at hE 243 _ rfl
    have f292 : g 292 = mq (g 286) (g 291) := eqs_at hE 242 _ rfl
    have f293 : g 293 = (1) * g 292 + (63161284) := eqs_at hE 241 _ rfl
    have f294 : g 294 = mq (g 286) (g 293) := eqs_at hE 240 _ rfl
    have f295 : g 295 = (1) * g 294 + (-71582788) := eqs_at hE 239 _ rfl
    have f296 : g 296 = mq (g 286) (g 295) := eqs_at hE 238 _ rfl
    have f297 : g 297 = (1) * g 296 + (82595525) := eqs_at hE 237 _ rfl
    have f298 : g 298 = mq (g 286) (g 297) := eqs_at hE 236 _ rfl
    have f299 : g 299 = (1) * g 298 + (-97612893) := eqs_at hE 235 _ rfl
    have f300 : g 300 = mq (g 286) (g 299) := eqs_at hE 234 _ rfl
    have f301 : g 301 = (1) * g 300 + (119304647) := eqs_at hE 233 _ rfl
    have f302 : g 302 = mq (g 286) (g 301) := eqs_at hE 232 _ rfl
    have f303 : g 303 = (1) * g 302 + (-153391689) := eqs_at hE 231 _ rfl
    have f304 : g 304 = mq (g 286) (g 303) := eqs_at hE 230 _ rfl
    have f305 : g 305 = (1) * g 304 + (214748365) := eqs_at hE 229 _ rfl
    have f306 : g 306 = mq (g 286) (g 305) := eqs_at hE 228 _ rfl
    have f307 : g 307 = (1) * g 306 + (-357913941) := eqs_at hE 227 _ rfl
    have f308 : g 308 = mq (g 286) (g 307) := eqs_at hE 226 _ rfl
    have f309 : g 309 = (1) * g 308 + (1073741824) := eqs_at hE 225 _ rfl
    have f310 : g 310 = mq (g 285) (g 309) := eqs_at hE 224 _ rfl
    have f313 : g 313 = (1) * g 310 + (-843314856) := eqs_at hE 221 _ rfl
    have f314 : g 314 = mq (g 279) (g 279) := eqs_at hE 220 _ rfl
    have f315 : g 315 = mq (g 314) ((46684427)) := eqs_at hE 219 _ rfl
    have f317 : g 317 = (-1) * g 315 + (51130563) := eqs_at hE 217 _ rfl
    have f318 : g 318 = mq (g 314) (g 317) := eqs_at hE 216 _ rfl
    have f319 : g 319 = (1) * g 318 + (-56512728) := eqs_at hE 215 _ rfl
    have f320 : g 320 = mq (g 314) (g 319) := eqs_at hE 214 _ rfl
    have f321 : g 321 = (1) * g 320 + (63161284) := eqs_at hE 213 _ rfl
    have f322 : g 322 = mq (g 314) (g 321) := eqs_at hE 212 _ rfl
    have f323 : g 323 = (1) * g 322 + (-71582788) := eqs_at hE 211 _ rfl
    have f324 : g 324 = mq (g 314) (g 323) := eqs_at hE 210 _ rfl
    have f325 : g 325 = (1) * g 324 + (82595525) := eqs_at hE 209 _ rfl
    have f326 : g 326 = mq (g 314) (g 325) := eqs_at hE 208 _ rfl
    have f327 : g 327 = (1) * g 326 + (-97612893) := eqs_at hE 207 _ rfl
    have f328 : g 328 = mq (g 314) (g 327) := eqs_at hE 206 _ rfl
    have f329 : g 329 = (1) * g 328 + (119304647) := eqs_at hE 205 _ rfl
    have f330 : g 330 = mq (g 314) (g 329) := eqs_at hE 204 _ rfl
    have f331 : g 331 = (1) * g 330 + (-153391689) := eqs_at hE 203 _ rfl
    have f332 : g 332 = mq (g 314) (g 331) := eqs_at hE 202 _ rfl
    have f333 : g 333 = (1) * g 332 + (214748365) := eqs_at hE 201 _ rfl
    have f334 : g 334 = mq (g 314) (g 333) := eqs_at hE 200 _ rfl
    have f335 : g 335 = (1) * g 334 + (-357913941) := eqs_at hE 199 _ rfl
    have f336 : g 336 = mq (g 314) (g 335) := eqs_at hE 198 _ rfl
    have f337 : g 337 = (1) * g 336 + (1073741824) := eqs_at hE 197 _ rfl
    have f338 : g 338 = mq (g 279) (g 337) := eqs_at hE 196 _ rfl
    have f340 : g 340 = (1) * g 338 + (-1686629713) := eqs_at hE 194 _ rfl
    have f341 : g 341 = bif ieq (g 282) 1 then g 313 else g 340 := eqs_at hE 193 _ rfl
    have l310 : g 310 = mq (g 285) (atanS (mq (g 285) (g 285))) := by
      simp only [f310, f309, f308, f307, f306, f305, f304, f303, f302, f301, f300, f299, f298, f297, f296, f295, f294, f293, f292, f291, f290, f289, f287, f286, atanS]
      simp only [Int.one_mul, Int.neg_mul, Int.sub_eq_add_neg, Int.add_comm]
    have l338 : g 338 = mq (g 279) (atanS (mq (g 279) (g 279))) := by
      simp only [f338, f337, f336, f335, f334, f333, f332, f331, f330, f329, f328, f327, f326, f325, f324, f323, f322, f321, f320, f319, f318, f317, f315, f314, atanS]
      simp only [Int.one_mul, Int.neg_mul, Int.sub_eq_add_neg, Int.add_comm]
    rw [f341, f282, ieq_b2i, lssF, Bool.cond_decide]
    unfold slopeF
    split
    · rw [f313]; rw [l310, f285, f283, f284, show (1 : Int) * g 279 + -1073741824 = g 279 - 1073741824 by omega, show (1 : Int) * g 279 + 1073741824 = g 279 + 1073741824 by omega]; try omega
    · rw [f340]; rw [l338]; try omega
set_option maxRecDepth 100000 in
theorem atanQ_403 {g : Sg} (hE : EqsP g atanQ.ds) : g 403 = (-1) * slopeF (g 343) + (0) := by
    have f346 : g 346 = b2i (cmpF .lss ((444758426)) (g 343)) := eqs_at hE 188 _ rfl
    have f347 : g 347 = (1) * g 343 + (-1073741824) := eqs_at hE 187 _ rfl
    have f348 : g 348 = (1) * g 343 + (1073741824) := eqs_at hE 186 _ rfl
    have f349 : g 349 = divv (satv (g 347) * 2 ^ 30) (satv (g 348)) := eqs_at hE 185 _ rfl
    have f350 : g 350 = mq (g 349) (g 349) := eqs_at hE 184 _ rfl
    have f351 : g 351 = mq (g 350) ((46684427)) := eqs_at hE 183 _ rfl
    have f353 : g 353 = (-1) * g 351 + (51130563) := eqs_at hE 181 _ rfl
    have f354 : g 354 = mq (g 350) (g 353) := eqs_at hE 180 _ rfl
    have f355 : g 355 = (1) * g 354 + (-56512728) := eqs_at hE 179 _ rfl
    have f356 : g 356 = mq (g 350) (g 355) := eqs_at hE 178 _ rfl
    have f357 : g 357 = (1) * g 356 + (63161284) := eqs_at hE 177 _ rfl
    have f358 : g 358 = mq (g 350) (g 357) := eqs_at hE 176 _ rfl
    have f359 : g 359 = (1) * g 358 + (-71582788) := eqs_at hE 175 _ rfl
    have f360 : g 360 = mq (g 350) (g 359) := eqs_at hE 174 _ rfl
    have f361 : g 361 = (1) * g 360 + (82595525) := eqs_at hE 173 _ rfl
    have f362 : g 362 = mq (g 350) (g 361) := eqs_at hE 172 _ rfl
    have f363 : g 363 = (1) * g 362 + (-97612893) := eqs_at hE 171 _ rfl
    have f364 : g 364 = mq (g 350) (g 363) := eqs_at hE 170 _ rfl
    have f365 : g 365 = (1) * g 364 + (119304647) := eqs_at hE 169 _ rfl
    have f366 : g 366 = mq (g 350) (g 365) := eqs_at hE 168 _ rfl
    have f367 : g 367 = (1) * g 366 + (-153391689) := eqs_at hE 167 _ rfl
    have f368 : g 368 = mq (g 350) (g 367) := eqs_at hE 166 _ rfl
    have f369 : g 369 = (1) * g 368 + (214748365) := eqs_at hE 165 _ rfl
    have f370 : g 370 = mq (g 350) (g 369) := eqs_at hE 164 _ rfl
    have f371 : g 371 = (1) * g 370 + (-357913941) := eqs_at hE 163 _ rfl
    have f372 : g 372 = mq (g 350) (g 371) := eqs_at hE 162 _ rfl
    have f373 : g 373 = (1) * g 372 + (1073741824) := eqs_at hE 161 _ rfl
    have f374 : g 374 = mq (g 349) (g 373) := eqs_at hE 160 _ rfl
    have f376 : g 376 = (-1) * g 374 + (-843314857) := eqs_at hE 158 _ rfl
    have f377 : g 377 = mq (g 343) (g 343) := eqs_at hE 157 _ rfl
    have f378 : g 378 = mq (g 377) ((46684427)) := eqs_at hE 156 _ rfl
    have f380 : g 380 = (-1) * g 378 + (51130563) := eqs_at hE 154 _ rfl
    have f381 : g 381 = mq (g 377) (g 380) := eqs_at hE 153 _ rfl
    have f382 : g 382 = (1) * g 381 + (-56512728) := eqs_at hE 152 _ rfl
    have f383 : g 383 = mq (g 377) (g 382) := eqs_at hE 151 _ rfl
    have f384 : g 384 = (1) * g 383 + (63161284) := eqs_at hE 150 _ rfl
    have f385 : g 385 = mq (g 377) (g 384) := eqs_at hE 149 _ rfl
    have f386 : g 386 = (1) * g 385 + (-71582788) := eqs_at hE 148 _ rfl
    have f387 : g 387 = mq (g 377) (g 386) := eqs_at hE 147 _ rfl
    have f388 : g 388 = (1) * g 387 + (82595525) := eqs_at hE 146 _ rfl
    have f389 : g 389 = mq (g 377) (g 388) := eqs_at hE 145 _ rfl
    have f390 : g 390 = (1) * g 389 + (-97612893) := eqs_at hE 144 _ rfl
    have f391 : g 391 = mq (g 377) (g 390) := eqs_at hE 143 _ rfl
    have f392 : g 392 = (1) * g 391 + (119304647) := eqs_at hE 142 _ rfl
    have f393 : g 393 = mq (g 377) (g 392) := eqs_at hE 141 _ rfl
    have f394 : g 394 = (1) * g 393 + (-153391689) := eqs_at hE 140 _ rfl
    have f395 : g 395 = mq (g 377) (g 394) := eqs_at hE 139 _ rfl
    have f396 : g 396 = (1) * g 395 + (214748365) := eqs_at hE 138 _ rfl
    have f397 : g 397 = mq (g 377) (g 396) := eqs_at hE 137 _ rfl
    have f398 : g 398 = (1) * g 397 + (-357913941) := eqs_at hE 136 _ rfl
    have f399 : g 399 = mq (g 377) (g 398) := eqs_at hE 135 _ rfl
    have f400 : g 400 = (1) * g 399 + (1073741824) := eqs_at hE 134 _ rfl
    have f401 : g 401 = mq (g 343) (g 400) := eqs_at hE 133 _ rfl
    have f402 : g 402 = (-1) * g 401 + (0) := eqs_at hE 132 _ rfl
    have f403 : g 403 = bif ieq (g 346) 1 then g 376 else g 402 := eqs_at hE 131 _ rfl
    have l374 : g 374 = mq (g 349) (atanS (mq (g 349) (g 349))) := by
      simp only [f374, f373, f372, f371, f370, f369, f368, f367, f366, f365, f364, f363, f362, f361, f360, f359, f358, f357, f356, f355, f354, f353, f351, f350, atanS]
      simp only [Int.one_mul, Int.neg_mul, Int.sub_eq_add_neg, Int.add_comm]
    have l401 : g 401 = mq (g 343) (atanS (mq (g 343) (g 343))) := by
      simp only [f401, f400, f399, f398, f397, f396, f395, f394, f393, f392, f391, f390, f389, f388, f387, f386, f385, f384, f383, f382, f381, f380, f378, f377, atanS]
      simp only [Int.one_mul, Int.neg_mul, Int.sub_eq_add_neg, Int.add_comm]
    rw [f403, f346, ieq_b2i, lssF, Bool.cond_decide]
    unfold slopeF
    split
    · rw [f376]; rw [l374, f349, f347, f348, show (1 : Int) * g 343 + -1073741824 = g 343 - 1073741824 by omega, show (1 : Int) * g 343 + 1073741824 = g 343 + 1073741824 by omega]; try omega
    · rw [f402]; rw [l401]; try omega
set_option maxRecDepth 100000 in
theorem atanQ_467 {g : Sg} (hE : EqsP g atanQ.ds) : g 467 = (-1) * slopeF (g 407) + (1686629713) := by
    have f410 : g 410 = b2i (cmpF .lss ((444758426)) (g 407)) := eqs_at hE 124 _ rfl
    have f411 : g 411 = (1) * g 407 + (-1073741824) := eqs_at hE 123 _ rfl
    have f412 : g 412 = (1) * g 407 + (1073741824) := eqs_at hE 122 _ rfl
    have f413 : g 413 = divv (satv (g 411) * 2 ^ 30) (satv (g 412)) := eqs_at hE 121 _ rfl
    have f414 : g 414 = mq (g 413) (g 413) := eqs_at hE 120 _ rfl
    have f415 : g 415 = mq (g 414) ((46684427)) := eqs_at hE 119 _ rfl
    have f417 : g 417 = (-1) * g 415 + (51130563) := eqs_at hE 117 _ rfl
    have f418 : g 418 = mq (g 414) (g 417) := eqs_at hE 116 _ rfl
    have f419 : g 419 = (1) * g 418 + (-56512728) := eqs_at hE 115 _ rfl
    have f420 : g 420 = mq (g 414) (g 419) := eqs_at hE 114 _ rfl
    have f421 : g 421 = (1) * g 420 + (63161284) := eqs_at hE 113 _ rfl
    have f422 : g 422 = mq (g 414) (g 421) := eqs_at hE 112 _ rfl
    have f423 : g 423 = (1) * g 422 + (-71582788) := eqs_at hE 111 _ rfl
    have f424 : g 424 = mq (g 414) (g 423) := eqs_at hE 110 _ rfl
    have f425 : g 425 = (1) * g 424 + (82595525) := eqs_at hE 109 _ rfl
    have f426 : g 426 = mq (g 414) (g 425) := eqs_at hE 108 _ rfl
    have f427 : g 427 = (1) * g 426 + (-97612893) := eqs_at hE 107 _ rfl
    have f428 : g 428 = mq (g 414) (g 427) := eqs_at hE 106 _ rfl
    have f429 : g 429 = (1) * g 428 + (119304647) := eqs_at hE 105 _ rfl
    have f430 : g 430 = mq (g 414) (g 429) := eqs_at hE 104 _ rfl
    have f431 : g 431 = (1) * g 430 + (-153391689) := eqs_at hE 103 _ rfl
    have f432 : g 432 = mq (g 414) (g 431) := eqs_at hE 102 _ rfl
    have f433 : g 433 = (1) * g 432 + (214748365) := eqs_at hE 101 _ rfl
    have f434 : g 434 = mq (g 414) (g 433) := eqs_at hE 100 _ rfl
    have f435 : g 435 = (1) * g 434 + (-357913941) := eqs_at hE 99 _ rfl
    have f436 : g 436 = mq (g 414) (g 435) := eqs_at hE 98 _ rfl
    have f437 : g 437 = (1) * g 436 + (1073741824) := eqs_at hE 97 _ rfl
    have f438 : g 438 = mq (g 413) (g 437) := eqs_at hE 96 _ rfl
    have f440 : g 440 = (-1) * g 438 + (843314856) := eqs_at hE 94 _ rfl
    have f441 : g 441 = mq (g 407) (g 407) := eqs_at hE 93 _ rfl
    have f442 : g 442 = mq (g 441) ((46684427)) := eqs_at hE 92 _ rfl
    have f444 : g 444 = (-1) * g 442 + (51130563) := eqs_at hE 90 _ rfl
    have f445 : g 445 = mq (g 441) (g 444) := eqs_at hE 89 _ rfl
    have f446 : g 446 = (1) * g 445 + (-56512728) := eqs_at hE 88 _ rfl
    have f447 : g 447 = mq (g 441) (g 446) := eqs_at hE 87 _ rfl
    have f448 : g 448 = (1) * g 447 + (63161284) := eqs_at hE 86 _ rfl
    have f449 : g 449 = mq (g 441) (g 448) := eqs_at hE 85 _ rfl
    have f450 : g 450 = (1) * g 449 + (-71582788) := eqs_at hE 84 _ rfl
    have f451 : g 451 = mq (g 441) (g 450) := eqs_at hE 83 _ rfl
    have f452 : g 452 = (1) * g 451 + (82595525) := eqs_at hE 82 _ rfl
    have f453 : g 453 = mq (g 441) (g 452) := eqs_at hE 81 _ rfl
    have f454 : g 454 = (1) * g 453 + (-97612893) := eqs_at hE 80 _ rfl
    have f455 : g 455 = mq (g 441) (g 454) := eqs_at hE 79 _ rfl
    have f456 : g 456 = (1) * g 455 + (119304647) := eqs_at hE 78 _ rfl
    have f457 : g 457 = mq (g 441) (g 456) := eqs_at hE 77 _ rfl
    have f458 : g 458 = (1) * g 457 + (-153391689) := eqs_at hE 76 _ rfl
    have f459 : g 459 = mq (g 441) (g 458) := eqs_at hE 75 _ rfl
    have f460 : g 460 = (1) * g 459 + (214748365) := eqs_at hE 74 _ rfl
    have f461 : g 461 = mq (g 441) (g 460) := eqs_at hE 73 _ rfl
    have f462 : g 462 = (1) * g 461 + (-357913941) := eqs_at hE 72 _ rfl
    have f463 : g 463 = mq (g 441) (g 462) := eqs_at hE 71 _ rfl
    have f464 : g 464 = (1) * g 463 + (1073741824) := eqs_at hE 70 _ rfl
    have f465 : g 465 = mq (g 407) (g 464) := eqs_at hE 69 _ rfl
    have f466 : g 466 = (-1) * g 465 + (1686629713) := eqs_at hE 68 _ rfl
    have f467 : g 467 = bif ieq (g 410) 1 then g 440 else g 466 := eqs_at hE 67 _ rfl
    have l438 : g 438 = mq (g 413) (atanS (mq (g 413) (g 413))) := by
      simp only [f438, f437, f436, f435, f434, f433, f432, f431, f430, f429, f428, f427, f426, f425, f424, f423, f422, f421, f420, f419, f418, f417, f415, f414, atanS]
      simp only [Int.one_mul, Int.neg_mul, Int.sub_eq_add_neg, Int.add_comm]
    have l465 : g 465 = mq (g 407) (atanS (mq (g 407) (g 407))) := by
      simp only [f465, f464, f463, f462, f461, f460, f459, f458, f457, f456, f455, f454, f453, f452, f451, f450, f449, f448, f447, f446, f445, f444, f442, f441, atanS]
      simp only [Int.one_mul, Int.neg_mul, Int.sub_eq_add_neg, Int.add_comm]
    rw [f467, f410, ieq_b2i, lssF, Bool.cond_decide]
    unfold slopeF
    split
    · rw [f440]; rw [l438, f413, f411, f412, show (1 : Int) * g 407 + -1073741824 = g 407 - 1073741824 by omega, show (1 : Int) * g 407 + 1073741824 = g 407 + 1073741824 by omega]; try omega
    · rw [f466]; rw [l465]; try omega
set_option maxRecDepth 100000 in
theorem atanQ_526 {g : Sg} (hE : EqsP g atanQ.ds) : g 526 = (1) * slopeF (g 468) + (0) := by
    have f471 : g 471 = b2i (cmpF .lss ((444758426)) (g 468)) := eqs_at hE 63 _ rfl
    have f472 : g 472 = (1) * g 468 + (-1073741824) := eqs_at hE 62 _ rfl
    have f473 : g 473 = (1) * g 468 + (1073741824) := eqs_at hE 61 _ rfl
    have f474 : g 474 = divv (satv (g 472) * 2 ^ 30) (satv (g 473)) := eqs_at hE 60 _ rfl
    have f475 : g 475 = mq (g 474) (g 474) := eqs_at hE 59 _ rfl
    have f476 : g 476 = mq (g 475) ((46684427)) := eqs_at hE 58 _ rfl
    have f478 : g 478 = (-1) * g 476 + (51130563) := eqs_at hE 56 _ rfl
    have f479 : g 479 = mq (g 475) (g 478) := eqs_at hE 55 _ rfl
    have f480 : g 480 = (1) * g 479 + (-56512728) := eqs_at hE 54 _ rfl
    have f481 : g 481 = mq (g 475) (g 480) := eqs_at hE 53 _ rfl
    have f482 : g 482 = (1) * g 481 + (63161284) := eqs_at hE 52 _ rfl
    have f483 : g 483 = mq (g 475) (g 482) := eqs_at hE 51 _ rfl
    have f484 : g 484 = (1) * g 483 + (-71582788) := eqs_at hE 50 _ rfl
    have f485 : g 485 = mq (g 475) (g 484) := eqs_at hE 49 _ rfl
    have f486 : g 486 = (1) * g 485 + (82595525) := eqs_at hE 48 _ rfl
    have f487 : g 487 = mq (g 475) (g 486) := eqs_at hE 47 _ rfl
    have f488 : g 488 = (1) * g 487 + (-97612893) := eqs_at hE 46 _ rfl
    have f489 : g 489 = mq (g 475) (g 488) := eqs_at hE 45 _ rfl
    have f490 : g 490 = (1) * g 489 + (119304647) := eqs_at hE 44 _ rfl
    have f491 : g 491 = mq (g 475) (g 490) := eqs_at hE 43 _ rfl
    have f492 : g 492 = (1) * g 491 + (-153391689) := eqs_at hE 42 _ rfl
    have f493 : g 493 = mq (g 475) (g 492) := eqs_at hE 41 _ rfl
    have f494 : g 494 = (1) * g 493 + (214748365) := eqs_at hE 40 _ rfl
    have f495 : g 495 = mq (g 475) (g 494) := eqs_at hE 39 _ rfl
    have f496 : g 496 = (1) * g 495 + (-357913941) := eqs_at hE 38 _ rfl
    have f497 : g 497 = mq (g 475) (g 496) := eqs_at hE 37 _ rfl
    have f498 : g 498 = (1) * g 497 + (1073741824) := eqs_at hE 36 _ rfl
    have f499 : g 499 = mq (g 474) (g 498) := eqs_at hE 35 _ rfl
    have f500 : g 500 = (1) * g 499 + (843314857) := eqs_at hE 34 _ rfl
    have f501 : g 501 = mq (g 468) (g 468) := eqs_at hE 33 _ rfl
    have f502 : g 502 = mq (g 501) ((46684427)) := eqs_at hE 32 _ rfl
    have f504 : g 504 = (-1) * g 502 + (51130563) := eqs_at hE 30 _ rfl
    have f505 : g 505 = mq (g 501) (g 504) := eqs_at hE 29 _ rfl
    have f506 : g 506 = (1) * g 505 + (-56512728) := eqs_at hE 28 _ rfl
    have f507 : g 507 = mq (g 501) (g 506) := eqs_at hE 27 _ rfl
    have f508 : g 508 = (1) * g 507 + (63161284) := eqs_at hE 26 _ rfl
    have f509 : g 509 = mq (g 501) (g 508) := eqs_at hE 25 _ rfl
    have f510 : g 510 = (1) * g 509 + (-71582788) := eqs_at hE 24 _ rfl
    have f511 : g 511 = mq (g 501) (g 510) := eqs_at hE 23 _ rfl
    have f512 : g 512 = (1) * g 511 + (82595525) := eqs_at hE 22 _ rfl
    have f513 : g 513 = mq (g 501) (g 512) := eqs_at hE 21 _ rfl
    have f514 : g 514 = (1) * g 513 + (-97612893) := eqs_at hE 20 _ rfl
    have f515 : g 515 = mq (g 501) (g 514) := eqs_at hE 19 _ rfl
    have f516 : g 516 = (1) * g 515 + (119304647) := eqs_at hE 18 _ rfl
    have f517 : g 517 = mq (g 501) (g 516) := eqs_at hE 17 _ rfl
    have f518 : g 518 = (1) * g 517 + (-153391689) := eqs_at hE 16 _ rfl
    have f519 : g 519 = mq (g 501) (g 518) := eqs_at hE 15 _ rfl
    have f520 : g 520 = (1) * g 519 + (214748365) := eqs_at hE 14 _ rfl
    have f521 : g 521 = mq (g 501) (g 520) := eqs_at hE 13 _ rfl
    have f522 : g 522 = (1) * g 521 + (-357913941) := eqs_at hE 12 _ rfl
    have f523 : g 523 = mq (g 501) (g 522) := eqs_at hE 11 _ rfl
    have f524 : g 524 = (1) * g 523 + (1073741824) := eqs_at hE 10 _ rfl
    have f525 : g 525 = mq (g 468) (g 524) := eqs_at hE 9 _ rfl
    have f526 : g 526 = bif ieq (g 471) 1 then g 500 else g 525 := eqs_at hE 8 _ rfl
    have l499 : g 499 = mq (g 474) (atanS (mq (g 474) (g 474))) := by
      simp only [f499, f498, f497, f496, f495, f494, f493, f492, f491, f490, f489, f488, f487, f486, f485, f484, f483, f482, f481, f480, f479, f478, f476, f475, atanS]
      simp only [Int.one_mul, Int.neg_mul, Int.sub_eq_add_neg, Int.add_comm]
    have l525 : g 525 = mq (g 468) (atanS (mq (g 468) (g 468))) := by
      simp only [f525, f524, f523, f522, f521, f520, f519, f518, f517, f516, f515, f514, f513, f512, f511, f510, f509, f508, f507, f506, f505, f504, f502, f501, atanS]
      simp only [Int.one_mul, Int.neg_mul, Int.sub_eq_add_neg, Int.add_comm]
    rw [f526, f471, ieq_b2i, lssF, Bool.cond_decide]
    unfold slopeF
    split
    · rw [f500]; rw [l499, f474, f472, f473, show (1 : Int) * g 468 + -1073741824 = g 468 - 1073741824 by omega, show (1 : Int) * g 468 + 1073741824 = g 468 + 1073741824 by omega]; try omega
    · rw [l525]; try omega
set_option maxRecDepth 100000 in
set_option maxHeartbeats 2000000 in
theorem atanQ_case {g : Sg} : CaseOk g 47 (ownS 60 [none, none] 38 39) :=
  own_case atanF_i64 fun az hbs hk q hb w hw => by
    match az, hbs with
    | [y, x], _ =>
    have hy : inK .i64 y := hk y (List.mem_cons_self ..)
    have hx : inK .i64 x := hk x (List.mem_cons_of_mem _ (List.mem_cons_self ..))
    obtain ⟨g, hga, hE, hc⟩ := fun_call namesOk mixed (fun g => sums3_ok g) [y, x] atanQ.ran hb (fun g hj hE c hc => by cases hc) hk q w hw
    have e0 : g 0 = b2i hb := hga 0 (by simp)
    have e1 : g 1 = y := hga 1 (by simp)
    have e2 : g 2 = x := hga 2 (by simp)
    have f3 : g 3 = wrapF .i64 (g 1) := eqs_at hE 531 _ rfl
    have f4 : g 4 = wrapF .i64 (g 2) := eqs_at hE 530 _ rfl
    have f5 : g 5 = satv (g 3) := eqs_at hE 529 _ rfl
    have f6 : g 6 = b2i (sath (g 3)) := eqs_at hE 528 _ rfl
    have f7 : g 7 = bif ieq (g 0) 1 then (1) else g 6 := eqs_at hE 527 _ rfl
    have f8 : g 8 = satv (g 4) := eqs_at hE 526 _ rfl
    have f9 : g 9 = b2i (sath (g 4)) := eqs_at hE 525 _ rfl
    have f10 : g 10 = bif ieq (g 7) 1 then (1) else g 9 := eqs_at hE 524 _ rfl
    have f11 : g 11 = b2i (cmpF .lss (g 8) ((0))) := eqs_at hE 523 _ rfl
    have f12 : g 12 = (-1) * g 8 + (0) := eqs_at hE 522 _ rfl
    have f13 : g 13 = b2i (cmpF .lss (g 5) ((0))) := eqs_at hE 521 _ rfl
    have f14 : g 14 = (-1) * g 5 + (0) := eqs_at hE 520 _ rfl
    have f15 : g 15 = b2i (cmpF .lss (g 12) (g 14)) := eqs_at hE 519 _ rfl
    have f17 : g 17 = divv (satv (g 12) * 2 ^ 30) (satv (g 14)) := eqs_at hE 517 _ rfl
    have f18 : g 18 = b2i (sath (g 12) || sath (g 14) || divh (satv (g 12) * 2 ^ 30) (satv (g 14))) := eqs_at hE 516 _ rfl
    have f19 : g 19 = bif ieq (g 10) 1 then (1) else g 18 := eqs_at hE 515 _ rfl
    have f83 : g 83 = divv (satv (g 14) * 2 ^ 30) (satv (g 12)) := eqs_at hE 451 _ rfl
    have f84 : g 84 = b2i (sath (g 14) || sath (g 12) || divh (satv (g 14) * 2 ^ 30) (satv (g 12))) := eqs_at hE 450 _ rfl
    have f85 : g 85 = bif ieq (g 10) 1 then (1) else g 84 := eqs_at hE 449 _ rfl
    have f146 : g 146 = bif ieq (g 15) 1 then g 81 else g 145 := eqs_at hE 388 _ rfl
    have f147 : g 147 = bif ieq (g 15) 1 then g 19 else g 85 := eqs_at hE 387 _ rfl
    have f148 : g 148 = b2i (cmpF .lss (g 12) (g 5)) := eqs_at hE 386 _ rfl
    have f150 : g 150 = divv (satv (g 12) * 2 ^ 30) (satv (g 5)) := eqs_at hE 384 _ rfl
    have f151 : g 151 = b2i (sath (g 12) || sath (g 5) || divh (satv (g 12) * 2 ^ 30) (satv (g 5))) := eqs_at hE 383 _ rfl
    have f152 : g 152 = bif ieq (g 10) 1 then (1) else g 151 := eqs_at hE 382 _ rfl
    have f213 : g 213 = divv (satv (g 5) * 2 ^ 30) (satv (g 12)) := eqs_at hE 321 _ rfl
    have f214 : g 214 = b2i (sath (g 5) || sath (g 12) || divh (satv (g 5) * 2 ^ 30) (satv (g 12))) := eqs_at hE 320 _ rfl
    have f215 : g 215 = bif ieq (g 10) 1 then (1) else g 214 := eqs_at hE 319 _ rfl
    have f274 : g 274 = bif ieq (g 148) 1 then g 212 else g 273 := eqs_at hE 260 _ rfl
    have f275 : g 275 = bif ieq (g 148) 1 then g 152 else g 215 := eqs_at hE 259 _ rfl
    have f276 : g 276 = bif ieq (g 13) 1 then g 146 else g 274 := eqs_at hE 258 _ rfl
    have f277 : g 277 = bif ieq (g 13) 1 then g 147 else g 275 := eqs_at hE 257 _ rfl
    have f278 : g 278 = b2i (cmpF .lss (g 8) (g 14)) := eqs_at hE 256 _ rfl
    have f279 : g 279 = divv (satv (g 8) * 2 ^ 30) (satv (g 14)) := eqs_at hE 255 _ rfl
    have f280 : g 280 = b2i (sath (g 8) || sath (g 14) || divh (satv (g 8) * 2 ^ 30) (satv (g 14))) := eqs_at hE 254 _ rfl
    have f281 : g 281 = bif ieq (g 10) 1 then (1) else g 280 := eqs_at hE 253 _ rfl
    have f342 : g 342 = b2i (cmpF .eql (g 8) ((0))) := eqs_at hE 192 _ rfl
    have f343 : g 343 = divv (satv (g 14) * 2 ^ 30) (satv (g 8)) := eqs_at hE 191 _ rfl
    have f344 : g 344 = b2i (sath (g 14) || sath (g 8) || divh (satv (g 14) * 2 ^ 30) (satv (g 8))) := eqs_at hE 190 _ rfl
    have f345 : g 345 = bif ieq (g 10) 1 then (1) else g 344 := eqs_at hE 189 _ rfl
    have f404 : g 404 = bif ieq (g 278) 1 then g 341 else g 403 := eqs_at hE 130 _ rfl
    have f405 : g 405 = bif ieq (g 278) 1 then g 281 else g 345 := eqs_at hE 129 _ rfl
    have f406 : g 406 = b2i (cmpF .lss (g 8) (g 5)) := eqs_at hE 128 _ rfl
    have f407 : g 407 = divv (satv (g 8) * 2 ^ 30) (satv (g 5)) := eqs_at hE 127 _ rfl
    have f408 : g 408 = b2i (sath (g 8) || sath (g 5) || divh (satv (g 8) * 2 ^ 30) (satv (g 5))) := eqs_at hE 126 _ rfl
    have f409 : g 409 = bif ieq (g 10) 1 then (1) else g 408 := eqs_at hE 125 _ rfl
    have f468 : g 468 = divv (satv (g 5) * 2 ^ 30) (satv (g 8)) := eqs_at hE 66 _ rfl
    have f469 : g 469 = b2i (sath (g 5) || sath (g 8) || divh (satv (g 5) * 2 ^ 30) (satv (g 8))) := eqs_at hE 65 _ rfl
    have f470 : g 470 = bif ieq (g 10) 1 then (1) else g 469 := eqs_at hE 64 _ rfl
    have f527 : g 527 = bif ieq (g 342) 1 then (0) else g 526 := eqs_at hE 7 _ rfl
    have f528 : g 528 = bif ieq (g 342) 1 then g 10 else g 470 := eqs_at hE 6 _ rfl
    have f529 : g 529 = bif ieq (g 406) 1 then g 467 else g 527 := eqs_at hE 5 _ rfl
    have f530 : g 530 = bif ieq (g 406) 1 then g 409 else g 528 := eqs_at hE 4 _ rfl
    have f531 : g 531 = bif ieq (g 13) 1 then g 404 else g 529 := eqs_at hE 3 _ rfl
    have f532 : g 532 = bif ieq (g 13) 1 then g 405 else g 530 := eqs_at hE 2 _ rfl
    have f533 : g 533 = bif ieq (g 11) 1 then g 276 else g 531 := eqs_at hE 1 _ rfl
    have f534 : g 534 = bif ieq (g 11) 1 then g 277 else g 532 := eqs_at hE 0 _ rfl
    have l81 := atanQ_81 hE
    have l145 := atanQ_145 hE
    have l212 := atanQ_212 hE
    have l273 := atanQ_273 hE
    have l341 := atanQ_341 hE
    have l403 := atanQ_403 hE
    have l467 := atanQ_467 hE
    have l526 := atanQ_526 hE
    rw [e1, conv64 hy] at f3
    rw [e2, conv64 hx] at f4
    rw [f3] at f5 f6
    rw [f4] at f8 f9
    refine hc.mono fun e w' hp => ?_
    obtain ⟨rfl, _, hF⟩ := hp
    have Y1 := satv_lo y
    have Y2 := satv_hi y
    have X1 := satv_lo x
    have X2 := satv_hi x
    have f10' : g 10 = b2i (hb || sath y || sath x) := by
      rw [f10, f7, e0, f6, f9]
      cases hb <;> cases sath y <;> cases sath x <;> rfl
    rw [← f5] at Y1 Y2
    rw [← f8] at X1 X2
    have hxx : ieq (atanQ.hx.val g) 1 = (hb || ieq (U 39 [y, x]) 1) := by
      show ieq (g 534) 1 = (hb || ieq (b2i (sath y || sath x)) 1)
      rw [ieq_b2i, ← Bool.or_assoc]
      generalize (hb || sath y || sath x) = H at *
      clear hF hc hga e0 e1 e2 hE f3 f4 f5 f6 f7 f8 f9 f10
      simp only [f534, f532, f530, f528, f470, f409, f405, f345, f281, f277, f275, f215, f152, f147, f85, f19, f11, f13, f15, f148, f278, f342, f406, f12, f14, f469, f408, f344, f280, f214, f151, f84, f18, ieq_b2i, lssF, eqlF, Int.one_mul, Int.neg_mul, Int.add_zero, Bool.cond_decide]
      clear f11 f12 f13 f14 f15 f17 f18 f19 f83 f84 f85 f146 f147 f148 f150 f151 f152 f213 f214 f215 f274 f275 f276 f277 f278 f279 f280 f281 f342 f343 f344 f345 f404 f405 f406 f407 f408 f409 f468 f469 f470 f527 f528 f529 f530 f531 f532 f533 f534 l81 l145 l212 l273 l341 l403 l467 l526
      generalize g 5 = Y at *
      generalize g 8 = X at *
      (repeat' split) <;> first
        | exact (congrArg (fun t => ieq t 1) f10').trans (ieq_b2i H)
        | (rw [hit0 (by omega) (by omega) (by omega) (by omega), f10', ieq_b2i, b2i_f, ieq_or]; done)
        | omega
    rw [hxx] at hF
    refine ⟨?_, hF⟩
    congr 2
    show g 533 = atanF y x
    have ey : satv y = g 5 := f5.symm
    have ex : satv x = g 8 := f8.symm
    clear hF hc hga e0 e1 e2 hE f3 f4 f5 f6 f7 f8 f9 f10 f10' hxx
    unfold atanF
    rw [ey, ex]
    simp only [f533, f276, f146, f274, f531, f404, f529, f527, f11, f13, f15, f148, f278, f342, f406, f12, f14, f17, f83, f150, f213, f279, f343, f407, f468, l81, l145, l212, l273, l341, l403, l467, l526, ieq_b2i, lssF, eqlF, Int.one_mul, Int.neg_mul, Int.add_zero, Bool.cond_decide]
    clear f11 f12 f13 f14 f15 f17 f18 f19 f83 f84 f85 f146 f147 f148 f150 f151 f152 f213 f214 f215 f274 f275 f276 f277 f278 f279 f280 f281 f342 f343 f344 f345 f404 f405 f406 f407 f408 f409 f468 f469 f470 f527 f528 f529 f530 f531 f532 f533 f534 l81 l145 l212 l273 l341 l403 l467 l526
    generalize g 5 = Y at *
    generalize g 8 = X at *
    have s1 : satv Y = Y := satv_id (by unfold mx; omega) (by unfold mx; omega)
    have s2 : satv X = X := satv_id (by unfold mx; omega) (by unfold mx; omega)
    have s3 : satv (-Y) = -Y := satv_id (by unfold mx; omega) (by unfold mx; omega)
    have s4 : satv (-X) = -X := satv_id (by unfold mx; omega) (by unfold mx; omega)
    rw [s1, s2, s3, s4]
    rcases Int.lt_or_le Y 0 with hY | hY <;> rcases Int.lt_or_le X 0 with hX | hX <;>
      (first | rw [abs_n (a := Y) (by omega) (by omega)] | rw [abs_p (a := Y) (by omega) (by omega)]) <;>
      (first | rw [abs_n (a := X) (by omega) (by omega)] | rw [abs_p (a := X) (by omega) (by omega)]) <;>
      (repeat' split) <;> omega
end
end Go.Proofs.Ytbpccdagmaiblaa.SX

/- TrigT -/
namespace Go.Proofs.Ytbpccdagmaiblaa.SX
open Go Go.RowKit
noncomputable section
def sumsR : Sum :=
  orS (one 11 (ownS 25 [none] 36 1)) <|
  orS (one 16 (ownS 25 [none, none] 38 39)) <|
  orS (one 45 (ownS 60 [none] 36 1)) <|
  orS (one 47 (ownS 60 [none, none] 38 39)) sumsA
theorem sumsR_ok (g : Sg) : CallOk Try.prog U g sumsR :=
  orS_ok (one_ok sin_case) <| orS_ok (one_ok atan_case) <| orS_ok (one_ok sinQ_case) <| orS_ok (one_ok atanQ_case) (sumsA_ok g)
end
end Go.Proofs.Ytbpccdagmaiblaa.SX
