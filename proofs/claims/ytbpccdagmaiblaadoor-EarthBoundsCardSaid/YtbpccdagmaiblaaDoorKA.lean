/- Sines: known calls. -/
import Derived.Test.YtbpccdagmaiblaaDoorSxW
import Derived.Test.YtbpccdagmaiblaaDoorSxY
import Derived.Test.YtbpccdagmaiblaaDoorSxZ
import Derived.Test.YtbpccdagmaiblaaDoorTA

/- SineR -/
namespace Go.Proofs.YtbpccdagmaiblaaDoor.SX.sine
open Go SX
noncomputable section
def facts : List (Bool × A × A × Bool) := [(false, .x 2, .k (-1686629713), false), (false, .k 1686629713, .x 2, false)]
def ds : Defs := [(53, .sel, [.x 3, .x 35, .x 52]),
  (52, .sel, [.x 36, .x 51, .x 34]),
  (51, .lin 1073741824 [1], [.x 50]),
  (50, .u 2, [.x 39, .x 49, .k 30]),
  (49, .lin (-536870912) [1], [.x 48]),
  (48, .u 2, [.x 39, .x 47, .k 30]),
  (47, .lin 44739243 [1], [.x 46]),
  (46, .u 2, [.x 39, .x 45, .k 30]),
  (45, .lin (-1491308) [1], [.x 44]),
  (44, .u 2, [.x 39, .x 43, .k 30]),
  (43, .lin 26631 [1], [.x 42]),
  (42, .u 2, [.x 39, .x 41, .k 30]),
  (41, .lin (-296) [1], [.x 40]),
  (40, .u 2, [.x 39, .k 2, .k 30]),
  (39, .u 2, [.x 38, .x 38, .k 30]),
  (38, .lin 1686629713 [(-1)], [.x 2]),
  (37, .not, [.x 36]),
  (36, .cmp .lss, [.k 843314857, .x 2]),
  (35, .sel, [.x 5, .x 21, .x 34]),
  (34, .u 2, [.x 2, .x 33, .k 30]),
  (33, .lin 1073741824 [1], [.x 32]),
  (32, .u 2, [.x 22, .x 31, .k 30]),
  (31, .lin (-178956971) [1], [.x 30]),
  (30, .u 2, [.x 22, .x 29, .k 30]),
  (29, .lin 8947849 [1], [.x 28]),
  (28, .u 2, [.x 22, .x 27, .k 30]),
  (27, .lin (-213044) [1], [.x 26]),
  (26, .u 2, [.x 22, .x 25, .k 30]),
  (25, .lin 2959 [(-1)], [.x 23]),
  (24, .lin 0 [(-1)], [.x 23]),
  (23, .u 2, [.x 22, .k 27, .k 30]),
  (22, .u 2, [.x 2, .x 2, .k 30]),
  (21, .lin (-1073741824) [(-1)], [.x 19]),
  (20, .lin 1073741824 [1], [.x 19]),
  (19, .u 2, [.x 8, .x 18, .k 30]),
  (18, .lin (-536870912) [1], [.x 17]),
  (17, .u 2, [.x 8, .x 16, .k 30]),
  (16, .lin 44739243 [1], [.x 15]),
  (15, .u 2, [.x 8, .x 14, .k 30]),
  (14, .lin (-1491308) [1], [.x 13]),
  (13, .u 2, [.x 8, .x 12, .k 30]),
  (12, .lin 26631 [1], [.x 11]),
  (11, .u 2, [.x 8, .x 10, .k 30]),
  (10, .lin (-296) [1], [.x 9]),
  (9, .u 2, [.x 8, .k 2, .k 30]),
  (8, .u 2, [.x 7, .x 7, .k 30]),
  (7, .lin 1686629713 [1], [.x 2]),
  (6, .not, [.x 5]),
  (5, .cmp .lss, [.k 843314857, .x 4]),
  (4, .lin 0 [(-1)], [.x 2]),
  (3, .cmp .lss, [.x 2, .k 0]),
  (2, .conv .i64, [.x 1])]
def rv : A := (.x 53)
def hx : A := (.x 0)
set_option maxRecDepth 1000000 in
theorem ran : outC 25 2 facts ds rv hx (runPol lk U X sums (fun f => Nat.beq f 43) (fun _ => 0) 100000 40 43 (startC 25 [some .i64] facts).1 (startC 25 [some .i64] facts).2) = true := by kernel_rfl
end
end Go.Proofs.YtbpccdagmaiblaaDoor.SX.sine

/- TrigM -/
namespace Go.Proofs.YtbpccdagmaiblaaDoor.SX
open Go Go.RowKit
noncomputable section
theorem EqsP.mem {g : Sg} : ∀ {l : Defs}, EqsP g l → ∀ d ∈ l, g d.1 = mean U d.2.1 (d.2.2.map (A.val g))
  | (_, _, _) :: _, h, d, hd => by
    rcases List.mem_cons.1 hd with rfl | hd
    · exact h.1
    · exact EqsP.mem h.2 d hd
theorem U_2 (a b : Int) : U 2 [a, b, 30] = mq a b := rfl
theorem conv64 {a : Int} (h : inK .i64 a) : wrapF .i64 a = a := wrap_small (inK_i64.1 h).1 (inK_i64.1 h).2
theorem lssF (a b : Int) : cmpF .lss a b = decide (a < b) := by
  show (!ile b a) = _
  rw [ile_iff, ← decide_not]
  exact decide_eq_decide.2 (by omega)
theorem sineF_i64 (az : List Int) : inK .i64 (U 34 az) := by
  refine inK_i64.2 ?_
  unfold U
  simp only
  split
  · have := sineF_bd ‹Int›
    omega
  · omega
theorem sine_case {g : Sg} : CaseOk g 43 (own0S 25 [some (-1686629713, 1686629713)] 34) :=
  own0_case sineF_i64 fun az hbs hk q hb w hw => by
    match az, hbs with
    | [a], ⟨⟨l1, l2⟩, _⟩ =>
    have ha : inK .i64 a := hk a (List.mem_cons_self ..)
    obtain ⟨g, hga, hE, hc⟩ := fun_call namesOk mixed (fun g => sums_ok g) [a] sine.ran hb (fun g hj hE => by
      have e1 : g 1 = a := hj 1 (by simp)
      have e2 : g 2 = wrapF .i64 (g 1) := hE.mem (2, .conv .i64, [.x 1]) (by unfold sine.ds; simp)
      rw [e1, conv64 ha] at e2
      intro c hc
      simp only [sine.facts, List.mem_cons, List.not_mem_nil, or_false] at hc
      rcases hc with rfl | rfl
      · show (!ile (-1686629713) (g 2)) = false
        rw [e2, ile_iff, decide_eq_true (by omega)]; rfl
      · show (!ile (g 2) 1686629713) = false
        rw [e2, ile_iff, decide_eq_true (by omega)]; rfl) hk q w hw
    refine hc.mono fun e w' hp => ?_
    obtain ⟨rfl, _, hF⟩ := hp
    have e0 : g 0 = b2i hb := hga 0 (by simp)
    have e1 : g 1 = a := hga 1 (by simp)
    have hx : ieq (sine.hx.val g) 1 = hb := by
      show ieq (g 0) 1 = hb
      rw [e0, ieq_b2i]
    rw [hx] at hF
    refine ⟨?_, hF⟩
    congr 2
    show g 53 = sineF a
    simp only [sine.ds, EqsP, mean, List.map, A.val, linV, U_2] at hE
    obtain ⟨f53, f52, f51, f50, f49, f48, f47, f46, f45, f44, f43, f42, f41, f40, f39, f38, f37, f36, f35, f34, f33, f32, f31, f30, f29, f28, f27, f26, f25, f24, f23, f22, f21, f20, f19, f18, f17, f16, f15, f14, f13, f12, f11, f10, f9, f8, f7, f6, f5, f4, f3, f2, _⟩ := hE
    rw [e1, conv64 ha] at f2
    simp only [f2] at f3 f4 f7 f22 f34 f36 f38
    simp only [f53, f52, f51, f50, f49, f48, f47, f46, f45, f44, f43, f42, f41, f40, f39, f38, f36, f35, f34, f33, f32, f31, f30, f29, f28, f27, f26, f25, f23, f22, f21, f19, f18, f17, f16, f15, f14, f13, f12, f11, f10, f9, f8, f7, f5, f4, f3, ieq_b2i, lssF, sineF, sinP, cosP]
    simp only [Int.one_mul, Int.neg_mul, Int.sub_eq_add_neg, Int.neg_add, Int.add_comm, Bool.cond_decide, Int.add_zero]
def sumsT1 : Sum := orS (one 43 (own0S 25 [some (-1686629713, 1686629713)] 34)) sums
theorem sumsT1_ok (g : Sg) : CallOk Tryd.prog U g sumsT1 := orS_ok (one_ok sine_case) (sums_ok g)
end
end Go.Proofs.YtbpccdagmaiblaaDoor.SX

/- SinR -/
namespace Go.Proofs.YtbpccdagmaiblaaDoor.SX.sin
open Go SX
noncomputable section
def facts : List (Bool × A × A × Bool) := []
def ds : Defs := [(50, .sel, [.x 7, .x 22, .x 49]),
  (49, .sel, [.x 23, .x 39, .x 48]),
  (48, .sel, [.x 41, .x 32, .x 47]),
  (47, .u 10, [.x 43, .k (-1073741824), .k 1073741824]),
  (46, .cmp .lss, [.k 1073741824, .x 45]),
  (45, .max, [.x 43, .k (-1073741824)]),
  (44, .cmp .lss, [.k (-1073741824), .x 43]),
  (43, .u 34, [.x 40]),
  (42, .cmp .lss, [.x 40, .k (-1686629713)]),
  (41, .cmp .lss, [.k 1686629713, .x 40]),
  (40, .lin 6746518852 [1], [.x 6]),
  (39, .sel, [.x 25, .x 16, .x 38]),
  (38, .sel, [.x 26, .x 32, .x 37]),
  (37, .u 10, [.x 33, .k (-1073741824), .k 1073741824]),
  (36, .cmp .lss, [.k 1073741824, .x 35]),
  (35, .max, [.x 33, .k (-1073741824)]),
  (34, .cmp .lss, [.k (-1073741824), .x 33]),
  (33, .u 34, [.x 6]),
  (32, .u 10, [.x 28, .k (-1073741824), .k 1073741824]),
  (31, .cmp .lss, [.k 1073741824, .x 30]),
  (30, .max, [.x 28, .k (-1073741824)]),
  (29, .cmp .lss, [.k (-1073741824), .x 28]),
  (28, .u 34, [.x 27]),
  (27, .lin (-3373259426) [(-1)], [.x 6]),
  (26, .cmp .lss, [.x 6, .k (-1686629713)]),
  (25, .cmp .lss, [.k 1686629713, .x 6]),
  (24, .not, [.x 23]),
  (23, .cmp .lss, [.k (-3373259426), .x 6]),
  (22, .sel, [.x 10, .x 16, .x 21]),
  (21, .u 10, [.x 17, .k (-1073741824), .k 1073741824]),
  (20, .cmp .lss, [.k 1073741824, .x 19]),
  (19, .max, [.x 17, .k (-1073741824)]),
  (18, .cmp .lss, [.k (-1073741824), .x 17]),
  (17, .u 34, [.x 8]),
  (16, .u 10, [.x 12, .k (-1073741824), .k 1073741824]),
  (15, .cmp .lss, [.k 1073741824, .x 14]),
  (14, .max, [.x 12, .k (-1073741824)]),
  (13, .cmp .lss, [.k (-1073741824), .x 12]),
  (12, .u 34, [.x 11]),
  (11, .lin 3373259426 [(-1)], [.x 6]),
  (10, .cmp .lss, [.x 8, .k (-1686629713)]),
  (9, .cmp .lss, [.k 1686629713, .x 8]),
  (8, .lin (-6746518852) [1], [.x 6]),
  (7, .cmp .lss, [.k 3373259426, .x 6]),
  (6, .iop .rem .i64, [.x 3, .k 6746518852]),
  (5, .sel, [.x 0, .k 1, .x 4]),
  (4, .u 1, [.x 2]),
  (3, .u 0, [.x 2]),
  (2, .conv .i64, [.x 1])]
def rv : A := (.x 50)
def hx : A := (.x 5)
set_option maxRecDepth 1000000 in
theorem ran : outC 25 2 facts ds rv hx (runPol lk U X sumsT1 (fun f => Nat.beq f 20) (fun _ => 0) 100000 40 20 (startC 25 [some .i64] facts).1 (startC 25 [some .i64] facts).2) = true := by kernel_rfl
end
end Go.Proofs.YtbpccdagmaiblaaDoor.SX.sin

/- TrigN -/
namespace Go.Proofs.YtbpccdagmaiblaaDoor.SX
open Go Go.RowKit
noncomputable section
theorem U_0 (a : Int) : U 0 [a] = satv a := rfl
theorem U_1 (a : Int) : U 1 [a] = b2i (sath a) := rfl
theorem U_10 (a lo hi : Int) : U 10 [a, lo, hi] = clampv a lo hi := rfl
theorem U_34 (a : Int) : U 34 [a] = sineF a := rfl
theorem sinF_i64 (az : List Int) : inK .i64 (U 36 az) := by
  refine inK_i64.2 ?_
  unfold U
  simp only
  split
  · have := sinF_bd ‹Int›
    omega
  · omega
theorem ieq_sel (h : Bool) (z : Int) : ieq (bif ieq (b2i h) 1 then 1 else z) 1 = (h || ieq z 1) := by
  cases h
  · rfl
  · show ieq 1 1 = true; decide
theorem sin_case {g : Sg} : CaseOk g 20 (ownS 25 [none] 36 1) :=
  own_case sinF_i64 fun az hbs hk q hb w hw => by
    match az, hbs with
    | [a], _ =>
    have ha : inK .i64 a := hk a (List.mem_cons_self ..)
    obtain ⟨g, hga, hE, hc⟩ := fun_call namesOk mixed (fun g => sumsT1_ok g) [a] sin.ran hb (fun g hj hE c hc => by cases hc) hk q w hw
    have e0 : g 0 = b2i hb := hga 0 (by simp)
    have e1 : g 1 = a := hga 1 (by simp)
    simp only [sin.ds, EqsP, mean, List.map, A.val, linV, U_0, U_1, U_10, U_34, lssF] at hE
    obtain ⟨f50, f49, f48, f47, f46, f45, f44, f43, f42, f41, f40, f39, f38, f37, f36, f35, f34, f33, f32, f31, f30, f29, f28, f27, f26, f25, f24, f23, f22, f21, f20, f19, f18, f17, f16, f15, f14, f13, f12, f11, f10, f9, f8, f7, f6, f5, f4, f3, f2, _⟩ := hE
    rw [e1, conv64 ha] at f2
    refine hc.mono fun e w' hp => ?_
    obtain ⟨rfl, _, hF⟩ := hp
    have hx : ieq (sin.hx.val g) 1 = (hb || ieq (U 1 [a]) 1) := by
      show ieq (g 5) 1 = _
      rw [f5, e0, f4, f2, ieq_sel]; rfl
    rw [hx] at hF
    refine ⟨?_, hF⟩
    congr 2
    show g 50 = sinF a
    simp only [f2] at f3
    simp only [f3] at f6
    simp only [f50, f49, f48, f47, f43, f41, f40, f39, f38, f37, f33, f32, f28, f27, f26, f25, f23, f22, f21, f17, f16, f12, f11, f10, f8, f7, ieq_b2i, sinF, foldT, wrapT, f6]
    clear f50 f49 f48 f47 f46 f45 f44 f43 f42 f41 f40 f39 f38 f37 f36 f35 f34 f33 f32 f31 f30 f29 f28 f27 f26 f25 f24 f23 f22 f21 f20 f19 f18 f17 f16 f15 f14 f13 f12 f11 f10 f9 f8 f7 f6 f5 f4 f3 f2
    simp only [Bool.cond_decide]
    have hm1 := Int.tmod_lt_of_pos (satv a) (show (0 : Int) < 6746518852 by decide)
    have hm2 := Int.lt_tmod_of_pos (satv a) (show (0 : Int) < 6746518852 by decide)
    (repeat' split) <;> first | omega | exact congrArg (fun t => clampv (sineF t) (-1073741824) 1073741824) (by omega)
def sumsT2 : Sum := orS (one 20 (ownS 25 [none] 36 1)) sums
theorem sumsT2_ok (g : Sg) : CallOk Tryd.prog U g sumsT2 := orS_ok (one_ok sin_case) (sums_ok g)
end
end Go.Proofs.YtbpccdagmaiblaaDoor.SX

/- SinQR -/
namespace Go.Proofs.YtbpccdagmaiblaaDoor.SX.sinQ
open Go SX
noncomputable section
def facts : List (Bool × A × A × Bool) := []
def ds : Defs := [(241, .sel, [.x 7, .x 81, .x 240]),
  (240, .sel, [.x 82, .x 189, .x 239]),
  (239, .sel, [.x 191, .x 207, .x 238]),
  (238, .sel, [.x 210, .x 224, .x 237]),
  (237, .u 2, [.x 190, .x 236, .k 30]),
  (236, .lin 1073741824 [1], [.x 235]),
  (235, .u 2, [.x 225, .x 234, .k 30]),
  (234, .lin (-178956971) [1], [.x 233]),
  (233, .u 2, [.x 225, .x 232, .k 30]),
  (232, .lin 8947849 [1], [.x 231]),
  (231, .u 2, [.x 225, .x 230, .k 30]),
  (230, .lin (-213044) [1], [.x 229]),
  (229, .u 2, [.x 225, .x 228, .k 30]),
  (228, .lin 2959 [(-1)], [.x 226]),
  (227, .lin 0 [(-1)], [.x 226]),
  (226, .u 2, [.x 225, .k 27, .k 30]),
  (225, .u 2, [.x 190, .x 190, .k 30]),
  (224, .lin 1073741824 [1], [.x 223]),
  (223, .u 2, [.x 212, .x 222, .k 30]),
  (222, .lin (-536870912) [1], [.x 221]),
  (221, .u 2, [.x 212, .x 220, .k 30]),
  (220, .lin 44739243 [1], [.x 219]),
  (219, .u 2, [.x 212, .x 218, .k 30]),
  (218, .lin (-1491308) [1], [.x 217]),
  (217, .u 2, [.x 212, .x 216, .k 30]),
  (216, .lin 26631 [1], [.x 215]),
  (215, .u 2, [.x 212, .x 214, .k 30]),
  (214, .lin (-296) [1], [.x 213]),
  (213, .u 2, [.x 212, .k 2, .k 30]),
  (212, .u 2, [.x 211, .x 211, .k 30]),
  (211, .lin (-5059889139) [(-1)], [.x 6]),
  (210, .cmp .lss, [.k 843314857, .x 190]),
  (209, .cmp .lss, [.x 190, .k 0]),
  (208, .cmp .lss, [.x 190, .k (-1686629713)]),
  (207, .sel, [.x 192, .x 206, .x 133]),
  (206, .lin 1073741824 [1], [.x 205]),
  (205, .u 2, [.x 194, .x 204, .k 30]),
  (204, .lin (-536870912) [1], [.x 203]),
  (203, .u 2, [.x 194, .x 202, .k 30]),
  (202, .lin 44739243 [1], [.x 201]),
  (201, .u 2, [.x 194, .x 200, .k 30]),
  (200, .lin (-1491308) [1], [.x 199]),
  (199, .u 2, [.x 194, .x 198, .k 30]),
  (198, .lin 26631 [1], [.x 197]),
  (197, .u 2, [.x 194, .x 196, .k 30]),
  (196, .lin (-296) [1], [.x 195]),
  (195, .u 2, [.x 194, .k 2, .k 30]),
  (194, .u 2, [.x 193, .x 193, .k 30]),
  (193, .lin 5059889139 [1], [.x 6]),
  (192, .cmp .lss, [.k 843314857, .x 102]),
  (191, .cmp .lss, [.k 1686629713, .x 190]),
  (190, .lin 6746518852 [1], [.x 6]),
  (189, .sel, [.x 84, .x 100, .x 188]),
  (188, .sel, [.x 101, .x 136, .x 187]),
  (187, .sel, [.x 137, .x 170, .x 186]),
  (186, .sel, [.x 171, .x 185, .x 167]),
  (185, .lin 1073741824 [1], [.x 184]),
  (184, .u 2, [.x 173, .x 183, .k 30]),
  (183, .lin (-536870912) [1], [.x 182]),
  (182, .u 2, [.x 173, .x 181, .k 30]),
  (181, .lin 44739243 [1], [.x 180]),
  (180, .u 2, [.x 173, .x 179, .k 30]),
  (179, .lin (-1491308) [1], [.x 178]),
  (178, .u 2, [.x 173, .x 177, .k 30]),
  (177, .lin 26631 [1], [.x 176]),
  (176, .u 2, [.x 173, .x 175, .k 30]),
  (175, .lin (-296) [1], [.x 174]),
  (174, .u 2, [.x 173, .k 2, .k 30]),
  (173, .u 2, [.x 172, .x 172, .k 30]),
  (172, .lin 1686629713 [(-1)], [.x 6]),
  (171, .cmp .lss, [.k 843314857, .x 6]),
  (170, .sel, [.x 139, .x 154, .x 168]),
  (169, .u 11, [.x 167, .k (-1073741824), .k 1073741824]),
  (168, .max, [.x 167, .k (-1073741824)]),
  (167, .u 2, [.x 6, .x 166, .k 30]),
  (166, .lin 1073741824 [1], [.x 165]),
  (165, .u 2, [.x 155, .x 164, .k 30]),
  (164, .lin (-178956971) [1], [.x 163]),
  (163, .u 2, [.x 155, .x 162, .k 30]),
  (162, .lin 8947849 [1], [.x 161]),
  (161, .u 2, [.x 155, .x 160, .k 30]),
  (160, .lin (-213044) [1], [.x 159]),
  (159, .u 2, [.x 155, .x 158, .k 30]),
  (158, .lin 2959 [(-1)], [.x 156]),
  (157, .lin 0 [(-1)], [.x 156]),
  (156, .u 2, [.x 155, .k 27, .k 30]),
  (155, .u 2, [.x 6, .x 6, .k 30]),
  (154, .lin (-1073741824) [(-1)], [.x 152]),
  (153, .lin 1073741824 [1], [.x 152]),
  (152, .u 2, [.x 141, .x 151, .k 30]),
  (151, .lin (-536870912) [1], [.x 150]),
  (150, .u 2, [.x 141, .x 149, .k 30]),
  (149, .lin 44739243 [1], [.x 148]),
  (148, .u 2, [.x 141, .x 147, .k 30]),
  (147, .lin (-1491308) [1], [.x 146]),
  (146, .u 2, [.x 141, .x 145, .k 30]),
  (145, .lin 26631 [1], [.x 144]),
  (144, .u 2, [.x 141, .x 143, .k 30]),
  (143, .lin (-296) [1], [.x 142]),
  (142, .u 2, [.x 141, .k 2, .k 30]),
  (141, .u 2, [.x 140, .x 140, .k 30]),
  (140, .lin 1686629713 [1], [.x 6]),
  (139, .cmp .lss, [.k 843314857, .x 138]),
  (138, .lin 0 [(-1)], [.x 6]),
  (137, .cmp .lss, [.x 6, .k 0]),
  (136, .sel, [.x 105, .x 120, .x 134]),
  (135, .u 11, [.x 133, .k (-1073741824), .k 1073741824]),
  (134, .max, [.x 133, .k (-1073741824)]),
  (133, .u 2, [.x 102, .x 132, .k 30]),
  (132, .lin 1073741824 [1], [.x 131]),
  (131, .u 2, [.x 121, .x 130, .k 30]),
  (130, .lin (-178956971) [1], [.x 129]),
  (129, .u 2, [.x 121, .x 128, .k 30]),
  (128, .lin 8947849 [1], [.x 127]),
  (127, .u 2, [.x 121, .x 126, .k 30]),
  (126, .lin (-213044) [1], [.x 125]),
  (125, .u 2, [.x 121, .x 124, .k 30]),
  (124, .lin 2959 [(-1)], [.x 122]),
  (123, .lin 0 [(-1)], [.x 122]),
  (122, .u 2, [.x 121, .k 27, .k 30]),
  (121, .u 2, [.x 102, .x 102, .k 30]),
  (120, .lin (-1073741824) [(-1)], [.x 118]),
  (119, .lin 1073741824 [1], [.x 118]),
  (118, .u 2, [.x 107, .x 117, .k 30]),
  (117, .lin (-536870912) [1], [.x 116]),
  (116, .u 2, [.x 107, .x 115, .k 30]),
  (115, .lin 44739243 [1], [.x 114]),
  (114, .u 2, [.x 107, .x 113, .k 30]),
  (113, .lin (-1491308) [1], [.x 112]),
  (112, .u 2, [.x 107, .x 111, .k 30]),
  (111, .lin 26631 [1], [.x 110]),
  (110, .u 2, [.x 107, .x 109, .k 30]),
  (109, .lin (-296) [1], [.x 108]),
  (108, .u 2, [.x 107, .k 2, .k 30]),
  (107, .u 2, [.x 106, .x 106, .k 30]),
  (106, .lin (-1686629713) [(-1)], [.x 6]),
  (105, .cmp .lss, [.k 843314857, .x 104]),
  (104, .lin 3373259426 [1], [.x 6]),
  (103, .cmp .lss, [.x 102, .k 0]),
  (102, .lin (-3373259426) [(-1)], [.x 6]),
  (101, .cmp .lss, [.x 6, .k (-1686629713)]),
  (100, .sel, [.x 85, .x 99, .x 43]),
  (99, .lin 1073741824 [1], [.x 98]),
  (98, .u 2, [.x 87, .x 97, .k 30]),
  (97, .lin (-536870912) [1], [.x 96]),
  (96, .u 2, [.x 87, .x 95, .k 30]),
  (95, .lin 44739243 [1], [.x 94]),
  (94, .u 2, [.x 87, .x 93, .k 30]),
  (93, .lin (-1491308) [1], [.x 92]),
  (92, .u 2, [.x 87, .x 91, .k 30]),
  (91, .lin 26631 [1], [.x 90]),
  (90, .u 2, [.x 87, .x 89, .k 30]),
  (89, .lin (-296) [1], [.x 88]),
  (88, .u 2, [.x 87, .k 2, .k 30]),
  (87, .u 2, [.x 86, .x 86, .k 30]),
  (86, .lin (-1686629713) [1], [.x 6]),
  (85, .cmp .lss, [.k 843314857, .x 12]),
  (84, .cmp .lss, [.k 1686629713, .x 6]),
  (83, .not, [.x 82]),
  (82, .cmp .lss, [.k (-3373259426), .x 6]),
  (81, .sel, [.x 11, .x 46, .x 80]),
  (80, .sel, [.x 49, .x 64, .x 78]),
  (79, .u 11, [.x 77, .k (-1073741824), .k 1073741824]),
  (78, .max, [.x 77, .k (-1073741824)]),
  (77, .u 2, [.x 8, .x 76, .k 30]),
  (76, .lin 1073741824 [1], [.x 75]),
  (75, .u 2, [.x 65, .x 74, .k 30]),
  (74, .lin (-178956971) [1], [.x 73]),
  (73, .u 2, [.x 65, .x 72, .k 30]),
  (72, .lin 8947849 [1], [.x 71]),
  (71, .u 2, [.x 65, .x 70, .k 30]),
  (70, .lin (-213044) [1], [.x 69]),
  (69, .u 2, [.x 65, .x 68, .k 30]),
  (68, .lin 2959 [(-1)], [.x 66]),
  (67, .lin 0 [(-1)], [.x 66]),
  (66, .u 2, [.x 65, .k 27, .k 30]),
  (65, .u 2, [.x 8, .x 8, .k 30]),
  (64, .lin (-1073741824) [(-1)], [.x 62]),
  (63, .lin 1073741824 [1], [.x 62]),
  (62, .u 2, [.x 51, .x 61, .k 30]),
  (61, .lin (-536870912) [1], [.x 60]),
  (60, .u 2, [.x 51, .x 59, .k 30]),
  (59, .lin 44739243 [1], [.x 58]),
  (58, .u 2, [.x 51, .x 57, .k 30]),
  (57, .lin (-1491308) [1], [.x 56]),
  (56, .u 2, [.x 51, .x 55, .k 30]),
  (55, .lin 26631 [1], [.x 54]),
  (54, .u 2, [.x 51, .x 53, .k 30]),
  (53, .lin (-296) [1], [.x 52]),
  (52, .u 2, [.x 51, .k 2, .k 30]),
  (51, .u 2, [.x 50, .x 50, .k 30]),
  (50, .lin (-5059889139) [1], [.x 6]),
  (49, .cmp .lss, [.k 843314857, .x 48]),
  (48, .lin 6746518852 [(-1)], [.x 6]),
  (47, .cmp .lss, [.x 8, .k 0]),
  (46, .sel, [.x 15, .x 30, .x 44]),
  (45, .u 11, [.x 43, .k (-1073741824), .k 1073741824]),
  (44, .u 10, [.x 43, .k (-1073741824), .k 1073741824]),
  (43, .u 2, [.x 12, .x 42, .k 30]),
  (42, .lin 1073741824 [1], [.x 41]),
  (41, .u 2, [.x 31, .x 40, .k 30]),
  (40, .lin (-178956971) [1], [.x 39]),
  (39, .u 2, [.x 31, .x 38, .k 30]),
  (38, .lin 8947849 [1], [.x 37]),
  (37, .u 2, [.x 31, .x 36, .k 30]),
  (36, .lin (-213044) [1], [.x 35]),
  (35, .u 2, [.x 31, .x 34, .k 30]),
  (34, .lin 2959 [(-1)], [.x 32]),
  (33, .lin 0 [(-1)], [.x 32]),
  (32, .u 2, [.x 31, .k 27, .k 30]),
  (31, .u 2, [.x 12, .x 12, .k 30]),
  (30, .lin (-1073741824) [(-1)], [.x 28]),
  (29, .lin 1073741824 [1], [.x 28]),
  (28, .u 2, [.x 17, .x 27, .k 30]),
  (27, .lin (-536870912) [1], [.x 26]),
  (26, .u 2, [.x 17, .x 25, .k 30]),
  (25, .lin 44739243 [1], [.x 24]),
  (24, .u 2, [.x 17, .x 23, .k 30]),
  (23, .lin (-1491308) [1], [.x 22]),
  (22, .u 2, [.x 17, .x 21, .k 30]),
  (21, .lin 26631 [1], [.x 20]),
  (20, .u 2, [.x 17, .x 19, .k 30]),
  (19, .lin (-296) [1], [.x 18]),
  (18, .u 2, [.x 17, .k 2, .k 30]),
  (17, .u 2, [.x 16, .x 16, .k 30]),
  (16, .lin 5059889139 [(-1)], [.x 6]),
  (15, .cmp .lss, [.k 843314857, .x 14]),
  (14, .lin (-3373259426) [1], [.x 6]),
  (13, .cmp .lss, [.x 12, .k 0]),
  (12, .lin 3373259426 [(-1)], [.x 6]),
  (11, .cmp .lss, [.x 8, .k (-1686629713)]),
  (10, .cmp .lss, [.k 1686629713, .x 8]),
  (9, .cmp .lss, [.k (-3373259426), .x 8]),
  (8, .lin (-6746518852) [1], [.x 6]),
  (7, .cmp .lss, [.k 3373259426, .x 6]),
  (6, .iop .rem .i64, [.x 3, .k 6746518852]),
  (5, .sel, [.x 0, .k 1, .x 4]),
  (4, .u 1, [.x 2]),
  (3, .u 0, [.x 2]),
  (2, .conv .i64, [.x 1])]
def rv : A := (.x 241)
def hx : A := (.x 5)
set_option maxRecDepth 1000000 in
theorem ran : outC 43 2 facts ds rv hx (runPol lk U X sums3 (fun f => Nat.beq f 34) (fun _ => 0) 100000 40 34 (startC 43 [some .i64] facts).1 (startC 43 [some .i64] facts).2) = true := by kernel_rfl
end
end Go.Proofs.YtbpccdagmaiblaaDoor.SX.sinQ

/- TrigQ -/
namespace Go.Proofs.YtbpccdagmaiblaaDoor.SX
open Go Go.RowKit
noncomputable section
theorem eqs_at {g : Sg} : ∀ {l : Defs}, EqsP g l → ∀ (i : Nat) (d : Nat × Pr × List A), l[i]? = some d → g d.1 = mean U d.2.1 (d.2.2.map (A.val g))
  | [], _, i, d, h => by simp at h
  | (n, p, xa) :: l, hE, 0, d, h => by cases h; exact hE.1
  | (n, p, xa) :: l, hE, i + 1, d, h => eqs_at hE.2 i d h
def wrapM (m : Int) : Int := if 3373259426 < m then m - 6746518852 else if -3373259426 < m then m else m + 6746518852
theorem wrapT_M (a : Int) : wrapT a = wrapM (a.tmod 6746518852) := rfl
theorem wrapM_1 {m : Int} (h : 3373259426 < m) : wrapM m = m - 6746518852 := if_pos h
theorem wrapM_2 {m : Int} (h : -3373259426 < m ∧ m ≤ 3373259426) : wrapM m = m := by unfold wrapM; rw [if_neg (by omega), if_pos h.1]
theorem wrapM_3 {m : Int} (h : m ≤ -3373259426) : wrapM m = m + 6746518852 := by unfold wrapM; rw [if_neg (by omega), if_neg (by omega)]
theorem foldT_1 {w : Int} (h : 1686629713 < w) : foldT w = 3373259426 - w := if_pos h
theorem foldT_2 {w : Int} (h : w < -1686629713) : foldT w = -3373259426 - w := by unfold foldT; rw [if_neg (by omega), if_pos h]
theorem foldT_3 {w : Int} (h : -1686629713 ≤ w ∧ w ≤ 1686629713) : foldT w = w := by unfold foldT; rw [if_neg (by omega), if_neg (by omega)]
theorem sineF_1 {w : Int} (h : -843314857 ≤ w ∧ w ≤ 843314857) : sineF w = sinP w := by unfold sineF; (repeat' split) <;> first | rfl | omega
theorem sineF_2 {w : Int} (h : 843314857 < w) : sineF w = cosP (1686629713 - w) := by unfold sineF; rw [if_neg (by omega), if_pos h]
theorem sineF_3 {w : Int} (h : w < -843314857) : sineF w = -cosP (1686629713 + w) := by unfold sineF; rw [if_pos (by omega), if_pos (by omega)]
theorem maxO {y : Int} (h : -1073741824 ≤ y) : (bif ile (-1073741824) y then y else -1073741824) = y := by
  rw [ile_iff, decide_eq_true h]; rfl
set_option maxRecDepth 100000 in
set_option maxHeartbeats 2000000 in
theorem sinQ_case {g : Sg} : CaseOk g 34 (ownS 43 [none] 36 1) :=
  own_case sinF_i64 fun az hbs hk q hb w hw => by
    match az, hbs with
    | [a], _ =>
    have ha : inK .i64 a := hk a (List.mem_cons_self ..)
    obtain ⟨g, hga, hE, hc⟩ := fun_call namesOk mixed (fun g => sums3_ok g) [a] sinQ.ran hb (fun g hj hE c hc => by cases hc) hk q w hw
    have e0 : g 0 = b2i hb := hga 0 (by simp)
    have e1 : g 1 = a := hga 1 (by simp)
    have f241 : g 241 = bif ieq (g 7) 1 then g 81 else g 240 := eqs_at hE 0 _ rfl
    have f240 : g 240 = bif ieq (g 82) 1 then g 189 else g 239 := eqs_at hE 1 _ rfl
    have f239 : g 239 = bif ieq (g 191) 1 then g 207 else g 238 := eqs_at hE 2 _ rfl
    have f238 : g 238 = bif ieq (g 210) 1 then g 224 else g 237 := eqs_at hE 3 _ rfl
    have f237 : g 237 = mq (g 190) (g 236) := eqs_at hE 4 _ rfl
    have f236 : g 236 = (1) * g 235 + (1073741824) := eqs_at hE 5 _ rfl
    have f235 : g 235 = mq (g 225) (g 234) := eqs_at hE 6 _ rfl
    have f234 : g 234 = (1) * g 233 + (-178956971) := eqs_at hE 7 _ rfl
    have f233 : g 233 = mq (g 225) (g 232) := eqs_at hE 8 _ rfl
    have f232 : g 232 = (1) * g 231 + (8947849) := eqs_at hE 9 _ rfl
    have f231 : g 231 = mq (g 225) (g 230) := eqs_at hE 10 _ rfl
    have f230 : g 230 = (1) * g 229 + (-213044) := eqs_at hE 11 _ rfl
    have f229 : g 229 = mq (g 225) (g 228) := eqs_at hE 12 _ rfl
    have f228 : g 228 = (-1) * g 226 + (2959) := eqs_at hE 13 _ rfl
    have f227 : g 227 = (-1) * g 226 + (0) := eqs_at hE 14 _ rfl
    have f226 : g 226 = mq (g 225) ((27)) := eqs_at hE 15 _ rfl
    have f225 : g 225 = mq (g 190) (g 190) := eqs_at hE 16 _ rfl
    have f224 : g 224 = (1) * g 223 + (1073741824) := eqs_at hE 17 _ rfl
    have f223 : g 223 = mq (g 212) (g 222) := eqs_at hE 18 _ rfl
    have f222 : g 222 = (1) * g 221 + (-536870912) := eqs_at hE 19 _ rfl
    have f221 : g 221 = mq (g 212) (g 220) := eqs_at hE 20 _ rfl
    have f220 : g 220 = (1) * g 219 + (44739243) := eqs_at hE 21 _ rfl
    have f219 : g 219 = mq (g 212) (g 218) := eqs_at hE 22 _ rfl
    have f218 : g 218 = (1) * g 217 + (-1491308) := eqs_at hE 23 _ rfl
    have f217 : g 217 = mq (g 212) (g 216) := eqs_at hE 24 _ rfl
    have f216 : g 216 = (1) * g 215 + (26631) := eqs_at hE 25 _ rfl
    have f215 : g 215 = mq (g 212) (g 214) := eqs_at hE 26 _ rfl
    have f214 : g 214 = (1) * g 213 + (-296) := eqs_at hE 27 _ rfl
    have f213 : g 213 = mq (g 212) ((2)) := eqs_at hE 28 _ rfl
    have f212 : g 212 = mq (g 211) (g 211) := eqs_at hE 29 _ rfl
    have f211 : g 211 = (-1) * g 6 + (-5059889139) := eqs_at hE 30 _ rfl
    have f210 : g 210 = b2i (cmpF .lss ((843314857)) (g 190)) := eqs_at hE 31 _ rfl
    have f209 : g 209 = b2i (cmpF .lss (g 190) ((0))) := eqs_at hE 32 _ rfl
    have f208 : g 208 = b2i (cmpF .lss (g 190) ((-1686629713))) := eqs_at hE 33 _ rfl
    have f207 : g 207 = bif ieq (g 192) 1 then g 206 else g 133 := eqs_at hE 34 _ rfl
    have f206 : g 206 = (1) * g 205 + (1073741824) := eqs_at hE 35 _ rfl
    have f205 : g 205 = mq (g 194) (g 204) := eqs_at hE 36 _ rfl
    have f204 : g 204 = (1) * g 203 + (-536870912) := eqs_at hE 37 _ rfl
    have f203 : g 203 = mq (g 194) (g 202) := eqs_at hE 38 _ rfl
    have f202 : g 202 = (1) * g 201 + (44739243) := eqs_at hE 39 _ rfl
    have f201 : g 201 = mq (g 194) (g 200) := eqs_at hE 40 _ rfl
    have f200 : g 200 = (1) * g 199 + (-1491308) := eqs_at hE 41 _ rfl
    have f199 : g 199 = mq (g 194) (g 198) := eqs_at hE 42 _ rfl
    have f198 : g 198 = (1) * g 197 + (26631) := eqs_at hE 43 _ rfl
    have f197 : g 197 = mq (g 194) (g 196) := eqs_at hE 44 _ rfl
    have f196 : g 196 = (1) * g 195 + (-296) := eqs_at hE 45 _ rfl
    have f195 : g 195 = mq (g 194) ((2)) := eqs_at hE 46 _ rfl
    have f194 : g 194 = mq (g 193) (g 193) := eqs_at hE 47 _ rfl
    have f193 : g 193 = (1) * g 6 + (5059889139) := eqs_at hE 48 _ rfl
    have f192 : g 192 = b2i (cmpF .lss ((843314857)) (g 102)) := eqs_at hE 49 _ rfl
    have f191 : g 191 = b2i (cmpF .lss ((1686629713)) (g 190)) := eqs_at hE 50 _ rfl
    have f190 : g 190 = (1) * g 6 + (6746518852) := eqs_at hE 51 _ rfl
    have f189 : g 189 = bif ieq (g 84) 1 then g 100 else g 188 := eqs_at hE 52 _ rfl
    have f188 : g 188 = bif ieq (g 101) 1 then g 136 else g 187 := eqs_at hE 53 _ rfl
    have f187 : g 187 = bif ieq (g 137) 1 then g 170 else g 186 := eqs_at hE 54 _ rfl
    have f186 : g 186 = bif ieq (g 171) 1 then g 185 else g 167 := eqs_at hE 55 _ rfl
    have f185 : g 185 = (1) * g 184 + (1073741824) := eqs_at hE 56 _ rfl
    have f184 : g 184 = mq (g 173) (g 183) := eqs_at hE 57 _ rfl
    have f183 : g 183 = (1) * g 182 + (-536870912) := eqs_at hE 58 _ rfl
    have f182 : g 182 = mq (g 173) (g 181) := eqs_at hE 59 _ rfl
    have f181 : g 181 = (1) * g 180 + (44739243) := eqs_at hE 60 _ rfl
    have f180 : g 180 = mq (g 173) (g 179) := eqs_at hE 61 _ rfl
    have f179 : g 179 = (1) * g 178 + (-1491308) := eqs_at hE 62 _ rfl
    have f178 : g 178 = mq (g 173) (g 177) := eqs_at hE 63 _ rfl
    have f177 : g 177 = (1) * g 176 + (26631) := eqs_at hE 64 _ rfl
    have f176 : g 176 = mq (g 173) (g 175) := eqs_at hE 65 _ rfl
    have f175 : g 175 = (1) * g 174 + (-296) := eqs_at hE 66 _ rfl
    have f174 : g 174 = mq (g 173) ((2)) := eqs_at hE 67 _ rfl
    have f173 : g 173 = mq (g 172) (g 172) := eqs_at hE 68 _ rfl
    have f172 : g 172 = (-1) * g 6 + (1686629713) := eqs_at hE 69 _ rfl
    have f171 : g 171 = b2i (cmpF .lss ((843314857)) (g 6)) := eqs_at hE 70 _ rfl
    have f170 : g 170 = bif ieq (g 139) 1 then g 154 else g 168 := eqs_at hE 71 _ rfl
    have f168 : g 168 = bif ile ((-1073741824)) (g 167) then (g 167) else ((-1073741824)) := eqs_at hE 73 _ rfl
    have f167 : g 167 = mq (g 6) (g 166) := eqs_at hE 74 _ rfl
    have f166 : g 166 = (1) * g 165 + (1073741824) := eqs_at hE 75 _ rfl
    have f165 : g 165 = mq (g 155) (g 164) := eqs_at hE 76 _ rfl
    have f164 : g 164 = (1) * g 163 + (-178956971) := eqs_at hE 77 _ rfl
    have f163 : g 163 = mq (g 155) (g 162) := eqs_at hE 78 _ rfl
    have f162 : g 162 = (1) * g 161 + (8947849) := eqs_at hE 79 _ rfl
    have f161 : g 161 = mq (g 155) (g 160) := eqs_at hE 80 _ rfl
    have f160 : g 160 = (1) * g 159 + (-213044) := eqs_at hE 81 _ rfl
    have f159 : g 159 = mq (g 155) (g 158) := eqs_at hE 82 _ rfl
    have f158 : g 158 = (-1) * g 156 + (2959) := eqs_at hE 83 _ rfl
    have f157 : g 157 = (-1) * g 156 + (0) := eqs_at hE 84 _ rfl
    have f156 : g 156 = mq (g 155) ((27)) := eqs_at hE 85 _ rfl
    have f155 : g 155 = mq (g 6) (g 6) := eqs_at hE 86 _ rfl
    have f154 : g 154 = (-1) * g 152 + (-1073741824) := eqs_at hE 87 _ rfl
    have f153 : g 153 = (1) * g 152 + (1073741824) := eqs_at hE 88 _ rfl
    have f152 : g 152 = mq (g 141) (g 151) := eqs_at hE 89 _ rfl
    have f151 : g 151 = (1) * g 150 + (-536870912) := eqs_at hE 90 _ rfl
    have f150 : g 150 = mq (g 141) (g 149) := eqs_at hE 91 _ rfl
    have f149 : g 149 = (1) * g 148 + (44739243) := eqs_at hE 92 _ rfl
    have f148 : g 148 = mq (g 141) (g 147) := eqs_at hE 93 _ rfl
    have f147 : g 147 = (1) * g 146 + (-1491308) := eqs_at hE 94 _ rfl
    have f146 : g 146 = mq (g 141) (g 145) := eqs_at hE 95 _ rfl
    have f145 : g 145 = (1) * g 144 + (26631) := eqs_at hE 96 _ rfl
    have f144 : g 144 = mq (g 141) (g 143) := eqs_at hE 97 _ rfl
    have f143 : g 143 = (1) * g 142 + (-296) := eqs_at hE 98 _ rfl
    have f142 : g 142 = mq (g 141) ((2)) := eqs_at hE 99 _ rfl
    have f141 : g 141 = mq (g 140) (g 140) := eqs_at hE 100 _ rfl
    have f140 : g 140 = (1) * g 6 + (1686629713) := eqs_at hE 101 _ rfl
    have f139 : g 139 = b2i (cmpF .lss ((843314857)) (g 138)) := eqs_at hE 102 _ rfl
    have f138 : g 138 = (-1) * g 6 + (0) := eqs_at hE 103 _ rfl
    have f137 : g 137 = b2i (cmpF .lss (g 6) ((0))) := eqs_at hE 104 _ rfl
    have f136 : g 136 = bif ieq (g 105) 1 then g 120 else g 134 := eqs_at hE 105 _ rfl
    have f134 : g 134 = bif ile ((-1073741824)) (g 133) then (g 133) else ((-1073741824)) := eqs_at hE 107 _ rfl
    have f133 : g 133 = mq (g 102) (g 132) := eqs_at hE 108 _ rfl
    have f132 : g 132 = (1) * g 131 + (1073741824) := eqs_at hE 109 _ rfl
    have f131 : g 131 = mq (g 121) (g 130) := eqs_at hE 110 _ rfl
    have f130 : g 130 = (1) * g 129 + (-178956971) := eqs_at hE 111 _ rfl
    have f129 : g 129 = mq (g 121) (g 128) := eqs_at hE 112 _ rfl
    have f128 : g 128 = (1) * g 127 + (8947849) := eqs_at hE 113 _ rfl
    have f127 : g 127 = mq (g 121) (g 126) := eqs_at hE 114 _ rfl
    have f126 : g 126 = (1) * g 125 + (-213044) := eqs_at hE 115 _ rfl
    have f125 : g 125 = mq (g 121) (g 124) := eqs_at hE 116 _ rfl
    have f124 : g 124 = (-1) * g 122 + (2959) := eqs_at hE 117 _ rfl
    have f123 : g 123 = (-1) * g 122 + (0) := eqs_at hE 118 _ rfl
    have f122 : g 122 = mq (g 121) ((27)) := eqs_at hE 119 _ rfl
    have f121 : g 121 = mq (g 102) (g 102) := eqs_at hE 120 _ rfl
    have f120 : g 120 = (-1) * g 118 + (-1073741824) := eqs_at hE 121 _ rfl
    have f119 : g 119 = (1) * g 118 + (1073741824) := eqs_at hE 122 _ rfl
    have f118 : g 118 = mq (g 107) (g 117) := eqs_at hE 123 _ rfl
    have f117 : g 117 = (1) * g 116 + (-536870912) := eqs_at hE 124 _ rfl
    have f116 : g 116 = mq (g 107) (g 115) := eqs_at hE 125 _ rfl
    have f115 : g 115 = (1) * g 114 + (44739243) := eqs_at hE 126 _ rfl
    have f114 : g 114 = mq (g 107) (g 113) := eqs_at hE 127 _ rfl
    have f113 : g 113 = (1) * g 112 + (-1491308) := eqs_at hE 128 _ rfl
    have f112 : g 112 = mq (g 107) (g 111) := eqs_at hE 129 _ rfl
    have f111 : g 111 = (1) * g 110 + (26631) := eqs_at hE 130 _ rfl
    have f110 : g 110 = mq (g 107) (g 109) := eqs_at hE 131 _ rfl
    have f109 : g 109 = (1) * g 108 + (-296) := eqs_at hE 132 _ rfl
    have f108 : g 108 = mq (g 107) ((2)) := eqs_at hE 133 _ rfl
    have f107 : g 107 = mq (g 106) (g 106) := eqs_at hE 134 _ rfl
    have f106 : g 106 = (-1) * g 6 + (-1686629713) := eqs_at hE 135 _ rfl
    have f105 : g 105 = b2i (cmpF .lss ((843314857)) (g 104)) := eqs_at hE 136 _ rfl
    have f104 : g 104 = (1) * g 6 + (3373259426) := eqs_at hE 137 _ rfl
    have f103 : g 103 = b2i (cmpF .lss (g 102) ((0))) := eqs_at hE 138 _ rfl
    have f102 : g 102 = (-1) * g 6 + (-3373259426) := eqs_at hE 139 _ rfl
    have f101 : g 101 = b2i (cmpF .lss (g 6) ((-1686629713))) := eqs_at hE 140 _ rfl
    have f100 : g 100 = bif ieq (g 85) 1 then g 99 else g 43 := eqs_at hE 141 _ rfl
    have f99 : g 99 = (1) * g 98 + (1073741824) := eqs_at hE 142 _ rfl
    have f98 : g 98 = mq (g 87) (g 97) := eqs_at hE 143 _ rfl
    have f97 : g 97 = (1) * g 96 + (-536870912) := eqs_at hE 144 _ rfl
    have f96 : g 96 = mq (g 87) (g 95) := eqs_at hE 145 _ rfl
    have f95 : g 95 = (1) * g 94 + (44739243) := eqs_at hE 146 _ rfl
    have f94 : g 94 = mq (g 87) (g 93) := eqs_at hE 147 _ rfl
    have f93 : g 93 = (1) * g 92 + (-1491308) := eqs_at hE 148 _ rfl
    have f92 : g 92 = mq (g 87) (g 91) := eqs_at hE 149 _ rfl
    have f91 : g 91 = (1) * g 90 + (26631) := eqs_at hE 150 _ rfl
    have f90 : g 90 = mq (g 87) (g 89) := eqs_at hE 151 _ rfl
    have f89 : g 89 = (1) * g 88 + (-296) := eqs_at hE 152 _ rfl
    have f88 : g 88 = mq (g 87) ((2)) := eqs_at hE 153 _ rfl
    have f87 : g 87 = mq (g 86) (g 86) := eqs_at hE 154 _ rfl
    have f86 : g 86 = (1) * g 6 + (-1686629713) := eqs_at hE 155 _ rfl
    have f85 : g 85 = b2i (cmpF .lss ((843314857)) (g 12)) := eqs_at hE 156 _ rfl
    have f84 : g 84 = b2i (cmpF .lss ((1686629713)) (g 6)) := eqs_at hE 157 _ rfl
    have f82 : g 82 = b2i (cmpF .lss ((-3373259426)) (g 6)) := eqs_at hE 159 _ rfl
    have f81 : g 81 = bif ieq (g 11) 1 then g 46 else g 80 := eqs_at hE 160 _ rfl
    have f80 : g 80 = bif ieq (g 49) 1 then g 64 else g 78 := eqs_at hE 161 _ rfl
    have f78 : g 78 = bif ile ((-1073741824)) (g 77) then (g 77) else ((-1073741824)) := eqs_at hE 163 _ rfl
    have f77 : g 77 = mq (g 8) (g 76) := eqs_at hE 164 _ rfl
    have f76 : g 76 = (1) * g 75 + (1073741824) := eqs_at hE 165 _ rfl
    have f75 : g 75 = mq (g 65) (g 74) := eqs_at hE 166 _ rfl
    have f74 : g 74 = (1) * g 73 + (-178956971) := eqs_at hE 167 _ rfl
    have f73 : g 73 = mq (g 65) (g 72) := eqs_at hE 168 _ rfl
    have f72 : g 72 = (1) * g 71 + (8947849) := eqs_at hE 169 _ rfl
    have f71 : g 71 = mq (g 65) (g 70) := eqs_at hE 170 _ rfl
    have f70 : g 70 = (1) * g 69 + (-213044) := eqs_at hE 171 _ rfl
    have f69 : g 69 = mq (g 65) (g 68) := eqs_at hE 172 _ rfl
    have f68 : g 68 = (-1) * g 66 + (2959) := eqs_at hE 173 _ rfl
    have f67 : g 67 = (-1) * g 66 + (0) := eqs_at hE 174 _ rfl
    have f66 : g 66 = mq (g 65) ((27)) := eqs_at hE 175 _ rfl
    have f65 : g 65 = mq (g 8) (g 8) := eqs_at hE 176 _ rfl
    have f64 : g 64 = (-1) * g 62 + (-1073741824) := eqs_at hE 177 _ rfl
    have f63 : g 63 = (1) * g 62 + (1073741824) := eqs_at hE 178 _ rfl
    have f62 : g 62 = mq (g 51) (g 61) := eqs_at hE 179 _ rfl
    have f61 : g 61 = (1) * g 60 + (-536870912) := eqs_at hE 180 _ rfl
    have f60 : g 60 = mq (g 51) (g 59) := eqs_at hE 181 _ rfl
    have f59 : g 59 = (1) * g 58 + (44739243) := eqs_at hE 182 _ rfl
    have f58 : g 58 = mq (g 51) (g 57) := eqs_at hE 183 _ rfl
    have f57 : g 57 = (1) * g 56 + (-1491308) := eqs_at hE 184 _ rfl
    have f56 : g 56 = mq (g 51) (g 55) := eqs_at hE 185 _ rfl
    have f55 : g 55 = (1) * g 54 + (26631) := eqs_at hE 186 _ rfl
    have f54 : g 54 = mq (g 51) (g 53) := eqs_at hE 187 _ rfl
    have f53 : g 53 = (1) * g 52 + (-296) := eqs_at hE 188 _ rfl
    have f52 : g 52 = mq (g 51) ((2)) := eqs_at hE 189 _ rfl
    have f51 : g 51 = mq (g 50) (g 50) := eqs_at hE 190 _ rfl
    have f50 : g 50 = (1) * g 6 + (-5059889139) := eqs_at hE 191 _ rfl
    have f49 : g 49 = b2i (cmpF .lss ((843314857)) (g 48)) := eqs_at hE 192 _ rfl
    have f48 : g 48 = (-1) * g 6 + (6746518852) := eqs_at hE 193 _ rfl
    have f47 : g 47 = b2i (cmpF .lss (g 8) ((0))) := eqs_at hE 194 _ rfl
    have f46 : g 46 = bif ieq (g 15) 1 then g 30 else g 44 := eqs_at hE 195 _ rfl
    have f44 : g 44 = clampv (g 43) ((-1073741824)) ((1073741824)) := eqs_at hE 197 _ rfl
    have f43 : g 43 = mq (g 12) (g 42) := eqs_at hE 198 _ rfl
    have f42 : g 42 = (1) * g 41 + (1073741824) := eqs_at hE 199 _ rfl
    have f41 : g 41 = mq (g 31) (g 40) := eqs_at hE 200 _ rfl
    have f40 : g 40 = (1) * g 39 + (-178956971) := eqs_at hE 201 _ rfl
    have f39 : g 39 = mq (g 31) (g 38) := eqs_at hE 202 _ rfl
    have f38 : g 38 = (1) * g 37 + (8947849) := eqs_at hE 203 _ rfl
    have f37 : g 37 = mq (g 31) (g 36) := eqs_at hE 204 _ rfl
    have f36 : g 36 = (1) * g 35 + (-213044) := eqs_at hE 205 _ rfl
    have f35 : g 35 = mq (g 31) (g 34) := eqs_at hE 206 _ rfl
    have f34 : g 34 = (-1) * g 32 + (2959) := eqs_at hE 207 _ rfl
    have f33 : g 33 = (-1) * g 32 + (0) := eqs_at hE 208 _ rfl
    have f32 : g 32 = mq (g 31) ((27)) := eqs_at hE 209 _ rfl
    have f31 : g 31 = mq (g 12) (g 12) := eqs_at hE 210 _ rfl
    have f30 : g 30 = (-1) * g 28 + (-1073741824) := eqs_at hE 211 _ rfl
    have f29 : g 29 = (1) * g 28 + (1073741824) := eqs_at hE 212 _ rfl
    have f28 : g 28 = mq (g 17) (g 27) := eqs_at hE 213 _ rfl
    have f27 : g 27 = (1) * g 26 + (-536870912) := eqs_at hE 214 _ rfl
    have f26 : g 26 = mq (g 17) (g 25) := eqs_at hE 215 _ rfl
    have f25 : g 25 = (1) * g 24 + (44739243) := eqs_at hE 216 _ rfl
    have f24 : g 24 = mq (g 17) (g 23) := eqs_at hE 217 _ rfl
    have f23 : g 23 = (1) * g 22 + (-1491308) := eqs_at hE 218 _ rfl
    have f22 : g 22 = mq (g 17) (g 21) := eqs_at hE 219 _ rfl
    have f21 : g 21 = (1) * g 20 + (26631) := eqs_at hE 220 _ rfl
    have f20 : g 20 = mq (g 17) (g 19) := eqs_at hE 221 _ rfl
    have f19 : g 19 = (1) * g 18 + (-296) := eqs_at hE 222 _ rfl
    have f18 : g 18 = mq (g 17) ((2)) := eqs_at hE 223 _ rfl
    have f17 : g 17 = mq (g 16) (g 16) := eqs_at hE 224 _ rfl
    have f16 : g 16 = (-1) * g 6 + (5059889139) := eqs_at hE 225 _ rfl
    have f15 : g 15 = b2i (cmpF .lss ((843314857)) (g 14)) := eqs_at hE 226 _ rfl
    have f14 : g 14 = (1) * g 6 + (-3373259426) := eqs_at hE 227 _ rfl
    have f13 : g 13 = b2i (cmpF .lss (g 12) ((0))) := eqs_at hE 228 _ rfl
    have f12 : g 12 = (-1) * g 6 + (3373259426) := eqs_at hE 229 _ rfl
    have f11 : g 11 = b2i (cmpF .lss (g 8) ((-1686629713))) := eqs_at hE 230 _ rfl
    have f10 : g 10 = b2i (cmpF .lss ((1686629713)) (g 8)) := eqs_at hE 231 _ rfl
    have f9 : g 9 = b2i (cmpF .lss ((-3373259426)) (g 8)) := eqs_at hE 232 _ rfl
    have f8 : g 8 = (1) * g 6 + (-6746518852) := eqs_at hE 233 _ rfl
    have f7 : g 7 = b2i (cmpF .lss ((3373259426)) (g 6)) := eqs_at hE 234 _ rfl
    have f6 : g 6 = (g 3).tmod ((6746518852)) := eqs_at hE 235 _ rfl
    have f5 : g 5 = bif ieq (g 0) 1 then (1) else g 4 := eqs_at hE 236 _ rfl
    have f4 : g 4 = b2i (sath (g 2)) := eqs_at hE 237 _ rfl
    have f3 : g 3 = satv (g 2) := eqs_at hE 238 _ rfl
    have f2 : g 2 = wrapF .i64 (g 1) := eqs_at hE 239 _ rfl
    rw [e1, conv64 ha] at f2
    refine hc.mono fun e w' hp => ?_
    obtain ⟨rfl, _, hF⟩ := hp
    have hx : ieq (sinQ.hx.val g) 1 = (hb || ieq (U 1 [a]) 1) := by
      show ieq (g 5) 1 = _
      rw [f5, e0, f4, f2, ieq_sel]; rfl
    rw [hx] at hF
    refine ⟨?_, hF⟩
    congr 2
    show g 241 = sinF a
    rw [f2] at f3
    rw [f3] at f6
    have l30 : g 30 = -cosP (g 16) := by
      simp only [f30, f28, f27, f26, f25, f24, f23, f22, f21, f20, f19, f18, f17, cosP]
      simp only [Int.one_mul, Int.neg_mul, Int.neg_add, Int.add_comm]
    have l43 : g 43 = sinP (g 12) := by
      simp only [f43, f42, f41, f40, f39, f38, f37, f36, f35, f34, f32, f31, sinP]
      simp only [Int.one_mul, Int.neg_mul, Int.sub_eq_add_neg, Int.add_comm]
    have l64 : g 64 = -cosP (g 50) := by
      simp only [f64, f62, f61, f60, f59, f58, f57, f56, f55, f54, f53, f52, f51, cosP]
      simp only [Int.one_mul, Int.neg_mul, Int.neg_add, Int.add_comm]
    have l77 : g 77 = sinP (g 8) := by
      simp only [f77, f76, f75, f74, f73, f72, f71, f70, f69, f68, f66, f65, sinP]
      simp only [Int.one_mul, Int.neg_mul, Int.sub_eq_add_neg, Int.add_comm]
    have l99 : g 99 = cosP (g 86) := by
      simp only [f99, f98, f97, f96, f95, f94, f93, f92, f91, f90, f89, f88, f87, cosP]
      simp only [Int.one_mul, Int.add_comm]
    have l120 : g 120 = -cosP (g 106) := by
      simp only [f120, f118, f117, f116, f115, f114, f113, f112, f111, f110, f109, f108, f107, cosP]
      simp only [Int.one_mul, Int.neg_mul, Int.neg_add, Int.add_comm]
    have l133 : g 133 = sinP (g 102) := by
      simp only [f133, f132, f131, f130, f129, f128, f127, f126, f125, f124, f122, f121, sinP]
      simp only [Int.one_mul, Int.neg_mul, Int.sub_eq_add_neg, Int.add_comm]
    have l154 : g 154 = -cosP (g 140) := by
      simp only [f154, f152, f151, f150, f149, f148, f147, f146, f145, f144, f143, f142, f141, cosP]
      simp only [Int.one_mul, Int.neg_mul, Int.neg_add, Int.add_comm]
    have l167 : g 167 = sinP (g 6) := by
      simp only [f167, f166, f165, f164, f163, f162, f161, f160, f159, f158, f156, f155, sinP]
      simp only [Int.one_mul, Int.neg_mul, Int.sub_eq_add_neg, Int.add_comm]
    have l185 : g 185 = cosP (g 172) := by
      simp only [f185, f184, f183, f182, f181, f180, f179, f178, f177, f176, f175, f174, f173, cosP]
      simp only [Int.one_mul, Int.add_comm]
    have l206 : g 206 = cosP (g 193) := by
      simp only [f206, f205, f204, f203, f202, f201, f200, f199, f198, f197, f196, f195, f194, cosP]
      simp only [Int.one_mul, Int.add_comm]
    have l224 : g 224 = cosP (g 211) := by
      simp only [f224, f223, f222, f221, f220, f219, f218, f217, f216, f215, f214, f213, f212, cosP]
      simp only [Int.one_mul, Int.add_comm]
    have l237 : g 237 = sinP (g 190) := by
      simp only [f237, f236, f235, f234, f233, f232, f231, f230, f229, f228, f226, f225, sinP]
      simp only [Int.one_mul, Int.neg_mul, Int.sub_eq_add_neg, Int.add_comm]
    have hm1 := Int.tmod_lt_of_pos (satv a) (show (0 : Int) < 6746518852 by decide)
    have hm2 := Int.lt_tmod_of_pos (satv a) (show (0 : Int) < 6746518852 by decide)
    rw [sinF_eq, wrapT_M]
    rw [← f6] at hm1 hm2 ⊢
    simp only [f241, f240, f239, f238, f211, f210, f207, f193, f192, f191, f190, f189, f188, f187, f186, f172, f171, f170, f168, f140, f139, f138, f137, f136, f134, f106, f105, f104, f102, f101, f100, f86, f85, f84, f82, f81, f80, f78, f50, f49, f48, f46, f44, f16, f15, f14, f12, f11, f8, f7, l30, l43, l64, l77, l99, l120, l133, l154, l167, l185, l206, l224, l237, ieq_b2i, Int.one_mul, Int.neg_mul, Int.add_zero, lssF, Bool.cond_decide]
    clear hF hc hx hga f241 f240 f239 f238 f237 f236 f235 f234 f233 f232 f231 f230 f229 f228 f227 f226 f225 f224 f223 f222 f221 f220 f219 f218 f217 f216 f215 f214 f213 f212 f211 f210 f209 f208 f207 f206 f205 f204 f203 f202 f201 f200 f199 f198 f197 f196 f195 f194 f193 f192 f191 f190 f189 f188 f187 f186 f185 f184 f183 f182 f181 f180 f179 f178 f177 f176 f175 f174 f173 f172 f171 f170 f168 f167 f166 f165 f164 f163 f162 f161 f160 f159 f158 f157 f156 f155 f154 f153 f152 f151 f150 f149 f148 f147 f146 f145 f144 f143 f142 f141 f140 f139 f138 f137 f136 f134 f133 f132 f131 f130 f129 f128 f127 f126 f125 f124 f123 f122 f121 f120 f119 f118 f117 f116 f115 f114 f113 f112 f111 f110 f109 f108 f107 f106 f105 f104 f103 f102 f101 f100 f99 f98 f97 f96 f95 f94 f93 f92 f91 f90 f89 f88 f87 f86 f85 f84 f82 f81 f80 f78 f77 f76 f75 f74 f73 f72 f71 f70 f69 f68 f67 f66 f65 f64 f63 f62 f61 f60 f59 f58 f57 f56 f55 f54 f53 f52 f51 f50 f49 f48 f47 f46 f44 f43 f42 f41 f40 f39 f38 f37 f36 f35 f34 f33 f32 f31 f30 f29 f28 f27 f26 f25 f24 f23 f22 f21 f20 f19 f18 f17 f16 f15 f14 f13 f12 f11 f10 f9 f8 f7 f6 f5 f4 f3 f2
    generalize g 6 = m at *
    (repeat' split) <;>
      (first | rw [wrapM_1 (by omega)] | rw [wrapM_2 (by omega)] | rw [wrapM_3 (by omega)]) <;>
      (first | rw [foldT_1 (by omega)] | rw [foldT_2 (by omega)] | rw [foldT_3 (by omega)]) <;>
      (first | rw [sineF_1 (by omega)] | rw [sineF_2 (by omega)] | rw [sineF_3 (by omega)]) <;>
      (first
        | exact congrArg sinP (by omega)
        | exact congrArg cosP (by omega)
        | exact congrArg (fun t => -cosP t) (by omega)
        | exact (maxO (Int.le_trans (by decide) (sinP_in (by omega) (by omega)).1)).trans (congrArg sinP (by omega))
        | exact (clamp_in (Int.le_trans (by decide) (sinP_in (by omega) (by omega)).1) (Int.le_trans (sinP_in (by omega) (by omega)).2 (by decide))).trans (congrArg sinP (by omega))
        | omega)
end
end Go.Proofs.YtbpccdagmaiblaaDoor.SX
