/- Proved here: each operation is exact, rounded once, clamped, and the flag is set just as the document says; for every input. -/
import Derived.Test.YtfofhambacmpbaaOpsC
import Derived.Test.YtfofhambacmpbaaAwakeF
import Derived.Test.YtfofhambacmpbaaLift
namespace Go.Proofs.Ytfofhambacmpbaa.fxOps
open Go.RowKit
set_option maxRecDepth 100000 in
set_option maxHeartbeats 16000000 in
theorem walk (a : Int) (_wa : (Lit.int .i64 a).wf = true) (b : Int) (_wb : (Lit.int .i64 b).wf = true) (d : Int) (_wd : (Lit.int .i64 d).wf = true) (s : Int) (_ws : (Lit.int .i64 s).wf = true) (w : World) :
    Calls Try.prog 10 #[.int .i64 a, .int .i64 b, .int .i64 d, .int .i64 s] w fun e w' => e = .returned (.bool true) ∧ Below w.heap.size w w' := by
  have hs4 : (s < 0 ∨ 120 < s) ∨ ∃ k : Nat, s = k ∧ k ≤ 120 := by
    by_cases h : s < 0 ∨ 120 < s
    · exact .inl h
    · exact .inr ⟨s.toNat, by omega, by omega⟩
  have hs5 : (s < 0 ∨ 66 < s) ∨ ∃ k : Nat, s = k ∧ k ≤ 66 := by
    by_cases h : s < 0 ∨ 66 < s
    · exact .inl h
    · exact .inr ⟨s.toNat, by omega, by omega⟩
  have HS4 := Lib.hid hs4
  have HS5 := Lib.hid hs5
  clear _wa _wb _wd _ws hs4 hs5
  go_enter Try.func10, Try.ntmps10
  go_wp2_with fail
  refine (awakeF_any _).mono ?_
  rintro e w1 ⟨rfl, hB1⟩
  go_wp2_with fail
  go_loopw [9] (fun i wr => ∃ k : Nat, k ≤ 9 ∧ i = .int .i64 k ∧ Below w.heap.size w wr) (fun i _ => 9 - (intOf i).toNat)
  case atStart => exact ⟨0, by omega, rfl, hB1⟩
  case round =>
    clear hB1
    obtain ⟨k, hk, rfl, hB⟩ := hrel
    have hcs : k = 0 ∨ k = 1 ∨ k = 2 ∨ k = 3 ∨ k = 4 ∨ k = 5 ∨ k = 6 ∨ k = 7 ∨ k = 8 ∨ k = 9 := by omega
    clear hk
    rcases hcs with rfl | rfl | rfl | rfl | rfl | rfl | rfl | rfl | rfl | rfl
    · go_wp2_with fail
      generalize hW : World.alloc (World.alloc wr _) _ = W
      have fc : Fl wr.heap.size 0 false W := by subst hW; exact (Fl.made _ _ false).alloc _
      have fr : Fl (wr.heap.size + 1) 0 false W := by subst hW; exact Fl.made_at _ _ false (by simp)
      have HS := Lib.hid (show W.heap.size = wr.heap.size + 1 + 1 by subst hW; simp)
      have hl := hB.size
      have hne : wr.heap.size + 1 ≠ wr.heap.size := by omega
      have hne' : wr.heap.size ≠ wr.heap.size + 1 := by omega
      have hBW : Below w.heap.size w W := by subst hW; exact (hB.alloc hB.size _).alloc (by simp; omega) _
      clear hW
      refine (clamp_any wr.heap.size 0 a b d false _ fc).mono ?_
      rintro e w2 ⟨rfl, kc⟩
      have fc := kc.fl fc
      have fr := fr.far hne kc
      have hB2 := hBW.trans (kc.below hBW.size hl)
      clear kc hBW
      go_wp2_with fail
      refine (rclamp_any (wr.heap.size + 1) 0 a b d false _ fr).mono ?_
      rintro e w3 ⟨rfl, kr⟩
      have fr := kr.fl fr
      have fc := fc.far hne' kr
      have hB3 := hB2.trans (kr.below hB2.size (by omega))
      clear kr hB2
      generalize clampv a b d = v at *
      generalize (false || clamph a b d) = g at *
      have x1 := fc.cell
      have x2 := fr.cell
      go_wp2_with fail
      go_quiet (fail)
      go_wp2_with fail
      go_roundw
      case rel => exact ⟨1, by omega, rfl, below_drewN hB3 _⟩
      case measure => simp [intOf]
    · go_wp2_with fail
      generalize hW : World.alloc (World.alloc wr _) _ = W
      have fc : Fl wr.heap.size 0 false W := by subst hW; exact (Fl.made _ _ false).alloc _
      have fr : Fl (wr.heap.size + 1) 0 false W := by subst hW; exact Fl.made_at _ _ false (by simp)
      have HS := Lib.hid (show W.heap.size = wr.heap.size + 1 + 1 by subst hW; simp)
      have hl := hB.size
      have hne : wr.heap.size + 1 ≠ wr.heap.size := by omega
      have hne' : wr.heap.size ≠ wr.heap.size + 1 := by omega
      have hBW : Below w.heap.size w W := by subst hW; exact (hB.alloc hB.size _).alloc (by simp; omega) _
      clear hW
      refine (sat_any wr.heap.size 0 a false _ fc).mono ?_
      rintro e w2 ⟨rfl, kc⟩
      have fc := kc.fl fc
      have fr := fr.far hne kc
      have hB2 := hBW.trans (kc.below hBW.size hl)
      clear kc hBW
      go_wp2_with fail
      refine (rsat_any (wr.heap.size + 1) 0 a false _ fr).mono ?_
      rintro e w3 ⟨rfl, kr⟩
      have fr := kr.fl fr
      have fc := fc.far hne' kr
      have hB3 := hB2.trans (kr.below hB2.size (by omega))
      clear kr hB2
      generalize satv a = v at *
      generalize (false || sath a) = g at *
      have x1 := fc.cell
      have x2 := fr.cell
      go_wp2_with fail
      go_quiet (fail)
      go_wp2_with fail
      go_roundw
      case rel => exact ⟨2, by omega, rfl, below_drewN hB3 _⟩
      case measure => simp [intOf]
    · go_wp2_with fail
      generalize hW : World.alloc (World.alloc wr _) _ = W
      have fc : Fl wr.heap.size 0 false W := by subst hW; exact (Fl.made _ _ false).alloc _
      have fr : Fl (wr.heap.size + 1) 0 false W := by subst hW; exact Fl.made_at _ _ false (by simp)
      have HS := Lib.hid (show W.heap.size = wr.heap.size + 1 + 1 by subst hW; simp)
      have hl := hB.size
      have hne : wr.heap.size + 1 ≠ wr.heap.size := by omega
      have hne' : wr.heap.size ≠ wr.heap.size + 1 := by omega
      have hBW : Below w.heap.size w W := by subst hW; exact (hB.alloc hB.size _).alloc (by simp; omega) _
      clear hW
      refine (fadd2 wr.heap.size 0 _ a b _ false W fc HS.out).mono ?_
      rintro e w2 ⟨rfl, kc⟩
      have fc := kc.fl fc
      have fr := fr.far hne kc
      have hB2 := hBW.trans (kc.below hBW.size hl)
      clear kc hBW
      go_wp2_with fail
      refine (radd2 (wr.heap.size + 1) 0 a b false _ fr).mono ?_
      rintro e w3 ⟨rfl, kr⟩
      have fr := kr.fl fr
      have fc := fc.far hne' kr
      have hB3 := hB2.trans (kr.below hB2.size (by omega))
      clear kr hB2
      generalize satv (satv a + satv b) = v at *
      generalize (false || (sath a || sath b) || sath (satv a + satv b)) = g at *
      have x1 := fc.cell
      have x2 := fr.cell
      go_wp2_with fail
      go_quiet (fail)
      go_wp2_with fail
      go_roundw
      case rel => exact ⟨3, by omega, rfl, below_drewN hB3 _⟩
      case measure => simp [intOf]
    · go_wp2_with fail
      generalize hW : World.alloc (World.alloc wr _) _ = W
      have fc : Fl wr.heap.size 0 false W := by subst hW; exact (Fl.made _ _ false).alloc _
      have fr : Fl (wr.heap.size + 1) 0 false W := by subst hW; exact Fl.made_at _ _ false (by simp)
      have HS := Lib.hid (show W.heap.size = wr.heap.size + 1 + 1 by subst hW; simp)
      have hl := hB.size
      have hne : wr.heap.size + 1 ≠ wr.heap.size := by omega
      have hne' : wr.heap.size ≠ wr.heap.size + 1 := by omega
      have hBW : Below w.heap.size w W := by subst hW; exact (hB.alloc hB.size _).alloc (by simp; omega) _
      clear hW
      refine (sub_any wr.heap.size 0 a b false _ fc).mono ?_
      rintro e w2 ⟨rfl, kc⟩
      have fc := kc.fl fc
      have fr := fr.far hne kc
      have hB2 := hBW.trans (kc.below hBW.size hl)
      clear kc hBW
      go_wp2_with fail
      refine (rsub_any (wr.heap.size + 1) 0 a b false _ fr).mono ?_
      rintro e w3 ⟨rfl, kr⟩
      have fr := kr.fl fr
      have fc := fc.far hne' kr
      have hB3 := hB2.trans (kr.below hB2.size (by omega))
      clear kr hB2
      generalize satv (satv a - satv b) = v at *
      generalize (false || sath a || sath b || sath (satv a - satv b)) = g at *
      have x1 := fc.cell
      have x2 := fr.cell
      go_wp2_with fail
      go_quiet (fail)
      go_wp2_with fail
      go_roundw
      case rel => exact ⟨4, by omega, rfl, below_drewN hB3 _⟩
      case measure => simp [intOf]
    · rcases HS4.out with hs | ⟨j, rfl, hj⟩
      · go_wp2_with fail
        generalize hW : World.alloc (World.alloc wr _) _ = W
        have fc : Fl wr.heap.size 0 false W := by subst hW; exact (Fl.made _ _ false).alloc _
        have fr : Fl (wr.heap.size + 1) 0 false W := by subst hW; exact Fl.made_at _ _ false (by simp)
        have HS := Lib.hid (show W.heap.size = wr.heap.size + 1 + 1 by subst hW; simp)
        have hl := hB.size
        have hne : wr.heap.size + 1 ≠ wr.heap.size := by omega
        have hne' : wr.heap.size ≠ wr.heap.size + 1 := by omega
        have hBW : Below w.heap.size w W := by subst hW; exact (hB.alloc hB.size _).alloc (by simp; omega) _
        clear hW
        refine (mul_out wr.heap.size 0 a b s false _ fc hs).mono ?_
        rintro e w2 ⟨rfl, kc⟩
        have fc := kc.fl fc
        have fr := fr.far hne kc
        have hB2 := hBW.trans (kc.below hBW.size hl)
        clear kc hBW
        go_wp2_with fail
        refine (rmul_out (wr.heap.size + 1) 0 a b s false _ fr hs).mono ?_
        rintro e w3 ⟨rfl, kr⟩
        have fr := kr.fl fr
        have fc := fc.far hne' kr
        have hB3 := hB2.trans (kr.below hB2.size (by omega))
        clear kr hB2
        clear hs
        have x1 := fc.cell
        have x2 := fr.cell
        go_wp2_with fail
        go_quiet (fail)
        go_wp2_with fail
        go_roundw
        case rel => exact ⟨5, by omega, rfl, below_drewN hB3 _⟩
        case measure => simp [intOf]
      · go_wp2_with fail
        generalize hW : World.alloc (World.alloc wr _) _ = W
        have fc : Fl wr.heap.size 0 false W := by subst hW; exact (Fl.made _ _ false).alloc _
        have fr : Fl (wr.heap.size + 1) 0 false W := by subst hW; exact Fl.made_at _ _ false (by simp)
        have HS := Lib.hid (show W.heap.size = wr.heap.size + 1 + 1 by subst hW; simp)
        have hl := hB.size
        have hne : wr.heap.size + 1 ≠ wr.heap.size := by omega
        have hne' : wr.heap.size ≠ wr.heap.size + 1 := by omega
        have hBW : Below w.heap.size w W := by subst hW; exact (hB.alloc hB.size _).alloc (by simp; omega) _
        clear hW
        refine (mul_fx wr.heap.size 0 a b j false _ fc hj).mono ?_
        rintro e w2 ⟨rfl, kc⟩
        have fc := kc.fl fc
        have fr := fr.far hne kc
        have hB2 := hBW.trans (kc.below hBW.size hl)
        clear kc hBW
        go_wp2_with fail
        refine (rmul_any (wr.heap.size + 1) 0 a b j false _ fr hj).mono ?_
        rintro e w3 ⟨rfl, kr⟩
        have fr := kr.fl fr
        have fc := fc.far hne' kr
        have hB3 := hB2.trans (kr.below hB2.size (by omega))
        clear kr hB2
        generalize satv (rnd (satv a * satv b) j) = v at *
        generalize (false || sath a || sath b || sath (rnd (satv a * satv b) j)) = g at *
        have x1 := fc.cell
        have x2 := fr.cell
        go_wp2_with fail
        go_quiet (fail)
        go_wp2_with fail
        go_roundw
        case rel => exact ⟨5, by omega, rfl, below_drewN hB3 _⟩
        case measure => simp [intOf]
    · rcases HS5.out with hs | ⟨j, rfl, hj⟩
      · go_wp2_with fail
        generalize hW : World.alloc (World.alloc wr _) _ = W
        have fc : Fl wr.heap.size 0 false W := by subst hW; exact (Fl.made _ _ false).alloc _
        have fr : Fl (wr.heap.size + 1) 0 false W := by subst hW; exact Fl.made_at _ _ false (by simp)
        have HS := Lib.hid (show W.heap.size = wr.heap.size + 1 + 1 by subst hW; simp)
        have hl := hB.size
        have hne : wr.heap.size + 1 ≠ wr.heap.size := by omega
        have hne' : wr.heap.size ≠ wr.heap.size + 1 := by omega
        have hBW : Below w.heap.size w W := by subst hW; exact (hB.alloc hB.size _).alloc (by simp; omega) _
        clear hW
        refine (div_out wr.heap.size 0 a b s false _ fc hs).mono ?_
        rintro e w2 ⟨rfl, kc⟩
        have fc := kc.fl fc
        have fr := fr.far hne kc
        have hB2 := hBW.trans (kc.below hBW.size hl)
        clear kc hBW
        go_wp2_with fail
        refine (rdiv_out (wr.heap.size + 1) 0 a b s false _ fr hs).mono ?_
        rintro e w3 ⟨rfl, kr⟩
        have fr := kr.fl fr
        have fc := fc.far hne' kr
        have hB3 := hB2.trans (kr.below hB2.size (by omega))
        clear kr hB2
        clear hs
        have x1 := fc.cell
        have x2 := fr.cell
        go_wp2_with fail
        go_quiet (fail)
        go_wp2_with fail
        go_roundw
        case rel => exact ⟨6, by omega, rfl, below_drewN hB3 _⟩
        case measure => simp [intOf]
      · go_wp2_with fail
        generalize hW : World.alloc (World.alloc wr _) _ = W
        have fc : Fl wr.heap.size 0 false W := by subst hW; exact (Fl.made _ _ false).alloc _
        have fr : Fl (wr.heap.size + 1) 0 false W := by subst hW; exact Fl.made_at _ _ false (by simp)
        have HS := Lib.hid (show W.heap.size = wr.heap.size + 1 + 1 by subst hW; simp)
        have hl := hB.size
        have hne : wr.heap.size + 1 ≠ wr.heap.size := by omega
        have hne' : wr.heap.size ≠ wr.heap.size + 1 := by omega
        have hBW : Below w.heap.size w W := by subst hW; exact (hB.alloc hB.size _).alloc (by simp; omega) _
        clear hW
        refine (div_fx wr.heap.size 0 a b j false _ fc hj).mono ?_
        rintro e w2 ⟨rfl, kc⟩
        have fc := kc.fl fc
        have fr := fr.far hne kc
        have hB2 := hBW.trans (kc.below hBW.size hl)
        clear kc hBW
        go_wp2_with fail
        refine (rdiv_any (wr.heap.size + 1) 0 a b j false _ fr hj).mono ?_
        rintro e w3 ⟨rfl, kr⟩
        have fr := kr.fl fr
        have fc := fc.far hne' kr
        have hB3 := hB2.trans (kr.below hB2.size (by omega))
        clear kr hB2
        generalize divv (satv a * 2 ^ j) (satv b) = v at *
        generalize (false || sath a || sath b || divh (satv a * 2 ^ j) (satv b)) = g at *
        have x1 := fc.cell
        have x2 := fr.cell
        go_wp2_with fail
        go_quiet (fail)
        go_wp2_with fail
        go_roundw
        case rel => exact ⟨6, by omega, rfl, below_drewN hB3 _⟩
        case measure => simp [intOf]
    · go_wp2_with fail
      generalize hW : World.alloc (World.alloc wr _) _ = W
      have fc : Fl wr.heap.size 0 false W := by subst hW; exact (Fl.made _ _ false).alloc _
      have fr : Fl (wr.heap.size + 1) 0 false W := by subst hW; exact Fl.made_at _ _ false (by simp)
      have HS := Lib.hid (show W.heap.size = wr.heap.size + 1 + 1 by subst hW; simp)
      have hl := hB.size
      have hne : wr.heap.size + 1 ≠ wr.heap.size := by omega
      have hne' : wr.heap.size ≠ wr.heap.size + 1 := by omega
      have hBW : Below w.heap.size w W := by subst hW; exact (hB.alloc hB.size _).alloc (by simp; omega) _
      clear hW
      refine (muldiv_fx wr.heap.size 0 a b d false _ fc).mono ?_
      rintro e w2 ⟨rfl, kc⟩
      have fc := kc.fl fc
      have fr := fr.far hne kc
      have hB2 := hBW.trans (kc.below hBW.size hl)
      clear kc hBW
      go_wp2_with fail
      refine (rmuldiv_any (wr.heap.size + 1) 0 a b d false _ fr).mono ?_
      rintro e w3 ⟨rfl, kr⟩
      have fr := kr.fl fr
      have fc := fc.far hne' kr
      have hB3 := hB2.trans (kr.below hB2.size (by omega))
      clear kr hB2
      generalize divv (satv a * satv b) (satv d) = v at *
      generalize (false || sath a || sath b || sath d || divh (satv a * satv b) (satv d)) = g at *
      have x1 := fc.cell
      have x2 := fr.cell
      go_wp2_with fail
      go_quiet (fail)
      go_wp2_with fail
      go_roundw
      case rel => exact ⟨7, by omega, rfl, below_drewN hB3 _⟩
      case measure => simp [intOf]
    · go_wp2_with fail
      generalize hW : World.alloc (World.alloc wr _) _ = W
      have fc : Fl wr.heap.size 0 false W := by subst hW; exact (Fl.made _ _ false).alloc _
      have fr : Fl (wr.heap.size + 1) 0 false W := by subst hW; exact Fl.made_at _ _ false (by simp)
      have HS := Lib.hid (show W.heap.size = wr.heap.size + 1 + 1 by subst hW; simp)
      have hl := hB.size
      have hne : wr.heap.size + 1 ≠ wr.heap.size := by omega
      have hne' : wr.heap.size ≠ wr.heap.size + 1 := by omega
      have hBW : Below w.heap.size w W := by subst hW; exact (hB.alloc hB.size _).alloc (by simp; omega) _
      clear hW
      refine (fadd3 wr.heap.size 0 _ a b d _ false W fc HS.out).mono ?_
      rintro e w2 ⟨rfl, kc⟩
      have fc := kc.fl fc
      have fr := fr.far hne kc
      have hB2 := hBW.trans (kc.below hBW.size hl)
      clear kc hBW
      go_wp2_with fail
      refine (rsum3 (wr.heap.size + 1) 0 _ a b d _ false _ fr rfl).mono ?_
      rintro e w3 ⟨rfl, kr⟩
      have fr := kr.fl fr
      have fc := fc.far hne' kr
      have hB3 := hB2.trans (kr.below hB2.size (by omega))
      clear kr hB2
      generalize satv (satv a + satv b + satv d) = v at *
      generalize (false || (sath a || sath b || sath d) || sath (satv a + satv b + satv d)) = g at *
      have x1 := fc.cell
      have x2 := fr.cell
      go_wp2_with fail
      go_quiet (fail)
      go_wp2_with fail
      go_roundw
      case rel => exact ⟨8, by omega, rfl, below_drewN hB3 _⟩
      case measure => simp [intOf]
    · go_wp2_with fail
      generalize hW : World.alloc (World.alloc wr _) _ = W
      have fc : Fl wr.heap.size 0 false W := by subst hW; exact (Fl.made _ _ false).alloc _
      have fr : Fl (wr.heap.size + 1) 0 false W := by subst hW; exact Fl.made_at _ _ false (by simp)
      have HS := Lib.hid (show W.heap.size = wr.heap.size + 1 + 1 by subst hW; simp)
      have hl := hB.size
      have hne : wr.heap.size + 1 ≠ wr.heap.size := by omega
      have hne' : wr.heap.size ≠ wr.heap.size + 1 := by omega
      have hBW : Below w.heap.size w W := by subst hW; exact (hB.alloc hB.size _).alloc (by simp; omega) _
      clear hW
      refine (abs_any a _).mono ?_
      rintro e w2 ⟨rfl, rfl⟩
      go_wp2_with fail
      refine (rabs_any a _).mono ?_
      rintro e w3 ⟨rfl, rfl⟩
      have hB3 := hBW
      clear hBW
      generalize absv a = v at *
      have x1 := fc.cell
      have x2 := fr.cell
      go_wp2_with fail
      go_quiet (fail)
      go_wp2_with fail
      go_roundw
      case rel => exact ⟨9, by omega, rfl, below_drewN hB3 _⟩
      case measure => simp [intOf]
    · go_wp2_with fail
      go_ret
      exact ⟨rfl, hB⟩
end Go.Proofs.Ytfofhambacmpbaa.fxOps
