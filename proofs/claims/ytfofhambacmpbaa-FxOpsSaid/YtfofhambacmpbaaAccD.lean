/- The document's own scalars: the sum of all. -/
import Derived.Test.YtfofhambacmpbaaAccC
namespace Go.Proofs.Ytfofhambacmpbaa
open Go.RowKit

theorem blk_all9 {w : World} {B : Nat} {t : TypeId} {c0 c1 c2 c3 c4 c5 c6 c7 c8 : Value} (h : Blk w B #[c0, c1, c2, c3, c4, c5, c6, c7, c8] t) (v0 v1 v2 v3 v4 v5 v6 v7 v8 : Value) :
    Blk (((((((((w.setCell ⟨B, 0, none⟩ v0).setCell ⟨B, 1, none⟩ v1).setCell ⟨B, 2, none⟩ v2).setCell ⟨B, 3, none⟩ v3).setCell ⟨B, 4, none⟩ v4).setCell ⟨B, 5, none⟩ v5).setCell ⟨B, 6, none⟩ v6).setCell ⟨B, 7, none⟩ v7).setCell ⟨B, 8, none⟩ v8) B #[v0, v1, v2, v3, v4, v5, v6, v7, v8] t := by
  unfold Blk
  simp [World.setCell, Array.getElem?_modify, show w.heap[B]? = _ from h]
theorem has9_all {w : World} {t : TypeId} {B : Nat} {s : Bool} {f : Nat → Int} (h : Has9 w t B s f) (s' : Bool) (g : Nat → Int) :
    Has9 (((((((((w.setCell ⟨B, 0, none⟩ (.bool s')).setCell ⟨B, 1, none⟩ (.int .u64 (g 0))).setCell ⟨B, 2, none⟩ (.int .u64 (g 1))).setCell ⟨B, 3, none⟩ (.int .u64 (g 2))).setCell ⟨B, 4, none⟩ (.int .u64 (g 3))).setCell ⟨B, 5, none⟩ (.int .u64 (g 4))).setCell ⟨B, 6, none⟩ (.int .u64 (g 5))).setCell ⟨B, 7, none⟩ (.int .u64 (g 6))).setCell ⟨B, 8, none⟩ (.int .u64 (g 7))) t B s' g := by
  have h' : Blk w B #[.bool s, .int .u64 (f 0), .int .u64 (f 1), .int .u64 (f 2), .int .u64 (f 3), .int .u64 (f 4), .int .u64 (f 5), .int .u64 (f 6), .int .u64 (f 7)] t := h
  exact blk_all9 h' _ _ _ _ _ _ _ _ _
theorem FlW.other9 {p o b : Nat} {h : Bool} {w w1 : World} (k : FlW p o h w w1) (hb : w.heap.size ≤ b) (v0 v1 v2 v3 v4 v5 v6 v7 v8 : Value) :
    FlW p o h w (((((((((w1.setCell ⟨b, 0, none⟩ v0).setCell ⟨b, 1, none⟩ v1).setCell ⟨b, 2, none⟩ v2).setCell ⟨b, 3, none⟩ v3).setCell ⟨b, 4, none⟩ v4).setCell ⟨b, 5, none⟩ v5).setCell ⟨b, 6, none⟩ v6).setCell ⟨b, 7, none⟩ v7).setCell ⟨b, 8, none⟩ v8) :=
  ((((((((k.other hb _).other hb _).other hb _).other hb _).other hb _).other hb _).other hb _).other hb _).other hb _
theorem sumS_abs (xs : Nat → Int) (k : Nat) (hk : k ≤ 9223372036854775807) : (sumS xs k).natAbs ≤ 10633823966279326983230456482242756608 := by
  have := sumS_bd xs k
  omega
theorem of_zero (w : World) : Calls Try.prog 25 #[.int .i64 0] w fun e w' => e = .returned (Bg 0) ∧ Below w.heap.size w w' := of_any 0 w (by decide) (by decide)
set_option maxRecDepth 100000 in
set_option maxHeartbeats 8000000 in
theorem rsum_any (p o : Nat) (b ob n c : Nat) (xs : Nat → Int) (h : Bool) (w : World) (f : Fl p o h w) (hn : n ≤ 9223372036854775807) (hb : b < w.heap.size) (hbp : b ≠ p) (hx : Ints w b ob n xs) :
    Calls Try.prog 56 #[.pointer (some ⟨p, o, none⟩), .slice (some ⟨b, ob, none⟩) n c] w fun e w' => e = .returned (.int .i64 (satv (sumS xs n))) ∧ FlW p o (h || anyS xs n || sath (sumS xs n)) w w' := by
  go_enter Try.func56, Try.ntmps56
  go_wp2_with fail
  refine (of_zero _).mono ?_
  rintro e w1 ⟨rfl, hb1⟩
  have k1 : FlW p o h w w1 := (FlW.refl f).then hb1
  go_wp2_with fail
  generalize hW : World.alloc w1 _ = W
  have B0 : Has9 W 38 w1.heap.size (decide (sumS xs 0 < 0)) (dg (sumS xs 0).natAbs) := by subst hW; exact heap_alloc_new w1 _
  have k0 : FlW p o (h || anyS xs 0) w W := by subst hW; exact flag_is (by simp [anyS]) (k1.alloc _)
  have z1 := hb1.size
  have hRp : w1.heap.size ≠ p := by have := f.lt; omega
  clear hW k1 hb1
  go_loopw [6] (fun i wr => ∃ k : Nat, k ≤ n ∧ i = .int .i64 k ∧ FlW p o (h || anyS xs k) w wr ∧ Has9 wr 38 w1.heap.size (decide (sumS xs k < 0)) (dg (sumS xs k).natAbs)) (fun i _ => n - (intOf i).toNat)
  case atStart => exact ⟨0, Nat.zero_le _, rfl, k0, B0⟩
  case round =>
    clear k0 B0
    obtain ⟨k, hk, rfl, hF, hc⟩ := hrel
    by_cases hlt : k < n
    · have hxk := (hF.cell (b := b) (i := ob + k) hb (.inl hbp)).trans (hx.at_ k hlt)
      have fr := hF.fl f
      have l1 := satv_lo (xs k)
      have l2 := satv_hi (xs k)
      have a1 := satv_abs (xs k)
      have a2 := sumS_abs xs k (by omega)
      have n1 : (sumS xs k).natAbs < B8 := big_lt (by omega)
      have n2 : (satv (xs k)).natAbs < B8 := big_lt (by omega)
      have n3 : (sumS xs k).natAbs + (satv (xs k)).natAbs < B8 := big_lt (by omega)
      have hltI : (k : Int) < (n : Int) := by omega
      have hk0 : (0 : Int) ≤ (k : Int) := by omega
      have hz := hc.lt
      obtain ⟨s0, s1, s2, s3, s4, s5, s6, s7, s8⟩ := hc.cells
      go_wp2_with fail
      go_region_with (first
        | (go_at_call 48; refine (rsat_any p o (xs k) _ _ (by first | exact fr | exact fr.drew)).mono ?_; rintro e w4 ⟨rfl, kk⟩; have c4 := Blk.flag (h := (by first | exact hc | exact hc.drew)) hRp kk; obtain ⟨t0, t1, t2, t3, t4, t5, t6, t7, t8⟩ := Has9.cells c4)
        | (go_at_call 25; refine (of_any (satv (xs k)) _ (by omega) (by omega)).mono ?_; rintro e w5 ⟨rfl, hb5⟩; have c5 := Blk.call c4 hb5; obtain ⟨u0, u1, u2, u3, u4, u5, u6, u7, u8⟩ := Has9.cells c5)
        | (go_at_call 28; refine (add_any (sumS xs k) (satv (xs k)) _ n1 n2 n3).mono ?_; rintro e w6 ⟨rfl, hb6⟩; have c6 := Blk.call c5 hb6; obtain ⟨v0, v1, v2, v3, v4, v5, v6, v7, v8⟩ := Has9.cells c6; have r6 := Has9.free c6; have m6 := ((kk.then hb5).then hb6)))
      all_goals
        go_wp2_with fail
        go_roundw
        case rel =>
          exact ⟨k + 1, by omega, by go_num, flag_is (by simp [anyS, Bool.or_assoc]) ((FlW.trans (by first | exact hF.drew | exact hF) m6).other9 z1 _ _ _ _ _ _ _ _ _), has9_all c6 _ (dg (sumS xs k + satv (xs k)).natAbs)⟩
        case measure => simp [intOf]; omega
    · have hge : ¬ (k : Int) < (n : Int) := by omega
      obtain rfl : k = n := by omega
      have fr := hF.fl f
      have a2 := sumS_abs xs k hn
      have n1 : (sumS xs k).natAbs < B8 := big_lt (by omega)
      obtain ⟨s0, s1, s2, s3, s4, s5, s6, s7, s8⟩ := hc.cells
      go_wp2_with fail
      refine (end_any p o (sumS xs k) _ _ fr n1).mono ?_
      rintro e w7 ⟨rfl, kk⟩
      go_wp2_with fail
      go_ret
      exact ⟨rfl, hF.trans kk⟩
end Go.Proofs.Ytfofhambacmpbaa
