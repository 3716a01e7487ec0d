/- A sample is put in, whatever it is; the document's own: is a sample good? -/
import Derived.Test.YtdndomknjefgkaaDnH
namespace Go.Proofs.Ytdndomknjefgkaa.Rg
open Go.RowKit
theorem dput_any (p o A : Nat) (F i : Nat → Int) (h : Bool) (w : World) (f : Fl p o h w) (hA : Blk w A (rowA 10 F) 77) (hAp : A ≠ p) (hm : Mod 1 (pend F)) :
    Calls Try.prog 10 #[.pointer (some ⟨A, 0, none⟩), .pointer (some ⟨p, o, none⟩), .agg (rowA 8 i)] w fun e w' =>
      e = .returned (.tuple #[.agg (rowA 8 (toldR F i)), .bool (told F i), .int .i64 (errI F i)]) ∧ Fl p o h w' ∧ Blk w' A (rowA 10 (nextF F i)) 77 ∧ Tch [p, A] w w' := by
  have bad : took F i = false → ∀ e w', e = Ending.returned (.tuple #[.agg (rowA 8 fun _ => 0), .bool false, .int .i64 1]) → Below w.heap.size w w' →
      e = .returned (.tuple #[.agg (rowA 8 (toldR F i)), .bool (told F i), .int .i64 (errI F i)]) ∧ Fl p o h w' ∧ Blk w' A (rowA 10 (nextF F i)) 77 ∧ Tch [p, A] w w' := by
    intro ht e w' he hb
    have h1 : told F i = false := by unfold told; rw [ht]; rfl
    refine ⟨?_, f.below hb, (hA.below hb hA.lt).congr fun j _ => ?_, .of _ hb⟩
    · rw [he, h1, rowA_congr (g := toldR F i) fun j _ => by unfold toldR; rw [h1]; rfl]
      unfold errI
      rw [ht]; rfl
    · unfold nextF; rw [ht]; rfl
  cases hk : okI i
  · exact (put_bad0 p o A i w hk).mono fun e w' ⟨he, hb⟩ => bad (by unfold took; rw [hk]; rfl) e w' he hb
  · by_cases hle : i 0 ≤ F 1
    · exact (put_bad1 p o A F i w hA hk hle).mono fun e w' ⟨he, hb⟩ => bad (by unfold took; rw [hk, decide_eq_false (by omega)]; rfl) e w' he hb
    · refine (put_go p o A F i h w f hA hAp hk hle hm).mono fun e w' ⟨he, h1⟩ => ⟨?_, h1⟩
      rw [he]
      unfold errI took
      rw [hk, decide_eq_true (by omega)]; rfl
theorem okI_is (f : Nat → Int) : okI f = (decide (1 ≤ f 1) && decide (f 1 ≤ 100000) && decide (0 ≤ f 0) && decide (f 0 ≤ 1125899906842624) && ((decide (-34359738368 ≤ f 2 ∧ f 2 ≤ 34359738368) && decide (-34359738368 ≤ f 5 ∧ f 5 ≤ 34359738368)) && ((decide (-34359738368 ≤ f 3 ∧ f 3 ≤ 34359738368) && decide (-34359738368 ≤ f 6 ∧ f 6 ≤ 34359738368)) && (decide (-34359738368 ≤ f 4 ∧ f 4 ≤ 34359738368) && decide (-34359738368 ≤ f 7 ∧ f 7 ≤ 34359738368))))) := by
  unfold okI inB inB inB inB
  rw [Bool.eq_iff_iff]
  simp only [Bool.and_eq_true, decide_eq_true_eq]
  constructor
  · rintro ⟨⟨⟨⟨_, h1⟩, ⟨_, h0⟩⟩, ⟨⟨⟨_, h2⟩, h3⟩, h4⟩⟩, ⟨⟨⟨_, h5⟩, h6⟩, h7⟩⟩
    exact ⟨⟨⟨⟨h1.1, h1.2⟩, h0.1⟩, h0.2⟩, ⟨h2, h5⟩, ⟨h3, h6⟩, h4, h7⟩
  · rintro ⟨⟨⟨⟨h1, h1'⟩, h0⟩, h0'⟩, ⟨h2, h5⟩, ⟨h3, h6⟩, h4, h7⟩
    exact ⟨⟨⟨⟨trivial, h1, h1'⟩, ⟨trivial, h0, h0'⟩⟩, ⟨⟨⟨trivial, h2⟩, h3⟩, h4⟩⟩, ⟨⟨⟨trivial, h5⟩, h6⟩, h7⟩⟩
set_option maxRecDepth 100000 in
set_option maxHeartbeats 16000000 in
theorem rgood_any (f : Nat → Int) (w : World) : Calls Try.prog 16 #[.agg (rowA 8 f)] w fun e w' => e = .returned (.bool (okI f)) ∧ Below w.heap.size w w' := by
  have hb : Below w.heap.size w (w.alloc (.cells (rowA 8 f) 32)) := (Below.refl _ _).alloc (Nat.le_refl _) _
  have hB : Blk (w.alloc (.cells (rowA 8 f) 32)) w.heap.size (rowA 8 f) 32 := Blk.made _ _ _ rfl
  have no : ∀ (k : Nat), okI f = false → Ending.returned (.bool false) = Ending.returned (.bool (okI f)) := fun _ h => by rw [h]
  have bd := fun h => okI_bd (f := f) h
  go_enter Try.func16, Try.ntmps16
  go_upto_region 1 with (fail)
  change Code.wp _ _ _ _ (w.alloc (.cells (rowA 8 f) 32))
  generalize w.alloc (.cells (rowA 8 f) 32) = X at *
  generalize hsz : w.heap.size = s at *
  have c0 : X.cell? ⟨s, 0, none⟩ = some (.int .i64 (f 0)) := hB.cell 0
  have c1 : X.cell? ⟨s, 1, none⟩ = some (.int .i64 (f 1)) := hB.cell 1
  have NO := Lib.hid no
  have BD := Lib.hid bd
  have HS := Lib.hid hb
  have HB := Lib.hid (show Below w.heap.size w X by rw [hsz]; exact hb)
  clear no bd hb
  by_cases h1 : f 1 < 1
  · have e := NO.out 0 (by cases hk : okI f; rfl; have := BD.out hk; omega)
    have e := Lib.hid e
    go_wp2_with fail
    go_ret
    exact ⟨e.out, by first | exact HB.out | exact HS.out⟩
  by_cases h2 : 100000 < f 1
  · have e := NO.out 0 (by cases hk : okI f; rfl; have := BD.out hk; omega)
    have e := Lib.hid e
    go_wp2_with fail
    go_ret
    exact ⟨e.out, by first | exact HB.out | exact HS.out⟩
  by_cases h3 : f 0 < 0
  · have e := NO.out 0 (by cases hk : okI f; rfl; have := BD.out hk; omega)
    have e := Lib.hid e
    go_wp2_with fail
    go_ret
    exact ⟨e.out, by first | exact HB.out | exact HS.out⟩
  by_cases h4 : 1125899906842624 < f 0
  · have e := NO.out 0 (by cases hk : okI f; rfl; have := BD.out hk; omega)
    have e := Lib.hid e
    go_wp2_with fail
    go_ret
    exact ⟨e.out, by first | exact HB.out | exact HS.out⟩
  go_wp2_with fail
  have HH := Lib.hid (And.intro (And.intro h1 h2) (And.intro h3 h4))
  clear h1 h2 h3 h4 c0 c1
  go_loopw [3] (fun i wr => ∃ k : Nat, k ≤ 3 ∧ i = .int .i64 k ∧ wr = X ∧ Hid (∀ j, j < k → (-34359738368 ≤ f (2 + j) ∧ f (2 + j) ≤ 34359738368) ∧ (-34359738368 ≤ f (5 + j) ∧ f (5 + j) ≤ 34359738368))) (fun i _ => 3 - (intOf i).toNat)
  case atStart => exact ⟨0, by omega, rfl, rfl, Lib.hid fun j hj => by omega⟩
  case round =>
    obtain ⟨k, hk, rfl, rfl, hin⟩ := hrel
    have hk0 : (0 : Int) ≤ (k : Int) := by omega
    by_cases hlt : k < 3
    · have hltI : (k : Int) < 3 := by omega
      have d1 : wr.cell? ⟨s, 2 + k, none⟩ = some (.int .i64 (f (2 + k))) := by rw [hB.cell, rowA_get _ (by omega)]
      have d2 : wr.cell? ⟨s, 5 + k, none⟩ = some (.int .i64 (f (5 + k))) := by rw [hB.cell, rowA_get _ (by omega)]
      by_cases h1 : f (2 + k) < -34359738368
      · have e := NO.out 0 (by cases hk : okI f; rfl; have := (BD.out hk).2.2 (2 + k) (by omega) (by omega); omega)
        have e := Lib.hid e
        go_wp2_with fail
        go_ret
        exact ⟨e.out, by first | exact HB.out | exact HS.out⟩
      by_cases h2 : 34359738368 < f (2 + k)
      · have e := NO.out 0 (by cases hk : okI f; rfl; have := (BD.out hk).2.2 (2 + k) (by omega) (by omega); omega)
        have e := Lib.hid e
        go_wp2_with fail
        go_ret
        exact ⟨e.out, by first | exact HB.out | exact HS.out⟩
      by_cases h3 : f (5 + k) < -34359738368
      · have e := NO.out 0 (by cases hk : okI f; rfl; have := (BD.out hk).2.2 (5 + k) (by omega) (by omega); omega)
        have e := Lib.hid e
        go_wp2_with fail
        go_ret
        exact ⟨e.out, by first | exact HB.out | exact HS.out⟩
      by_cases h4 : 34359738368 < f (5 + k)
      · have e := NO.out 0 (by cases hk : okI f; rfl; have := (BD.out hk).2.2 (5 + k) (by omega) (by omega); omega)
        have e := Lib.hid e
        go_wp2_with fail
        go_ret
        exact ⟨e.out, by first | exact HB.out | exact HS.out⟩
      go_wp2_with fail
      go_roundw
      case rel => exact ⟨k + 1, by omega, by go_num, trivial, Lib.hid fun j hj => by
        by_cases e : j = k
        · subst e; omega
        · exact hin.out j (by omega)⟩
      case measure => simp [intOf]; omega
    · obtain rfl : k = 3 := by omega
      have e : okI f = true := by
        have H := HH.out
        have i0 := hin.out 0 (by omega)
        have i1 := hin.out 1 (by omega)
        have i2 := hin.out 2 (by omega)
        simp at i0 i1 i2
        rw [okI_is]
        simp only [Bool.and_eq_true, decide_eq_true_eq]
        omega
      have e := Lib.hid e
      go_wp2_with fail
      go_ret
      exact ⟨ret_bool e.out.symm, by first | exact HB.out | exact HS.out⟩
end Go.Proofs.Ytdndomknjefgkaa.Rg
