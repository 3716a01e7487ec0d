/- A buffer in memory; its calls that take nothing in. -/
import Derived.Test.YtdndomknjefgkaaRgG
namespace Go.Proofs.Ytdndomknjefgkaa.Rg
open Go.RowKit
def bufC (b : Ring) (v : Value) : Array Value := #[.int .i64 (b.cIn : Nat), .int .i64 (b.late : Nat), .int .i64 (b.full : Nat), .int .i64 (b.bad : Nat), .int .i64 (b.out : Nat), v, .int .i64 (b.size : Nat), .int .i64 b.hor]
/-- A buffer lies at A, its samples where v says. -/
structure Buf (w : World) (A : Nat) (v : Value) (b : Ring) : Prop where
  blk : Blk w A (bufC b v) 70
  row : Row w v b.l
  ne : A ∉ own v
  srt : Sorted b.l
  nine : ∀ y ∈ b.l, y.length = 9
  len : b.l.length < 900
  sum : b.cIn = b.late + b.full + b.bad + b.out + b.l.length
theorem Buf.keep {S : List Nat} {w w' : World} {A : Nat} {v : Value} {b : Ring} (h : Buf w A v b) (k : Tch S w w') (hA : A ∉ S) (hv : ∀ q, q ∈ own v → q ∉ S) : Buf w' A v b :=
  ⟨k.blk h.blk hA, h.row.keep k hv, h.ne, h.srt, h.nine, h.len, h.sum⟩
theorem Row.shape {w : World} {v : Value} {l : List Sam} (h : Row w v l) : ∃ a c, v = .slice a l.length c ∧ l.length ≤ c := by
  cases h with
  | nil => exact ⟨_, _, rfl, Nat.le_refl _⟩
  | lies g cap F l hB hc hcm hF => exact ⟨_, _, rfl, hc⟩
set_option maxHeartbeats 1000000 in
theorem len_any (A : Nat) (v : Value) (b : Ring) (w : World) (h : Buf w A v b) : Calls Try.prog 27 #[.pointer (some ⟨A, 0, none⟩)] w fun e w' => e = .returned (.int .i64 (b.l.length : Nat)) ∧ w' = w := by
  obtain ⟨a, c, rfl, _⟩ := h.row.shape
  have c5 := h.blk.cell 5
  simp only [bufC] at c5
  generalize b.l.length = n at *
  clear h
  go_enter Try.func27, Try.ntmps27
  go_wp2
  go_ret
  exact ⟨rfl, rfl⟩
set_option maxHeartbeats 1000000 in
theorem hor_any (A : Nat) (v : Value) (b : Ring) (w : World) (h : Buf w A v b) : Calls Try.prog 28 #[.pointer (some ⟨A, 0, none⟩)] w fun e w' => e = .returned (.int .i64 b.hor) ∧ w' = w := by
  have c7 := h.blk.cell 7
  simp only [bufC] at c7
  clear h
  go_enter Try.func28, Try.ntmps28
  go_wp2
  go_ret
  exact ⟨rfl, rfl⟩
set_option maxHeartbeats 1000000 in
theorem total_any (n : Nat) (a b c d : Nat) (hs : a + b + c + d < 1000000000000) (w : World) : Calls Try.prog 29 #[.agg #[.int .i64 (n : Nat), .int .i64 (a : Nat), .int .i64 (b : Nat), .int .i64 (c : Nat), .int .i64 (d : Nat)]] w fun e w' => e = .returned (.int .i64 ((a + b + c + d : Nat) : Int)) ∧ Below w.heap.size w w' := by
  go_enter Try.func29, Try.ntmps29
  go_wp2
  go_ret
  exact ⟨by simp, (Below.refl _ _).alloc (Nat.le_refl _) _⟩
theorem blk_setC {w : World} {A i : Nat} {c d : Array Value} {t : TypeId} {u : Value} (h : Blk w A c t) (hd : d = c.setIfInBounds i u) : Blk (w.setCell ⟨A, i, none⟩ u) A d t := by
  subst hd; exact h.set u
theorem blk_is {w : World} {A : Nat} {c d : Array Value} {t : TypeId} (h : Blk w A c t) (hd : d = c) : Blk w A d t := by rw [hd]; exact h
set_option maxHeartbeats 1000000 in
theorem spoilt_any (A : Nat) (v : Value) (b : Ring) (w : World) (h : Buf w A v b) (hs : b.cIn < 1000000) : Calls Try.prog 24 #[.pointer (some ⟨A, 0, none⟩)] w fun e w' => e = .returned (.tuple #[]) ∧ Buf w' A v b.spoilt ∧ Tch [A] w w' := by
  have c0 := h.blk.cell 0
  have c3 := h.blk.cell 3
  have f0 := h.blk.free 0
  have f3 := h.blk.free 3
  have hb := h.sum
  simp only [bufC] at c0 c3
  have H := Lib.hid h
  clear h
  have e1 : (b.cIn : Int) < 1000000 := by omega
  have e2 : (b.bad : Int) < 1000000 := by omega
  have HS := Lib.hid hb
  clear hb hs
  go_enter Try.func24, Try.ntmps24
  go_wp2
  refine bodyPost_end (results_none rfl _ _ _) rfl ?_
  refine ⟨rfl, ⟨blk_is (blk_setC (blk_setC H.out.blk rfl) rfl) (by simp [bufC, Ring.spoilt]), ?_, H.out.ne, H.out.srt, H.out.nine, H.out.len, ?_⟩, ((Tch.refl _ _).set (.inl (by simp)) _ _).set (.inl (by simp)) _ _⟩
  · exact H.out.row.keep (((Tch.refl [A] _).set (.inl (by simp)) _ _).set (.inl (by simp)) _ _) (fun q hq => by have := H.out.ne; simp; rintro rfl; exact this hq)
  · have := HS.out; simp [Ring.spoilt]; omega
/-- What 'take' leaves. -/
def Took (A : Nat) (v : Value) (b : Ring) (m : Nat) (w : World) (e : Ending) (w' : World) : Prop :=
  ∃ t v', e = .returned t ∧ Row w' t (b.l.take m) ∧ (∀ q, q ∈ own t → w.heap.size ≤ q) ∧ Blk w' A (bufC b v') 70 ∧ Row w' v' (b.l.drop m) ∧ own v' = own v ∧ Tch (A :: own v) w w'
set_option maxRecDepth 100000 in
set_option maxHeartbeats 4000000 in
theorem take_any (A m : Nat) (v : Value) (b : Ring) (w : World) (hB : Blk w A (bufC b v) 70) (hr : Row w v b.l) (hne : A ∉ own v) (hn : b.l.length < 1000) (hm : m ≤ b.l.length) :
    Calls Try.prog 35 #[.pointer (some ⟨A, 0, none⟩), .int .i64 (m : Nat)] w (Took A v b m w) := by
  have key : ∀ (u : Value) (c : Nat), (∃ t W, (∃ a, v = .slice a b.l.length c ∧ u = .slice a m c) ∧ (Builtin.append_ #[61, 61] 61 #[.slice none 0 0, u]).run Try.prog w = .ok t W ∧ Row W t (b.l.take m) ∧ Below w.heap.size w W ∧ (∀ q, q ∈ own t → w.heap.size ≤ q ∧ q < W.heap.size)) → m ≤ c →
      Calls Try.prog 35 #[.pointer (some ⟨A, 0, none⟩), .int .i64 (m : Nat)] w (Took A v b m w) := by
    rintro u c ⟨t, W, ⟨a, hv, hu⟩, happ, ht, hW, hto⟩ hmc
    subst hv
    have c5 := hB.cell 5
    simp only [bufC] at c5
    have hBW := hB.call hW
    have d5 := hBW.cell 5
    have f5 := hBW.free 5
    simp only [bufC] at d5
    have hdel := delete_any _ m b.l W (hr.keep (.of [] hW) (by simp)) hn hm
    have HD := Lib.hid hdel
    have HO := Lib.hid hr.lt
    have HT := Lib.hid (And.intro ht (And.intro hW (And.intro hto (And.intro hBW (And.intro hne hB.lt)))))
    have e1 : (0 : Int) ≤ (m : Int) := by omega
    have e2 : (m : Int) ≤ (c : Int) := by omega
    subst hu
    clear hdel ht hW hto hBW hB hr hne hn hm
    go_enter Try.func35, Try.ntmps35
    go_wp2_with (at_builtin; refine list_appR _ rfl _ _ 61 61 rfl _ _ rfl rfl happ ?_)
    refine HD.out.mono ?_
    rintro e w2 ⟨v', rfl, hv2, k2, o2⟩
    obtain ⟨a2, c2, rfl, _⟩ := hv2.shape
    have g5 := (k2.cell (b := A) (i := 5) (by have := HT.out.2.1.size; have := HT.out.2.2.2.2.2; omega) HT.out.2.2.2.2.1).trans d5
    have hBw := k2.blk HT.out.2.2.2.1 HT.out.2.2.2.2.1
    have h5 := hBw.free 5
    have HK := Lib.hid (And.intro hv2 (And.intro k2 (And.intro o2 hBw)))
    clear hv2 k2 o2 hBw d5 f5
    go_wp2
    go_ret
    have hk : Tch (A :: own (.slice a b.l.length c)) w w2 := (Tch.of _ HT.out.2.1).then HK.out.2.1 (fun q hq => .inl (List.mem_cons_of_mem _ hq))
    refine ⟨_, _, rfl, ?_, fun q hq => (HT.out.2.2.1 q hq).1, blk_is (blk_setC HK.out.2.2.2 rfl) (by simp [bufC]), ?_, HK.out.2.2.1, hk.set (.inl (List.mem_cons_self ..)) _ _⟩
    · refine (HT.out.1.keep HK.out.2.1 (fun q hq hm => ?_)).keep ((Tch.refl [A] _).set (.inl (by simp)) _ _) (fun q hq hm => ?_)
      · have h1 := (HT.out.2.2.1 q hq).1
        have h2 := HO.out q hm
        omega
      · have h1 := (HT.out.2.2.1 q hq).1
        have h2 := HT.out.2.2.2.2.2
        simp at hm; omega
    · refine HK.out.1.keep ((Tch.refl [A] _).set (.inl (by simp)) _ _) (fun q hq hm => ?_)
      rw [HK.out.2.2.1] at hq
      simp at hm
      subst hm
      exact HT.out.2.2.2.2.1 hq
  obtain ⟨a, c, hv, hc⟩ := hr.shape
  rcases Nat.eq_zero_or_pos m with rfl | h0
  · refine key (.slice a 0 c) c ⟨.slice none 0 0, w, ⟨a, hv, rfl⟩, app_nothing w _ none 0 0 c a (Nat.le_refl _), ?_, Below.refl _ _, by simp [own]⟩ (Nat.zero_le _)
    rw [List.take_zero]; exact .nil
  · rcases hr.inv with ⟨_, h1⟩ | ⟨g, cap, F, h1, hB2, hc2, hcm, hF⟩
    · rw [h1] at hm; simp at hm; omega
    · rw [h1] at hv
      injection hv with e1 e2 e3
      subst e1 e3
      have hS := Row.cap_ints hB2 hc2 hF (i := 0) (n := m) (by omega)
      have hS : Ints w g 0 (m * 9) (fl b.l) := by simpa using hS
      obtain ⟨C, hC1, hC2, hr2⟩ := app_grow w 61 none 0 0 m cap g 0 (fun _ => 0) (fl b.l) (old_none _ _ _) hS (by omega) (by omega)
      simp only [Nat.zero_add, Nat.zero_mul, Nat.not_lt_zero, if_false, Nat.sub_zero] at hr2 hC1
      refine key (.slice (some ⟨g, 0, none⟩) m cap) cap ⟨_, _, ⟨_, h1, rfl⟩, hr2, ?_, (Below.refl _ _).drew.alloc (Nat.le_refl _) _, ?_⟩ (by omega)
      · exact row_is (Blk.made _ _ _ rfl) (by simp [hm]) hC1 hC2 (fun q hq => by rw [if_pos (by omega), fl_take _ _ _ hq])
      · intro q hq; simp [own] at hq; subst hq; simp
end Go.Proofs.Ytdndomknjefgkaa.Rg
