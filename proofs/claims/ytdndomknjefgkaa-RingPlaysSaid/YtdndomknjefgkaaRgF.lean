/- A sample is put in among others; the first are struck. -/
import Derived.Test.YtdndomknjefgkaaRgE
import Derived.Deep.RegionLaw
namespace Go.Proofs.Ytdndomknjefgkaa.Rg
open Go.RowKit
/-- What Insert hands back. -/
def Put (v : Value) (l : List Sam) (w : World) (e : Ending) (w' : World) : Prop := ∃ v', e = .returned v' ∧ Row w' v' l ∧ Tch (own v) w w' ∧ ∀ b, b ∈ own v' → b ∈ own v ∨ w.heap.size ≤ b
theorem Row.cap_ints {w : World} {g cap : Nat} {F : Nat → Int} {l : List Sam} (hB : Blk w g (rowA (9 * cap) F) 56) (hc : l.length ≤ cap) (hF : ∀ q, q < 9 * l.length → F q = fl l q) {i n : Nat} (h : i + n ≤ l.length) : Ints w g (i * 9) (n * 9) (fun q => fl l (i * 9 + q)) :=
  ⟨fun j hj => by rw [hB.cell, rowA_get _ (by omega), hF _ (by omega)]⟩
theorem row_is {w : World} {g C n : Nat} {F : Nat → Int} {l : List Sam} (hB : Blk w g (rowA (9 * C) F) 56) (hl : l.length = n) (hc : n ≤ C) (hm : C ≤ maxLen) (hF : ∀ q, q < 9 * n → F q = fl l q) : Row w (.slice (some ⟨g, 0, none⟩) n C) l := by
  subst hl
  exact .lies g C F l hB hc hm hF
set_option maxRecDepth 100000 in
set_option maxHeartbeats 4000000 in
theorem insert_nil (x : Sam) (h : Nat) (w : World) (hh : Blk w h (rowA 9 (fn x)) 56) :
    Calls Try.prog 34 #[.slice none 0 0, .int .i64 0, .slice (some ⟨h, 0, none⟩) 1 1] w (Put (.slice none 0 0) [x] w) := by
  obtain ⟨C, hC1, hC2, hr⟩ := app_grow w 61 none 0 0 1 1 h 0 (fun _ => 0) (fn x) (by rw [old_none]) hh.ints (by omega) (by omega)
  go_enter Try.func34, Try.ntmps34
  go_wp2_with (at_builtin; refine list_appR _ rfl _ _ 61 61 rfl _ _ rfl rfl hr ?_)
  go_ret
  refine ⟨_, rfl, .lies _ C _ [x] (Blk.made _ _ _ rfl) hC1 hC2 (fun q hq => ?_), (Tch.refl _ _).drew.alloc _, fun b hb => .inr (by simp [own] at hb; omega)⟩
  have := fl_snoc [] x q
  simp at this hq ⊢
  rw [this, if_pos hq]
  try simp [hq]
set_option maxRecDepth 100000 in
set_option maxHeartbeats 4000000 in
theorem insert_end_grow (x : Sam) (g cap h : Nat) (F : Nat → Int) (l : List Sam) (w : World) (hh : Blk w h (rowA 9 (fn x)) 56) (hB : Blk w g (rowA (9 * cap) F) 56) (hc : l.length ≤ cap)
    (hF : ∀ q, q < 9 * l.length → F q = fl l q) (hn : l.length < 1000) (hroom : cap < l.length + 1) :
    Calls Try.prog 34 #[.slice (some ⟨g, 0, none⟩) l.length cap, .int .i64 (l.length : Nat), .slice (some ⟨h, 0, none⟩) 1 1] w (Put (.slice (some ⟨g, 0, none⟩) l.length cap) (l ++ [x]) w) := by
  obtain ⟨C, hC1, hC2, hr⟩ := app_grow w 61 (some ⟨g, 0, none⟩) l.length cap 1 1 h 0 (fl l) (fn x) (old_some _ (by have := (Row.cap_ints hB hc hF (i := 0) (n := l.length) (by omega)).drew; simpa using this)) hh.ints hroom (by omega)
  have hlen : (l ++ [x]).length = l.length + 1 := by simp
  have hfl : ∀ q, fl (l ++ [x]) q = if q < 9 * l.length then fl l q else if q < 9 * l.length + 9 then fn x (q - 9 * l.length) else 0 := fl_snoc l x
  generalize hl : l.length = n at *
  have HF := Lib.hid hF
  have HL := Lib.hid (And.intro hlen hfl)
  clear hF hl hlen hfl
  go_enter Try.func34, Try.ntmps34
  go_wp2_with (at_builtin; refine list_appR _ rfl _ _ 61 61 rfl _ _ rfl rfl hr ?_)
  go_ret
  refine ⟨_, rfl, row_is (Blk.made _ _ _ rfl) HL.out.1 hC1 hC2 (fun q hq => ?_), (Tch.refl _ _).drew.alloc _, fun b hb => .inr (by simp [own] at hb; omega)⟩
  rw [HL.out.2, Nat.mul_comm 9 n]
set_option maxRecDepth 100000 in
set_option maxHeartbeats 4000000 in
theorem insert_end_room (x : Sam) (g cap h : Nat) (F : Nat → Int) (l : List Sam) (w : World) (hh : Blk w h (rowA 9 (fn x)) 56) (hB : Blk w g (rowA (9 * cap) F) 56)
    (hF : ∀ q, q < 9 * l.length → F q = fl l q) (_hn : l.length < 1000) (hroom : l.length + 1 ≤ cap) (hcm : cap ≤ maxLen) :
    Calls Try.prog 34 #[.slice (some ⟨g, 0, none⟩) l.length cap, .int .i64 (l.length : Nat), .slice (some ⟨h, 0, none⟩) 1 1] w (Put (.slice (some ⟨g, 0, none⟩) l.length cap) (l ++ [x]) w) := by
  have hr := app_room w 61 g l.length cap 1 1 h 0 (fn x) F hB hh.ints hroom
  have hlen : (l ++ [x]).length = l.length + 1 := by simp
  have hfl : ∀ q, fl (l ++ [x]) q = if q < 9 * l.length then fl l q else if q < 9 * l.length + 9 then fn x (q - 9 * l.length) else 0 := fl_snoc l x
  generalize hl : l.length = n at *
  have HF := Lib.hid hF
  have HL := Lib.hid (And.intro hlen hfl)
  have hcn : ¬ cap = n := by omega
  unfold maxLen at hcm
  clear hF hl hlen hfl
  go_enter Try.func34, Try.ntmps34
  go_wp2_with (at_builtin; refine list_appR _ rfl _ _ 61 61 rfl _ _ rfl rfl hr ?_)
  go_ret
  refine ⟨_, rfl, row_is (putI_blk hB (by omega)) HL.out.1 hroom (by unfold maxLen; exact hcm) (fun q hq => ?_), (Tch.refl _ _).putI (.inl (by simp [own])) _ _ _, fun b hb => .inl hb⟩
  rw [HL.out.2, Nat.mul_comm 9 n]
  by_cases h1 : q < n * 9
  · rw [if_neg (by omega), if_pos h1, HF.out q (by omega)]
  · rw [if_pos (by omega), if_neg h1, if_pos (by omega)]
set_option maxRecDepth 100000 in
set_option maxHeartbeats 4000000 in
theorem insert_mid_grow (x : Sam) (g cap h i : Nat) (F : Nat → Int) (l : List Sam) (w : World) (hh : Blk w h (rowA 9 (fn x)) 56) (hB : Blk w g (rowA (9 * cap) F) 56) (hc : l.length ≤ cap)
    (hF : ∀ q, q < 9 * l.length → F q = fl l q) (hn : l.length < 1000) (hroom : cap < l.length + 1) (hi : i < l.length) :
    Calls Try.prog 34 #[.slice (some ⟨g, 0, none⟩) l.length cap, .int .i64 (i : Nat), .slice (some ⟨h, 0, none⟩) 1 1] w (Put (.slice (some ⟨g, 0, none⟩) l.length cap) (l.take i ++ x :: l.drop i) w) := by
  obtain ⟨C, hC1, hC2, hr⟩ := app_zeros w 61 (some ⟨g, 0, none⟩) i cap (l.length + 1 - i) (fl l) (by
    have h := Row.cap_ints hB hc hF (i := 0) (n := i) (by omega)
    have h2 : Ints w g 0 (i * 9) (fl l) := by simpa using h
    have := old_some (n := i) cap h2.drew
    exact this) (by omega) (by omega) (by omega)
  rw [show i + (l.length + 1 - i) = l.length + 1 by omega] at hr hC1
  rw [show ((l.length + 1 - i : Nat) : Int) = (l.length : Int) + 1 - (i : Int) by omega] at hr
  have hlen : (l.take i ++ x :: l.drop i).length = l.length + 1 := by simp; omega
  have hfl := fl_ins l x i (by omega)
  have hS := Row.cap_ints hB hc hF (i := i) (n := l.length - i) (by omega)
  generalize hl : l.length = n at *
  have HF := Lib.hid hF
  have HL := Lib.hid (And.intro hlen hfl)
  unfold maxLen at hC2
  generalize hX : w.drew.alloc _ = X at hr
  have hN : Blk X w.heap.size (rowA (9 * C) fun q => if q < i * 9 then fl l q else 0) 56 := by rw [← hX]; exact Blk.made _ _ _ rfl
  have hT : Tch [g] w X := by rw [← hX]; exact (Tch.refl _ _).drew.alloc _
  have hhX : Blk X h (rowA 9 (fn x)) 56 := by rw [← hX]; exact hh.drew.alloc _
  have hSX : Ints X g (i * 9) ((n - i) * 9) (fun q => fl l (i * 9 + q)) := by rw [← hX]; exact hS.below ((Below.refl w.heap.size w).drew.alloc (Nat.le_refl _) _) hB.lt
  have hgl := hB.lt
  have hhl := hh.lt
  have c1 := fun dc => run_copy9 X 3 w.heap.size (i * 9) (n + 1 - i) dc h 0 1 1 1 (fn x) (by simp only [Nat.min_def]; split <;> omega) hN (by omega) hhX.ints
  have hN1 := putI_blk (n := 1 * 9) (f := fn x) (o := i * 9) hN (by omega)
  have hS1 : Ints (putI X w.heap.size (i * 9) (1 * 9) (fn x)) g (i * 9) ((n - i) * 9) (fun q => fl l (i * 9 + q)) :=
    ((Tch.refl [w.heap.size] X).putI (.inl (by simp)) _ _ _).ints hSX (by have := hT.size; omega) (by simp; omega)
  have hT1 : Tch [g] w (putI X w.heap.size (i * 9) (1 * 9) (fn x)) := hT.putI (.inr (Nat.le_refl _)) _ _ _
  generalize hY : putI X w.heap.size (i * 9) (1 * 9) (fn x) = Y at *
  have c2 := fun dc sc => run_copy9 Y.drew 3 w.heap.size ((i + 1) * 9) (n - i) dc g (i * 9) (n - i) sc (n - i) _ (by simp only [Nat.min_def]; split <;> omega) hN1.drew (by omega) hS1.drew
  have hN2 := putI_blk (w := Y.drew) (n := (n - i) * 9) (f := fun q => fl l (i * 9 + q)) (o := (i + 1) * 9) hN1 (by omega)
  have hT2 : Tch [g] w (putI Y.drew w.heap.size ((i + 1) * 9) ((n - i) * 9) fun q => fl l (i * 9 + q)) := hT1.drew.putI (.inr (Nat.le_refl _)) _ _ _
  have e1 : ¬ C = i := by omega
  have e2 : ¬ C = i + 1 := by omega
  have e3 : ¬ cap = i := by omega
  have e4 : (i : Int) < (n : Int) := by omega
  have e5 : ¬ (i : Int) = (n : Int) := by omega
  have e6 : (cap : Int) < (n : Int) + 1 := by omega
  have HX := Lib.hid (And.intro hN2 hT2)
  clear hF hl hlen hfl hN hT hhX hSX hN1 hS1 hT1 hN2 hT2 hB hh hS hX hY
  go_enter Try.func34, Try.ntmps34
  go_wp2_with (at_builtin; first | refine list_appR _ rfl _ _ 61 3 rfl _ _ rfl rfl hr ?_ | refine list_copyR _ rfl _ _ 61 61 rfl _ _ rfl rfl (c1 _) ?_)
  have w1 : IntKind.i64.wrap ((i : Int) + 1) = (i : Int) + 1 := by rw [IntKind.wrap_i64]; omega
  have w2 : (0 : Int) ≤ (i : Int) + 1 := by omega
  have w3 : ((i : Int) + 1).toNat = i + 1 := by omega
  have w4 : (i : Int) + 1 ≤ (n : Int) + 1 := by omega
  have w5 : (0 : Int) ≤ (i : Int) := by omega
  have w6 : (i : Int) ≤ (n : Int) := by omega
  clear e4 e5 e6 hroom hc hgl hhl c1 hr
  go_region_law (refine step_copyR rfl _ _ 61 61 rfl _ _ (by simp [Act.eval, Act.put]) (by simp [Act.eval, Act.put]) (c2 _ _) ?_)
  go_wp2
  go_ret
  refine ⟨_, rfl, row_is HX.out.1 HL.out.1 (by omega) (by unfold maxLen; exact hC2) (fun q hq => ?_), HX.out.2, fun b hb => .inr (by simp [own] at hb; omega)⟩
  rw [HL.out.2]
  by_cases h1 : q < i * 9
  · rw [if_neg (by omega), if_neg (by omega), if_pos h1, if_pos (by omega)]
  · by_cases h2 : q < i * 9 + 9
    · rw [if_neg (by omega), if_pos (by omega), if_neg (by omega), if_pos (by omega), Nat.mul_comm i 9]
    · rw [if_pos (by omega), if_neg (by omega), if_neg (by omega)]
      congr 1
      omega
theorem apart_any (w : World) (h g o lb cb : Nat) (x : Nat → Int) (cap : Nat) (F : Nat → Int) (hne : h ≠ g) (hh : Blk w h (rowA 9 x) 56) (hB : Blk w g (rowA (9 * cap) F) 56) (hc : cap ≠ 0) :
    (callFunc 42 #[.slice (some ⟨h, 0, none⟩) 1 1, .slice (some ⟨g, o, none⟩) lb cb]).run Try.prog w = .ok (.value (.bool false)) w := by
  rw [run_callFunc_extern Try.func42 (by kernel_rfl) (by kernel_rfl) (by kernel_rfl) (e := Extern.SlicesOverlaps.overlaps #[61, 61] #[4]) (by kernel_rfl),
    Lib.run_overlaps_apart w 61 4 56 Try.underlying61 9 (fun w => by kernel_rfl) ⟨h, 0, none⟩ ⟨g, o, none⟩ 1 1 lb cb hne 56 56 9 (9 * cap)
      (by unfold World.shape?; rw [show w.heap[(⟨h, 0, none⟩ : Addr).block]? = _ from hh]; simp [rowA_size]) (by unfold World.shape?; rw [show w.heap[(⟨g, o, none⟩ : Addr).block]? = _ from hB]; simp [rowA_size]) (by omega) (hh.free 0) (hh.free 9)]
  rfl
set_option maxRecDepth 100000 in
set_option maxHeartbeats 4000000 in
theorem insert_mid_room (x : Sam) (g cap h i : Nat) (F : Nat → Int) (l : List Sam) (w : World) (hh : Blk w h (rowA 9 (fn x)) 56) (hB : Blk w g (rowA (9 * cap) F) 56) (hne : h ≠ g)
    (hF : ∀ q, q < 9 * l.length → F q = fl l q) (hn : l.length < 1000) (hroom : l.length + 1 ≤ cap) (hcm : cap ≤ maxLen) (hi : i < l.length) :
    Calls Try.prog 34 #[.slice (some ⟨g, 0, none⟩) l.length cap, .int .i64 (i : Nat), .slice (some ⟨h, 0, none⟩) 1 1] w (Put (.slice (some ⟨g, 0, none⟩) l.length cap) (l.take i ++ x :: l.drop i) w) := by
  have hov : ∀ lb cb, _ := fun lb cb => apart_any w h g ((i + 1) * 9) lb cb (fn x) cap F hne hh hB (by omega)
  have hlen : (l.take i ++ x :: l.drop i).length = l.length + 1 := by simp; omega
  have hfl := fl_ins l x i (by omega)
  have hS := (Row.cap_ints hB (by omega) hF (i := i) (n := l.length - i) (by omega)).drew
  generalize hl : l.length = n at *
  have HF := Lib.hid hF
  have HL := Lib.hid (And.intro hlen hfl)
  unfold maxLen at hcm
  have hgl := hB.lt
  have c1 := fun dc sc => run_copy9 w.drew 3 g ((i + 1) * 9) (n - i) dc g (i * 9) (n + 1 - i) sc (n - i) _ (by simp only [Nat.min_def]; split <;> omega) hB.drew (by omega) hS
  have hN1 := putI_blk (w := w.drew) (n := (n - i) * 9) (f := fun q => fl l (i * 9 + q)) (o := (i + 1) * 9) hB.drew (by omega)
  have hT1 : Tch [g] w (putI w.drew g ((i + 1) * 9) ((n - i) * 9) fun q => fl l (i * 9 + q)) := (Tch.refl _ _).drew.putI (.inl (by simp)) _ _ _
  have hh1 : Blk (putI w.drew g ((i + 1) * 9) ((n - i) * 9) fun q => fl l (i * 9 + q)) h (rowA 9 (fn x)) 56 := putI_other hh.drew hne
  generalize hY : putI w.drew g ((i + 1) * 9) ((n - i) * 9) (fun q => fl l (i * 9 + q)) = Y at *
  have c2 := fun dc => run_copy9 Y 3 g (i * 9) (n + 1 - i) dc h 0 1 1 1 (fn x) (by simp only [Nat.min_def]; split <;> omega) hN1 (by omega) hh1.ints
  have hN2 := putI_blk (n := 1 * 9) (f := fn x) (o := i * 9) hN1 (by omega)
  have hT2 : Tch [g] w (putI Y g (i * 9) (1 * 9) (fn x)) := hT1.putI (.inl (by simp)) _ _ _
  have e2 : ¬ cap = i + 1 := by omega
  have e3 : ¬ cap = i := by omega
  have e4 : (i : Int) < (n : Int) := by omega
  have e5 : ¬ (i : Int) = (n : Int) := by omega
  have e6 : ¬ (cap : Int) < (n : Int) + 1 := by omega
  have e7 : (n : Int) + 1 ≤ (cap : Int) := by omega
  have HX := Lib.hid (And.intro hN2 hT2)
  clear hF hl hlen hfl hN1 hT1 hN2 hT2 hB hh hS hh1 hY
  go_enter Try.func34, Try.ntmps34
  go_wp2_with (simp only [hov])
  have w1 : IntKind.i64.wrap ((i : Int) + 1) = (i : Int) + 1 := by rw [IntKind.wrap_i64]; omega
  have w2 : (0 : Int) ≤ (i : Int) + 1 := by omega
  have w3 : ((i : Int) + 1).toNat = i + 1 := by omega
  have w4 : (i : Int) + 1 ≤ (n : Int) + 1 := by omega
  have w5 : (0 : Int) ≤ (i : Int) := by omega
  have w6 : (i : Int) ≤ (n : Int) + 1 := by omega
  have HI := Lib.hid (And.intro hi (And.intro hroom (show cap ≤ maxLen from hcm)))
  clear e4 e5 e6 e7 hroom hcm hgl hi hov
  go_region_law (refine step_copyR rfl _ _ 61 61 rfl _ _ (by simp [Act.eval, Act.put]) (by simp [Act.eval, Act.put]) (c1 _ _) ?_)
  clear w1 w2 w3 w4 c1
  have HI1 := HI.out.1
  go_wp2_with (at_builtin; refine list_copyR _ rfl _ _ 61 61 rfl _ _ rfl rfl (c2 _) ?_)
  go_ret
  refine ⟨_, rfl, row_is HX.out.1 HL.out.1 HI.out.2.1 HI.out.2.2 (fun q hq => ?_), HX.out.2, fun b hb => .inl hb⟩
  have hi := HI.out.1
  rw [HL.out.2]
  by_cases h1 : q < i * 9
  · rw [if_neg (by omega), if_neg (by omega), if_pos (by omega), HF.out q (by omega)]
  · by_cases h2 : q < i * 9 + 9
    · rw [if_pos (by omega), if_neg (by omega), if_pos (by omega), Nat.mul_comm i 9]
    · rw [if_neg (by omega), if_pos (by omega), if_neg (by omega), if_neg (by omega)]
      congr 1
      omega
/-- A sample is put in at a place. -/
theorem insert_any (x : Sam) (v : Value) (h i : Nat) (l : List Sam) (w : World) (hv : Row w v l) (hh : Blk w h (rowA 9 (fn x)) 56) (hne : h ∉ own v) (hn : l.length < 1000) (hi : i ≤ l.length) :
    Calls Try.prog 34 #[v, .int .i64 (i : Nat), .slice (some ⟨h, 0, none⟩) 1 1] w (Put v (l.take i ++ x :: l.drop i) w) := by
  cases hv with
  | nil =>
    obtain rfl : i = 0 := by simpa using hi
    exact insert_nil x h w hh
  | lies g cap F l hB hc hcm hF =>
    have hne : h ≠ g := by simpa [own] using hne
    by_cases h1 : i < l.length
    · by_cases h2 : l.length + 1 ≤ cap
      · exact insert_mid_room x g cap h i F l w hh hB hne hF hn h2 hcm h1
      · exact insert_mid_grow x g cap h i F l w hh hB hc hF hn (by omega) h1
    · obtain rfl : i = l.length := by omega
      rw [List.take_length, List.drop_length]
      by_cases h2 : l.length + 1 ≤ cap
      · exact insert_end_room x g cap h F l w hh hB hF hn h2 hcm
      · exact insert_end_grow x g cap h F l w hh hB hc hF hn (by omega)
end Go.Proofs.Ytdndomknjefgkaa.Rg
