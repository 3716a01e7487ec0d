/- The document's own: samples taken out. -/
import Derived.Test.YtdndomknjefgkaaRgR
namespace Go.Proofs.Ytdndomknjefgkaa.Rg
open Go.RowKit
def sliceLen (v : Value) : Nat := match v with
  | .slice _ n _ => n
  | _ => 0
def RPopped (A : Nat) (v : Value) (b : Ring) (u : Int) (w : World) (e : Ending) (w' : World) : Prop :=
  ∃ t v', e = .returned t ∧ Row w' t (b.l.take (come u b.l)) ∧ (∀ q, q ∈ own t → w.heap.size ≤ q) ∧ RBuf w' A v' (b.pop u) ∧ (∀ q, q ∈ own v' → q ∈ own v) ∧ Tch [A] w w'
/-- In the midst of it. -/
structure Mid (A : Nat) (v : Value) (b : Ring) (w : World) (k : Nat) (t : Value) (wr : World) : Prop where
  out : Row wr t (b.l.take k)
  fresh : ∀ q, q ∈ own t → w.heap.size ≤ q
  lt : ∀ q, q ∈ own t → q < wr.heap.size
  l : ∃ vL, Blk wr A (rbufC b vL) 73 ∧ RRow wr vL (b.l.drop k) ∧ ∀ q, q ∈ own vL → q ∈ own v
  tch : Tch [A] w wr
theorem drop_get (l : List Sam) (k : Nat) (hk : k < l.length) : ∃ r, l.drop k = l.getD k [] :: r ∧ l.drop (k + 1) = r := by
  refine ⟨l.drop (k + 1), ?_, rfl⟩
  rw [List.drop_eq_getElem_cons hk]
  simp [List.getD_eq_getElem?_getD, hk]
set_option maxRecDepth 100000 in
set_option maxHeartbeats 16000000 in
theorem rpop_any (A : Nat) (v : Value) (b : Ring) (u : Int) (w : World) (h : RBuf w A v b) (hs : b.cIn < 1000000) :
    Calls Try.prog 23 #[.pointer (some ⟨A, 0, none⟩), .int .i64 u] w (RPopped A v b u w) := by
  have hAw := h.blk.lt
  have hvw := h.row.lt
  have hsum := h.sum
  have hlen := h.len
  have hcl := come_le u b.l
  have H := Lib.hid h
  have HS := Lib.hid hsum
  have hne := h.ne
  obtain ⟨m, hm⟩ : ∃ m, m = come u b.l := ⟨_, rfl⟩
  have hmn : m ≤ b.l.length := by rw [hm]; exact hcl
  have e1 : (b.out : Int) + (m : Int) < 9000000 := by omega
  have w1 : IntKind.i64.wrap ((b.out : Int) + (m : Int)) = (b.out : Int) + (m : Int) := by rw [IntKind.wrap_i64]; omega
  have HM := Lib.hid hm
  have HW := Lib.hid w1
  clear hsum hm hcl w1 e1
  go_enter Try.func23, Try.ntmps23
  have hmk : Sem.run Try.prog (Instr.makeSlice 61 (.int .i64 0) (.int .i64 0)) w = .ok (.slice (some ⟨w.heap.size, 0, none⟩) 0 0) (w.alloc (.cells #[] 56)) := by
    obtain ⟨i, h1, h2, h3, h4⟩ := sam_parts
    have := run_make (P := Try.prog) w 61 56 i _ Try.underlying61 h1 h2 .i64 .i64 0 0 (by omega) (by omega) (by rw [h4]; omega) (by omega)
    rw [this]; simp [madeCells]
    rw [show Array.range 0 = #[] from rfl]; simp
  go_wp2_with fail
  clear hmk
  go_loopw [5] (fun s wr => ∃ a k c, s = .slice a k c ∧ k ≤ m ∧ Hid (Mid A v b w k (.slice a k c) wr)) (fun s _ => m - sliceLen s)
  case atStart =>
    refine ⟨_, 0, 0, rfl, Nat.zero_le _, Lib.hid ⟨.lies _ 0 (fun _ => 0) [] (Blk.made w #[] 56 rfl) (Nat.le_refl _) (by unfold maxLen; omega) (fun q hq => by simp at hq), fun q hq => by simp [own] at hq; omega, fun q hq => by simp [own] at hq; simp; omega, ⟨v, h.blk.alloc _, ?_, fun q hq => hq⟩, (Tch.refl _ _).alloc _⟩⟩
    exact h.row.keep ((Tch.refl [] _).alloc _) (by simp)
  case round =>
    clear h
    obtain ⟨a2, k, c2, rfl, hkm, M⟩ := hrel
    obtain ⟨vL, hBL, hRL, hoL⟩ := M.out.l
    have hAr : A < wr.heap.size := hBL.lt
    by_cases hk : k < m
    · obtain ⟨r, hd1, hd2⟩ := drop_get b.l k (by omega)
      have hle : fn (b.l.getD k []) 0 ≤ u := come_in u b.l k (by rw [← HM.out]; exact hk)
      rcases rsome hRL with ⟨_, h2⟩ | ⟨g, o, c, rfl, hg, hc, hi⟩
      · rw [hd1] at h2; cases h2
      · have hlenr : (b.l.drop k).length = r.length + 1 := by rw [hd1]; rfl
        rw [hlenr] at hi hc hBL hoL
        obtain ⟨y, hy⟩ : ∃ y, y = b.l.getD k [] := ⟨_, rfl⟩
        rw [← hy] at hle hd1
        have hIy : Ints wr g o 9 (fn y) := ⟨fun j hj => by rw [hi.at_ j (by omega), hd1]; have := fl_at (y :: r) 0 j hj; simpa using congrArg (fun z => some (Value.int IntKind.i64 z)) this⟩
        have t0 := hIy.at_ 0 (by omega)
        rw [Nat.add_zero] at t0
        have c1 := hBL.cell 1
        have f1 := hBL.free 1
        simp [rbufC] at c1
        have hgA : g ≠ A := fun e => hne (hoL A (by simp [own, e]))
        have hgr : g < wr.heap.size := hg
        have HH := Lib.hid (And.intro hBL (And.intro hi (And.intro hIy (And.intro hoL (And.intro hd1 (And.intro hd2 (And.intro hc hy)))))))
        have MM := Lib.hid M.out
        clear hBL hi hoL hd1 hd2 hRL hlenr M hy
        generalize hrn : r.length = n at *
        have hRN := Lib.hid hrn
        clear hrn
        have hn0 : (0 : Int) < (n : Int) + 1 := by omega
        have hlk : (b.l.take k).length = k := by rw [List.length_take]; omega
        go_upto_region 3 with (fail)
        obtain ⟨T, N, hO⟩ := opS
        have l3 : Sem.run Try.prog (loadCellsFrom ⟨g, o, none⟩ 0 N #[]) wr = .ok #[.int .i64 (fn y 0), .int .i64 (fn y 1), .int .i64 (fn y 2), .int .i64 (fn y 3), .int .i64 (fn y 4), .int .i64 (fn y 5), .int .i64 (fn y 6), .int .i64 (fn y 7), .int .i64 (fn y 8)] wr := hO.load _ _ _ _ hIy
        obtain ⟨a3, c3, W2, hr2, row2, t2, o2⟩ := app_is (wr.alloc (.cells #[.int .i64 (fn y 0), .int .i64 (fn y 1), .int .i64 (fn y 2), .int .i64 (fn y 3), .int .i64 (fn y 4), .int .i64 (fn y 5), .int .i64 (fn y 6), .int .i64 (fn y 7), .int .i64 (fn y 8)] 56)) 61 _ (b.l.take k) [y] k 1 hlk rfl (some ⟨wr.heap.size, 0, none⟩) 1 (MM.out.out.keep ((Tch.refl [] _).alloc _) (by simp)) (.inr ⟨wr.heap.size, 0, rfl, (blk_lit wr (fn y)).ints.congr (fun j hj => by have := fl_at [y] 0 j hj; simpa using this.symm)⟩) (by omega)
        have sa := hO.agg
        have ss := hO.size
        rw [show Op.load 56 = Op.load T by rw [hO.is]]
        have HLE := Lib.hid hle
        have HLK := Lib.hid hlk
        clear hO t0 hIy hlk hle
        go_upto_region 4 with (at_builtin; refine list_appR _ rfl _ _ 61 61 rfl _ _ rfl rfl hr2 ?_)
        have t3 : Tch (own (.slice a2 k c2)) wr W2 := ((Tch.refl _ wr).alloc _).trans t2
        have hAo : A ∉ own (.slice a2 k c2) := fun hm => by have := MM.out.fresh A hm; omega
        have hgo : g ∉ own (.slice a2 k c2) := fun hm => by have := MM.out.fresh g hm; have := hvw g (HH.out.2.2.2.1 g (by simp [own])); omega
        have hB2 := t3.blk HH.out.1 hAo
        have hi2 := t3.ints HH.out.2.1 hgr hgo
        have d1 := hB2.cell 1
        have f2 := hB2.free 1
        simp [rbufC] at d1
        have ho3 : ∀ q, q ∈ own (.slice a3 (k + 1) c3) → w.heap.size ≤ q ∧ q ≠ A ∧ q ≠ g := fun q hq => by
          have hgw := hvw g (HH.out.2.2.2.1 g (by simp [own]))
          rcases o2 q hq with h1 | h1
          · have := MM.out.fresh q h1; omega
          · have := MM.out.tch.size; simp at h1; omega
        clear l3 hr2 t2 o2 sa ss c1 f1
        have hT2 : Tch [A] w W2 := MM.out.tch.then t3 (fun q hq => .inr (MM.out.fresh q hq))
        have hgW : g < W2.heap.size := Nat.lt_of_lt_of_le hgr t3.size
        have hn1 : (1 : Int) ≤ (n : Int) + 1 := by omega
        have fin : ∀ (o' c' : Nat), n ≤ c' → Ints W2 g o' (9 * n) (fl r) → Hid (Mid A v b w (k + 1) (.slice a3 (k + 1) c3) (W2.setCell ⟨A, 1, none⟩ (.slice (some ⟨g, o', none⟩) n c'))) := fun o' c' hc' hi' => by
          have k4 : Tch [A] W2 (W2.setCell ⟨A, 1, none⟩ (.slice (some ⟨g, o', none⟩) n c')) := (Tch.refl _ _).set (.inl (by simp)) _ _
          have htk : b.l.take k ++ [y] = b.l.take (k + 1) := by
            rw [HH.out.2.2.2.2.2.2.2, List.take_add_one, List.getD_eq_getElem?_getD, List.getElem?_eq_getElem (show k < b.l.length by omega)]
            rfl
          rw [htk] at row2
          refine Lib.hid ⟨row2.keep k4 (fun q hq hm => (ho3 q hq).2.1 (by simpa using hm)), fun q hq => (ho3 q hq).1, fun q hq => Nat.lt_of_lt_of_le (row2.lt q hq) k4.size, ⟨.slice (some ⟨g, o', none⟩) n c', blk_is (blk_setC hB2 rfl) (by simp [rbufC]), ?_, fun q hq => HH.out.2.2.2.1 q (by simp [own] at hq ⊢; exact hq)⟩, hT2.trans k4⟩
          rw [HH.out.2.2.2.2.2.1]
          exact rrow_is hRN.out (Nat.lt_of_lt_of_le hgW k4.size) hc' (k4.ints hi' hgW (by simpa using hgA))
        by_cases hc1 : c = 1
        · obtain rfl : n = 0 := by have := HH.out.2.2.2.2.2.2.1; omega
          have FF := fin o 0 (Nat.le_refl _) ⟨fun i hi => by omega⟩
          clear hB2 hi2 fin row2 t3 hT2
          go_wp2_with fail
          go_roundw
          case rel => exact ⟨a3, k + 1, c3, rfl, by omega, FF⟩
          case measure => simp [sliceLen]; omega
        · have FF := fin (o + 9) (c - 1) (by have := HH.out.2.2.2.2.2.2.1; omega) ⟨fun i hi => by
            rw [Nat.add_assoc, hi2.at_ (9 + i) (by omega), HH.out.2.2.2.2.1]
            have h2 := fl_drop (y :: r) 1 i
            rw [show i + 9 * 1 = 9 + i by omega] at h2
            rw [← h2]; rfl⟩
          clear hB2 hi2 fin row2 t3 hT2
          go_wp2_with fail
          go_roundw
          case rel => exact ⟨a3, k + 1, c3, rfl, by omega, FF⟩
          case measure => simp [sliceLen]; omega
    · obtain rfl : k = m := by omega
      have c1 := hBL.cell 1
      simp [rbufC] at c1
      have hAt : A ∉ own (.slice a2 k c2) := fun hm => by have := M.out.fresh A hm; omega
      have HH := Lib.hid (And.intro hBL (And.intro hRL (And.intro hoL hAt)))
      have MM := Lib.hid M.out
      by_cases hkn : k < b.l.length
      case' pos =>
        obtain ⟨r, hd1, hd2⟩ := drop_get b.l k hkn
        have hle : u < fn (b.l.getD k []) 0 := by have := come_end u b.l (by rw [← HM.out]; exact hkn); rwa [← HM.out] at this
        rcases rsome hRL with ⟨_, h2⟩ | ⟨g, o, c, rfl, hg, hc, hi⟩
        · rw [hd1] at h2; cases h2
        have t0 : wr.cell? ⟨g, o, none⟩ = some (.int .i64 (fn (b.l.getD k []) 0)) := by
          have := hi.at_ 0 (by rw [hd1]; simp)
          rw [Nat.add_zero, hd1] at this
          rw [this]
          have h2 := fl_at (b.l.getD k [] :: r) 0 0 (by omega)
          simpa using congrArg (fun z => some (Value.int IntKind.i64 z)) h2
        generalize fn (b.l.getD k []) 0 = t at *
        have hlenr : (b.l.drop k).length = r.length + 1 := by rw [hd1]; rfl
        rw [hlenr] at c1
        generalize r.length = n at *
        have hn0 : (0 : Int) < (n : Int) + 1 := by omega
        have hle2 : ¬ t ≤ u := by omega
        clear hd1 hd2 hRL hi hBL hoL M hlenr
        go_upto_region 5 with (fail)
        clear t0 hle hle2 hn0
      case' neg =>
        have hd0 : b.l.drop k = [] := List.drop_eq_nil_of_le (by omega)
        obtain ⟨a, c, rfl, hc⟩ := hRL.shape
        rw [hd0] at c1
        simp at c1
        clear hRL hBL hoL M
        go_upto_region 5 with (fail)
      all_goals
        have w1 := HW.out
        have c7 := HH.out.1.cell 7
        have f7 := HH.out.1.free 7
        simp [rbufC] at c7
        go_region_law (fail)
        have kV : Tch [A] wr ((wr.setCell ⟨A, 7, none⟩ (.int .i64 ((b.out : Int) + (k : Int)))).drew) := ((Tch.refl _ _).set (.inl (by simp)) _ _).drew
        have BV := (blk_setC (i := 7) (u := .int .i64 ((b.out : Int) + (k : Int))) HH.out.1 rfl).drew
        generalize (wr.setCell ⟨A, 7, none⟩ (.int .i64 ((b.out : Int) + (k : Int)))).drew = V at *
        clear c7 f7 w1 c1
        have c2' := BV.cell 2
        have f2' := BV.free 2
        simp [rbufC] at c2'
        have HV := Lib.hid (And.intro BV kV)
        clear BV kV
        by_cases hu : b.hor < u
        case' pos =>
          have hz : max b.hor u = u := by omega
          have BW := blk_setC (i := 2) (u := .int .i64 u) HV.out.1 rfl
          have kW : Tch [A] V (V.setCell ⟨A, 2, none⟩ (.int .i64 u)) := (Tch.refl _ _).set (.inl (by simp)) _ _
        case' neg =>
          have hz : max b.hor u = b.hor := by omega
          have BW := HV.out.1
          have kW : Tch [A] V V := Tch.refl _ _
        all_goals
          have HZ := Lib.hid (And.intro hz (And.intro BW kW))
          clear hz BW kW
          go_wp2_with fail
          go_ret
          have kT := HV.out.2.trans HZ.out.2.2
          refine ⟨_, _, rfl, by rw [← HM.out]; exact MM.out.out.keep kT (fun q hq hm => HH.out.2.2.2 (by simp at hm; subst hm; exact hq)), MM.out.fresh, ⟨blk_is HZ.out.2.1 ?_, ?_, fun hm => H.out.ne (HH.out.2.2.1 A hm), ?_, ?_, ?_, ?_⟩, HH.out.2.2.1, MM.out.tch.trans kT⟩
          · simp [rbufC, Ring.pop, ← HM.out, HZ.out.1]
          · unfold Ring.pop; rw [← HM.out]
            exact HH.out.2.1.keep kT (fun q hq hm => by simp at hm; subst hm; exact H.out.ne (HH.out.2.2.1 _ hq))
          · exact List.Pairwise.sublist (List.drop_sublist _ _) H.out.srt
          · exact fun y hy => H.out.nine y (List.mem_of_mem_drop hy)
          · simp [Ring.pop]; have := H.out.len; omega
          · have := HS.out; simp [Ring.pop, ← HM.out]; omega
end Go.Proofs.Ytdndomknjefgkaa.Rg
