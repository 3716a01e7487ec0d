/- The document's own covariances; slices grown. -/
import Derived.Test.YtfkeljolpcbbkaaQR
import Derived.Test.YtfkeljolpcbbkaaRN
import Derived.Test.YtfkeljolpcbbkaaTRX
import Derived.Deep.AppendLies
import Derived.Deep.DeepCutAuto
import Derived.Deep.RegionLaw
import Derived.Maps.AppendAt
import Derived.OwnWalk

/- Own -/
namespace Go.Proofs.Ytfkeljolpcbbkaa
open Go.RowKit

def intsL (n : Nat) (xs : Nat → Int) : List Value := (List.range n).map fun i => .int .i64 (xs i)
theorem intsL_get {n : Nat} (xs : Nat → Int) {j : Nat} (h : j < n) : (intsL n xs)[j]? = some (.int .i64 (xs j)) := by simp [intsL, h]
theorem intsL_next (n : Nat) (xs : Nat → Int) : intsL n xs ++ [.int .i64 (xs n)] = intsL (n + 1) xs := by simp [intsL, List.range_succ]
structure OwnI (w : World) (e : TypeId) (base : Nat) (v : Value) (n : Nat) (xs : Nat → Int) : Prop where
  row : w.ownsRow base e 1 v n (intsL n xs)
theorem OwnI.nil (w : World) (e : TypeId) (base : Nat) (xs : Nat → Int) : OwnI w e base (.slice none 0 0) 0 xs := ⟨World.ownsRow_nil w base e 1⟩
theorem OwnI.blk {w : World} {e : TypeId} {base n : Nat} {v : Value} {xs : Nat → Int} (h : OwnI w e base v n xs) {k : Nat} (hk : v.ownBlock = some k) : base ≤ k ∧ k < w.heap.size := h.row.lt k hk
theorem OwnI.keep {w w' : World} {e : TypeId} {base n : Nat} {v : Value} {xs : Nat → Int} (h : OwnI w e base v n xs) (hk : ∀ k, v.ownBlock = some k → w'.heap[k]? = w.heap[k]?) : OwnI w' e base v n xs := by
  refine ⟨h.row.1, ?_⟩
  rcases h.row.2 with hn | ⟨g, cap, cur, rfl, hb, hg, hr⟩
  · exact .inl hn
  · exact .inr ⟨g, cap, cur, rfl, hb, (hk g rfl).trans hg, hr⟩
theorem OwnI.call {w w' : World} {e : TypeId} {base n : Nat} {v : Value} {xs : Nat → Int} (h : OwnI w e base v n xs) (hb : Below w.heap.size w w') : OwnI w' e base v n xs :=
  h.keep fun _ hk => hb.block _ (h.blk hk).2
theorem OwnI.drew {w : World} {e : TypeId} {base n : Nat} {v : Value} {xs : Nat → Int} (h : OwnI w e base v n xs) : OwnI w.drew e base v n xs := h.keep fun _ _ => rfl
theorem OwnI.alloc {w : World} {e : TypeId} {base n : Nat} {v : Value} {xs : Nat → Int} (h : OwnI w e base v n xs) (o : Obj) : OwnI (w.alloc o) e base v n xs := h.call ((Below.refl _ _).alloc (Nat.le_refl _) o)
theorem OwnI.flag {w w' : World} {e : TypeId} {base n p o : Nat} {g : Bool} {v : Value} {xs : Nat → Int} (h : OwnI w e base v n xs) (hp : p < base) (k : FlW p o g w w') : OwnI w' e base v n xs :=
  h.keep fun _ hk => k.block (h.blk hk).2 (by have := (h.blk hk).1; omega)
theorem OwnI.grown {w w' : World} {e : TypeId} {base n : Nat} {v : Value} {xs : Nat → Int} {r : Option Nat} (h : OwnI w e base v n xs) (hg : w.grownBy w' r) (hr : ∀ k, v.ownBlock = some k → r ≠ some k) : OwnI w' e base v n xs :=
  h.keep fun _ hk => hg.block _ (h.blk hk).2 (fun e => hr _ hk e.symm)
theorem OwnI.cells {w : World} {e : TypeId} {base n : Nat} {v : Value} {xs : Nat → Int} (h : OwnI w e base v n xs) (hn : 0 < n) : ∃ g cap, v = .slice (some ⟨g, 0, none⟩) n cap ∧ base ≤ g ∧ g < w.heap.size ∧ n ≤ cap ∧ cap ≤ maxLen ∧ Ints w g 0 n xs := by
  rcases h.row.2 with ⟨_, h0⟩ | ⟨g, cap, cur, hv, hb, hg, hc, hm, hs, ht⟩
  · omega
  · have hg' : Blk w g cur e := hg
    refine ⟨g, cap, hv, hb, hg'.lt, hc, hm, ⟨fun i hi => ?_⟩⟩
    have := h.row.cells (g := g) (by rw [hv]; rfl) i _ (intsL_get xs hi)
    rwa [show ((⟨g, 0, none⟩ : Addr).add i) = ⟨g, 0 + i, none⟩ from Addr.add_mid g 0 i] at this
theorem FlW.grown {p o : Nat} {h : Bool} {w w1 w2 : World} {r : Option Nat} (k : FlW p o h w w1) (hg : w1.grownBy w2 r) (hr : ∀ g, r = some g → w.heap.size ≤ g) : FlW p o h w w2 :=
  ⟨Below.grown k.out hg k.size hr⟩
section
variable {P : Program} (w : World)
theorem run_own (t ty e : TypeId) (ht : P.underlying t = some (.slice e)) (hi : (P.info? e).map (fun i => (i.zero, i.size, i.bytes)) = some (some (.int .i64 0), 1, 8))
    (base n : Nat) (v : Value) (xs : Nat → Int) (hown : OwnI w e base v n xs) (B c : Nat) (hz : w.cell? ⟨B, 0, none⟩ = some (.int .i64 (xs n))) (hn : n < 1000000) (hbase : base ≤ w.heap.size) :
    ∃ v' w', (Builtin.append_ #[t, t] ty #[v, .slice (some ⟨B, 0, none⟩) 1 c]).run P w = .ok v' w' ∧ OwnI w' e base v' (n + 1) xs ∧ w.grownBy w' v.ownBlock ∧ (v'.ownBlock = v.ownBlock ∨ v'.ownBlock = some w.heap.size) := by
  obtain ⟨i, h1, h2, h3, h4⟩ := info_parts hi
  obtain ⟨v', w', r1, r2, r3, _, r5⟩ := run_append_own_at (P := P) w base t ty e i (.int .i64 0) 1 8 ht h1 h2 h3 h4 rfl (by omega) v n _ hown.row ⟨B, 0, none⟩ 1 c [.int .i64 (xs n)] rfl
    (fun j u hu => by
      match j, hu with
      | 0, hu => injection hu with hu; subst hu; exact hz)
    (by simp [Value.oneCell']) (by unfold maxLen; omega) (by omega) hbase
  rw [intsL_next] at r2
  exact ⟨v', w', r1, ⟨r2⟩, r3, r5⟩
theorem own_append {ops : Array Oper} {rest : List Oper} {o : Oper} {a : Act} {Q : Exit → Act → World → Prop} (hgd : o.guard = none) (s x : Operand) (t : TypeId)
    (ho : o.op = .call { callee := .builtin .append, args := #[s, x], argTypes := #[t, t] }) (e : TypeId) (ht : P.underlying t = some (.slice e)) (hi : (P.info? e).map (fun i => (i.zero, i.size, i.bytes)) = some (some (.int .i64 0), 1, 8))
    (base n : Nat) (v : Value) (xs : Nat → Int) (hs : a.eval s = v) (hown : OwnI w e base v n xs) (B c : Nat) (hx : a.eval x = .slice (some ⟨B, 0, none⟩) 1 c) (hz : w.cell? ⟨B, 0, none⟩ = some (.int .i64 (xs n))) (hn : n < 1000000) (hbase : base ≤ w.heap.size)
    (h : ∀ v' w', OwnI w' e base v' (n + 1) xs → w.grownBy w' v.ownBlock → (v'.ownBlock = v.ownBlock ∨ v'.ownBlock = some w.heap.size) → wpList P ops Q rest (a.put o.dst v') w') : wpList P ops Q (o :: rest) a w := by
  refine wpList_plain hgd fun K hK => ?_
  obtain ⟨v', w', hr, h2, h3, h4⟩ := run_own (P := P) w t o.type e ht hi base n v xs hown B c hz hn hbase
  unfold Oper.wp execOp
  simp only [ho, resolve, invoke, builtin, Sem.run_bind, Sem.run_pure, Result.andThen_ok, List.map_toArray, List.map_cons, List.map_nil, hs, hx, hr]
  exact hK _ _ (h v' w' h2 h3 h4)
theorem step_own {ops : Array Oper} {o : Oper} {a : Act} {K : Act → World → Prop} {Q : Exit → Act → World → Prop} {E : Prop} (hgd : o.guard = none) (s x : Operand) (t : TypeId)
    (ho : o.op = .call { callee := .builtin .append, args := #[s, x], argTypes := #[t, t] }) (e : TypeId) (ht : P.underlying t = some (.slice e)) (hi : (P.info? e).map (fun i => (i.zero, i.size, i.bytes)) = some (some (.int .i64 0), 1, 8))
    (base n : Nat) (v : Value) (xs : Nat → Int) (hs : a.eval s = v) (hown : OwnI w e base v n xs) (B c : Nat) (hx : a.eval x = .slice (some ⟨B, 0, none⟩) 1 c) (hz : w.cell? ⟨B, 0, none⟩ = some (.int .i64 (xs n))) (hn : n < 1000000) (hbase : base ≤ w.heap.size)
    (h : ∀ v' w', OwnI w' e base v' (n + 1) xs → w.grownBy w' v.ownBlock → (v'.ownBlock = v.ownBlock ∨ v'.ownBlock = some w.heap.size) → K (a.put o.dst v') w') :
    if Region.wanted o (yielded ops a.tmps) = true then Oper.wp P o a w K Q else E := by
  have hw : Region.wanted o (yielded ops a.tmps) = true := by simp [Region.wanted, hgd]
  rw [if_pos hw]
  obtain ⟨v', w', hr, h2, h3, h4⟩ := run_own (P := P) w t o.type e ht hi base n v xs hown B c hz hn hbase
  unfold Oper.wp execOp
  simp only [ho, resolve, invoke, builtin, Sem.run_bind, Sem.run_pure, Result.andThen_ok, List.map_toArray, List.map_cons, List.map_nil, hs, hx, hr]
  exact h v' w' h2 h3 h4
end
end Go.Proofs.Ytfkeljolpcbbkaa

/- TriF -/
namespace Go.Proofs.Ytfkeljolpcbbkaa
open Go.RowKit

theorem qclamp_max (p o : Nat) (a : Int) (h : Bool) (w : World) (f : Fl p o h w) :
    Calls Try.prog 139 #[.pointer (some ⟨p, o, none⟩), .int .i64 a, .int .i64 (-1152921504606846976), .int .i64 1152921504606846976] w fun e w' => e = .returned (.int .i64 (satv a)) ∧ FlW p o (h || sath a) w w' := by
  rw [← (clamp_sat a).1, ← (clamp_sat a).2]
  exact qclamp p o a _ _ h w f
set_option maxHeartbeats 4000000 in
theorem rcond_any (p o : Nat) (f : Nat → Int) (h : Bool) (w : World) (fl : Fl p o h w) :
    Calls Try.prog 90 #[.pointer (some ⟨p, o, none⟩), .agg (rowA 300 f)] w fun e w' => e = .returned (.agg (rowA 300 (condF f))) ∧ FlW p o (h || condH f) w w' := by
  have hpw := fl.lt
  go_enter Try.func90, Try.ntmps90
  go_upto_region 1 with (fail)
  rw [zeroCov]
  generalize hW : World.alloc (World.alloc w _) _ = W
  have hF : FlW p o (h || hitD f 0) w W := by subst hW; exact flag_is (by simp [hitD]) (((FlW.refl fl).alloc _).alloc _)
  have hB : Blk W w.heap.size (rowA 300 (partD f 0)) 93 := by subst hW; rw [partD_zero]; exact (Blk.made _ _ _ rfl).alloc _
  have hR : Blk W (w.heap.size + 1) (rowA 300 fun _ => 0) 93 := by subst hW; exact Blk.made _ _ _ (by simp)
  have hz : w.heap.size + 1 < W.heap.size := by subst hW; simp
  clear hW
  go_wp2_with fail
  go_loopw [5] (fun i wr => ∃ k : Nat, k ≤ 24 ∧ i = .int .i64 k ∧ FlW p o (h || hitD f k) w wr ∧ w.heap.size + 1 < wr.heap.size ∧ Blk wr w.heap.size (rowA 300 (partD f k)) 93 ∧ Blk wr (w.heap.size + 1) (rowA 300 fun _ => 0) 93) (fun i _ => 24 - (intOf i).toNat)
  case atStart => exact ⟨0, by omega, rfl, hF, hz, hB, hR⟩
  case round =>
    obtain ⟨k, hk, rfl, hF, hz, hB, hR⟩ := hrel
    have fr := hF.fl fl
    by_cases hlt : k < 24
    · have hltI : (k : Int) < 24 := by omega
      have hk0 : (0 : Int) ≤ (k : Int) := by omega
      have h0 := hB.cell (276 + k)
      rw [rowA_get _ (by omega), partD_self] at h0
      go_upto_region 4 with (fail)
      go_region_with (first
        | (go_at_call 139; refine (qclamp p o (f (276 + k)) _ _ _ _ fr.drew).mono ?_; rintro e w4 ⟨rfl, kk⟩; have hB4 := hB.drew.flag (by omega) kk; have hR4 := hR.drew.flag (by omega) kk; have hc := hB4.cell (276 + k); rw [rowA_get _ (by omega)] at hc; have hf := hB4.free (276 + k); have hz4 := kk.size; have F4 := hF.drew.trans kk))
      all_goals
        have hB5 := hB4.setI (k := 276 + k) (by omega) (clampv (f (276 + k)) 1 72057594037927936)
        rw [partD_next] at hB5
        have hF5 := F4.other (b := w.heap.size) (i := 276 + k) (Nat.le_refl _) (.int .i64 (clampv (f (276 + k)) 1 72057594037927936))
        have hR5 := hR4.other (b := w.heap.size) (i := 276 + k) (by omega) (.int .i64 (clampv (f (276 + k)) 1 72057594037927936))
        have hz5 : w.heap.size + 1 < w4.heap.size := Nat.lt_of_lt_of_le hz hz4
        have H := Lib.hid (And.intro hB5 (And.intro hF5 hR5))
        clear hB5 hF5 hR5 hB hR hF hB4 hR4 F4 hz4
        go_wp2_with fail
        go_roundw
        case rel =>
          obtain ⟨hB5, hF5, hR5⟩ := H.out
          exact ⟨k + 1, by omega, by go_num, flag_is (by simp [hitD, Bool.or_assoc]) hF5, by rw [size_set]; omega, hB5, hR5⟩
        case measure => simp [intOf]; omega
    · obtain rfl : k = 24 := by omega
      clear hlt hk
      rw [show ((24 : Nat) : Int) = 24 from rfl]
      have hB := hB.congr (fun j hj => partU_zero hj)
      have hF : FlW p o (h || hitD f 24 || hitU f 0) w wr := flag_is (by simp [hitU]) hF
      go_wp2_with fail
      go_loopw [6] (fun i wr => ∃ k : Nat, k ≤ 276 ∧ i = .int .i64 k ∧ FlW p o (h || hitD f 24 || hitU f k) w wr ∧ w.heap.size + 1 < wr.heap.size ∧ Blk wr w.heap.size (rowA 300 (partU f k)) 93 ∧ Blk wr (w.heap.size + 1) (rowA 300 fun _ => 0) 93) (fun i _ => 276 - (intOf i).toNat)
      case atStart => exact ⟨0, by omega, rfl, hF, hz, hB, hR⟩
      case round =>
        obtain ⟨k, hk, rfl, hF, hz, hB, hR⟩ := hrel
        have fr := hF.fl fl
        by_cases hlt : k < 276
        · have hltI : (k : Int) < 276 := by omega
          have hk0 : (0 : Int) ≤ (k : Int) := by omega
          have h0 := hB.cell k
          rw [rowA_get _ (by omega), partU_self f hlt] at h0
          go_upto_region 8 with (fail)
          go_region_with (first
            | (go_at_call 139; refine (qclamp_max p o (f k) _ _ fr.drew).mono ?_; rintro e w4 ⟨rfl, kk⟩; have hB4 := hB.drew.flag (by omega) kk; have hR4 := hR.drew.flag (by omega) kk; have hc := hB4.cell k; rw [rowA_get _ (by omega)] at hc; have hf := hB4.free k; have hz4 := kk.size; have F4 := hF.drew.trans kk))
          all_goals
            have hB5 := hB4.setI (k := k) (by omega) (satv (f k))
            rw [partU_next f hlt] at hB5
            have hF5 := F4.other (b := w.heap.size) (i := k) (Nat.le_refl _) (.int .i64 (satv (f k)))
            have hR5 := hR4.other (b := w.heap.size) (i := k) (by omega) (.int .i64 (satv (f k)))
            have hz5 : w.heap.size + 1 < w4.heap.size := Nat.lt_of_lt_of_le hz hz4
            have H := Lib.hid (And.intro hB5 (And.intro hF5 hR5))
            clear hB5 hF5 hR5 hB hR hF hB4 hR4 F4 hz4
            go_wp2_with fail
            go_roundw
            case rel =>
              obtain ⟨hB5, hF5, hR5⟩ := H.out
              exact ⟨k + 1, by omega, by go_num, flag_is (by simp [hitU, Bool.or_assoc]) hF5, by rw [size_set]; omega, hB5, hR5⟩
            case measure => simp [intOf]; omega
        · obtain rfl : k = 276 := by omega
          have hB := hB.congr (fun j _ => partU_all j)
          clear hlt hk
          go_wp2_with (first
            | (refine row_load 93 _ rfl rfl w.heap.size 300 _ _ rfl hB _ Try.underlying93 rfl covSize ?_)
            | (refine row_store 93 _ _ rfl rfl (w.heap.size + 1) 300 _ _ _ rfl rfl hR covSize ?_))
          exact bodyPost_ret (v := .agg (rowA 300 (condF f))) (results_row rfl _ _ (w.heap.size + 1) 300 _ _ _ rfl hR.setRow Try.underlying93 rfl covSize) rfl ⟨rfl, flag_is (by simp [condH, Bool.or_assoc]) (hF.row (by omega) _)⟩
end Go.Proofs.Ytfkeljolpcbbkaa

/- TriH -/
namespace Go.Proofs.Ytfkeljolpcbbkaa
open Go.RowKit

theorem numInfo : (Try.prog.info? 2).map (fun i => (i.zero, i.size, i.bytes)) = some (some (.int .i64 0), 1, 8) := by kernel_rfl
theorem qm_mulv (p o : Nat) (a b : Int) (h : Bool) (w : World) (f : Fl p o h w) :
    Calls Try.prog 103 #[.pointer (some ⟨p, o, none⟩), .int .i64 a, .int .i64 b] w fun e w' => e = .returned (.int .i64 (mulv a b)) ∧ FlW p o (h || mulh a b) w w' := by
  refine (qm p o a b h w f).mono ?_
  rintro e w' ⟨rfl, k⟩
  exact ⟨rfl, flag_is (by simp [mulh, Bool.or_assoc]) k⟩
def Apart (v u : Value) : Prop := ∀ k, v.ownBlock = some k → u.ownBlock ≠ some k
set_option maxHeartbeats 4000000 in
theorem rat_in (p o b bo : Nat) (f : Nat → Int) (i j m : Nat) (h : Bool) (w : World) (fl : Fl p o h w) (hb : b < w.heap.size) (hbp : b ≠ p) (hx : Ints w b bo 300 f) (hi : i < 24) (hj : j < 24) (hm : max (i : Int) (j : Int) = (m : Int)) :
    Calls Try.prog 88 #[.pointer (some ⟨p, o, none⟩), .pointer (some ⟨b, bo, none⟩), .int .i64 i, .int .i64 j] w fun e w' => e = .returned (.int .i64 (satv (rnd (sumP (atX f i m) (atY f j m) (24 - m)) 30))) ∧
      FlW p o (h || anyY f j m (24 - m) || anyP (atX f i m) (atY f j m) (24 - m) || sath (rnd (sumP (atX f i m) (atY f j m) (24 - m)) 30)) w w' := by
  have hpw := fl.lt
  have g1 : ¬ (i : Int) < 0 := by omega
  have g2 : ¬ (j : Int) < 0 := by omega
  have g3 : ¬ (24 : Int) ≤ (i : Int) := by omega
  have g4 : ¬ (24 : Int) ≤ (j : Int) := by omega
  have hm24 : m < 24 := by omega
  have HM := Lib.hid hm
  clear hm
  go_enter Try.func88, Try.ntmps88
  go_upto_if 29 with (fail)
  go_cut [9] (fun s9 wx => s9 = .int .i64 (m : Int) ∧ wx = w)
  case first =>
    go_wp2_with fail
    all_goals (go_meet; exact ⟨by have := HM.out; congr 1; omega, rfl⟩)
  case rest =>
    obtain ⟨rfl, rfl⟩ := hcut
    go_wp2_with fail
    go_loopw [9, 10, 11] (fun i' va vx wr => ∃ k : Nat, k ≤ 24 - m ∧ i' = .int .i64 ((m + k : Nat) : Int) ∧ OwnI wr 2 wc.heap.size va k (atX f i m) ∧ OwnI wr 2 wc.heap.size vx k (atY f j m) ∧ Apart va vx ∧ FlW p o (h || anyY f j m k) wc wr) (fun i' _ _ _ => 24 - (intOf i').toNat)
    case atStart => exact ⟨0, by omega, rfl, OwnI.nil _ _ _ _, OwnI.nil _ _ _ _, (fun k hk => by cases hk), flag_is (by simp [anyY]) (FlW.refl fl)⟩
    case round =>
      obtain ⟨k, hk, rfl, hX, hY, hA, hF⟩ := hrel
      have fr := hF.fl fl
      have hs := hF.size
      by_cases hlt : k < 24 - m
      · have hlt2 : m + k < 24 := by omega
        have hxw : Ints wr b bo 300 f := ⟨fun q hq => (hF.cell hb (.inl hbp)).trans (hx.at_ q hq)⟩
        have HNX := Lib.hid (show uF f i ((m + k : Nat) : Int) = atX f i m k from rfl)
        have HNY := Lib.hid (show mulv (uF f j ((m + k : Nat) : Int)) (f (276 + (m + k))) = atY f j m k from rfl)
        have HNA := Lib.hid (show anyY f j m (k + 1) = (anyY f j m k || mulh (uF f j ((m + k : Nat) : Int)) (f (276 + (m + k)))) from rfl)
        generalize hq : m + k = q at *
        have hltI : (q : Int) < 24 := by omega
        have hk0 : (0 : Int) ≤ (q : Int) := by omega
        go_wp2_with fail
        refine (ru_any b bo f i q wr hxw).mono ?_
        rintro e w3 ⟨rfl, hb3⟩
        have hX3 := (hX.call hb3).alloc (.cells #[.int .i64 (uF f i q)] 2)
        have hY3 := (hY.call hb3).alloc (.cells #[.int .i64 (uF f i q)] 2)
        have hF3 := (hF.then hb3).alloc (.cells #[.int .i64 (uF f i q)] 2)
        have hz3 := hF3.size
        have hc3 : (w3.alloc (.cells #[.int .i64 (uF f i q)] 2)).cell? ⟨w3.heap.size, 0, none⟩ = some (.int .i64 (atX f i m k)) := by
          rw [(Blk.made w3 #[.int .i64 (uF f i q)] 2 rfl).cell 0, ← HNX.out]; rfl
        have H3 := Lib.hid (And.intro hX3 (And.intro hY3 (And.intro hF3 (And.intro hz3 hc3))))
        clear hX3 hY3 hF3 hz3 hc3 hX hY hF fr hxw
        go_wp2_with (at_builtin; refine own_append _ rfl _ _ 63 rfl 2 Try.underlying63 numInfo wc.heap.size k u10 (atX f i m) rfl H3.out.1 w3.heap.size 1 rfl H3.out.2.2.2.2 (by omega) H3.out.2.2.2.1 ?_)
        intro va' w4 hX4 hg4 hat4
        obtain ⟨hX3, hY3, hF3, hz3, hc3⟩ := H3.out
        clear H3
        have hY4 := hY3.grown hg4 (fun r hr e => hA r e hr)
        have hA4 : Apart va' u11 := fun r hr e => by
          rcases hat4 with h1 | h1
          · exact hA r (h1.symm.trans hr) e
          · have := (hY3.blk e).2
            rw [h1] at hr
            injection hr with hr
            simp at this
            omega
        have hF4 := hF3.grown hg4 (fun r hr => (hX3.blk hr).1)
        have hz4 := hF4.size
        have hx4 : Ints w4 b bo 300 f := ⟨fun q hq => (hF4.cell hb (.inl hbp)).trans (hx.at_ q hq)⟩
        have D4 := hx4.at_ (276 + q) (by omega)
        rw [← Nat.add_assoc] at D4
        have f4 := hF4.fl fl
        have hb4 : b < w4.heap.size := by omega
        clear hX3 hY3 hF3 hz3 hc3 hg4 hat4 hA
        have HC6 := Lib.hid (fun w6 : World => (show (w6.alloc (.cells #[.int .i64 (mulv (uF f j q) (f (276 + q)))] 2)).cell? ⟨w6.heap.size, 0, none⟩ = some (.int .i64 (atY f j m k)) by
          rw [(Blk.made w6 #[.int .i64 (mulv (uF f j q) (f (276 + q)))] 2 rfl).cell 0, ← HNY.out]; rfl))
        go_upto_region 11 with (fail)
        go_region_law (first
          | (have _t := hc6; with_reducible refine step_own _ ?_ _ _ 63 ?_ 2 Try.underlying63 numInfo wc.heap.size k u11 (atY f j m) ?_ (hY6.alloc _) w6.heap.size 1 ?_ hc6 ?_ hz6 ?_; rfl; rfl; rfl; rfl; omega; intro vx' w7 hY7 hg7 hat7)
          | (have _t := hc6; refine step_own _ rfl _ _ 63 rfl 2 Try.underlying63 numInfo wc.heap.size k u11 (atY f j m) rfl (hY6.alloc _) w6.heap.size 1 rfl hc6 (by omega) hz6 ?_; intro vx' w7 hY7 hg7 hat7)
          | (go_simp; go_at_call 86; go_loud (refine (ru_any b bo f j q _ hx4.drew).mono ?_; rintro e w5 ⟨rfl, hb5⟩; have d5 := (cellAt (b := b) (i := bo + 276 + q) hb5 hb4).trans D4; have f5 := f4.drew.below hb5; have hY5 := hY4.drew.call hb5; have hX5 := hX4.drew.call hb5; have F5 := hF4.drew.then hb5))
          | (go_simp; go_at_call 103; go_loud (refine (qm_mulv p o (uF f j q) (f (276 + q)) _ _ f5).mono ?_; rintro e w6 ⟨rfl, k6⟩; have hY6 := hY5.flag hpw k6; have hX6 := hX5.flag hpw k6; have F6 := F5.trans k6; have hc6 := HC6.out w6; have hz6 := (F6.alloc (.cells #[.int .i64 (mulv (uF f j q) (f (276 + q)))] 2)).size)))
        all_goals
          have hX7 := (hX6.alloc (.cells #[.int .i64 (mulv (uF f j q) (f (276 + q)))] 2)).grown hg7 (fun r hr e => hA4 r hr e)
          have hA7 : Apart va' vx' := fun r hr e => by
            rcases hat7 with h1 | h1
            · exact hA4 r hr (h1.symm.trans e)
            · have := (hX6.blk hr).2
              rw [h1] at e
              injection e with e
              simp at e
              omega
          have F7 := (F6.alloc (.cells #[.int .i64 (mulv (uF f j q) (f (276 + q)))] 2)).grown hg7 (fun r hr => (hY6.blk hr).1)
          have H := Lib.hid (And.intro hX7 (And.intro hY7 (And.intro hA7 F7)))
          clear hX7 hY7 hA7 F7 hX6 hY6 F6 hX5 hY5 F5 hX4 hY4 hF4 hA4 hx4 D4 d5 f4 f5 hc6 hz6 HC6 hg7 hat7
          go_wp2_with fail
          go_roundw
          case rel =>
            obtain ⟨hX7, hY7, hA7, F7⟩ := H.out
            exact ⟨k + 1, by omega, by rw [← Nat.add_assoc, hq]; go_num, hX7, hY7, hA7, flag_is (by rw [HNA.out, Bool.or_assoc]) F7⟩
          case measure => simp [intOf]; omega
      · obtain rfl : k = 24 - m := by omega
        have e24 : m + (24 - m) = 24 := by omega
        rw [e24, show ((24 : Nat) : Int) = 24 from rfl]
        clear e24 hA
        obtain ⟨ga, ca, rfl, ga0, ga1, _, _, hxi⟩ := hX.cells (by omega)
        obtain ⟨gx, cx, rfl, gx0, gx1, _, _, hyi⟩ := hY.cells (by omega)
        have hn : 24 - m ≤ 100 := by omega
        have na : ga ≠ p := by omega
        have nx : gx ≠ p := by omega
        clear hX hY hx hlt hk
        go_wp2_with fail
        refine (qdot p o ga 0 ca gx 0 cx (atX f i m) (atY f j m) 30 (24 - m) _ _ fr (by omega) hn ga1 gx1 na nx hxi hyi).mono ?_
        rintro e w5 ⟨rfl, k5⟩
        go_wp2_with fail
        go_ret
        exact ⟨rfl, hF.trans k5⟩
set_option maxHeartbeats 1000000 in
theorem rat_any (p o b bo : Nat) (f : Nat → Int) (i j : Int) (h : Bool) (w : World) (fl : Fl p o h w) (hb : b < w.heap.size) (hbp : b ≠ p) (hx : Ints w b bo 300 f) :
    Calls Try.prog 88 #[.pointer (some ⟨p, o, none⟩), .pointer (some ⟨b, bo, none⟩), .int .i64 i, .int .i64 j] w fun e w' => e = .returned (.int .i64 (atV f i j)) ∧ FlW p o (h || atH f i j) w w' := by
  by_cases hc : i < 0 ∨ j < 0 ∨ 24 ≤ i ∨ 24 ≤ j
  · have HV := Lib.hid (show atV f i j = 0 ∧ atH f i j = false by
      have : (inN i && inN j) = false := by
        cases hi : inN i
        · rfl
        · have := (inN_iff i).1 hi
          rw [(inN_no j).2 (by omega)]; rfl
      unfold atV atH
      rw [this]; exact ⟨rfl, rfl⟩)
    rcases (show (i < 0) ∨ (¬ i < 0 ∧ j < 0) ∨ (¬ i < 0 ∧ ¬ j < 0 ∧ 24 ≤ i) ∨ (¬ i < 0 ∧ ¬ j < 0 ∧ ¬ 24 ≤ i ∧ 24 ≤ j) by omega) with g1 | ⟨g1, g2⟩ | ⟨g1, g2, g3⟩ | ⟨g1, g2, g3, g4⟩
    all_goals
      clear hc
      go_enter Try.func88, Try.ntmps88
      go_wp2_with fail
      go_ret
      exact ⟨ret_int HV.out.1.symm, flag_is (by rw [HV.out.2, Bool.or_false]) (FlW.refl fl)⟩
  · obtain ⟨a, rfl⟩ := Int.eq_ofNat_of_zero_le (show 0 ≤ i by omega)
    obtain ⟨c, rfl⟩ := Int.eq_ofNat_of_zero_le (show 0 ≤ j by omega)
    refine (rat_in p o b bo f a c (max a c) h w fl hb hbp hx (by omega) (by omega) (max_nat a c)).mono ?_
    rintro e w' ⟨rfl, k⟩
    have em : (max (a : Int) (c : Int)).toNat = max a c := by omega
    have hi := (inN_iff (a : Int)).2 (by omega)
    have hj := (inN_iff (c : Int)).2 (by omega)
    refine ⟨ret_int ?_, flag_is ?_ k⟩
    · unfold atV atS; rw [hi, hj, em]; rfl
    · unfold atH atS; rw [hi, hj, em]; simp [Bool.or_assoc]
end Go.Proofs.Ytfkeljolpcbbkaa
