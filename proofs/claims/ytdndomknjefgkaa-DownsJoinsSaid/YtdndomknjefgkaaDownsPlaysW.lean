/- Samplers play as the document says. -/
import Derived.Test.YtdndomknjefgkaaDnM
namespace Go.Proofs.Ytdndomknjefgkaa.Rg
open Go.RowKit
def sput (F : Nat → Int) : List Sam → Nat → Int
  | [] => F
  | x :: l => sput (nextF F (fn x)) l
theorem sput_snoc : ∀ (l : List Sam) (F : Nat → Int) (x : Sam), sput F (l ++ [x]) = nextF (sput F l) (fn x)
  | [], _, _ => rfl
  | _ :: l, _, x => sput_snoc l _ x
theorem Bd.sput {F : Nat → Int} : ∀ (l : List Sam) (k : Int), 0 ≤ k → Bd k F → Bd (k + l.length) (sput F l)
  | [], k, _, h => by
    have h' : Bd (k + ((0 : Nat) : Int)) F := by simpa using h
    exact h'
  | x :: l, k, hk, h => by
    have := Bd.sput (F := nextF F (fn x)) l (k + 1) (by omega) (h.next hk)
    rw [List.length_cons]
    have e : k + ((l.length + 1 : Nat) : Int) = k + 1 + (l.length : Int) := by omega
    rw [e]; exact this
theorem m3_new {w w0 w1 w2 : World} {a : Int} (k0 : Below w.heap.size w w0) (hb : Blk w1 w0.heap.size (rowA 10 (newS a)) 77) (k : Below w0.heap.size w0 w1) (hb2 : Blk w2 w1.heap.size (rowA 10 (newS a)) 45) (k2 : Below w1.heap.size w1 w2) :
    M3 w w2.heap.size w0.heap.size w1.heap.size (newS a) (newS a) 77 45 (w2.alloc (.cells #[.bool false] 29)) := by
  have h0 := k0.size
  have h1 := k.size
  have h2 := hb.lt
  have h3 := hb2.lt
  exact ⟨Fl.made _ _ _, (hb.below k2 hb.lt).alloc _, hb2.alloc _, ((k0.trans (k.mono k0.size)).trans (k2.mono (by omega))).alloc (by have := k2.size; omega) _, by omega, by omega, .inl (by omega), by omega, k0.size, by omega⟩
theorem M3.box {w W : World} {p A B : Nat} {F G : Nat → Int} {tA tB : TypeId} (m : M3 w p A B F G tA tB W) (o : Obj) (r : Array Value) : M3 w p A B F G tA tB ((W.alloc o).setRow W.heap.size r) :=
  ⟨fl_row (m.f.alloc o) (Nat.ne_of_lt m.f.lt) r, (m.a.alloc o).otherRow (Nat.ne_of_lt m.a.lt), (m.b.alloc o).otherRow (Nat.ne_of_lt m.b.lt), below_setRow (m.K.alloc m.K.size o) m.K.size _, m.d⟩
theorem imuFlat : SX.flatOk Try.prog 32 = some (List.replicate 8 true) := by kernel_rfl
theorem rq_neq {P : Program} {ops : Array Oper} {C : World → Prop} {Q : Act → Prop} {o : Oper} {rest : List Oper} {a : Act} (ty : TypeId) (x y : Operand) (t : TypeId) (n : Nat) (f : Nat → Int) (hf : SX.flatOk P ty = some (List.replicate n true)) (hw : Region.wanted o (yielded ops a.tmps) = true) (ho : o.op = .binOp .neq ty x y t)
    (hx : a.eval x = .agg (rowA n f)) (hy : a.eval y = .agg (rowA n f)) (hk : Rq P ops C Q rest (a.put o.dst (.bool false))) : Rq P ops C Q (o :: rest) a :=
  rq_pure _ hw (fun w => by
    unfold execOp
    simp only [ho, hx, hy, Sem.run_bind, Sem.run_pure, Result.andThen_ok, guard_row hf, neq_row hf, eqB_same, Bool.not_true]) hk
def actV (a : Int) (A B p gg oo n c k z z' : Nat) (tb : Bool) (te : Int) (R Y : Nat → Int) (u4 u52 u53 a75 a76 a77 a78 a79 a80 a81 a82 a83 a84 a85 a86 a87 a88 a89 a90 a91 a92 a93 a94 a95 a96 a97 a98 a99 a100 a101 a102 a103 a104 a105 a106 a107 a108 a109 a110 : Value) : Act := ⟨⟨Value.int IntKind.i64 a :: Value.slice (some ⟨gg, oo, none⟩) n c :: undef :: undef :: u4 :: Value.pointer (some ⟨A, 0, none⟩) :: Value.int IntKind.i64 0 :: Value.pointer (some ⟨B, 0, none⟩) :: Value.pointer (some ⟨p, 0, none⟩) :: Value.int IntKind.i64 (k : Nat) :: Value.pointer (some ⟨z, 0, none⟩) :: Value.bool tb :: Value.int IntKind.i64 te :: Value.pointer (some ⟨z', 0, none⟩) :: Value.bool tb :: Value.int IntKind.i64 te :: Value.bool true :: Value.bool false :: Value.tuple #[Value.pointer (some ⟨A, 0, none⟩), Value.int IntKind.i64 0] :: Value.int IntKind.i64 a :: Value.tuple #[Value.pointer (some ⟨A, 0, none⟩), Value.int IntKind.i64 0] :: Value.pointer (some ⟨A, 0, none⟩) :: Value.int IntKind.i64 0 :: Value.int IntKind.i64 a :: Value.bool (decide (a < 1000)) :: Value.bool (decide (a < 1000)) :: Value.int IntKind.i64 a :: Value.bool (decide (100000 < a)) :: Value.bool (decide (a < 1000) || decide (100000 < a)) :: undef :: undef :: undef :: undef :: undef :: undef :: Value.int IntKind.i64 0 :: Value.bool false :: Value.bool false :: Value.slice (some ⟨gg, oo, none⟩) n c :: Value.int IntKind.i64 (n : Nat) :: Value.bool (decide (100 < (n : Int))) :: Value.bool (decide (100 < (n : Int))) :: undef :: undef :: Value.int IntKind.i64 a :: Value.pointer (some ⟨B, 0, none⟩) :: Value.agg #[Value.bool false] :: Value.pointer (some ⟨p, 0, none⟩) :: Value.int IntKind.i64 (k : Nat) :: Value.slice (some ⟨gg, oo, none⟩) n c :: Value.int IntKind.i64 (n : Nat) :: Value.bool true :: u52 :: u53 :: Value.tuple #[Value.agg (rowA 8 (R)), Value.bool tb, Value.int IntKind.i64 te] :: Value.pointer (some ⟨A, 0, none⟩) :: Value.pointer (some ⟨p, 0, none⟩) :: Value.slice (some ⟨gg, oo, none⟩) n c :: Value.int IntKind.i64 (k : Nat) :: Value.pointer (some ⟨gg, oo + k * 8, none⟩) :: Value.agg (rowA 8 (Y)) :: Value.tuple #[Value.agg (rowA 8 (R)), Value.bool tb, Value.int IntKind.i64 te] :: Value.agg (rowA 8 (R)) :: Value.bool tb :: Value.int IntKind.i64 te :: Value.tuple #[Value.agg (rowA 8 (R)), Value.bool tb, Value.int IntKind.i64 te] :: Value.pointer (some ⟨B, 0, none⟩) :: Value.slice (some ⟨gg, oo, none⟩) n c :: Value.int IntKind.i64 (k : Nat) :: Value.pointer (some ⟨gg, oo + k * 8, none⟩) :: Value.agg (rowA 8 (Y)) :: Value.tuple #[Value.agg (rowA 8 (R)), Value.bool tb, Value.int IntKind.i64 te] :: Value.agg (rowA 8 (R)) :: Value.bool tb :: Value.int IntKind.i64 te :: a75 :: a76 :: a77 :: a78 :: a79 :: a80 :: a81 :: a82 :: a83 :: a84 :: a85 :: a86 :: a87 :: a88 :: a89 :: a90 :: a91 :: a92 :: a93 :: a94 :: a95 :: a96 :: a97 :: a98 :: a99 :: a100 :: a101 :: a102 :: a103 :: a104 :: a105 :: a106 :: a107 :: a108 :: a109 :: a110 :: undef :: undef :: undef :: undef :: undef :: []⟩, []⟩
set_option maxRecDepth 100000 in
set_option maxHeartbeats 32000000 in
theorem dplays_walk (a : Int) (ad : Option Addr) (n c : Nat) (l : List Sam) (w : World) (hl : Arg 8 w ad n l) : Calls Try.prog 4 #[.int .i64 a, .slice ad n c] w fun e w' => e = .returned (.bool true) ∧ Below w.heap.size w w' := by
  have hbig := hl.big
  go_enter Try.func4, Try.ntmps4
  go_wp2_with fail
  refine (dawake_any w).mono ?_
  rintro e w0 ⟨rfl, k0⟩
  have k0 := Lib.hid k0
  have HL := Lib.hid hl
  clear hl
  by_cases ha1 : a < 1000
  · go_wp2_with fail
    refine (dnew_bad a w0 (.inl ha1)).mono ?_
    rintro e w1 ⟨rfl, rfl⟩
    go_wp2_with fail
    go_ret
    exact ⟨rfl, k0.out⟩
  by_cases ha2 : 100000 < a
  · go_wp2_with fail
    refine (dnew_bad a w0 (.inr ha2)).mono ?_
    rintro e w1 ⟨rfl, rfl⟩
    go_wp2_with fail
    go_ret
    exact ⟨rfl, k0.out⟩
  go_wp2_with fail
  refine (dnew_any a w0 (by omega) (by omega)).mono ?_
  rintro e w1 ⟨rfl, hb1, k1⟩
  have k1 := Lib.hid k1
  have hb1 := Lib.hid hb1
  by_cases hn : n ≤ 100
  · have e1 : ¬ (100 : Int) < (n : Int) := by omega
    go_wp2_with fail
    refine (own_any14 a w1).mono ?_
    rintro e w2 ⟨rfl, hb2, k2⟩
    have m0 := Lib.hid (m3_new k0.out hb1.out k1.out hb2 k2)
    clear hb2 k2 hb1 k1
    go_wp2_with fail
    generalize w2.alloc _ = X0 at *
    generalize hp : w2.heap.size = p at *
    generalize hA : w0.heap.size = A at *
    generalize hB : w1.heap.size = B at *
    go_loopw [9] (fun i wr => ∃ k : Nat, k ≤ n ∧ i = .int .i64 k ∧ Hid (M3 w p A B (sput (newS a) (l.take k)) (sput (newS a) (l.take k)) 77 45 wr)) (fun i _ => n - (intOf i).toNat)
    case atStart => exact ⟨0, Nat.zero_le _, rfl, m0⟩
    case round =>
      clear m0
      obtain ⟨k, hk, rfl, m⟩ := hrel
      have hk0 : (0 : Int) ≤ (k : Int) := by omega
      by_cases hlt : k < n
      · have hltI : (k : Int) < (n : Int) := by omega
        obtain ⟨gg, oo, y, rfl, hy, hy8, hgw, hI0⟩ := HL.out.one hlt
        have hI := hI0.below m.out.K hgw
        have HI0 := Lib.hid hI0
        clear hI0
        have HY := Lib.hid hy
        clear hy
        have hbd : Bd k (sput (newS a) (l.take k)) := by
          have := (Bd.new a).sput (l.take k) 0 (by omega)
          rw [Int.zero_add, List.length_take, Nat.min_eq_left (by rw [HL.out.len]; exact hk)] at this
          exact this
        have HB := Lib.hid hbd
        have hsn : sput (newS a) (l.take (k + 1)) = nextF (sput (newS a) (l.take k)) (fn y) := by rw [take_snoc l k (by rw [HL.out.len]; exact hlt), sput_snoc, ← HY.out]
        have HS := Lib.hid hsn
        have hABne : A ≠ B := by
          rcases m.out.d.2.2.1 with h | ⟨_, _, h⟩
          · exact h
          · exact absurd h (by decide)
        clear hbd hsn
        generalize hF : sput (newS a) (l.take k) = F at *
        clear hF
        go_upto_region 14 with (first
          | ((with_reducible refine mid_load 32 (.tmp 59) ?_ ?_ gg (oo + k * 8) 8 (fn y) ?_ hI _ Try.underlying32 ?_ imuSize ?_); rfl; rfl; rfl; rfl)
          | (go_at_call 10; refine (m.out.put hABne HB.out (by omega) (fn y) _ rfl _ _ _ rfl rfl rfl).mono ?_; rintro e w3 ⟨rfl, m3, t3⟩; have hZ : Blk (w3.alloc (.cells #[.int .i64 0, .int .i64 0, .int .i64 0, .int .i64 0, .int .i64 0, .int .i64 0, .int .i64 0, .int .i64 0] 32)) w3.heap.size (rowA 8 fun _ => 0) 32 := Blk.made _ _ _ rfl)
          | ((with_reducible refine row_store 32 (.tmp 10) (.tmp 62) ?_ ?_ w3.heap.size 8 (toldR F (fn y)) (fun _ => 0) 32 ?_ ?_ hZ imuSize ?_); rfl; rfl; rfl; rfl))
        have m4 := Lib.hid (m3.box (.cells #[.int .i64 0, .int .i64 0, .int .i64 0, .int .i64 0, .int .i64 0, .int .i64 0, .int .i64 0, .int .i64 0] 32) (rowA 8 (toldR F (fn y))))
        have z4 := hZ.setRow (d := rowA 8 (toldR F (fn y)))
        have hAz : A < w3.heap.size := m3.a.lt
        have hBz : B < w3.heap.size := m3.b.lt
        have hpz : p < w3.heap.size := m3.f.lt
        clear hZ m3 t3 hI m
        generalize World.setRow _ w3.heap.size _ = X4 at *
        generalize w3.heap.size = z at *
        have hI4 := HI0.out.below m4.out.K hgw
        go_upto_region 15 with (first
          | ((with_reducible refine mid_load 32 (.tmp 69) ?_ ?_ gg (oo + k * 8) 8 (fn y) ?_ hI4 _ Try.underlying32 ?_ imuSize ?_); rfl; rfl; rfl; rfl)
          | (go_at_call 15; refine (m4.out.swap.rput (Ne.symm hABne) HB.out (by omega) (fn y) _ rfl).mono ?_; rintro e w5 ⟨rfl, m5, t5⟩; have hZ5 : Blk (w5.alloc (.cells #[.int .i64 0, .int .i64 0, .int .i64 0, .int .i64 0, .int .i64 0, .int .i64 0, .int .i64 0, .int .i64 0] 32)) w5.heap.size (rowA 8 fun _ => 0) 32 := Blk.made _ _ _ rfl)
          | ((with_reducible refine row_store 32 (.tmp 13) (.tmp 72) ?_ ?_ w5.heap.size 8 (toldR F (fn y)) (fun _ => 0) 32 ?_ ?_ hZ5 imuSize ?_); rfl; rfl; rfl; rfl))
        have m6 := Lib.hid (m5.swap.box (.cells #[.int .i64 0, .int .i64 0, .int .i64 0, .int .i64 0, .int .i64 0, .int .i64 0, .int .i64 0, .int .i64 0] 32) (rowA 8 (toldR F (fn y))))
        have z5 := t5.blk z4 (by simp; omega)
        have z6 := (z5.alloc (.cells #[.int .i64 0, .int .i64 0, .int .i64 0, .int .i64 0, .int .i64 0, .int .i64 0, .int .i64 0, .int .i64 0] 32)).otherRow (d := rowA 8 (toldR F (fn y))) (Nat.ne_of_lt z5.lt)
        have y6 := hZ5.setRow (d := rowA 8 (toldR F (fn y)))
        clear z4 z5 t5 m5 hZ5 hI4 m4
        generalize World.setRow _ w5.heap.size _ = X6 at *
        generalize w5.heap.size = z' at *
        have hI6 := HI0.out.below m6.out.K hgw
        have hg6 : gg < X6.heap.size := Nat.lt_of_lt_of_le hgw m6.out.K.size
        generalize told F (fn y) = tb at *
        generalize errI F (fn y) = te at *
        generalize hN : nextF F (fn y) = N at *
        change Code.wp _ _ _ ⟨_, _⟩ _
        refine rg_in (Below X6.heap.size X6) (by kernel_rfl) (by kernel_rfl) (Below.refl _ _).drew ?_
        refine rq_start ?_
        refine rq_as (b := actV a A B p gg oo n c k z z' tb te (toldR F (fn y)) (fn y) u4 u52 u53 u75 u76 u77 u78 u79 u80 u81 u82 u83 u84 u85 u86 u87 u88 u89 u90 u91 u92 u93 u94 u95 u96 u97 u98 u99 u100 u101 u102 u103 u104 u105 u106 u107 u108 u109 u110) (by kernel_rfl) ?_
        refine rq_row 32 (.tmp 10) z 8 (toldR F (fn y)) 32 _ (by kernel_rfl) rfl (by kernel_rfl) (fun w hc => z6.below hc z6.lt) Try.underlying32 rfl imuSize ?_
        refine rq_as (b := actV a A B p gg oo n c k z z' tb te (toldR F (fn y)) (fn y) u4 u52 u53 (.agg (rowA 8 (toldR F (fn y)))) u76 u77 u78 u79 u80 u81 u82 u83 u84 u85 u86 u87 u88 u89 u90 u91 u92 u93 u94 u95 u96 u97 u98 u99 u100 u101 u102 u103 u104 u105 u106 u107 u108 u109 u110) (by kernel_rfl) ?_
        refine rq_row 32 (.tmp 13) z' 8 (toldR F (fn y)) 32 _ (by kernel_rfl) rfl (by kernel_rfl) (fun w hc => y6.below hc y6.lt) Try.underlying32 rfl imuSize ?_
        refine rq_as (b := actV a A B p gg oo n c k z z' tb te (toldR F (fn y)) (fn y) u4 u52 u53 (.agg (rowA 8 (toldR F (fn y)))) (.agg (rowA 8 (toldR F (fn y)))) u77 u78 u79 u80 u81 u82 u83 u84 u85 u86 u87 u88 u89 u90 u91 u92 u93 u94 u95 u96 u97 u98 u99 u100 u101 u102 u103 u104 u105 u106 u107 u108 u109 u110) (by kernel_rfl) ?_
        refine rq_neq 32 (.tmp 75) (.tmp 76) 32 8 (toldR F (fn y)) imuFlat (by kernel_rfl) rfl (by kernel_rfl) (by kernel_rfl) ?_
        refine rq_as (b := actV a A B p gg oo n c k z z' tb te (toldR F (fn y)) (fn y) u4 u52 u53 (.agg (rowA 8 (toldR F (fn y)))) (.agg (rowA 8 (toldR F (fn y)))) (.bool false) u78 u79 u80 u81 u82 u83 u84 u85 u86 u87 u88 u89 u90 u91 u92 u93 u94 u95 u96 u97 u98 u99 u100 u101 u102 u103 u104 u105 u106 u107 u108 u109 u110) (by kernel_rfl) ?_
        refine rq_pure (.bool false) (by kernel_rfl) (fun _ => by kernel_rfl) ?_
        refine rq_as (b := actV a A B p gg oo n c k z z' tb te (toldR F (fn y)) (fn y) u4 u52 u53 (.agg (rowA 8 (toldR F (fn y)))) (.agg (rowA 8 (toldR F (fn y)))) (.bool false) (.bool false) u79 u80 u81 u82 u83 u84 u85 u86 u87 u88 u89 u90 u91 u92 u93 u94 u95 u96 u97 u98 u99 u100 u101 u102 u103 u104 u105 u106 u107 u108 u109 u110) (by kernel_rfl) ?_
        refine rq_pure (.bool tb) (by kernel_rfl) (fun _ => by kernel_rfl) ?_
        refine rq_as (b := actV a A B p gg oo n c k z z' tb te (toldR F (fn y)) (fn y) u4 u52 u53 (.agg (rowA 8 (toldR F (fn y)))) (.agg (rowA 8 (toldR F (fn y)))) (.bool false) (.bool false) (.bool tb) u80 u81 u82 u83 u84 u85 u86 u87 u88 u89 u90 u91 u92 u93 u94 u95 u96 u97 u98 u99 u100 u101 u102 u103 u104 u105 u106 u107 u108 u109 u110) (by kernel_rfl) ?_
        refine rq_pure (.bool tb) (by kernel_rfl) (fun _ => by kernel_rfl) ?_
        refine rq_as (b := actV a A B p gg oo n c k z z' tb te (toldR F (fn y)) (fn y) u4 u52 u53 (.agg (rowA 8 (toldR F (fn y)))) (.agg (rowA 8 (toldR F (fn y)))) (.bool false) (.bool false) (.bool tb) (.bool tb) u81 u82 u83 u84 u85 u86 u87 u88 u89 u90 u91 u92 u93 u94 u95 u96 u97 u98 u99 u100 u101 u102 u103 u104 u105 u106 u107 u108 u109 u110) (by kernel_rfl) ?_
        refine rq_in (.bool false) (by kernel_rfl) (fun w _ => by cases tb <;> kernel_rfl) ?_
        refine rq_as (b := actV a A B p gg oo n c k z z' tb te (toldR F (fn y)) (fn y) u4 u52 u53 (.agg (rowA 8 (toldR F (fn y)))) (.agg (rowA 8 (toldR F (fn y)))) (.bool false) (.bool false) (.bool tb) (.bool tb) (.bool false) u82 u83 u84 u85 u86 u87 u88 u89 u90 u91 u92 u93 u94 u95 u96 u97 u98 u99 u100 u101 u102 u103 u104 u105 u106 u107 u108 u109 u110) (by kernel_rfl) ?_
        refine rq_pure (.bool false) (by kernel_rfl) (fun _ => by kernel_rfl) ?_
        refine rq_as (b := actV a A B p gg oo n c k z z' tb te (toldR F (fn y)) (fn y) u4 u52 u53 (.agg (rowA 8 (toldR F (fn y)))) (.agg (rowA 8 (toldR F (fn y)))) (.bool false) (.bool false) (.bool tb) (.bool tb) (.bool false) (.bool false) u83 u84 u85 u86 u87 u88 u89 u90 u91 u92 u93 u94 u95 u96 u97 u98 u99 u100 u101 u102 u103 u104 u105 u106 u107 u108 u109 u110) (by kernel_rfl) ?_
        refine rq_pure (.bool false) (by kernel_rfl) (fun _ => by kernel_rfl) ?_
        refine rq_as (b := actV a A B p gg oo n c k z z' tb te (toldR F (fn y)) (fn y) u4 u52 u53 (.agg (rowA 8 (toldR F (fn y)))) (.agg (rowA 8 (toldR F (fn y)))) (.bool false) (.bool false) (.bool tb) (.bool tb) (.bool false) (.bool false) (.bool false) u84 u85 u86 u87 u88 u89 u90 u91 u92 u93 u94 u95 u96 u97 u98 u99 u100 u101 u102 u103 u104 u105 u106 u107 u108 u109 u110) (by kernel_rfl) ?_
        refine rq_pure (.int .i64 te) (by kernel_rfl) (fun _ => by kernel_rfl) ?_
        refine rq_as (b := actV a A B p gg oo n c k z z' tb te (toldR F (fn y)) (fn y) u4 u52 u53 (.agg (rowA 8 (toldR F (fn y)))) (.agg (rowA 8 (toldR F (fn y)))) (.bool false) (.bool false) (.bool tb) (.bool tb) (.bool false) (.bool false) (.bool false) (.int .i64 te) u85 u86 u87 u88 u89 u90 u91 u92 u93 u94 u95 u96 u97 u98 u99 u100 u101 u102 u103 u104 u105 u106 u107 u108 u109 u110) (by kernel_rfl) ?_
        refine rq_pure (.int .i64 te) (by kernel_rfl) (fun _ => by kernel_rfl) ?_
        refine rq_as (b := actV a A B p gg oo n c k z z' tb te (toldR F (fn y)) (fn y) u4 u52 u53 (.agg (rowA 8 (toldR F (fn y)))) (.agg (rowA 8 (toldR F (fn y)))) (.bool false) (.bool false) (.bool tb) (.bool tb) (.bool false) (.bool false) (.bool false) (.int .i64 te) (.int .i64 te) u86 u87 u88 u89 u90 u91 u92 u93 u94 u95 u96 u97 u98 u99 u100 u101 u102 u103 u104 u105 u106 u107 u108 u109 u110) (by kernel_rfl) ?_
        refine rq_in (.bool false) (by kernel_rfl) (fun w hc => by unfold actV; go_simp) ?_
        refine rq_as (b := actV a A B p gg oo n c k z z' tb te (toldR F (fn y)) (fn y) u4 u52 u53 (.agg (rowA 8 (toldR F (fn y)))) (.agg (rowA 8 (toldR F (fn y)))) (.bool false) (.bool false) (.bool tb) (.bool tb) (.bool false) (.bool false) (.bool false) (.int .i64 te) (.int .i64 te) (.bool false) u87 u88 u89 u90 u91 u92 u93 u94 u95 u96 u97 u98 u99 u100 u101 u102 u103 u104 u105 u106 u107 u108 u109 u110) (by kernel_rfl) ?_
        refine rq_pure (.bool false) (by kernel_rfl) (fun _ => by kernel_rfl) ?_
        refine rq_as (b := actV a A B p gg oo n c k z z' tb te (toldR F (fn y)) (fn y) u4 u52 u53 (.agg (rowA 8 (toldR F (fn y)))) (.agg (rowA 8 (toldR F (fn y)))) (.bool false) (.bool false) (.bool tb) (.bool tb) (.bool false) (.bool false) (.bool false) (.int .i64 te) (.int .i64 te) (.bool false) (.bool false) u88 u89 u90 u91 u92 u93 u94 u95 u96 u97 u98 u99 u100 u101 u102 u103 u104 u105 u106 u107 u108 u109 u110) (by kernel_rfl) ?_
        refine rq_pure (.bool false) (by kernel_rfl) (fun _ => by kernel_rfl) ?_
        refine rq_as (b := actV a A B p gg oo n c k z z' tb te (toldR F (fn y)) (fn y) u4 u52 u53 (.agg (rowA 8 (toldR F (fn y)))) (.agg (rowA 8 (toldR F (fn y)))) (.bool false) (.bool false) (.bool tb) (.bool tb) (.bool false) (.bool false) (.bool false) (.int .i64 te) (.int .i64 te) (.bool false) (.bool false) (.bool false) u89 u90 u91 u92 u93 u94 u95 u96 u97 u98 u99 u100 u101 u102 u103 u104 u105 u106 u107 u108 u109 u110) (by kernel_rfl) ?_
        refine rq_pure (.pointer (some ⟨A, 0, none⟩)) (by kernel_rfl) (fun _ => by kernel_rfl) ?_
        refine rq_as (b := actV a A B p gg oo n c k z z' tb te (toldR F (fn y)) (fn y) u4 u52 u53 (.agg (rowA 8 (toldR F (fn y)))) (.agg (rowA 8 (toldR F (fn y)))) (.bool false) (.bool false) (.bool tb) (.bool tb) (.bool false) (.bool false) (.bool false) (.int .i64 te) (.int .i64 te) (.bool false) (.bool false) (.bool false) (.pointer (some ⟨A, 0, none⟩)) u90 u91 u92 u93 u94 u95 u96 u97 u98 u99 u100 u101 u102 u103 u104 u105 u106 u107 u108 u109 u110) (by kernel_rfl) ?_
        refine rq_call (.int .i64 (N 3)) 13 #[.pointer (some ⟨A, 0, none⟩)] (by kernel_rfl) (fun _ => by kernel_rfl) (fun w hc => ((m6.out.call hc).pending _ rfl).mono fun e w' ⟨he, hb⟩ => ⟨he, hb ▸ hc⟩) ?_
        refine rq_as (b := actV a A B p gg oo n c k z z' tb te (toldR F (fn y)) (fn y) u4 u52 u53 (.agg (rowA 8 (toldR F (fn y)))) (.agg (rowA 8 (toldR F (fn y)))) (.bool false) (.bool false) (.bool tb) (.bool tb) (.bool false) (.bool false) (.bool false) (.int .i64 te) (.int .i64 te) (.bool false) (.bool false) (.bool false) (.pointer (some ⟨A, 0, none⟩)) (.int .i64 (N 3)) u91 u92 u93 u94 u95 u96 u97 u98 u99 u100 u101 u102 u103 u104 u105 u106 u107 u108 u109 u110) (by kernel_rfl) ?_
        refine rq_pure (.pointer (some ⟨B, 0, none⟩)) (by kernel_rfl) (fun _ => by kernel_rfl) ?_
        refine rq_as (b := actV a A B p gg oo n c k z z' tb te (toldR F (fn y)) (fn y) u4 u52 u53 (.agg (rowA 8 (toldR F (fn y)))) (.agg (rowA 8 (toldR F (fn y)))) (.bool false) (.bool false) (.bool tb) (.bool tb) (.bool false) (.bool false) (.bool false) (.int .i64 te) (.int .i64 te) (.bool false) (.bool false) (.bool false) (.pointer (some ⟨A, 0, none⟩)) (.int .i64 (N 3)) (.pointer (some ⟨B, 0, none⟩)) u92 u93 u94 u95 u96 u97 u98 u99 u100 u101 u102 u103 u104 u105 u106 u107 u108 u109 u110) (by kernel_rfl) ?_
        refine rq_pure (.pointer (some ⟨B, 0, none⟩)) (by kernel_rfl) (fun _ => by kernel_rfl) ?_
        refine rq_as (b := actV a A B p gg oo n c k z z' tb te (toldR F (fn y)) (fn y) u4 u52 u53 (.agg (rowA 8 (toldR F (fn y)))) (.agg (rowA 8 (toldR F (fn y)))) (.bool false) (.bool false) (.bool tb) (.bool tb) (.bool false) (.bool false) (.bool false) (.int .i64 te) (.int .i64 te) (.bool false) (.bool false) (.bool false) (.pointer (some ⟨A, 0, none⟩)) (.int .i64 (N 3)) (.pointer (some ⟨B, 0, none⟩)) (.pointer (some ⟨B, 0, none⟩)) u93 u94 u95 u96 u97 u98 u99 u100 u101 u102 u103 u104 u105 u106 u107 u108 u109 u110) (by kernel_rfl) ?_
        refine rq_pure (.pointer (some ⟨B, 2, none⟩)) (by kernel_rfl) (fun _ => by kernel_rfl) ?_
        refine rq_as (b := actV a A B p gg oo n c k z z' tb te (toldR F (fn y)) (fn y) u4 u52 u53 (.agg (rowA 8 (toldR F (fn y)))) (.agg (rowA 8 (toldR F (fn y)))) (.bool false) (.bool false) (.bool tb) (.bool tb) (.bool false) (.bool false) (.bool false) (.int .i64 te) (.int .i64 te) (.bool false) (.bool false) (.bool false) (.pointer (some ⟨A, 0, none⟩)) (.int .i64 (N 3)) (.pointer (some ⟨B, 0, none⟩)) (.pointer (some ⟨B, 0, none⟩)) (.pointer (some ⟨B, 2, none⟩)) u94 u95 u96 u97 u98 u99 u100 u101 u102 u103 u104 u105 u106 u107 u108 u109 u110) (by kernel_rfl) ?_
        refine rq_pure (.pointer (some ⟨B, 3, none⟩)) (by kernel_rfl) (fun _ => by kernel_rfl) ?_
        refine rq_as (b := actV a A B p gg oo n c k z z' tb te (toldR F (fn y)) (fn y) u4 u52 u53 (.agg (rowA 8 (toldR F (fn y)))) (.agg (rowA 8 (toldR F (fn y)))) (.bool false) (.bool false) (.bool tb) (.bool tb) (.bool false) (.bool false) (.bool false) (.int .i64 te) (.int .i64 te) (.bool false) (.bool false) (.bool false) (.pointer (some ⟨A, 0, none⟩)) (.int .i64 (N 3)) (.pointer (some ⟨B, 0, none⟩)) (.pointer (some ⟨B, 0, none⟩)) (.pointer (some ⟨B, 2, none⟩)) (.pointer (some ⟨B, 3, none⟩)) u95 u96 u97 u98 u99 u100 u101 u102 u103 u104 u105 u106 u107 u108 u109 u110) (by kernel_rfl) ?_
        refine rq_i64 (.tmp 94) B 3 (N 3) (by kernel_rfl) rfl (by kernel_rfl) (fun w hc => (m6.out.call hc).b.cell 3) ?_
        refine rq_as (b := actV a A B p gg oo n c k z z' tb te (toldR F (fn y)) (fn y) u4 u52 u53 (.agg (rowA 8 (toldR F (fn y)))) (.agg (rowA 8 (toldR F (fn y)))) (.bool false) (.bool false) (.bool tb) (.bool tb) (.bool false) (.bool false) (.bool false) (.int .i64 te) (.int .i64 te) (.bool false) (.bool false) (.bool false) (.pointer (some ⟨A, 0, none⟩)) (.int .i64 (N 3)) (.pointer (some ⟨B, 0, none⟩)) (.pointer (some ⟨B, 0, none⟩)) (.pointer (some ⟨B, 2, none⟩)) (.pointer (some ⟨B, 3, none⟩)) (.int .i64 (N 3)) u96 u97 u98 u99 u100 u101 u102 u103 u104 u105 u106 u107 u108 u109 u110) (by kernel_rfl) ?_
        refine rq_in (.bool false) (by kernel_rfl) (fun w hc => by unfold actV; go_simp) ?_
        refine rq_as (b := actV a A B p gg oo n c k z z' tb te (toldR F (fn y)) (fn y) u4 u52 u53 (.agg (rowA 8 (toldR F (fn y)))) (.agg (rowA 8 (toldR F (fn y)))) (.bool false) (.bool false) (.bool tb) (.bool tb) (.bool false) (.bool false) (.bool false) (.int .i64 te) (.int .i64 te) (.bool false) (.bool false) (.bool false) (.pointer (some ⟨A, 0, none⟩)) (.int .i64 (N 3)) (.pointer (some ⟨B, 0, none⟩)) (.pointer (some ⟨B, 0, none⟩)) (.pointer (some ⟨B, 2, none⟩)) (.pointer (some ⟨B, 3, none⟩)) (.int .i64 (N 3)) (.bool false) u97 u98 u99 u100 u101 u102 u103 u104 u105 u106 u107 u108 u109 u110) (by kernel_rfl) ?_
        refine rq_pure (.bool false) (by kernel_rfl) (fun _ => by kernel_rfl) ?_
        refine rq_as (b := actV a A B p gg oo n c k z z' tb te (toldR F (fn y)) (fn y) u4 u52 u53 (.agg (rowA 8 (toldR F (fn y)))) (.agg (rowA 8 (toldR F (fn y)))) (.bool false) (.bool false) (.bool tb) (.bool tb) (.bool false) (.bool false) (.bool false) (.int .i64 te) (.int .i64 te) (.bool false) (.bool false) (.bool false) (.pointer (some ⟨A, 0, none⟩)) (.int .i64 (N 3)) (.pointer (some ⟨B, 0, none⟩)) (.pointer (some ⟨B, 0, none⟩)) (.pointer (some ⟨B, 2, none⟩)) (.pointer (some ⟨B, 3, none⟩)) (.int .i64 (N 3)) (.bool false) (.bool false) u98 u99 u100 u101 u102 u103 u104 u105 u106 u107 u108 u109 u110) (by kernel_rfl) ?_
        refine rq_pure (.bool false) (by kernel_rfl) (fun _ => by kernel_rfl) ?_
        refine rq_as (b := actV a A B p gg oo n c k z z' tb te (toldR F (fn y)) (fn y) u4 u52 u53 (.agg (rowA 8 (toldR F (fn y)))) (.agg (rowA 8 (toldR F (fn y)))) (.bool false) (.bool false) (.bool tb) (.bool tb) (.bool false) (.bool false) (.bool false) (.int .i64 te) (.int .i64 te) (.bool false) (.bool false) (.bool false) (.pointer (some ⟨A, 0, none⟩)) (.int .i64 (N 3)) (.pointer (some ⟨B, 0, none⟩)) (.pointer (some ⟨B, 0, none⟩)) (.pointer (some ⟨B, 2, none⟩)) (.pointer (some ⟨B, 3, none⟩)) (.int .i64 (N 3)) (.bool false) (.bool false) (.bool false) u99 u100 u101 u102 u103 u104 u105 u106 u107 u108 u109 u110) (by kernel_rfl) ?_
        refine rq_pure (.slice (some ⟨gg, oo, none⟩) n c) (by kernel_rfl) (fun _ => by kernel_rfl) ?_
        refine rq_as (b := actV a A B p gg oo n c k z z' tb te (toldR F (fn y)) (fn y) u4 u52 u53 (.agg (rowA 8 (toldR F (fn y)))) (.agg (rowA 8 (toldR F (fn y)))) (.bool false) (.bool false) (.bool tb) (.bool tb) (.bool false) (.bool false) (.bool false) (.int .i64 te) (.int .i64 te) (.bool false) (.bool false) (.bool false) (.pointer (some ⟨A, 0, none⟩)) (.int .i64 (N 3)) (.pointer (some ⟨B, 0, none⟩)) (.pointer (some ⟨B, 0, none⟩)) (.pointer (some ⟨B, 2, none⟩)) (.pointer (some ⟨B, 3, none⟩)) (.int .i64 (N 3)) (.bool false) (.bool false) (.bool false) (.slice (some ⟨gg, oo, none⟩) n c) u100 u101 u102 u103 u104 u105 u106 u107 u108 u109 u110) (by kernel_rfl) ?_
        refine rq_pure (.int .i64 (k : Nat)) (by kernel_rfl) (fun _ => by kernel_rfl) ?_
        refine rq_as (b := actV a A B p gg oo n c k z z' tb te (toldR F (fn y)) (fn y) u4 u52 u53 (.agg (rowA 8 (toldR F (fn y)))) (.agg (rowA 8 (toldR F (fn y)))) (.bool false) (.bool false) (.bool tb) (.bool tb) (.bool false) (.bool false) (.bool false) (.int .i64 te) (.int .i64 te) (.bool false) (.bool false) (.bool false) (.pointer (some ⟨A, 0, none⟩)) (.int .i64 (N 3)) (.pointer (some ⟨B, 0, none⟩)) (.pointer (some ⟨B, 0, none⟩)) (.pointer (some ⟨B, 2, none⟩)) (.pointer (some ⟨B, 3, none⟩)) (.int .i64 (N 3)) (.bool false) (.bool false) (.bool false) (.slice (some ⟨gg, oo, none⟩) n c) (.int .i64 (k : Nat)) u101 u102 u103 u104 u105 u106 u107 u108 u109 u110) (by kernel_rfl) ?_
        refine rq_in (.pointer (some ⟨gg, oo + k * 8, none⟩)) (by kernel_rfl) (fun w hc => by unfold actV; go_simp) ?_
        refine rq_as (b := actV a A B p gg oo n c k z z' tb te (toldR F (fn y)) (fn y) u4 u52 u53 (.agg (rowA 8 (toldR F (fn y)))) (.agg (rowA 8 (toldR F (fn y)))) (.bool false) (.bool false) (.bool tb) (.bool tb) (.bool false) (.bool false) (.bool false) (.int .i64 te) (.int .i64 te) (.bool false) (.bool false) (.bool false) (.pointer (some ⟨A, 0, none⟩)) (.int .i64 (N 3)) (.pointer (some ⟨B, 0, none⟩)) (.pointer (some ⟨B, 0, none⟩)) (.pointer (some ⟨B, 2, none⟩)) (.pointer (some ⟨B, 3, none⟩)) (.int .i64 (N 3)) (.bool false) (.bool false) (.bool false) (.slice (some ⟨gg, oo, none⟩) n c) (.int .i64 (k : Nat)) (.pointer (some ⟨gg, oo + k * 8, none⟩)) u102 u103 u104 u105 u106 u107 u108 u109 u110) (by kernel_rfl) ?_
        refine rq_mid 32 (.tmp 101) gg (oo + k * 8) 8 (fn y) _ (by kernel_rfl) rfl (by kernel_rfl) (fun w hc => hI6.below hc hg6) Try.underlying32 rfl imuSize ?_
        refine rq_as (b := actV a A B p gg oo n c k z z' tb te (toldR F (fn y)) (fn y) u4 u52 u53 (.agg (rowA 8 (toldR F (fn y)))) (.agg (rowA 8 (toldR F (fn y)))) (.bool false) (.bool false) (.bool tb) (.bool tb) (.bool false) (.bool false) (.bool false) (.int .i64 te) (.int .i64 te) (.bool false) (.bool false) (.bool false) (.pointer (some ⟨A, 0, none⟩)) (.int .i64 (N 3)) (.pointer (some ⟨B, 0, none⟩)) (.pointer (some ⟨B, 0, none⟩)) (.pointer (some ⟨B, 2, none⟩)) (.pointer (some ⟨B, 3, none⟩)) (.int .i64 (N 3)) (.bool false) (.bool false) (.bool false) (.slice (some ⟨gg, oo, none⟩) n c) (.int .i64 (k : Nat)) (.pointer (some ⟨gg, oo + k * 8, none⟩)) (.agg (rowA 8 (fn y))) u103 u104 u105 u106 u107 u108 u109 u110) (by kernel_rfl) ?_
        refine rq_call (.bool (okI (fn y))) 12 #[.agg (rowA 8 (fn y))] (by kernel_rfl) (fun _ => by kernel_rfl) (fun w hc => (goodr (fn y) _ w rfl).mono fun e w' ⟨he, hb⟩ => ⟨he, hc.trans (hb.mono hc.size)⟩) ?_
        refine rq_as (b := actV a A B p gg oo n c k z z' tb te (toldR F (fn y)) (fn y) u4 u52 u53 (.agg (rowA 8 (toldR F (fn y)))) (.agg (rowA 8 (toldR F (fn y)))) (.bool false) (.bool false) (.bool tb) (.bool tb) (.bool false) (.bool false) (.bool false) (.int .i64 te) (.int .i64 te) (.bool false) (.bool false) (.bool false) (.pointer (some ⟨A, 0, none⟩)) (.int .i64 (N 3)) (.pointer (some ⟨B, 0, none⟩)) (.pointer (some ⟨B, 0, none⟩)) (.pointer (some ⟨B, 2, none⟩)) (.pointer (some ⟨B, 3, none⟩)) (.int .i64 (N 3)) (.bool false) (.bool false) (.bool false) (.slice (some ⟨gg, oo, none⟩) n c) (.int .i64 (k : Nat)) (.pointer (some ⟨gg, oo + k * 8, none⟩)) (.agg (rowA 8 (fn y))) (.bool (okI (fn y))) u104 u105 u106 u107 u108 u109 u110) (by kernel_rfl) ?_
        refine rq_pure (.slice (some ⟨gg, oo, none⟩) n c) (by kernel_rfl) (fun _ => by kernel_rfl) ?_
        refine rq_as (b := actV a A B p gg oo n c k z z' tb te (toldR F (fn y)) (fn y) u4 u52 u53 (.agg (rowA 8 (toldR F (fn y)))) (.agg (rowA 8 (toldR F (fn y)))) (.bool false) (.bool false) (.bool tb) (.bool tb) (.bool false) (.bool false) (.bool false) (.int .i64 te) (.int .i64 te) (.bool false) (.bool false) (.bool false) (.pointer (some ⟨A, 0, none⟩)) (.int .i64 (N 3)) (.pointer (some ⟨B, 0, none⟩)) (.pointer (some ⟨B, 0, none⟩)) (.pointer (some ⟨B, 2, none⟩)) (.pointer (some ⟨B, 3, none⟩)) (.int .i64 (N 3)) (.bool false) (.bool false) (.bool false) (.slice (some ⟨gg, oo, none⟩) n c) (.int .i64 (k : Nat)) (.pointer (some ⟨gg, oo + k * 8, none⟩)) (.agg (rowA 8 (fn y))) (.bool (okI (fn y))) (.slice (some ⟨gg, oo, none⟩) n c) u105 u106 u107 u108 u109 u110) (by kernel_rfl) ?_
        refine rq_pure (.int .i64 (k : Nat)) (by kernel_rfl) (fun _ => by kernel_rfl) ?_
        refine rq_as (b := actV a A B p gg oo n c k z z' tb te (toldR F (fn y)) (fn y) u4 u52 u53 (.agg (rowA 8 (toldR F (fn y)))) (.agg (rowA 8 (toldR F (fn y)))) (.bool false) (.bool false) (.bool tb) (.bool tb) (.bool false) (.bool false) (.bool false) (.int .i64 te) (.int .i64 te) (.bool false) (.bool false) (.bool false) (.pointer (some ⟨A, 0, none⟩)) (.int .i64 (N 3)) (.pointer (some ⟨B, 0, none⟩)) (.pointer (some ⟨B, 0, none⟩)) (.pointer (some ⟨B, 2, none⟩)) (.pointer (some ⟨B, 3, none⟩)) (.int .i64 (N 3)) (.bool false) (.bool false) (.bool false) (.slice (some ⟨gg, oo, none⟩) n c) (.int .i64 (k : Nat)) (.pointer (some ⟨gg, oo + k * 8, none⟩)) (.agg (rowA 8 (fn y))) (.bool (okI (fn y))) (.slice (some ⟨gg, oo, none⟩) n c) (.int .i64 (k : Nat)) u106 u107 u108 u109 u110) (by kernel_rfl) ?_
        refine rq_in (.pointer (some ⟨gg, oo + k * 8, none⟩)) (by kernel_rfl) (fun w hc => by unfold actV; go_simp) ?_
        refine rq_as (b := actV a A B p gg oo n c k z z' tb te (toldR F (fn y)) (fn y) u4 u52 u53 (.agg (rowA 8 (toldR F (fn y)))) (.agg (rowA 8 (toldR F (fn y)))) (.bool false) (.bool false) (.bool tb) (.bool tb) (.bool false) (.bool false) (.bool false) (.int .i64 te) (.int .i64 te) (.bool false) (.bool false) (.bool false) (.pointer (some ⟨A, 0, none⟩)) (.int .i64 (N 3)) (.pointer (some ⟨B, 0, none⟩)) (.pointer (some ⟨B, 0, none⟩)) (.pointer (some ⟨B, 2, none⟩)) (.pointer (some ⟨B, 3, none⟩)) (.int .i64 (N 3)) (.bool false) (.bool false) (.bool false) (.slice (some ⟨gg, oo, none⟩) n c) (.int .i64 (k : Nat)) (.pointer (some ⟨gg, oo + k * 8, none⟩)) (.agg (rowA 8 (fn y))) (.bool (okI (fn y))) (.slice (some ⟨gg, oo, none⟩) n c) (.int .i64 (k : Nat)) (.pointer (some ⟨gg, oo + k * 8, none⟩)) u107 u108 u109 u110) (by kernel_rfl) ?_
        refine rq_mid 32 (.tmp 106) gg (oo + k * 8) 8 (fn y) _ (by kernel_rfl) rfl (by kernel_rfl) (fun w hc => hI6.below hc hg6) Try.underlying32 rfl imuSize ?_
        refine rq_as (b := actV a A B p gg oo n c k z z' tb te (toldR F (fn y)) (fn y) u4 u52 u53 (.agg (rowA 8 (toldR F (fn y)))) (.agg (rowA 8 (toldR F (fn y)))) (.bool false) (.bool false) (.bool tb) (.bool tb) (.bool false) (.bool false) (.bool false) (.int .i64 te) (.int .i64 te) (.bool false) (.bool false) (.bool false) (.pointer (some ⟨A, 0, none⟩)) (.int .i64 (N 3)) (.pointer (some ⟨B, 0, none⟩)) (.pointer (some ⟨B, 0, none⟩)) (.pointer (some ⟨B, 2, none⟩)) (.pointer (some ⟨B, 3, none⟩)) (.int .i64 (N 3)) (.bool false) (.bool false) (.bool false) (.slice (some ⟨gg, oo, none⟩) n c) (.int .i64 (k : Nat)) (.pointer (some ⟨gg, oo + k * 8, none⟩)) (.agg (rowA 8 (fn y))) (.bool (okI (fn y))) (.slice (some ⟨gg, oo, none⟩) n c) (.int .i64 (k : Nat)) (.pointer (some ⟨gg, oo + k * 8, none⟩)) (.agg (rowA 8 (fn y))) u108 u109 u110) (by kernel_rfl) ?_
        refine rq_call (.bool (okI (fn y))) 16 #[.agg (rowA 8 (fn y))] (by kernel_rfl) (fun _ => by kernel_rfl) (fun w hc => (rgoodr (fn y) _ w rfl).mono fun e w' ⟨he, hb⟩ => ⟨he, hc.trans (hb.mono hc.size)⟩) ?_
        refine rq_as (b := actV a A B p gg oo n c k z z' tb te (toldR F (fn y)) (fn y) u4 u52 u53 (.agg (rowA 8 (toldR F (fn y)))) (.agg (rowA 8 (toldR F (fn y)))) (.bool false) (.bool false) (.bool tb) (.bool tb) (.bool false) (.bool false) (.bool false) (.int .i64 te) (.int .i64 te) (.bool false) (.bool false) (.bool false) (.pointer (some ⟨A, 0, none⟩)) (.int .i64 (N 3)) (.pointer (some ⟨B, 0, none⟩)) (.pointer (some ⟨B, 0, none⟩)) (.pointer (some ⟨B, 2, none⟩)) (.pointer (some ⟨B, 3, none⟩)) (.int .i64 (N 3)) (.bool false) (.bool false) (.bool false) (.slice (some ⟨gg, oo, none⟩) n c) (.int .i64 (k : Nat)) (.pointer (some ⟨gg, oo + k * 8, none⟩)) (.agg (rowA 8 (fn y))) (.bool (okI (fn y))) (.slice (some ⟨gg, oo, none⟩) n c) (.int .i64 (k : Nat)) (.pointer (some ⟨gg, oo + k * 8, none⟩)) (.agg (rowA 8 (fn y))) (.bool (okI (fn y))) u109 u110) (by kernel_rfl) ?_
        refine rq_in (.bool false) (by kernel_rfl) (fun w _ => by generalize okI (fn y) = g; cases g <;> kernel_rfl) ?_
        refine rq_as (b := actV a A B p gg oo n c k z z' tb te (toldR F (fn y)) (fn y) u4 u52 u53 (.agg (rowA 8 (toldR F (fn y)))) (.agg (rowA 8 (toldR F (fn y)))) (.bool false) (.bool false) (.bool tb) (.bool tb) (.bool false) (.bool false) (.bool false) (.int .i64 te) (.int .i64 te) (.bool false) (.bool false) (.bool false) (.pointer (some ⟨A, 0, none⟩)) (.int .i64 (N 3)) (.pointer (some ⟨B, 0, none⟩)) (.pointer (some ⟨B, 0, none⟩)) (.pointer (some ⟨B, 2, none⟩)) (.pointer (some ⟨B, 3, none⟩)) (.int .i64 (N 3)) (.bool false) (.bool false) (.bool false) (.slice (some ⟨gg, oo, none⟩) n c) (.int .i64 (k : Nat)) (.pointer (some ⟨gg, oo + k * 8, none⟩)) (.agg (rowA 8 (fn y))) (.bool (okI (fn y))) (.slice (some ⟨gg, oo, none⟩) n c) (.int .i64 (k : Nat)) (.pointer (some ⟨gg, oo + k * 8, none⟩)) (.agg (rowA 8 (fn y))) (.bool (okI (fn y))) (.bool false) u110) (by kernel_rfl) ?_
        refine rq_pure (.bool false) (by kernel_rfl) (fun _ => by kernel_rfl) ?_
        refine rq_as (b := actV a A B p gg oo n c k z z' tb te (toldR F (fn y)) (fn y) u4 u52 u53 (.agg (rowA 8 (toldR F (fn y)))) (.agg (rowA 8 (toldR F (fn y)))) (.bool false) (.bool false) (.bool tb) (.bool tb) (.bool false) (.bool false) (.bool false) (.int .i64 te) (.int .i64 te) (.bool false) (.bool false) (.bool false) (.pointer (some ⟨A, 0, none⟩)) (.int .i64 (N 3)) (.pointer (some ⟨B, 0, none⟩)) (.pointer (some ⟨B, 0, none⟩)) (.pointer (some ⟨B, 2, none⟩)) (.pointer (some ⟨B, 3, none⟩)) (.int .i64 (N 3)) (.bool false) (.bool false) (.bool false) (.slice (some ⟨gg, oo, none⟩) n c) (.int .i64 (k : Nat)) (.pointer (some ⟨gg, oo + k * 8, none⟩)) (.agg (rowA 8 (fn y))) (.bool (okI (fn y))) (.slice (some ⟨gg, oo, none⟩) n c) (.int .i64 (k : Nat)) (.pointer (some ⟨gg, oo + k * 8, none⟩)) (.agg (rowA 8 (fn y))) (.bool (okI (fn y))) (.bool false) (.bool false)) (by kernel_rfl) ?_
        refine rq_nil fun w7 hb => ?_
        have m7 := Lib.hid (m6.out.call hb)
        clear z6 y6 hI6 hg6 hb m6
        unfold actV
        go_wp2_with fail
        go_roundw
        case rel => exact ⟨k + 1, by omega, by go_num, by rw [HS.out]; exact m7⟩
        case measure => simp [intOf]; omega
      · obtain rfl : k = n := by omega
        have cf : wr.cell? ⟨p, 0, none⟩ = some (.bool false) := m.out.f.cell
        go_wp2_with fail
        go_ret
        exact ⟨rfl, m.out.K⟩
  · have e1 : (100 : Int) < (n : Int) := by omega
    go_wp2_with fail
    go_ret
    exact ⟨rfl, k0.out.trans (k1.out.mono k0.out.size)⟩
end Go.Proofs.Ytdndomknjefgkaa.Rg
