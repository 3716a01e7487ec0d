/- The table of declinations, as the program's text lays it, in the world that a law begins in. -/
import Derived.Test.YtbpccdagmaiblaaDoorEarthT
import Derived.Test.YtbpccdagmaiblaaDoorRows
import Derived.ProofKit
import Derived.LaidMore
import Derived.OpenShut
import Derived.Stop.Joined
namespace Go.Proofs.YtbpccdagmaiblaaDoor.EarthF
open Go SX Go.ChangeShapes Go.WideShapes Go.ChangeAt Go.WideElems Go.RowKit
def laidE : List (String × DataW Unit) := [("astrolabe/earth.declinations", Rows.laid_astrolabe_earth_declinations)]
theorem gE : Tryd.prog.globalNamed "astrolabe/earth.declinations" = some globG := by kernel_rfl
theorem tE : (Tryd.prog.globals[globG]?).map (·.type) = some 78 := by kernel_rfl
set_option maxRecDepth 100000 in
theorem door_met (os : Os) (args : Array Value) : laidMetH Tryd.prog laidE ((World.doorLaid Tryd.prog 4000 os).forCall (fun _ _ => 0) ⟨#[], args, []⟩).memory :=
  laidMetH_of_parts3 (fuel := 8) (laidMet_of_run' 8 (by kernel_rfl) (by kernel_rfl)) (by kernel_rfl) (by kernel_rfl)
section
variable {H : Type} {enc : TypeId × Value → H} {P : Program} {w : World} {base : Nat} {spare : Nat → Bool} {held : Bool} {fuel : Nat} {t e : TypeId} {cs : List Value}
theorem cut_one {cs : List Value} {i : Nat} {v : Value} (h : (cs.drop i).take 1 = [v]) : cs[i]? = some v := by
  have := congrArg (fun l => l[0]?) h
  simpa [List.getElem?_take, List.getElem?_drop] using this
theorem ints_of {n : Nat} (ht : P.underlying t = some (.array n e)) (he : P.underlying e = some (.int .i64)) (hc : P.cellsOf e = 1) (hn : P.cellsOf t = n) {zs : List Int} {p : List MemPlace}
    (h : DataW.trod enc P w base spare held fuel t cs = some (.agg (zs.map fun z => .lit (.int .i64 z)), p)) : cs = zs.map (Value.int .i64) := by
  obtain ⟨xs, m, _, hx, hlen, hxn, hel⟩ := DataW.trod_array ht h
  simp only [Prod.mk.injEq, DataW.agg.injEq] at hx
  have hz : zs.length = n := by
    have := congrArg List.length hx.1
    simp only [List.length_map] at this
    omega
  refine List.ext_getElem? fun i => ?_
  rcases Nat.lt_or_ge i n with hi | hi
  · have hi' := hel i hi
    rw [hc, Nat.mul_one] at hi'
    have hxi : xs[i]? = some (xs[i]'(by omega)) := List.getElem?_eq_getElem _
    rw [hxi] at hi'
    obtain ⟨k, e1, e2, _⟩ := DataW.trod_int he hi'
    have e3 := cut_one e1
    have e4 := congrArg (fun l => l[i]?) hx.1
    simp only [List.getElem?_map, hxi, e2, Option.map_some] at e4
    rw [e3, List.getElem?_map]
    have hzi : zs[i]? = some (zs[i]'(by omega)) := List.getElem?_eq_getElem _
    rw [hzi] at e4 ⊢
    simp only [Option.map_some, Option.some.injEq, DataW.lit.injEq, Lit.int.injEq, true_and] at e4
    simp only [Option.map_some, e4]
  · rw [List.getElem?_eq_none (by omega), List.getElem?_eq_none (by rw [List.length_map]; omega)]
end
def rowsE : List (List Int) := [[3000, 6000, -2000, -1500, -6000, -9000, 3000], [2200, 2500, 500, -2200, -3800, 0, 2200], [950, 900, -1400, -500, -300, 100, 950], [500, 1500, -1700, 100, 700, -800, 500], [1000, 4000, -3000, 500, 3500, -1200, 1000]]
theorem five {α : Type} (cs : List α) (h : cs.length = 35) : cs = (cs.drop 0).take 7 ++ ((cs.drop 7).take 7 ++ ((cs.drop 14).take 7 ++ ((cs.drop 21).take 7 ++ (cs.drop 28).take 7))) := by
  have s : ∀ n : Nat, cs.drop n = (cs.drop n).take 7 ++ cs.drop (n + 7) := fun n => by
    have := (List.take_append_drop 7 (cs.drop n)).symm
    rwa [List.drop_drop] at this
  have e : (cs.drop 28).take 7 = cs.drop 28 := List.take_of_length_le (by rw [List.length_drop]; omega)
  rw [e, ← s 21, ← s 14, ← s 7, ← s 0, List.drop_zero]
set_option maxRecDepth 100000 in
theorem of_laid {W : World} (h : laidMetH Tryd.prog laidE W) : globG < W.heap.size ∧ ∀ i z, tbE[i]? = some z → W.cell? ⟨globG, i, none⟩ = some (.int .i64 z) := by
  rw [MakeChecks.laidMetH_plain _ _ _ (by kernel_rfl)] at h
  obtain ⟨ps, ⟨g0, t0, cs0, f0, p0, q0, hg0, ht0, hv0, hd0, _, _⟩, _, _⟩ := h
  obtain rfl := Option.some.inj (gE.symm.trans hg0)
  obtain rfl := Option.some.inj (tE.symm.trans ht0)
  obtain ⟨xs, m, _, hx, hlen, hxn, hel⟩ := DataW.trod_array Tryd.underlying78 hd0
  have c5 : Tryd.prog.cellsOf 78 = 35 := by kernel_rfl
  have c7 : Tryd.prog.cellsOf 77 = 7 := by kernel_rfl
  have c1 : Tryd.prog.cellsOf 2 = 1 := by kernel_rfl
  rw [c5] at hlen
  rw [c7] at hel
  have hE : Rows.laid_astrolabe_earth_declinations (H := Unit) = .agg (rowsE.map fun zs => .agg (zs.map fun z => .lit (.int .i64 z))) := rfl
  simp only [Prod.mk.injEq] at hx
  rw [hE, DataW.agg.injEq] at hx
  have row : ∀ i zs, rowsE[i]? = some zs → (cs0.toList.drop (i * 7)).take 7 = zs.map (Value.int .i64) := fun i zs hz => by
    have hi : i < 5 := (List.getElem?_eq_some_iff.1 hz).1
    have k := hel i hi
    have e4 := congrArg (fun l => l[i]?) hx.1
    simp only [List.getElem?_map, hz, Option.map_some] at e4
    cases hxi : xs[i]? with
    | none => rw [hxi] at e4; cases e4
    | some y =>
      obtain ⟨y1, y2⟩ := y
      rw [hxi] at e4 k
      simp only [Option.map_some, Option.some.injEq] at e4
      subst e4
      exact ints_of Tryd.underlying77 Tryd.underlying2 c1 c7 k
  have r0 := row 0 _ rfl
  have r1 := row 1 _ rfl
  have r2 := row 2 _ rfl
  have r3 := row 3 _ rfl
  have r4 := row 4 _ rfl
  have all := five cs0.toList hlen
  rw [show cs0.toList.drop 0 = cs0.toList.drop (0 * 7) from rfl, r0, show cs0.toList.drop 7 = cs0.toList.drop (1 * 7) from rfl, r1, show cs0.toList.drop 14 = cs0.toList.drop (2 * 7) from rfl, r2, show cs0.toList.drop 21 = cs0.toList.drop (3 * 7) from rfl, r3, show cs0.toList.drop 28 = cs0.toList.drop (4 * 7) from rfl, r4] at all
  have all2 : cs0.toList = tbE.map (Value.int .i64) := all
  have hcell := fun i => World.var?_cell hg0 hv0 i
  refine ⟨?_, fun i z hz => ?_⟩
  · have h0 := hcell 0
    rw [← Array.getElem?_toList, all2] at h0
    have h0 : W.cell? ⟨globG, 0, none⟩ = some (.int .i64 3000) := h0
    unfold World.cell? at h0
    split at h0
    · rename_i hh
      exact (Array.getElem?_eq_some_iff.1 hh).1
    · cases h0
  · rw [hcell i, ← Array.getElem?_toList, all2, List.getElem?_map, hz]
    rfl
end Go.Proofs.YtbpccdagmaiblaaDoor.EarthF
