/- Package thornton: its parts. -/
import Derived.Test.YtplffehgjdinnaaRN
import Derived.Test.YtplffehgjdinnaaTRX
import Derived.Laws.IdiomCopy
import Derived.Laws.MakeOwn

/- ThoA -/
namespace Go.Proofs.Ytplffehgjdinnaa
open Go.RowKit

theorem Fl.row {p o B : Nat} {h : Bool} {w : World} (f : Fl p o h w) (hB : B ≠ p) (d : Array Value) : Fl p o h (w.setRow B d) := by
  have hb : (w.setRow B d).heap[p]? = w.heap[p]? := setRow_other w B p d (by omega)
  refine ⟨?_, ?_, by rw [setRow_size]; exact f.lt⟩
  · have := f.cell
    unfold World.cell? at this ⊢
    rw [show (⟨p, o, none⟩ : Addr).block = p from rfl] at *
    rw [hb]; exact this
  · have := f.free
    unfold World.frozen? at this ⊢
    rw [show (⟨p, o, none⟩ : Addr).block = p from rfl] at *
    rw [hb]; exact this
end Go.Proofs.Ytplffehgjdinnaa

/- ThoZ -/
namespace Go.Proofs.Ytplffehgjdinnaa
open Go.RowKit

end Go.Proofs.Ytplffehgjdinnaa

/- ThoB -/
namespace Go.Proofs.Ytplffehgjdinnaa
open Go.RowKit

end Go.Proofs.Ytplffehgjdinnaa

/- Copy -/
namespace Go.Proofs.Ytplffehgjdinnaa
open Go.RowKit

theorem FlW.put {p o B : Nat} {h : Bool} {w w1 : World} (k : FlW p o h w w1) (hB : w.heap.size ≤ B) (q : Nat) (l : List Value) : FlW p o h w (w1.setCells B q l) := ⟨Below.setCells hB l q w1 k.out⟩
def putR (w : World) (B n : Nat) (f : Nat → Int) : World := w.setCells B 0 (((List.range n).map f).map (Value.int .i64))
theorem FlW.putR {p o B n : Nat} {f : Nat → Int} {h : Bool} {w w1 : World} (k : FlW p o h w w1) (hB : w.heap.size ≤ B) : FlW p o h w (putR w1 B n f) := k.put hB 0 _
section
variable {P : Program} (w : World)
end
end Go.Proofs.Ytplffehgjdinnaa

/- ThoC -/
namespace Go.Proofs.Ytplffehgjdinnaa
open Go.RowKit

def upTo (f : Nat → Int) (t : Nat) : Nat → Int := fun k => if k < t then f k else 0
theorem upTo_zero (f : Nat → Int) : upTo f 0 = fun _ => 0 := by funext k; unfold upTo; rw [if_neg (by omega)]
theorem upTo_next (f : Nat → Int) (t : Nat) : upd (upTo f t) t (f t) = upTo f (t + 1) := by
  funext k; unfold upd upTo
  by_cases h : k = t
  · subst h; rw [if_pos rfl, if_pos (by omega)]
  · rw [if_neg h]
    by_cases h2 : k < t
    · rw [if_pos h2, if_pos (by omega)]
    · rw [if_neg h2, if_neg (by omega)]
theorem upTo_all {f : Nat → Int} {n k : Nat} (h : k < n) : upTo f n k = f k := by unfold upTo; rw [if_pos h]
end Go.Proofs.Ytplffehgjdinnaa

/- ThoD -/
namespace Go.Proofs.Ytplffehgjdinnaa
open Go.RowKit

end Go.Proofs.Ytplffehgjdinnaa

/- ThoE -/
namespace Go.Proofs.Ytplffehgjdinnaa
open Go.RowKit

theorem made_row (n : Nat) : madeCells #[.int .i64 0] n = rowA n fun _ => 0 := by
  refine Array.ext_getElem? fun i => ?_
  by_cases hi : i < n
  · rw [rowA_get _ hi]
    simp [madeCells, hi, Nat.mod_one]
  · rw [rowA_none _ (by omega), Array.getElem?_eq_none (by rw [size_madeCells]; omega)]
theorem make_row {P : Program} {ops : Array Oper} {rest : List Oper} {o : Oper} {a : Act} {w : World} {Q : Exit → Act → World → Prop} (t : TypeId) (x y : Operand) (hgd : o.guard = none) (ho : o.op = .makeSlice t x y) (e : TypeId) (ht : P.underlying t = some (.slice e))
    (hi : (P.info? e).map (fun i => (i.zero, i.size, i.bytes)) = some (some (.int .i64 0), 1, 8)) (n : Nat) (hn : n ≤ 1000000) (hx : a.eval x = .int .i64 (n : Int)) (hy : a.eval y = .int .i64 (n : Int))
    (h : wpList P ops Q rest (a.put o.dst (.slice (some ⟨w.heap.size, 0, none⟩) n n)) (w.alloc (.cells (rowA n fun _ => 0) e))) : wpList P ops Q (o :: rest) a w := by
  refine wpList_plain hgd fun K hK => ?_
  obtain ⟨i, h1, h2, h3, h4⟩ := info_parts hi
  have hr := run_make (P := P) w t e i (.int .i64 0) ht h1 h2 .i64 .i64 (n : Int) (n : Int) (by omega) (Int.le_refl _) (by rw [h4]; omega) (by omega)
  rw [h3, Int.toNat_natCast, Nat.mul_one, show (Value.int .i64 0).cells = #[.int .i64 0] from rfl, made_row] at hr
  unfold Oper.wp execOp
  simp only [ho, hx, hy, Sem.run_bind, Sem.run_pure, Result.andThen_ok, hr]
  exact hK _ _ h
end Go.Proofs.Ytplffehgjdinnaa

/- ThoG -/
namespace Go.Proofs.Ytplffehgjdinnaa
open Go.RowKit

end Go.Proofs.Ytplffehgjdinnaa

/- ThoF -/
namespace Go.Proofs.Ytplffehgjdinnaa
open Go.RowKit

end Go.Proofs.Ytplffehgjdinnaa
