/- A number learnt (Bierman), by lists, quick to reckon. Nothing of a program is used. -/
import Derived.Test.YtplffehgjdinnaaBieN
import Derived.Test.YtplffehgjdinnaaRN
namespace Go.Proofs.Ytplffehgjdinnaa
open Go.RowKit

theorem colU_one (p : Nat → Int) {j : Nat} (hj : j < 24) : colU p j j = 1073741824 := by
  unfold colU uF
  rw [(aboveB_no (j : Int) (j : Int)).2 (by omega), cond_false, decide_eq_true rfl, (inN_iff (j : Int)).2 (by omega)]; rfl
/-- The columns from j on learnt: U, D, b, a, was something clamped? -/
def goL (hs : List Int) : List (List Int) → List Int → List Int → Int → List Int × List Int × List Int × Int × Bool
  | col :: cs, d :: ds, bs, a =>
    forceI (dotl (hs.take (col.length + 1)) (col ++ [1073741824])) fun f => forceI (mulv d f) fun v => forceI (mulv f v) fun m => forceI (addv a m) fun a1 =>
    forceI (-quo4v f a) fun x => forceI (clampv (mdv d a a1) 1 72057594037927936) fun d1 =>
    forceL (zip2F (fun u b => addv u (mul4v b x)) col bs) fun us => forceL (zip2F (fun u b => addv b (mulv u v)) col bs ++ [v]) fun bs1 =>
    forceB ((dothl (hs.take (col.length + 1)) (col ++ [1073741824]) || mulh d f || mulh f v || addh a m) || ((mdh d a a1 || clamph (mdv d a a1) 1 72057594037927936) || quo4h f a || any2 (fun u b => mul4h b x || addh u (mul4v b x) || (mulh u v || addh b (mulv u v))) col bs)) fun hh =>
    match goL hs cs ds bs1 a1 with
    | (U, D, B, s, h) => (us ++ U, d1 :: D, B, s, hh || h)
  | _, _, bs, a => ([], [], bs, a, false)
def newU (p f v a : Nat → Int) (j u : Nat) : Int := addv (colU p j u) (mul4v (lrB p v j u) (bX f a j))
theorem any2_map2 {f : Int → Int → Bool} {a b : Nat → Int} (n : Nat) : any2 f ((List.range n).map a) ((List.range n).map b) = anyN (fun k => f (a k) (b k)) n := by rw [any2_map, anyN_range]
theorem goL_ok (p h : Nat → Int) (r : Int) : ∀ (n j : Nat), j + n = 24 →
    goL ((List.range 24).map h) ((List.range' j n).map fun k => (List.range k).map (colU p k)) ((List.range' j n).map fun k => p (276 + k)) ((List.range j).map (lrB p (bV p h) j)) (bA p h r j) =
      ((List.range' j n).flatMap (fun k => (List.range k).map (newU p (bF p h) (bV p h) (bA p h r) k)), (List.range' j n).map (bD p (bA p h r)), (List.range 24).map (lrB p (bV p h) 24), bA p h r 24, (List.range' j n).any fun k => lookH1 p h r k || lrH1 p (bF p h) (bV p h) (bA p h r) k)
  | 0, j, e => by
    obtain rfl : j = 24 := by omega
    simp [goL]
  | n + 1, j, e => by
    have hj : j < 24 := by omega
    have ih := goL_ok p h r n (j + 1) (by omega)
    simp only [List.range'_succ, List.map_cons, List.flatMap_cons, List.any_cons]
    rw [goL]
    simp only [forceI_eq, forceL_eq, forceB_eq, List.length_map, List.length_range]
    have e1 : ((List.range 24).map h).take (j + 1) = (List.range (j + 1)).map h := by
      rw [← List.map_take, List.take_range, Nat.min_eq_left (by omega)]
    have e2 : (List.range j).map (colU p j) ++ [1073741824] = (List.range (j + 1)).map (colU p j) := by
      rw [List.range_succ, List.map_append, List.map_singleton, colU_one p hj]
    rw [e1, e2, dotl_range, dothl_range]
    have ef : dotv h (colU p j) (j + 1) = bF p h j := rfl
    rw [ef, show mulv (p (276 + j)) (bF p h j) = bV p h j from rfl, show addv (bA p h r j) (mulv (bF p h j) (bV p h j)) = bA p h r (j + 1) from rfl]
    rw [show -quo4v (bF p h j) (bA p h r j) = bX (bF p h) (bA p h r) j from rfl, show clampv (mdv (p (276 + j)) (bA p h r j) (bA p h r (j + 1))) 1 72057594037927936 = bD p (bA p h r) j from rfl]
    rw [zip2F_map, zip2F_map, any2_map2]
    have eb : (List.range j).map (fun k => addv (lrB p (bV p h) j k) (mulv (colU p j k) (bV p h j))) ++ [bV p h j] = (List.range (j + 1)).map (lrB p (bV p h) (j + 1)) := by
      rw [List.range_succ, List.map_append, List.map_singleton]
      congr 1
      · refine List.map_congr_left fun k hk => ?_
        have hk : k < j := by simpa using hk
        rw [lrB]; unfold nexB
        rw [if_pos hk, upd_other _ _ (by omega)]
      · rw [lrB]; unfold nexB
        rw [if_neg (by omega), upd_same]
    rw [eb, ih]
    have eh : anyN (fun k => mul4h (lrB p (bV p h) j k) (bX (bF p h) (bA p h r) j) || addh (colU p j k) (mul4v (lrB p (bV p h) j k) (bX (bF p h) (bA p h r) j)) || (mulh (colU p j k) (bV p h j) || addh (lrB p (bV p h) j k) (mulv (colU p j k) (bV p h j)))) j = anyN (nexL p (bV p h) (upd (lrB p (bV p h) j) j (bV p h j)) (bX (bF p h) (bA p h r) j) j) j := by
      refine anyN_congr fun k hk => ?_
      unfold nexL
      rw [upd_other _ _ (by omega)]
    rw [eh]
    unfold lookH1 lrH1 newU
    dsimp only
/-- l: the factors, the row, the variance; what comes out: the factors, the gains, the variance. -/
def updZ (l : List Int) : List Int × Bool :=
  forceL (mapN (condF (cellL l)) (List.range 300)) fun cp =>
  forceL (mapN (fun k => satv (cellL l (300 + k))) (List.range 24)) fun hs =>
  forceLL (mapLL (fun k => mapN (fun t => colU (cellL cp) k t) (List.range k)) (List.range 24)) fun cols =>
  forceL (mapN (fun k => cellL cp (276 + k)) (List.range 24)) fun ds =>
  match goL hs cols ds [] (rV (cellL l 324)) with
  | (U, D, B, s, h) => (U ++ (D ++ (B.map (fun b => quov b s) ++ [s])), condH (cellL l) || ((List.range 24).any (fun k => sath (cellL l (300 + k))) || (rH (cellL l 324) || (h || B.any fun b => quoh b s))))
theorem places : (List.range 24).flatMap (fun k => (List.range k).map fun (u : Nat) => (plc (u : Int) (k : Int)).toNat) = List.range 276 := by decide +kernel
theorem flat_map {α β : Type} (f : α → β) (g : Nat → Nat → α) : ∀ l : List Nat, (l.flatMap fun k => (List.range k).map (g k)).map f = l.flatMap fun k => (List.range k).map fun u => f (g k u)
  | [] => rfl
  | k :: l => by rw [List.flatMap_cons, List.map_append, flat_map f g l, List.flatMap_cons, List.map_map]; rfl
theorem flat_congr {α β : Type} {f g : α → List β} : ∀ {l : List α}, (∀ a, a ∈ l → f a = g a) → l.flatMap f = l.flatMap g
  | [], _ => rfl
  | a :: l, h => by rw [List.flatMap_cons, List.flatMap_cons, h a (List.mem_cons_self ..), flat_congr fun b hb => h b (List.mem_cons_of_mem _ hb)]
theorem app_congr {α : Type} {a b c d : List α} (h1 : a = c) (h2 : b = d) : a ++ b = c ++ d := by rw [h1, h2]
theorem range_300 {α : Type} (f : Nat → α) : (List.range 300).map f = (List.range 276).map f ++ (List.range 24).map fun k => f (276 + k) := by
  rw [show (300 : Nat) = 276 + 24 from rfl, List.range_add, List.map_append, List.map_map]; rfl
theorem lrO_list (p f v a : Nat → Int) : (List.range 300).map (lrO p f v a 24) = (List.range 24).flatMap (fun k => (List.range k).map (newU p f v a k)) ++ (List.range 24).map (bD p a) := by
  refine (range_300 _).trans (app_congr ?_ ?_)
  · refine (congrArg (List.map (lrO p f v a 24)) places.symm).trans ((flat_map _ _ _).trans ?_)
    refine flat_congr fun k hk => List.map_congr_left fun u hu => ?_
    have hk : k < 24 := by simpa using hk
    have hu : u < k := by simpa using hu
    rw [lrO_U _ _ _ _ hu hk _ (by omega), if_pos hk, upd_other _ _ (by omega)]; rfl
  · refine List.map_congr_left fun k hk => ?_
    have hk : k < 24 := by simpa using hk
    rw [lrO_D _ _ _ _ _ _ (by omega) hk, if_pos hk]
theorem anyN_or (f g : Nat → Bool) : ∀ n, anyN (fun k => f k || g k) n = (anyN f n || anyN g n)
  | 0 => rfl
  | n + 1 => by
    rw [anyN, anyN, anyN, anyN_or f g n]
    cases anyN f n <;> cases anyN g n <;> cases f n <;> cases g n <;> rfl
theorem updZ_ok (l : List Int) : updZ l = ((List.range 300).map (updF (cellL l) (fun k => cellL l (300 + k)) (cellL l 324)) ++ ((List.range 24).map (updK (cellL l) (fun k => cellL l (300 + k)) (cellL l 324)) ++ [updS (cellL l) (fun k => cellL l (300 + k)) (cellL l 324)]), updH (cellL l) (fun k => cellL l (300 + k)) (cellL l 324)) := by
  unfold updZ
  simp only [forceL_eq, forceLL_eq, mapN_eq, mapLL_eq]
  generalize hp : cellL l = p
  generalize hh : (fun k => p (300 + k)) = h
  generalize hr : p 324 = r
  have hh' : ∀ k, p (300 + k) = h k := fun k => by rw [← hh]
  simp only [hh']
  have ec : ((List.range 24).map fun k => (List.range k).map fun t => colU (cellL ((List.range 300).map (condF p))) k t) = (List.range' 0 24).map fun k => (List.range k).map (colU (condF p) k) := by
    rw [← List.range_eq_range']
    refine List.map_congr_left fun k hk => List.map_congr_left fun t ht => ?_
    exact uF_congr (fun m hm => cellL_range _ (by omega)) _ _
  have ed : ((List.range 24).map fun k => cellL ((List.range 300).map (condF p)) (276 + k)) = (List.range' 0 24).map fun k => condF p (276 + k) := by
    rw [← List.range_eq_range']
    refine List.map_congr_left fun k hk => ?_
    have hk : k < 24 := by simpa using hk
    exact cellL_range _ (by omega)
  have es : ((List.range 24).map fun k => satv (h k)) = (List.range 24).map (satH h) := rfl
  have := goL_ok (condF p) (satH h) (rV r) 24 0 rfl
  rw [show (List.range 0).map (lrB (condF p) (bV (condF p) (satH h)) 0) = [] from rfl, show bA (condF p) (satH h) (rV r) 0 = rV r from rfl] at this
  rw [ec, ed, es, this]
  dsimp only
  rw [← List.range_eq_range', anyN_range, anyN_range, List.any_map, anyN_range, List.map_map, ← List.append_assoc, ← lrO_list, anyN_or]
  unfold updH innH lookH updF updK updS updB
  refine Prod.ext ?_ ?_
  · dsimp only [Function.comp_def]
  · dsimp only [Function.comp_def]
    simp only [Bool.or_assoc]
end Go.Proofs.Ytplffehgjdinnaa
