/- Two things that a law keeps in memory, apart from each other; what the document tells of three samples. -/
import Derived.Test.YtdndomknjefgkaaRgS
namespace Go.Proofs.Ytdndomknjefgkaa.Rg
open Go.RowKit
/-- It stays while what it stands on is not touched; it stands on what there is. -/
structure Keeps (P : World → Value → Prop) (f : Value → List Nat) : Prop where
  keep : ∀ S W W' v, P W v → Tch S W W' → (∀ q, q ∈ f v → q ∉ S) → P W' v
  lt : ∀ W v, P W v → ∀ q, q ∈ f v → q < W.heap.size
structure Two (w : World) (P Q : World → Value → Prop) (f g : Value → List Nat) (X : List Nat) (W : World) : Prop where
  kp : Keeps P f
  kq : Keeps Q g
  ex : ∃ v u, P W v ∧ Q W u ∧ (∀ q, q ∈ f v → w.heap.size ≤ q ∧ q ∉ X ∧ q ∉ g u) ∧ (∀ q, q ∈ g u → w.heap.size ≤ q ∧ q ∉ X)
  xlt : ∀ q, q ∈ X → q < W.heap.size
  K : Below w.heap.size w W
theorem Two.swap {w W : World} {P Q : World → Value → Prop} {f g : Value → List Nat} {X : List Nat} (s : Two w P Q f g X W) : Two w Q P g f X W := by
  obtain ⟨v, u, h1, h2, h3, h4⟩ := s.ex
  exact ⟨s.kq, s.kp, ⟨u, v, h2, h1, fun q hq => ⟨(h4 q hq).1, (h4 q hq).2, fun hm => (h3 q hm).2.2 hq⟩, fun q hq => ⟨(h3 q hq).1, (h3 q hq).2.1⟩⟩, s.xlt, s.K⟩
theorem Two.call {w W W2 : World} {P Q : World → Value → Prop} {f g : Value → List Nat} {X : List Nat} (s : Two w P Q f g X W) (k : Below W.heap.size W W2) : Two w P Q f g X W2 := by
  obtain ⟨v, u, h1, h2, h3, h4⟩ := s.ex
  exact ⟨s.kp, s.kq, ⟨v, u, s.kp.keep [] _ _ v h1 (.of [] k) (by simp), s.kq.keep [] _ _ u h2 (.of [] k) (by simp), h3, h4⟩, fun q hq => Nat.lt_of_lt_of_le (s.xlt q hq) k.size, s.K.trans (k.mono s.K.size)⟩
theorem Two.drew {w W : World} {P Q : World → Value → Prop} {f g : Value → List Nat} {X : List Nat} (s : Two w P Q f g X W) : Two w P Q f g X W.drew := s.call (Below.refl _ _).drew
theorem Two.drewN {w W : World} {P Q : World → Value → Prop} {f g : Value → List Nat} {X : List Nat} (s : Two w P Q f g X W) (n : Nat) : Two w P Q f g X (W.drewN n) := s.call (below_drewN (Below.refl _ _) n)
theorem Two.alloc {w W : World} {P Q : World → Value → Prop} {f g : Value → List Nat} {X : List Nat} (s : Two w P Q f g X W) (o : Obj) : Two w P Q f g X (W.alloc o) := s.call ((Below.refl _ _).alloc (Nat.le_refl _) _)
/-- More that is not touched. -/
theorem Two.more {w W : World} {P Q : World → Value → Prop} {f g : Value → List Nat} {X Y : List Nat} (s : Two w P Q f g X W) (hY : ∀ q, q ∈ Y → q < W.heap.size ∧ ∀ v u, P W v → Q W u → q ∉ f v ∧ q ∉ g u) : Two w P Q f g (Y ++ X) W := by
  obtain ⟨v, u, h1, h2, h3, h4⟩ := s.ex
  refine ⟨s.kp, s.kq, ⟨v, u, h1, h2, fun q hq => ⟨(h3 q hq).1, fun hm => ?_, (h3 q hq).2.2⟩, fun q hq => ⟨(h4 q hq).1, fun hm => ?_⟩⟩, fun q hq => ?_, s.K⟩
  · rcases List.mem_append.1 hm with h | h
    · exact ((hY q h).2 v u h1 h2).1 hq
    · exact (h3 q hq).2.1 h
  · rcases List.mem_append.1 hm with h | h
    · exact ((hY q h).2 v u h1 h2).2 hq
    · exact (h4 q hq).2 h
  · rcases List.mem_append.1 hq with h | h
    · exact (hY q h).1
    · exact s.xlt q h
/-- What a call on the first leaves. -/
def Step (P' : World → Value → Prop) (f : Value → List Nat) (v : Value) (W w' : World) : Prop := ∃ v', P' w' v' ∧ Tch (f v) W w' ∧ ∀ q, q ∈ f v' → q ∈ f v ∨ W.heap.size ≤ q
theorem Two.step {w W w' : World} {P P' Q : World → Value → Prop} {f g : Value → List Nat} {X : List Nat} (s : Two w P Q f g X W) (kp : Keeps P' f) (h : ∀ v, P W v → Step P' f v W w') : Two w P' Q f g X w' ∧ ∀ q, q ∈ X → w'.heap[q]? = W.heap[q]? := by
  obtain ⟨v, u, h1, h2, h3, h4⟩ := s.ex
  obtain ⟨v', r1, r2, r3⟩ := h v h1
  have hlt := s.kq.lt W u h2
  refine ⟨⟨kp, s.kq, ⟨v', u, r1, s.kq.keep _ _ _ u h2 r2 (fun q hq hm => (h3 q hm).2.2 hq), fun q hq => ?_, h4⟩, fun q hq => Nat.lt_of_lt_of_le (s.xlt q hq) r2.size, s.K.trans (r2.below s.K.size fun q hq => (h3 q hq).1)⟩, fun q hq => r2.block q (s.xlt q hq) fun hm => (h3 q hm).2.1 hq⟩
  rcases r3 q hq with h5 | h5
  · exact h3 q h5
  · exact ⟨Nat.le_trans s.K.size h5, fun hm => by have := s.xlt q hm; omega, fun hm => by have := hlt q hm; omega⟩
def foot (A : Nat) (v : Value) : List Nat := A :: own v
abbrev PB (A : Nat) (b : Ring) : World → Value → Prop := fun W v => Buf W A v b
abbrev QB (A : Nat) (b : Ring) : World → Value → Prop := fun W v => RBuf W A v b
abbrev NB : World → Value → Prop := fun _ _ => True
def none0 (_ : Value) : List Nat := []
theorem pb_keeps (A : Nat) (b : Ring) : Keeps (PB A b) (foot A) :=
  ⟨fun S W W' v h k hd => h.keep k (hd A (by simp [foot])) (fun q hq => hd q (by simp [foot, hq])), fun W v h q hq => by
    rcases List.mem_cons.1 hq with rfl | h1
    · exact h.blk.lt
    · exact h.row.lt q h1⟩
theorem qb_keeps (A : Nat) (b : Ring) : Keeps (QB A b) (foot A) :=
  ⟨fun S W W' v h k hd => h.keep k (hd A (by simp [foot])) (fun q hq => hd q (by simp [foot, hq])), fun W v h q hq => by
    rcases List.mem_cons.1 hq with rfl | h1
    · exact h.blk.lt
    · exact h.row.lt q h1⟩
theorem nb_keeps : Keeps NB none0 := ⟨fun _ _ _ _ _ _ _ => trivial, fun _ _ _ q hq => by simp [none0] at hq⟩
section
variable {w W : World} {Q : World → Value → Prop} {g : Value → List Nat} {X : List Nat} {A : Nat} {b : Ring}
theorem nothing (w : World) : Two w NB NB none0 none0 [] w := ⟨nb_keeps, nb_keeps, ⟨.slice none 0 0, .slice none 0 0, trivial, trivial, by simp [none0], by simp [none0]⟩, by simp, Below.refl _ _⟩
theorem two_new (s : Two w NB Q none0 g X W) (n : Nat) (h1 : 1 ≤ n) (h2 : n ≤ 64) : Calls Try.prog 18 #[.int .i64 (n : Nat)] W fun e w' => e = .returned (.tuple #[.pointer (some ⟨W.heap.size, 0, none⟩), .int .i64 0]) ∧ Two w (PB W.heap.size (Ring.new n)) Q (foot W.heap.size) g X w' := by
  obtain ⟨v, u, a1, a2, a3, a4⟩ := s.ex
  refine (new_any n W h1 h2).mono ?_
  rintro e w' ⟨rfl, hb, k, _⟩
  refine ⟨rfl, pb_keeps _ _, s.kq, ⟨_, u, hb, s.kq.keep [] _ _ u a2 (.of [] k) (by simp), fun q hq => ?_, a4⟩, fun q hq => Nat.lt_of_lt_of_le (s.xlt q hq) k.size, s.K.trans (k.mono s.K.size)⟩
  simp [foot, own] at hq
  subst hq
  exact ⟨s.K.size, fun hm => by have := s.xlt _ hm; omega, fun hm => by have := s.kq.lt W u a2 _ hm; omega⟩
theorem two_rnew (s : Two w NB Q none0 g X W) (i : Int) (n : Nat) (hi : i = (n : Nat)) : Calls Try.prog 19 #[.int .i64 i] W fun e w' => e = .returned (.pointer (some ⟨W.heap.size, 0, none⟩)) ∧ Two w (QB W.heap.size (Ring.new n)) Q (foot W.heap.size) g X w' := by
  obtain ⟨v, u, a1, a2, a3, a4⟩ := s.ex
  refine (rnew_any i W).mono ?_
  rintro e w' ⟨rfl, hb, k, _⟩
  refine ⟨rfl, qb_keeps _ _, s.kq, ⟨_, u, hb n hi, s.kq.keep [] _ _ u a2 (.of [] k) (by simp), fun q hq => ?_, a4⟩, fun q hq => Nat.lt_of_lt_of_le (s.xlt q hq) k.size, s.K.trans (k.mono s.K.size)⟩
  simp [foot, own] at hq
  subst hq
  exact ⟨s.K.size, fun hm => by have := s.xlt _ hm; omega, fun hm => by have := s.kq.lt W u a2 _ hm; omega⟩
theorem calls_ex {P : Program} {fid : Nat} {args : Array Value} {W : World} {α : Sort _} {p : α → Prop} {R : Ending → World → Prop} {S : α → World → Prop} (hα : ∃ v, p v) (h : ∀ v, p v → Calls P fid args W fun e w' => R e w' ∧ S v w') (hS : ∀ v v' w', p v → p v' → S v w' → S v' w') : Calls P fid args W fun e w' => R e w' ∧ ∀ v, p v → S v w' := by
  obtain ⟨v, hv⟩ := hα
  exact (h v hv).mono fun e w' ⟨h1, h2⟩ => ⟨h1, fun v' hv' => hS v v' w' hv hv' h2⟩
/-- A step, by a contract told at what lies there. -/
theorem Two.by {P P' : World → Value → Prop} {f : Value → List Nat} {fid : Nat} {args : Array Value} {R : Ending → World → World → Prop} (s : Two w P Q f g X W) (kp : Keeps P' f) (h : ∀ v, P W v → Calls Try.prog fid args W fun e w' => R e W w' ∧ Step P' f v W w') :
    Calls Try.prog fid args W fun e w' => R e W w' ∧ Two w P' Q f g X w' ∧ ∀ q, q ∈ X → w'.heap[q]? = W.heap[q]? := by
  obtain ⟨v, u, h1, h2, h3, h4⟩ := s.ex
  refine (h v h1).mono ?_
  rintro e w' ⟨hR, v', r1, r2, r3⟩
  have hlt := s.kq.lt W u h2
  refine ⟨hR, ⟨kp, s.kq, ⟨v', u, r1, s.kq.keep _ _ _ u h2 r2 (fun q hq hm => (h3 q hm).2.2 hq), fun q hq => ?_, h4⟩, fun q hq => Nat.lt_of_lt_of_le (s.xlt q hq) r2.size, s.K.trans (r2.below s.K.size fun q hq => (h3 q hq).1)⟩, fun q hq => r2.block q (s.xlt q hq) fun hm => (h3 q hm).2.1 hq⟩
  rcases r3 q hq with h5 | h5
  · exact h3 q h5
  · exact ⟨Nat.le_trans s.K.size h5, fun hm => by have := s.xlt q hm; omega, fun hm => by have := hlt q hm; omega⟩
theorem step_foot {P' : World → Value → Prop} {v v' : Value} {W w' : World} (h1 : P' w' v') (h2 : Tch (A :: own v) W w') (h3 : ∀ q, q ∈ own v' → q ∈ own v ∨ W.heap.size ≤ q) : Step P' (foot A) v W w' :=
  ⟨v', h1, h2, fun q hq => by
    rcases List.mem_cons.1 hq with rfl | h
    · exact .inl (List.mem_cons_self ..)
    · exact (h3 q h).imp (List.mem_cons_of_mem _) id⟩
theorem two_put (s : Two w (PB A b) Q (foot A) g X W) (x : Sam) (hs : b.cIn < 1000000) (hx : x.length = 9) (hz1 : 1 ≤ b.size) (hz2 : b.size ≤ 200) (hz3 : b.l.length ≤ b.size) :
    Calls Try.prog 20 #[.pointer (some ⟨A, 0, none⟩), .agg (rowA 9 (fn x))] W fun e w' => e = .returned (.bool (b.putR x)) ∧ Two w (PB A (b.put x)) Q (foot A) g X w' ∧ ∀ q, q ∈ X → w'.heap[q]? = W.heap[q]? :=
  Two.by (R := fun e _ _ => e = .returned (.bool (b.putR x))) s (pb_keeps _ _) fun v h1 => (put_any A v b x W h1 hs hx hz1 hz2 hz3).mono fun _e _w' ⟨he, _v', r1, r2, r3⟩ => ⟨he, step_foot r1 r2 r3⟩
theorem two_rput (s : Two w (QB A b) Q (foot A) g X W) (x : Sam) (hs : b.cIn < 1000000) (hx : x.length = 9) (hz1 : 1 ≤ b.size) (hz2 : b.size ≤ 200) (hz3 : b.l.length ≤ b.size) :
    Calls Try.prog 21 #[.pointer (some ⟨A, 0, none⟩), .agg (rowA 9 (fn x))] W fun e w' => e = .returned (.bool (b.putR x)) ∧ Two w (QB A (b.put x)) Q (foot A) g X w' ∧ ∀ q, q ∈ X → w'.heap[q]? = W.heap[q]? :=
  Two.by (R := fun e _ _ => e = .returned (.bool (b.putR x))) s (qb_keeps _ _) fun v h1 => (rput_any A v b x W h1 hs hx hz1 hz2 hz3).mono fun e w' ⟨he, v', r1, r2, r3⟩ => ⟨he, step_foot r1 (r2.mono fun q hq => .inl (by simp at hq; subst hq; exact List.mem_cons_self ..)) r3⟩
theorem two_spoilt (s : Two w (PB A b) Q (foot A) g X W) (hs : b.cIn < 1000000) :
    Calls Try.prog 24 #[.pointer (some ⟨A, 0, none⟩)] W fun e w' => e = .returned (.tuple #[]) ∧ Two w (PB A b.spoilt) Q (foot A) g X w' ∧ ∀ q, q ∈ X → w'.heap[q]? = W.heap[q]? :=
  Two.by (R := fun e _ _ => e = .returned (.tuple #[])) s (pb_keeps _ _) fun v h1 => (spoilt_any A v b W h1 hs).mono fun e w' ⟨he, r1, r2⟩ => ⟨he, step_foot r1 (r2.mono fun q hq => .inl (by simp at hq; subst hq; exact List.mem_cons_self ..)) fun q hq => .inl hq⟩
theorem two_rspoilt (s : Two w (QB A b) Q (foot A) g X W) (hs : b.cIn < 1000000) :
    Calls Try.prog 25 #[.pointer (some ⟨A, 0, none⟩)] W fun e w' => e = .returned (.tuple #[]) ∧ Two w (QB A b.spoilt) Q (foot A) g X w' ∧ ∀ q, q ∈ X → w'.heap[q]? = W.heap[q]? :=
  Two.by (R := fun e _ _ => e = .returned (.tuple #[])) s (qb_keeps _ _) fun v h1 => (rspoilt_any A v b W h1 hs).mono fun e w' ⟨he, r1, r2⟩ => ⟨he, step_foot r1 (r2.mono fun q hq => .inl (by simp at hq; subst hq; exact List.mem_cons_self ..)) fun q hq => .inl hq⟩
/-- What Pop hands back, told as not to be touched henceforth. -/
def Got (X : List Nat) (l : List Sam) (W : World) (e : Ending) (R : List Nat → Prop) (w' : World) : Prop := ∃ a c, e = .returned (.slice a l.length c) ∧ Row w' (.slice a l.length c) l ∧ (∀ q, q ∈ own (.slice a l.length c) → W.heap.size ≤ q) ∧ R (own (.slice a l.length c) ++ X) ∧ ∀ q, q ∈ X → w'.heap[q]? = W.heap[q]?
theorem pop_by {P P' : World → Value → Prop} {f : Value → List Nat} {fid : Nat} {args : Array Value} {l : List Sam} (s : Two w P Q f g X W) (kp : Keeps P' f)
    (h : ∀ v, P W v → Calls Try.prog fid args W fun e w' => ∃ t v', e = .returned t ∧ Row w' t l ∧ (∀ q, q ∈ own t → W.heap.size ≤ q) ∧ P' w' v' ∧ (∀ q, q ∈ f v' → q ∈ f v) ∧ Tch (f v) W w') :
    Calls Try.prog fid args W fun e w' => Got X l W e (fun Y => Two w P' Q f g Y w') w' := by
  obtain ⟨v, u, h1, h2, h3, h4⟩ := s.ex
  have hpl := s.kp.lt W v h1
  have hlt := s.kq.lt W u h2
  refine (h v h1).mono ?_
  rintro e w' ⟨t, v', rfl, r1, r2, r3, r4, r5⟩
  obtain ⟨a, c, rfl, _⟩ := r1.shape
  refine ⟨a, c, rfl, r1, r2, ⟨kp, s.kq, ⟨v', u, r3, s.kq.keep _ _ _ u h2 r5 (fun q hq hm => (h3 q hm).2.2 hq), fun q hq => ?_, fun q hq => ⟨(h4 q hq).1, fun hm => ?_⟩⟩, fun q hq => ?_, s.K.trans (r5.below s.K.size fun q hq => (h3 q hq).1)⟩, fun q hq => r5.block q (s.xlt q hq) fun hm => (h3 q hm).2.1 hq⟩
  · have h5 := h3 q (r4 q hq)
    refine ⟨h5.1, fun hm => ?_, h5.2.2⟩
    rcases List.mem_append.1 hm with h6 | h6
    · have := r2 q h6; have := hpl q (r4 q hq); omega
    · exact h5.2.1 h6
  · rcases List.mem_append.1 hm with h6 | h6
    · have := r2 q h6; have := hlt q hq; omega
    · exact (h4 q hq).2 h6
  · rcases List.mem_append.1 hq with h6 | h6
    · exact r1.lt q h6
    · exact Nat.lt_of_lt_of_le (s.xlt q h6) r5.size
theorem two_pop (s : Two w (PB A b) Q (foot A) g X W) (u : Int) (hs : b.cIn < 1000000) :
    Calls Try.prog 22 #[.pointer (some ⟨A, 0, none⟩), .int .i64 u] W fun e w' => Got X (b.l.take (come u b.l)) W e (fun Y => Two w (PB A (b.pop u)) Q (foot A) g Y w') w' :=
  pop_by s (pb_keeps _ _) fun v h1 => (pop_any A v b u W h1 hs).mono fun e w' ⟨t, v', he, r1, r2, r3, r4, r5⟩ => ⟨t, v', he, r1, r2, r3, fun q hq => by simpa [foot, r4] using hq, r5⟩
theorem two_rpop (s : Two w (QB A b) Q (foot A) g X W) (u : Int) (hs : b.cIn < 1000000) :
    Calls Try.prog 23 #[.pointer (some ⟨A, 0, none⟩), .int .i64 u] W fun e w' => Got X (b.l.take (come u b.l)) W e (fun Y => Two w (QB A (b.pop u)) Q (foot A) g Y w') w' :=
  pop_by s (qb_keeps _ _) fun v h1 => (rpop_any A v b u W h1 hs).mono fun e w' ⟨t, v', he, r1, r2, r3, r4, r5⟩ => ⟨t, v', he, r1, r2, r3, fun q hq => by
    rcases List.mem_cons.1 hq with rfl | h
    · exact List.mem_cons_self ..
    · exact List.mem_cons_of_mem _ (r4 q h), r5.mono fun q hq => .inl (by simp at hq; subst hq; exact List.mem_cons_self ..)⟩
theorem two_peek (s : Two w (PB A b) Q (foot A) g X W) :
    Calls Try.prog 26 #[.pointer (some ⟨A, 0, none⟩)] W fun e w' => e = .returned (.tuple #[.agg (rowA 9 (fn (b.l.headD []))), .bool (!b.l.isEmpty)]) ∧ Below W.heap.size W w' := by
  obtain ⟨v, u, h1, _⟩ := s.ex
  exact peek_any A v b W h1
theorem two_len (s : Two w (PB A b) Q (foot A) g X W) : Calls Try.prog 27 #[.pointer (some ⟨A, 0, none⟩)] W fun e w' => e = .returned (.int .i64 (b.l.length : Nat)) ∧ w' = W := by
  obtain ⟨v, u, h1, _⟩ := s.ex
  exact len_any A v b W h1
theorem two_hor (s : Two w (PB A b) Q (foot A) g X W) : Calls Try.prog 28 #[.pointer (some ⟨A, 0, none⟩)] W fun e w' => e = .returned (.int .i64 b.hor) ∧ w' = W := by
  obtain ⟨v, u, h1, _⟩ := s.ex
  exact hor_any A v b W h1
theorem two_cell (s : Two w (PB A b) Q (foot A) g X W) : W.cell? ⟨A, 0, none⟩ = some (.int .i64 (b.cIn : Nat)) ∧ W.cell? ⟨A, 1, none⟩ = some (.int .i64 (b.late : Nat)) ∧ W.cell? ⟨A, 2, none⟩ = some (.int .i64 (b.full : Nat)) ∧ W.cell? ⟨A, 3, none⟩ = some (.int .i64 (b.bad : Nat)) ∧ W.cell? ⟨A, 4, none⟩ = some (.int .i64 (b.out : Nat)) := by
  obtain ⟨v, u, h1, _⟩ := s.ex
  exact ⟨h1.blk.cell 0, h1.blk.cell 1, h1.blk.cell 2, h1.blk.cell 3, h1.blk.cell 4⟩
theorem two_buf (s : Two w (PB A b) Q (foot A) g X W) : Sorted b.l ∧ (∀ y ∈ b.l, y.length = 9) ∧ b.l.length < 900 ∧ b.cIn = b.late + b.full + b.bad + b.out + b.l.length := by
  obtain ⟨v, u, h1, _⟩ := s.ex
  exact ⟨h1.srt, h1.nine, h1.len, h1.sum⟩
def sm (t : Int) : Sam := [t, 0, 0, 0, 0, 0, 0, 0, 0]
theorem two_putL (s : Two w (PB A b) Q (foot A) g X W) (t : Int) (b' : Ring) (r : Bool) (hs : b.cIn < 1000000) (hz1 : 1 ≤ b.size) (hz2 : b.size ≤ 200) (hz3 : b.l.length ≤ b.size) (hb : b.put (sm t) = b') (hr : b.putR (sm t) = r) :
    Calls Try.prog 20 #[.pointer (some ⟨A, 0, none⟩), .agg #[.int .i64 t, .int .i64 0, .int .i64 0, .int .i64 0, .int .i64 0, .int .i64 0, .int .i64 0, .int .i64 0, .int .i64 0]] W fun e w' => e = .returned (.bool r) ∧ Two w (PB A b') Q (foot A) g X w' ∧ ∀ q, q ∈ X → w'.heap[q]? = W.heap[q]? := by
  subst hb hr
  exact two_put s (sm t) hs rfl hz1 hz2 hz3
end
theorem cell_same {W w' : World} {q i : Nat} (h : w'.heap[q]? = W.heap[q]?) : w'.cell? ⟨q, i, none⟩ = W.cell? ⟨q, i, none⟩ := by
  unfold World.cell?
  rw [show w'.heap[(⟨q, i, none⟩ : Addr).block]? = W.heap[(⟨q, i, none⟩ : Addr).block]? from h]
end Go.Proofs.Ytdndomknjefgkaa.Rg
