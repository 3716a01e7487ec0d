/- The runner: known calls of the document's own scalars. -/
import Derived.Test.YtdleeeahonfnkaaSE
import Derived.Test.YtdleeeahonfnkaaQM
import Derived.Test.YtdleeeahonfnkaaQO
namespace Go.Proofs.Ytdleeeahonfnkaa.SX
open Go Go.RowKit
noncomputable section

theorem sum2 (a b : Int) : sumL [a, b] = satv a + satv b := by simp [sumL]; omega
theorem any2 (a b : Int) : anyL [a, b] = (sath a || sath b) := by simp [anyL, Bool.or_comm]
theorem sum3 (a b d : Int) : sumL [a, b, d] = satv a + satv b + satv d := by simp [sumL]; omega
theorem any3 (a b d : Int) : anyL [a, b, d] = (sath a || sath b || sath d) := by simp only [anyL, Bool.false_or]; cases sath a <;> cases sath b <;> cases sath d <;> rfl
def add2S (args : List V) (st : St) : Option (V × St) := match args with
  | [.w (.c (.p n o)), .w (.c (.i .i64 a)), .w (.c (.i .i64 b))] => flagA n o 14 15 [a, b] st
  | _ => none
def sum3S (args : List V) (st : St) : Option (V × St) := match args with
  | [.w (.c (.p n o)), .w (.c (.i .i64 a)), .w (.c (.i .i64 b)), .w (.c (.i .i64 d))] => flagA n o 14 15 [a, b, d] st
  | _ => none
def divNS (args : List V) (st : St) : Option (V × St) := match args with
  | [.w (.c (.p n o)), .w (.c (.i .i64 a)), .w (.c (.i .i64 b)), .w (.c (.i .i64 (.k (.ofNat s))))] => bif Nat.ble 1 s && Nat.ble s 63 then flagA n o 4 5 [a, b, .k (.ofNat s)] st else none
  | _ => none
section
variable {g : Sg}
theorem qsat_case : CaseOk g 110 satS := fun args st v st' h hg => by
  unfold satS at h
  split at h
  · rename_i n o a
    refine ⟨(flag_call (f := 0) (vs := []) h hg).1, fun r w vs hI hv => ?_⟩
    match vs, hv with
    | [x, y], ⟨hx, hy, _⟩ =>
      obtain rfl := den_i hy
      refine (flag_call h hg).2 r w x hI hx (sat_i64 _) fun q o hb _ hF => ?_
      simp only [U, List.map, ieq_b2i]
      exact qsat q o _ hb w hF
  · cases h
theorem qclamp_case : CaseOk g 113 clampS := fun args st v st' h hg => by
  unfold clampS at h
  split at h
  · rename_i n o a b c
    refine ⟨(flag_call (f := 0) (vs := []) h hg).1, fun r w vs hI hv => ?_⟩
    match vs, hv with
    | [x, y, z, u], ⟨hx, hy, hz, hu, _⟩ =>
      have i1 := den_in hy
      have i2 := den_in hz
      have i3 := den_in hu
      obtain rfl := den_i hy
      obtain rfl := den_i hz
      obtain rfl := den_i hu
      refine (flag_call h hg).2 r w x hI hx (by simp only [U, List.map]; unfold clampv; (repeat' split) <;> assumption) fun q o hb _ hF => ?_
      simp only [U, List.map, ieq_b2i]
      exact qclamp q o _ _ _ hb w hF
  · cases h
theorem qsub_case : CaseOk g 119 subS := fun args st v st' h hg => by
  unfold subS at h
  split at h
  · rename_i n o a b
    refine ⟨(flag_call (f := 0) (vs := []) h hg).1, fun r w vs hI hv => ?_⟩
    match vs, hv with
    | [x, y, z], ⟨hx, hy, hz, _⟩ =>
      obtain rfl := den_i hy
      obtain rfl := den_i hz
      refine (flag_call h hg).2 r w x hI hx (sat_i64 _) fun q o hb _ hF => ?_
      simp only [U, List.map, ieq_b2i, ← Bool.or_assoc]
      exact qsub q o _ _ hb w hF
  · cases h
theorem qadd_case : CaseOk g 112 add2S := fun args st v st' h hg => by
  unfold add2S at h
  split at h
  · rename_i n o a b
    refine ⟨(flag_call (f := 0) (vs := []) h hg).1, fun r w vs hI hv => ?_⟩
    match vs, hv with
    | [x, y, z], ⟨hx, hy, hz, _⟩ =>
      obtain rfl := den_i hy
      obtain rfl := den_i hz
      refine (flag_call h hg).2 r w x hI hx (sat_i64 _) fun q o hb _ hF => ?_
      simp only [U, List.map, ieq_b2i, sum2, any2, ← Bool.or_assoc]
      exact qadd2 q o _ _ hb w hF
  · cases h
theorem qmul_case : CaseOk g 145 mulS := fun args st v st' h hg => by
  unfold mulS at h
  split at h
  · rename_i n o a b s
    rw [nble, Bool.cond_decide] at h
    split at h
    · rename_i hs
      refine ⟨(flag_call (f := 0) (vs := []) h hg).1, fun r w vs hI hv => ?_⟩
      match vs, hv with
      | [x, y, z, u], ⟨hx, hy, hz, hu, _⟩ =>
        obtain rfl := den_i hy
        obtain rfl := den_i hz
        obtain rfl := den_i hu
        refine (flag_call h hg).2 r w x hI hx (sat_i64 _) fun q o hb _ hF => ?_
        simp only [U, List.map, ieq_b2i, ← Bool.or_assoc]
        exact qmul q o _ _ s hb w hF (by omega)
    · cases h
  · cases h
theorem qdiv_case : CaseOk g 146 divNS := fun args st v st' h hg => by
  unfold divNS at h
  split at h
  · rename_i n o a b s
    rw [nble, nble, ← Bool.decide_and, Bool.cond_decide] at h
    split at h
    · rename_i hs
      refine ⟨(flag_call (f := 0) (vs := []) h hg).1, fun r w vs hI hv => ?_⟩
      match vs, hv with
      | [x, y, z, u], ⟨hx, hy, hz, hu, _⟩ =>
        obtain rfl := den_i hy
        obtain rfl := den_i hz
        obtain rfl := den_i hu
        refine (flag_call h hg).2 r w x hI hx (divv_i64 _ _) fun q o hb _ hF => ?_
        simp only [U, List.map, ieq_b2i, ← Bool.or_assoc]
        exact qdiv q o _ _ s hb w hF hs.1 (by omega)
    · cases h
  · cases h
theorem sqw_eq (a : Int) : sqw a = sqv a := rfl
theorem qsqrt_case : CaseOk g 118 sqrtS := fun args st v st' h hg => by
  unfold sqrtS at h
  split at h
  · rename_i n o a
    refine ⟨(flag_call (f := 0) (vs := []) h hg).1, fun r w vs hI hv => ?_⟩
    match vs, hv with
    | [x, y], ⟨hx, hy, _⟩ =>
      obtain rfl := den_i hy
      refine (flag_call h hg).2 r w x hI hx (sqw_i64 _) fun q o hb _ hF => ?_
      simp only [U, List.map, ieq_b2i, ← Bool.or_assoc, sqwF_eq, sqw_eq]
      exact qsqrt q o _ hb w hF
  · cases h
theorem qabs_case : CaseOk g 115 absS := fun args st v st' h hg => by
  unfold absS at h
  split at h
  · rename_i a
    split at h
    rename_i rv st1 happ
    cases h
    obtain ⟨h1, h2, h3⟩ := absA_ok happ hg
    refine ⟨h1, fun r w vs hI hv => ?_⟩
    match vs, hv with
    | [x], ⟨hx, _⟩ =>
      obtain rfl := den_i hx
      refine (qabs (a.val g) w).mono fun e w' hp => ?_
      obtain ⟨rfl, hb⟩ := hp
      exact ⟨r, _, rfl, (by have h3 : rv.val g = absv (a.val g) := h3; rw [← h3]; exact mk_i r (by rw [h3]; exact absv_i64 _)), (below_mem (hI.same h2) hb).1, (below_mem (hI.same h2) hb).2⟩
  · cases h
end
def sums2 : Sum :=
  orS (one 110 satS) <|
  orS (one 113 clampS) <|
  orS (one 119 subS) <|
  orS (one 112 add2S) <|
  orS (one 145 mulS) <|
  orS (one 146 divNS) <|
  orS (one 118 sqrtS) <|
  orS (one 115 absS) <|
  sums
theorem sums2_ok (g : Sg) : CallOk Try.prog U g sums2 :=
  orS_ok (one_ok qsat_case) <|
  orS_ok (one_ok qclamp_case) <|
  orS_ok (one_ok qsub_case) <|
  orS_ok (one_ok qadd_case) <|
  orS_ok (one_ok qmul_case) <|
  orS_ok (one_ok qdiv_case) <|
  orS_ok (one_ok qsqrt_case) <|
  orS_ok (one_ok qabs_case) <|
  sums_ok g
end
end Go.Proofs.Ytdleeeahonfnkaa.SX
