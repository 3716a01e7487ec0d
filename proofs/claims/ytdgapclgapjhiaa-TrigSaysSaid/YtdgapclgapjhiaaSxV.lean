/- The runner: a run in pieces. -/
import Derived.Test.YtdgapclgapjhiaaSE
namespace Go.Proofs.Ytdgapclgapjhiaa.SX
open Go
/-- A piece of a code: 0, 1: the first, the second of two; 2: of a block; 3: of a loop. -/
def cAt : List Nat → Code → Code
  | [], c => c
  | 0 :: r, .seq a _ => cAt r a
  | 1 :: r, .seq _ b => cAt r b
  | 2 :: r, .block _ b => cAt r b
  | 3 :: r, .loop b => cAt r b
  | _ :: _, c => c
section
variable {L : Lk} {U : Nat → List Int → Int} {X : FuncId → Nat} {call : FuncId → List V → St → Option (V × St)} {draw : Array Oper → T → St → Option (T × St)} {mk : Bool → T → (St → Option (Ex × T × St)) → St → Option (Ex × T × St)} {n : Nat} {c a b : Code} {t t1 : T} {st st1 : St} {r : Option (Ex × T × St)}
theorem rc_seq (e : c = .seq a b) (h1 : runCode L U X call draw mk n a t st = some (.normal, t1, st1)) (h2 : mk false t1 (fun st => runCode L U X call draw mk n b t1 st) st1 = r) : runCode L U X call draw mk (n + 1) c t st = r := by
  rw [e, runCode]
  simp only [h1]
  exact h2
theorem rc_block {id : Nat} (e : c = .block id b) (h : runCode L U X call draw mk n b t st = some (.exit id, t1, st1)) : runCode L U X call draw mk (n + 1) c t st = some (.normal, t1, st1) := by
  rw [e, runCode]
  simp only [h]
  have : Nat.beq id id = true := Nat.beq_refl id
  rw [this]; rfl
theorem rc_loop (e : c = .loop b) (h1 : mk true t (fun st => runCode L U X call draw mk n b t st) st = some (.normal, t1, st1)) (h2 : runCode L U X call draw mk n (.loop b) t1 st1 = r) : runCode L U X call draw mk (n + 1) c t st = r := by
  rw [e, runCode]
  simp only [h1]
  exact h2
theorem rc_out {i : Nat} (e : c = .loop b) (h1 : mk true t (fun st => runCode L U X call draw mk n b t st) st = some (.exit i, t1, st1)) : runCode L U X call draw mk (n + 1) c t st = some (.exit i, t1, st1) := by
  rw [e, runCode]
  simp only [h1]
end
/-- Where nothing is decided, there is one way. -/
theorem mk_plain {U : Nat → List Int → Int} {b : Nat} {t : T} {run : St → Option (Ex × T × St)} {st s : St} {e : Ex} {t1 : T} (ho : st.orc = []) (ho2 : s.orc = []) (h : run st = some (e, t1, s)) (hc : Nat.beq s.cs.length st.cs.length = true) : mkE U b false t run st = some (e, t1, s) := by
  have e1 : { st with orc := [] } = st := by rw [← ho]
  have e2 : { s with orc := st.orc } = s := by rw [ho, ← ho2]
  unfold mkE
  cases Nat.beq b 0
  · simp only [Bool.not_false, Bool.or_true, cond_true, cond_false]
    unfold mergeRun
    rw [e1]
    simp only [h, reE, hc, cond_true, unE, e2]
  · exact h
/-- A call whose text is run so. -/
theorem run_pol {L : Lk} {U : Nat → List Int → Int} {X : FuncId → Nat} {sum : Sum} {mc : FuncId → Bool} {ml : FuncId → Nat} {K d : Nat} {f : FuncId} {fn : Func} {c : Code} {args : List V} {st st1 : St} {t1 : T} {x : W}
    (hs : sum f args st = none) (hf : L.fns.get f = some fn) (hb : fn.body = some c) (hok : (Nat.ble args.length fn.ntmps && Nat.ble args.length 1000 && codeOk fn.ntmps c) = true) (hm : mc f = false)
    (hr : runCode L U X (runPol L U X sum mc ml K d) (drawRun L U X (runPol L U X sum mc ml K d)) (mkE U (ml f)) K c (argsT 0 args .e) st = some (.ret, t1, st1)) (hx : resA L t1 st1.heap fn.results.toList = some [x]) (hp : x.plain = true) :
    runPol L U X sum mc ml K (d + 1) f args st = some (.w x, { st1 with heap := below st.next st1.heap }) := by
  rw [runPol, hs]
  simp only [hf, hb, hok, cond_true, hm, mkV, cond_false, hr, hx, List.all_cons, List.all_nil, hp, Bool.and_self, retV]
end Go.Proofs.Ytdgapclgapjhiaa.SX
