/- The runner: regions that draw their order, calls. -/
import Derived.Test.YtahedampmjfoeaaSxA
namespace Go.Proofs.Ytahedampmjfoeaa.SX
open Go

section
variable (P : Program) (U : Nat → List Int → Int) (X : FuncId → Nat)

/-- The first of these that yields its value whatever comes before it. -/
def findTake (ops : Array Oper) (opl : List Oper) (listed : Array Bool) (stable : List (Nat × Bk)) (t : T) (st : St) : List Nat → Option (Nat × V × St)
  | [] => none
  | i :: r => match lkL opl i with
    | none => none
    | some o => match wantedA opl t o st with
      | some (true, st0) =>
        (match pureOp P U X t o.op st0 with
        | some (v, st') => bif Region.free .any ops listed i then some (i, v, st') else findTake ops opl listed stable t st r
        | none => match loadOp P t stable o.op with
          | some v => bif Region.free .any ops listed i then some (i, v, st0) else findTake ops opl listed stable t st r
          | none => findTake ops opl listed stable t st r)
      | some (false, st0) => bif Region.free .any ops listed i then some (i, .tup [], st0) else findTake ops opl listed stable t st r
      | none => findTake ops opl listed stable t st r
def keepsB (heap : List (Nat × Bk)) : List (Nat × Bk) → Bool
  | [] => true
  | (n, b) :: r => match hget heap n with
    | some b' => if b' = b then keepsB heap r else false
    | none => false
/-- As it stood, but with what symbols have been named. -/
def withDefs (st d : St) : St := { st with nv := d.nv, defs := d.defs }
/-- All come to the same. -/
def allSame (f : Nat → Option (T × St) → Option (T × St)) : List Nat → Option (T × St) → Option (T × St)
  | [], acc => acc
  | i :: r, none => match f i none with
    | some x => allSame f r (some x)
    | none => none
  | i :: r, some g => match f i (some g) with
    | some x => if x = g then allSame f r (some g) else none
    | none => none
def startOf (st : St) : Option (T × St) → St
  | some (_, d) => withDefs st d
  | none => st
def explore (call : FuncId → List V → St → Option (V × St)) (ops : Array Oper) (opl : List Oper) (stable : List (Nat × Bk)) (base : Nat) : Nat → Array Bool → T → St → Option (T × St)
  | 0, listed, t, st => match Region.ready .any ops listed with
    | [] => some (t, st)
    | _ => none
  | n + 1, listed, t, st =>
    match Region.ready .any ops listed with
    | [] => some (t, st)
    | rs => match findTake P U X ops opl listed stable t st rs with
      | some (i, v, st') => (match lkL opl i with
        | some o => explore call ops opl stable base n (listed.setIfInBounds i true) (putT t o.dst v) st'
        | none => none)
      | none => allSame (fun i acc => match lkL opl i with
        | none => none
        | some o => match wantedA opl t o (startOf st acc) with
          | some (true, st0) => (match stepOp P U X call t (some (base + i)) o.op st0 with
            | some (v, st') => bif keepsB st'.heap stable then explore call ops opl stable base n (listed.setIfInBounds i true) (putT t o.dst v) st' else none
            | none => none)
          | _ => none) rs none
/-- The block that an address lies in, as far as it is seen before the region is run. -/
def rootOf (opl : List Oper) (t : T) : Nat → Operand → Option Nat
  | 0, _ => none
  | n + 1, .tmp i => match opl.find? (fun o => o.dst == some i) with
    | some o => match o.op with
      | .fieldAddr _ x _ => rootOf opl t n x
      | .indexAddr _ x _ => rootOf opl t n x
      | .nilCheck x => rootOf opl t n x
      | .move x => rootOf opl t n x
      | .slice _ x _ _ _ => rootOf opl t n x
      | _ => none
    | none => match t.get i with
      | some (.w (.c (.p m _))) => some m
      | some (.w (.c (.s m _ _ _))) => some m
      | _ => none
  | _, _ => none
def isPtr (P : Program) (ty : TypeId) : Bool := match P.underlying ty with
  | some (.pointer _) => true
  | _ => false
def ptrArgs (opl : List Oper) (t : T) : List Operand → List TypeId → List Nat
  | x :: r, ty :: q => bif isPtr P ty then (match rootOf opl t 6 x with
      | some m => m :: ptrArgs opl t r q
      | none => ptrArgs opl t r q) else ptrArgs opl t r q
  | _, _ => []
def writesOf (opl : List Oper) (t : T) : List Oper → List Nat
  | [] => []
  | o :: r => match o.op with
    | .store _ x _ => (match rootOf opl t 6 x with
      | some m => m :: writesOf opl t r
      | none => writesOf opl t r)
    | .call { callee := .value _, args, argTypes } => ptrArgs P opl t args.toList argTypes.toList ++ writesOf opl t r
    | _ => writesOf opl t r
/-- What the loads of the region read, but for what it may write. -/
def loadsOf (opl : List Oper) (t : T) (ws : List Nat) (h : List (Nat × Bk)) : List Oper → List (Nat × Bk)
  | [] => []
  | o :: r => match o.op with
    | .load _ x => (match rootOf opl t 6 x with
      | some m => bif ws.contains m then loadsOf opl t ws h r else (match hget h m with
        | some b => hset (loadsOf opl t ws h r) m b
        | none => loadsOf opl t ws h r)
      | none => loadsOf opl t ws h r)
    | _ => loadsOf opl t ws h r
def upTo (n : Nat) : Nat → List Nat
  | 0 => []
  | k + 1 => (n + k) :: upTo n k
def drawRun (call : FuncId → List V → St → Option (V × St)) (ops : Array Oper) (t : T) (st : St) : Option (T × St) :=
  let opl := ops.toList
  let stable := loadsOf opl t (writesOf P opl t opl) st.heap opl
  bif keepsB st.heap stable && Region.noSelect ops then
    match explore P U X call ops opl stable st.next ops.size (Array.replicate ops.size false) t { st with next := st.next + ops.size, resv := upTo st.next ops.size ++ st.resv } with
    | some (t', st') => bif st.resv.all (fun n => st'.resv.contains n) then some (t', { st' with resv := st.resv }) else none
    | none => none
  else none
def resA (t : T) (heap : List (Nat × Bk)) : List ResultVar → Option (List W)
  | [] => some []
  | .tmp i :: r => match t.get i with
    | some (.w x) => (match resA t heap r with
      | some l => some (x :: l)
      | none => none)
    | _ => none
  | .cell a ty :: r => match loadOp P t heap (.load ty (.tmp a)) with
    | some (.w x) => (match resA t heap r with
      | some l => some (x :: l)
      | none => none)
    | _ => none
def argsT : Nat → List V → T → T
  | _, [], t => t
  | i, v :: r, t => argsT (i + 1) r (t.set 14 i v)
def C.plain : C → Bool
  | .p .. | .s .. => false
  | _ => true
def W.plain : W → Bool
  | .c x => x.plain
  | .agg l => l.all C.plain
def below (n : Nat) : List (Nat × Bk) → List (Nat × Bk)
  | [] => []
  | (m, b) :: r => bif Nat.blt m n then (m, b) :: below n r else below n r
def opsOk (n : Nat) (ops : List Oper) : Bool := ops.all fun o => match o.dst with
  | some d => Nat.blt d n && Nat.blt d 16000
  | none => true
/-- All slots that are written are there. -/
def codeOk (n : Nat) : Code → Bool
  | .region _ ops _ => opsOk n ops.toList
  | .seq a b => codeOk n a && codeOk n b
  | .cond _ a b => codeOk n a && codeOk n b
  | .block _ b => codeOk n b
  | .loop b => codeOk n b
  | .rangeFunc _ _ _ _ => false
  | .scope _ => false
  | _ => true
def retV : List W → V
  | [x] => .w x
  | l => .tup l
/-- A call: by its summary, where there is one; else by its text. -/
def runCall (sum : FuncId → List V → St → Option (V × St)) (K : Nat) : Nat → FuncId → List V → St → Option (V × St)
  | 0, _, _, _ => none
  | d + 1, f, args, st => match sum f args st with
    | some r => some r
    | none => match lkL P.funcs.toList f with
      | none => none
      | some fn => match fn.body with
        | none => none
        | some c => bif Nat.ble args.length fn.ntmps && Nat.ble args.length 1000 && codeOk fn.ntmps c then
          (match runCode P U X (runCall sum K d) (drawRun P U X (runCall sum K d)) K c (argsT 0 args .e) st with
          | some (.exit _, _, _) => none
          | some (_, t, st') => (match resA P t st'.heap fn.results.toList with
            | some l => some (retV l, bif l.all W.plain then { st' with heap := below st.next st'.heap } else st')
            | none => none)
          | none => none) else none
end
def noSum : FuncId → List V → St → Option (V × St) := fun _ _ _ => none
def st0 : St := ⟨[], 0, [], 0, [], [], []⟩
def noU : Nat → List Int → Int := fun _ _ => 0
end Go.Proofs.Ytahedampmjfoeaa.SX
