/- A runner of translated code over symbols: what it keeps, and what it does. -/
import Derived.OrdersHeld
import Derived.LoopN
namespace Go.Proofs.Ytahedampmjfoeaa.SX
open Go

inductive A where
  | k (z : Int)
  | x (i : Nat)
  deriving DecidableEq, Inhabited
inductive C where
  | b (v : A)
  | i (kd : IntKind) (v : A)
  | p (n o : Nat)
  | pn
  | s (n o l c : Nat)
  | sn
  deriving DecidableEq, Inhabited
inductive W where
  | c (x : C)
  | agg (l : List C)
  deriving DecidableEq, Inhabited
inductive V where
  | w (x : W)
  | tup (l : List W)
  deriving DecidableEq, Inhabited
inductive Pr where
  | iop (op : BinOp) (k : IntKind)
  | shl (k : IntKind) (n : Nat)
  | shr (n : Nat)
  | cmp (op : BinOp)
  | beq
  | not
  | xorNot (k : IntKind)
  | conv (k : IntKind)
  | min | max | sel
  | u (n : Nat)
  deriving DecidableEq, Inhabited

def ieq : Int → Int → Bool
  | .ofNat a, .ofNat b => Nat.beq a b
  | .negSucc a, .negSucc b => Nat.beq a b
  | _, _ => false
def inR : IntKind → Int → Bool
  | .i64, .ofNat m => Nat.blt m 9223372036854775808
  | .i64, .negSucc m => Nat.blt m 9223372036854775808
  | .u64, .ofNat m => Nat.blt m 18446744073709551616
  | _, _ => false
def inKB (k : IntKind) (n : Int) : Bool := inR k n || decide (k.min ≤ n ∧ n ≤ k.max)
def wrapF (k : IntKind) (n : Int) : Int := bif inR k n then n else k.wrap n
def ile : Int → Int → Bool
  | .ofNat a, .ofNat b => Nat.ble a b
  | .negSucc a, .negSucc b => Nat.ble b a
  | .negSucc _, .ofNat _ => true
  | .ofNat _, .negSucc _ => false
def b2i (b : Bool) : Int := bif b then 1 else 0
def cmpF : BinOp → Int → Int → Bool
  | .eql, a, b => ieq a b
  | .neq, a, b => !ieq a b
  | .lss, a, b => !ile b a
  | .leq, a, b => ile a b
  | .gtr, a, b => !ile a b
  | .geq, a, b => ile b a
  | _, _, _ => false
def mean (U : Nat → List Int → Int) : Pr → List Int → Int
  | .iop .add k, [a, b] => wrapF k (a + b)
  | .iop .sub k, [a, b] => wrapF k (a - b)
  | .iop .mul k, [a, b] => wrapF k (a * b)
  | .iop .quo k, [a, b] => wrapF k (a.tdiv b)
  | .iop .rem _, [a, b] => a.tmod b
  | .iop .and k, [a, b] => k.wrap (BitVec.ofInt k.bits a &&& BitVec.ofInt k.bits b).toNat
  | .iop .or k, [a, b] => k.wrap (BitVec.ofInt k.bits a ||| BitVec.ofInt k.bits b).toNat
  | .iop .xor k, [a, b] => k.wrap (BitVec.ofInt k.bits a ^^^ BitVec.ofInt k.bits b).toNat
  | .iop .andNot k, [a, b] => k.wrap (BitVec.ofInt k.bits a &&& ~~~BitVec.ofInt k.bits b).toNat
  | .shl k n, [a] => wrapF k (a * 2 ^ n)
  | .shr n, [a] => a.fdiv (2 ^ n)
  | .cmp op, [a, b] => b2i (cmpF op a b)
  | .beq, [a, b] => b2i (bif ieq a 1 then ieq b 1 else !ieq b 1)
  | .not, [a] => b2i (!ieq a 1)
  | .xorNot k, [a] => k.wrap (BitVec.ofInt k.bits (if k.signed then -1 else k.max) ^^^ BitVec.ofInt k.bits a).toNat
  | .conv k, [a] => wrapF k a
  | .min, [a, b] => bif ile a b then a else b
  | .max, [a, b] => bif ile b a then a else b
  | .sel, [c, a, b] => bif ieq c 1 then a else b
  | .u n, l => U n l
  | _, _ => 0

/-- Slots by their number. -/
inductive PT (α : Type) where
  | e
  | n (l : PT α) (v : Option α) (r : PT α)
  deriving DecidableEq, Inhabited
def PT.get {α : Type} : PT α → Nat → Option α
  | .e, _ => none
  | .n l v r, i => bif Nat.beq i 0 then v else bif Nat.beq (i % 2) 1 then l.get (i / 2) else r.get (i / 2 - 1)
def PT.set {α : Type} : Nat → PT α → Nat → α → PT α
  | 0, t, _, _ => t
  | f + 1, .e, i, a => bif Nat.beq i 0 then .n .e (some a) .e else bif Nat.beq (i % 2) 1 then .n (set f .e (i / 2) a) none .e else .n .e none (set f .e (i / 2 - 1) a)
  | f + 1, .n l v r, i, a => bif Nat.beq i 0 then .n l (some a) r else bif Nat.beq (i % 2) 1 then .n (set f l (i / 2) a) v r else .n l v (set f r (i / 2 - 1) a)

structure Bk where
  cells : List C
  ty : TypeId
  deriving DecidableEq, Inhabited
structure St where
  heap : List (Nat × Bk)
  next : Nat
  resv : List Nat
  nv : Nat
  defs : List (Nat × Pr × List A)
  orc : List Bool
  cs : List (Nat × Bool)
  deriving DecidableEq, Inhabited
abbrev T := PT V

def hget : List (Nat × Bk) → Nat → Option Bk
  | [], _ => none
  | (m, b) :: r, n => bif Nat.beq m n then some b else hget r n
/-- Put in its place: the greatest name first. -/
def hset : List (Nat × Bk) → Nat → Bk → List (Nat × Bk)
  | [], n, b => [(n, b)]
  | (m, c) :: r, n, b => bif Nat.beq m n then (n, b) :: r else bif Nat.blt m n then (n, b) :: (m, c) :: r else (m, c) :: hset r n b
def cOf : Value → Option C
  | .bool b => some (.b (.k (b2i b)))
  | .int k n => bif inKB k n then some (.i k (.k n)) else none
  | .pointer none => some .pn
  | .slice none 0 0 => some .sn
  | _ => none
def cOfL : List Value → Option (List C)
  | [] => some []
  | v :: r => match cOf v with
    | none => none
    | some c => match cOfL r with
      | none => none
      | some l => some (c :: l)
def vOf : Value → Option V
  | .agg ⟨l⟩ => match cOfL l with
    | none => none
    | some l => some (.w (.agg l))
  | .tuple ⟨[]⟩ => some (.tup [])
  | v => match cOf v with
    | none => none
    | some c => some (.w (.c c))
def ev (t : T) : Operand → Option V
  | .tmp i => t.get i
  | .const v => vOf v
  | _ => none
def W.cells : W → List C
  | .c x => [x]
  | .agg l => l

def allK : List A → Option (List Int)
  | [] => some []
  | .k z :: r => match allK r with
    | none => none
    | some l => some (z :: l)
  | .x _ :: _ => none
def A.beq : A → A → Bool
  | .k a, .k b => ieq a b
  | .x a, .x b => Nat.beq a b
  | _, _ => false
def findDef (p : Pr) (as : List A) : List (Nat × Pr × List A) → Option Nat
  | [] => none
  | (n, q, bs) :: r => if q = p ∧ bs = as then some n else findDef p as r
def app (U : Nat → List Int → Int) (p : Pr) (as : List A) (st : St) : A × St :=
  match allK as with
  | some l => (.k (mean U p l), st)
  | none => match findDef p as st.defs with
    | some n => (.x n, st)
    | none => (.x st.nv, { st with nv := st.nv + 1, defs := (st.nv, p, as) :: st.defs })

section
variable (P : Program) (U : Nat → List Int → Int) (X : FuncId → Nat)

def isAggB (t : TypeId) : Option Bool := match P.underlying t with
  | some (.struct _) => some true
  | some (.array _ _) => some true
  | some _ => some false
  | none => none
def sizeB (t : TypeId) : Option Nat := match P.info? t with
  | some i => some i.size
  | none => none
def isCmp : BinOp → Bool
  | .eql | .neq | .lss | .leq | .gtr | .geq => true
  | _ => false
def isArith : BinOp → Bool
  | .add | .sub | .mul => true
  | _ => false
def isBits : BinOp → Bool
  | .and | .or | .xor | .andNot => true
  | _ => false
def intOp (op : BinOp) (k : IntKind) (a b : A) (st : St) : Option (V × St) :=
  bif isCmp op then (match app U (.cmp op) [a, b] st with | (r, st') => some (.w (.c (.b r)), st'))
  else bif isArith op || isBits op then (match app U (.iop op k) [a, b] st with | (r, st') => some (.w (.c (.i k r)), st'))
  else match op, b with
    | .quo, .k z => bif ieq z 0 then none else (match app U (.iop .quo k) [a, .k z] st with | (r, st') => some (.w (.c (.i k r)), st'))
    | .rem, .k z => bif ieq z 0 then none else (match app U (.iop .rem k) [a, .k z] st with | (r, st') => some (.w (.c (.i k r)), st'))
    | _, _ => none
def kmin (a b : Nat) : Nat := bif Nat.ble a b then a else b
def shOp (op : BinOp) (k : IntKind) (a b : A) (st : St) : Option (V × St) :=
  match b with
  | .k (.ofNat n) => match op with
    | .shl => (match app U (.shl k (kmin n k.bits)) [a] st with | (r, st') => some (.w (.c (.i k r)), st'))
    | .shr => (match app U (.shr (kmin n k.bits)) [a] st with | (r, st') => some (.w (.c (.i k r)), st'))
    | _ => none
  | _ => none
def repL {α : Type} (l : List α) : Nat → List α
  | 0 => []
  | n + 1 => l ++ repL l n
/-- The kinds of a type's cells (a whole number, or a bool), where the type's values are compared cell by cell. -/
def flatFs (flat : TypeId → Option (List Bool)) : List Field → Nat → Option (List Bool)
  | [], _ => some []
  | f :: r, o => if f.name ≠ "_" ∧ f.offset = o then (match flat f.type, sizeB P f.type with
    | some ks, some s => if ks.length = s then (match flatFs flat r (o + s) with
      | some l => some (ks ++ l)
      | none => none) else none
    | _, _ => none) else none
def flat : Nat → TypeId → Option (List Bool)
  | 0, _ => none
  | d + 1, t => match P.underlying t with
    | some (.int _) => some [true]
    | some .bool => some [false]
    | some (.array n e) => (match flat d e, sizeB P e with
      | some ks, some s => if ks.length = s then some (repL ks n) else none
      | _, _ => none)
    | some (.struct fs) => if P.stoodInHeld t then none else flatFs P (flat d) fs.toList 0
    | _ => none
def eqCells : List Bool → List C → List C → A → St → Option (A × St)
  | [], [], [], acc, st => some (acc, st)
  | true :: ks, .i k a :: r, .i k' b :: q, acc, st => if k = k' then (bif A.beq a b then eqCells ks r q acc st else
      match app U (.cmp .eql) [a, b] st with
      | (e, st1) => match app U .sel [acc, e, .k 0] st1 with
        | (e2, st2) => eqCells ks r q e2 st2) else none
  | false :: ks, .b a :: r, .b b :: q, acc, st => bif A.beq a b then eqCells ks r q acc st else
      match app U .beq [a, b] st with
      | (e, st1) => match app U .sel [acc, e, .k 0] st1 with
        | (e2, st2) => eqCells ks r q e2 st2
  | _, _, _, _, _ => none
def flatOk (ty : TypeId) : Option (List Bool) := bif isAggB P ty == some true && !P.eqGuardType P.depth ty then flat P 8 ty else none
def binOpA (op : BinOp) (ty : TypeId) (x y : V) (st : St) : Option (V × St) :=
  match x, y with
  | .w (.c (.i k a)), .w (.c (.i k' b)) => (match op with
    | .shl => shOp U .shl k a b st
    | .shr => shOp U .shr k a b st
    | op => if k = k' then intOp U op k a b st else none)
  | .w (.c (.b a)), .w (.c (.b b)) => (match P.underlying ty with
    | some .bool => (match op with
      | .eql => (match app U .beq [a, b] st with | (r, st') => some (.w (.c (.b r)), st'))
      | .neq => (match app U .beq [a, b] st with | (r, st') => match app U .not [r] st' with | (r2, st2) => some (.w (.c (.b r2)), st2))
      | _ => none)
    | _ => none)
  | .w (.agg l), .w (.agg m) => (match flatOk P ty with
    | some ks => (match eqCells U ks l m (.k 1) st with
      | some (r, st') => (match op with
        | .eql => some (.w (.c (.b r)), st')
        | .neq => (match app U .not [r] st' with | (r2, st2) => some (.w (.c (.b r2)), st2))
        | _ => none)
      | none => none)
    | none => none)
  | _, _ => none
def fillA (place : Nat → Option (Nat × Nat)) : List C → List (Nat × W) → Option (List C)
  | cells, [] => some cells
  | cells, (i, v) :: rest => match place i with
    | none => none
    | some (off, size) => bif Nat.beq v.cells.length size && Nat.ble (off + size) cells.length then
        fillA place (cells.take off ++ v.cells ++ cells.drop (off + size)) rest else none
def zeroA (t : TypeId) : Option (List C) := match P.info? t with
  | some i => match i.zero with
    | some z => match vOf z with
      | some (.w x) => some x.cells
      | _ => none
    | none => none
  | none => none
def partsA (t : T) : List (Nat × Operand) → Option (List (Nat × W))
  | [] => some []
  | (i, o) :: r => match ev t o with
    | some (.w x) => match partsA t r with
      | some l => some ((i, x) :: l)
      | none => none
    | _ => none
def lkL {α : Type} : List α → Nat → Option α
  | [], _ => none
  | x :: r, i => bif Nat.beq i 0 then some x else lkL r (i - 1)
def placeS (fs : List Field) (i : Nat) : Option (Nat × Nat) := match lkL fs i with
  | some f => match sizeB P f.type with
    | some s => some (f.offset, s)
    | none => none
  | none => none
def buildA (t : TypeId) (parts : List (Nat × W)) : Option (List C) :=
  match zeroA P t with
  | none => none
  | some z => match P.underlying t with
    | some (.struct fs) => bif fs.toList.all (fun f => (sizeB P f.type).isSome) then fillA (placeS P fs.toList) z parts else none
    | some (.array _ e) => match sizeB P e with
      | some s => fillA (fun i => some (i * s, s)) z parts
      | none => none
    | _ => none
def buildSliceA (t : TypeId) (n : Nat) (parts : List (Nat × W)) : Option (List C × TypeId) :=
  match P.underlying t with
  | some (.slice e) => match sizeB P e, zeroA P e with
    | some s, some z => bif Nat.ble (n * s) 16777216 && Nat.beq z.length s && Nat.blt 0 s then
        (match fillA (fun i => some (i * s, s)) (repL z n) parts with
        | some l => some (l, e)
        | none => none) else none
    | _, _ => none
  | _ => none
def takeN {α : Type} : List α → Nat → Option (List α)
  | _, 0 => some []
  | [], _ + 1 => none
  | x :: r, n + 1 => match takeN r n with
    | some l => some (x :: l)
    | none => none
def partA (t : TypeId) (l : List C) (off : Nat) : Option W :=
  match isAggB P t with
  | some true => (match sizeB P t with
    | some s => match takeN (l.drop off) s with
      | some m => some (.agg m)
      | none => none
    | none => none)
  | some false => (match lkL l off with
    | some c => some (.c c)
    | none => none)
  | none => none
def csGet : List (Nat × Bool) → Nat → Option Bool
  | [], _ => none
  | (m, b) :: r, n => bif Nat.beq m n then some b else csGet r n
def pickA (c a b : V) (st : St) : Option (V × St) := match c with
  | .w (.c (.b (.k z))) => some (bif ieq z 1 then a else b, st)
  | .w (.c (.b (.x n))) => match csGet st.cs n with
    | some q => some (bif q then a else b, st)
    | none => match a, b with
      | .w (.c (.b x)), .w (.c (.b y)) => (match app U .sel [.x n, x, y] st with | (r, st') => some (.w (.c (.b r)), st'))
      | _, _ => none
  | _ => none
def unA (op : UnOp) (x : V) (st : St) : Option (V × St) := match op, x with
  | .not, .w (.c (.b a)) => (match app U .not [a] st with | (r, st') => some (.w (.c (.b r)), st'))
  | .neg, .w (.c (.i k a)) => (match app U (.iop .sub k) [.k 0, a] st with | (r, st') => some (.w (.c (.i k r)), st'))
  | .xor, .w (.c (.i k a)) => (match app U (.xorNot k) [a] st with | (r, st') => some (.w (.c (.i k r)), st'))
  | _, _ => none
def convA (src dst : TypeId) (x : V) (st : St) : Option (V × St) := match P.underlying src, P.underlying dst, x with
  | some _, some (.int k), .w (.c (.i _ a)) => (match app U (.conv k) [a] st with | (r, st') => some (.w (.c (.i k r)), st'))
  | _, _, _ => none
def nilA (x : V) : Option V := match x with
  | .w (.c (.p n o)) => some (.w (.c (.p n o)))
  | _ => none
def fieldAddrA (s : TypeId) (x : V) (f : Nat) : Option V := match P.underlying s, x with
  | some (.struct fs), .w (.c (.p n o)) => (match lkL fs.toList f with
    | some fd => (match sizeB P fd.type with
      | some (_ + 1) => some (.w (.c (.p n (o + fd.offset))))
      | _ => none)
    | none => none)
  | _, _ => none
def fieldA (s : TypeId) (x : V) (f : Nat) : Option V := match P.underlying s, x with
  | some (.struct fs), .w (.agg l) => (match lkL fs.toList f with
    | some fd => (match partA P fd.type l fd.offset with
      | some r => some (.w r)
      | none => none)
    | none => none)
  | _, _ => none
def indexAddrA (ty : TypeId) (x i : V) : Option V := match i with
  | .w (.c (.i _ (.k (.ofNat j)))) => match P.underlying ty, x with
    | some (.array len e), .w (.c (.p n o)) => bif Nat.blt j len then (match sizeB P e with
      | some s => some (.w (.c (.p n (o + j * s))))
      | none => none) else none
    | some (.slice e), .w (.c (.s n o len _)) => bif Nat.blt j len then (match sizeB P e with
      | some s => some (.w (.c (.p n (o + j * s))))
      | none => none) else none
    | _, _ => none
  | _ => none
/-- A byte of a string that stands in the text. -/
def strA (ty : TypeId) (s : List UInt8) (i : V) : Option V := match i with
  | .w (.c (.i _ (.k (.ofNat j)))) => match P.underlying ty, lkL s j with
    | some .string, some b => some (.w (.c (.i .u8 (.k (.ofNat b.toNat)))))
    | _, _ => none
  | _ => none
def indexA (ty : TypeId) (x i : V) : Option V := match i with
  | .w (.c (.i _ (.k (.ofNat j)))) => match P.underlying ty, x with
    | some (.array len e), .w (.agg l) => bif Nat.blt j len then (match sizeB P e with
      | some s => (match partA P e l (j * s) with
        | some r => some (.w r)
        | none => none)
      | none => none) else none
    | _, _ => none
  | _ => none
def extractA (x : V) (i : Nat) : Option V := match x with
  | .tup l => (match lkL l i with
    | some r => some (.w r)
    | none => none)
  | _ => none
/-- Of a slice the first so many. -/
def headA (ty : TypeId) (x h : V) : Option V := match h with
  | .w (.c (.i _ (.k (.ofNat j)))) => match P.underlying ty, x with
    | some (.slice e), .w (.c (.s n o _ cap)) => (match sizeB P e with
      | some _ => bif Nat.ble j cap && Nat.blt 0 cap then some (.w (.c (.s n o j cap))) else none
      | none => none)
    | some (.slice e), .w (.c .sn) => (match sizeB P e with
      | some _ => bif Nat.beq j 0 then some (.w (.c .sn)) else none
      | none => none)
    | _, _ => none
  | _ => none
def lenA (ty : TypeId) (x : V) : Option V := match P.underlying ty, x with
  | some (.slice _), .w (.c (.s _ _ l _)) => bif inKB .i64 (.ofNat l) then some (.w (.c (.i .i64 (.k (.ofNat l))))) else none
  | some (.slice _), .w (.c .sn) => some (.w (.c (.i .i64 (.k 0))))
  | some (.array n _), _ => bif inKB .i64 (.ofNat n) then some (.w (.c (.i .i64 (.k (.ofNat n))))) else none
  | _, _ => none
def minA (p : Pr) (args : List V) (st : St) : Option (V × St) := match args with
  | [.w (.c (.i k a)), .w (.c (.i k' b))] => if k = k' then (match app U p [a, b] st with | (r, st') => some (.w (.c (.i k r)), st')) else none
  | [.w (.c (.i k a)), .w (.c (.i k' b)), .w (.c (.i k'' c))] => if k = k' ∧ k = k'' then (match app U p [a, b] st with
    | (r, st') => match app U p [r, c] st' with
      | (r2, st2) => some (.w (.c (.i k r2)), st2)) else none
  | _ => none
def evL (t : T) : List Operand → Option (List V)
  | [] => some []
  | o :: r => match ev t o with
    | some v => match evL t r with
      | some l => some (v :: l)
      | none => none
    | none => none
def stay (v : Option V) (st : St) : Option (V × St) := match v with
  | some v => some (v, st)
  | none => none
def ev1 (t : T) (x : Operand) (f : V → Option (V × St)) : Option (V × St) := match ev t x with
  | some v => f v
  | none => none
def builtinA (b : Builtin) (tys : List TypeId) (args : List V) (st : St) : Option (V × St) := match b with
  | .len => match tys, args with
    | [ty], [x] => stay (lenA P ty x) st
    | _, _ => none
  | .min => minA U .min args st
  | .max => minA U .max args st
  | _ => none
/-- Functions without a text: sums and differences of 64 bits, with a carry. -/
def extA (k : Nat) (args : List V) : Option V := match args with
  | [.w (.c (.i .u64 (.k (.ofNat a)))), .w (.c (.i .u64 (.k (.ofNat b)))), .w (.c (.i .u64 (.k (.ofNat c))))] => bif Nat.ble c 1 then
      (bif Nat.beq k 1 then some (.tup [.c (.i .u64 (.k (.ofNat ((a + b + c) % 18446744073709551616)))), .c (.i .u64 (.k (.ofNat ((a + b + c) / 18446744073709551616))))])
      else bif Nat.beq k 2 then some (.tup [.c (.i .u64 (.k (.ofNat ((a + 18446744073709551616 - b - c) % 18446744073709551616)))), .c (.i .u64 (.k (.ofNat (bif Nat.blt a (b + c) then 1 else 0))))])
      else none) else none
  | _ => none
/-- What yields its value in whatever world. -/
def pureOp (t : T) (op : Op) (st : St) : Option (V × St) :=
  match op with
  | .move x => ev1 t x fun v => some (v, st)
  | .assign x => ev1 t x fun v => some (v, st)
  | .pick c a b => ev1 t c fun c => ev1 t a fun a => ev1 t b fun b => pickA U c a b st
  | .build ty parts => match partsA t parts.toList with
    | some l => match buildA P ty l with
      | some r => some (.w (.agg r), st)
      | none => none
    | none => none
  | .binOp op ty x y _ => ev1 t x fun a => ev1 t y fun b => binOpA P U op ty a b st
  | .unOp op _ x => ev1 t x fun a => unA U op a st
  | .convert src dst x => ev1 t x fun a => convA P U src dst a st
  | .nilCheck x => ev1 t x fun a => stay (nilA a) st
  | .fieldAddr s x f => ev1 t x fun a => stay (fieldAddrA P s a f) st
  | .field s x f => ev1 t x fun a => stay (fieldA P s a f) st
  | .indexAddr ty x i => ev1 t x fun a => ev1 t i fun b => stay (indexAddrA P ty a b) st
  | .index ty (.const (.string ⟨⟨s⟩⟩)) i => ev1 t i fun b => stay (strA P ty s b) st
  | .index ty x i => ev1 t x fun a => ev1 t i fun b => stay (indexA P ty a b) st
  | .extract x i => ev1 t x fun a => stay (extractA a i) st
  | .slice ty x none (some h) none => ev1 t x fun a => ev1 t h fun b => stay (headA P ty a b) st
  | .call { callee := .builtin b, args, argTypes } => match evL t args.toList with
    | some l => builtinA P U b argTypes.toList l st
    | none => none
  | .call { callee := .value (.func f), args, argTypes := _ } => bif Nat.beq (X f) 0 then none else match evL t args.toList with
    | some l => stay (extA (X f) l) st
    | none => none
  | _ => none

def loadOp (t : T) (heap : List (Nat × Bk)) (op : Op) : Option V :=
  match op with
  | .load ty x => match ev t x with
    | some (.w (.c (.p n o))) => match hget heap n with
      | some bk => match partA P ty bk.cells o with
        | some r => some (.w r)
        | none => none
      | none => none
    | _ => none
  | _ => none
def setCells (l : List C) (off : Nat) (vs : List C) : Option (List C) :=
  bif Nat.ble (off + vs.length) l.length then some (l.take off ++ vs ++ l.drop (off + vs.length)) else none
def mkBk (nm : Option Nat) (cells : List C) (ty : TypeId) (r : Nat → V) (st : St) : Option (V × St) := match nm with
  | some n => bif st.resv.contains n then some (r n, { st with heap := hset st.heap n ⟨cells, ty⟩, resv := st.resv.filter fun x => !Nat.beq x n }) else none
  | none => some (r st.next, { st with heap := hset st.heap st.next ⟨cells, ty⟩, next := st.next + 1 })
def hasBody (f : FuncId) : Bool := match lkL P.funcs.toList f with
  | some fn => fn.body.isSome
  | none => false
/-- What writes, makes memory, or calls. -/
def effOp (call : FuncId → List V → St → Option (V × St)) (t : T) (nm : Option Nat) (op : Op) (st : St) : Option (V × St) :=
  match op with
  | .alloc ty => match zeroA P ty with
    | some z => mkBk nm z ty (fun n => .w (.c (.p n 0))) st
    | none => none
  | .box ty x => match ev t x with
    | some (.w v) => mkBk nm v.cells ty (fun n => .w (.c (.p n 0))) st
    | _ => none
  | .buildSlice ty len parts => match partsA t parts.toList with
    | some l => match buildSliceA P ty len l with
      | some (cells, e) => mkBk nm cells e (fun n => .w (.c (.s n 0 len len))) st
      | none => none
    | none => none
  | .store ty x v => match ev t x, ev t v with
    | some (.w (.c (.p n o))), some (.w v) => match hget st.heap n, sizeB P ty with
      | some bk, some s => bif Nat.beq v.cells.length s then (match setCells bk.cells o v.cells with
        | some l => some (.tup [], { st with heap := hset st.heap n ⟨l, bk.ty⟩ })
        | none => none) else none
      | _, _ => none
    | _, _ => none
  | .call { callee := .value (.func f), args, argTypes := _ } => match evL t args.toList with
    | some l => bif hasBody P f then call f l st else none
    | none => none
  | _ => none
def stepOp (call : FuncId → List V → St → Option (V × St)) (t : T) (nm : Option Nat) (op : Op) (st : St) : Option (V × St) :=
  match pureOp P U X t op st with
  | some r => some r
  | none => match loadOp P t st.heap op with
    | some v => some (v, st)
    | none => effOp P call t nm op st
def putT (t : T) (dst : Option Nat) (v : V) : T := match dst with
  | some d => t.set 14 d v
  | none => t
/-- A condition on symbols is answered as it was, or by the next of the foretold answers. -/
def decideC (v : V) (st : St) : Option (Bool × St) := match v with
  | .w (.c (.b (.k z))) => some (ieq z 1, st)
  | .w (.c (.b (.x n))) => match csGet st.cs n with
    | some b => some (b, st)
    | none => match st.orc with
      | b :: r => some (b, { st with orc := r, cs := (n, b) :: st.cs })
      | [] => none
  | _ => none
/-- Is the operation carried out? -/
def wantedA (ops : List Oper) (t : T) (o : Oper) (st : St) : Option (Bool × St) := match o.guard with
  | none => some (true, st)
  | some (j, want) => match lkL ops j with
    | some oj => match oj.dst with
      | some d => match t.get d with
        | some (.tup []) => some (false, st)
        | some v => match decideC v st with
          | some (b, st') => some (bif want then b else !b, st')
          | none => none
        | none => none
      | none => none
    | none => none
def runOps (call : FuncId → List V → St → Option (V × St)) (all : List Oper) : List Oper → T → St → Option (T × St)
  | [], t, st => some (t, st)
  | o :: r, t, st => match wantedA all t o st with
    | some (true, st0) => match stepOp P U X call t none o.op st0 with
      | some (v, st') => runOps call all r (putT t o.dst v) st'
      | none => none
    | some (false, st0) => runOps call all r (putT t o.dst (.tup [])) st0
    | none => none

inductive Ex where
  | normal | exit (id : Nat) | ret
  deriving DecidableEq, Inhabited
def runCode (call : FuncId → List V → St → Option (V × St)) (draw : Array Oper → T → St → Option (T × St)) : Nat → Code → T → St → Option (Ex × T × St)
  | 0, _, _, _ => none
  | n + 1, c, t, st => match c with
    | .skip => some (.normal, t, st)
    | .region _ ops d => bif d then (match draw ops t st with
        | some (t', st') => some (.normal, t', st')
        | none => none)
      else (match runOps P U X call ops.toList ops.toList t st with
        | some (t', st') => some (.normal, t', st')
        | none => none)
    | .seq a b => match runCode call draw n a t st with
      | some (.normal, t', st') => runCode call draw n b t' st'
      | r => r
    | .cond c a b => match ev t c with
      | some v => match decideC v st with
        | some (true, st') => runCode call draw n a t st'
        | some (false, st') => runCode call draw n b t st'
        | none => none
      | none => none
    | .block id b => match runCode call draw n b t st with
      | some (.exit j, t', st') => bif Nat.beq j id then some (.normal, t', st') else some (.exit j, t', st')
      | r => r
    | .loop b => match runCode call draw n b t st with
      | some (.normal, t', st') => runCode call draw n (.loop b) t' st'
      | r => r
    | .exit id => some (.exit id, t, st)
    | .label _ => some (.normal, t, st)
    | .ret => some (.ret, t, st)
    | _ => none
end
end Go.Proofs.Ytahedampmjfoeaa.SX
