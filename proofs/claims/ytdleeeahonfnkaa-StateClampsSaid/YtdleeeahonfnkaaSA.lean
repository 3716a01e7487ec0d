/- A runner of translated code over symbols: what it keeps, and what it does. -/
import Derived.LoopN
import Derived.OrdersHeld

/- SxA -/
namespace Go.Proofs.Ytdleeeahonfnkaa.SX
open Go
noncomputable section

inductive A where
  | k (z : Int)
  | x (i : Nat)
  deriving DecidableEq, Inhabited
inductive C where
  | b (v : A)
  | i (kd : IntKind) (v : A)
  | p (n o : Nat)
  | pn
  | s (n o l c : Nat)
  | sn
  | so (n o l d : Nat)
  | sz (i : Nat)
  | sx (i : Nat) (a : A)
  deriving DecidableEq, Inhabited
inductive W where
  | c (x : C)
  | agg (l : List C)
  deriving DecidableEq, Inhabited
inductive V where
  | w (x : W)
  | tup (l : List W)
  deriving DecidableEq, Inhabited
inductive Pr where
  | iop (op : BinOp) (k : IntKind)
  | shl (k : IntKind) (n : Nat)
  | shr (n : Nat)
  | cmp (op : BinOp)
  | beq
  | not
  | xorNot (k : IntKind)
  | conv (k : IntKind)
  | min | max | sel
  | lin (k : Int) (cs : List Int)
  | u (n : Nat)
  deriving DecidableEq, Inhabited

def ieq : Int → Int → Bool
  | .ofNat a, .ofNat b => Nat.beq a b
  | .negSucc a, .negSucc b => Nat.beq a b
  | _, _ => false
def inR : IntKind → Int → Bool
  | .i64, .ofNat m => Nat.blt m 9223372036854775808
  | .i64, .negSucc m => Nat.blt m 9223372036854775808
  | .u64, .ofNat m => Nat.blt m 18446744073709551616
  | _, _ => false
def inKB (k : IntKind) (n : Int) : Bool := inR k n || decide (k.min ≤ n ∧ n ≤ k.max)
def wrapF (k : IntKind) (n : Int) : Int := bif inR k n then n else k.wrap n
def ile : Int → Int → Bool
  | .ofNat a, .ofNat b => Nat.ble a b
  | .negSucc a, .negSucc b => Nat.ble b a
  | .negSucc _, .ofNat _ => true
  | .ofNat _, .negSucc _ => false
def b2i (b : Bool) : Int := bif b then 1 else 0
def cmpF : BinOp → Int → Int → Bool
  | .eql, a, b => ieq a b
  | .neq, a, b => !ieq a b
  | .lss, a, b => !ile b a
  | .leq, a, b => ile a b
  | .gtr, a, b => !ile a b
  | .geq, a, b => ile b a
  | _, _, _ => false
/-- A number and multiples of others. -/
def linV (k : Int) : List Int → List Int → Int
  | c :: cs, x :: xs => c * x + linV k cs xs
  | _, _ => k
def mean (U : Nat → List Int → Int) : Pr → List Int → Int
  | .iop .add k, [a, b] => wrapF k (a + b)
  | .iop .sub k, [a, b] => wrapF k (a - b)
  | .iop .mul k, [a, b] => wrapF k (a * b)
  | .iop .quo k, [a, b] => wrapF k (a.tdiv b)
  | .iop .rem _, [a, b] => a.tmod b
  | .iop .and k, [a, b] => k.wrap (BitVec.ofInt k.bits a &&& BitVec.ofInt k.bits b).toNat
  | .iop .or k, [a, b] => k.wrap (BitVec.ofInt k.bits a ||| BitVec.ofInt k.bits b).toNat
  | .iop .xor k, [a, b] => k.wrap (BitVec.ofInt k.bits a ^^^ BitVec.ofInt k.bits b).toNat
  | .iop .andNot k, [a, b] => k.wrap (BitVec.ofInt k.bits a &&& ~~~BitVec.ofInt k.bits b).toNat
  | .shl k n, [a] => wrapF k (a * 2 ^ n)
  | .shr n, [a] => a.fdiv (2 ^ n)
  | .cmp op, [a, b] => b2i (cmpF op a b)
  | .beq, [a, b] => b2i (bif ieq a 1 then ieq b 1 else !ieq b 1)
  | .not, [a] => b2i (!ieq a 1)
  | .xorNot k, [a] => k.wrap (BitVec.ofInt k.bits (if k.signed then -1 else k.max) ^^^ BitVec.ofInt k.bits a).toNat
  | .conv k, [a] => wrapF k a
  | .min, [a, b] => bif ile a b then a else b
  | .max, [a, b] => bif ile b a then a else b
  | .sel, [c, a, b] => bif ieq c 1 then a else b
  | .lin k cs, l => linV k cs l
  | .u n, l => U n l
  | _, _ => 0

/-- Slots by their number. -/
inductive PT (α : Type) where
  | e
  | n (l : PT α) (v : Option α) (r : PT α)
  deriving DecidableEq, Inhabited
def PT.get {α : Type} (t : PT α) : Nat → Option α :=
  PT.rec (motive := fun _ => Nat → Option α) (fun _ => none)
    (fun _ v _ gl gr i => Bool.rec (motive := fun _ => Option α) (Bool.rec (motive := fun _ => Option α) (gr (Nat.sub (Nat.div i 2) 1)) (gl (Nat.div i 2)) (Nat.beq (Nat.mod i 2) 1)) v (Nat.beq i 0)) t
theorem PT.get_e {α : Type} (i : Nat) : (PT.e : PT α).get i = none := rfl
theorem PT.get_n {α : Type} (l : PT α) (v : Option α) (r : PT α) (i : Nat) : (PT.n l v r).get i = bif Nat.beq i 0 then v else bif Nat.beq (i % 2) 1 then l.get (i / 2) else r.get (i / 2 - 1) := by
  show Bool.rec (motive := fun _ => Option α) (Bool.rec (motive := fun _ => Option α) (r.get (i / 2 - 1)) (l.get (i / 2)) (Nat.beq (i % 2) 1)) v (Nat.beq i 0) = _
  cases Nat.beq i 0 <;> cases Nat.beq (i % 2) 1 <;> rfl
def PT.set {α : Type} (f : Nat) : PT α → Nat → α → PT α :=
  Nat.rec (motive := fun _ => PT α → Nat → α → PT α) (fun t _ _ => t)
    (fun _ st t i a => PT.rec (motive := fun _ => PT α)
      (Bool.rec (motive := fun _ => PT α) (Bool.rec (motive := fun _ => PT α) (.n .e none (st .e (Nat.sub (Nat.div i 2) 1) a)) (.n (st .e (Nat.div i 2) a) none .e) (Nat.beq (Nat.mod i 2) 1)) (.n .e (some a) .e) (Nat.beq i 0))
      (fun l v r _ _ => Bool.rec (motive := fun _ => PT α) (Bool.rec (motive := fun _ => PT α) (.n l v (st r (Nat.sub (Nat.div i 2) 1) a)) (.n (st l (Nat.div i 2) a) v r) (Nat.beq (Nat.mod i 2) 1)) (.n l (some a) r) (Nat.beq i 0)) t) f
theorem PT.set_z {α : Type} (t : PT α) (i : Nat) (a : α) : PT.set 0 t i a = t := rfl
theorem PT.set_e {α : Type} (f i : Nat) (a : α) : PT.set (f + 1) .e i a = bif Nat.beq i 0 then .n .e (some a) .e else bif Nat.beq (i % 2) 1 then .n (set f .e (i / 2) a) none .e else .n .e none (set f .e (i / 2 - 1) a) := by
  show Bool.rec (motive := fun _ => PT α) (Bool.rec (motive := fun _ => PT α) (.n .e none (set f .e (i / 2 - 1) a)) (.n (set f .e (i / 2) a) none .e) (Nat.beq (i % 2) 1)) (.n .e (some a) .e) (Nat.beq i 0) = _
  cases Nat.beq i 0 <;> cases Nat.beq (i % 2) 1 <;> rfl
theorem PT.set_n {α : Type} (f i : Nat) (a : α) (l : PT α) (v : Option α) (r : PT α) : PT.set (f + 1) (.n l v r) i a = bif Nat.beq i 0 then .n l (some a) r else bif Nat.beq (i % 2) 1 then .n (set f l (i / 2) a) v r else .n l v (set f r (i / 2 - 1) a) := by
  show Bool.rec (motive := fun _ => PT α) (Bool.rec (motive := fun _ => PT α) (.n l v (set f r (i / 2 - 1) a)) (.n (set f l (i / 2) a) v r) (Nat.beq (i % 2) 1)) (.n l (some a) r) (Nat.beq i 0) = _
  cases Nat.beq i 0 <;> cases Nat.beq (i % 2) 1 <;> rfl

/-- Memory of one's own, all of it known; of one's own, what is known of it lies in the midst (numbers of s cells); what is read alone. -/
inductive Kd where
  | own | op (s : Nat) | vw
  deriving DecidableEq, Inhabited
structure Bk where
  cells : List C
  ty : TypeId
  kd : Kd
  deriving DecidableEq, Inhabited
def Kd.free : Kd → Bool
  | .vw => false
  | _ => true
structure St where
  heap : List (Nat × Bk)
  next : Nat
  resv : List Nat
  nv : Nat
  dt : PT (Pr × List A)
  ix : PT (List Nat)
  rg : PT (Int × Int)
  bad : Bool
  orc : List Bool
  cs : List (Nat × Bool)
  ci : List (Bool × A × A × Bool)
  deriving DecidableEq, Inhabited
abbrev T := PT V

def hget : List (Nat × Bk) → Nat → Option Bk
  | [], _ => none
  | (m, b) :: r, n => bif Nat.beq m n then some b else hget r n
/-- Put in its place: the greatest name first. -/
def hset : List (Nat × Bk) → Nat → Bk → List (Nat × Bk)
  | [], n, b => [(n, b)]
  | (m, c) :: r, n, b => bif Nat.beq m n then (n, b) :: r else bif Nat.blt m n then (n, b) :: (m, c) :: r else (m, c) :: hset r n b
def cOf : Value → Option C
  | .bool b => some (.b (.k (b2i b)))
  | .int k n => bif inKB k n then some (.i k (.k n)) else none
  | .pointer none => some .pn
  | .slice none 0 0 => some .sn
  | _ => none
def cOfL : List Value → Option (List C)
  | [] => some []
  | v :: r => match cOf v with
    | none => none
    | some c => match cOfL r with
      | none => none
      | some l => some (c :: l)
def vOf : Value → Option V
  | .agg ⟨l⟩ => match cOfL l with
    | none => none
    | some l => some (.w (.agg l))
  | .tuple ⟨[]⟩ => some (.tup [])
  | v => match cOf v with
    | none => none
    | some c => some (.w (.c c))
def ev (t : T) : Operand → Option V
  | .tmp i => t.get i
  | .const v => vOf v
  | _ => none
def W.cells : W → List C
  | .c x => [x]
  | .agg l => l

def allK : List A → Option (List Int)
  | [] => some []
  | .k z :: r => match allK r with
    | none => none
    | some l => some (z :: l)
  | .x _ :: _ => none
def A.beq : A → A → Bool
  | .k a, .k b => ieq a b
  | .x a, .x b => Nat.beq a b
  | _, _ => false
def A.beqL : List A → List A → Bool
  | [], [] => true
  | a :: l, b :: m => bif A.beq a b then A.beqL l m else false
  | _, _ => false
/-- What has been named so. -/
def getD (st : St) (n : Nat) : Option (Pr × List A) := bif Nat.blt n st.nv then st.dt.get n else none
def A.code : A → Nat
  | .k (.ofNat n) => n % 4093 * 2
  | .k (.negSucc n) => n % 4093 * 2 + 1
  | .x i => 5 * i + 7
def A.codeL : List A → Nat
  | [] => 1
  | a :: l => a.code + 31 * A.codeL l
def Pr.code : Pr → Nat
  | .u n => n + 16
  | .iop .add _ => 1
  | .iop .sub _ => 2
  | .iop _ _ => 3
  | .cmp .lss => 4
  | .cmp _ => 5
  | .sel => 6
  | .lin _ _ => 8
  | _ => 7
def hashP (p : Pr) (as : List A) : Nat := (p.code + 64 * A.codeL as) % 16381
def findIn (st : St) (p : Pr) (as : List A) : List Nat → Option Nat
  | [] => none
  | n :: r => match getD st n with
    | some (q, bs) => bif A.beqL bs as then (if q = p then some n else findIn st p as r) else findIn st p as r
    | none => findIn st p as r
def bucket (st : St) (h : Nat) : List Nat := match st.ix.get h with
  | some l => l
  | none => []
/-! ### Bounds -/
abbrev Rg := Option (Int × Int)
def kindR : IntKind → Rg
  | .i64 => some (-9223372036854775808, 9223372036854775807)
  | .u64 => some (0, 18446744073709551615)
  | _ => none
def fitR (k : IntKind) (lo hi : Int) : Rg := bif inR k lo && inR k hi then some (lo, hi) else kindR k
def imin (a b : Int) : Int := bif ile a b then a else b
def imax (a b : Int) : Int := bif ile a b then b else a
def addR (k : IntKind) : Rg → Rg → Rg
  | some (a, b), some (c, d) => fitR k (a + c) (b + d)
  | _, _ => kindR k
def subR (k : IntKind) : Rg → Rg → Rg
  | some (a, b), some (c, d) => fitR k (a - d) (b - c)
  | _, _ => kindR k
def mulLo (a b c d : Int) : Int := imin (imin (a * c) (a * d)) (imin (b * c) (b * d))
def mulHi (a b c d : Int) : Int := imax (imax (a * c) (a * d)) (imax (b * c) (b * d))
def mulR (k : IntKind) : Rg → Rg → Rg
  | some (a, b), some (c, d) => fitR k (mulLo a b c d) (mulHi a b c d)
  | _, _ => kindR k
/-- A square. -/
def sqK (k : IntKind) : Rg → Rg
  | some (a, b) => fitR k 0 (imax (a * a) (b * b))
  | none => kindR k
def remR (z : Int) : Rg → Rg
  | some (a, b) => bif ile 1 z then some (bif ile 0 a then 0 else 1 - z, bif ile b 0 then 0 else z - 1) else none
  | none => bif ile 1 z then some (1 - z, z - 1) else none
def quoR (k : IntKind) (z : Int) : Rg → Rg
  | some (a, b) => bif ile 1 z then fitR k (a.tdiv z) (b.tdiv z) else kindR k
  | none => kindR k
def shrR (n : Nat) : Rg → Rg
  | some (a, b) => some (a.fdiv ((2 ^ n : Nat) : Int), b.fdiv ((2 ^ n : Nat) : Int))
  | none => none
def convR (k : IntKind) : Rg → Rg
  | some (a, b) => fitR k a b
  | none => kindR k
def hullR : Rg → Rg → Rg
  | some (a, b), some (c, d) => some (imin a c, imax b d)
  | _, _ => none
/-- The bounds of a multiple, added. -/
def mulAdd (c : Int) : Rg → Rg → Rg
  | some (a, b), some (p, q) => bif ile 0 c then some (c * a + p, c * b + q) else some (c * b + p, c * a + q)
  | _, _ => none
def linR (k : Int) : List Int → List Rg → Rg
  | c :: cs, r :: rs => mulAdd c r (linR k cs rs)
  | _, _ => some (k, k)
def maxR : Rg → Rg → Rg
  | some (a, b), some (c, d) => some (imax a c, imax b d)
  | _, _ => none
def minR : Rg → Rg → Rg
  | some (a, b), some (c, d) => some (imin a c, imin b d)
  | _, _ => none
def mx : Int := 1152921504606846976
def clampI (a lo hi : Int) : Int := bif ile a lo then lo else bif ile hi a then hi else a
def satR : Rg → Rg
  | some (a, b) => some (clampI a (-mx) mx, clampI b (-mx) mx)
  | none => some (-mx, mx)
/-- A number divided by 2^s, rounded. -/
def hlf (s : Nat) : Nat := bif Nat.beq s 0 then 0 else Nat.pow 2 (s - 1)
def rndI (s : Nat) : Int → Int
  | .ofNat n => .ofNat (Nat.div (n + hlf s) (Nat.pow 2 s))
  | .negSucc n => -(Int.ofNat (Nat.div (n + 1 + hlf s) (Nat.pow 2 s)))
/-- A product divided by 2^s, rounded: before it is clamped. -/
def prodR (s : Nat) : Rg → Rg → Rg
  | some (a, b), some (c, d) => some (rndI s (mulLo a b c d), rndI s (mulHi a b c d))
  | _, _ => none
/-- A product. -/
def prod0R : Rg → Rg → Rg
  | some (a, b), some (c, d) => some (mulLo a b c d, mulHi a b c d)
  | _, _ => none
/-- A square. -/
def sqrR (s : Nat) : Rg → Rg
  | some (a, b) => some (rndI s (bif ile 0 a then a * a else bif ile b 0 then b * b else 0), rndI s (imax (a * a) (b * b)))
  | none => none
/-- A quotient by numbers above 0: before it is clamped. -/
def ratioR (s : Nat) : Rg → Rg → Rg
  | some (a, b), some (c, _) => bif ile 1 c then some (bif ile 0 a then 0 else -((-(a * ((2 ^ s : Nat) : Int))).fdiv c + 1), bif ile b 0 then 0 else (b * ((2 ^ s : Nat) : Int)).fdiv c + 1) else none
  | _, _ => none
def capR (b : Bool) (s : Nat) : Rg → Rg → Rg
  | some (lo, hi), some (a, _) => bif b && ile 0 a then some (imax lo 0, imin hi ((2 ^ s : Nat) : Int)) else some (lo, hi)
  | r, _ => r
/-- A quotient by what is no greater, above 0. -/
def capL (b : Bool) (s : Nat) : Rg → Rg → Rg
  | some (lo, hi), some (c, _) => bif b && (ile 1 c && ile ((2 ^ s : Nat) : Int) mx) then some (imax lo ((2 ^ s : Nat) : Int), hi) else some (lo, hi)
  | r, _ => r
def sumR : List Rg → Rg
  | [] => some (0, 0)
  | r :: l => match sumR l, satR r with
    | some (a, b), some (c, d) => some (a + c, b + d)
    | _, _ => none
/-- A sum of products. -/
def dotR : List Rg → Rg
  | r :: q :: l => match dotR l, satR r, satR q with
    | some (x, y), some (a, b), some (c, d) => some (x + mulLo a b c d, y + mulHi a b c d)
    | _, _, _ => none
  | _ => some (0, 0)
def lessR : Rg → Rg → Rg
  | some (a, b), some (c, d) => some (a - d, b - c)
  | _, _ => none
/-- Divided by 2^s, rounded. -/
def rndR (s : Nat) : Rg → Rg
  | some (a, b) => some (rndI s a, rndI s b)
  | none => none
/-- A root of a sum of squares. -/
def hypR : List Rg → Rg
  | [] => some (0, 0)
  | r :: l => match hypR l, satR r with
    | some (_, y), some (a, b) => some (0, y + imax (-a) b)
    | _, _ => none
def clampR (lo hi : Int) : Rg → Rg
  | some (a, b) => bif ile lo hi then some (clampI a lo hi, clampI b lo hi) else none
  | none => bif ile lo hi then some (lo, hi) else none
def absR : Rg → Rg
  | some (a, b) => bif ile 0 a then some (imin a mx, imin b mx) else bif ile b 0 then some (imin (-b) mx, imin (-a) mx) else some (0, imin (imax (-a) b) mx)
  | none => some (0, mx)
/-- The bounds of what a mark stands for. -/
def rngU (le : A → A → Bool) : Nat → List A → List Rg → Rg
  | 0, _, [r] => satR r
  | 2, [a, b, .k (.ofNat s)], [r1, r2, _] => satR (bif A.beq a b then sqrR s (satR r1) else prodR s (satR r1) (satR r2))
  | 4, [a, b, .k (.ofNat s)], [r1, r2, _] => capL (le b a) s (capR (le a b) s (satR (ratioR s (satR r1) (satR r2))) r1) r2
  | 8, _, [r1, r2] => satR (match satR r1, satR r2 with
    | some (a, b), some (c, d) => some (a - d, b - c)
    | _, _ => none)
  | 10, [_, .k lo, .k hi], [r, _, _] => clampR lo hi r
  | 12, _, [r] => absR r
  | 14, _, l => satR (sumR l)
  | 30, _, _ => some (0, 35184372088833)
  | 6, _, [r1, r2, r3] => satR (ratioR 0 (prod0R (satR r1) (satR r2)) (satR r3))
  | 6, _, _ => some (-mx, mx)
  | 16, .k (.ofNat s) :: _, _ :: rs => satR (rndR s (dotR rs))
  | 18, .k (.ofNat s) :: .k (.ofNat n) :: _, _ :: _ :: rs => satR (rndR s (lessR (dotR (rs.take (2 * n))) (dotR (rs.drop (2 * n)))))
  | 32, _, l => satR (hypR l)
  | 34, _, _ => some (-1152921505680588800, 1152921505680588800)
  | 36, _, _ => some (-1073741824, 1073741824)
  | 40, _, _ => some (-1152921505680588800, 1152921505680588800)
  | 38, _, _ => some (-8070450532247928832, 8070450532247928832)
  | 50, _, _ => some (-mx, mx)
  | 72, _, _ => some (-1073741840, 1073741840)
  | 74, _, _ => some (-1073741840, 1073741840)
  | 56, _, [_, _, r1, _, r2] => hullR r1 r2
  | _, _, _ => none
def rngOp (le : A → A → Bool) : Pr → List A → List Rg → Rg
  | .iop .add k, _, [r, q] => addR k r q
  | .iop .sub k, _, [r, q] => subR k r q
  | .iop .mul k, [a, b], [r, q] => bif A.beq a b then sqK k r else mulR k r q
  | .iop .quo k, [_, .k z], [r, _] => quoR k z r
  | .iop .rem _, [_, .k z], [r, _] => remR z r
  | .shr n, [_], [r] => shrR n r
  | .conv k, [_], [r] => convR k r
  | .sel, [_, _, _], [_, r, q] => hullR r q
  | .lin k cs, _, rs => linR k cs rs
  | .max, [_, _], [r, q] => maxR r q
  | .min, [_, _], [r, q] => minR r q
  | .u n, as, rs => rngU le n as rs
  | _, _, _ => none
def knowLe : List (Bool × A × A × Bool) → A → A → Bool
  | [], _, _ => false
  | (e, p, q, v) :: r, a, b => bif !e && ((v && A.beq p a && A.beq q b) || (!v && A.beq p b && A.beq q a)) then true else knowLe r a b
def ref1 (e : Bool) (p q : A) (v : Bool) (a : A) (lo hi : Int) : Int × Int :=
  bif e then (bif A.beq p a then (match q with
      | .k z => bif v then (z, z) else (bif ieq lo z then lo + 1 else lo, bif ieq hi z then hi - 1 else hi)
      | .x _ => (lo, hi)) else (lo, hi))
  else bif A.beq p a then (match q with
      | .k z => bif v then (lo, imin hi (z - 1)) else (imax lo z, hi)
      | .x _ => (lo, hi))
  else bif A.beq q a then (match p with
      | .k z => bif v then (imax lo (z + 1), hi) else (lo, imin hi z)
      | .x _ => (lo, hi))
  else (lo, hi)
def refine1 : List (Bool × A × A × Bool) → A → Int → Int → Int × Int
  | [], _, lo, hi => (lo, hi)
  | (e, p, q, v) :: l, a, lo, hi => match ref1 e p q v a lo hi with
    | (lo', hi') => refine1 l a lo' hi'
def refineR (l : List (Bool × A × A × Bool)) (a : A) : Rg → Rg
  | some (lo, hi) => some (refine1 l a lo hi)
  | none => none
/-- What a mark is set on. -/
def uArgs (st : St) (k : Nat) : A → Option (List A)
  | .x n => match getD st n with
    | some (.u m, xs) => bif Nat.beq m k then some xs else none
    | _ => none
  | .k _ => none
def memA (x : A) : List A → Bool
  | [] => false
  | a :: l => bif A.beq x a then true else memA x l
def meetR : Rg → Int → Rg
  | some (a, b), z => some (imax a (-z), imin b z)
  | none, z => some (-z, z)
/-- A number that is divided by a length that it is one of. -/
def lenCap (st : St) (p : Pr) (xa : List A) (r : Rg) : Rg := match p, xa with
  | .u 4, [x, m, .k (.ofNat s)] => (match uArgs st 32 m with
    | some xs => bif memA x xs then meetR r ((2 ^ s : Nat) : Int) else r
    | none => r)
  | _, _ => r
def rngs (f : Nat → A → Rg × Nat) : Nat → List A → List Rg × Nat
  | b, [] => ([], b)
  | b, a :: l => match f b a with
    | (r, b1) => match rngs f b1 l with
      | (rs, b2) => (r :: rs, b2)
def rng (st : St) : Nat → Nat → A → Rg × Nat
  | 0, b, .x _ => (none, b)
  | _, b, .k z => (some (z, z), b)
  | d + 1, b, .x n => bif Nat.beq b 0 then (none, 0) else
    match getD st n with
    | none => (none, b)
    | some (p, as) => match rngs (rng st d) (b - 1) as with
      | (rs, b') => (refineR st.ci (.x n) (lenCap st p as (rngOp (knowLe st.ci) p as rs)), b')
def isE {α : Type} : PT α → Bool
  | .e => true
  | _ => false
/-- The bounds as they have been kept, else as they are found. -/
def range0 (st : St) : A → Rg
  | .k z => some (z, z)
  | .x n => match st.rg.get n with
    | some (lo, hi) => some (refine1 st.ci (.x n) lo hi)
    | none => (rng st 40 60 (.x n)).1
/-- What is known against another symbol. -/
def rel1 (f : A → Rg) (e : Bool) (p q : A) (v : Bool) (a : A) (lo hi : Int) : Int × Int :=
  bif e then (bif v && A.beq p a then (match f q with
      | some (c, d) => (imax lo c, imin hi d)
      | none => (lo, hi)) else (lo, hi))
  else bif A.beq p a then (match f q with
      | some (c, d) => bif v then (lo, imin hi (d - 1)) else (imax lo c, hi)
      | none => (lo, hi))
  else bif A.beq q a then (match f p with
      | some (c, d) => bif v then (imax lo (c + 1), hi) else (lo, imin hi d)
      | none => (lo, hi))
  else (lo, hi)
def bothX : A → A → Bool
  | .x _, .x _ => true
  | _, _ => false
def rels (f : A → Rg) : List (Bool × A × A × Bool) → A → Int → Int → Int × Int
  | [], _, lo, hi => (lo, hi)
  | (e, p, q, v) :: l, a, lo, hi => bif bothX p q then (match rel1 f e p q v a lo hi with
    | (lo', hi') => rels f l a lo' hi') else rels f l a lo hi
def rangeOf (st : St) (a : A) : Rg := match a with
  | .k z => some (z, z)
  | .x _ => match range0 st a with
    | some (lo, hi) => some (rels (range0 st) st.ci a lo hi)
    | none => none
/-- Of these the bounds are kept. -/
def keptP : Pr → Bool
  | .iop .add _ | .iop .sub _ | .iop .mul _ | .iop .quo _ | .iop .rem _ => true
  | .shr _ | .conv _ | .min | .max | .lin _ _ => true
  | .u n => Nat.blt n 20 || Nat.beq n 30 || Nat.beq n 32
  | _ => false
def keep (n : Nat) (p : Pr) (as : List A) (st : St) : St := bif keptP p && Nat.blt n 1000000 then (match st.rg.get n with
    | some _ => st
    | none => match lenCap st p as (rngOp (knowLe st.ci) p as (as.map (range0 st))) with
      | some r => { st with rg := st.rg.set 20 n r }
      | none => st) else st
def A.below (n : Nat) : A → Bool
  | .k _ => true
  | .x i => Nat.blt i n
def rgOne (st : St) (n : Nat) (r : Int × Int) : Bool := match getD st n with
  | some (p, as) => as.all (A.below n) && (match lenCap st p as (rngOp (knowLe st.ci) p as (as.map (range0 st))) with
    | some (a, b) => ile r.1 a && ile b r.2
    | none => false)
  | none => false
def rgAll (st : St) : (Nat → Nat) → PT (Int × Int) → Bool
  | _, .e => true
  | f, .n l v q => (match v with
    | none => true
    | some r => rgOne st (f 0) r) && (rgAll st (fun i => f (2 * i + 1)) l && rgAll st (fun i => f (2 * i + 2)) q)
def newD (p : Pr) (as : List A) (st : St) (h : Nat) (l : List Nat) : A × St :=
  match findIn st p as l with
  | some n => (.x n, keep n p as st)
  | none => bif Nat.blt st.nv 1000000 then (.x st.nv, keep st.nv p as { st with nv := st.nv + 1, dt := st.dt.set 20 st.nv (p, as), ix := st.ix.set 14 h (st.nv :: l) }) else (.k 0, { st with bad := true })
def app (U : Nat → List Int → Int) (p : Pr) (as : List A) (st : St) : A × St :=
  match allK as with
  | some l => (.k (mean U p l), st)
  | none => newD p as st (hashP p as) (bucket st (hashP p as))
/-- Are they so, whatever else? -/
def autoLss (st : St) (p q : A) : Option Bool := match rangeOf st p, rangeOf st q with
  | some (a, b), some (c, d) => bif !ile c b then some true else bif ile d a then some false else none
  | _, _ => none
def autoEql (st : St) (p q : A) : Option Bool := match rangeOf st p, rangeOf st q with
  | some (a, b), some (c, d) => bif !ile c b || !ile a d then some false else bif ieq a b && ieq b c && ieq c d then some true else none
  | _, _ => none
/-- A symbol as a number and multiples of others. -/
def linF (st : St) : A → Int × List (Int × A)
  | .k z => (z, [])
  | .x n => match getD st n with
    | some (.lin k cs, xs) => bif Nat.beq cs.length xs.length then (k, cs.zip xs) else (0, [(1, .x n)])
    | _ => (0, [(1, .x n)])
def A.num : A → Nat
  | .k _ => 0
  | .x n => n
/-- Added, the symbols by their number. -/
def insF (c : Int) (a : A) : List (Int × A) → List (Int × A)
  | [] => [(c, a)]
  | (d, b) :: r => bif A.beq a b then (bif ieq (c + d) 0 then r else (c + d, b) :: r) else bif Nat.blt a.num b.num then (c, a) :: (d, b) :: r else (d, b) :: insF c a r
def addF (s : Int) : List (Int × A) → List (Int × A) → List (Int × A)
  | [], l => l
  | (c, a) :: r, l => addF s r (insF (s * c) a l)
/-! ### Lengths: what is known of them -/
def inM (r : Rg) : Bool := match r with
  | some (a, b) => ile (-mx) a && ile b mx
  | none => false
def allM (st : St) : List A → Bool
  | [] => true
  | a :: l => inM (rangeOf st a) && allM st l
def isPre : List A → List A → Bool
  | [], _ => true
  | a :: l, b :: m => A.beq a b && isPre l m
  | _ :: _, [] => false
def linB : List (Int × A) → List (Int × A) → Bool
  | [], [] => true
  | (c, a) :: l, (d, b) :: m => ieq c d && (A.beq a b && linB l m)
  | _, _ => false
/-- Is t what a and b are together? -/
def isSum (st : St) (t a b : A) : Bool := match linF st t, linF st a, linF st b with
  | (k, l), (i, m), (j, n) => ieq k (i + j) && linB l (addF 1 m n)
def isSums (st : St) : List A → List A → List A → Bool
  | [], [], [] => true
  | t :: ts, a :: as, b :: bs => isSum st t a b && isSums st ts as bs
  | _, _, _ => false
/-- A length is no greater than that of more. -/
def preO (st : St) (s n : A) : Bool := match uArgs st 32 s, uArgs st 32 n with
  | some xs, some ys => isPre xs ys
  | _, _ => false
/-- The length of a length and one more. -/
def joinO (st : St) (s n : A) : Bool := match uArgs st 32 s, uArgs st 32 n with
  | some [h, y], some ys => (match uArgs st 32 h with
    | some xs => A.beqL ys (xs ++ [y]) && inM (hypR (xs.map (rangeOf st)))
    | none => false)
  | _, _ => false
/-- Two sides and the third. -/
def triO (st : St) (s n m : A) : Bool := match uArgs st 32 s, uArgs st 32 n, uArgs st 32 m with
  | some ts, some as, some bs => isSums st ts as bs && (allM st ts && (allM st as && (allM st bs && (inM (hypR (as.map (rangeOf st))) && inM (hypR (bs.map (rangeOf st)))))))
  | _, _, _ => false
def isMul (st : St) (y a k : A) : Bool := match uArgs st 2 y with
  | some [b, c, .k (.ofNat s)] => Nat.beq s 30 && ((A.beq b a && A.beq c k) || (A.beq b k && A.beq c a)) && inM (prodR 30 (rangeOf st a) (rangeOf st k))
  | _ => false
def isMuls (st : St) (k : A) : List A → List A → Bool
  | [], [] => true
  | y :: ys, a :: as => isMul st y a k && isMuls st k ys as
  | _, _ => false
def mulOther (st : St) (w : A) : Option (A × A) := match uArgs st 2 w with
  | some [b, c, _] => (match uArgs st 32 b with
    | some _ => some (b, c)
    | none => match uArgs st 32 c with
      | some _ => some (c, b)
      | none => none)
  | _ => none
/-- A length, each number multiplied, and the length multiplied. -/
def scaleO (st : St) (t w : A) : Bool := match uArgs st 32 t, mulOther st w with
  | some ys, some (n, k) => (match uArgs st 32 n with
    | some as => isMul st w n k && (isMuls st k ys as && (Nat.ble ys.length 4 && (allM st as && (inM (rangeOf st k) && ((match rangeOf st k with
        | some (a, b) => ile 0 a && ile b 17179869184
        | none => false) && (inM (hypR (as.map (rangeOf st))) && inM (hypR (ys.map (rangeOf st)))))))))
    | none => false)
  | _, _ => false
def overO (st : St) (k : Int) : List (Int × A) → Bool
  | [(c, s), (d, n)] => bif ieq c 1 && ieq d (-1) then over1 st k s n else bif ieq c (-1) && ieq d 1 then over1 st k n s else false
  | [(c, s), (d, n), (e, m)] => ile k (-2) && ((ieq c 1 && (ieq d (-1) && (ieq e (-1) && triO st s n m))) || (ieq c (-1) && (ieq d 1 && (ieq e (-1) && triO st n s m))) || (ieq c (-1) && (ieq d (-1) && (ieq e 1 && triO st m s n))))
  | _ => false
where over1 (st : St) (k : Int) (s n : A) : Bool := (ile k 0 && preO st s n) || (ile k (-1) && (joinO st s n || joinO st n s)) || (ile k (-19) && (scaleO st s n || scaleO st n s))
/-! ### Sums of products of symbols, roundings told apart -/
abbrev Mo := Int × List A
/-- One factor more. -/
def insM (a : A) : List A → List A
  | [] => [a]
  | b :: l => bif Nat.ble a.num b.num then a :: b :: l else b :: insM a l
def facM (a : A) (t : Mo) : Mo := match a with
  | .k z => (z * t.1, t.2)
  | .x n => (t.1, insM (.x n) t.2)
/-- One product more. -/
def insP (t : Mo) : List Mo → List Mo
  | [] => [t]
  | u :: r => bif A.beqL t.2 u.2 then (bif ieq (t.1 + u.1) 0 then r else (t.1 + u.1, u.2) :: r) else u :: insP t r
def addP : List Mo → List Mo → List Mo
  | [], q => q
  | t :: p, q => addP p (insP t q)
def dotP : Int → List A → List Mo
  | c, a :: b :: l => facM a (facM b (c, [])) :: dotP c l
  | _, _ => []
def linP (k : Int) : List Int → List A → List Mo
  | c :: cs, x :: xs => facM x (c, []) :: linP k cs xs
  | _, _ => [(k, [])]
def nameOf (st : St) (p : Pr) (xa : List A) : Option A := match findIn st p xa (bucket st (hashP p xa)) with
  | some n => some (.x n)
  | none => none
def prod64 : Rg → Rg → Bool
  | some (a, b), some (c, d) => ile (-9223372036854775808) (mulLo a b c d) && ile (mulHi a b c d) 9223372036854775807
  | _, _ => false
def nn64 : Rg → Bool
  | some (a, b) => ile 0 a && ile b 9223372036854775807
  | none => false
/-- A quotient by a power of two: by what is left, where that has a name. -/
def quoE (st : St) (a : A) : Int → Option (Nat × List Mo × Bool)
  | .ofNat z => bif Nat.beq (Nat.pow 2 (Nat.log2 z)) z && (Nat.blt 0 (Nat.log2 z) && nn64 (rangeOf st a)) then (match nameOf st (.iop .rem .i64) [a, .k (.ofNat z)] with
      | some t => some (Nat.log2 z, [facM a (1, []), facM t (-1, [])], false)
      | none => some (Nat.log2 z, [facM a (1, []), (-(Int.ofNat (Nat.pow 2 (Nat.log2 z - 1))), [])], true)) else none
  | _ => none
/-- 2^s times a symbol: products, and whether it has been rounded. -/
def expP0 (st : St) : A → Option (Nat × List Mo × Bool)
  | .x n => match getD st n with
    | some (.u 2, [a, b, .k (.ofNat s)]) => bif allM st [a, b] && (inM (prodR s (rangeOf st a) (rangeOf st b)) && Nat.blt 0 s) then some (s, dotP 1 [a, b], true) else none
    | some (.u 16, .k (.ofNat s) :: l) => bif allM st l && (inM (rndR s (dotR (l.map (rangeOf st)))) && Nat.blt 0 s) then some (s, dotP 1 l, true) else none
    | some (.u 18, .k (.ofNat s) :: .k (.ofNat m) :: l) => bif allM st l && (inM (rndR s (lessR (dotR ((l.take (2 * m)).map (rangeOf st))) (dotR ((l.drop (2 * m)).map (rangeOf st))))) && Nat.blt 0 s) then some (s, dotP 1 (l.take (2 * m)) ++ dotP (-1) (l.drop (2 * m)), true) else none
    | some (.lin k cs, xs) => bif Nat.beq cs.length xs.length then some (0, linP k cs xs, false) else none
    | some (.iop .mul .i64, [a, b]) => bif prod64 (rangeOf st a) (rangeOf st b) then some (0, dotP 1 [a, b], false) else none
    | some (.iop .quo .i64, [a, .k z]) => quoE st a z
    | _ => none
  | .k _ => none
def mulM (t : Mo) : List Mo → List Mo
  | [] => []
  | u :: r => (t.1 * u.1, t.2.foldr insM u.2) :: mulM t r
/-- Without one such factor. -/
def remM (a : A) : List A → Option (List A)
  | [] => none
  | b :: l => bif A.beq a b then some l else match remM a l with
    | some r => some (b :: r)
    | none => none
def absR1 : Rg → Option Int
  | some (a, b) => some (imax (-a) b)
  | none => none
def absM (st : St) : List A → Option Int
  | [] => some 1
  | a :: l => match absR1 (rangeOf st a), absM st l with
    | some x, some y => some (x * y)
    | _, _ => none
/-- How often x is a factor, and the others. -/
def takeX (x : A) : List A → Nat × List A
  | [] => (0, [])
  | a :: l => match takeX x l with
    | (n, m) => bif A.beq x a then (n + 1, m) else (n, a :: m)
def mostX (x : A) : List Mo → Nat
  | [] => 0
  | t :: p => match takeX x t.2 with
    | (n, _) => bif Nat.blt (mostX x p) n then n else mostX x p
def mulP : List Mo → List Mo → List Mo
  | [], _ => []
  | t :: p, q => addP (mulM t q) (mulP p q)
def powP (e : List Mo) : Nat → List Mo
  | 0 => [(1, [])]
  | 1 => e
  | k + 2 => mulP e (powP e (k + 1))
/-- How far a power may be off. -/
def powB (y : Int) : Nat → Int
  | 0 => 0
  | k + 1 => y * powB y k + y ^ k
/-- Each product times 2^(s K), the powers of x in each as they are told; and how far off that may be. -/
def subP (st : St) (x : A) (s K : Nat) (e : List Mo) (rd : Bool) : List Mo → Option (List Mo × Int)
  | [] => some ([], 0)
  | t :: p => match subP st x s K e rd p with
    | none => none
    | some (q, err) => match takeX x t.2 with
      | (0, _) => some (insP (t.1 * ((2 ^ (s * K) : Nat) : Int), t.2) q, err)
      | (k + 1, m) => bif Nat.ble (k + 1) K then (bif rd then (match absM st m, absR1 (rangeOf st x) with
          | some b, some y => some (addP (mulM (t.1 * ((2 ^ (s * (K - (k + 1))) : Nat) : Int), m) (powP e (k + 1))) q, err + imax t.1 (-t.1) * b * powB (y + 1) (k + 1))
          | _, _ => none) else some (addP (mulM (t.1 * ((2 ^ (s * (K - (k + 1))) : Nat) : Int), m) (powP e (k + 1))) q, err)) else none
abbrev Ex1 := A → Option (Nat × List Mo × Bool)
/-- The latest symbol that can be told. -/
def maxM (ex : Ex1) : List A → Nat → Nat
  | [], n => n
  | a :: l, n => maxM ex l (bif Nat.blt n (a.num + 1) then (match ex a with
    | some _ => a.num + 1
    | none => n) else n)
def maxP (ex : Ex1) : List Mo → Nat → Nat
  | [], n => n
  | t :: p, n => maxP ex p (maxM ex t.2 n)
def sqR1 : Rg → Rg
  | some (a, b) => some (bif ile 0 a then a * a else bif ile b 0 then b * b else 0, imax (a * a) (b * b))
  | none => none
def mulR1 : Rg → Rg → Rg
  | some (a, b), some (c, d) => some (mulLo a b c d, mulHi a b c d)
  | _, _ => none
def rangeM (st : St) : List A → Rg
  | [] => some (1, 1)
  | [a] => rangeOf st a
  | a :: b :: l => bif A.beq a b then mulR1 (sqR1 (rangeOf st a)) (rangeM st l) else mulR1 (rangeOf st a) (rangeM st (b :: l))
def rangeP (st : St) : List Mo → Rg
  | [] => some (0, 0)
  | t :: p => mulAdd t.1 (rangeM st t.2) (rangeP st p)
/-! ### A sum of powers of one symbol, told from the middle of its bounds -/
def pow1 (x : A) : List A → Option Nat
  | [] => some 0
  | a :: l => bif A.beq a x then (match pow1 x l with
    | some n => some (n + 1)
    | none => none) else none
/-- One coefficient more. -/
def addC (c : Int) : Nat → List Int → List Int
  | 0, [] => [c]
  | 0, d :: l => (c + d) :: l
  | n + 1, [] => 0 :: addC c n []
  | n + 1, d :: l => d :: addC c n l
def coefU (x : A) : List Mo → Option (List Int)
  | [] => some []
  | t :: p => match pow1 x t.2, coefU x p with
    | some n, some l => some (addC t.1 n l)
    | _, _ => none
def addL : List Int → List Int → List Int
  | [], l => l
  | l, [] => l
  | a :: l, b :: m => (a + b) :: addL l m
def mulL (c : Int) : List Int → List Int
  | [] => []
  | a :: l => c * a :: mulL c l
/-- The coefficients about c. -/
def shiftL (c : Int) : List Int → List Int
  | [] => []
  | a :: l => addC a 0 (addL (mulL c (shiftL c l)) (0 :: shiftL c l))
def boundL (d : Int) : List Int → Int
  | [] => 0
  | a :: l => imax a (-a) + d * boundL d l
def firstX : List Mo → Option A
  | [] => none
  | t :: p => match t.2 with
    | a :: _ => some a
    | [] => firstX p
def meetB : Rg → Rg → Rg
  | some (a, b), some (c, d) => some (imax a c, imin b d)
  | some r, none => some r
  | none, r => r
def midR (lo hi : Int) (l : List Int) : Rg := match shiftL ((lo + hi).fdiv 2) l with
  | [] => some (0, 0)
  | a :: m => some (a - (hi - (lo + hi).fdiv 2) * boundL (hi - (lo + hi).fdiv 2) m, a + (hi - (lo + hi).fdiv 2) * boundL (hi - (lo + hi).fdiv 2) m)
def rangeU (st : St) (p : List Mo) : Rg := match firstX p with
  | none => rangeP st p
  | some x => match coefU x p, rangeOf st x with
    | some l, some (lo, hi) => meetB (rangeP st p) (bif ile lo hi then midR lo hi l else none)
    | _, _ => rangeP st p
/-! ### Numbers divided by their length, twice -/
/-- Does it hold where all of these are nought? -/
def conjZ (st : St) (xs : List A) : Nat → A → Bool
  | _, .k z => ieq z 1
  | 0, .x _ => false
  | f + 1, .x n => match getD st n with
    | some (.cmp .eql, [p, .k z]) => ieq z 0 && memA p xs
    | some (.sel, [c, x, .k _]) => conjZ st xs f c && conjZ st xs f x
    | _ => false
/-- Are they known not to be all nought? -/
def notZ (st : St) (xs : List A) : Bool := st.cs.any fun c => !c.2 && conjZ st xs 10 (.x c.1)
def posN (st : St) (n : A) (xs : List A) : Bool := (match rangeOf st n with
  | some (a, _) => ile 1 a
  | none => false) || notZ st xs
/-- What has been divided by n. -/
def quotsOf (st : St) (n : A) : List A → Option (List A)
  | [] => some []
  | q :: r => match uArgs st 4 q, quotsOf st n r with
    | some [a, m, .k z], some l => bif A.beq m n && ieq z 30 then some (a :: l) else none
    | _, _ => none
def namesO (st : St) (m : A) : List A → Option (List A)
  | [] => some []
  | q :: r => match nameOf st (.u 4) [q, m, .k 30], namesO st m r with
    | some y, some l => some (y :: l)
    | _, _ => none
/-- Of a number that has been divided so, the first: the others. -/
def unitO (st : St) (x : A) : Option (List A) := match uArgs st 4 x with
  | some [q, m, .k z] => (match uArgs st 32 m with
    | some (q0 :: qs) => bif A.beq q q0 && (ieq z 30 && Nat.ble qs.length 3) then (match uArgs st 4 q0 with
      | some [_, n, _] => (match quotsOf st n (q0 :: qs), uArgs st 32 n with
        | some al, some bl => bif A.beqL al bl && posN st n al then namesO st m qs else none
        | _, _ => none)
      | _ => none) else none
    | _ => none)
  | _ => none
/-- A square of such a number among factors: the others, the rest. -/
def sphF (st : St) : List A → Option (List A × List A)
  | a :: b :: l => match (bif A.beq a b then unitO st a else none) with
    | some ys => some (ys, l)
    | none => match sphF st (b :: l) with
      | some (ys, r) => some (ys, a :: r)
      | none => none
  | _ => none
def hasS (st : St) : List Mo → Bool
  | [] => false
  | t :: p => match sphF st t.2 with
    | some _ => true
    | none => hasS st p
def sqO (c : Int) (rest : List A) : List A → List Mo
  | [] => []
  | y :: r => (-c, insM y (insM y rest)) :: sqO c rest r
/-- The squares of such numbers, told by the others': and how far off, twice, that may be. -/
def sphP (st : St) : Nat → List Mo → List Mo × Int
  | 0, p => (p, 0)
  | _ + 1, [] => ([], 0)
  | f + 1, t :: p => match sphF st t.2 with
    | some (ys, rest) => (match absM st rest with
      | some b => (match sphP st f ((t.1 * 1152921504606846976, rest) :: (sqO t.1 rest ys ++ p)) with
        | (q, e) => (q, e + 2 * (imax t.1 (-t.1) * (4294967296 * b))))
      | none => (match sphP st f p with
        | (q, e) => (insP t q, e)))
    | none => (match sphP st f p with
      | (q, e) => (insP t q, e))
/-- Squares alone. -/
def evenM : List A → Bool
  | [] => true
  | a :: b :: l => A.beq a b && evenM l
  | _ => false
/-- Squares, and what is left. -/
def splitE : List A → List A × List A
  | a :: b :: l => bif A.beq a b then (match splitE l with
      | (ev, od) => (a :: b :: ev, od)) else (match splitE (b :: l) with
      | (ev, od) => (ev, a :: od))
  | l => ([], l)
/-- The first such number whose square is a factor, and the others. -/
def sphX (st : St) : List A → Option (A × List A)
  | a :: b :: l => match (bif A.beq a b then unitO st a else none) with
    | some ys => some (a, ys)
    | none => sphX st (b :: l)
  | _ => none
def firstS (st : St) : List Mo → Option (A × List A)
  | [] => none
  | t :: p => match sphX st t.2 with
    | some r => some r
    | none => firstS st p
/-- The squares of x told by the others': what is left, how far off that may be (twice), and products of squares of which 2^32 times as much. -/
def sphA (st : St) (x : A) (ys : List A) : List Mo → List Mo × Int × List Mo
  | [] => ([], 0, [])
  | t :: p => match sphA st x ys p with
    | (q, e, E) => match remM x t.2 with
      | none => (insP t q, e, E)
      | some m => match remM x m with
        | none => (insP t q, e, E)
        | some rest => match splitE rest with
          | (ev, od) => match absM st od with
            | some b => (addP ((t.1 * 1152921504606846976, rest) :: sqO t.1 rest ys) q, e, insP (imax t.1 (-t.1) * b, ev) E)
            | none => (insP t q, e, E)
def sphL (st : St) : Nat → List Mo → List Mo × Int × List Mo
  | 0, p => (p, 0, [])
  | f + 1, p => match firstS st p with
    | none => (p, 0, [])
    | some (x, ys) => match sphA st x ys p with
      | (q, e, E) => match sphL st f q with
        | (q', e', E') => (q', e + e', addP E E')
def errS (st : St) (E : List Mo) : Option Int := match sphP st 3000 E with
  | (q, e) => match rangeP st q with
    | some (_, hi) => some (4294967296 * (2 * hi + e))
    | none => none
def longP : Nat → List Mo → Bool
  | 0, _ => true
  | _ + 1, [] => false
  | n + 1, _ :: r => longP n r
def polyN (_ : List Mo) (K : Nat) (f : Nat → Rg) : Rg := f K
/-- 2^e times what is asked lies about the products, by no more than half of err: its bounds. -/
def polyR (st : St) (ex : Ex1) : Nat → Nat → List Mo → Int → Rg
  | 0, _, _, _ => none
  | f + 1, e, p, err => bif longP 200 p then none else match maxP ex p 0 with
    | 0 => bif hasS st p then (match sphL st 8 p with
        | (q, er, E) => (match errS st E, rangeP st q with
          | some e2, some (lo, hi) => some ((2 * lo - (err + (er + e2))).fdiv (2 * ((2 ^ e : Nat) : Int)), (2 * hi + (err + (er + e2))).fdiv (2 * ((2 ^ e : Nat) : Int)))
          | _, _ => none))
      else (match rangeU st p with
        | some (lo, hi) => some ((2 * lo - err).fdiv (2 * ((2 ^ e : Nat) : Int)), (2 * hi + err).fdiv (2 * ((2 ^ e : Nat) : Int)))
        | none => none)
    | n + 1 => match ex (.x n) with
      | some (s, q, rd) => polyN p (mostX (.x n) p) fun K => (match subP st (.x n) s K q rd p with
        | some (p', er) => polyR st ex f (e + s * K) p' (err * ((2 ^ (s * K) : Nat) : Int) + er * ((2 ^ (s * K) : Nat) : Int))
        | none => none)
      | none => none
/-- As it is told, or told by what it is made of. -/
def expP (st : St) (a : A) : Option (Nat × List Mo × Bool) := match expP0 st a with
  | some r => some r
  | none => match a with
    | .x n => (match getD st n with
      | some (.u 16, .k (.ofNat s) :: l) => bif allM st l && (inM (rndR s (polyR st (expP0 st) 200 0 (dotP 1 l) 0)) && Nat.blt 0 s) then some (s, dotP 1 l, true) else none
      | some (.u 18, .k (.ofNat s) :: .k (.ofNat m) :: l) => bif allM st l && (inM (rndR s (polyR st (expP0 st) 200 0 (dotP 1 (l.take (2 * m)) ++ dotP (-1) (l.drop (2 * m))) 0)) && Nat.blt 0 s) then some (s, dotP 1 (l.take (2 * m)) ++ dotP (-1) (l.drop (2 * m)), true) else none
      | _ => none)
    | .k _ => none
def hasM (st : St) : List (Int × A) → Bool
  | [] => false
  | (_, a) :: l => (match expP st a with
    | some _ => true
    | none => false) || hasM st l
def polyL : List (Int × A) → List Mo
  | [] => []
  | (c, a) :: l => facM a (c, []) :: polyL l
def notAbove0 : Rg → Bool
  | some (_, b) => ile b 0
  | none => false
/-- Divided by their length once more, and again. -/
def againO (st : St) (w u : A) : Bool := match uArgs st 4 w with
  | some [q, n2, .k z] => (match uArgs st 4 q with
    | some [u', n1, .k z'] => (match uArgs st 32 n2, uArgs st 32 n1 with
      | some qs, some (u0 :: ur) => (ieq z 30 && (ieq z' 30 && (A.beq u' u && (memA q qs && (memA u (u0 :: ur) && Nat.ble qs.length 4))))) && ((match quotsOf st n1 qs with
          | some us => A.beqL us (u0 :: ur)
          | none => false) && (match unitO st u0 with
          | some ys => A.beqL ys ur
          | none => false))
      | _, _ => false)
    | _ => false)
  | _ => false
def againK (st : St) (k : Int) : List (Int × A) → Bool
  | [(c, s), (d, n)] => ile k (-4) && (((ieq c 1 && ieq d (-1)) || (ieq c (-1) && ieq d 1)) && (againO st s n || againO st n s))
  | _ => false
/-- The same, c times. -/
def timesL (c : Int) : List (Int × A) → List (Int × A) → Bool
  | [], [] => true
  | (d, a) :: l, (e, b) :: m => ieq d (c * e) && (A.beq a b && timesL c l m)
  | _, _ => false
/-- Has a part of it been compared? -/
def propC (st : St) (k : Int) (l : List (Int × A)) : List (Bool × A × A × Bool) → Option Bool
  | [] => none
  | (e, p, q, v) :: r => bif e then propC st k l r else match linF st q, linF st p with
    | (i, m), (j, n) => match l, addF (-1) n m with
      | (c, _) :: _, (d, _) :: _ => bif !ieq d 0 && (ile 1 (c / d) && (ieq k ((c / d) * (i - j)) && timesL (c / d) l (addF (-1) n m))) then some v else bif v && (!ieq d 0 && (ile (c / d) (-1) && (ieq k ((c / d) * (i - j)) && timesL (c / d) l (addF (-1) n m)))) then some false else propC st k l r
      | _, _ => propC st k l r
def twoL : List (Int × A) → Bool
  | [_] => true
  | [_, _] => true
  | _ => false
/-- Is p less than q? Not, where the lengths say so. -/
def lssO (st : St) (p q : A) : Option Bool := match linF st q, linF st p with
  | (k, l), (j, m) => bif overO st (k - j) (addF (-1) m l) || (hasM st (addF (-1) m l) && notAbove0 (polyR st (expP st) 200 0 ((k - j, []) :: polyL (addF (-1) m l)) 0)) then some false else bif againK st (k - j) (addF (-1) m l) then some false else bif twoL (addF (-1) m l) then propC st (k - j) (addF (-1) m l) st.ci else none
def csGet : List (Nat × Bool) → Nat → Option Bool
  | [], _ => none
  | (m, b) :: r, n => bif Nat.beq m n then some b else csGet r n
/-- Known already, or of itself. -/
def known0 (st : St) (n : Nat) : Option Bool := match csGet st.cs n with
  | some b => some b
  | none => match getD st n with
    | some (.cmp .lss, [p, q]) => (match autoLss st p q with
      | some b => some b
      | none => bif knowLe st.ci q p then some false else lssO st p q)
    | some (.cmp .eql, [p, q]) => autoEql st p q
    | _ => none
/-- A bool, told by what it is made of. -/
def boolV (st : St) : Nat → A → Option Bool
  | _, .k z => some (ieq z 1)
  | 0, .x n => known0 st n
  | f + 1, .x n => match known0 st n with
    | some b => some b
    | none => match getD st n with
      | some (.not, [a]) => (match boolV st f a with
        | some b => some (!b)
        | none => none)
      | some (.sel, [c, a, b]) => (match boolV st f c with
        | some true => boolV st f a
        | some false => boolV st f b
        | none => none)
      | some (.beq, [a, b]) => (match boolV st f a, boolV st f b with
        | some x, some y => some (x == y)
        | _, _ => none)
      | _ => none
/-- All that a condition says to be nought. -/
def zerosC (st : St) : Nat → A → Option (List A)
  | _, .k _ => none
  | 0, .x _ => none
  | f + 1, .x n => match getD st n with
    | some (.cmp .eql, [p, .k z]) => bif ieq z 0 then some [p] else none
    | some (.sel, [c, x, .k z]) => bif ieq z 0 then (match zerosC st f c, zerosC st f x with
      | some l, some m => some (l ++ m)
      | _, _ => none) else none
    | _ => none
/-- Numbers that have been divided by their length twice are not all nought. -/
def nilO (st : St) (n : Nat) : Bool := match zerosC st 10 (.x n) with
  | some (x :: l) => (match unitO st x with
    | some ys => ys.all fun y => memA y l
    | none => false)
  | _ => false
def known (st : St) (n : Nat) : Option Bool := match known0 st n with
  | some b => some b
  | none => match getD st n with
    | some (.not, [a]) => (match boolV st 60 a with
      | some b => some (!b)
      | none => none)
    | some (.sel, [_, _, _]) => (match boolV st 60 (.x n) with
      | some b => some b
      | none => bif nilO st n then some false else none)
    | some (.beq, [_, _]) => boolV st 60 (.x n)
    | _ => none
/-- The first that it hangs on and that is not known. -/
def atomV (st : St) : Nat → A → Option Nat
  | _, .k _ => none
  | 0, .x _ => none
  | f + 1, .x n => match known0 st n with
    | some _ => none
    | none => match getD st n with
      | some (.not, [a]) => atomV st f a
      | some (.sel, [c, a, b]) => (match boolV st f c with
        | some true => atomV st f a
        | some false => atomV st f b
        | none => atomV st f c)
      | some (.beq, [a, b]) => (match atomV st f a with
        | some m => some m
        | none => atomV st f b)
      | _ => some n
def infoOf (st : St) (n : Nat) (b : Bool) : List (Bool × A × A × Bool) := match getD st n with
  | some (.cmp .lss, [p, q]) => [(false, p, q, b)]
  | some (.cmp .eql, [p, q]) => [(true, p, q, b)]
  | _ => []
def note (n : Nat) (b : Bool) (o : List Bool) (st : St) : St := { st with orc := o, cs := (n, b) :: st.cs, ci := infoOf st n b ++ st.ci }
/-- A condition on symbols is answered as it was, or by the next of the foretold answers; where none is left: yes. -/
def askX (n : Nat) (st : St) : Bool × St := match st.orc with
  | b :: r => (b, note n b r st)
  | [] => (true, note n true [] st)
/-- Are two bools the same? Asked of what they hang on. -/
def decB : Nat → Nat → St → Bool × St
  | 0, n, st => askX n st
  | f + 1, n, st => match known st n with
    | some b => (b, st)
    | none => match atomV st 60 (.x n) with
      | some m => decB f n (askX m st).2
      | none => askX n st
/-- Does it hang on whether two bools are the same? -/
def hasBeq (st : St) : Nat → A → Bool
  | _, .k _ => false
  | 0, .x _ => false
  | f + 1, .x n => match getD st n with
    | some (.not, [a]) => hasBeq st f a
    | some (.sel, [c, a, b]) => bif hasBeq st f c then true else bif hasBeq st f a then true else hasBeq st f b
    | some (.beq, [_, _]) => true
    | _ => false
def decX (n : Nat) (st : St) : Bool × St := match known st n with
  | some b => (b, st)
  | none => match getD st n with
    | some (.beq, [_, _]) => decB 40 n st
    | some (.sel, [_, _, _]) => bif hasBeq st 10 (.x n) then decB 40 n st else askX n st
    | _ => askX n st
def decA (a : A) (st : St) : Bool × St := match a with
  | .k z => (ieq z 1, st)
  | .x n => match getD st n with
    | some (.not, [.x m]) => (match decX m st with | (b, st') => (!b, st'))
    | _ => decX n st
/-- Not known, neither way. -/
def undec (st : St) : A → Bool
  | .k _ => false
  | .x n => match known st n with
    | some _ => false
    | none => true
section
variable (U : Nat → List Int → Int)
def mkLin (k : Int) (l : List (Int × A)) (st : St) : A × St := match l with
  | [] => (.k k, st)
  | [(c, a)] => bif ieq c 1 && ieq k 0 then (a, st) else app U (.lin k [c]) [a] st
  | l => app U (.lin k (l.map Prod.fst)) (l.map Prod.snd) st
def rawLin (sb : Bool) : Rg → Rg → Rg
  | some (a, b), some (c, d) => bif sb then some (a - d, b - c) else some (a + c, b + d)
  | _, _ => none
def in64 : Rg → Bool
  | some (a, b) => ile (-9223372036854775808) a && ile b 9223372036854775807
  | none => false
/-- A sum, or a difference, of 64 bits: where it is not wrapped, as multiples. -/
def sumA (sb : Bool) (a b : A) (st : St) : A × St :=
  match allK [a, b] with
  | some l => (.k (mean U (.iop (bif sb then .sub else .add) .i64) l), st)
  | none => bif in64 (rawLin sb (rangeOf st a) (rangeOf st b)) then (match linF st a, linF st b with
      | (k, l), (j, m) => mkLin U (bif sb then k - j else k + j) (addF (bif sb then -1 else 1) m l) st)
    else app U (.iop (bif sb then .sub else .add) .i64) [a, b] st
def notA (r : A) (st : St) : A × St := app U .not [r] st
/-- A condition that is known is a number. -/
def knowA (x : A × St) : A × St := match x with
  | (.x n, st) => (match known st n with
    | some b => (.k (b2i b), st)
    | none => (.x n, st))
  | (.k z, st) => (.k z, st)
def lssA (a b : A) (st : St) : A × St := bif A.beq a b then (.k 0, st) else knowA (app U (.cmp .lss) [a, b] st)
def eqlA (a b : A) (st : St) : A × St := bif A.beq a b then (.k 1, st) else match a with
  | .k _ => knowA (app U (.cmp .eql) [b, a] st)
  | .x _ => knowA (app U (.cmp .eql) [a, b] st)
def then2 (f : A → St → A × St) : A × St → A × St
  | (r, st) => f r st
def cmpA : BinOp → A → A → St → A × St
  | .lss, a, b, st => lssA U a b st
  | .gtr, a, b, st => lssA U b a st
  | .leq, a, b, st => then2 (notA U) (lssA U b a st)
  | .geq, a, b, st => then2 (notA U) (lssA U a b st)
  | .eql, a, b, st => eqlA U a b st
  | .neq, a, b, st => then2 (notA U) (eqlA U a b st)
  | op, a, b, st => app U (.cmp op) [a, b] st
def beqA (a b : A) (st : St) : A × St := bif A.beq a b then (.k 1, st) else app U .beq [a, b] st
/-- Both. -/
def andA (acc e : A) (st : St) : A × St := match e with
  | .k z => (bif ieq z 1 then acc else .k 0, st)
  | .x n => match acc with
    | .k z => (bif ieq z 1 then .x n else .k 0, st)
    | .x m => app U .sel [.x m, .x n, .k 0] st
/-- The lesser of two (or the greater), where one is told: kept between two bounds, it is a clamping. -/
def clampKey (mn : Bool) (st : St) : A → A → Option (Pr × List A)
  | .x n, .k z => (match getD st n with
    | some (.max, [x, .k lo]) => some (bif mn && ile lo z then (.u 10, [x, .k lo, .k z]) else (bif mn then .min else .max, [.x n, .k z]))
    | some (.min, [x, .k hi]) => some (bif !mn && ile z hi then (.u 10, [x, .k z, .k hi]) else (bif mn then .min else .max, [.x n, .k z]))
    | _ => some (bif mn then .min else .max, [.x n, .k z]))
  | _, _ => none
/-- The lesser of two (or the greater), the second below the first or not. -/
def minD0 (mn : Bool) (a b : A) (st : St) : A × St := match lssA U b a st with
  | (r, st1) => match clampKey mn st1 a b, undec st1 r with
    | some (p, xs), true => app U p xs st1
    | _, _ => match decA r st1 with
      | (c, st2) => (bif mn then (bif c then b else a) else (bif c then a else b), st2)
/-- Is it no greater, by the bounds? -/
def leR (st : St) (a b : A) : Bool := match rangeOf st a, rangeOf st b with
  | some (_, x), some (y, _) => ile x y
  | _, _ => false
def minD (mn : Bool) (a b : A) (st : St) : A × St := bif leR st a b then (bif mn then a else b, st) else bif leR st b a then (bif mn then b else a, st) else minD0 U mn a b st
end

section
variable (P : Program)
def isAggP (t : TypeId) : Option Bool := match P.underlying t with
  | some (.struct _) => some true
  | some (.array _ _) => some true
  | some _ => some false
  | none => none
def sizeP (t : TypeId) : Option Nat := match P.info? t with
  | some i => some i.size
  | none => none
def repL {α : Type} (l : List α) : Nat → List α
  | 0 => []
  | n + 1 => l ++ repL l n
/-- The kinds of a type's cells (a whole number, or a bool), where the type's values are compared cell by cell. -/
def flatFs (flat : TypeId → Option (List Bool)) : List Field → Nat → Option (List Bool)
  | [], _ => some []
  | f :: r, o => if f.name ≠ "_" ∧ f.offset = o then (match flat f.type, sizeP P f.type with
    | some ks, some s => if ks.length = s then (match flatFs flat r (o + s) with
      | some l => some (ks ++ l)
      | none => none) else none
    | _, _ => none) else none
def flat : Nat → TypeId → Option (List Bool)
  | 0, _ => none
  | d + 1, t => match P.underlying t with
    | some (.int _) => some [true]
    | some .bool => some [false]
    | some (.array n e) => (match flat d e, sizeP P e with
      | some ks, some s => if ks.length = s then some (repL ks n) else none
      | _, _ => none)
    | some (.struct fs) => if P.stoodInHeld t then none else flatFs P (flat d) fs.toList 0
    | _ => none
def flatOk (ty : TypeId) : Option (List Bool) := bif isAggP P ty == some true && !P.eqGuardType P.depth ty then flat P 8 ty else none
end
/-- What is looked up of a program: of types, of functions; how the values of a type are compared cell by cell. -/
structure Lk where
  tys : PT TypeInfo
  fns : PT Func
  flats : PT (List Bool)
def Lk.info? (L : Lk) (t : TypeId) : Option TypeInfo := L.tys.get t
def Lk.underlying (L : Lk) (t : TypeId) : Option TypeDesc := match L.tys.get t with
  | some { desc := .named _ u, .. } => (match L.tys.get u with
    | some i => some i.desc
    | none => none)
  | some i => some i.desc
  | none => none
class LkOk (P : Program) (L : Lk) : Prop where
  info : ∀ t i, L.tys.get t = some i → P.info? t = some i
  fn : ∀ f fn, L.fns.get f = some fn → P.funcs[f]? = some fn
  flat : ∀ t ks, L.flats.get t = some ks → flatOk P t = some ks
section
variable (P : Lk) (U : Nat → List Int → Int) (X : FuncId → Nat)

def isAggB (t : TypeId) : Option Bool := match P.underlying t with
  | some (.struct _) => some true
  | some (.array _ _) => some true
  | some _ => some false
  | none => none
def sizeB (t : TypeId) : Option Nat := match P.info? t with
  | some i => some i.size
  | none => none
def isCmp : BinOp → Bool
  | .eql | .neq | .lss | .leq | .gtr | .geq => true
  | _ => false
def isArith : BinOp → Bool
  | .add | .sub | .mul => true
  | _ => false
def isBits : BinOp → Bool
  | .and | .or | .xor | .andNot => true
  | _ => false
/-- So many times a symbol: where it is not wrapped, as a multiple. -/
def mulK (c : Int) (x : A) (st : St) : Option (A × St) := match rangeOf st x with
  | some (lo, hi) => bif !ieq c 0 && in64 (some (mulLo c c lo hi, mulHi c c lo hi)) then some (mkLin U (c * (linF st x).1) (addF c (linF st x).2 []) st) else none
  | none => none
def mulA (a b : A) (st : St) : A × St := match a, b with
  | .k c, .x n => (match mulK U c (.x n) st with
    | some r => r
    | none => app U (.iop .mul .i64) [.k c, .x n] st)
  | .x n, .k c => (match mulK U c (.x n) st with
    | some r => r
    | none => app U (.iop .mul .i64) [.x n, .k c] st)
  | a, b => app U (.iop .mul .i64) [a, b] st
def iopA (op : BinOp) (k : IntKind) (a b : A) (st : St) : A × St := match op, k with
  | .add, .i64 => sumA U false a b st
  | .sub, .i64 => sumA U true a b st
  | .mul, .i64 => mulA U a b st
  | op, k => app U (.iop op k) [a, b] st
/-- What is left of a number, divided. -/
def remA (k : IntKind) (a : A) (z : Int) (st : St) : A × St := match rangeOf st a with
  | some (lo, hi) => bif !ile z (-lo) && (!ile z hi && ile 1 z) then (a, st) else bif ieq lo hi then (.k (lo.tmod z), st) else bif ile 1 z && ieq (lo.tdiv z) (hi.tdiv z) then (match linF st a with
      | (j, l) => mkLin U (j - lo.tdiv z * z) l st) else app U (.iop .rem k) [a, .k z] st
  | none => app U (.iop .rem k) [a, .k z] st
def intOp (op : BinOp) (k : IntKind) (a b : A) (st : St) : Option (V × St) :=
  bif isCmp op then (match cmpA U op a b st with | (r, st') => some (.w (.c (.b r)), st'))
  else bif isArith op || isBits op then (match iopA U op k a b st with | (r, st') => some (.w (.c (.i k r)), st'))
  else match op, b with
    | .quo, .k z => bif ieq z 0 then none else (match app U (.iop .quo k) [a, .k z] st with | (r, st') => some (.w (.c (.i k r)), st'))
    | .rem, .k z => bif ieq z 0 then none else (match remA U k a z st with | (r, st') => some (.w (.c (.i k r)), st'))
    | _, _ => none
def kmin (a b : Nat) : Nat := bif Nat.ble a b then a else b
def shOp (op : BinOp) (k : IntKind) (a b : A) (st : St) : Option (V × St) :=
  match b with
  | .k (.ofNat n) => match op with
    | .shl => (match app U (.shl k (kmin n k.bits)) [a] st with | (r, st') => some (.w (.c (.i k r)), st'))
    | .shr => (match app U (.shr (kmin n k.bits)) [a] st with | (r, st') => some (.w (.c (.i k r)), st'))
    | _ => none
  | _ => none
def eqCells : List Bool → List C → List C → A → St → Option (A × St)
  | [], [], [], acc, st => some (acc, st)
  | true :: ks, .i k a :: r, .i k' b :: q, acc, st => if k = k' then (match eqlA U a b st with
    | (e, st1) => match andA U acc e st1 with
      | (e2, st2) => eqCells ks r q e2 st2) else none
  | false :: ks, .b a :: r, .b b :: q, acc, st => match beqA U a b st with
    | (e, st1) => match andA U acc e st1 with
      | (e2, st2) => eqCells ks r q e2 st2
  | _, _, _, _, _ => none
/-- Pointers, one of them nil. -/
def ptEq : C → C → Option Bool
  | .pn, .pn => some true
  | .p _ _, .pn => some false
  | .pn, .p _ _ => some false
  | _, _ => none
def binOpA (op : BinOp) (ty : TypeId) (x y : V) (st : St) : Option (V × St) :=
  match x, y with
  | .w (.c (.i k a)), .w (.c (.i k' b)) => (match op with
    | .shl => shOp U .shl k a b st
    | .shr => shOp U .shr k a b st
    | op => if k = k' then intOp U op k a b st else none)
  | .w (.c (.b a)), .w (.c (.b b)) => (match P.underlying ty with
    | some .bool => (match op with
      | .eql => (match beqA U a b st with | (r, st') => some (.w (.c (.b r)), st'))
      | .neq => (match beqA U a b st with | (r, st') => match app U .not [r] st' with | (r2, st2) => some (.w (.c (.b r2)), st2))
      | _ => none)
    | _ => none)
  | .w (.agg l), .w (.agg m) => (match P.flats.get ty with
    | some ks => (match eqCells U ks l m (.k 1) st with
      | some (r, st') => (match op with
        | .eql => some (.w (.c (.b r)), st')
        | .neq => (match app U .not [r] st' with | (r2, st2) => some (.w (.c (.b r2)), st2))
        | _ => none)
      | none => none)
    | none => none)
  | .w (.c a), .w (.c b) => (match P.underlying ty, ptEq a b with
    | some (.pointer _), some e => (match op with
      | .eql => some (.w (.c (.b (.k (b2i e)))), st)
      | .neq => some (.w (.c (.b (.k (b2i (!e))))), st)
      | _ => none)
    | _, _ => none)
  | _, _ => none
def fillA (place : Nat → Option (Nat × Nat)) : List C → List (Nat × W) → Option (List C)
  | cells, [] => some cells
  | cells, (i, v) :: rest => match place i with
    | none => none
    | some (off, size) => bif Nat.beq v.cells.length size && Nat.ble (off + size) cells.length then
        fillA place (cells.take off ++ v.cells ++ cells.drop (off + size)) rest else none
def zeroA (t : TypeId) : Option (List C) := match P.info? t with
  | some i => match i.zero with
    | some z => match vOf z with
      | some (.w x) => some x.cells
      | _ => none
    | none => none
  | none => none
def partsA (t : T) : List (Nat × Operand) → Option (List (Nat × W))
  | [] => some []
  | (i, o) :: r => match ev t o with
    | some (.w x) => match partsA t r with
      | some l => some ((i, x) :: l)
      | none => none
    | _ => none
def lkL {α : Type} : List α → Nat → Option α
  | [], _ => none
  | x :: r, i => bif Nat.beq i 0 then some x else lkL r (i - 1)
def placeS (fs : List Field) (i : Nat) : Option (Nat × Nat) := match lkL fs i with
  | some f => match sizeB P f.type with
    | some s => some (f.offset, s)
    | none => none
  | none => none
def buildA (t : TypeId) (parts : List (Nat × W)) : Option (List C) :=
  match zeroA P t with
  | none => none
  | some z => match P.underlying t with
    | some (.struct fs) => bif fs.toList.all (fun f => (sizeB P f.type).isSome) then fillA (placeS P fs.toList) z parts else none
    | some (.array _ e) => match sizeB P e with
      | some s => fillA (fun i => some (i * s, s)) z parts
      | none => none
    | _ => none
def buildSliceA (t : TypeId) (n : Nat) (parts : List (Nat × W)) : Option (List C × TypeId) :=
  match P.underlying t with
  | some (.slice e) => match sizeB P e, zeroA P e with
    | some s, some z => bif Nat.ble (n * s) 16777216 && Nat.beq z.length s && Nat.blt 0 s then
        (match fillA (fun i => some (i * s, s)) (repL z n) parts with
        | some l => some (l, e)
        | none => none) else none
    | _, _ => none
  | _ => none
def takeN {α : Type} : List α → Nat → Option (List α)
  | _, 0 => some []
  | [], _ + 1 => none
  | x :: r, n + 1 => match takeN r n with
    | some l => some (x :: l)
    | none => none
def partA (t : TypeId) (l : List C) (off : Nat) : Option W :=
  match isAggB P t with
  | some true => (match sizeB P t with
    | some s => match takeN (l.drop off) s with
      | some m => some (.agg m)
      | none => none
    | none => none)
  | some false => (match lkL l off with
    | some c => some (.c c)
    | none => none)
  | none => none
def pickA (c a b : V) (st : St) : Option (V × St) := match c with
  | .w (.c (.b (.k z))) => some (bif ieq z 1 then a else b, st)
  | .w (.c (.b (.x n))) => match known st n with
    | some q => some (bif q then a else b, st)
    | none => match a, b with
      | .w (.c (.b x)), .w (.c (.b y)) => (match app U .sel [.x n, x, y] st with | (r, st') => some (.w (.c (.b r)), st'))
      | _, _ => none
  | _ => none
def unA (op : UnOp) (x : V) (st : St) : Option (V × St) := match op, x with
  | .not, .w (.c (.b a)) => (match app U .not [a] st with | (r, st') => some (.w (.c (.b r)), st'))
  | .neg, .w (.c (.i k a)) => (match iopA U .sub k (.k 0) a st with | (r, st') => some (.w (.c (.i k r)), st'))
  | .xor, .w (.c (.i k a)) => (match app U (.xorNot k) [a] st with | (r, st') => some (.w (.c (.i k r)), st'))
  | _, _ => none
def convA (src dst : TypeId) (x : V) (st : St) : Option (V × St) := match P.underlying src, P.underlying dst, x with
  | some _, some (.int k), .w (.c (.i _ a)) => (match app U (.conv k) [a] st with | (r, st') => some (.w (.c (.i k r)), st'))
  | _, _, _ => none
def nilA (x : V) : Option V := match x with
  | .w (.c (.p n o)) => some (.w (.c (.p n o)))
  | _ => none
def fieldAddrA (s : TypeId) (x : V) (f : Nat) : Option V := match P.underlying s, x with
  | some (.struct fs), .w (.c (.p n o)) => (match lkL fs.toList f with
    | some fd => (match sizeB P fd.type with
      | some (_ + 1) => some (.w (.c (.p n (o + fd.offset))))
      | _ => none)
    | none => none)
  | _, _ => none
def fieldA (s : TypeId) (x : V) (f : Nat) : Option V := match P.underlying s, x with
  | some (.struct fs), .w (.agg l) => (match lkL fs.toList f with
    | some fd => (match partA P fd.type l fd.offset with
      | some r => some (.w r)
      | none => none)
    | none => none)
  | _, _ => none
/-- A slice's block, offset, length: where it is known. -/
def slOf : C → Option (Nat × Nat × Nat)
  | .s n o l _ => some (n, o, l)
  | .so n o l _ => some (n, o, l)
  | _ => none
def indexAddrA (ty : TypeId) (x i : V) : Option V := match i with
  | .w (.c (.i _ (.k (.ofNat j)))) => match P.underlying ty, x with
    | some (.array len e), .w (.c (.p n o)) => bif Nat.blt j len then (match sizeB P e with
      | some s => some (.w (.c (.p n (o + j * s))))
      | none => none) else none
    | some (.slice e), .w (.c x) => (match slOf x with
      | some (n, o, len) => bif Nat.blt j len then (match sizeB P e with
        | some s => some (.w (.c (.p n (o + j * s))))
        | none => none) else none
      | none => none)
    | _, _ => none
  | _ => none
/-- A byte of a string that stands in the text. -/
def strA (ty : TypeId) (s : List UInt8) (i : V) : Option V := match i with
  | .w (.c (.i _ (.k (.ofNat j)))) => match P.underlying ty, lkL s j with
    | some .string, some b => some (.w (.c (.i .u8 (.k (.ofNat b.toNat)))))
    | _, _ => none
  | _ => none
def indexA (ty : TypeId) (x i : V) : Option V := match i with
  | .w (.c (.i _ (.k (.ofNat j)))) => match P.underlying ty, x with
    | some (.array len e), .w (.agg l) => bif Nat.blt j len then (match sizeB P e with
      | some s => (match partA P e l (j * s) with
        | some r => some (.w r)
        | none => none)
      | none => none) else none
    | _, _ => none
  | _ => none
def extractA (x : V) (i : Nat) : Option V := match x with
  | .tup l => (match lkL l i with
    | some r => some (.w r)
    | none => none)
  | _ => none
/-- A bound that is told. -/
def bndA (dflt : Nat) : Option V → Option Nat
  | none => some dflt
  | some (.w (.c (.i _ (.k (.ofNat j))))) => some j
  | _ => none
/-- A part of a slice, or of an array that is pointed at. -/
def sliceA (ty : TypeId) (x : V) (lo hi : Option V) : Option V := match P.underlying ty, x with
  | some (.slice e), .w (.c (.s n o len cap)) => (match sizeB P e, bndA 0 lo, bndA len hi with
    | some s, some l, some h => bif Nat.ble l h && Nat.ble h cap then some (.w (.c (.s n (bif Nat.beq cap l then o else o + l * s) (h - l) (cap - l)))) else none
    | _, _, _ => none)
  | some (.slice e), .w (.c (.so n o len d)) => (match sizeB P e, bndA 0 lo, bndA len hi with
    | some s, some l, some h => bif Nat.ble l h && Nat.ble h len && (Nat.blt l len || Nat.beq l 0) then some (.w (.c (.so n (o + l * s) (h - l) (d + l)))) else none
    | _, _, _ => none)
  | some (.slice e), .w (.c .sn) => (match sizeB P e, bndA 0 lo, bndA 0 hi with
    | some _, some l, some h => bif Nat.beq l 0 && Nat.beq h 0 then some (.w (.c .sn)) else none
    | _, _, _ => none)
  | some (.slice e), .w (.c (.sz i)) => (match sizeB P e, bndA 0 lo, bndA 0 hi with
    | some _, some l, some h => bif Nat.beq l 0 && Nat.beq h 0 then some (.w (.c (.sz i))) else none
    | _, _, _ => none)
  | some (.array len e), .w (.c (.p n o)) => (match sizeB P e, bndA 0 lo, bndA len hi with
    | some s, some l, some h => bif Nat.ble l h && Nat.ble h len then some (.w (.c (.s n (bif Nat.beq len l then o else o + l * s) (h - l) (len - l)))) else none
    | _, _, _ => none)
  | _, _ => none
/-- A slice as a pointer at an array. -/
def arrAtA (ty : TypeId) (x : V) : Option V := match P.underlying ty, x with
  | some (.array n _), .w (.c x) => (match slOf x with
    | some (m, o, len) => bif Nat.ble n len then some (.w (.c (.p m o))) else none
    | none => none)
  | _, _ => none
def lenA (ty : TypeId) (x : V) : Option V := match P.underlying ty, x with
  | some (.slice _), .w (.c .sn) => some (.w (.c (.i .i64 (.k 0))))
  | some (.slice _), .w (.c (.sz _)) => some (.w (.c (.i .i64 (.k 0))))
  | some (.slice _), .w (.c (.sx _ a)) => some (.w (.c (.i .i64 a)))
  | some (.slice _), .w (.c x) => (match slOf x with
    | some (_, _, l) => bif inKB .i64 (.ofNat l) then some (.w (.c (.i .i64 (.k (.ofNat l))))) else none
    | none => none)
  | some (.array n _), _ => bif inKB .i64 (.ofNat n) then some (.w (.c (.i .i64 (.k (.ofNat n))))) else none
  | _, _ => none
def minA (mn : Bool) (args : List V) (st : St) : Option (V × St) := match args with
  | [.w (.c (.i k a)), .w (.c (.i k' b))] => if k = k' then (match minD U mn a b st with | (r, st') => some (.w (.c (.i k r)), st')) else none
  | [.w (.c (.i k a)), .w (.c (.i k' b)), .w (.c (.i k'' c))] => if k = k' ∧ k = k'' then (match minD U mn a b st with
    | (r, st') => match minD U mn r c st' with
      | (r2, st2) => some (.w (.c (.i k r2)), st2)) else none
  | _ => none
def evL (t : T) : List Operand → Option (List V)
  | [] => some []
  | o :: r => match ev t o with
    | some v => match evL t r with
      | some l => some (v :: l)
      | none => none
    | none => none
def stay (v : Option V) (st : St) : Option (V × St) := match v with
  | some v => some (v, st)
  | none => none
def ev1 (t : T) (x : Operand) (f : V → Option (V × St)) : Option (V × St) := match ev t x with
  | some v => f v
  | none => none
def evO (t : T) (x : Option Operand) (f : Option V → Option (V × St)) : Option (V × St) := match x with
  | none => f none
  | some o => match ev t o with
    | some v => f (some v)
    | none => none
def builtinA (b : Builtin) (tys : List TypeId) (args : List V) (st : St) : Option (V × St) := match b with
  | .len => match tys, args with
    | [ty], [x] => stay (lenA P ty x) st
    | _, _ => none
  | .min => minA U true args st
  | .max => minA U false args st
  | _ => none
/-- Functions without a text: sums and differences of 64 bits, with a carry. -/
def extA (k : Nat) (args : List V) : Option V := match args with
  | [.w (.c (.i .u64 (.k (.ofNat a)))), .w (.c (.i .u64 (.k (.ofNat b)))), .w (.c (.i .u64 (.k (.ofNat c))))] => bif Nat.ble c 1 then
      (bif Nat.beq k 1 then some (.tup [.c (.i .u64 (.k (.ofNat ((a + b + c) % 18446744073709551616)))), .c (.i .u64 (.k (.ofNat ((a + b + c) / 18446744073709551616))))])
      else bif Nat.beq k 2 then some (.tup [.c (.i .u64 (.k (.ofNat ((a + 18446744073709551616 - b - c) % 18446744073709551616)))), .c (.i .u64 (.k (.ofNat (bif Nat.blt a (b + c) then 1 else 0))))])
      else none) else none
  | _ => none
/-- A number whose bounds meet. -/
def clV (st : St) : V → V
  | .w (.c (.i k (.x n))) => (match rangeOf st (.x n) with
    | some (lo, hi) => bif ieq lo hi then .w (.c (.i k (.k lo))) else .w (.c (.i k (.x n)))
    | none => .w (.c (.i k (.x n))))
  | v => v
/-- What yields its value in whatever world. -/
def pureOp (t : T) (op : Op) (st : St) : Option (V × St) :=
  match op with
  | .move x => ev1 t x fun v => some (v, st)
  | .assign x => ev1 t x fun v => some (v, st)
  | .pick c a b => ev1 t c fun c => ev1 t a fun a => ev1 t b fun b => pickA U c a b st
  | .build ty parts => match partsA t parts.toList with
    | some l => match buildA P ty l with
      | some r => some (.w (.agg r), st)
      | none => none
    | none => none
  | .binOp op ty x y _ => ev1 t x fun a => ev1 t y fun b => binOpA P U op ty a b st
  | .unOp op _ x => ev1 t x fun a => unA U op a st
  | .convert src dst x => ev1 t x fun a => convA P U src dst a st
  | .nilCheck x => ev1 t x fun a => stay (nilA a) st
  | .fieldAddr s x f => ev1 t x fun a => stay (fieldAddrA P s a f) st
  | .field s x f => ev1 t x fun a => stay (fieldA P s a f) st
  | .indexAddr ty x i => ev1 t x fun a => ev1 t i fun b => stay (indexAddrA P ty a (clV st b)) st
  | .index ty (.const (.string ⟨⟨s⟩⟩)) i => ev1 t i fun b => stay (strA P ty s b) st
  | .index ty x i => ev1 t x fun a => ev1 t i fun b => stay (indexA P ty a (clV st b)) st
  | .extract x i => ev1 t x fun a => stay (extractA a i) st
  | .slice ty x lo hi none => ev1 t x fun a => evO t lo fun l => evO t hi fun h => stay (sliceA P ty a l h) st
  | .sliceToArrayPointer ty x => ev1 t x fun a => stay (arrAtA P ty a) st
  | .call { callee := .builtin b, args, argTypes } => match evL t args.toList with
    | some l => builtinA P U b argTypes.toList l st
    | none => none
  | .call { callee := .value (.func f), args, argTypes := _ } => bif Nat.beq (X f) 0 then none else match evL t args.toList with
    | some l => stay (extA (X f) l) st
    | none => none
  | _ => none

def loadOp (t : T) (heap : List (Nat × Bk)) (op : Op) : Option V :=
  match op with
  | .load ty x => match ev t x with
    | some (.w (.c (.p n o))) => match hget heap n with
      | some bk => match partA P ty bk.cells o with
        | some r => some (.w r)
        | none => none
      | none => none
    | _ => none
  | _ => none
def setCells (l : List C) (off : Nat) (vs : List C) : Option (List C) :=
  bif Nat.ble (off + vs.length) l.length then some (l.take off ++ vs ++ l.drop (off + vs.length)) else none
def mkBk (nm : Option Nat) (kd : Kd) (cells : List C) (ty : TypeId) (r : Nat → V) (st : St) : Option (V × St) := match nm with
  | some n => bif st.resv.contains n then some (r n, { st with heap := hset st.heap n ⟨cells, ty, kd⟩, resv := st.resv.filter fun x => !Nat.beq x n }) else none
  | none => some (r st.next, { st with heap := hset st.heap st.next ⟨cells, ty, kd⟩, next := st.next + 1 })
def hdel : List (Nat × Bk) → Nat → List (Nat × Bk)
  | [], _ => []
  | (m, b) :: r, n => bif Nat.beq m n then hdel r n else (m, b) :: hdel r n
def lenC : C → Option Nat
  | .sn => some 0
  | .sz _ => some 0
  | x => match slOf x with
    | some (_, _, l) => some l
    | none => none
/-- The first so many cells of a slice. -/
def readC (heap : List (Nat × Bk)) (x : C) (k : Nat) : Option (List C) := bif Nat.beq k 0 then some [] else match slOf x with
  | some (m, o, _) => (match hget heap m with
    | some bk => takeN (bk.cells.drop o) k
    | none => none)
  | none => none
def writeC (st : St) (n o : Nat) (l : List C) : Option St := match hget st.heap n with
  | some bk => bif bk.kd.free then (match setCells bk.cells o l with
    | some m => some { st with heap := hset st.heap n ⟨m, bk.ty, bk.kd⟩ }
    | none => none) else none
  | none => none
def copyA (dt : TypeId) (x y : C) (st : St) : Option (V × St) := match P.underlying dt with
  | some (.slice e) => match sizeB P e, lenC x, lenC y with
    | some s, some l, some k => (bif Nat.beq (kmin k l) 0 then some (.w (.c (.i .i64 (.k 0))), st) else match slOf x, readC st.heap y (kmin k l * s) with
      | some (n, o, _), some cs => (match writeC st n o cs with
        | some st' => bif inKB .i64 (.ofNat (kmin k l)) then some (.w (.c (.i .i64 (.k (.ofNat (kmin k l))))), st') else none
        | none => none)
      | _, _ => none)
    | _, _, _ => none
  | _ => none
def roomy : C → Bool
  | .s _ _ l c => Nat.ble l c
  | _ => true
def zeroLen (e : TypeId) (s : Nat) : Bool := match zeroA P e with
  | some z => Nat.beq z.length s
  | none => false
def appendA (nm : Option Nat) (ty : TypeId) (x y : C) (st : St) : Option (V × St) := match P.underlying ty with
  | some (.slice e) => match P.info? e, lenC x, lenC y with
    | some i, some l, some k => (bif Nat.beq k 0 then (bif roomy x then some (.w (.c x), st) else none) else
      bif (Nat.ble ((l + k) * i.bytes) 140737488355328 && Nat.ble (l + k) 4611686018427387904) && (zeroLen P e i.size && Nat.blt 0 i.size) then (match readC st.heap y (k * i.size) with
        | some news => (match x with
          | .sn => mkBk nm (.op i.size) news e (fun m => .w (.c (.so m 0 k 0))) st
          | .s n o l c => bif Nat.ble (l + k) c then (match writeC st n (o + l * i.size) news with
              | some st' => some (.w (.c (.s n o (l + k) c)), st')
              | none => none)
            else (match readC st.heap (.s n o l c) (l * i.size) with
              | some olds => mkBk nm (.op i.size) (olds ++ news) e (fun m => .w (.c (.so m 0 (l + k) 0))) st
              | none => none)
          | .so n o l d => (match hget st.heap n with
            | some bk => bif decide (bk.kd = .op i.size) && (Nat.beq bk.ty e && (Nat.beq o (d * i.size) && Nat.ble (o + l * i.size) bk.cells.length)) then (match takeN (bk.cells.drop o) (l * i.size) with
                | some olds => mkBk nm (.op i.size) (olds ++ news) e (fun m => .w (.c (.so m 0 (l + k) 0))) { st with heap := hdel st.heap n }
                | none => none) else none
            | none => none)
          | _ => none)
        | none => none) else none)
    | _, _, _ => none
  | _ => none
def makeSliceA (nm : Option Nat) (ty : TypeId) (x y : V) (st : St) : Option (V × St) := match P.underlying ty, x, y with
  | some (.slice e), .w (.c (.i _ (.k (.ofNat l)))), .w (.c (.i _ (.k (.ofNat c)))) => (match P.info? e, zeroA P e with
    | some i, some z => bif Nat.ble l c && (Nat.ble (i.bytes * c) 140737488355328 && (Nat.ble c 4611686018427387904 && (Nat.beq z.length i.size && Nat.blt 0 i.size))) then mkBk nm .own (repL z c) e (fun n => .w (.c (.s n 0 l c))) st else none
    | _, _ => none)
  | _, _, _ => none
def effB (nm : Option Nat) (b : Builtin) (tys : List TypeId) (args : List V) (st : St) : Option (V × St) := match b, tys, args with
  | .append, [t, t'], [.w (.c x), .w (.c y)] => bif Nat.beq t t' then appendA P nm t x y st else none
  | .copy, [t, _], [.w (.c x), .w (.c y)] => copyA P t x y st
  | _, _, _ => none
def hasBody (f : FuncId) : Bool := match P.fns.get f with
  | some fn => fn.body.isSome
  | none => false
/-- What writes, makes memory, or calls. -/
def effOp (call : FuncId → List V → St → Option (V × St)) (t : T) (nm : Option Nat) (op : Op) (st : St) : Option (V × St) :=
  match op with
  | .alloc ty => match zeroA P ty with
    | some z => mkBk nm .own z ty (fun n => .w (.c (.p n 0))) st
    | none => none
  | .box ty x => match ev t x with
    | some (.w v) => mkBk nm .own v.cells ty (fun n => .w (.c (.p n 0))) st
    | _ => none
  | .buildSlice ty len parts => match partsA t parts.toList with
    | some l => match buildSliceA P ty len l with
      | some (cells, e) => mkBk nm .own cells e (fun n => .w (.c (.s n 0 len len))) st
      | none => none
    | none => none
  | .store ty x v => match ev t x, ev t v with
    | some (.w (.c (.p n o))), some (.w v) => match hget st.heap n, sizeB P ty with
      | some bk, some s => bif Nat.beq v.cells.length s && bk.kd.free then (match setCells bk.cells o v.cells with
        | some l => some (.tup [], { st with heap := hset st.heap n ⟨l, bk.ty, bk.kd⟩ })
        | none => none) else none
      | _, _ => none
    | _, _ => none
  | .call { callee := .value (.func f), args, argTypes := _ } => match evL t args.toList with
    | some l => bif hasBody P f then call f l st else none
    | none => none
  | .makeSlice ty len cap => match ev t len, ev t cap with
    | some x, some y => makeSliceA P nm ty x y st
    | _, _ => none
  | .call { callee := .builtin b, args, argTypes } => match evL t args.toList with
    | some l => effB P nm b argTypes.toList l st
    | none => none
  | _ => none
def stepOp (call : FuncId → List V → St → Option (V × St)) (t : T) (nm : Option Nat) (op : Op) (st : St) : Option (V × St) :=
  match pureOp P U X t op st with
  | some r => some r
  | none => match loadOp P t st.heap op with
    | some v => some (v, st)
    | none => effOp P call t nm op st
def putT (t : T) (dst : Option Nat) (v : V) : T := match dst with
  | some d => t.set 14 d v
  | none => t
def decideC (v : V) (st : St) : Option (Bool × St) := match v with
  | .w (.c (.b a)) => some (decA a st)
  | _ => none
/-- Is the operation carried out? -/
def wantedA (ops : List Oper) (t : T) (o : Oper) (st : St) : Option (Bool × St) := match o.guard with
  | none => some (true, st)
  | some (j, want) => match lkL ops j with
    | some oj => match oj.dst with
      | some d => match t.get d with
        | some (.tup []) => some (false, st)
        | some v => match decideC v st with
          | some (b, st') => some (bif want then b else !b, st')
          | none => none
        | none => none
      | none => none
    | none => none
def runOps (call : FuncId → List V → St → Option (V × St)) (all : List Oper) : List Oper → T → St → Option (T × St)
  | [], t, st => some (t, st)
  | o :: r, t, st => match wantedA all t o st with
    | some (true, st0) => match stepOp P U X call t none o.op st0 with
      | some (v, st') => runOps call all r (putT t o.dst v) st'
      | none => none
    | some (false, st0) => runOps call all r (putT t o.dst (.tup [])) st0
    | none => none

inductive Ex where
  | normal | exit (id : Nat) | ret
  deriving DecidableEq, Inhabited
end
end
end Go.Proofs.Ytdleeeahonfnkaa.SX

/- SxS -/
namespace Go.Proofs.Ytdleeeahonfnkaa.SX
open Go
noncomputable section
section
variable (U : Nat → List Int → Int)
/-- The one, or the other, as a condition says. -/
def selA (c : Nat) (a b : A) (st : St) : A × St := bif A.beq a b then (a, st) else app U .sel [.x c, a, b] st
def isOne : A → Bool
  | .k z => ieq z 1
  | .x _ => false
def isNought : A → Bool
  | .k z => !ieq z 1
  | .x _ => false
def selB (c : Nat) (a b : A) (st : St) : A × St :=
  bif A.beq a b then (a, st) else bif isOne a && isNought b then (.x c, st) else bif isNought a && isOne b then app U .not [.x c] st else app U .sel [.x c, a, b] st
def selC (c : Nat) (x y : C) (st : St) : Option (C × St) := match x, y with
  | .b a, .b b => (match selB U c a b st with | (r, st') => some (.b r, st'))
  | .i k a, .i k' b => if k = k' then (match selA U c a b st with | (r, st') => some (.i k r, st')) else none
  | x, y => if x = y then some (x, st) else none
def selL (c : Nat) : List C → List C → St → Option (List C × St)
  | [], [], st => some ([], st)
  | x :: l, y :: m, st => match selC U c x y st with
    | some (z, st1) => match selL c l m st1 with
      | some (q, st2) => some (z :: q, st2)
      | none => none
    | none => none
  | _, _, _ => none
def selW (c : Nat) : W → W → St → Option (W × St)
  | .c x, .c y, st => match selC U c x y st with
    | some (z, st') => some (.c z, st')
    | none => none
  | .agg l, .agg m, st => match selL U c l m st with
    | some (z, st') => some (.agg z, st')
    | none => none
  | _, _, _ => none
def selWs (c : Nat) : List W → List W → St → Option (List W × St)
  | [], [], st => some ([], st)
  | x :: l, y :: m, st => match selW U c x y st with
    | some (z, st1) => match selWs c l m st1 with
      | some (q, st2) => some (z :: q, st2)
      | none => none
    | none => none
  | _, _, _ => none
def selV (c : Nat) : V → V → St → Option (V × St)
  | .w x, .w y, st => match selW U c x y st with
    | some (z, st') => some (.w z, st')
    | none => none
  | .tup l, .tup m, st => match selWs U c l m st with
    | some (z, st') => some (.tup z, st')
    | none => none
  | _, _, _ => none
/-- Of slots, those that go together. -/
def selO (c : Nat) : Option V → Option V → St → Option V × St
  | some a, some b, st => match selV U c a b st with
    | some (z, st') => (some z, st')
    | none => (none, st)
  | _, _, st => (none, st)
def selT (c : Nat) : PT V → PT V → St → PT V × St
  | .n l v r, .n l' v' r', st => match selO U c v v' st with
    | (x, st1) => match selT c l l' st1 with
      | (p, st2) => match selT c r r' st2 with
        | (q, st3) => (.n p x q, st3)
  | _, _, st => (.e, st)
def dropTo (n : Nat) : List (Nat × Bk) → List (Nat × Bk)
  | [] => []
  | (m, b) :: r => bif Nat.blt n m then dropTo n r else (m, b) :: r
def selH (c : Nat) : List (Nat × Bk) → List (Nat × Bk) → St → List (Nat × Bk) × St
  | [], _, st => ([], st)
  | (n, b) :: r, h, st => match dropTo n h with
    | [] => ([], st)
    | (m, b') :: q => if m = n ∧ b.ty = b'.ty ∧ b.kd = b'.kd then (match selL U c b.cells b'.cells st with
        | some (l, st1) => (match selH c r q st1 with
          | (rest, st2) => ((n, ⟨l, b.ty, b.kd⟩) :: rest, st2))
        | none => selH c r q st) else selH c r ((m, b') :: q) st
end
/-- Each name once, the greatest first. -/
def sortedB : List (Nat × Bk) → Bool
  | [] => true
  | [_] => true
  | (n, _) :: (m, b) :: r => Nat.blt m n && sortedB ((m, b) :: r)
/-! ### Memory of two ways -/
section
variable (U : Nat → List Int → Int)
def memSel (c : Nat) (s1 s2 m : St) : Option St :=
  bif sortedB s1.heap && sortedB s2.heap then (if s1.resv = s2.resv then (match selH U c s1.heap s2.heap m with
    | (h, m2) => some { m2 with heap := h, next := bif Nat.ble s1.next s2.next then s2.next else s1.next, resv := s2.resv }) else none) else none
end
def ptSub : PT (Pr × List A) → PT (Pr × List A) → Bool
  | .e, _ => true
  | .n l v r, .n l' v' r' => (match v with
    | none => true
    | some (p, xs) => match v' with
      | some (q, ys) => bif A.beqL xs ys then decide (p = q) else false
      | none => false) && (ptSub l l' && ptSub r r')
  | .n _ _ _, .e => false
def later (st s : St) : Bool := Nat.ble st.nv s.nv && (ptSub st.dt s.dt && !st.bad)
def ciL (st : St) : List (Nat × Bool) → List (Bool × A × A × Bool)
  | [] => []
  | (n, b) :: r => infoOf st n b ++ ciL st r
def firstTrue : List Bool → List (Nat × Bool) → Bool
  | [], [] => true
  | [], (_, b) :: r => b && firstTrue [] r
  | p :: ps, (_, b) :: r => (p == b) && firstTrue ps r
  | _ :: _, [] => false
def withNames (st s : St) : St := { st with nv := s.nv, dt := s.dt, ix := s.ix, rg := .e, bad := s.bad }
section
variable {R : Type} (run : St → Option (R × St)) (mg : Nat → R → St → R → St → Option (R × St))
/-- The other ways, one by one, and with each: together. -/
def backs (go : List Bool → St → Option (List (Nat × Bool) × R × St)) (st : St) : Nat → List (Nat × Bool) → R → St → Option (R × St)
  | 0, _, r, s => some (r, s)
  | e + 1, (n, b) :: rest, r, s => bif b then (match go ((rest.map Prod.snd).reverse ++ [false]) (withNames st s) with
      | some (ds, r2, s2) => if ds = ((n, false) :: rest).reverse then (match mg n r s r2 s2 with
          | some (r3, s3) => bif decide (s3.cs = st.cs) && (decide (s3.ci = st.ci) && isE s3.rg) then backs go st e rest r3 s3 else none
          | none => none) else none
      | none => none) else none
  | _ + 1, [], _, _ => none
def go : Nat → List Bool → St → Option (List (Nat × Bool) × R × St)
  | 0, _, _ => none
  | f + 1, pre, st => match run { st with orc := pre, rg := .e } with
    | none => none
    | some (r, s) =>
      let k := s.cs.length - st.cs.length
      let new := s.cs.take k
      bif decide (s.cs.drop k = st.cs) && (firstTrue pre new.reverse && (decide (s.ci = ciL s new ++ st.ci) && (later st s && rgAll s id s.rg))) then
        (match backs mg (go f) st (new.length - pre.length) new r { s with cs := st.cs, ci := st.ci, rg := .e, orc := st.orc } with
        | some (r', s') => some (new.reverse.take pre.length, r', s')
        | none => none) else none
end
section
variable (U : Nat → List Int → Int)
/-- What a call comes to on two ways. -/
def mgV (c : Nat) (r1 : V) (s1 : St) (r2 : V) (s2 : St) : Option (V × St) := match selV U c r1 r2 s2 with
  | some (v, m) => (match memSel U c s1 s2 m with
    | some m' => some (v, m')
    | none => none)
  | none => none
/-- What a piece of code comes to on two ways. -/
def mgE (c : Nat) (r1 : Ex × T) (s1 : St) (r2 : Ex × T) (s2 : St) : Option ((Ex × T) × St) :=
  if r1.1 = r2.1 then (match selT U c r1.2 r2.2 s2 with
    | (t, m) => match memSel U c s1 s2 m with
      | some m' => some ((r1.1, t), m')
      | none => none) else none
end
/-- All ways together; where they do not come together: as they come. -/
def mergeRun {R : Type} (run : St → Option (R × St)) (mg : Nat → R → St → R → St → Option (R × St)) (st : St) : Option (R × St) :=
  match run { st with orc := [] } with
  | none => none
  | some (r, s) => bif Nat.beq s.cs.length st.cs.length then some (r, { s with orc := st.orc }) else match go run mg 24 [] st with
    | some ([], r, s) => bif isE s.rg then some (r, { s with rg := st.rg }) else run st
    | _ => run st
def reE (x : Option (Ex × T × St)) : Option ((Ex × T) × St) := match x with
  | some (e, t, s) => some ((e, t), s)
  | none => none
def unE (x : Option ((Ex × T) × St)) : Option (Ex × T × St) := match x with
  | some ((e, t), s) => some (e, t, s)
  | none => none
/-! ### Names that are not used any more are given up -/
def C.under (n : Nat) : C → Bool
  | .b a => a.below n
  | .i _ a => a.below n
  | .sx _ a => a.below n
  | _ => true
def W.under (n : Nat) : W → Bool
  | .c x => x.under n
  | .agg l => l.all (C.under n)
def V.under (n : Nat) : V → Bool
  | .w x => x.under n
  | .tup l => l.all (W.under n)
def cleanT (n : Nat) : PT V → PT V
  | .e => .e
  | .n l v r => .n (cleanT n l) (match v with
    | some x => bif x.under n then some x else none
    | none => none) (cleanT n r)
def underT (n : Nat) : PT V → Bool
  | .e => true
  | .n l v r => (match v with
    | some x => x.under n
    | none => true) && (underT n l && underT n r)
def cleanH (n : Nat) : List (Nat × Bk) → List (Nat × Bk)
  | [] => []
  | (m, b) :: r => bif b.cells.all (C.under n) then (m, b) :: cleanH n r else cleanH n r
def underH (n : Nat) (h : List (Nat × Bk)) : Bool := h.all fun x => x.2.cells.all (C.under n)
/-- The names from lo on, the latest first. -/
def newL (s : St) (lo : Nat) : Nat → List (Nat × Pr × List A)
  | 0 => []
  | k + 1 => match getD s (lo + k) with
    | some (p, xa) => (lo + k, p, xa) :: newL s lo k
    | none => newL s lo k
/-- Each is told by earlier ones; none of the first nv is told. -/
def wfD (nv : Nat) : Nat → List (Nat × Pr × List A) → Bool
  | _, [] => true
  | b, (n, _, xa) :: r => Nat.blt n b && Nat.ble nv n && xa.all (A.below n) && wfD nv n r
def oldOk (st s : St) (lo : Nat) : Nat → Bool
  | 0 => true
  | n + 1 => (match getD s n with
    | none => true
    | some (p, xs) => match getD st n with
      | some (q, ys) => (bif A.beqL xs ys then decide (p = q) else false) && xs.all (A.below lo)
      | none => false) && oldOk st s lo n
def cleanOk (t0 : T) (st s : St) : Bool :=
  (underT st.nv t0 && underH st.nv st.heap && sortedB s.heap) && ((oldOk st s st.nv st.nv && wfD st.nv s.nv (newL s st.nv (s.nv - st.nv))) && ((s.cs.isEmpty && s.ci.isEmpty) && (rgAll s id s.rg && !s.bad)))
def cleanE (t0 : T) (run : St → Option (Ex × T × St)) (st : St) : Option (Ex × T × St) := match run st with
  | none => none
  | some (e, t, s) => bif cleanOk t0 st s then some (e, cleanT st.nv t, { st with heap := cleanH st.nv s.heap, next := s.next, resv := s.resv }) else none
/-- How the rounds of a loop are taken: 0: as they come; 1: the ways come together; 2: and the names are given up. What follows a piece: the ways come together at its end. -/
def mkE (U : Nat → List Int → Int) (b : Nat) (lp : Bool) (t0 : T) (run : St → Option (Ex × T × St)) (st : St) : Option (Ex × T × St) :=
  bif Nat.beq b 0 then run st else bif Nat.beq b 1 || !lp then unE (mergeRun (fun st => reE (run st)) (mgE U) st) else cleanE t0 (fun st => unE (mergeRun (fun st => reE (run st)) (mgE U) st)) st
def mkV (U : Nat → List Int → Int) (b : Bool) (run : St → Option (V × St)) (st : St) : Option (V × St) :=
  bif b then mergeRun run (mgV U) st else run st
end
end Go.Proofs.Ytdleeeahonfnkaa.SX

/- SxB -/
namespace Go.Proofs.Ytdleeeahonfnkaa.SX
open Go
noncomputable section

section
variable (P : Lk) (U : Nat → List Int → Int) (X : FuncId → Nat)

/-! ### Which operations may come next: a set of numbers as a number's bits -/
def tb (m i : Nat) : Bool := Nat.beq (Nat.mod (Nat.div m (Nat.pow 2 i)) 2) 1
def sb (m i : Nat) : Nat := Nat.lor m (Nat.pow 2 i)
def afterF (lm : Nat) : List Edge → Bool
  | [] => true
  | e :: r => bif (bif Region.binds .any e then tb lm e.on else true) then afterF lm r else false
def readyF (lm : Nat) : Nat → List Oper → List Nat
  | _, [] => []
  | i, o :: r => bif tb lm i then readyF lm (i + 1) r else bif afterF lm o.after.toList then i :: readyF lm (i + 1) r else readyF lm (i + 1) r
def onF (i : Nat) : List Edge → Bool
  | [] => false
  | e :: r => bif (bif Nat.beq e.on i then Region.binds .any e else false) then true else onF i r
def freeL (ops : Array Oper) (lm i : Nat) (oi : Oper) : Nat → List Oper → Bool
  | _, [] => true
  | j, oj :: r => bif (bif Nat.beq j i then true else bif tb lm j then true else bif onF i oj.after.toList then true else oi.apart ops oj) then freeL ops lm i oi (j + 1) r else false
def freeF (ops : Array Oper) (opl : List Oper) (lm i : Nat) : Bool := match lkL opl i with
  | none => false
  | some oi => freeL ops lm i oi 0 opl
/-! ### What may be made ahead: memory that an operation makes out of what is known, whatever else has been carried out -/
abbrev Gh := List (Nat × V)
def allF (rm : Nat) : Gh → Nat
  | [] => rm
  | (p, _) :: r => sb (allF rm r) p
def apartG (ops : Array Oper) (opl : List Oper) (o : Oper) : Gh → Bool
  | [] => true
  | (p, _) :: r => match lkL opl p with
    | some q => bif q.apart ops o && o.apart ops q then apartG ops opl o r else false
    | none => false
/-- Those that the operation waits for, and the others. -/
def waitsG (o : Oper) : Gh → Gh
  | [] => []
  | (p, v) :: r => bif onF p o.after.toList then (p, v) :: waitsG o r else waitsG o r
def restG (o : Oper) : Gh → Gh
  | [] => []
  | (p, v) :: r => bif onF p o.after.toList then restG o r else (p, v) :: restG o r
def putG (opl : List Oper) (t : T) : Gh → T
  | [] => t
  | (p, v) :: r => match lkL opl p with
    | some o => putT (putG opl t r) o.dst v
    | none => putG opl t r
def keepG (base : Nat) (h h' : List (Nat × Bk)) : Gh → Bool
  | [] => true
  | (p, _) :: r => match hget h (base + p), hget h' (base + p) with
    | some b, some b' => if b' = b then keepG base h h' r else false
    | _, _ => false
/-- What has been in a slot is no longer known. -/
def PT.clr {α : Type} : PT α → Nat → PT α
  | .e, _ => .e
  | .n l v r, i => bif Nat.beq i 0 then .n l none r else bif Nat.beq (i % 2) 1 then .n (PT.clr l (i / 2)) v r else .n l v (PT.clr r (i / 2 - 1))
def clrT (t : T) (dst : Option Nat) : T := match dst with
  | none => t
  | some d => match t.get d with
    | none => t
    | some _ => PT.clr t d
def ghostA (t : T) (n : Nat) (o : Oper) : Option (V × List C × TypeId) := match o.guard with
  | some _ => none
  | none => match o.op with
    | .alloc ty => (match zeroA P ty with
      | some z => some (.w (.c (.p n 0)), z, ty)
      | none => none)
    | .box ty x => (match ev t x with
      | some (.w v) => some (.w (.c (.p n 0)), v.cells, ty)
      | _ => none)
    | .buildSlice ty len parts => (match partsA t parts.toList with
      | some l => (match buildSliceA P ty len l with
        | some (cells, e) => some (.w (.c (.s n 0 len len)), cells, e)
        | none => none)
      | none => none)
    | _ => none
/-! ### Regions whose slots are written once, what is looked at being waited for -/
def dstsM : List Oper → Nat → Option Nat
  | [], m => some m
  | o :: r, m => match o.dst with
    | none => dstsM r m
    | some d => bif tb m d then none else dstsM r (sb m d)
def dstOf (opl : List Oper) (i : Nat) : Option Nat := match lkL opl i with
  | some o => o.dst
  | none => none
def edgeTo (opl : List Oper) (d : Nat) : List Edge → Bool
  | [] => false
  | e :: r => bif (bif Region.binds .any e then (match dstOf opl e.on with
    | some x => Nat.beq x d
    | none => false) else false) then true else edgeTo opl d r
def looksOk (opl : List Oper) (m : Nat) (es : List Edge) : List Nat → Bool
  | [] => true
  | d :: r => bif tb m d then (bif edgeTo opl d es then looksOk opl m es r else false) else looksOk opl m es r
def ssaAll (ops : Array Oper) (opl : List Oper) (m : Nat) : List Oper → Bool
  | [] => true
  | o :: r => bif looksOk opl m o.after.toList (o.looksAt ops) then ssaAll ops opl m r else false
def ssaOk (ops : Array Oper) (opl : List Oper) : Bool := match dstsM opl 0 with
  | none => false
  | some m => ssaAll ops opl m opl
def freeG (ops : Array Oper) (opl : List Oper) (ssa : Bool) (rm : Nat) (gl : Gh) (i : Nat) (o : Oper) : Bool := bif ssa then true else bif freeF ops opl rm i then apartG ops opl o gl else false
/-- An operation that may come up: made ahead, or taken first as it yields its value whatever comes before it. -/
def takeOne (ops : Array Oper) (opl : List Oper) (base : Nat) (ssa : Bool) (stable : List (Nat × Bk)) (rm : Nat) (gl : Gh) (t : T) (st : St) (i : Nat) (o : Oper) : Option (Bool × V × T × St) := match ghostA P t (base + i) o with
  | some (v, cells, ty) => bif (bif ssa then true else apartG ops opl o gl) && st.resv.contains (base + i) then some (true, v, clrT t o.dst, { st with heap := hset st.heap (base + i) ⟨cells, ty, .own⟩, resv := st.resv.filter fun x => !Nat.beq x (base + i) }) else none
  | none => match wantedA opl t o st with
    | some (true, st0) => (match pureOp P U X t o.op st0 with
      | some (v, st') => bif freeG ops opl ssa rm gl i o then some (false, v, putT t o.dst v, st') else none
      | none => match loadOp P t stable o.op with
        | some v => bif freeG ops opl ssa rm gl i o then some (false, v, putT t o.dst v, st0) else none
        | none => none)
    | some (false, st0) => bif freeG ops opl ssa rm gl i o then some (false, .tup [], putT t o.dst (.tup []), st0) else none
    | none => none
/-- All that can be taken, from the first to the last. -/
def sweep (ops : Array Oper) (opl : List Oper) (base : Nat) (ssa : Bool) (stable : List (Nat × Bk)) : List Oper → Nat → Nat → Nat → Gh → T → St → Nat × Nat × Gh × T × St
  | [], _, n, rm, gl, t, st => (n, rm, gl, t, st)
  | o :: r, i, n, rm, gl, t, st => bif tb (allF rm gl) i then sweep ops opl base ssa stable r (i + 1) n rm gl t st else bif afterF rm o.after.toList then (match n with
      | 0 => (0, rm, gl, t, st)
      | m + 1 => match takeOne P U X ops opl base ssa stable rm gl t st i o with
        | some (true, v, t', st') => sweep ops opl base ssa stable r (i + 1) m rm ((i, v) :: gl) t' st'
        | some (false, _, t', st') => sweep ops opl base ssa stable r (i + 1) m (sb rm i) gl t' st'
        | none => sweep ops opl base ssa stable r (i + 1) (m + 1) rm gl t st)
    else sweep ops opl base ssa stable r (i + 1) n rm gl t st
def keepsB (heap : List (Nat × Bk)) : List (Nat × Bk) → Bool
  | [] => true
  | (n, b) :: r => match hget heap n with
    | some b' => if b' = b then keepsB heap r else false
    | none => false
/-- As it stood, but with what symbols have been named. -/
def withDefs (st d : St) : St := { st with nv := d.nv, dt := d.dt, ix := d.ix, rg := d.rg, bad := d.bad }
/-- All come to the same. -/
def allSame (f : Nat → Option (T × St) → Option (T × St)) : List Nat → Option (T × St) → Option (T × St)
  | [], acc => acc
  | i :: r, none => match f i none with
    | some x => allSame f r (some x)
    | none => none
  | i :: r, some g => match f i (some g) with
    | some x => if x = g then allSame f r (some g) else none
    | none => none
def startOf (st : St) : Option (T × St) → St
  | some (_, d) => withDefs st d
  | none => st
def explore (call : FuncId → List V → St → Option (V × St)) (ops : Array Oper) (opl : List Oper) (ssa : Bool) (stable : List (Nat × Bk)) (base : Nat) : Nat → Nat → Nat → Gh → T → St → Option (T × St)
  | 0, _, _, _, _, _ => none
  | f + 1, n, rm, gl, t, st => match sweep P U X ops opl base ssa stable opl 0 n rm gl t st with
    | (n1, rm1, gl1, t1, st1) => bif Nat.blt n1 n then explore call ops opl ssa stable base f n1 rm1 gl1 t1 st1 else
      match readyF (allF rm gl) 0 opl with
      | [] => some (putG opl t gl, st)
      | rs => match n with
        | 0 => none
        | m + 1 => allSame (fun i acc => match lkL opl i with
          | none => none
          | some o => bif (bif ssa then true else apartG ops opl o (restG o gl)) then (match wantedA opl (putG opl t (waitsG o gl)) o (startOf st acc) with
            | some (true, st0) => (match stepOp P U X call (putG opl t (waitsG o gl)) (some (base + i)) o.op st0 with
              | some (v, st') => bif keepsB st'.heap stable && keepG base st.heap st'.heap (restG o gl) then explore call ops opl ssa stable base f m (sb (allF rm (waitsG o gl)) i) (restG o gl) (putT (putG opl t (waitsG o gl)) o.dst v) st' else none
              | none => none)
            | _ => none) else none) rs none
/-- The block that an address lies in, as far as it is seen before the region is run. -/
def rootOf (opl : List Oper) (t : T) : Nat → Operand → Option Nat
  | 0, _ => none
  | n + 1, .tmp i => match opl.find? (fun o => o.dst == some i) with
    | some o => match o.op with
      | .fieldAddr _ x _ => rootOf opl t n x
      | .indexAddr _ x _ => rootOf opl t n x
      | .nilCheck x => rootOf opl t n x
      | .move x => rootOf opl t n x
      | .slice _ x _ _ _ => rootOf opl t n x
      | .sliceToArrayPointer _ x => rootOf opl t n x
      | _ => none
    | none => match t.get i with
      | some (.w (.c (.p m _))) => some m
      | some (.w (.c (.s m _ _ _))) => some m
      | some (.w (.c (.so m _ _ _))) => some m
      | _ => none
  | _, _ => none
def isPtr (P : Lk) (ty : TypeId) : Bool := match P.underlying ty with
  | some (.pointer _) => true
  | _ => false
def ptrArgs (opl : List Oper) (t : T) : List Operand → List TypeId → List Nat
  | x :: r, ty :: q => bif isPtr P ty then (match rootOf opl t 6 x with
      | some m => m :: ptrArgs opl t r q
      | none => ptrArgs opl t r q) else ptrArgs opl t r q
  | _, _ => []
def writesOf (opl : List Oper) (t : T) : List Oper → List Nat
  | [] => []
  | o :: r => match o.op with
    | .store _ x _ => (match rootOf opl t 6 x with
      | some m => m :: writesOf opl t r
      | none => writesOf opl t r)
    | .call { callee := .value _, args, argTypes } => ptrArgs P opl t args.toList argTypes.toList ++ writesOf opl t r
    | _ => writesOf opl t r
/-- What the loads of the region read, but for what it may write. -/
def loadsOf (opl : List Oper) (t : T) (ws : List Nat) (h : List (Nat × Bk)) : List Oper → List (Nat × Bk)
  | [] => []
  | o :: r => match o.op with
    | .load _ x => (match rootOf opl t 6 x with
      | some m => bif ws.contains m then loadsOf opl t ws h r else (match hget h m with
        | some b => hset (loadsOf opl t ws h r) m b
        | none => loadsOf opl t ws h r)
      | none => loadsOf opl t ws h r)
    | _ => loadsOf opl t ws h r
def upTo (n : Nat) : Nat → List Nat
  | 0 => []
  | k + 1 => (n + k) :: upTo n k
def drawRun (call : FuncId → List V → St → Option (V × St)) (ops : Array Oper) (t : T) (st : St) : Option (T × St) :=
  let opl := ops.toList
  let stable := loadsOf opl t (writesOf P opl t opl) st.heap opl
  bif keepsB st.heap stable && Region.noSelect ops then
    match explore P U X call ops opl (ssaOk ops opl) stable st.next (2 * ops.size + 4) ops.size 0 [] t { st with next := st.next + ops.size, resv := upTo st.next ops.size ++ st.resv } with
    | some (t', st') => bif st.resv.all (fun n => st'.resv.contains n) then some (t', { st' with resv := st.resv }) else none
    | none => none
  else none
def resA (t : T) (heap : List (Nat × Bk)) : List ResultVar → Option (List W)
  | [] => some []
  | .tmp i :: r => match t.get i with
    | some (.w x) => (match resA t heap r with
      | some l => some (x :: l)
      | none => none)
    | _ => none
  | .cell a ty :: r => match loadOp P t heap (.load ty (.tmp a)) with
    | some (.w x) => (match resA t heap r with
      | some l => some (x :: l)
      | none => none)
    | _ => none
def argsT : Nat → List V → T → T
  | _, [], t => t
  | i, v :: r, t => argsT (i + 1) r (t.set 14 i v)
def C.plain : C → Bool
  | .p .. | .s .. | .so .. | .sx .. => false
  | _ => true
def W.plain : W → Bool
  | .c x => x.plain
  | .agg l => l.all C.plain
def below (n : Nat) : List (Nat × Bk) → List (Nat × Bk)
  | [] => []
  | (m, b) :: r => bif Nat.blt m n then (m, b) :: below n r else below n r
def opsOk (n : Nat) (ops : List Oper) : Bool := ops.all fun o => match o.dst with
  | some d => Nat.blt d n && Nat.blt d 16000
  | none => true
/-- All slots that are written are there. -/
def codeOk (n : Nat) : Code → Bool
  | .region _ ops _ => opsOk n ops.toList
  | .seq a b => codeOk n a && codeOk n b
  | .cond _ a b => codeOk n a && codeOk n b
  | .block _ b => codeOk n b
  | .loop b => codeOk n b
  | .rangeFunc _ _ _ _ => false
  | .scope _ => false
  | _ => true
def retV : List W → V
  | [x] => .w x
  | l => .tup l
def runCode (call : FuncId → List V → St → Option (V × St)) (draw : Array Oper → T → St → Option (T × St)) (mk : Bool → T → (St → Option (Ex × T × St)) → St → Option (Ex × T × St)) : Nat → Code → T → St → Option (Ex × T × St)
  | 0, _, _, _ => none
  | n + 1, c, t, st => match c with
    | .skip => some (.normal, t, st)
    | .region _ ops d => bif d then (match draw ops t st with
        | some (t', st') => some (.normal, t', st')
        | none => none)
      else (match runOps P U X call ops.toList ops.toList t st with
        | some (t', st') => some (.normal, t', st')
        | none => none)
    | .seq a b => match runCode call draw mk n a t st with
      | some (.normal, t', st') => mk false t' (fun st => runCode call draw mk n b t' st) st'
      | r => r
    | .cond c a b => match ev t c with
      | some v => match decideC v st with
        | some (true, st') => runCode call draw mk n a t st'
        | some (false, st') => runCode call draw mk n b t st'
        | none => none
      | none => none
    | .block id b => match runCode call draw mk n b t st with
      | some (.exit j, t', st') => bif Nat.beq j id then some (.normal, t', st') else some (.exit j, t', st')
      | r => r
    | .loop b => match mk true t (fun st => runCode call draw mk n b t st) st with
      | some (.normal, t', st') => runCode call draw mk n (.loop b) t' st'
      | r => r
    | .exit id => some (.exit id, t, st)
    | .label _ => some (.normal, t, st)
    | .ret => some (.ret, t, st)
    | _ => none
/-- A call: by its summary, where there is one; else by its text. mc: of which calls the ways come together at the end; ml: of which the rounds of loops do. -/
def runPol (sum : FuncId → List V → St → Option (V × St)) (mc : FuncId → Bool) (ml : FuncId → Nat) (K : Nat) : Nat → FuncId → List V → St → Option (V × St)
  | 0, _, _, _ => none
  | d + 1, f, args, st => match sum f args st with
    | some r => some r
    | none => match P.fns.get f with
      | none => none
      | some fn => match fn.body with
        | none => none
        | some c => bif Nat.ble args.length fn.ntmps && Nat.ble args.length 1000 && codeOk fn.ntmps c then
          mkV U (mc f) (fun st => match runCode P U X (runPol sum mc ml K d) (drawRun P U X (runPol sum mc ml K d)) (mkE U (ml f)) K c (argsT 0 args .e) st with
          | some (.exit _, _, _) => none
          | some (_, t, st') => (match resA P t st'.heap fn.results.toList with
            | some l => some (retV l, bif l.all W.plain then { st' with heap := below st.next st'.heap } else st')
            | none => none)
          | none => none) st else none
def never : FuncId → Bool := fun _ => false
def never0 : FuncId → Nat := fun _ => 0
def runCall (sum : FuncId → List V → St → Option (V × St)) (K d : Nat) (f : FuncId) (args : List V) (st : St) : Option (V × St) := runPol P U X sum never never0 K d f args st
end
def noSum : FuncId → List V → St → Option (V × St) := fun _ _ _ => none
def st0 : St := ⟨[], 0, [], 0, .e, .e, .e, false, [], [], []⟩
def noU : Nat → List Int → Int := fun _ _ => 0
end
end Go.Proofs.Ytdleeeahonfnkaa.SX
