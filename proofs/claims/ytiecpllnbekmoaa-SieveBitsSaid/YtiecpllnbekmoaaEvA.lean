/-
  The evaluator: Go functions of a loaded program, run over values whose blocks of memory have names of their own ('B') and whose capacities behind an append are not known. It is written for the kernel: each step hands on what it made.
  Nothing here is trusted: what it says of the model is proved in the texts behind it.
-/
import GoSem.Core.Program
import GoSem.Machine.Frame
import GoSem.Op.Equal
set_option linter.all false
namespace Go.Ev
open Go

inductive B where | h | o (p : B) | i (p : B)

inductive V where
  | u
  | b (x : Bool)
  | i (k : IntKind) (n : Int)
  | r (k : IntKind) (m r hi : Nat)   -- some n, at most hi, of which n % m is r
  | s (len n : Nat)
  | p0
  | p (id : B) (g off fin : Nat)
  | l0
  | l (id : B) (g off len fin : Nat) (cap : Option Nat)
  | a (cs : List V)
  | tu (cs : List V)
  | f0
  | f (fn : FuncId) (cs : List V)
  | x0
  | x (t : TypeId) (v : V)
  | m0
  | m (id : B)

inductive T (α : Type) where
  | o
  | n (l : T α) (v : Option α) (r : T α)

section tree
variable {α : Type}
noncomputable def bGet (p : B) : Option α → (B → Option α) → (B → Option α) → Option α :=
  B.rec (fun v _ _ => v) (fun p _ _ gl _ => gl p) (fun p _ _ _ gr => gr p) p
noncomputable def T.get (t : T α) : B → Option α :=
  T.rec (fun _ => none) (fun _ v _ gl gr p => bGet p v gl gr) t

noncomputable def sH (t : T α) : α → (T α → Bool) → Bool := T.rec (fun x k => k (.n .o (some x) .o)) (fun l _ r _ _ x k => k (.n l (some x) r)) t
noncomputable def sO (t : T α) : (α → T α → (T α → Bool) → Bool) → α → (T α → Bool) → Bool :=
  T.rec (fun ih x k => ih x .o (fun a => k (.n a none .o))) (fun l v r _ _ ih x k => ih x l (fun a => k (.n a v r))) t
noncomputable def sI (t : T α) : (α → T α → (T α → Bool) → Bool) → α → (T α → Bool) → Bool :=
  T.rec (fun ih x k => ih x .o (fun a => k (.n .o none a))) (fun l v r _ _ ih x k => ih x r (fun a => k (.n l v a))) t
noncomputable def T.setK (p : B) : α → T α → (T α → Bool) → Bool :=
  B.rec (fun x t k => sH t x k) (fun _ ih x t k => sO t ih x k) (fun _ ih x t k => sI t ih x k) p

noncomputable def nGet2 (m : Nat) : Nat → (Nat → Option α) → (Nat → Option α) → Option α :=
  Nat.rec (fun k gl _ => gl (Nat.div k 2)) (fun _ _ k _ gr => gr (Nat.div k 2)) m
noncomputable def nGet (k : Nat) : Option α → (Nat → Option α) → (Nat → Option α) → Option α :=
  Nat.rec (fun v _ _ => v) (fun k _ _ gl gr => nGet2 (Nat.mod k 2) k gl gr) k
noncomputable def T.getN (t : T α) : Nat → Option α :=
  T.rec (fun _ => none) (fun _ v _ gl gr k => nGet k v gl gr) t

noncomputable def nO (t : T α) : (α → T α → Nat → (T α → Bool) → Bool) → α → Nat → (T α → Bool) → Bool :=
  T.rec (fun ih x n k => ih x .o n (fun a => k (.n a none .o))) (fun l v r _ _ ih x n k => ih x l n (fun a => k (.n a v r))) t
noncomputable def nI (t : T α) : (α → T α → Nat → (T α → Bool) → Bool) → α → Nat → (T α → Bool) → Bool :=
  T.rec (fun ih x n k => ih x .o n (fun a => k (.n .o none a))) (fun l v r _ _ ih x n k => ih x r n (fun a => k (.n l v a))) t
noncomputable def nS2 (m : Nat) : Nat → (α → T α → Nat → (T α → Bool) → Bool) → α → T α → (T α → Bool) → Bool :=
  Nat.rec (fun n ih x t k => nO t ih x (Nat.div n 2) k) (fun _ _ n ih x t k => nI t ih x (Nat.div n 2) k) m
noncomputable def nS1 (n : Nat) : (α → T α → Nat → (T α → Bool) → Bool) → α → T α → (T α → Bool) → Bool :=
  Nat.rec (fun _ x t k => sH t x k) (fun n _ ih x t k => nS2 (Nat.mod n 2) n ih x t k) n
noncomputable def T.setN (f : Nat) : α → T α → Nat → (T α → Bool) → Bool :=
  Nat.rec (fun _ _ _ _ => false) (fun _ ih x t n k => nS1 n ih x t k) f
end tree

/-- strict successor -/
noncomputable def B.incK (p : B) : (B → Bool) → Bool := B.rec (fun k => k (.o .h)) (fun p _ k => k (.i p)) (fun _ ih k => ih fun q => k (.o q)) p
noncomputable def B.val (p : B) : Nat := B.rec 1 (fun _ v => Nat.mul 2 v) (fun _ v => Nat.succ (Nat.mul 2 v)) p
noncomputable def B.geB (f : B) : B → Bool := B.rec (fun _ => true) (fun p _ q => Nat.ble (B.val (.o p)) (B.val q)) (fun p _ q => Nat.ble (B.val (.i p)) (B.val q)) f

structure F8 (α : Type) where
  a : α
  b : α
  c : α
  d : α
  e : α
  f : α
  g : α
  h : α
inductive S8 where | a | b | c | d | e | f | g | h
  deriving DecidableEq
section frame
variable {α : Type}
noncomputable def get8 (s : S8) : F8 α → α :=
  S8.rec (fun x => F8.rec (fun a _ _ _ _ _ _ _ => a) x) (fun x => F8.rec (fun _ b _ _ _ _ _ _ => b) x) (fun x => F8.rec (fun _ _ c _ _ _ _ _ => c) x) (fun x => F8.rec (fun _ _ _ d _ _ _ _ => d) x)
    (fun x => F8.rec (fun _ _ _ _ e _ _ _ => e) x) (fun x => F8.rec (fun _ _ _ _ _ f _ _ => f) x) (fun x => F8.rec (fun _ _ _ _ _ _ g _ => g) x) (fun x => F8.rec (fun _ _ _ _ _ _ _ h => h) x) s
noncomputable def set8 (s : S8) : α → F8 α → (F8 α → Bool) → Bool :=
  S8.rec (fun v x k => F8.rec (fun _ b c d e f g h v k => k ⟨v, b, c, d, e, f, g, h⟩) x v k) (fun v x k => F8.rec (fun a _ c d e f g h v k => k ⟨a, v, c, d, e, f, g, h⟩) x v k)
    (fun v x k => F8.rec (fun a b _ d e f g h v k => k ⟨a, b, v, d, e, f, g, h⟩) x v k) (fun v x k => F8.rec (fun a b c _ e f g h v k => k ⟨a, b, c, v, e, f, g, h⟩) x v k)
    (fun v x k => F8.rec (fun a b c d _ f g h v k => k ⟨a, b, c, d, v, f, g, h⟩) x v k) (fun v x k => F8.rec (fun a b c d e _ g h v k => k ⟨a, b, c, d, e, v, g, h⟩) x v k)
    (fun v x k => F8.rec (fun a b c d e f _ h v k => k ⟨a, b, c, d, e, f, v, h⟩) x v k) (fun v x k => F8.rec (fun a b c d e f g _ v k => k ⟨a, b, c, d, e, f, g, v⟩) x v k) s
end frame
abbrev F := F8 (F8 (F8 V))
def F8.all {α : Type} (x : α) : F8 α := ⟨x, x, x, x, x, x, x, x⟩
def F.zero : F := F8.all (F8.all (F8.all .u))
structure Sl where
  x : S8
  y : S8
  z : S8
noncomputable def sGet (s : Sl) : F → V := Sl.rec (fun x y z t => get8 z (get8 y (get8 x t))) s
noncomputable def sPut (s : Sl) : V → F → (F → Bool) → Bool :=
  Sl.rec (fun x y z v t k => set8 z v (get8 y (get8 x t)) fun g => set8 y g (get8 x t) fun g => set8 x g t k) s
def s8 : Nat → S8
  | 0 => .a | 1 => .b | 2 => .c | 3 => .d | 4 => .e | 5 => .f | 6 => .g | _ => .h
def slOf (n : Nat) : Sl := ⟨s8 (n / 64), s8 (n / 8 % 8), s8 (n % 8)⟩

structure Blk where
  cur : Nat
  min : Nat
  size : Nat
  cells : T V
  el : Nat       -- the type of its elements
  fr : Nat       -- 0: nothing of it is frozen; 1: nothing but a mark behind its end; k + 2: nothing from place k on

structure H where
  next : B
  floor : B
  heap : T Blk

inductive X where
  | normal
  | exit (id : Nat)
  | ret

/-- force a natural number -/
noncomputable def fN (n : Nat) : (Nat → Bool) → Bool := Nat.rec (fun k => k 0) (fun m _ k => k (Nat.succ m)) n
noncomputable def optK {α : Type} (o : Option α) : (α → Bool) → Bool := Option.rec (fun _ => false) (fun v k => k v) o
noncomputable def ifK (b : Bool) : (Unit → Bool) → Bool := Bool.rec (fun _ => false) (fun k => k ()) b
noncomputable def boolK (b : Bool) : (Unit → Bool) → (Unit → Bool) → Bool := Bool.rec (fun _ k => k ()) (fun k _ => k ()) b
noncomputable def natK (n : Int) : (Nat → Bool) → Bool := Int.rec (fun m k => k m) (fun _ _ => false) n
noncomputable def natC (n : Nat) : (Unit → Bool) → (Nat → Bool) → Bool := Nat.rec (fun k _ => k ()) (fun m _ _ k => k (Nat.succ m)) n

noncomputable def setList (vs : List V) : Nat → T V → (T V → Bool) → Bool :=
  List.rec (fun _ t k => k t) (fun v _ ih n t k => T.setN 40 v t n fun t => ih (Nat.succ n) t k) vs
noncomputable def getList (n : Nat) : T V → Nat → (List V → Bool) → Bool :=
  Nat.rec (fun _ _ k => k []) (fun _ ih t o k => optK (t.getN o) fun v => ih t (Nat.succ o) fun vs => k (v :: vs)) n
noncomputable def hK (h : H) : (B → B → T Blk → Bool) → Bool := H.rec (fun a b c k => k a b c) h
noncomputable def blkK (b : Blk) : (Nat → Nat → Nat → T V → Nat → Nat → Bool) → Bool := Blk.rec (fun a b c d e f k => k a b c d e f) b
noncomputable def frOk (fr : Nat) : Nat → Bool := Nat.rec (fun _ => true) (fun m _ => Nat.rec (fun _ => true) (fun k _ off => Nat.ble k off) m) fr

noncomputable def forceV (v : V) : (V → Bool) → Bool :=
  V.rec (motive_1 := fun _ => (V → Bool) → Bool) (motive_2 := fun _ => Unit)
   (fun k => k (.u))
   (fun x k => k (.b x))
   (fun kd n k => k (.i kd n))
   (fun kd m r hi k => k (.r kd m r hi))
   (fun len n k => k (.s len n))
   (fun k => k (.p0))
   (fun id g off fin k => k (.p id g off fin))
   (fun k => k (.l0))
   (fun id g off len fin cap k => k (.l id g off len fin cap))
   (fun cs _ k => k (.a cs))
   (fun cs _ k => k (.tu cs))
   (fun k => k (.f0))
   (fun fn cs _ k => k (.f fn cs))
   (fun k => k (.x0))
   (fun t v _ k => k (.x t v))
   (fun k => k (.m0))
   (fun id k => k (.m id)) () (fun _ _ _ _ => ()) v
noncomputable def vB (v : V) : (Bool → Bool) → Bool :=
  V.rec (motive_1 := fun _ => (Bool → Bool) → Bool) (motive_2 := fun _ => Unit)
   (fun _ => false)
   (fun x k => k x)
   (fun _ _ _ => false)
   (fun _ _ _ _ _ => false)
   (fun _ _ _ => false)
   (fun _ => false)
   (fun _ _ _ _ _ => false)
   (fun _ => false)
   (fun _ _ _ _ _ _ _ => false)
   (fun _ _ _ => false)
   (fun _ _ _ => false)
   (fun _ => false)
   (fun _ _ _ _ => false)
   (fun _ => false)
   (fun _ _ _ _ => false)
   (fun _ => false)
   (fun _ _ => false) () (fun _ _ _ _ => ()) v
noncomputable def vI (v : V) : (IntKind → Int → Bool) → Bool :=
  V.rec (motive_1 := fun _ => (IntKind → Int → Bool) → Bool) (motive_2 := fun _ => Unit)
   (fun _ => false)
   (fun _ _ => false)
   (fun kd n k => k kd n)
   (fun _ _ _ _ _ => false)
   (fun _ _ _ => false)
   (fun _ => false)
   (fun _ _ _ _ _ => false)
   (fun _ => false)
   (fun _ _ _ _ _ _ _ => false)
   (fun _ _ _ => false)
   (fun _ _ _ => false)
   (fun _ => false)
   (fun _ _ _ _ => false)
   (fun _ => false)
   (fun _ _ _ _ => false)
   (fun _ => false)
   (fun _ _ => false) () (fun _ _ _ _ => ()) v
/-- a number, or what is known of one -/
noncomputable def vIR (v : V) : (IntKind → Int → Bool) → (IntKind → Nat → Nat → Nat → Bool) → Bool :=
  V.rec (motive_1 := fun _ => (IntKind → Int → Bool) → (IntKind → Nat → Nat → Nat → Bool) → Bool) (motive_2 := fun _ => Unit)
   (fun _ _ => false)
   (fun _ _ _ => false)
   (fun kd n k _ => k kd n)
   (fun kd m r hi _ q => q kd m r hi)
   (fun _ _ _ _ => false)
   (fun _ _ => false)
   (fun _ _ _ _ _ _ => false)
   (fun _ _ => false)
   (fun _ _ _ _ _ _ _ _ => false)
   (fun _ _ _ _ => false)
   (fun _ _ _ _ => false)
   (fun _ _ => false)
   (fun _ _ _ _ _ => false)
   (fun _ _ => false)
   (fun _ _ _ _ _ => false)
   (fun _ _ => false)
   (fun _ _ _ => false) () (fun _ _ _ _ => ()) v
noncomputable def vP (v : V) : (B → Nat → Nat → Nat → Bool) → Bool :=
  V.rec (motive_1 := fun _ => (B → Nat → Nat → Nat → Bool) → Bool) (motive_2 := fun _ => Unit)
   (fun _ => false)
   (fun _ _ => false)
   (fun _ _ _ => false)
   (fun _ _ _ _ _ => false)
   (fun _ _ _ => false)
   (fun _ => false)
   (fun id g off fin k => k id g off fin)
   (fun _ => false)
   (fun _ _ _ _ _ _ _ => false)
   (fun _ _ _ => false)
   (fun _ _ _ => false)
   (fun _ => false)
   (fun _ _ _ _ => false)
   (fun _ => false)
   (fun _ _ _ _ => false)
   (fun _ => false)
   (fun _ _ => false) () (fun _ _ _ _ => ()) v
noncomputable def vA (v : V) : (List V → Bool) → Bool :=
  V.rec (motive_1 := fun _ => (List V → Bool) → Bool) (motive_2 := fun _ => Unit)
   (fun _ => false)
   (fun _ _ => false)
   (fun _ _ _ => false)
   (fun _ _ _ _ _ => false)
   (fun _ _ _ => false)
   (fun _ => false)
   (fun _ _ _ _ _ => false)
   (fun _ => false)
   (fun _ _ _ _ _ _ _ => false)
   (fun cs _ k => k cs)
   (fun _ _ _ => false)
   (fun _ => false)
   (fun _ _ _ _ => false)
   (fun _ => false)
   (fun _ _ _ _ => false)
   (fun _ => false)
   (fun _ _ => false) () (fun _ _ _ _ => ()) v
noncomputable def vT (v : V) : (List V → Bool) → Bool :=
  V.rec (motive_1 := fun _ => (List V → Bool) → Bool) (motive_2 := fun _ => Unit)
   (fun _ => false)
   (fun _ _ => false)
   (fun _ _ _ => false)
   (fun _ _ _ _ _ => false)
   (fun _ _ _ => false)
   (fun _ => false)
   (fun _ _ _ _ _ => false)
   (fun _ => false)
   (fun _ _ _ _ _ _ _ => false)
   (fun _ _ _ => false)
   (fun cs _ k => k cs)
   (fun _ => false)
   (fun _ _ _ _ => false)
   (fun _ => false)
   (fun _ _ _ _ => false)
   (fun _ => false)
   (fun _ _ => false) () (fun _ _ _ _ => ()) v
noncomputable def vL (v : V) : (Unit → Bool) → (B → Nat → Nat → Nat → Nat → Option Nat → Bool) → Bool :=
  V.rec (motive_1 := fun _ => (Unit → Bool) → (B → Nat → Nat → Nat → Nat → Option Nat → Bool) → Bool) (motive_2 := fun _ => Unit)
   (fun _ _ => false)
   (fun _ _ _ => false)
   (fun _ _ _ _ => false)
   (fun _ _ _ _ _ _ => false)
   (fun _ _ _ _ => false)
   (fun _ _ => false)
   (fun _ _ _ _ _ _ => false)
   (fun z _ => z ())
   (fun id g off len fin cap _ k => k id g off len fin cap)
   (fun _ _ _ _ => false)
   (fun _ _ _ _ => false)
   (fun _ _ => false)
   (fun _ _ _ _ _ => false)
   (fun _ _ => false)
   (fun _ _ _ _ _ => false)
   (fun _ _ => false)
   (fun _ _ _ => false) () (fun _ _ _ _ => ()) v
noncomputable def vS (v : V) : (Nat → Nat → Bool) → Bool :=
  V.rec (motive_1 := fun _ => (Nat → Nat → Bool) → Bool) (motive_2 := fun _ => Unit)
   (fun _ => false)
   (fun _ _ => false)
   (fun _ _ _ => false)
   (fun _ _ _ _ _ => false)
   (fun len n k => k len n)
   (fun _ => false)
   (fun _ _ _ _ _ => false)
   (fun _ => false)
   (fun _ _ _ _ _ _ _ => false)
   (fun _ _ _ => false)
   (fun _ _ _ => false)
   (fun _ => false)
   (fun _ _ _ _ => false)
   (fun _ => false)
   (fun _ _ _ _ => false)
   (fun _ => false)
   (fun _ _ => false) () (fun _ _ _ _ => ()) v
noncomputable def cells (v : V) : List V :=
  V.rec (motive_1 := fun _ => V → List V) (motive_2 := fun _ => Unit)
   (fun w => [w])
   (fun _ w => [w])
   (fun _ _ w => [w])
   (fun _ _ _ _ w => [w])
   (fun _ _ w => [w])
   (fun w => [w])
   (fun _ _ _ _ w => [w])
   (fun w => [w])
   (fun _ _ _ _ _ _ w => [w])
   (fun cs _ _ => cs)
   (fun _ _ w => [w])
   (fun w => [w])
   (fun _ _ _ w => [w])
   (fun w => [w])
   (fun _ _ _ w => [w])
   (fun w => [w])
   (fun _ w => [w]) () (fun _ _ _ _ => ()) v v
/-- of one cell, and known -/
noncomputable def oneV (v : V) : Bool :=
  V.rec (motive_1 := fun _ => Bool) (motive_2 := fun _ => Unit)
   (false)
   (fun _ => true)
   (fun _ _ => true)
   (fun _ _ _ _ => true)
   (fun _ _ => true)
   (true)
   (fun _ _ _ _ => true)
   (true)
   (fun _ _ _ _ _ _ => true)
   (fun _ _ => false)
   (fun _ _ => false)
   (true)
   (fun _ _ _ => true)
   (true)
   (fun _ _ _ => true)
   (true)
   (fun _ => true) () (fun _ _ _ _ => ()) v


noncomputable def nilK (cs : List V) : (Bool → Bool) → Bool := List.rec (fun k => k false) (fun _ _ _ _ => false) cs
/-- what a guard asks: the bool, or that the operation was left out -/
noncomputable def vG (v : V) : Bool → (Bool → Bool) → Bool :=
  V.rec (motive_1 := fun _ => Bool → (Bool → Bool) → Bool) (motive_2 := fun _ => Unit)
   (fun _ _ => false)
   (fun x w k => k (xor (xor x w) true))
   (fun _ _ _ _ => false)
   (fun _ _ _ _ _ _ => false)
   (fun _ _ _ _ => false)
   (fun _ _ => false)
   (fun _ _ _ _ _ _ => false)
   (fun _ _ => false)
   (fun _ _ _ _ _ _ _ _ => false)
   (fun _ _ _ _ => false)
   (fun cs _ _ k => nilK cs k)
   (fun _ _ => false)
   (fun _ _ _ _ _ => false)
   (fun _ _ => false)
   (fun _ _ _ _ _ => false)
   (fun _ _ => false)
   (fun _ _ _ => false) () (fun _ _ _ _ => ()) v

noncomputable def knownV (v : V) : Bool :=
  V.rec (motive_1 := fun _ => Bool) (motive_2 := fun _ => Unit)
   (false)
   (fun _ => true)
   (fun _ _ => true)
   (fun _ _ _ _ => true)
   (fun _ _ => true)
   (true)
   (fun _ _ _ _ => true)
   (true)
   (fun _ _ _ _ _ _ => true)
   (fun _ _ => true)
   (fun _ _ => true)
   (true)
   (fun _ _ _ => true)
   (true)
   (fun _ _ _ => true)
   (true)
   (fun _ => true) () (fun _ _ _ _ => ()) v

noncomputable def allOne (vs : List V) : Bool := List.rec true (fun v _ ih => Bool.rec false ih (oneV v)) vs

noncomputable def alloc (el : Nat) (cs : List V) (h : H) (k : B → H → Bool) : Bool :=
  hK h fun next floor heap => fN cs.length fun sz => setList cs 0 .o fun t => T.setK next ⟨0, 0, sz, t, el, 0⟩ heap fun heap => B.incK next fun next' => k next ⟨next', floor, heap⟩
noncomputable def loadN (h : H) (id : B) (g off fin n : Nat) (k : List V → Bool) : Bool :=
  hK h fun _ _ heap => optK (heap.get id) fun blk => blkK blk fun _ min _ cells _ _ => ifK (Nat.ble min g) fun _ => ifK (Nat.ble (Nat.add off n) fin) fun _ => getList n cells off k
noncomputable def load1 (h : H) (id : B) (g off fin : Nat) (k : V → Bool) : Bool :=
  hK h fun _ _ heap => optK (heap.get id) fun blk => blkK blk fun _ min _ cells _ _ => ifK (Nat.ble min g) fun _ => ifK (Nat.ble (Nat.succ off) fin) fun _ => optK (cells.getN off) fun v => forceV v k
noncomputable def store (h : H) (id : B) (g off fin : Nat) (vs : List V) (k : H → Bool) : Bool :=
  hK h fun next floor heap => optK (heap.get id) fun blk => blkK blk fun cur min size cells el fr =>
    ifK (Nat.beq cur g) fun _ => ifK (Nat.ble min cur) fun _ => ifK (B.geB floor id) fun _ => ifK (Nat.ble (Nat.add off vs.length) fin) fun _ => ifK (allOne vs) fun _ => ifK (frOk fr off) fun _ =>
      setList vs off cells fun t => T.setK id ⟨cur, cur, size, t, el, fr⟩ heap fun heap => k ⟨next, floor, heap⟩

noncomputable def vPN (v : V) : (Bool → Bool) → Bool :=
  V.rec (motive_1 := fun _ => (Bool → Bool) → Bool) (motive_2 := fun _ => Unit)
   (fun _ => false)
   (fun _ _ => false)
   (fun _ _ _ => false)
   (fun _ _ _ _ _ => false)
   (fun _ _ _ => false)
   (fun k => k true)
   (fun _ _ _ _ k => k false)
   (fun _ => false)
   (fun _ _ _ _ _ _ _ => false)
   (fun _ _ _ => false)
   (fun _ _ _ => false)
   (fun _ => false)
   (fun _ _ _ _ => false)
   (fun _ => false)
   (fun _ _ _ _ => false)
   (fun _ => false)
   (fun _ _ => false) () (fun _ _ _ _ => ()) v
noncomputable def vLN (v : V) (k : Bool → Bool) : Bool := vL v (fun _ => k true) (fun _ _ _ _ _ _ => k false)
noncomputable def forceI (n : Int) : (Int → Bool) → Bool :=
  Int.rec (fun m k => fN m fun m => k (.ofNat m)) (fun m k => fN m fun m => k (.negSucc m)) n
noncomputable def wrapB (b : Bool) : IntKind → Nat → (V → Bool) → Bool :=
  Bool.rec (fun kd m k => forceI (kd.wrap (.ofNat m)) fun n => k (.i kd n)) (fun kd m k => fN m fun m => k (.i kd (.ofNat m))) b
noncomputable def wrapF (n : Int) : IntKind → Nat → (V → Bool) → Bool :=
  Int.rec (fun m kd mx k => wrapB (Nat.ble m mx) kd m k) (fun m kd _ k => forceI (kd.wrap (.negSucc m)) fun n => k (.i kd n)) n
def ltI : Int → Int → Bool
  | .ofNat a, .ofNat b => Nat.ble (Nat.succ a) b
  | .ofNat _, .negSucc _ => false
  | .negSucc _, .ofNat _ => true
  | .negSucc a, .negSucc b => Nat.ble (Nat.succ b) a
def eqI : Int → Int → Bool
  | .ofNat a, .ofNat b => Nat.beq a b
  | .negSucc a, .negSucc b => Nat.beq a b
  | _, _ => false
def mxOf : IntKind → Nat
  | .i8 => 127 | .i16 => 32767 | .i32 => 2147483647 | .i64 => 9223372036854775807
  | .u8 => 255 | .u16 => 65535 | .u32 => 4294967295 | .u64 => 18446744073709551615
def kdEq : IntKind → IntKind → Bool
  | .i8, .i8 => true | .i16, .i16 => true | .i32, .i32 => true | .i64, .i64 => true
  | .u8, .u8 => true | .u16, .u16 => true | .u32, .u32 => true | .u64, .u64 => true
  | _, _ => false

/-- strings, packed: is the first less -/
def ltS (la na lb nb : Nat) : Bool := match Nat.ble la lb with
  | true => Nat.ble (Nat.succ (Nat.mul na (Nat.pow 256 (Nat.sub lb la)))) nb || (Nat.beq (Nat.mul na (Nat.pow 256 (Nat.sub lb la))) nb && Nat.ble (Nat.succ la) lb)
  | false => Nat.ble (Nat.succ na) (Nat.mul nb (Nat.pow 256 (Nat.sub la lb)))
noncomputable def unpk (len : Nat) : Nat → List V := Nat.rec (fun _ => []) (fun l ih n => .i .u8 (Int.ofNat (Nat.mod (Nat.div n (Nat.pow 256 l)) 256)) :: ih (Nat.mod n (Nat.pow 256 l))) len

def ofConst : Value → V
  | .bool x => .b x
  | .int k n => .i k n
  | .pointer none => .p0
  | .slice none 0 0 => .l0
  | .string bs => .s bs.size (bs.data.toList.foldl (fun a c => 256 * a + c.toNat) 0)
  | .nilFunc => .f0
  | .nilIface => .x0
  | .map none => .m0
  | _ => .u

inductive O where
  | t (s : Sl)
  | c (v : V)
noncomputable def oK (o : O) : F → (V → Bool) → Bool := O.rec (fun s t k => forceV (sGet s t) k) (fun v _ k => k v) o
/-- where what takes it looks at it at once -/
noncomputable def oE (o : O) : F → (V → Bool) → Bool := O.rec (fun s t k => k (sGet s t)) (fun v _ k => k v) o
noncomputable def compO : Operand → O
  | .tmp k => match Nat.ble (Nat.succ k) 512 with
    | true => .t (slOf k)
    | false => .c .u
  | .const v => .c (ofConst v)
  | .func f => .c (.f f [])
  | .global _ => .c .u

noncomputable def app {α : Type} (a : List α) : List α → List α := List.rec (fun b => b) (fun x _ ih b => x :: ih b) a
noncomputable def putAt (cs : List V) (off : Nat) (vs : List V) : List V := app (cs.take off) (app vs (cs.drop (off + vs.length)))
noncomputable def repL (z : List V) (n : Nat) : List V := Nat.rec [] (fun _ ih => app z ih) n
structure Pt where
  off : Nat
  size : Nat
  o : O
noncomputable def fillP (off size : Nat) (ih : F → List V → (List V → Bool) → Bool) (t : F) (cs : List V) (k : List V → Bool) (v : V) : Bool :=
  ifK (knownV v) fun _ => ifK (Nat.beq (cells v).length size) fun _ => ifK (Nat.ble (Nat.add off size) cs.length) fun _ => ih t (putAt cs off (cells v)) k
noncomputable def fillL (ps : List Pt) : F → List V → (List V → Bool) → Bool :=
  List.rec (fun _ cs k => k cs) (fun p _ ih t cs k => Pt.rec (fun off size o ih t cs k => oK o t (fillP off size ih t cs k)) p ih t cs k) ps
noncomputable def evalsK (os : List O) : F → (List V → Bool) → Bool := List.rec (fun _ k => k []) (fun o _ ih t k => oK o t fun v => ih t fun vs => k (v :: vs)) os

abbrev CallF := FuncId → List V → H → (V → H → Bool) → Bool
abbrev Run := CallF → F → H → (V → H → Bool) → Bool

noncomputable def doMove (o : O) : Run := fun _ t h k => oK o t fun v => k v h
noncomputable def doPick (c a b : O) : Run := fun _ t h k => oE c t fun c => vB c fun c => boolK c (fun _ => oK a t fun v => k v h) (fun _ => oK b t fun v => k v h)
noncomputable def doBox (el : Nat) (o : O) : Run := fun _ t h k => oK o t fun v => ifK (knownV v) fun _ => alloc el (cells v) h fun id h => k (.p id 0 0 (cells v).length) h
noncomputable def doAlloc (el : Nat) (z : List V) : Run := fun _ _ h k => alloc el z h fun id h => k (.p id 0 0 z.length) h
noncomputable def doLoadA (size : Nat) (o : O) : Run := fun _ t h k => oE o t fun v => vP v fun id g off fin => loadN h id g off fin size fun vs => k (.a vs) h
noncomputable def doLoad (o : O) : Run := fun _ t h k => oE o t fun v => vP v fun id g off fin => load1 h id g off fin fun v => k v h
noncomputable def doStore (size : Nat) (o x : O) : Run := fun _ t h k => oE o t fun v => vP v fun id g off fin => oK x t fun x => ifK (Nat.beq (cells x).length size) fun _ => store h id g off fin (cells x) fun h => k (.tu []) h
noncomputable def doFieldAddr (d : Nat) (o : O) : Run := fun _ t h k => oE o t fun v => vP v fun id g off fin => fN (Nat.add off d) fun off => k (.p id g off fin) h
noncomputable def doFieldA (d size : Nat) (o : O) : Run := fun _ t h k => oE o t fun v => vA v fun cs => k (.a ((cs.drop d).take size)) h
noncomputable def doField (d : Nat) (o : O) : Run := fun _ t h k => oE o t fun v => vA v fun cs => optK (cs[d]?) fun v => forceV v fun v => k v h
noncomputable def doIndexAddr (size : Nat) (o x : O) : Run := fun _ t h k => oE o t fun v => vL v (fun _ => false) fun id g off len fin _ => oE x t fun x => vI x fun _ n => natK n fun n => ifK (Nat.ble (Nat.succ n) len) fun _ => fN (Nat.add off (Nat.mul n size)) fun off => k (.p id g off fin) h
noncomputable def doIndexAddrArr (len size : Nat) (o x : O) : Run := fun _ t h k => oE o t fun v => vP v fun id g off fin => oE x t fun x => vI x fun _ n => natK n fun n => ifK (Nat.ble (Nat.succ n) len) fun _ => fN (Nat.add off (Nat.mul n size)) fun off => k (.p id g off fin) h
noncomputable def doBuild (z : List V) (ps : List Pt) : Run := fun _ t h k => fillL ps t z fun cs => k (.a cs) h
noncomputable def doBuildSlice (el len : Nat) (z : List V) (ps : List Pt) : Run := fun _ t h k => fillL ps t z fun cs => alloc el cs h fun id h => k (.l id 0 0 len cs.length (some len)) h
noncomputable def doMakeSlice (el : Nat) (z : List V) (l c : O) : Run := fun _ t h k => oE l t fun l => vI l fun _ l => natK l fun l => oE c t fun c => vI c fun _ c => natK c fun c => ifK (Nat.ble l c) fun _ => ifK (Nat.ble c 1048576) fun _ => alloc el (repL z c) h fun id h => k (.l id 0 0 l (Nat.mul c z.length) (some c)) h
abbrev BinF := IntKind → Int → Int → (V → Bool) → Bool
noncomputable def bin2 (f : BinF) (x y : O) : Run := fun _ t h k => oE x t fun x => vI x fun kd a => oE y t fun y => vI y fun kd' b => ifK (kdEq kd kd') fun _ => f kd a b fun v => k v h
noncomputable def fB (x : Bool) : (V → Bool) → Bool := Bool.rec (fun k => k (.b false)) (fun k => k (.b true)) x
noncomputable def fAdd : BinF := fun kd a b k => wrapF (Int.add a b) kd (mxOf kd) k
noncomputable def fSub : BinF := fun kd a b k => wrapF (Int.sub a b) kd (mxOf kd) k
noncomputable def fMul : BinF := fun kd a b k => wrapF (Int.mul a b) kd (mxOf kd) k
noncomputable def fLss : BinF := fun _ a b k => fB (ltI a b) k
noncomputable def fGtr : BinF := fun _ a b k => fB (ltI b a) k
noncomputable def fLeq : BinF := fun _ a b k => fB (!ltI b a) k
noncomputable def fGeq : BinF := fun _ a b k => fB (!ltI a b) k
noncomputable def fEql : BinF := fun _ a b k => fB (eqI a b) k
noncomputable def fNeq : BinF := fun _ a b k => fB (!eqI a b) k
noncomputable def fQuo : BinF := fun kd a b k => ifK (!eqI b 0) fun _ => wrapF (Int.tdiv a b) kd (mxOf kd) k
noncomputable def fRem : BinF := fun kd a b k => ifK (!eqI b 0) fun _ => forceI (Int.tmod a b) fun n => k (.i kd n)
noncomputable def fAnd : BinF := fun kd a b k => natK a fun a => natK b fun b => ifK (Nat.ble a (mxOf kd)) fun _ => ifK (Nat.ble b (mxOf kd)) fun _ => fN (Nat.land a b) fun n => k (.i kd (.ofNat n))
noncomputable def fOr : BinF := fun kd a b k => natK a fun a => natK b fun b => ifK (Nat.ble a (mxOf kd)) fun _ => ifK (Nat.ble b (mxOf kd)) fun _ => fN (Nat.lor a b) fun n => k (.i kd (.ofNat n))
noncomputable def fXor : BinF := fun kd a b k => natK a fun a => natK b fun b => ifK (Nat.ble a (mxOf kd)) fun _ => ifK (Nat.ble b (mxOf kd)) fun _ => fN (Nat.xor a b) fun n => k (.i kd (.ofNat n))
noncomputable def fAnt : BinF := fun kd a b k => natK a fun a => natK b fun b => ifK (Nat.ble a (mxOf kd)) fun _ => ifK (Nat.ble b (mxOf kd)) fun _ => fN (Nat.xor a (Nat.land a b)) fun n => k (.i kd (.ofNat n))
noncomputable def fNo : BinF := fun _ _ _ _ => false
noncomputable def fOf : BinOp → BinF
  | .add => fAdd | .sub => fSub | .mul => fMul | .lss => fLss | .gtr => fGtr | .leq => fLeq | .geq => fGeq | .eql => fEql | .neq => fNeq
  | .quo => fQuo | .rem => fRem | .and => fAnd | .or => fOr | .xor => fXor | .andNot => fAnt | _ => fNo
noncomputable def shlF (kd : IntKind) (a : Int) (n : Nat) (k : V → Bool) : Bool := wrapF (Int.mul a (.ofNat (Nat.pow 2 n))) kd (mxOf kd) k
noncomputable def shrF (kd : IntKind) (a : Int) (n : Nat) (k : V → Bool) : Bool := forceI (Int.fdiv a (.ofNat (Nat.pow 2 n))) fun n => k (.i kd n)
noncomputable def doShift (f : IntKind → Int → Nat → (V → Bool) → Bool) (x y : O) : Run := fun _ t h k => oE x t fun x => vI x fun kd a => oE y t fun y => vI y fun _ b => natK b fun n => f kd a (min n kd.bits) fun v => k v h
noncomputable def doBool (ne : Bool) (x y : O) : Run := fun _ t h k => oE x t fun x => vB x fun a => oE y t fun y => vB y fun b => fB (xor ne (xor (xor a b) true)) fun v => k v h
noncomputable def doNil (f : V → (Bool → Bool) → Bool) (ne : Bool) (x y : O) : Run := fun _ t h k => oE x t fun x => f x fun a => oE y t fun y => f y fun b => ifK (a || b) fun _ => fB (xor ne (a && b)) fun v => k v h
noncomputable def doNot (x : O) : Run := fun _ t h k => oE x t fun x => vB x fun a => fB (!a) fun v => k v h
noncomputable def doNeg (x : O) : Run := fun _ t h k => oE x t fun x => vI x fun kd n => wrapF (Int.neg n) kd (mxOf kd) fun v => k v h
noncomputable def doConv (kd : IntKind) (x : O) : Run := fun _ t h k => oE x t fun x => vIR x (fun _ n => wrapF n kd (mxOf kd) fun v => k v h) fun _ m r hi => ifK (Nat.ble hi (mxOf kd)) fun _ => k (.r kd m r hi) h
noncomputable def remR (kd' : IntKind) (b : Int) (k : V → Bool) (kd : IntKind) (m r : Nat) : Bool :=
  ifK (kdEq kd kd') fun _ => natK b fun c => ifK (Nat.ble 1 c) fun _ => ifK (Nat.beq (Nat.mod m c) 0) fun _ => fN (Nat.mod r c) fun n => k (.i kd (.ofNat n))
noncomputable def doRem (x y : O) : Run := fun _ t h k => oK x t fun x => oE y t fun y => vI y fun kd' b => vIR x (fun kd a => ifK (kdEq kd kd') fun _ => fRem kd a b fun v => k v h) fun kd m r _ => remR kd' b (fun v => k v h) kd m r
noncomputable def doExtract (j : Nat) (x : O) : Run := fun _ t h k => oE x t fun x => vT x fun vs => optK (vs[j]?) fun v => forceV v fun v => k v h
noncomputable def doLen (x : O) : Run := fun _ t h k => oE x t fun x => vL x (fun _ => k (.i .i64 (.ofNat 0)) h) fun _ _ _ n _ _ => k (.i .i64 (.ofNat n)) h
noncomputable def doLenS (x : O) : Run := fun _ t h k => oE x t fun x => vS x fun n _ => k (.i .i64 (.ofNat n)) h
noncomputable def doMin (x y : O) : Run := fun _ t h k => oE x t fun x => vI x fun kd a => oE y t fun y => vI y fun kd' b => ifK (kdEq kd kd') fun _ => boolK (ltI b a) (fun _ => k (.i kd b) h) (fun _ => k (.i kd a) h)
noncomputable def doMax (x y : O) : Run := fun _ t h k => oE x t fun x => vI x fun kd a => oE y t fun y => vI y fun kd' b => ifK (kdEq kd kd') fun _ => boolK (ltI a b) (fun _ => k (.i kd b) h) (fun _ => k (.i kd a) h)
noncomputable def doConcat (x y : O) : Run := fun _ t h k => oE x t fun x => vS x fun la na => oE y t fun y => vS y fun lb nb => ifK (Nat.ble (Nat.add la lb) 1048576) fun _ => fN (Nat.add la lb) fun l => fN (Nat.add (Nat.mul na (Nat.pow 256 lb)) nb) fun n => k (.s l n) h
def eqS (la na lb nb : Nat) : Bool := Nat.beq la lb && Nat.beq na nb
noncomputable def doSCmp (f : Nat → Nat → Nat → Nat → Bool) (x y : O) : Run := fun _ t h k => oE x t fun x => vS x fun la na => oE y t fun y => vS y fun lb nb => fB (f la na lb nb) fun v => k v h
/-- what a struct's cells are, if it can be compared cell by cell -/
inductive KD where | i | b | s
noncomputable def eqCell (kd : KD) : V → V → (Bool → Bool) → Bool :=
  KD.rec (fun a b k => vI a fun ka m => vI b fun kb n => ifK (kdEq ka kb) fun _ => boolK (eqI m n) (fun _ => k true) (fun _ => k false))
    (fun a b k => vB a fun x => vB b fun y => boolK (xor (xor x y) true) (fun _ => k true) (fun _ => k false))
    (fun a b k => vS a fun la na => vS b fun lb nb => boolK (eqS la na lb nb) (fun _ => k true) (fun _ => k false)) kd
noncomputable def eqTop (f : V → V → (Bool → Bool) → Bool) (ih : List V → List V → (Bool → Bool) → Bool) (xs ys : List V) (k : Bool → Bool) : Bool :=
  List.rec false (fun x xs _ => List.rec false (fun y ys _ => f x y fun r => boolK r (fun _ => ih xs ys k) (fun _ => k false)) ys) xs
noncomputable def eqL (ks : List KD) : List V → List V → (Bool → Bool) → Bool :=
  List.rec (fun _ _ k => k true) (fun kd _ ih => eqTop (eqCell kd) ih) ks
noncomputable def doSEq (ks : List KD) (ne : Bool) (x y : O) : Run := fun _ t h k => oE x t fun x => vA x fun xs => oE y t fun y => vA y fun ys => eqL ks xs ys fun r => fB (xor ne r) fun v => k v h
noncomputable def doAIndex (len size : Nat) (x y : O) : Run := fun _ t h k => oE x t fun x => vA x fun cs => oE y t fun y => vI y fun _ i => natK i fun i => ifK (Nat.ble (Nat.succ i) len) fun _ => optK (cs[Nat.mul i size]?) fun v => forceV v fun v => k v h
noncomputable def doSIndex (x y : O) : Run := fun _ t h k => oE x t fun x => vS x fun l n => oE y t fun y => vI y fun _ i => natK i fun i => ifK (Nat.ble (Nat.succ i) l) fun _ => fN (Nat.mod (Nat.div n (Nat.pow 256 (Nat.sub (Nat.sub l 1) i))) 256) fun c => k (.i .u8 (.ofNat c)) h
noncomputable def boundK (o : Option O) (d : Nat) (t : F) (k : Nat → Bool) : Bool := Option.rec (fun d _ k => k d) (fun o _ t k => oE o t fun v => vI v fun _ n => natK n k) o d t k
noncomputable def doSSlice (x : O) (lo hi : Option O) : Run := fun _ t h k => oE x t fun x => vS x fun l n => boundK lo 0 t fun a => boundK hi l t fun b => ifK (Nat.ble a b) fun _ => ifK (Nat.ble b l) fun _ =>
  fN (Nat.sub b a) fun l' => fN (Nat.mod (Nat.div n (Nat.pow 256 (Nat.sub l b))) (Nat.pow 256 (Nat.sub b a))) fun n' => k (.s l' n') h
noncomputable def sliceC (size : Nat) (id : B) (g off len fin c a b : Nat) (k : V → Bool) : Bool := ifK (Nat.ble b c) fun _ =>
  boolK (Nat.beq a c) (fun _ => k (.l id g off 0 fin (some 0))) (fun _ => fN (Nat.sub b a) fun l' => fN (Nat.sub c a) fun c' => fN (Nat.add off (Nat.mul a size)) fun off' => k (.l id g off' l' fin (some c')))
noncomputable def sliceN (size : Nat) (id : B) (g off len fin a b : Nat) (k : V → Bool) : Bool := ifK (Nat.ble b len) fun _ => ifK (Nat.beq fin (Nat.add off (Nat.mul len size))) fun _ =>
  fN (Nat.sub b a) fun l' => fN (Nat.add off (Nat.mul a size)) fun off' => fN (Nat.add off (Nat.mul b size)) fun fin' => k (.l id g off' l' fin' none)
noncomputable def doSlice (size : Nat) (x : O) (lo hi : Option O) : Run := fun _ t h k => oE x t fun x => vL x (fun _ => boundK lo 0 t fun a => boundK hi 0 t fun b => ifK (Nat.beq a 0) fun _ => ifK (Nat.beq b 0) fun _ => k .l0 h)
  fun id g off len fin cap => boundK lo 0 t fun a => boundK hi len t fun b => ifK (Nat.ble a b) fun _ =>
    Option.rec (fun id g off len fin a b h k => sliceN size id g off len fin a b fun v => k v h) (fun c id g off len fin a b h k => sliceC size id g off len fin c a b fun v => k v h) cap id g off len fin a b h k
noncomputable def slice3K (size : Nat) (id : B) (g off len fin lim m a b : Nat) (k : V → Bool) : Bool := ifK (Nat.ble m lim) fun _ => ifK (Nat.ble a b) fun _ => sliceC size id g off len fin m a b k
noncomputable def doSlice3 (size : Nat) (x : O) (lo : Option O) (hi mx : O) : Run := fun _ t h k => oE x t fun x => vL x (fun _ => boundK lo 0 t fun a => boundK (some hi) 0 t fun b => boundK (some mx) 0 t fun m => ifK (Nat.beq a 0) fun _ => ifK (Nat.beq b 0) fun _ => ifK (Nat.beq m 0) fun _ => k .l0 h)
  fun id g off len fin cap => boundK lo 0 t fun a => boundK (some hi) 0 t fun b => boundK (some mx) 0 t fun m => slice3K size id g off len fin (cap.getD len) m a b fun v => k v h
/-- of an array that is at a pointer -/
noncomputable def doSliceArr (n size : Nat) (x : O) (lo hi : Option O) : Run := fun _ t h k => oE x t fun x => vP x fun id g off fin => boundK lo 0 t fun a => boundK hi n t fun b => ifK (Nat.ble a b) fun _ => sliceC size id g off n fin n a b fun v => k v h
noncomputable def byteK (v : V) (k : Nat → Bool) : Bool := vI v fun kd n => ifK (kdEq kd .u8) fun _ => natK n fun n => ifK (Nat.ble n 255) fun _ => k n
noncomputable def packK (vs : List V) : Nat → (Nat → Bool) → Bool := List.rec (fun acc k => fN acc k) (fun v _ ih acc k => byteK v fun c => fN (Nat.add (Nat.mul acc 256) c) fun acc => ih acc k) vs
noncomputable def doMoveS (x : O) : Run := fun _ t h k => oE x t fun x => vS x fun l n => k (.s l n) h
noncomputable def doB2S (x : O) : Run := fun _ t h k => oE x t fun x => vL x (fun _ => k (.s 0 0) h) fun id g off len fin _ => loadN h id g off fin len fun vs => packK vs 0 fun n => k (.s len n) h
noncomputable def doCall (f : FuncId) (args : List O) : Run := fun cf t h k => evalsK args t fun vs => cf f vs h k

noncomputable def newCells (size : Nat) (x : V) (h : H) (k : Nat → List V → Bool) : Bool := vL x (fun _ => k 0 []) fun id g off len fin _ => natC len (fun _ => k 0 []) fun _ => loadN h id g off fin (Nat.mul len size) fun vs => k len vs
noncomputable def appNil (el n : Nat) (vs : List V) (h : H) (k : V → H → Bool) : Bool := natC n (fun _ => k .l0 h) (fun n => ifK (Nat.ble n 1048576) fun _ => alloc el vs h fun id h => k (.l id 0 0 n vs.length none) h)
noncomputable def appIn (id : B) (g off len fin c size n : Nat) (vs : List V) (h : H) (k : V → H → Bool) : Bool :=
  natC n (fun _ => k (.l id g off len fin (some c)) h) fun n => store h id g (Nat.add off (Nat.mul len size)) fin vs fun h => fN (Nat.add len n) fun l' => k (.l id g off l' fin (some c)) h
noncomputable def appOut (el : Nat) (id : B) (g off len fin size n : Nat) (vs : List V) (h : H) (k : V → H → Bool) : Bool :=
  ifK (Nat.ble (Nat.add len n) 1048576) fun _ => loadN h id g off fin (Nat.mul len size) fun old => alloc el (app old vs) h fun id h => fN (Nat.add len n) fun l' => fN (Nat.mul l' size) fun fin' => k (.l id 0 0 l' fin' none) h
noncomputable def appGrow (el0 : Nat) (id : B) (g off len fin size n : Nat) (vs : List V) (h : H) (k : V → H → Bool) : Bool :=
  hK h fun next floor heap => optK (heap.get id) fun blk => blkK blk fun cur min sz cells el fr =>
    ifK (Nat.ble min g) fun _ => ifK (B.geB floor id) fun _ => ifK (Nat.beq (Nat.add off (Nat.mul len size)) sz) fun _ => ifK (Nat.beq fin sz) fun _ => ifK (Nat.ble 1 len) fun _ => ifK (Nat.ble (Nat.add len n) 1048576) fun _ => ifK (allOne vs) fun _ => ifK (frOk fr sz) fun _ => ifK (Nat.beq el el0) fun _ =>
      fN (Nat.succ cur) fun cur' => fN (Nat.add sz (Nat.mul n size)) fun sz' => fN (Nat.add len n) fun l' =>
       setList vs sz cells fun t => T.setK id ⟨cur', min, sz', t, el, fr⟩ heap fun heap => k (.l id cur' off l' sz' none) ⟨next, floor, heap⟩
noncomputable def append2 (el size : Nat) (s : V) (n : Nat) (vs : List V) (h : H) (k : V → H → Bool) : Bool :=
  vL s (fun _ => appNil el n vs h k) fun id g off len fin cap =>
   Option.rec (fun id g off len fin size n vs h k => appGrow el id g off len fin size n vs h k)
     (fun c id g off len fin size n vs h k => boolK (Nat.ble (Nat.add len n) c) (fun _ => appIn id g off len fin c size n vs h k) (fun _ => appOut el id g off len fin size n vs h k)) cap id g off len fin size n vs h k
noncomputable def doAppend (el size : Nat) (s x : O) : Run := fun _ t h k => oK x t fun x => newCells size x h fun n vs => oK s t fun s => append2 el size s n vs h k
noncomputable def unpK (len : Nat) : Nat → List V → (List V → Bool) → Bool :=
  Nat.rec (fun _ acc k => k acc) (fun _ ih n acc k => fN (Nat.mod n 256) fun c => fN (Nat.div n 256) fun n => ih n (.i .u8 (.ofNat c) :: acc) k) len
noncomputable def newCellsS (x : V) (k : Nat → List V → Bool) : Bool := vS x fun l n => unpK l n [] fun vs => k l vs
noncomputable def doAppendS (el : Nat) (s x : O) : Run := fun _ t h k => oK x t fun x => newCellsS x fun n vs => oK s t fun s => append2 el 1 s n vs h k
noncomputable def copyTo (size : Nat) (y : V) (h : H) (k : V → H → Bool) (id : B) (g off len fin : Nat) : Bool :=
  vL y (fun _ => k (.i .i64 (.ofNat 0)) h) fun id' g' off' len' fin' _ => natC (Nat.min len' len) (fun _ => k (.i .i64 (.ofNat 0)) h) fun n =>
    loadN h id' g' off' fin' (Nat.mul n size) fun vs => store h id g off fin vs fun h => k (.i .i64 (.ofNat n)) h
noncomputable def copy0 (x : V) (k : Bool) : Bool := vL x (fun _ => k) (fun _ _ _ _ _ _ => k)
noncomputable def doCopy (size : Nat) (x y : O) : Run := fun _ t h k => oK x t fun x => oK y t fun y => vL x (fun _ => copy0 y (k (.i .i64 (.ofNat 0)) h)) fun id g off len fin _ => copyTo size y h k id g off len fin
noncomputable def noRun : Run := fun _ _ _ _ => false
/-! pointers -/
noncomputable def vPZ (v : V) : (Unit → Bool) → (B → Nat → Nat → Nat → Bool) → Bool :=
  V.rec (motive_1 := fun _ => (Unit → Bool) → (B → Nat → Nat → Nat → Bool) → Bool) (motive_2 := fun _ => Unit)
   (fun _ _ => false)
   (fun _ _ _ => false)
   (fun _ _ _ _ => false)
   (fun _ _ _ _ _ _ => false)
   (fun _ _ _ _ => false)
   (fun z _ => z ())
   (fun id g off fin _ k => k id g off fin)
   (fun _ _ => false)
   (fun _ _ _ _ _ _ _ _ => false)
   (fun _ _ _ _ => false)
   (fun _ _ _ _ => false)
   (fun _ _ => false)
   (fun _ _ _ _ _ => false)
   (fun _ _ => false)
   (fun _ _ _ _ _ => false)
   (fun _ _ => false)
   (fun _ _ _ => false) () (fun _ _ _ _ => ()) v
noncomputable def ptrK (ne : Bool) (y : V) (k : V → Bool) (id : B) (g off fin : Nat) : Bool :=
  vPZ y (fun _ => fB ne k) fun id' g' off' _ => ifK (Nat.beq (B.val id) (B.val id')) fun _ => ifK (Nat.beq g g') fun _ => fB (xor ne (Nat.beq off off')) k
noncomputable def doPtr (ne : Bool) (x y : O) : Run := fun _ t h k => oE x t fun x => oE y t fun y => vPZ x (fun _ => vPZ y (fun _ => fB (!ne) fun v => k v h) fun _ _ _ _ => fB ne fun v => k v h) (ptrK ne y fun v => k v h)
noncomputable def doNilCheck (x : O) : Run := fun _ t h k => oE x t fun x => vP x fun id g off fin => k (.p id g off fin) h
noncomputable def doP2U (x : O) : Run := fun _ t h k => oE x t fun x => vP x fun id g off fin => load1 h id g off fin fun _ => k (.p id g off fin) h
/-- the block's elements are of type 'el' -/
noncomputable def elK (h : H) (id : B) (g el : Nat) (k : Unit → Bool) : Bool := hK h fun _ _ heap => optK (heap.get id) fun blk => blkK blk fun _ min _ _ e _ => ifK (Nat.ble min g) fun _ => ifK (Nat.beq e el) k
noncomputable def doU2P (u size : Nat) (x : O) : Run := fun _ t h k => oE x t fun x => vP x fun id g off fin => ifK (Nat.beq off 0) fun _ => ifK (Nat.ble size fin) fun _ => elK h id g u fun _ => k (.p id g off fin) h
noncomputable def doSData (x : O) : Run := fun _ t h k => oE x t fun x => vL x (fun _ => k .p0 h) fun id g off len fin _ => ifK (Nat.ble 1 len) fun _ => k (.p id g off fin) h
noncomputable def frzF (fr : Nat) : Nat → (Nat → Bool) → Bool := Nat.rec (fun n k => fN (Nat.add n 2) k) (fun m _ => Nat.rec (fun _ _ => false) (fun j _ n k => fN (Nat.add (max j n) 2) k) m) fr
/-- the block's first n places are frozen from now on -/
noncomputable def freezeK (h : H) (id : B) (n : Nat) (k : H → Bool) : Bool := hK h fun next floor heap => optK (heap.get id) fun blk => blkK blk fun cur min size cells el fr =>
  ifK (B.geB floor id) fun _ => frzF fr n fun fr' => T.setK id ⟨cur, min, size, cells, el, fr'⟩ heap fun heap => k ⟨next, floor, heap⟩
noncomputable def uStrK (e : Nat) (n : Nat) (h : H) (k : V → H → Bool) (id : B) (g off fin : Nat) : Bool :=
  ifK (Nat.beq off 0) fun _ => ifK (Nat.ble 1 n) fun _ => ifK (Nat.ble n 1048576) fun _ => elK h id g e fun _ => loadN h id g 0 fin n fun vs => packK vs 0 fun s => freezeK h id n fun h => k (.s n s) h
noncomputable def doUStr (e : Nat) (x y : O) : Run := fun _ t h k => oE x t fun x => oE y t fun y => vI y fun kd n => ifK (kdEq kd .i64) fun _ => natK n fun n =>
  vPZ x (fun _ => ifK (Nat.beq n 0) fun _ => k (.s 0 0) h) (uStrK e n h k)
/-- a new block's end is marked -/
noncomputable def markK (h : H) (id : B) (k : H → Bool) : Bool := hK h fun next floor heap => optK (heap.get id) fun blk => blkK blk fun cur min size cells el fr =>
  ifK (B.geB floor id) fun _ => ifK (Nat.beq fr 0) fun _ => T.setK id ⟨cur, min, size, cells, el, 1⟩ heap fun heap => k ⟨next, floor, heap⟩
noncomputable def doS2B (el : Nat) (x : O) : Run := fun _ t h k => oE x t fun x => vS x fun l n => ifK (Nat.ble l 1048576) fun _ => unpK l n [] fun vs => alloc el vs h fun id h => markK h id fun h => k (.l id 0 0 l l none) h
noncomputable def doI2S (x : O) : Run := fun _ t h k => oE x t fun x => vI x fun _ n => natK n fun n => ifK (Nat.ble n 127) fun _ => k (.s 1 n) h

/-! ### Maps: a block whose 'min' is seven more than its 'cur', with the number of its pairs in the place of 'el'; the key of the i-th pair at 2i, its value behind it -/
noncomputable def vM (v : V) (z : Unit → Bool) (k : B → Bool) : Bool := match v with
  | .m0 => z ()
  | .m id => k id
  | _ => false
noncomputable def vMN (v : V) (k : Bool → Bool) : Bool := vM v (fun _ => k true) (fun _ => k false)
noncomputable def getP (n : Nat) : T V → Nat → (List (V × V) → Bool) → Bool :=
  Nat.rec (fun _ _ k => k []) (fun _ ih t o k => optK (t.getN o) fun a => optK (t.getN (o + 1)) fun b => ih t (o + 2) fun ps => k ((a, b) :: ps)) n
def flat2 : List (V × V) → List V
  | [] => []
  | (a, b) :: r => a :: b :: flat2 r
noncomputable def mapK (h : H) (id : B) (k : B → B → T Blk → Nat → Nat → Nat → Nat → List (V × V) → Bool) : Bool :=
  hK h fun next floor heap => optK (heap.get id) fun blk => blkK blk fun cur min size cells n fr => ifK (Nat.beq min (cur + 7)) fun _ => getP n cells 0 fun ps => k next floor heap cur min size fr ps
noncomputable def putM (next floor : B) (heap : T Blk) (id : B) (cur min size fr : Nat) (ps : List (V × V)) (k : H → Bool) : Bool :=
  ifK (B.geB floor id) fun _ => setList (flat2 ps) 0 .o fun t => T.setK id ⟨cur, min, size, t, ps.length, fr⟩ heap fun heap => k ⟨next, floor, heap⟩
/-- are two keys (texts, or numbers of that kind) the same? none: that isn't known -/
def keyEq (kd : Option IntKind) (a b : V) : Option Bool := match kd, a, b with
  | none, .s l n, .s l' n' => some (eqS l n l' n')
  | some k, .i kd n, .i kd' n' => match kdEq kd k && kdEq kd' k with
    | true => some (eqI n n')
    | false => none
  | _, _, _ => none
/-- where the key stands among the pairs -/
def findP (kd : Option IntKind) (q : V) : List (V × V) → Option (Option Nat)
  | [] => match keyEq kd q q with
    | some _ => some none
    | none => none
  | (a, _) :: r => match keyEq kd q a, findP kd q r with
    | some true, some _ => some (some 0)
    | some false, some (some i) => some (some (i + 1))
    | some false, some none => some none
    | _, _ => none
def lkRes (ok : Bool) (v : V) (b : Bool) : V := match ok with
  | true => .tu [v, .b b]
  | false => v
noncomputable def doLookup (kd : Option IntKind) (z : V) (ok : Bool) (x q : O) : Run := fun _ t h k => oE x t fun x => oE q t fun q => vM x (fun _ => optK (keyEq kd q q) fun _ => k (lkRes ok z false) h) fun id =>
  mapK h id fun _ _ _ _ _ _ _ ps => optK (findP kd q ps) fun r => match r with
    | some i => k (lkRes ok ((ps.getD i (.u, .u)).2) true) h
    | none => k (lkRes ok z false) h
noncomputable def doMapSet (kd : Option IntKind) (x q v : O) : Run := fun _ t h k => oE x t fun x => oE q t fun q => oE v t fun v => vM x (fun _ => false) fun id =>
  mapK h id fun next floor heap cur min el fr ps => optK (findP kd q ps) fun r => match r with
    | some i => putM next floor heap id cur min el fr (ps.set i (q, v)) fun h => k (.tu []) h
    | none => putM next floor heap id cur min el fr (ps ++ [(q, v)]) fun h => k (.tu []) h
noncomputable def doMapDel (kd : Option IntKind) (x q : O) : Run := fun _ t h k => oE x t fun x => oE q t fun q => vM x (fun _ => optK (keyEq kd q q) fun _ => k (.tu []) h) fun id =>
  mapK h id fun next floor heap cur min el fr ps => optK (findP kd q ps) fun r => match r with
    | some i => putM next floor heap id cur min el fr (ps.eraseIdx i) fun h => k (.tu []) h
    | none => ifK (B.geB floor id) fun _ => k (.tu []) h
noncomputable def doMapLen (x : O) : Run := fun _ t h k => oE x t fun x => vM x (fun _ => k (.i .i64 (.ofNat 0)) h) fun id =>
  mapK h id fun _ _ _ _ _ _ _ ps => k (.i .i64 (.ofNat ps.length)) h
noncomputable def doMakeMap (r : Option O) : Run := fun _ t h k => match r with
  | none => newM h k
  | some r => oE r t fun r => vI r fun _ _ => newM h k
where newM (h : H) (k : V → H → Bool) : Bool := hK h fun next floor heap => T.setK next ⟨0, 7, 0, .o, 0, 0⟩ heap fun heap => B.incK next fun next' => k (.m next) ⟨next', floor, heap⟩

structure Ty where
  size : Nat
  bytes : Nat
  desc : TypeDesc
  zero : List V

def allConst : List Value → Option (List V)
  | [] => some []
  | v :: r => match allConst r with
    | none => none
    | some vs => some (ofConst v :: vs)

def zeroOf : Option Value → List V
  | some (.agg ⟨cs⟩) => cs.map ofConst
  | some v => [ofConst v]
  | none => []

def tyAt (P : Program) (t : Nat) : Option Ty :=
  match P.types.toList[t]? with
  | none => none
  | some i => match i.desc with
    | .named _ u => match P.types.toList[u]? with
      | none => none
      | some j => some ⟨i.size, i.bytes, j.desc, zeroOf i.zero⟩
    | d => some ⟨i.size, i.bytes, d, zeroOf i.zero⟩

def isAggD : TypeDesc → Bool
  | .struct _ => true
  | .array _ _ => true
  | _ => false

inductive CR where | mk (r : Run)

noncomputable def compLoad (ty : Option Ty) (o : O) : CR := match ty with
  | some ⟨size, _, d, _⟩ => match isAggD d with
    | true => ⟨doLoadA size o⟩
    | false => ⟨doLoad o⟩
  | none => ⟨noRun⟩
noncomputable def compStore (ty : Option Ty) (o x : O) : CR := match ty with
  | some ⟨size, _, _, _⟩ => ⟨doStore size o x⟩
  | none => ⟨noRun⟩
noncomputable def compAlloc (el : Nat) (ty : Option Ty) : CR := match ty with
  | some ⟨size, _, _, z⟩ => match Nat.beq z.length size && Nat.ble 1 size with
    | true => ⟨doAlloc el z⟩
    | false => ⟨noRun⟩
  | none => ⟨noRun⟩
noncomputable def compFieldAddr (P : Program) (ty : Option Ty) (k : Nat) (o : O) : CR := match ty with
  | some ⟨_, _, .struct fs, _⟩ => match fs.toList[k]? with
    | some f => match tyAt P f.type with
      | some ⟨_ + 1, _, _, _⟩ => ⟨doFieldAddr f.offset o⟩
      | _ => ⟨noRun⟩
    | none => ⟨noRun⟩
  | _ => ⟨noRun⟩
noncomputable def compField (P : Program) (ty : Option Ty) (k : Nat) (o : O) : CR := match ty with
  | some ⟨_, _, .struct fs, _⟩ => match fs.toList[k]? with
    | some f => match tyAt P f.type with
      | some ⟨size, _, d, _⟩ => match isAggD d with
        | true => ⟨doFieldA f.offset size o⟩
        | false => ⟨doField f.offset o⟩
      | none => ⟨noRun⟩
    | none => ⟨noRun⟩
  | _ => ⟨noRun⟩
noncomputable def compIndexAddr (P : Program) (ty : Option Ty) (o x : O) : CR := match ty with
  | some ⟨_, _, .slice e, _⟩ => match tyAt P e with
    | some ⟨size, _, _, _⟩ => ⟨doIndexAddr size o x⟩
    | none => ⟨noRun⟩
  | some ⟨_, _, .array len e, _⟩ => match tyAt P e with
    | some ⟨size, _, _, _⟩ => ⟨doIndexAddrArr len size o x⟩
    | none => ⟨noRun⟩
  | _ => ⟨noRun⟩
noncomputable def compParts (P : Program) (fs : List Field) : List (Nat × Operand) → Option (List Pt)
  | [] => some []
  | (k, x) :: r => match fs[k]? with
    | none => none
    | some f => match tyAt P f.type, compParts P fs r with
      | some ⟨size, _, _, _⟩, some rest => some (⟨f.offset, size, compO x⟩ :: rest)
      | _, _ => none
noncomputable def compPartsA (size : Nat) : List (Nat × Operand) → List Pt
  | [] => []
  | (k, x) :: r => ⟨Nat.mul k size, size, compO x⟩ :: compPartsA size r
noncomputable def compBuild (P : Program) (ty : Option Ty) (parts : List (Nat × Operand)) : CR := match ty with
  | some ⟨size, _, .struct fs, z⟩ => match compParts P fs.toList parts, Nat.ble 1 z.length && fs.toList.all (fun f => (tyAt P f.type).isSome) with
    | some ps, true => ⟨doBuild z ps⟩
    | _, _ => ⟨noRun⟩
  | some ⟨size, _, .array _ e, z⟩ => match tyAt P e, Nat.ble 1 z.length with
    | some ⟨es, _, _, _⟩, true => ⟨doBuild z (compPartsA es parts)⟩
    | _, _ => ⟨noRun⟩
  | _ => ⟨noRun⟩
noncomputable def compBuildSlice (P : Program) (ty : Option Ty) (len : Nat) (parts : List (Nat × Operand)) : CR := match ty with
  | some ⟨_, _, .slice e, _⟩ => match tyAt P e with
    | some ⟨size, _, _, z⟩ => match Nat.beq z.length size && (Nat.ble 1 size && Nat.ble (Nat.mul len size) 1048576) with
      | true => ⟨doBuildSlice e len (repL z len) (compPartsA size parts)⟩
      | false => ⟨noRun⟩
    | none => ⟨noRun⟩
  | _ => ⟨noRun⟩
noncomputable def compMakeSlice (P : Program) (ty : Option Ty) (l c : O) : CR := match ty with
  | some ⟨_, _, .slice e, _⟩ => match tyAt P e with
    | some ⟨size, bytes, _, z⟩ => match Nat.beq z.length size && (Nat.ble 1 size && Nat.ble bytes 65536) with
      | true => ⟨doMakeSlice e z l c⟩
      | false => ⟨noRun⟩
    | none => ⟨noRun⟩
  | _ => ⟨noRun⟩
noncomputable def compBinI (op : BinOp) (x y : O) : CR := match op with
  | .rem => ⟨doRem x y⟩
  | .shl => ⟨doShift shlF x y⟩
  | .shr => ⟨doShift shrF x y⟩
  | op => ⟨bin2 (fOf op) x y⟩
noncomputable def compBinS (op : BinOp) (x y : O) : CR := match op with
  | .add => ⟨doConcat x y⟩
  | .eql => ⟨doSCmp eqS x y⟩
  | .neq => ⟨doSCmp (fun a b c d => !eqS a b c d) x y⟩
  | .lss => ⟨doSCmp ltS x y⟩
  | .leq => ⟨doSCmp (fun a b c d => ltS a b c d || eqS a b c d) x y⟩
  | .gtr => ⟨doSCmp (fun a b c d => !(ltS a b c d || eqS a b c d)) x y⟩
  | .geq => ⟨doSCmp (fun a b c d => !ltS a b c d) x y⟩
  | _ => ⟨noRun⟩
noncomputable def compBinB (op : BinOp) (x y : O) : CR := match op with
  | .eql => ⟨doBool false x y⟩
  | .neq => ⟨doBool true x y⟩
  | _ => ⟨noRun⟩
noncomputable def compBinN (f : V → (Bool → Bool) → Bool) (op : BinOp) (x y : O) : CR := match op with
  | .eql => ⟨doNil f false x y⟩
  | .neq => ⟨doNil f true x y⟩
  | _ => ⟨noRun⟩
noncomputable def compPtr (ne : Bool) (ty : Option Ty) (x y : O) : CR := match ty with
  | some ⟨_ + 1, _, _, _⟩ => ⟨doPtr ne x y⟩
  | _ => ⟨noRun⟩
noncomputable def compBinP (ty : Option Ty) (op : BinOp) (x y : O) : CR := match op with
  | .eql => compPtr false ty x y
  | .neq => compPtr true ty x y
  | _ => ⟨noRun⟩
def kdOf : Option Ty → Option KD
  | some ⟨1, _, .int _, _⟩ => some .i
  | some ⟨1, _, .bool, _⟩ => some .b
  | some ⟨1, _, .string, _⟩ => some .s
  | _ => none
def kdsOf (P : Program) : List Field → Nat → Option (List KD)
  | [], _ => some []
  | f :: r, n => match !(f.name == "_") && Nat.beq f.offset n, kdOf (tyAt P f.type), kdsOf P r (n + 1) with
    | true, some kd, some ks => some (kd :: ks)
    | _, _, _ => none
noncomputable def compSEq2 (ks : List KD) (op : BinOp) (x y : O) : CR := match op with
  | .eql => ⟨doSEq ks false x y⟩
  | .neq => ⟨doSEq ks true x y⟩
  | _ => ⟨noRun⟩
noncomputable def compSEq (P : Program) (tx : TypeId) (fs : Array Field) (op : BinOp) (x y : O) : CR := match !P.stoodInHeld tx && !P.eqGuardType P.depth tx, kdsOf P fs.toList 0 with
  | true, some ks => compSEq2 ks op x y
  | _, _ => ⟨noRun⟩
noncomputable def compBin (P : Program) (op : BinOp) (tx : TypeId) (x y : O) : CR := match tyAt P tx with
  | some ⟨_, _, .int _, _⟩ => compBinI op x y
  | some ⟨_, _, .string, _⟩ => compBinS op x y
  | some ⟨_, _, .bool, _⟩ => compBinB op x y
  | some ⟨_, _, .pointer e, _⟩ => compBinP (tyAt P e) op x y
  | some ⟨_, _, .slice _, _⟩ => compBinN vLN op x y
  | some ⟨_, _, .map _ _, _⟩ => compBinN vMN op x y
  | some ⟨_, _, .struct fs, _⟩ => compSEq P tx fs op x y
  | _ => ⟨noRun⟩
noncomputable def compUn (op : UnOp) (x : O) : CR := match op with
  | .not => ⟨doNot x⟩
  | .neg => ⟨doNeg x⟩
  | _ => ⟨noRun⟩
noncomputable def compP2U (ty : Option Ty) (x : O) : CR := match ty with
  | some ⟨_ + 1, _, _, _⟩ => ⟨doP2U x⟩
  | _ => ⟨noRun⟩
noncomputable def compU2P (u : Nat) (ty : Option Ty) (x : O) : CR := match ty with
  | some ⟨size + 1, _, _, _⟩ => ⟨doU2P u (size + 1) x⟩
  | _ => ⟨noRun⟩
noncomputable def compB2S (ty : Option Ty) (x : O) : CR := match ty with
  | some ⟨1, _, .int .u8, _⟩ => ⟨doB2S x⟩
  | _ => ⟨noRun⟩
noncomputable def compS2B (e : Nat) (ty : Option Ty) (x : O) : CR := match ty with
  | some ⟨1, _, .int .u8, _⟩ => ⟨doS2B e x⟩
  | _ => ⟨noRun⟩
noncomputable def compConv (P : Program) (s d : TypeId) (x : O) : CR := match tyAt P s, tyAt P d with
  | some _, some ⟨_, _, .int k, _⟩ => ⟨doConv k x⟩
  | some ⟨_, _, .string, _⟩, some ⟨_, _, .string, _⟩ => ⟨doMoveS x⟩
  | some ⟨_, _, .slice e, _⟩, some ⟨_, _, .string, _⟩ => compB2S (tyAt P e) x
  | some ⟨_, _, .int _, _⟩, some ⟨_, _, .string, _⟩ => ⟨doI2S x⟩
  | some ⟨_, _, .string, _⟩, some ⟨_, _, .slice e, _⟩ => compS2B e (tyAt P e) x
  | some ⟨_, _, .pointer e, _⟩, some ⟨_, _, .unsafePointer, _⟩ => compP2U (tyAt P e) x
  | some ⟨_, _, .unsafePointer, _⟩, some ⟨_, _, .pointer u, _⟩ => compU2P u (tyAt P u) x
  | _, _ => ⟨noRun⟩
noncomputable def compAppS (e : Nat) (ty : Option Ty) (x y : O) : CR := match ty with
  | some ⟨1, bytes, .int .u8, z⟩ => match Nat.ble bytes 65536 && Nat.beq z.length 1 with
    | true => ⟨doAppendS e x y⟩
    | false => ⟨noRun⟩
  | _ => ⟨noRun⟩
noncomputable def compAppend (P : Program) (t t' : TypeId) (x y : O) : CR := match tyAt P t, tyAt P t' with
  | some ⟨_, _, .slice e, _⟩, some ⟨_, _, .slice _, _⟩ => match tyAt P e with
    | some ⟨size, bytes, _, z⟩ => match Nat.ble 1 size && (Nat.ble bytes 65536 && Nat.beq z.length size) with
      | true => ⟨doAppend e size x y⟩
      | false => ⟨noRun⟩
    | none => ⟨noRun⟩
  | some ⟨_, _, .slice e, _⟩, some ⟨_, _, .string, _⟩ => compAppS e (tyAt P e) x y
  | _, _ => ⟨noRun⟩
noncomputable def compLen (P : Program) (t : TypeId) (x : O) : CR := match tyAt P t with
  | some ⟨_, _, .slice _, _⟩ => ⟨doLen x⟩
  | some ⟨_, _, .string, _⟩ => ⟨doLenS x⟩
  | some ⟨_, _, .map _ _, _⟩ => ⟨doMapLen x⟩
  | _ => ⟨noRun⟩
/-- what is there where nothing is -/
def zeroV (P : Program) (t : TypeId) : Option V := match P.types.toList[t]? with
  | some i => match i.zero with
    | some (.agg ⟨cs⟩) => some (.a (cs.map ofConst))
    | some v => some (ofConst v)
    | none => none
  | none => none
/-- kinds of keys that are served -/
def keyKind (ty : Option Ty) : Option (Option IntKind) := match ty with
  | some ⟨_, _, .string, _⟩ => some none
  | some ⟨_, _, .int k, _⟩ => some (some k)
  | _ => none
noncomputable def compLookup (P : Program) (t : TypeId) (x q : O) (ok : Bool) : CR := match tyAt P t with
  | some ⟨_, _, .map kt e, _⟩ => match keyKind (tyAt P kt), zeroV P e with
    | some kd, some z => ⟨doLookup kd z ok x q⟩
    | _, _ => ⟨noRun⟩
  | _ => ⟨noRun⟩
noncomputable def compMapSet (P : Program) (t : TypeId) (x q v : O) : CR := match tyAt P t with
  | some ⟨_, _, .map kt _, _⟩ => match keyKind (tyAt P kt) with
    | some kd => ⟨doMapSet kd x q v⟩
    | none => ⟨noRun⟩
  | _ => ⟨noRun⟩
noncomputable def compMapDel (P : Program) (t : TypeId) (x q : O) : CR := match tyAt P t with
  | some ⟨_, _, .map kt _, _⟩ => match keyKind (tyAt P kt) with
    | some kd => ⟨doMapDel kd x q⟩
    | none => ⟨noRun⟩
  | _ => ⟨noRun⟩
noncomputable def compMakeMap (P : Program) (t : TypeId) (r : Option O) : CR := match tyAt P t with
  | some ⟨_, _, .map _ _, _⟩ => ⟨doMakeMap r⟩
  | _ => ⟨noRun⟩
noncomputable def compIndexA (len : Nat) (ty : Option Ty) (x y : O) : CR := match ty with
  | some ⟨size, _, d, _⟩ => match isAggD d with
    | true => ⟨noRun⟩
    | false => ⟨doAIndex len size x y⟩
  | none => ⟨noRun⟩
noncomputable def compIndex (P : Program) (t : TypeId) (x y : O) : CR := match tyAt P t with
  | some ⟨_, _, .string, _⟩ => ⟨doSIndex x y⟩
  | some ⟨_, _, .array len e, _⟩ => compIndexA len (tyAt P e) x y
  | _ => ⟨noRun⟩
noncomputable def compSlice3 (ty : Option Ty) (x : O) (lo hi : Option O) (mx : O) : CR := match ty, hi with
  | some ⟨size, _, _, _⟩, some hi => match Nat.ble 1 size with
    | true => ⟨doSlice3 size x lo hi mx⟩
    | false => ⟨noRun⟩
  | _, _ => ⟨noRun⟩
noncomputable def compSliceM (P : Program) (t : TypeId) (x : O) (lo hi : Option O) (mx : O) : CR := match tyAt P t with
  | some ⟨_, _, .slice e, _⟩ => compSlice3 (tyAt P e) x lo hi mx
  | _ => ⟨noRun⟩
noncomputable def compSliceA (n : Nat) (ty : Option Ty) (x : O) (lo hi : Option O) : CR := match ty with
  | some ⟨size, _, _, _⟩ => match Nat.ble 1 size with
    | true => ⟨doSliceArr n size x lo hi⟩
    | false => ⟨noRun⟩
  | none => ⟨noRun⟩
noncomputable def compSlice (P : Program) (t : TypeId) (x : O) (lo hi : Option O) (mx : Option Operand) : CR := match mx with
  | some m => compSliceM P t x lo hi (compO m)
  | none => match tyAt P t with
    | some ⟨_, _, .string, _⟩ => ⟨doSSlice x lo hi⟩
    | some ⟨_, _, .slice e, _⟩ => match tyAt P e with
      | some ⟨size, _, _, _⟩ => match Nat.ble 1 size with
        | true => ⟨doSlice size x lo hi⟩
        | false => ⟨noRun⟩
      | none => ⟨noRun⟩
    | some ⟨_, _, .array n e, _⟩ => compSliceA n (tyAt P e) x lo hi
    | _ => ⟨noRun⟩
noncomputable def compCopy (P : Program) (t : TypeId) (x y : O) : CR := match tyAt P t with
  | some ⟨_, _, .slice e, _⟩ => match tyAt P e with
    | some ⟨size, _, _, _⟩ => ⟨doCopy size x y⟩
    | none => ⟨noRun⟩
  | _ => ⟨noRun⟩
noncomputable def compUStr1 (e : Nat) (ty : Option Ty) (x y : O) : CR := match ty with
  | some ⟨1, _, .int .u8, _⟩ => ⟨doUStr e x y⟩
  | _ => ⟨noRun⟩
noncomputable def compUStr (P : Program) (t : TypeId) (x y : O) : CR := match tyAt P t with
  | some ⟨_, _, .pointer e, _⟩ => compUStr1 e (tyAt P e) x y
  | _ => ⟨noRun⟩
noncomputable def compBuiltin (P : Program) (b : Builtin) (args : List O) (tys : List TypeId) : CR := match b, args, tys with
  | .len, [x], [t] => compLen P t x
  | .min, [x, y], _ => ⟨doMin x y⟩
  | .max, [x, y], _ => ⟨doMax x y⟩
  | .append, [x, y], [t, t'] => compAppend P t t' x y
  | .copy, [x, y], [t, _] => compCopy P t x y
  | .unsafeSliceData, [x], _ => ⟨doSData x⟩
  | .delete, [x, y], [t, _] => compMapDel P t x y
  | .unsafeString, [x, y], [t, _] => compUStr P t x y
  | _, _, _ => ⟨noRun⟩
/-- a function without a body: one is known -/
noncomputable def compExt (name origin : String) (f : FuncId) (args : List O) : CR := match name == "internal/abi.NoEscape" && origin == "" with
  | true => match args with
    | [x] => ⟨doMove x⟩
    | _ => ⟨noRun⟩
  | false => ⟨doCall f args⟩
noncomputable def compFn1 (P : Program) (f : FuncId) (args : List O) : CR := match P.funcs.toList[f]? with
  | none => ⟨doCall f args⟩
  | some fn => match fn.body with
    | some _ => ⟨doCall f args⟩
    | none => compExt fn.name fn.origin f args
noncomputable def compCall (P : Program) (c : Call) : CR := match c with
  | ⟨.builtin b, args, tys⟩ => compBuiltin P b (args.toList.map compO) tys.toList
  | ⟨.value (.func f), args, _⟩ => compFn1 P f (args.toList.map compO)
  | _ => ⟨noRun⟩

noncomputable def compOp (P : Program) (op : Op) : CR :=
  match op with
  | .move x => ⟨doMove (compO x)⟩
  | .assign x => ⟨doMove (compO x)⟩
  | .pick c a b => ⟨doPick (compO c) (compO a) (compO b)⟩
  | .box e x => ⟨doBox e (compO x)⟩
  | .alloc e => compAlloc e (tyAt P e)
  | .load e x => compLoad (tyAt P e) (compO x)
  | .store e x v => compStore (tyAt P e) (compO x) (compO v)
  | .fieldAddr s x k => compFieldAddr P (tyAt P s) k (compO x)
  | .field s x k => compField P (tyAt P s) k (compO x)
  | .indexAddr s x ix => compIndexAddr P (tyAt P s) (compO x) (compO ix)
  | .build e parts => compBuild P (tyAt P e) parts.toList
  | .buildSlice e len parts => compBuildSlice P (tyAt P e) len parts.toList
  | .makeSlice e l c => compMakeSlice P (tyAt P e) (compO l) (compO c)
  | .binOp op tx x y _ => compBin P op tx (compO x) (compO y)
  | .unOp op _ x => compUn op (compO x)
  | .convert s d x => compConv P s d (compO x)
  | .extract x k => ⟨doExtract k (compO x)⟩
  | .nilCheck x => ⟨doNilCheck (compO x)⟩
  | .index t x y => compIndex P t (compO x) (compO y)
  | .slice t x lo hi mx => compSlice P t (compO x) (lo.map compO) (hi.map compO) mx
  | .call c => compCall P c
  | .lookup t x q ok => compLookup P t (compO x) (compO q) ok
  | .mapUpdate t x q v => compMapSet P t (compO x) (compO q) (compO v)
  | .makeMap t r => compMakeMap P t (r.map compO)
  | _ => ⟨noRun⟩

inductive G where | none | some (p : Sl) (w : Bool) | bad
inductive D where | none | some (p : Sl) | bad
structure CO where
  guard : G
  dst : D
  bar : Bool
  run : CR

inductive CC where
  | skip
  | region (ops : List CO)
  | draws (ops : List CO)
  | seq (a b : CC)
  | cond (c : O) (a b : CC)
  | block (id : Nat) (a : CC)
  | loop (a : CC)
  | exit (id : Nat)
  | ret
  | bad

def dOf (nt : Nat) : Option Tmp → D
  | none => .none
  | some d => match Nat.ble (Nat.succ d) nt && Nat.ble (Nat.succ d) 512 with
    | true => .some (slOf d)
    | false => .bad
def compG (nt : Nat) (ops : List Oper) : Option (Nat × Bool) → G
  | none => .none
  | some (j, w) => match ops[j]? with
    | some ⟨some d, _, _, _, _, _⟩ => match Nat.ble (Nat.succ d) nt && Nat.ble (Nat.succ d) 512 with
      | true => .some (slOf d) w
      | false => .bad
    | _ => .bad

/-- what touches memory: all but what only makes values out of values -/
def isMapT (P : Program) (t : Option TypeId) : Bool := match t with
  | none => false
  | some t => match tyAt P t with
    | some ⟨_, _, .map _ _, _⟩ => true
    | _ => false
def still (P : Program) : Op → Bool
  | .move _ => true | .assign _ => true | .pick .. => true | .fieldAddr .. => true | .field .. => true | .indexAddr .. => true | .build .. => true
  | .binOp .. => true | .unOp .. => true | .extract .. => true | .index .. => true | .slice .. => true
  | .call ⟨.builtin .len, _, tys⟩ => !isMapT P tys.toList.head? | .call ⟨.builtin .min, _, _⟩ => true | .call ⟨.builtin .max, _, _⟩ => true
  | _ => false

def compOpsWith (bars : Nat → Bool) (P : Program) (nt : Nat) (all : List Oper) (cop : Op → CR) : Nat → List Oper → List CO
  | _, [] => []
  | n, o :: r => ⟨compG nt all o.guard, dOf nt o.dst, bars n, cop o.op⟩ :: compOpsWith bars P nt all cop (n + 1) r

/-! ### Regions that draw their order -/
def slotsOf (o : Operand) : List Nat := match o with
  | .tmp t => [t]
  | _ => []
def dstL (o : Oper) : List Nat := match o.dst with
  | none => []
  | some d => [d]
def guardL (ops : List Oper) (o : Oper) : List Nat := match o.guard with
  | none => []
  | some (j, _) => match ops[j]? with
    | none => []
    | some g => dstL g
def looks (ops : List Oper) (o : Oper) : List Nat := guardL ops o ++ o.op.operands.toList.flatMap slotsOf
/-- of each operation a number: bit i is set if operation i comes ahead of it at every order -/
def befOf (done : List Nat) : List Edge → Nat → Nat
  | [], acc => acc
  | e :: r, acc => match Region.binds .any e with
    | true => befOf done r (Nat.lor (Nat.lor acc (Nat.pow 2 e.on)) ((done[e.on]?).getD 0))
    | false => befOf done r acc
def befs : List Oper → List Nat → List Nat
  | [], done => done
  | o :: r, done => befs r (done ++ [befOf done o.after.toList 0])
def edgesUp : Nat → List Oper → Bool
  | _, [] => true
  | n, o :: r => o.after.toList.all (fun e => !Region.binds .any e || Nat.ble (Nat.succ e.on) n) && edgesUp (n + 1) r
def isSel : Op → Bool
  | .select _ _ => true
  | _ => false
def apartL (a b : List Nat) : Bool := a.all fun x => b.all fun y => !Nat.beq x y
/-- operations i < j, of which neither waits for the other one: their slots are apart -/
def slotsOk (ops : List Oper) (oi oj : Oper) : Bool := apartL (dstL oi) (dstL oj) && (apartL (dstL oi) (looks ops oj) && apartL (dstL oj) (looks ops oi))
def barOf (P : Program) (ops : List Oper) (bs : List Nat) (i : Nat) (oi : Oper) : Bool :=
  !still P oi.op && ops.zipIdx.all fun (oj, j) => still P oj.op || (Nat.beq i j || (Nat.testBit ((bs[j]?).getD 0) i || Nat.testBit ((bs[i]?).getD 0) j))
def pairOk (ops : List Oper) (bs : List Nat) (i j : Nat) (oi oj : Oper) : Bool :=
  Nat.ble j i || (Nat.testBit ((bs[j]?).getD 0) i || slotsOk ops oi oj)
def drawsOk (ops : List Oper) : Bool :=
  edgesUp 0 ops && (ops.all (fun o => !isSel o.op) && ops.zipIdx.all fun (oi, i) => ops.zipIdx.all fun (oj, j) => pairOk ops (befs ops []) i j oi oj)
def barAt (P : Program) (ops : List Oper) (bs : List Nat) (i : Nat) : Bool := match ops[i]? with
  | none => false
  | some o => barOf P ops bs i o

noncomputable def compRegion (P : Program) (nt : Nat) (ops : List Oper) (draw : Bool) : CC := match draw with
  | false => .region (compOpsWith (fun _ => true) P nt ops (compOp P) 0 ops)
  | true => match drawsOk ops with
    | true => .draws (compOpsWith (barAt P ops (befs ops [])) P nt ops (compOp P) 0 ops)
    | false => .bad

noncomputable def comp (P : Program) (nt : Nat) : Code → CC
  | .skip => .skip
  | .label _ => .skip
  | .region _ ops draw => compRegion P nt ops.toList draw
  | .seq a b => .seq (comp P nt a) (comp P nt b)
  | .cond c a b => .cond (compO c) (comp P nt a) (comp P nt b)
  | .block id a => .block id (comp P nt a)
  | .loop a => .loop (comp P nt a)
  | .scope a => comp P nt a
  | .exit id => .exit id
  | .ret => .ret
  | _ => .bad

noncomputable def putD (d : D) : V → F → (F → Bool) → Bool := D.rec (fun _ t k => k t) (fun s v t k => sPut s v t k) (fun _ _ _ => false) d
noncomputable def guardK (g : G) : F → (Bool → Bool) → Bool := G.rec (fun _ k => k true) (fun s w t k => vG (sGet s t) w k) (fun _ _ => false) g
noncomputable def runK (c : CR) : Run := CR.rec (fun r => r) c
noncomputable def afterOp (d : D) (ih : F → H → (F → H → Bool) → Bool) (t : F) (k : F → H → Bool) (v : V) (h : H) : Bool := putD d v t fun t => ih t h k
noncomputable def opGo (b : Bool) : CR → D → CallF → (F → H → (F → H → Bool) → Bool) → F → H → (F → H → Bool) → Bool :=
  Bool.rec (fun _ d _ ih t h k => afterOp d ih t k (.tu []) h) (fun cr d cf ih t h k => runK cr cf t h (afterOp d ih t k)) b
noncomputable def opK (o : CO) : CallF → (F → H → (F → H → Bool) → Bool) → F → H → (F → H → Bool) → Bool :=
  CO.rec (fun g d _ cr cf ih t h k => guardK g t fun b => opGo b cr d cf ih t h k) o
noncomputable def execOps (cf : CallF) (ops : List CO) : F → H → (F → H → Bool) → Bool :=
  List.rec (fun _ t h k => k t h) (fun o _ ih cf t h k => opK o cf (ih cf) t h k) ops cf

noncomputable def reFloor (h : H) : H := H.rec (fun n _ hp => ⟨n, n, hp⟩) h
noncomputable def unFloor (h0 h : H) : H := H.rec (fun _ f _ h => H.rec (fun n _ hp f => ⟨n, f, hp⟩) h f) h0 h
noncomputable def afterDr (d : D) (ih : F → H → (F → H → Bool) → Bool) (t : F) (k : F → H → Bool) (h0 : H) (v : V) (h : H) : Bool := putD d v t fun t => ih t (unFloor h0 h) k
noncomputable def drGo (b : Bool) : Bool → CR → D → CallF → (F → H → (F → H → Bool) → Bool) → F → H → (F → H → Bool) → Bool :=
  Bool.rec (fun _ _ d _ ih t h k => afterOp d ih t k (.tu []) h)
    (fun bar cr d cf ih t h k => Bool.rec (fun cr d cf ih t h k => runK cr cf t (reFloor h) (afterDr d ih t k h)) (fun cr d cf ih t h k => runK cr cf t h (afterOp d ih t k)) bar cr d cf ih t h k) b
noncomputable def drK (o : CO) : CallF → (F → H → (F → H → Bool) → Bool) → F → H → (F → H → Bool) → Bool :=
  CO.rec (fun g d bar cr cf ih t h k => guardK g t fun b => drGo b bar cr d cf ih t h k) o
noncomputable def execDr (cf : CallF) (ops : List CO) : F → H → (F → H → Bool) → Bool :=
  List.rec (fun _ t h k => k t h) (fun o _ ih cf t h k => drK o cf (ih cf) t h k) ops cf

inductive Rs where
  | tmp (s : Sl)
  | cell (s : Sl) (size : Nat)
  | cellA (s : Sl) (size : Nat)
  | no
noncomputable def rsK (r : Rs) : F → H → (V → Bool) → Bool :=
  Rs.rec (fun s t _ k => forceV (sGet s t) k) (fun s _ t h k => vP (sGet s t) fun id g off fin => load1 h id g off fin k)
    (fun s size t h k => vP (sGet s t) fun id g off fin => loadN h id g off fin size fun vs => k (.a vs)) (fun _ _ _ => false) r
noncomputable def resK (rs : List Rs) : F → H → (List V → Bool) → Bool :=
  List.rec (fun _ _ k => k []) (fun r _ ih t h k => rsK r t h fun v => ih t h fun vs => k (v :: vs)) rs

structure CF where
  nt : Nat
  body : CC
  results : List Rs

noncomputable def rsOf (P : Program) : ResultVar → Rs
  | .tmp k => match Nat.ble (Nat.succ k) 512 with
    | true => .tmp (slOf k)
    | false => .no
  | .cell a e => match tyAt P e, Nat.ble (Nat.succ a) 512 with
     | some ⟨size, _, d, _⟩, true => match isAggD d with
       | true => .cellA (slOf a) size
       | false => .cell (slOf a) size
     | _, _ => .no

noncomputable def compFn (P : Program) (f : Nat) : CF := match P.funcs.toList[f]? with
  | none => ⟨0, .bad, []⟩
  | some fn => match fn.body, fn.name == "runtime.NumGoroutine" with
    | some b, false => ⟨fn.ntmps, comp P fn.ntmps b, fn.results.toList.map (rsOf P)⟩
    | _, _ => ⟨0, .bad, []⟩

noncomputable def one (vs : List V) : V := match vs with
  | [v] => v
  | vs => .tu vs

abbrev Ex := CC → F → H → (X → F → H → Bool) → Bool

noncomputable def retK (rs : List Rs) (k : V → H → Bool) (x : X) : F → H → Bool :=
  X.rec (fun rs k t h => resK rs t h fun vs => forceV (one vs) fun v => k v h) (fun _ _ _ _ _ => false) (fun rs k t h => resK rs t h fun vs => forceV (one vs) fun v => k v h) x rs k
noncomputable def slots (vs : List V) : Nat → F → (F → Bool) → Bool :=
  List.rec (fun _ t k => k t) (fun v _ ih n t k => sPut (slOf n) v t fun t => ih (Nat.succ n) t k) vs
noncomputable def memoK (args : List V) : H → (V → H → Bool) → Bool := List.rec (fun h k => k (.b true) h) (fun _ _ _ _ _ => false) args
noncomputable def callF (tb : Nat → Bool) (ex : Ex) (fns : Nat → CF) : CallF := fun f args h k =>
  boolK (tb f) (fun _ => memoK args h k) fun _ => CF.rec (fun nt body rs ex args h k => ifK (Nat.ble args.length nt) fun _ => ifK (Nat.ble args.length 512) fun _ => slots args 0 F.zero fun t => ex body t h (retK rs k)) (fns f) ex args h k

noncomputable def regK (k : X → F → H → Bool) (t : F) (h : H) : Bool := k .normal t h
noncomputable def seqK (ex : Ex) (b : CC) (k : X → F → H → Bool) (x : X) : F → H → Bool :=
  X.rec (fun ex b k t h => ex b t h k) (fun id _ _ k t h => k (.exit id) t h) (fun _ _ k t h => k .ret t h) x ex b k
noncomputable def condK (b : Bool) : Ex → CC → CC → F → H → (X → F → H → Bool) → Bool :=
  Bool.rec (fun ex _ b t h k => ex b t h k) (fun ex a _ t h k => ex a t h k) b
noncomputable def blockB (b : Bool) : Nat → (X → F → H → Bool) → F → H → Bool := Bool.rec (fun id k t h => k (.exit id) t h) (fun _ k t h => k .normal t h) b
noncomputable def blockK (id : Nat) (k : X → F → H → Bool) (x : X) : F → H → Bool :=
  X.rec (fun _ k t h => k .normal t h) (fun j id k t h => blockB (Nat.beq j id) j k t h) (fun _ k t h => k .ret t h) x id k
noncomputable def loopK (ex : Ex) (a : CC) (k : X → F → H → Bool) (x : X) : F → H → Bool :=
  X.rec (fun ex a k t h => ex (.loop a) t h k) (fun id _ _ k t h => k (.exit id) t h) (fun _ _ k t h => k .ret t h) x ex a k

noncomputable def execC (tb : Nat → Bool) (c : CC) : (Nat → CF) → Ex → F → H → (X → F → H → Bool) → Bool :=
  CC.rec (fun _ _ t h k => k .normal t h)
    (fun ops fns ex t h k => execOps (callF tb ex fns) ops t h (regK k))
    (fun ops fns ex t h k => execDr (callF tb ex fns) ops t h (regK k))
    (fun a b _ _ _ ex t h k => ex a t h (seqK ex b k))
    (fun c a b _ _ _ ex t h k => oE c t fun c => vB c fun c => condK c ex a b t h k)
    (fun id a _ _ ex t h k => ex a t h (blockK id k))
    (fun a _ _ ex t h k => ex a t h (loopK ex a k))
    (fun id _ _ t h k => k (.exit id) t h) (fun _ _ t h k => k .ret t h) (fun _ _ _ _ _ => false) c

noncomputable def exec (tb : Nat → Bool) (fns : Nat → CF) (n : Nat) : Ex :=
  Nat.rec (fun _ _ _ _ => false) (fun _ ex c t h k => execC tb c fns ex t h k) n

noncomputable def H.zero : H := ⟨.h, .h, .o⟩
noncomputable def isTrue (v : V) (_ : H) : Bool := vB v fun b => b
noncomputable def noTb : Nat → Bool := fun _ => false
noncomputable def runFn (tb : Nat → Bool) (P : Program) (fuel : Nat) (f : Nat) (args : List V) : Bool :=
  callF tb (exec tb (compFn P) fuel) (compFn P) f args H.zero isTrue

end Go.Ev
