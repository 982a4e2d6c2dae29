/- Texts of ours, without what this claim does not use: EvA EvB EvC EvD EvE EvS EvT. No condition. -/
import GoSem.Core.Program
import GoSem.Machine.Frame
import GoSem.Op.Equal
import Derived.WalkKit
import Derived.ProofKit
import Derived.MapKept
import Derived.Laws.BytesString
set_option linter.all false
namespace Go.Ev
open Go
inductive B where | h | o (p : B) | i (p : B)
inductive V where
  | u
  | b (x : Bool)
  | i (k : IntKind) (n : Int)
  | r (k : IntKind) (m r hi : Nat)   -- some n, at most hi, of which n % m is r
  | s (len n : Nat)
  | p0
  | p (id : B) (g off fin : Nat)
  | l0
  | l (id : B) (g off len fin : Nat) (cap : Option Nat)
  | a (cs : List V)
  | tu (cs : List V)
  | f0
  | f (fn : FuncId) (cs : List V)
  | x0
  | x (t : TypeId) (v : V)
  | m0
  | m (id : B)
  | c0
  | c (id : B)
inductive T (α : Type) where
  | o
  | n (l : T α) (v : Option α) (r : T α)
section tree
variable {α : Type}
noncomputable def bGet (p : B) : Option α → (B → Option α) → (B → Option α) → Option α :=
  B.rec (fun v _ _ => v) (fun p _ _ gl _ => gl p) (fun p _ _ _ gr => gr p) p
noncomputable def T.get (t : T α) : B → Option α :=
  T.rec (fun _ => none) (fun _ v _ gl gr p => bGet p v gl gr) t
noncomputable def sH (t : T α) : α → (T α → Bool) → Bool := T.rec (fun x k => k (.n .o (some x) .o)) (fun l _ r _ _ x k => k (.n l (some x) r)) t
noncomputable def sO (t : T α) : (α → T α → (T α → Bool) → Bool) → α → (T α → Bool) → Bool :=
  T.rec (fun ih x k => ih x .o (fun a => k (.n a none .o))) (fun l v r _ _ ih x k => ih x l (fun a => k (.n a v r))) t
noncomputable def sI (t : T α) : (α → T α → (T α → Bool) → Bool) → α → (T α → Bool) → Bool :=
  T.rec (fun ih x k => ih x .o (fun a => k (.n .o none a))) (fun l v r _ _ ih x k => ih x r (fun a => k (.n l v a))) t
noncomputable def T.setK (p : B) : α → T α → (T α → Bool) → Bool :=
  B.rec (fun x t k => sH t x k) (fun _ ih x t k => sO t ih x k) (fun _ ih x t k => sI t ih x k) p
noncomputable def nGet2 (m : Nat) : Nat → (Nat → Option α) → (Nat → Option α) → Option α :=
  Nat.rec (fun k gl _ => gl (Nat.div k 2)) (fun _ _ k _ gr => gr (Nat.div k 2)) m
noncomputable def nGet (k : Nat) : Option α → (Nat → Option α) → (Nat → Option α) → Option α :=
  Nat.rec (fun v _ _ => v) (fun k _ _ gl gr => nGet2 (Nat.mod k 2) k gl gr) k
noncomputable def T.getN (t : T α) : Nat → Option α :=
  T.rec (fun _ => none) (fun _ v _ gl gr k => nGet k v gl gr) t
noncomputable def nO (t : T α) : (α → T α → Nat → (T α → Bool) → Bool) → α → Nat → (T α → Bool) → Bool :=
  T.rec (fun ih x n k => ih x .o n (fun a => k (.n a none .o))) (fun l v r _ _ ih x n k => ih x l n (fun a => k (.n a v r))) t
noncomputable def nI (t : T α) : (α → T α → Nat → (T α → Bool) → Bool) → α → Nat → (T α → Bool) → Bool :=
  T.rec (fun ih x n k => ih x .o n (fun a => k (.n .o none a))) (fun l v r _ _ ih x n k => ih x r n (fun a => k (.n l v a))) t
noncomputable def nS2 (m : Nat) : Nat → (α → T α → Nat → (T α → Bool) → Bool) → α → T α → (T α → Bool) → Bool :=
  Nat.rec (fun n ih x t k => nO t ih x (Nat.div n 2) k) (fun _ _ n ih x t k => nI t ih x (Nat.div n 2) k) m
noncomputable def nS1 (n : Nat) : (α → T α → Nat → (T α → Bool) → Bool) → α → T α → (T α → Bool) → Bool :=
  Nat.rec (fun _ x t k => sH t x k) (fun n _ ih x t k => nS2 (Nat.mod n 2) n ih x t k) n
noncomputable def T.setN (f : Nat) : α → T α → Nat → (T α → Bool) → Bool :=
  Nat.rec (fun _ _ _ _ => false) (fun _ ih x t n k => nS1 n ih x t k) f
end tree
/-- strict successor -/
noncomputable def B.incK (p : B) : (B → Bool) → Bool := B.rec (fun k => k (.o .h)) (fun p _ k => k (.i p)) (fun _ ih k => ih fun q => k (.o q)) p
noncomputable def B.val (p : B) : Nat := B.rec 1 (fun _ v => Nat.mul 2 v) (fun _ v => Nat.succ (Nat.mul 2 v)) p
noncomputable def B.geB (f : B) : B → Bool := B.rec (fun _ => true) (fun p _ q => Nat.ble (B.val (.o p)) (B.val q)) (fun p _ q => Nat.ble (B.val (.i p)) (B.val q)) f
structure F8 (α : Type) where
  a : α
  b : α
  c : α
  d : α
  e : α
  f : α
  g : α
  h : α
inductive S8 where | a | b | c | d | e | f | g | h
  deriving DecidableEq
section frame
variable {α : Type}
noncomputable def get8 (s : S8) : F8 α → α :=
  S8.rec (fun x => F8.rec (fun a _ _ _ _ _ _ _ => a) x) (fun x => F8.rec (fun _ b _ _ _ _ _ _ => b) x) (fun x => F8.rec (fun _ _ c _ _ _ _ _ => c) x) (fun x => F8.rec (fun _ _ _ d _ _ _ _ => d) x)
    (fun x => F8.rec (fun _ _ _ _ e _ _ _ => e) x) (fun x => F8.rec (fun _ _ _ _ _ f _ _ => f) x) (fun x => F8.rec (fun _ _ _ _ _ _ g _ => g) x) (fun x => F8.rec (fun _ _ _ _ _ _ _ h => h) x) s
noncomputable def set8 (s : S8) : α → F8 α → (F8 α → Bool) → Bool :=
  S8.rec (fun v x k => F8.rec (fun _ b c d e f g h v k => k ⟨v, b, c, d, e, f, g, h⟩) x v k) (fun v x k => F8.rec (fun a _ c d e f g h v k => k ⟨a, v, c, d, e, f, g, h⟩) x v k)
    (fun v x k => F8.rec (fun a b _ d e f g h v k => k ⟨a, b, v, d, e, f, g, h⟩) x v k) (fun v x k => F8.rec (fun a b c _ e f g h v k => k ⟨a, b, c, v, e, f, g, h⟩) x v k)
    (fun v x k => F8.rec (fun a b c d _ f g h v k => k ⟨a, b, c, d, v, f, g, h⟩) x v k) (fun v x k => F8.rec (fun a b c d e _ g h v k => k ⟨a, b, c, d, e, v, g, h⟩) x v k)
    (fun v x k => F8.rec (fun a b c d e f _ h v k => k ⟨a, b, c, d, e, f, v, h⟩) x v k) (fun v x k => F8.rec (fun a b c d e f g _ v k => k ⟨a, b, c, d, e, f, g, v⟩) x v k) s
end frame
abbrev F := F8 (F8 (F8 V))
def F8.all {α : Type} (x : α) : F8 α := ⟨x, x, x, x, x, x, x, x⟩
def F.zero : F := F8.all (F8.all (F8.all .u))
structure Sl where
  x : S8
  y : S8
  z : S8
noncomputable def sGet (s : Sl) : F → V := Sl.rec (fun x y z t => get8 z (get8 y (get8 x t))) s
noncomputable def sPut (s : Sl) : V → F → (F → Bool) → Bool :=
  Sl.rec (fun x y z v t k => set8 z v (get8 y (get8 x t)) fun g => set8 y g (get8 x t) fun g => set8 x g t k) s
def s8 : Nat → S8
  | 0 => .a | 1 => .b | 2 => .c | 3 => .d | 4 => .e | 5 => .f | 6 => .g | _ => .h
def slOf (n : Nat) : Sl := ⟨s8 (n / 64), s8 (n / 8 % 8), s8 (n % 8)⟩
structure Blk where
  cur : Nat
  min : Nat
  size : Nat
  cells : T V
  el : Nat       -- the type of its elements
  fr : Nat       -- 0: nothing of it is frozen; 1: nothing but a mark behind its end; k + 2: nothing from place k on
structure H where
  next : B
  floor : B
  heap : T Blk
inductive X where
  | normal
  | exit (id : Nat)
  | ret
/-- force a natural number -/
noncomputable def fN (n : Nat) : (Nat → Bool) → Bool := Nat.rec (fun k => k 0) (fun m _ k => k (Nat.succ m)) n
noncomputable def optK {α : Type} (o : Option α) : (α → Bool) → Bool := Option.rec (fun _ => false) (fun v k => k v) o
noncomputable def ifK (b : Bool) : (Unit → Bool) → Bool := Bool.rec (fun _ => false) (fun k => k ()) b
noncomputable def boolK (b : Bool) : (Unit → Bool) → (Unit → Bool) → Bool := Bool.rec (fun _ k => k ()) (fun k _ => k ()) b
noncomputable def natK (n : Int) : (Nat → Bool) → Bool := Int.rec (fun m k => k m) (fun _ _ => false) n
noncomputable def natC (n : Nat) : (Unit → Bool) → (Nat → Bool) → Bool := Nat.rec (fun k _ => k ()) (fun m _ _ k => k (Nat.succ m)) n
noncomputable def setList (vs : List V) : Nat → T V → (T V → Bool) → Bool :=
  List.rec (fun _ t k => k t) (fun v _ ih n t k => T.setN 40 v t n fun t => ih (Nat.succ n) t k) vs
noncomputable def getList (n : Nat) : T V → Nat → (List V → Bool) → Bool :=
  Nat.rec (fun _ _ k => k []) (fun _ ih t o k => optK (t.getN o) fun v => ih t (Nat.succ o) fun vs => k (v :: vs)) n
noncomputable def hK (h : H) : (B → B → T Blk → Bool) → Bool := H.rec (fun a b c k => k a b c) h
noncomputable def blkK (b : Blk) : (Nat → Nat → Nat → T V → Nat → Nat → Bool) → Bool := Blk.rec (fun a b c d e f k => k a b c d e f) b
noncomputable def frOk (fr : Nat) : Nat → Bool := Nat.rec (fun _ => true) (fun m _ => Nat.rec (fun _ => true) (fun k _ off => Nat.ble k off) m) fr
noncomputable def forceV (v : V) : (V → Bool) → Bool :=
  V.rec (motive_1 := fun _ => (V → Bool) → Bool) (motive_2 := fun _ => Unit)
   (fun k => k (.u))
   (fun x k => k (.b x))
   (fun kd n k => k (.i kd n))
   (fun kd m r hi k => k (.r kd m r hi))
   (fun len n k => k (.s len n))
   (fun k => k (.p0))
   (fun id g off fin k => k (.p id g off fin))
   (fun k => k (.l0))
   (fun id g off len fin cap k => k (.l id g off len fin cap))
   (fun cs _ k => k (.a cs))
   (fun cs _ k => k (.tu cs))
   (fun k => k (.f0))
   (fun fn cs _ k => k (.f fn cs))
   (fun k => k (.x0))
   (fun t v _ k => k (.x t v))
   (fun k => k (.m0))
   (fun id k => k (.m id))
   (fun k => k (.c0))
   (fun id k => k (.c id)) () (fun _ _ _ _ => ()) v
noncomputable def vB (v : V) : (Bool → Bool) → Bool :=
  V.rec (motive_1 := fun _ => (Bool → Bool) → Bool) (motive_2 := fun _ => Unit)
   (fun _ => false)
   (fun x k => k x)
   (fun _ _ _ => false)
   (fun _ _ _ _ _ => false)
   (fun _ _ _ => false)
   (fun _ => false)
   (fun _ _ _ _ _ => false)
   (fun _ => false)
   (fun _ _ _ _ _ _ _ => false)
   (fun _ _ _ => false)
   (fun _ _ _ => false)
   (fun _ => false)
   (fun _ _ _ _ => false)
   (fun _ => false)
   (fun _ _ _ _ => false)
   (fun _ => false)
   (fun _ _ => false)
   (fun _ => false)
   (fun _ _ => false) () (fun _ _ _ _ => ()) v
noncomputable def vI (v : V) : (IntKind → Int → Bool) → Bool :=
  V.rec (motive_1 := fun _ => (IntKind → Int → Bool) → Bool) (motive_2 := fun _ => Unit)
   (fun _ => false)
   (fun _ _ => false)
   (fun kd n k => k kd n)
   (fun _ _ _ _ _ => false)
   (fun _ _ _ => false)
   (fun _ => false)
   (fun _ _ _ _ _ => false)
   (fun _ => false)
   (fun _ _ _ _ _ _ _ => false)
   (fun _ _ _ => false)
   (fun _ _ _ => false)
   (fun _ => false)
   (fun _ _ _ _ => false)
   (fun _ => false)
   (fun _ _ _ _ => false)
   (fun _ => false)
   (fun _ _ => false)
   (fun _ => false)
   (fun _ _ => false) () (fun _ _ _ _ => ()) v
/-- a number, or what is known of one -/
noncomputable def vIR (v : V) : (IntKind → Int → Bool) → (IntKind → Nat → Nat → Nat → Bool) → Bool :=
  V.rec (motive_1 := fun _ => (IntKind → Int → Bool) → (IntKind → Nat → Nat → Nat → Bool) → Bool) (motive_2 := fun _ => Unit)
   (fun _ _ => false)
   (fun _ _ _ => false)
   (fun kd n k _ => k kd n)
   (fun kd m r hi _ q => q kd m r hi)
   (fun _ _ _ _ => false)
   (fun _ _ => false)
   (fun _ _ _ _ _ _ => false)
   (fun _ _ => false)
   (fun _ _ _ _ _ _ _ _ => false)
   (fun _ _ _ _ => false)
   (fun _ _ _ _ => false)
   (fun _ _ => false)
   (fun _ _ _ _ _ => false)
   (fun _ _ => false)
   (fun _ _ _ _ _ => false)
   (fun _ _ => false)
   (fun _ _ _ => false)
   (fun _ _ => false)
   (fun _ _ _ => false) () (fun _ _ _ _ => ()) v
noncomputable def vP (v : V) : (B → Nat → Nat → Nat → Bool) → Bool :=
  V.rec (motive_1 := fun _ => (B → Nat → Nat → Nat → Bool) → Bool) (motive_2 := fun _ => Unit)
   (fun _ => false)
   (fun _ _ => false)
   (fun _ _ _ => false)
   (fun _ _ _ _ _ => false)
   (fun _ _ _ => false)
   (fun _ => false)
   (fun id g off fin k => k id g off fin)
   (fun _ => false)
   (fun _ _ _ _ _ _ _ => false)
   (fun _ _ _ => false)
   (fun _ _ _ => false)
   (fun _ => false)
   (fun _ _ _ _ => false)
   (fun _ => false)
   (fun _ _ _ _ => false)
   (fun _ => false)
   (fun _ _ => false)
   (fun _ => false)
   (fun _ _ => false) () (fun _ _ _ _ => ()) v
noncomputable def vA (v : V) : (List V → Bool) → Bool :=
  V.rec (motive_1 := fun _ => (List V → Bool) → Bool) (motive_2 := fun _ => Unit)
   (fun _ => false)
   (fun _ _ => false)
   (fun _ _ _ => false)
   (fun _ _ _ _ _ => false)
   (fun _ _ _ => false)
   (fun _ => false)
   (fun _ _ _ _ _ => false)
   (fun _ => false)
   (fun _ _ _ _ _ _ _ => false)
   (fun cs _ k => k cs)
   (fun _ _ _ => false)
   (fun _ => false)
   (fun _ _ _ _ => false)
   (fun _ => false)
   (fun _ _ _ _ => false)
   (fun _ => false)
   (fun _ _ => false)
   (fun _ => false)
   (fun _ _ => false) () (fun _ _ _ _ => ()) v
noncomputable def vT (v : V) : (List V → Bool) → Bool :=
  V.rec (motive_1 := fun _ => (List V → Bool) → Bool) (motive_2 := fun _ => Unit)
   (fun _ => false)
   (fun _ _ => false)
   (fun _ _ _ => false)
   (fun _ _ _ _ _ => false)
   (fun _ _ _ => false)
   (fun _ => false)
   (fun _ _ _ _ _ => false)
   (fun _ => false)
   (fun _ _ _ _ _ _ _ => false)
   (fun _ _ _ => false)
   (fun cs _ k => k cs)
   (fun _ => false)
   (fun _ _ _ _ => false)
   (fun _ => false)
   (fun _ _ _ _ => false)
   (fun _ => false)
   (fun _ _ => false)
   (fun _ => false)
   (fun _ _ => false) () (fun _ _ _ _ => ()) v
noncomputable def vL (v : V) : (Unit → Bool) → (B → Nat → Nat → Nat → Nat → Option Nat → Bool) → Bool :=
  V.rec (motive_1 := fun _ => (Unit → Bool) → (B → Nat → Nat → Nat → Nat → Option Nat → Bool) → Bool) (motive_2 := fun _ => Unit)
   (fun _ _ => false)
   (fun _ _ _ => false)
   (fun _ _ _ _ => false)
   (fun _ _ _ _ _ _ => false)
   (fun _ _ _ _ => false)
   (fun _ _ => false)
   (fun _ _ _ _ _ _ => false)
   (fun z _ => z ())
   (fun id g off len fin cap _ k => k id g off len fin cap)
   (fun _ _ _ _ => false)
   (fun _ _ _ _ => false)
   (fun _ _ => false)
   (fun _ _ _ _ _ => false)
   (fun _ _ => false)
   (fun _ _ _ _ _ => false)
   (fun _ _ => false)
   (fun _ _ _ => false)
   (fun _ _ => false)
   (fun _ _ _ => false) () (fun _ _ _ _ => ()) v
noncomputable def vS (v : V) : (Nat → Nat → Bool) → Bool :=
  V.rec (motive_1 := fun _ => (Nat → Nat → Bool) → Bool) (motive_2 := fun _ => Unit)
   (fun _ => false)
   (fun _ _ => false)
   (fun _ _ _ => false)
   (fun _ _ _ _ _ => false)
   (fun len n k => k len n)
   (fun _ => false)
   (fun _ _ _ _ _ => false)
   (fun _ => false)
   (fun _ _ _ _ _ _ _ => false)
   (fun _ _ _ => false)
   (fun _ _ _ => false)
   (fun _ => false)
   (fun _ _ _ _ => false)
   (fun _ => false)
   (fun _ _ _ _ => false)
   (fun _ => false)
   (fun _ _ => false)
   (fun _ => false)
   (fun _ _ => false) () (fun _ _ _ _ => ()) v
noncomputable def vF (v : V) : (FuncId → List V → Bool) → Bool :=
  V.rec (motive_1 := fun _ => (FuncId → List V → Bool) → Bool) (motive_2 := fun _ => Unit)
   (fun _ => false)
   (fun _ _ => false)
   (fun _ _ _ => false)
   (fun _ _ _ _ _ => false)
   (fun _ _ _ => false)
   (fun _ => false)
   (fun _ _ _ _ _ => false)
   (fun _ => false)
   (fun _ _ _ _ _ _ _ => false)
   (fun _ _ _ => false)
   (fun _ _ _ => false)
   (fun _ => false)
   (fun fn cs _ k => k fn cs)
   (fun _ => false)
   (fun _ _ _ _ => false)
   (fun _ => false)
   (fun _ _ => false)
   (fun _ => false)
   (fun _ _ => false) () (fun _ _ _ _ => ()) v
noncomputable def cells (v : V) : List V :=
  V.rec (motive_1 := fun _ => V → List V) (motive_2 := fun _ => Unit)
   (fun w => [w])
   (fun _ w => [w])
   (fun _ _ w => [w])
   (fun _ _ _ _ w => [w])
   (fun _ _ w => [w])
   (fun w => [w])
   (fun _ _ _ _ w => [w])
   (fun w => [w])
   (fun _ _ _ _ _ _ w => [w])
   (fun cs _ _ => cs)
   (fun _ _ w => [w])
   (fun w => [w])
   (fun _ _ _ w => [w])
   (fun w => [w])
   (fun _ _ _ w => [w])
   (fun w => [w])
   (fun _ w => [w])
   (fun w => [w])
   (fun _ w => [w]) () (fun _ _ _ _ => ()) v v
/-- of one cell, and known -/
noncomputable def oneV (v : V) : Bool :=
  V.rec (motive_1 := fun _ => Bool) (motive_2 := fun _ => Unit)
   (false)
   (fun _ => true)
   (fun _ _ => true)
   (fun _ _ _ _ => true)
   (fun _ _ => true)
   (true)
   (fun _ _ _ _ => true)
   (true)
   (fun _ _ _ _ _ _ => true)
   (fun _ _ => false)
   (fun _ _ => false)
   (true)
   (fun _ _ _ => true)
   (true)
   (fun _ _ _ => true)
   (true)
   (fun _ => true)
   (true)
   (fun _ => true) () (fun _ _ _ _ => ()) v
noncomputable def nilK (cs : List V) : (Bool → Bool) → Bool := List.rec (fun k => k false) (fun _ _ _ _ => false) cs
/-- what a guard asks: the bool, or that the operation was left out -/
noncomputable def vG (v : V) : Bool → (Bool → Bool) → Bool :=
  V.rec (motive_1 := fun _ => Bool → (Bool → Bool) → Bool) (motive_2 := fun _ => Unit)
   (fun _ _ => false)
   (fun x w k => k (xor (xor x w) true))
   (fun _ _ _ _ => false)
   (fun _ _ _ _ _ _ => false)
   (fun _ _ _ _ => false)
   (fun _ _ => false)
   (fun _ _ _ _ _ _ => false)
   (fun _ _ => false)
   (fun _ _ _ _ _ _ _ _ => false)
   (fun _ _ _ _ => false)
   (fun cs _ _ k => nilK cs k)
   (fun _ _ => false)
   (fun _ _ _ _ _ => false)
   (fun _ _ => false)
   (fun _ _ _ _ _ => false)
   (fun _ _ => false)
   (fun _ _ _ => false)
   (fun _ _ => false)
   (fun _ _ _ => false) () (fun _ _ _ _ => ()) v
noncomputable def knownV (v : V) : Bool :=
  V.rec (motive_1 := fun _ => Bool) (motive_2 := fun _ => Unit)
   (false)
   (fun _ => true)
   (fun _ _ => true)
   (fun _ _ _ _ => true)
   (fun _ _ => true)
   (true)
   (fun _ _ _ _ => true)
   (true)
   (fun _ _ _ _ _ _ => true)
   (fun _ _ => true)
   (fun _ _ => true)
   (true)
   (fun _ _ _ => true)
   (true)
   (fun _ _ _ => true)
   (true)
   (fun _ => true)
   (true)
   (fun _ => true) () (fun _ _ _ _ => ()) v
noncomputable def allOne (vs : List V) : Bool := List.rec true (fun v _ ih => Bool.rec false ih (oneV v)) vs
noncomputable def alloc (el : Nat) (cs : List V) (h : H) (k : B → H → Bool) : Bool :=
  hK h fun next floor heap => fN cs.length fun sz => setList cs 0 .o fun t => T.setK next ⟨0, 0, sz, t, el, 0⟩ heap fun heap => B.incK next fun next' => k next ⟨next', floor, heap⟩
noncomputable def loadN (h : H) (id : B) (g off fin n : Nat) (k : List V → Bool) : Bool :=
  hK h fun _ _ heap => optK (heap.get id) fun blk => blkK blk fun _ min _ cells _ _ => ifK (Nat.ble min g) fun _ => ifK (Nat.ble (Nat.add off n) fin) fun _ => getList n cells off k
noncomputable def load1 (h : H) (id : B) (g off fin : Nat) (k : V → Bool) : Bool :=
  hK h fun _ _ heap => optK (heap.get id) fun blk => blkK blk fun _ min _ cells _ _ => ifK (Nat.ble min g) fun _ => ifK (Nat.ble (Nat.succ off) fin) fun _ => optK (cells.getN off) fun v => forceV v k
noncomputable def store (h : H) (id : B) (g off fin : Nat) (vs : List V) (k : H → Bool) : Bool :=
  hK h fun next floor heap => optK (heap.get id) fun blk => blkK blk fun cur min size cells el fr =>
    ifK (Nat.beq cur g) fun _ => ifK (Nat.ble min cur) fun _ => ifK (B.geB floor id) fun _ => ifK (Nat.ble (Nat.add off vs.length) fin) fun _ => ifK (allOne vs) fun _ => ifK (frOk fr off) fun _ =>
      setList vs off cells fun t => T.setK id ⟨cur, cur, size, t, el, fr⟩ heap fun heap => k ⟨next, floor, heap⟩
noncomputable def vPN (v : V) : (Bool → Bool) → Bool :=
  V.rec (motive_1 := fun _ => (Bool → Bool) → Bool) (motive_2 := fun _ => Unit)
   (fun _ => false)
   (fun _ _ => false)
   (fun _ _ _ => false)
   (fun _ _ _ _ _ => false)
   (fun _ _ _ => false)
   (fun k => k true)
   (fun _ _ _ _ k => k false)
   (fun _ => false)
   (fun _ _ _ _ _ _ _ => false)
   (fun _ _ _ => false)
   (fun _ _ _ => false)
   (fun _ => false)
   (fun _ _ _ _ => false)
   (fun _ => false)
   (fun _ _ _ _ => false)
   (fun _ => false)
   (fun _ _ => false)
   (fun _ => false)
   (fun _ _ => false) () (fun _ _ _ _ => ()) v
noncomputable def vLN (v : V) (k : Bool → Bool) : Bool := vL v (fun _ => k true) (fun _ _ _ _ _ _ => k false)
noncomputable def forceI (n : Int) : (Int → Bool) → Bool :=
  Int.rec (fun m k => fN m fun m => k (.ofNat m)) (fun m k => fN m fun m => k (.negSucc m)) n
noncomputable def wrapB (b : Bool) : IntKind → Nat → (V → Bool) → Bool :=
  Bool.rec (fun kd m k => forceI (kd.wrap (.ofNat m)) fun n => k (.i kd n)) (fun kd m k => fN m fun m => k (.i kd (.ofNat m))) b
noncomputable def wrapF (n : Int) : IntKind → Nat → (V → Bool) → Bool :=
  Int.rec (fun m kd mx k => wrapB (Nat.ble m mx) kd m k) (fun m kd _ k => forceI (kd.wrap (.negSucc m)) fun n => k (.i kd n)) n
def ltI : Int → Int → Bool
  | .ofNat a, .ofNat b => Nat.ble (Nat.succ a) b
  | .ofNat _, .negSucc _ => false
  | .negSucc _, .ofNat _ => true
  | .negSucc a, .negSucc b => Nat.ble (Nat.succ b) a
def eqI : Int → Int → Bool
  | .ofNat a, .ofNat b => Nat.beq a b
  | .negSucc a, .negSucc b => Nat.beq a b
  | _, _ => false
def mxOf : IntKind → Nat
  | .i8 => 127 | .i16 => 32767 | .i32 => 2147483647 | .i64 => 9223372036854775807
  | .u8 => 255 | .u16 => 65535 | .u32 => 4294967295 | .u64 => 18446744073709551615
def kdEq : IntKind → IntKind → Bool
  | .i8, .i8 => true | .i16, .i16 => true | .i32, .i32 => true | .i64, .i64 => true
  | .u8, .u8 => true | .u16, .u16 => true | .u32, .u32 => true | .u64, .u64 => true
  | _, _ => false
/-- strings, packed: is the first less -/
def ltS (la na lb nb : Nat) : Bool := match Nat.ble la lb with
  | true => Nat.ble (Nat.succ (Nat.mul na (Nat.pow 256 (Nat.sub lb la)))) nb || (Nat.beq (Nat.mul na (Nat.pow 256 (Nat.sub lb la))) nb && Nat.ble (Nat.succ la) lb)
  | false => Nat.ble (Nat.succ na) (Nat.mul nb (Nat.pow 256 (Nat.sub la lb)))
def chanC : Option Nat → V
  | none => .c0
  | some _ => .u
def ofConst : Value → V
  | .bool x => .b x
  | .int k n => .i k n
  | .pointer none => .p0
  | .slice none 0 0 => .l0
  | .string bs => .s bs.size (bs.data.toList.foldl (fun a c => 256 * a + c.toNat) 0)
  | .nilFunc => .f0
  | .nilIface => .x0
  | .map none => .m0
  | .chan r => chanC r
  | _ => .u
inductive O where
  | t (s : Sl)
  | c (v : V)
noncomputable def oK (o : O) : F → (V → Bool) → Bool := O.rec (fun s t k => forceV (sGet s t) k) (fun v _ k => k v) o
/-- where what takes it looks at it at once -/
noncomputable def oE (o : O) : F → (V → Bool) → Bool := O.rec (fun s t k => k (sGet s t)) (fun v _ k => k v) o
noncomputable def compO : Operand → O
  | .tmp k => match Nat.ble (Nat.succ k) 512 with
    | true => .t (slOf k)
    | false => .c .u
  | .const v => .c (ofConst v)
  | .func f => .c (.f f [])
  | .global _ => .c .u
noncomputable def app {α : Type} (a : List α) : List α → List α := List.rec (fun b => b) (fun x _ ih b => x :: ih b) a
noncomputable def putAt (cs : List V) (off : Nat) (vs : List V) : List V := app (cs.take off) (app vs (cs.drop (off + vs.length)))
noncomputable def repL (z : List V) (n : Nat) : List V := Nat.rec [] (fun _ ih => app z ih) n
structure Pt where
  off : Nat
  size : Nat
  o : O
noncomputable def fillP (off size : Nat) (ih : F → List V → (List V → Bool) → Bool) (t : F) (cs : List V) (k : List V → Bool) (v : V) : Bool :=
  ifK (knownV v) fun _ => ifK (Nat.beq (cells v).length size) fun _ => ifK (Nat.ble (Nat.add off size) cs.length) fun _ => ih t (putAt cs off (cells v)) k
noncomputable def fillL (ps : List Pt) : F → List V → (List V → Bool) → Bool :=
  List.rec (fun _ cs k => k cs) (fun p _ ih t cs k => Pt.rec (fun off size o ih t cs k => oK o t (fillP off size ih t cs k)) p ih t cs k) ps
noncomputable def evalsK (os : List O) : F → (List V → Bool) → Bool := List.rec (fun _ k => k []) (fun o _ ih t k => oK o t fun v => ih t fun vs => k (v :: vs)) os
abbrev CallF := FuncId → List V → H → (V → H → Bool) → Bool
abbrev Run := CallF → F → H → (V → H → Bool) → Bool
noncomputable def doMove (o : O) : Run := fun _ t h k => oK o t fun v => k v h
noncomputable def doPick (c a b : O) : Run := fun _ t h k => oE c t fun c => vB c fun c => boolK c (fun _ => oK a t fun v => k v h) (fun _ => oK b t fun v => k v h)
noncomputable def doBox (el : Nat) (o : O) : Run := fun _ t h k => oK o t fun v => ifK (knownV v) fun _ => alloc el (cells v) h fun id h => k (.p id 0 0 (cells v).length) h
noncomputable def doAlloc (el : Nat) (z : List V) : Run := fun _ _ h k => alloc el z h fun id h => k (.p id 0 0 z.length) h
noncomputable def doLoadA (size : Nat) (o : O) : Run := fun _ t h k => oE o t fun v => vP v fun id g off fin => loadN h id g off fin size fun vs => k (.a vs) h
noncomputable def doLoad (o : O) : Run := fun _ t h k => oE o t fun v => vP v fun id g off fin => load1 h id g off fin fun v => k v h
noncomputable def doStore (size : Nat) (o x : O) : Run := fun _ t h k => oE o t fun v => vP v fun id g off fin => oK x t fun x => ifK (Nat.beq (cells x).length size) fun _ => store h id g off fin (cells x) fun h => k (.tu []) h
noncomputable def doFieldAddr (d : Nat) (o : O) : Run := fun _ t h k => oE o t fun v => vP v fun id g off fin => fN (Nat.add off d) fun off => k (.p id g off fin) h
noncomputable def doFieldA (d size : Nat) (o : O) : Run := fun _ t h k => oE o t fun v => vA v fun cs => k (.a ((cs.drop d).take size)) h
noncomputable def doField (d : Nat) (o : O) : Run := fun _ t h k => oE o t fun v => vA v fun cs => optK (cs[d]?) fun v => forceV v fun v => k v h
noncomputable def doIndexAddr (size : Nat) (o x : O) : Run := fun _ t h k => oE o t fun v => vL v (fun _ => false) fun id g off len fin _ => oE x t fun x => vI x fun _ n => natK n fun n => ifK (Nat.ble (Nat.succ n) len) fun _ => fN (Nat.add off (Nat.mul n size)) fun off => k (.p id g off fin) h
noncomputable def doIndexAddrArr (len size : Nat) (o x : O) : Run := fun _ t h k => oE o t fun v => vP v fun id g off fin => oE x t fun x => vI x fun _ n => natK n fun n => ifK (Nat.ble (Nat.succ n) len) fun _ => fN (Nat.add off (Nat.mul n size)) fun off => k (.p id g off fin) h
noncomputable def doBuild (z : List V) (ps : List Pt) : Run := fun _ t h k => fillL ps t z fun cs => k (.a cs) h
noncomputable def doBuildSlice (el len : Nat) (z : List V) (ps : List Pt) : Run := fun _ t h k => fillL ps t z fun cs => alloc el cs h fun id h => k (.l id 0 0 len cs.length (some len)) h
noncomputable def doMakeSlice (el : Nat) (z : List V) (l c : O) : Run := fun _ t h k => oE l t fun l => vI l fun _ l => natK l fun l => oE c t fun c => vI c fun _ c => natK c fun c => ifK (Nat.ble l c) fun _ => ifK (Nat.ble c 1048576) fun _ => alloc el (repL z c) h fun id h => k (.l id 0 0 l (Nat.mul c z.length) (some c)) h
abbrev BinF := IntKind → Int → Int → (V → Bool) → Bool
noncomputable def bin2 (f : BinF) (x y : O) : Run := fun _ t h k => oE x t fun x => vI x fun kd a => oE y t fun y => vI y fun kd' b => ifK (kdEq kd kd') fun _ => f kd a b fun v => k v h
noncomputable def fB (x : Bool) : (V → Bool) → Bool := Bool.rec (fun k => k (.b false)) (fun k => k (.b true)) x
noncomputable def fAdd : BinF := fun kd a b k => wrapF (Int.add a b) kd (mxOf kd) k
noncomputable def fSub : BinF := fun kd a b k => wrapF (Int.sub a b) kd (mxOf kd) k
noncomputable def fMul : BinF := fun kd a b k => wrapF (Int.mul a b) kd (mxOf kd) k
noncomputable def fLss : BinF := fun _ a b k => fB (ltI a b) k
noncomputable def fGtr : BinF := fun _ a b k => fB (ltI b a) k
noncomputable def fLeq : BinF := fun _ a b k => fB (!ltI b a) k
noncomputable def fGeq : BinF := fun _ a b k => fB (!ltI a b) k
noncomputable def fEql : BinF := fun _ a b k => fB (eqI a b) k
noncomputable def fNeq : BinF := fun _ a b k => fB (!eqI a b) k
noncomputable def fQuo : BinF := fun kd a b k => ifK (!eqI b 0) fun _ => wrapF (Int.tdiv a b) kd (mxOf kd) k
noncomputable def fRem : BinF := fun kd a b k => ifK (!eqI b 0) fun _ => forceI (Int.tmod a b) fun n => k (.i kd n)
noncomputable def fAnd : BinF := fun kd a b k => natK a fun a => natK b fun b => ifK (Nat.ble a (mxOf kd)) fun _ => ifK (Nat.ble b (mxOf kd)) fun _ => fN (Nat.land a b) fun n => k (.i kd (.ofNat n))
noncomputable def fOr : BinF := fun kd a b k => natK a fun a => natK b fun b => ifK (Nat.ble a (mxOf kd)) fun _ => ifK (Nat.ble b (mxOf kd)) fun _ => fN (Nat.lor a b) fun n => k (.i kd (.ofNat n))
noncomputable def fXor : BinF := fun kd a b k => natK a fun a => natK b fun b => ifK (Nat.ble a (mxOf kd)) fun _ => ifK (Nat.ble b (mxOf kd)) fun _ => fN (Nat.xor a b) fun n => k (.i kd (.ofNat n))
noncomputable def fAnt : BinF := fun kd a b k => natK a fun a => natK b fun b => ifK (Nat.ble a (mxOf kd)) fun _ => ifK (Nat.ble b (mxOf kd)) fun _ => fN (Nat.xor a (Nat.land a b)) fun n => k (.i kd (.ofNat n))
noncomputable def fNo : BinF := fun _ _ _ _ => false
noncomputable def fOf : BinOp → BinF
  | .add => fAdd | .sub => fSub | .mul => fMul | .lss => fLss | .gtr => fGtr | .leq => fLeq | .geq => fGeq | .eql => fEql | .neq => fNeq
  | .quo => fQuo | .rem => fRem | .and => fAnd | .or => fOr | .xor => fXor | .andNot => fAnt | _ => fNo
noncomputable def shlF (kd : IntKind) (a : Int) (n : Nat) (k : V → Bool) : Bool := wrapF (Int.mul a (.ofNat (Nat.pow 2 n))) kd (mxOf kd) k
noncomputable def shrF (kd : IntKind) (a : Int) (n : Nat) (k : V → Bool) : Bool := forceI (Int.fdiv a (.ofNat (Nat.pow 2 n))) fun n => k (.i kd n)
noncomputable def doShift (f : IntKind → Int → Nat → (V → Bool) → Bool) (x y : O) : Run := fun _ t h k => oE x t fun x => vI x fun kd a => oE y t fun y => vI y fun _ b => natK b fun n => f kd a (min n kd.bits) fun v => k v h
noncomputable def doBool (ne : Bool) (x y : O) : Run := fun _ t h k => oE x t fun x => vB x fun a => oE y t fun y => vB y fun b => fB (xor ne (xor (xor a b) true)) fun v => k v h
noncomputable def doNil (f : V → (Bool → Bool) → Bool) (ne : Bool) (x y : O) : Run := fun _ t h k => oE x t fun x => f x fun a => oE y t fun y => f y fun b => ifK (a || b) fun _ => fB (xor ne (a && b)) fun v => k v h
noncomputable def doNot (x : O) : Run := fun _ t h k => oE x t fun x => vB x fun a => fB (!a) fun v => k v h
noncomputable def doNeg (x : O) : Run := fun _ t h k => oE x t fun x => vI x fun kd n => wrapF (Int.neg n) kd (mxOf kd) fun v => k v h
noncomputable def doConv (kd : IntKind) (x : O) : Run := fun _ t h k => oE x t fun x => vIR x (fun _ n => wrapF n kd (mxOf kd) fun v => k v h) fun _ m r hi => ifK (Nat.ble hi (mxOf kd)) fun _ => k (.r kd m r hi) h
noncomputable def remR (kd' : IntKind) (b : Int) (k : V → Bool) (kd : IntKind) (m r : Nat) : Bool :=
  ifK (kdEq kd kd') fun _ => natK b fun c => ifK (Nat.ble 1 c) fun _ => ifK (Nat.beq (Nat.mod m c) 0) fun _ => fN (Nat.mod r c) fun n => k (.i kd (.ofNat n))
noncomputable def doRem (x y : O) : Run := fun _ t h k => oK x t fun x => oE y t fun y => vI y fun kd' b => vIR x (fun kd a => ifK (kdEq kd kd') fun _ => fRem kd a b fun v => k v h) fun kd m r _ => remR kd' b (fun v => k v h) kd m r
noncomputable def doExtract (j : Nat) (x : O) : Run := fun _ t h k => oE x t fun x => vT x fun vs => optK (vs[j]?) fun v => forceV v fun v => k v h
noncomputable def doLen (x : O) : Run := fun _ t h k => oE x t fun x => vL x (fun _ => k (.i .i64 (.ofNat 0)) h) fun _ _ _ n _ _ => k (.i .i64 (.ofNat n)) h
noncomputable def doLenS (x : O) : Run := fun _ t h k => oE x t fun x => vS x fun n _ => k (.i .i64 (.ofNat n)) h
noncomputable def doMin (x y : O) : Run := fun _ t h k => oE x t fun x => vI x fun kd a => oE y t fun y => vI y fun kd' b => ifK (kdEq kd kd') fun _ => boolK (ltI b a) (fun _ => k (.i kd b) h) (fun _ => k (.i kd a) h)
noncomputable def doMax (x y : O) : Run := fun _ t h k => oE x t fun x => vI x fun kd a => oE y t fun y => vI y fun kd' b => ifK (kdEq kd kd') fun _ => boolK (ltI a b) (fun _ => k (.i kd b) h) (fun _ => k (.i kd a) h)
noncomputable def doMMS (f : Nat → Nat → Nat → Nat → Bool) (x y : O) : Run := fun _ t h k => oE x t fun x => vS x fun la na => oE y t fun y => vS y fun lb nb => boolK (f la na lb nb) (fun _ => k (.s la na) h) (fun _ => k (.s lb nb) h)
noncomputable def doConcat (x y : O) : Run := fun _ t h k => oE x t fun x => vS x fun la na => oE y t fun y => vS y fun lb nb => ifK (Nat.ble (Nat.add la lb) 1048576) fun _ => fN (Nat.add la lb) fun l => fN (Nat.add (Nat.mul na (Nat.pow 256 lb)) nb) fun n => k (.s l n) h
def eqS (la na lb nb : Nat) : Bool := Nat.beq la lb && Nat.beq na nb
noncomputable def doSCmp (f : Nat → Nat → Nat → Nat → Bool) (x y : O) : Run := fun _ t h k => oE x t fun x => vS x fun la na => oE y t fun y => vS y fun lb nb => fB (f la na lb nb) fun v => k v h
/-- two texts compared: -1, 0, 1 -/
noncomputable def fC1 (l : Bool) : (V → Bool) → Bool := Bool.rec (fun k => k (.i .i64 (.ofNat 1))) (fun k => k (.i .i64 (.negSucc 0))) l
noncomputable def fC (e : Bool) : Bool → (V → Bool) → Bool := Bool.rec fC1 (fun _ k => k (.i .i64 (.ofNat 0))) e
noncomputable def doCmpS (x y : O) : Run := fun _ t h k => oE x t fun x => vS x fun la na => oE y t fun y => vS y fun lb nb => fC (eqS la na lb nb) (ltS la na lb nb) fun v => k v h
/-- what a struct's cells are, if it can be compared cell by cell -/
inductive KD where | i | b | s
noncomputable def eqCell (kd : KD) : V → V → (Bool → Bool) → Bool :=
  KD.rec (fun a b k => vI a fun ka m => vI b fun kb n => ifK (kdEq ka kb) fun _ => boolK (eqI m n) (fun _ => k true) (fun _ => k false))
    (fun a b k => vB a fun x => vB b fun y => boolK (xor (xor x y) true) (fun _ => k true) (fun _ => k false))
    (fun a b k => vS a fun la na => vS b fun lb nb => boolK (eqS la na lb nb) (fun _ => k true) (fun _ => k false)) kd
noncomputable def eqTop (f : V → V → (Bool → Bool) → Bool) (ih : List V → List V → (Bool → Bool) → Bool) (xs ys : List V) (k : Bool → Bool) : Bool :=
  List.rec false (fun x xs _ => List.rec false (fun y ys _ => f x y fun r => boolK r (fun _ => ih xs ys k) (fun _ => k false)) ys) xs
noncomputable def eqL (ks : List KD) : List V → List V → (Bool → Bool) → Bool :=
  List.rec (fun _ _ k => k true) (fun kd _ ih => eqTop (eqCell kd) ih) ks
noncomputable def doSEq (ks : List KD) (ne : Bool) (x y : O) : Run := fun _ t h k => oE x t fun x => vA x fun xs => oE y t fun y => vA y fun ys => eqL ks xs ys fun r => fB (xor ne r) fun v => k v h
noncomputable def doAIndex (len size : Nat) (x y : O) : Run := fun _ t h k => oE x t fun x => vA x fun cs => oE y t fun y => vI y fun _ i => natK i fun i => ifK (Nat.ble (Nat.succ i) len) fun _ => optK (cs[Nat.mul i size]?) fun v => forceV v fun v => k v h
noncomputable def doSIndex (x y : O) : Run := fun _ t h k => oE x t fun x => vS x fun l n => oE y t fun y => vI y fun _ i => natK i fun i => ifK (Nat.ble (Nat.succ i) l) fun _ => fN (Nat.mod (Nat.div n (Nat.pow 256 (Nat.sub (Nat.sub l 1) i))) 256) fun c => k (.i .u8 (.ofNat c)) h
noncomputable def boundK (o : Option O) (d : Nat) (t : F) (k : Nat → Bool) : Bool := Option.rec (fun d _ k => k d) (fun o _ t k => oE o t fun v => vI v fun _ n => natK n k) o d t k
noncomputable def doSSlice (x : O) (lo hi : Option O) : Run := fun _ t h k => oE x t fun x => vS x fun l n => boundK lo 0 t fun a => boundK hi l t fun b => ifK (Nat.ble a b) fun _ => ifK (Nat.ble b l) fun _ =>
  fN (Nat.sub b a) fun l' => fN (Nat.mod (Nat.div n (Nat.pow 256 (Nat.sub l b))) (Nat.pow 256 (Nat.sub b a))) fun n' => k (.s l' n') h
/-- capacities from here on: the capacity isn't known, though it is known where the slice lies, be it empty -/
noncomputable def flagB (c : Nat) : Bool := Nat.ble 18446744073709551616 c
noncomputable def selB (b c : Bool) : Bool := Bool.rec c true b
noncomputable def selN (b : Bool) (m c : Nat) : Nat := Bool.rec c m b
noncomputable def capF (l : Nat) : Option Nat := Nat.rec (some 18446744073709551616) (fun _ _ => none) l
/-- of an empty slice the size of its elements is kept, too -/
noncomputable def capZ (z l : Nat) : Option Nat := Nat.rec (some (Nat.add 18446744073709551615 z)) (fun _ _ => none) l
noncomputable def capS (z b len : Nat) : Option Nat := Nat.rec (Nat.rec none (fun _ _ => some (Nat.add 18446744073709551615 z)) len) (fun _ _ => none) b
noncomputable def limOk (cap : Option Nat) : Bool := Option.rec true (fun c => !flagB c) cap
noncomputable def sliceC (size : Nat) (id : B) (g off len fin c a b : Nat) (k : V → Bool) : Bool := ifK (Nat.ble (Nat.succ c) 18446744073709551616) fun _ => ifK (Nat.ble b c) fun _ =>
  boolK (Nat.beq a c) (fun _ => k (.l id g off 0 fin (some 0))) (fun _ => fN (Nat.sub b a) fun l' => fN (Nat.sub c a) fun c' => fN (Nat.add off (Nat.mul a size)) fun off' => k (.l id g off' l' fin (some c')))
noncomputable def sliceN (size : Nat) (id : B) (g off len fin a b : Nat) (k : V → Bool) : Bool := ifK (Nat.ble b len) fun _ => ifK (Nat.beq fin (Nat.add off (Nat.mul len size))) fun _ =>
  fN (Nat.sub b a) fun l' => fN (Nat.add off (Nat.mul a size)) fun off' => fN (Nat.add off (Nat.mul b size)) fun fin' => k (.l id g off' l' fin' (capS size b len))
noncomputable def doSlice (size : Nat) (x : O) (lo hi : Option O) : Run := fun _ t h k => oE x t fun x => vL x (fun _ => boundK lo 0 t fun a => boundK hi 0 t fun b => ifK (Nat.beq a 0) fun _ => ifK (Nat.beq b 0) fun _ => k .l0 h)
  fun id g off len fin cap => boundK lo 0 t fun a => boundK hi len t fun b => ifK (Nat.ble a b) fun _ =>
    Option.rec (fun id g off len fin a b h k => sliceN size id g off len fin a b fun v => k v h) (fun c id g off len fin a b h k => boolK (flagB c) (fun _ => ifK (Nat.beq b 0) fun _ => k (.l id g off 0 off (some c)) h) (fun _ => sliceC size id g off len fin c a b fun v => k v h)) cap id g off len fin a b h k
noncomputable def slice3K (size : Nat) (id : B) (g off len fin lim m a b : Nat) (k : V → Bool) : Bool := ifK (Nat.ble m lim) fun _ => ifK (Nat.ble a b) fun _ => sliceC size id g off len fin m a b k
noncomputable def doSlice3 (size : Nat) (x : O) (lo : Option O) (hi mx : O) : Run := fun _ t h k => oE x t fun x => vL x (fun _ => boundK lo 0 t fun a => boundK (some hi) 0 t fun b => boundK (some mx) 0 t fun m => ifK (Nat.beq a 0) fun _ => ifK (Nat.beq b 0) fun _ => ifK (Nat.beq m 0) fun _ => k .l0 h)
  fun id g off len fin cap => boundK lo 0 t fun a => boundK (some hi) 0 t fun b => boundK (some mx) 0 t fun m => ifK (limOk cap) fun _ => slice3K size id g off len fin (cap.getD len) m a b fun v => k v h
/-- of an array that is at a pointer -/
noncomputable def doSliceArr (n size : Nat) (x : O) (lo hi : Option O) : Run := fun _ t h k => oE x t fun x => vP x fun id g off fin => boundK lo 0 t fun a => boundK hi n t fun b => ifK (Nat.ble a b) fun _ => sliceC size id g off n fin n a b fun v => k v h
noncomputable def byteK (v : V) (k : Nat → Bool) : Bool := vI v fun kd n => ifK (kdEq kd .u8) fun _ => natK n fun n => ifK (Nat.ble n 255) fun _ => k n
noncomputable def packK (vs : List V) : Nat → (Nat → Bool) → Bool := List.rec (fun acc k => fN acc k) (fun v _ ih acc k => byteK v fun c => fN (Nat.add (Nat.mul acc 256) c) fun acc => ih acc k) vs
/-- of nothing, whatever there is of the block -/
noncomputable def loadZ (len n : Nat) (h : H) (id : B) (g off fin : Nat) (k : List V → Bool) : Bool := natC len (fun _ => k []) fun _ => loadN h id g off fin n k
noncomputable def doMoveS (x : O) : Run := fun _ t h k => oE x t fun x => vS x fun l n => k (.s l n) h
noncomputable def doB2S (x : O) : Run := fun _ t h k => oE x t fun x => vL x (fun _ => k (.s 0 0) h) fun id g off len fin _ => loadZ len len h id g off fin fun vs => packK vs 0 fun n => k (.s len n) h
noncomputable def doCall (f : FuncId) (args : List O) : Run := fun cf t h k => evalsK args t fun vs => cf f vs h k
/-- a function value with what it captured; a call of one -/
noncomputable def doMkF (f : FuncId) (cap : List O) : Run := fun _ t h k => evalsK cap t fun cs => k (.f f cs) h
noncomputable def doCallV (x : O) (args : List O) : Run := fun cf t h k => oE x t fun x => evalsK args t fun vs => vF x fun f cs => cf f (app vs cs) h k
noncomputable def newCells (size : Nat) (x : V) (h : H) (k : Nat → List V → Bool) : Bool := vL x (fun _ => k 0 []) fun id g off len fin _ => natC len (fun _ => k 0 []) fun _ => loadN h id g off fin (Nat.mul len size) fun vs => k len vs
noncomputable def appNil (el n : Nat) (vs : List V) (h : H) (k : V → H → Bool) : Bool := natC n (fun _ => k .l0 h) (fun n => ifK (Nat.ble n 1048576) fun _ => alloc el vs h fun id h => k (.l id 0 0 n vs.length none) h)
noncomputable def appIn (id : B) (g off len fin c size n : Nat) (vs : List V) (h : H) (k : V → H → Bool) : Bool :=
  natC n (fun _ => k (.l id g off len fin (some c)) h) fun n => store h id g (Nat.add off (Nat.mul len size)) fin vs fun h => fN (Nat.add len n) fun l' => k (.l id g off l' fin (some c)) h
noncomputable def appOut (el : Nat) (id : B) (g off len fin size n : Nat) (vs : List V) (h : H) (k : V → H → Bool) : Bool :=
  ifK (Nat.ble (Nat.add len n) 1048576) fun _ => loadZ len (Nat.mul len size) h id g off fin fun old => alloc el (app old vs) h fun id h => fN (Nat.add len n) fun l' => fN (Nat.mul l' size) fun fin' => k (.l id 0 0 l' fin' none) h
noncomputable def appGrow (z : Bool) (el0 : Nat) (id : B) (g off len fin size n : Nat) (vs : List V) (h : H) (k : V → H → Bool) : Bool :=
  hK h fun next floor heap => optK (heap.get id) fun blk => blkK blk fun cur min sz cells el fr => fN (Nat.add off (Nat.mul len size)) fun p =>
    ifK (Nat.ble min g) fun _ => ifK (B.geB floor id) fun _ => ifK (Nat.ble p sz) fun _ => ifK (Nat.beq fin p) fun _ => ifK z fun _ => ifK (Nat.ble (Nat.add len n) 1048576) fun _ => ifK (allOne vs) fun _ => ifK (frOk fr p) fun _ => ifK (Nat.beq el el0) fun _ =>
      fN (Nat.succ cur) fun cur' => fN (selN (Nat.beq p sz) min cur') fun min' => fN (Nat.add p (Nat.mul n size)) fun sz' => fN (Nat.add len n) fun l' =>
       setList vs p cells fun t => T.setK id ⟨cur', min', sz', t, el, fr⟩ heap fun heap => k (.l id cur' off l' sz' (capZ size l')) ⟨next, floor, heap⟩
noncomputable def append2 (el size : Nat) (s : V) (n : Nat) (vs : List V) (h : H) (k : V → H → Bool) : Bool :=
  vL s (fun _ => appNil el n vs h k) fun id g off len fin cap =>
   Option.rec (fun id g off len fin size n vs h k => appGrow (Nat.ble 1 len) el id g off len fin size n vs h k)
     (fun c id g off len fin size n vs h k => boolK (flagB c) (fun _ => appGrow (selB (Nat.ble 1 len) (Nat.beq c (Nat.add 18446744073709551615 size))) el id g off len fin size n vs h k) (fun _ => boolK (Nat.ble (Nat.add len n) c) (fun _ => appIn id g off len fin c size n vs h k) (fun _ => appOut el id g off len fin size n vs h k))) cap id g off len fin size n vs h k
noncomputable def doAppend (el size : Nat) (s x : O) : Run := fun _ t h k => oK x t fun x => newCells size x h fun n vs => oK s t fun s => append2 el size s n vs h k
noncomputable def unpK (len : Nat) : Nat → List V → (List V → Bool) → Bool :=
  Nat.rec (fun _ acc k => k acc) (fun _ ih n acc k => fN (Nat.mod n 256) fun c => fN (Nat.div n 256) fun n => ih n (.i .u8 (.ofNat c) :: acc) k) len
noncomputable def newCellsS (x : V) (k : Nat → List V → Bool) : Bool := vS x fun l n => unpK l n [] fun vs => k l vs
noncomputable def doAppendS (el : Nat) (s x : O) : Run := fun _ t h k => oK x t fun x => newCellsS x fun n vs => oK s t fun s => append2 el 1 s n vs h k
noncomputable def copyTo (size : Nat) (y : V) (h : H) (k : V → H → Bool) (id : B) (g off len fin : Nat) : Bool :=
  vL y (fun _ => k (.i .i64 (.ofNat 0)) h) fun id' g' off' len' fin' _ => natC (Nat.min len' len) (fun _ => k (.i .i64 (.ofNat 0)) h) fun n =>
    loadN h id' g' off' fin' (Nat.mul n size) fun vs => store h id g off fin vs fun h => k (.i .i64 (.ofNat n)) h
noncomputable def copy0 (x : V) (k : Bool) : Bool := vL x (fun _ => k) (fun _ _ _ _ _ _ => k)
noncomputable def doCopy (size : Nat) (x y : O) : Run := fun _ t h k => oK x t fun x => oK y t fun y => vL x (fun _ => copy0 y (k (.i .i64 (.ofNat 0)) h)) fun id g off len fin _ => copyTo size y h k id g off len fin
/-- clear(s): each element is the zero -/
noncomputable def doClear (z : List V) (x : O) : Run := fun _ t h k => oK x t fun x => vL x (fun _ => k (.tu []) h) fun id g off len fin _ => natC len (fun _ => k (.tu []) h) fun n => store h id g off fin (repL z n) fun h => k (.tu []) h
/-- the whole of a text, into bytes that are just so many -/
noncomputable def copyToS (y : V) (h : H) (k : V → H → Bool) (id : B) (g off len fin : Nat) : Bool :=
  newCellsS y fun n vs => ifK (Nat.beq n len) fun _ => store h id g off fin vs fun h => k (.i .i64 (.ofNat n)) h
noncomputable def doCopyS (x y : O) : Run := fun _ t h k => oK x t fun x => oK y t fun y => vL x (fun _ => false) fun id g off len fin _ => natC len (fun _ => false) fun _ => copyToS y h k id g off len fin
noncomputable def noRun : Run := fun _ _ _ _ => false
noncomputable def vPZ (v : V) : (Unit → Bool) → (B → Nat → Nat → Nat → Bool) → Bool :=
  V.rec (motive_1 := fun _ => (Unit → Bool) → (B → Nat → Nat → Nat → Bool) → Bool) (motive_2 := fun _ => Unit)
   (fun _ _ => false)
   (fun _ _ _ => false)
   (fun _ _ _ _ => false)
   (fun _ _ _ _ _ _ => false)
   (fun _ _ _ _ => false)
   (fun z _ => z ())
   (fun id g off fin _ k => k id g off fin)
   (fun _ _ => false)
   (fun _ _ _ _ _ _ _ _ => false)
   (fun _ _ _ _ => false)
   (fun _ _ _ _ => false)
   (fun _ _ => false)
   (fun _ _ _ _ _ => false)
   (fun _ _ => false)
   (fun _ _ _ _ _ => false)
   (fun _ _ => false)
   (fun _ _ _ => false)
   (fun _ _ => false)
   (fun _ _ _ => false) () (fun _ _ _ _ => ()) v
noncomputable def ptrK (ne : Bool) (y : V) (k : V → Bool) (id : B) (g off fin : Nat) : Bool :=
  vPZ y (fun _ => fB ne k) fun id' g' off' _ => ifK (Nat.beq (B.val id) (B.val id')) fun _ => ifK (Nat.beq g g') fun _ => fB (xor ne (Nat.beq off off')) k
noncomputable def doPtr (ne : Bool) (x y : O) : Run := fun _ t h k => oE x t fun x => oE y t fun y => vPZ x (fun _ => vPZ y (fun _ => fB (!ne) fun v => k v h) fun _ _ _ _ => fB ne fun v => k v h) (ptrK ne y fun v => k v h)
noncomputable def doNilCheck (x : O) : Run := fun _ t h k => oE x t fun x => vP x fun id g off fin => k (.p id g off fin) h
noncomputable def doP2U (x : O) : Run := fun _ t h k => oE x t fun x => vP x fun id g off fin => load1 h id g off fin fun _ => k (.p id g off fin) h
/-- the block's elements are of type 'el' -/
noncomputable def elK (h : H) (id : B) (g el : Nat) (k : Unit → Bool) : Bool := hK h fun _ _ heap => optK (heap.get id) fun blk => blkK blk fun _ min _ _ e _ => ifK (Nat.ble min g) fun _ => ifK (Nat.beq e el) k
noncomputable def doU2P (u size : Nat) (x : O) : Run := fun _ t h k => oE x t fun x => vP x fun id g off fin => ifK (Nat.beq off 0) fun _ => ifK (Nat.ble size fin) fun _ => elK h id g u fun _ => k (.p id g off fin) h
noncomputable def doSData (x : O) : Run := fun _ t h k => oE x t fun x => vL x (fun _ => k .p0 h) fun id g off len fin _ => ifK (Nat.ble 1 len) fun _ => k (.p id g off fin) h
noncomputable def frzF (fr : Nat) : Nat → (Nat → Bool) → Bool := Nat.rec (fun n k => fN (Nat.add n 2) k) (fun m _ => Nat.rec (fun _ _ => false) (fun j _ n k => fN (Nat.add (max j n) 2) k) m) fr
/-- the block's first n places are frozen from now on -/
noncomputable def freezeK (h : H) (id : B) (n : Nat) (k : H → Bool) : Bool := hK h fun next floor heap => optK (heap.get id) fun blk => blkK blk fun cur min size cells el fr =>
  ifK (B.geB floor id) fun _ => frzF fr n fun fr' => T.setK id ⟨cur, min, size, cells, el, fr'⟩ heap fun heap => k ⟨next, floor, heap⟩
noncomputable def uStrK (e : Nat) (n : Nat) (h : H) (k : V → H → Bool) (id : B) (g off fin : Nat) : Bool :=
  ifK (Nat.beq off 0) fun _ => ifK (Nat.ble 1 n) fun _ => ifK (Nat.ble n 1048576) fun _ => elK h id g e fun _ => loadN h id g 0 fin n fun vs => packK vs 0 fun s => freezeK h id n fun h => k (.s n s) h
noncomputable def doUStr (e : Nat) (x y : O) : Run := fun _ t h k => oE x t fun x => oE y t fun y => vI y fun kd n => ifK (kdEq kd .i64) fun _ => natK n fun n =>
  vPZ x (fun _ => ifK (Nat.beq n 0) fun _ => k (.s 0 0) h) (uStrK e n h k)
/-- a new block's end is marked -/
noncomputable def markK (h : H) (id : B) (k : H → Bool) : Bool := hK h fun next floor heap => optK (heap.get id) fun blk => blkK blk fun cur min size cells el fr =>
  ifK (B.geB floor id) fun _ => ifK (Nat.beq fr 0) fun _ => T.setK id ⟨cur, min, size, cells, el, 1⟩ heap fun heap => k ⟨next, floor, heap⟩
noncomputable def doS2B (el : Nat) (x : O) : Run := fun _ t h k => oE x t fun x => vS x fun l n => ifK (Nat.ble l 1048576) fun _ => unpK l n [] fun vs => alloc el vs h fun id h => markK h id fun h => k (.l id 0 0 l l (capF l)) h
noncomputable def doI2S (x : O) : Run := fun _ t h k => oE x t fun x => vI x fun _ n => natK n fun n => ifK (Nat.ble n 127) fun _ => k (.s 1 n) h
noncomputable def vM (v : V) (z : Unit → Bool) (k : B → Bool) : Bool := match v with
  | .m0 => z ()
  | .m id => k id
  | _ => false
noncomputable def vMN (v : V) (k : Bool → Bool) : Bool := vM v (fun _ => k true) (fun _ => k false)
noncomputable def getP (n : Nat) : T V → Nat → (List (V × V) → Bool) → Bool :=
  Nat.rec (fun _ _ k => k []) (fun _ ih t o k => optK (t.getN o) fun a => optK (t.getN (o + 1)) fun b => ih t (o + 2) fun ps => k ((a, b) :: ps)) n
def flat2 : List (V × V) → List V
  | [] => []
  | (a, b) :: r => a :: b :: flat2 r
noncomputable def mapK (h : H) (id : B) (k : B → B → T Blk → Nat → Nat → Nat → Nat → List (V × V) → Bool) : Bool :=
  hK h fun next floor heap => optK (heap.get id) fun blk => blkK blk fun cur min size cells n fr => ifK (Nat.beq min (cur + 7)) fun _ => getP n cells 0 fun ps => k next floor heap cur min size fr ps
noncomputable def putM (next floor : B) (heap : T Blk) (id : B) (cur min size fr : Nat) (ps : List (V × V)) (k : H → Bool) : Bool :=
  ifK (B.geB floor id) fun _ => setList (flat2 ps) 0 .o fun t => T.setK id ⟨cur, min, size, t, ps.length, fr⟩ heap fun heap => k ⟨next, floor, heap⟩
/-- are two keys (texts, or numbers of that kind) the same? none: that isn't known -/
def keyEq (kd : Option IntKind) (a b : V) : Option Bool := match kd, a, b with
  | none, .s l n, .s l' n' => some (eqS l n l' n')
  | some k, .i kd n, .i kd' n' => match kdEq kd k && kdEq kd' k with
    | true => some (eqI n n')
    | false => none
  | _, _, _ => none
/-- where the key stands among the pairs -/
def findP (kd : Option IntKind) (q : V) : List (V × V) → Option (Option Nat)
  | [] => match keyEq kd q q with
    | some _ => some none
    | none => none
  | (a, _) :: r => match keyEq kd q a, findP kd q r with
    | some true, some _ => some (some 0)
    | some false, some (some i) => some (some (i + 1))
    | some false, some none => some none
    | _, _ => none
def lkRes (ok : Bool) (v : V) (b : Bool) : V := match ok with
  | true => .tu [v, .b b]
  | false => v
noncomputable def doLookup (kd : Option IntKind) (z : V) (ok : Bool) (x q : O) : Run := fun _ t h k => oE x t fun x => oE q t fun q => vM x (fun _ => optK (keyEq kd q q) fun _ => k (lkRes ok z false) h) fun id =>
  mapK h id fun _ _ _ _ _ _ _ ps => optK (findP kd q ps) fun r => match r with
    | some i => k (lkRes ok ((ps.getD i (.u, .u)).2) true) h
    | none => k (lkRes ok z false) h
noncomputable def doMapSet (kd : Option IntKind) (x q v : O) : Run := fun _ t h k => oE x t fun x => oE q t fun q => oE v t fun v => vM x (fun _ => false) fun id =>
  mapK h id fun next floor heap cur min el fr ps => optK (findP kd q ps) fun r => match r with
    | some i => putM next floor heap id cur min el fr (ps.set i (q, v)) fun h => k (.tu []) h
    | none => putM next floor heap id cur min el fr (ps ++ [(q, v)]) fun h => k (.tu []) h
noncomputable def doMapDel (kd : Option IntKind) (x q : O) : Run := fun _ t h k => oE x t fun x => oE q t fun q => vM x (fun _ => optK (keyEq kd q q) fun _ => k (.tu []) h) fun id =>
  mapK h id fun next floor heap cur min el fr ps => optK (findP kd q ps) fun r => match r with
    | some i => putM next floor heap id cur min el fr (ps.eraseIdx i) fun h => k (.tu []) h
    | none => ifK (B.geB floor id) fun _ => k (.tu []) h
noncomputable def doMapLen (x : O) : Run := fun _ t h k => oE x t fun x => vM x (fun _ => k (.i .i64 (.ofNat 0)) h) fun id =>
  mapK h id fun _ _ _ _ _ _ _ ps => k (.i .i64 (.ofNat ps.length)) h
noncomputable def doMakeMap (r : Option O) : Run := fun _ t h k => match r with
  | none => newM h k
  | some r => oE r t fun r => vI r fun _ _ => newM h k
where newM (h : H) (k : V → H → Bool) : Bool := hK h fun next floor heap => T.setK next ⟨0, 7, 0, .o, 0, 0⟩ heap fun heap => B.incK next fun next' => k (.m next) ⟨next', floor, heap⟩
noncomputable def vC (v : V) (z : Unit → Bool) (k : B → Bool) : Bool := match v with
  | .c0 => z ()
  | .c id => k id
  | _ => false
noncomputable def chK (h : H) (id : B) (k : B → B → T Blk → Nat → Nat → Nat → Nat → Nat → List V → Bool) : Bool :=
  hK h fun next floor heap => optK (heap.get id) fun blk => blkK blk fun cur min size cells n fr => ifK (Nat.beq min (cur + 11)) fun _ => getList (Nat.div n 2) cells 0 fun vs => k next floor heap cur min size fr (Nat.mod n 2) vs
noncomputable def putC (next floor : B) (heap : T Blk) (id : B) (cur min size fr sh : Nat) (vs : List V) (k : H → Bool) : Bool :=
  ifK (B.geB floor id) fun _ => setList vs 0 .o fun t => fN (Nat.add (Nat.mul 2 vs.length) sh) fun n => T.setK id ⟨cur, min, size, t, n, fr⟩ heap fun heap => k ⟨next, floor, heap⟩
noncomputable def doMakeChan (n : O) : Run := fun _ t h k => oE n t fun n => vI n fun _ n => natK n fun n => ifK (Nat.ble n 1048576) fun _ =>
  hK h fun next floor heap => T.setK next ⟨0, 11, n, .o, 0, 0⟩ heap fun heap => B.incK next fun next' => k (.c next) ⟨next', floor, heap⟩
noncomputable def doClose (x : O) : Run := fun _ t h k => oE x t fun x => vC x (fun _ => false) fun id => chK h id fun next floor heap cur min size fr sh vs =>
  ifK (Nat.beq sh 0) fun _ => putC next floor heap id cur min size fr 1 vs fun h => k (.tu []) h
abbrev RunC := F → H → (V → H → Bool) → Bool
noncomputable def doSend (x y : O) : RunC := fun t h k => oE x t fun x => oK y t fun y => vC x (fun _ => false) fun id => chK h id fun next floor heap cur min size fr sh vs =>
  ifK (Nat.beq sh 0) fun _ => ifK (Nat.ble (Nat.succ vs.length) size) fun _ => putC next floor heap id cur min size fr 0 (app vs [y]) fun h => k .u h
/-- what a receive finds: nothing to wait for is there; it is closed; the first that waits -/
inductive Rdy where
  | no
  | shut
  | hd (v : V) (r : List V)
def stOf (sh : Nat) : List V → Rdy
  | v :: r => .hd v r
  | [] => match sh with
    | 0 => .no
    | _ => .shut
noncomputable def stK (h : H) (v : V) (k : Rdy → Bool) : Bool := vC v (fun _ => k .no) fun id => chK h id fun _ _ _ _ _ _ _ sh vs => k (stOf sh vs)
noncomputable def popK (h : H) (v : V) (r : List V) (k : H → Bool) : Bool := vC v (fun _ => false) fun id => chK h id fun next floor heap cur min size fr sh _ => putC next floor heap id cur min size fr sh r k
/-- the channels' states, one by one -/
noncomputable def stsK (vs : List V) : H → (List Rdy → Bool) → Bool := List.rec (fun _ k => k []) (fun v _ ih h k => stK h v fun s => ih h fun ss => k (s :: ss)) vs
/-- which one alone is ready: none, if none is, or more than one -/
def pickS : List Rdy → Option Nat
  | [] => none
  | .no :: r => match pickS r with
    | some k => some (k + 1)
    | none => none
  | _ :: r => match r.all (fun s => match s with | .no => true | _ => false) with
    | true => some 0
    | false => none
def selOut (zs : List V) (k : Nat) (v : V) (ok : Bool) : V := .tu (.i .i64 (.ofNat k) :: .b ok :: zs.set k v)
noncomputable def selGo (vs zs : List V) (h : H) (kk : V → H → Bool) (k : Nat) (s : Rdy) : Bool := match s with
  | .no => false
  | .shut => optK zs[k]? fun z => kk (selOut zs k z false) h
  | .hd v r => optK vs[k]? fun c => popK h c r fun h => kk (selOut zs k v true) h
noncomputable def doSelect (cs : List O) (zs : List V) : RunC := fun t h k => evalsK cs t fun vs => ifK (Nat.beq vs.length zs.length) fun _ => stsK vs h fun ss => optK (pickS ss) fun j => optK ss[j]? fun s => selGo vs zs h k j s
def recvOut (ok : Bool) (v : V) (b : Bool) : V := match ok with
  | true => .tu [v, .b b]
  | false => v
noncomputable def doRecv (x : O) (z : V) (ok : Bool) : RunC := fun t h k => oE x t fun x => stK h x fun s => match s with
  | .no => false
  | .shut => k (recvOut ok z false) h
  | .hd v r => popK h x r fun h => k (recvOut ok v true) h
structure Ty where
  size : Nat
  bytes : Nat
  desc : TypeDesc
  zero : List V
def zeroOf : Option Value → List V
  | some (.agg ⟨cs⟩) => cs.map ofConst
  | some v => [ofConst v]
  | none => []
def tyAt (P : Program) (t : Nat) : Option Ty :=
  match P.types.toList[t]? with
  | none => none
  | some i => match i.desc with
    | .named _ u => match P.types.toList[u]? with
      | none => none
      | some j => some ⟨i.size, i.bytes, j.desc, zeroOf i.zero⟩
    | d => some ⟨i.size, i.bytes, d, zeroOf i.zero⟩
def isAggD : TypeDesc → Bool
  | .struct _ => true
  | .array _ _ => true
  | _ => false
inductive CR where | mk (r : Run)
noncomputable def compLoad (ty : Option Ty) (o : O) : CR := match ty with
  | some ⟨size, _, d, _⟩ => match isAggD d with
    | true => ⟨doLoadA size o⟩
    | false => ⟨doLoad o⟩
  | none => ⟨noRun⟩
noncomputable def compStore (ty : Option Ty) (o x : O) : CR := match ty with
  | some ⟨size, _, _, _⟩ => ⟨doStore size o x⟩
  | none => ⟨noRun⟩
noncomputable def compAlloc (el : Nat) (ty : Option Ty) : CR := match ty with
  | some ⟨size, _, _, z⟩ => match Nat.beq z.length size && Nat.ble 1 size with
    | true => ⟨doAlloc el z⟩
    | false => ⟨noRun⟩
  | none => ⟨noRun⟩
noncomputable def compFieldAddr (P : Program) (ty : Option Ty) (k : Nat) (o : O) : CR := match ty with
  | some ⟨_, _, .struct fs, _⟩ => match fs.toList[k]? with
    | some f => match tyAt P f.type with
      | some ⟨_ + 1, _, _, _⟩ => ⟨doFieldAddr f.offset o⟩
      | _ => ⟨noRun⟩
    | none => ⟨noRun⟩
  | _ => ⟨noRun⟩
noncomputable def compField (P : Program) (ty : Option Ty) (k : Nat) (o : O) : CR := match ty with
  | some ⟨_, _, .struct fs, _⟩ => match fs.toList[k]? with
    | some f => match tyAt P f.type with
      | some ⟨size, _, d, _⟩ => match isAggD d with
        | true => ⟨doFieldA f.offset size o⟩
        | false => ⟨doField f.offset o⟩
      | none => ⟨noRun⟩
    | none => ⟨noRun⟩
  | _ => ⟨noRun⟩
noncomputable def compIndexAddr (P : Program) (ty : Option Ty) (o x : O) : CR := match ty with
  | some ⟨_, _, .slice e, _⟩ => match tyAt P e with
    | some ⟨size, _, _, _⟩ => ⟨doIndexAddr size o x⟩
    | none => ⟨noRun⟩
  | some ⟨_, _, .array len e, _⟩ => match tyAt P e with
    | some ⟨size, _, _, _⟩ => ⟨doIndexAddrArr len size o x⟩
    | none => ⟨noRun⟩
  | _ => ⟨noRun⟩
noncomputable def compParts (P : Program) (fs : List Field) : List (Nat × Operand) → Option (List Pt)
  | [] => some []
  | (k, x) :: r => match fs[k]? with
    | none => none
    | some f => match tyAt P f.type, compParts P fs r with
      | some ⟨size, _, _, _⟩, some rest => some (⟨f.offset, size, compO x⟩ :: rest)
      | _, _ => none
noncomputable def compPartsA (size : Nat) : List (Nat × Operand) → List Pt
  | [] => []
  | (k, x) :: r => ⟨Nat.mul k size, size, compO x⟩ :: compPartsA size r
noncomputable def compBuild (P : Program) (ty : Option Ty) (parts : List (Nat × Operand)) : CR := match ty with
  | some ⟨size, _, .struct fs, z⟩ => match compParts P fs.toList parts, Nat.ble 1 z.length && fs.toList.all (fun f => (tyAt P f.type).isSome) with
    | some ps, true => ⟨doBuild z ps⟩
    | _, _ => ⟨noRun⟩
  | some ⟨size, _, .array _ e, z⟩ => match tyAt P e, Nat.ble 1 z.length with
    | some ⟨es, _, _, _⟩, true => ⟨doBuild z (compPartsA es parts)⟩
    | _, _ => ⟨noRun⟩
  | _ => ⟨noRun⟩
noncomputable def compBuildSlice (P : Program) (ty : Option Ty) (len : Nat) (parts : List (Nat × Operand)) : CR := match ty with
  | some ⟨_, _, .slice e, _⟩ => match tyAt P e with
    | some ⟨size, _, _, z⟩ => match Nat.beq z.length size && (Nat.ble 1 size && Nat.ble (Nat.mul len size) 1048576) with
      | true => ⟨doBuildSlice e len (repL z len) (compPartsA size parts)⟩
      | false => ⟨noRun⟩
    | none => ⟨noRun⟩
  | _ => ⟨noRun⟩
noncomputable def compMakeSlice (P : Program) (ty : Option Ty) (l c : O) : CR := match ty with
  | some ⟨_, _, .slice e, _⟩ => match tyAt P e with
    | some ⟨size, bytes, _, z⟩ => match Nat.beq z.length size && (Nat.ble 1 size && Nat.ble bytes 65536) with
      | true => ⟨doMakeSlice e z l c⟩
      | false => ⟨noRun⟩
    | none => ⟨noRun⟩
  | _ => ⟨noRun⟩
noncomputable def compBinI (op : BinOp) (x y : O) : CR := match op with
  | .rem => ⟨doRem x y⟩
  | .shl => ⟨doShift shlF x y⟩
  | .shr => ⟨doShift shrF x y⟩
  | op => ⟨bin2 (fOf op) x y⟩
noncomputable def compBinS (op : BinOp) (x y : O) : CR := match op with
  | .add => ⟨doConcat x y⟩
  | .eql => ⟨doSCmp eqS x y⟩
  | .neq => ⟨doSCmp (fun a b c d => !eqS a b c d) x y⟩
  | .lss => ⟨doSCmp ltS x y⟩
  | .leq => ⟨doSCmp (fun a b c d => ltS a b c d || eqS a b c d) x y⟩
  | .gtr => ⟨doSCmp (fun a b c d => !(ltS a b c d || eqS a b c d)) x y⟩
  | .geq => ⟨doSCmp (fun a b c d => !ltS a b c d) x y⟩
  | _ => ⟨noRun⟩
noncomputable def compBinB (op : BinOp) (x y : O) : CR := match op with
  | .eql => ⟨doBool false x y⟩
  | .neq => ⟨doBool true x y⟩
  | _ => ⟨noRun⟩
noncomputable def compBinN (f : V → (Bool → Bool) → Bool) (op : BinOp) (x y : O) : CR := match op with
  | .eql => ⟨doNil f false x y⟩
  | .neq => ⟨doNil f true x y⟩
  | _ => ⟨noRun⟩
noncomputable def compPtr (ne : Bool) (ty : Option Ty) (x y : O) : CR := match ty with
  | some ⟨_ + 1, _, _, _⟩ => ⟨doPtr ne x y⟩
  | _ => ⟨noRun⟩
noncomputable def compBinP (ty : Option Ty) (op : BinOp) (x y : O) : CR := match op with
  | .eql => compPtr false ty x y
  | .neq => compPtr true ty x y
  | _ => ⟨noRun⟩
def kdOf : Option Ty → Option KD
  | some ⟨1, _, .int _, _⟩ => some .i
  | some ⟨1, _, .bool, _⟩ => some .b
  | some ⟨1, _, .string, _⟩ => some .s
  | _ => none
def kdsOf (P : Program) : List Field → Nat → Option (List KD)
  | [], _ => some []
  | f :: r, n => match !(f.name == "_") && Nat.beq f.offset n, kdOf (tyAt P f.type), kdsOf P r (n + 1) with
    | true, some kd, some ks => some (kd :: ks)
    | _, _, _ => none
noncomputable def compSEq2 (ks : List KD) (op : BinOp) (x y : O) : CR := match op with
  | .eql => ⟨doSEq ks false x y⟩
  | .neq => ⟨doSEq ks true x y⟩
  | _ => ⟨noRun⟩
noncomputable def compSEq (P : Program) (tx : TypeId) (fs : Array Field) (op : BinOp) (x y : O) : CR := match !P.stoodInHeld tx && !P.eqGuardType P.depth tx, kdsOf P fs.toList 0 with
  | true, some ks => compSEq2 ks op x y
  | _, _ => ⟨noRun⟩
/-- an interface's value compared with the literal nil -/
noncomputable def vXN (v : V) (k : Bool → Bool) : Bool := match v with
  | .x0 => k true
  | .x _ _ => k false
  | _ => false
noncomputable def doXN (ne : Bool) (x : O) : Run := fun _ t h k => oE x t fun x => vXN x fun a => fB (xor ne a) fun v => k v h
def isX0 : O → Bool
  | .c .x0 => true
  | _ => false
noncomputable def compBinX (op : BinOp) (x y : O) : CR := match isX0 y with
  | false => ⟨noRun⟩
  | true => match op with
    | .eql => ⟨doXN false x⟩
    | .neq => ⟨doXN true x⟩
    | _ => ⟨noRun⟩
noncomputable def compBin (P : Program) (op : BinOp) (tx : TypeId) (x y : O) : CR := match tyAt P tx with
  | some ⟨_, _, .int _, _⟩ => compBinI op x y
  | some ⟨_, _, .string, _⟩ => compBinS op x y
  | some ⟨_, _, .bool, _⟩ => compBinB op x y
  | some ⟨_, _, .pointer e, _⟩ => compBinP (tyAt P e) op x y
  | some ⟨_, _, .slice _, _⟩ => compBinN vLN op x y
  | some ⟨_, _, .map _ _, _⟩ => compBinN vMN op x y
  | some ⟨_, _, .interface _, _⟩ => compBinX op x y
  | some ⟨_, _, .struct fs, _⟩ => compSEq P tx fs op x y
  | _ => ⟨noRun⟩
noncomputable def compUn (op : UnOp) (x : O) : CR := match op with
  | .not => ⟨doNot x⟩
  | .neg => ⟨doNeg x⟩
  | _ => ⟨noRun⟩
noncomputable def compP2U (ty : Option Ty) (x : O) : CR := match ty with
  | some ⟨_ + 1, _, _, _⟩ => ⟨doP2U x⟩
  | _ => ⟨noRun⟩
noncomputable def compU2P (u : Nat) (ty : Option Ty) (x : O) : CR := match ty with
  | some ⟨size + 1, _, _, _⟩ => ⟨doU2P u (size + 1) x⟩
  | _ => ⟨noRun⟩
noncomputable def compB2S (ty : Option Ty) (x : O) : CR := match ty with
  | some ⟨1, _, .int .u8, _⟩ => ⟨doB2S x⟩
  | _ => ⟨noRun⟩
noncomputable def compS2B (e : Nat) (ty : Option Ty) (x : O) : CR := match ty with
  | some ⟨1, _, .int .u8, _⟩ => ⟨doS2B e x⟩
  | _ => ⟨noRun⟩
noncomputable def compConv (P : Program) (s d : TypeId) (x : O) : CR := match tyAt P s, tyAt P d with
  | some _, some ⟨_, _, .int k, _⟩ => ⟨doConv k x⟩
  | some ⟨_, _, .string, _⟩, some ⟨_, _, .string, _⟩ => ⟨doMoveS x⟩
  | some ⟨_, _, .slice e, _⟩, some ⟨_, _, .string, _⟩ => compB2S (tyAt P e) x
  | some ⟨_, _, .int _, _⟩, some ⟨_, _, .string, _⟩ => ⟨doI2S x⟩
  | some ⟨_, _, .string, _⟩, some ⟨_, _, .slice e, _⟩ => compS2B e (tyAt P e) x
  | some ⟨_, _, .pointer e, _⟩, some ⟨_, _, .unsafePointer, _⟩ => compP2U (tyAt P e) x
  | some ⟨_, _, .unsafePointer, _⟩, some ⟨_, _, .pointer u, _⟩ => compU2P u (tyAt P u) x
  | _, _ => ⟨noRun⟩
noncomputable def compAppS (e : Nat) (ty : Option Ty) (x y : O) : CR := match ty with
  | some ⟨1, bytes, .int .u8, z⟩ => match Nat.ble bytes 65536 && Nat.beq z.length 1 with
    | true => ⟨doAppendS e x y⟩
    | false => ⟨noRun⟩
  | _ => ⟨noRun⟩
noncomputable def compAppend (P : Program) (t t' : TypeId) (x y : O) : CR := match tyAt P t, tyAt P t' with
  | some ⟨_, _, .slice e, _⟩, some ⟨_, _, .slice _, _⟩ => match tyAt P e with
    | some ⟨size, bytes, _, z⟩ => match Nat.ble 1 size && (Nat.ble bytes 65536 && Nat.beq z.length size) with
      | true => ⟨doAppend e size x y⟩
      | false => ⟨noRun⟩
    | none => ⟨noRun⟩
  | some ⟨_, _, .slice e, _⟩, some ⟨_, _, .string, _⟩ => compAppS e (tyAt P e) x y
  | _, _ => ⟨noRun⟩
noncomputable def compLen (P : Program) (t : TypeId) (x : O) : CR := match tyAt P t with
  | some ⟨_, _, .slice _, _⟩ => ⟨doLen x⟩
  | some ⟨_, _, .string, _⟩ => ⟨doLenS x⟩
  | some ⟨_, _, .map _ _, _⟩ => ⟨doMapLen x⟩
  | _ => ⟨noRun⟩
/-- what is there where nothing is -/
def zeroV (P : Program) (t : TypeId) : Option V := match P.types.toList[t]? with
  | some i => match i.zero with
    | some (.agg ⟨cs⟩) => some (.a (cs.map ofConst))
    | some v => some (ofConst v)
    | none => none
  | none => none
/-- kinds of keys that are served -/
def keyKind (ty : Option Ty) : Option (Option IntKind) := match ty with
  | some ⟨_, _, .string, _⟩ => some none
  | some ⟨_, _, .int k, _⟩ => some (some k)
  | _ => none
noncomputable def compLookup (P : Program) (t : TypeId) (x q : O) (ok : Bool) : CR := match tyAt P t with
  | some ⟨_, _, .map kt e, _⟩ => match keyKind (tyAt P kt), zeroV P e with
    | some kd, some z => ⟨doLookup kd z ok x q⟩
    | _, _ => ⟨noRun⟩
  | _ => ⟨noRun⟩
noncomputable def compMapSet (P : Program) (t : TypeId) (x q v : O) : CR := match tyAt P t with
  | some ⟨_, _, .map kt _, _⟩ => match keyKind (tyAt P kt) with
    | some kd => ⟨doMapSet kd x q v⟩
    | none => ⟨noRun⟩
  | _ => ⟨noRun⟩
noncomputable def compMapDel (P : Program) (t : TypeId) (x q : O) : CR := match tyAt P t with
  | some ⟨_, _, .map kt _, _⟩ => match keyKind (tyAt P kt) with
    | some kd => ⟨doMapDel kd x q⟩
    | none => ⟨noRun⟩
  | _ => ⟨noRun⟩
noncomputable def compMakeMap (P : Program) (t : TypeId) (r : Option O) : CR := match tyAt P t with
  | some ⟨_, _, .map _ _, _⟩ => ⟨doMakeMap r⟩
  | _ => ⟨noRun⟩
noncomputable def compIndexA (len : Nat) (ty : Option Ty) (x y : O) : CR := match ty with
  | some ⟨size, _, d, _⟩ => match isAggD d with
    | true => ⟨noRun⟩
    | false => ⟨doAIndex len size x y⟩
  | none => ⟨noRun⟩
noncomputable def compIndex (P : Program) (t : TypeId) (x y : O) : CR := match tyAt P t with
  | some ⟨_, _, .string, _⟩ => ⟨doSIndex x y⟩
  | some ⟨_, _, .array len e, _⟩ => compIndexA len (tyAt P e) x y
  | _ => ⟨noRun⟩
noncomputable def compSlice3 (ty : Option Ty) (x : O) (lo hi : Option O) (mx : O) : CR := match ty, hi with
  | some ⟨size, _, _, _⟩, some hi => match Nat.ble 1 size with
    | true => ⟨doSlice3 size x lo hi mx⟩
    | false => ⟨noRun⟩
  | _, _ => ⟨noRun⟩
noncomputable def compSliceM (P : Program) (t : TypeId) (x : O) (lo hi : Option O) (mx : O) : CR := match tyAt P t with
  | some ⟨_, _, .slice e, _⟩ => compSlice3 (tyAt P e) x lo hi mx
  | _ => ⟨noRun⟩
noncomputable def compSliceA (n : Nat) (ty : Option Ty) (x : O) (lo hi : Option O) : CR := match ty with
  | some ⟨size, _, _, _⟩ => match Nat.ble 1 size with
    | true => ⟨doSliceArr n size x lo hi⟩
    | false => ⟨noRun⟩
  | none => ⟨noRun⟩
noncomputable def compSlice (P : Program) (t : TypeId) (x : O) (lo hi : Option O) (mx : Option Operand) : CR := match mx with
  | some m => compSliceM P t x lo hi (compO m)
  | none => match tyAt P t with
    | some ⟨_, _, .string, _⟩ => ⟨doSSlice x lo hi⟩
    | some ⟨_, _, .slice e, _⟩ => match tyAt P e with
      | some ⟨size, _, _, _⟩ => match Nat.ble 1 size with
        | true => ⟨doSlice size x lo hi⟩
        | false => ⟨noRun⟩
      | none => ⟨noRun⟩
    | some ⟨_, _, .array n e, _⟩ => compSliceA n (tyAt P e) x lo hi
    | _ => ⟨noRun⟩
noncomputable def compCopy (P : Program) (t : TypeId) (x y : O) : CR := match tyAt P t with
  | some ⟨_, _, .slice e, _⟩ => match tyAt P e with
    | some ⟨size, _, _, _⟩ => ⟨doCopy size x y⟩
    | none => ⟨noRun⟩
  | _ => ⟨noRun⟩
noncomputable def compCopyS1 (ty : Option Ty) (x y : O) : CR := match ty with
  | some ⟨1, _, .int .u8, _⟩ => ⟨doCopyS x y⟩
  | _ => ⟨noRun⟩
noncomputable def compCopyS (P : Program) (t : TypeId) (x y : O) : CR := match tyAt P t with
  | some ⟨_, _, .slice e, _⟩ => compCopyS1 (tyAt P e) x y
  | _ => ⟨noRun⟩
noncomputable def compCopyT (P : Program) (t t' : TypeId) (x y : O) : CR := match tyAt P t' with
  | some ⟨_, _, .string, _⟩ => compCopyS P t x y
  | _ => compCopy P t x y
noncomputable def compClear1 (ty : Option Ty) (x : O) : CR := match ty with
  | some ⟨size, _, _, z⟩ => match Nat.beq z.length size && Nat.ble 1 size with
    | true => ⟨doClear z x⟩
    | false => ⟨noRun⟩
  | none => ⟨noRun⟩
noncomputable def compClear (P : Program) (t : TypeId) (x : O) : CR := match tyAt P t with
  | some ⟨_, _, .slice e, _⟩ => compClear1 (tyAt P e) x
  | _ => ⟨noRun⟩
noncomputable def compUStr1 (e : Nat) (ty : Option Ty) (x y : O) : CR := match ty with
  | some ⟨1, _, .int .u8, _⟩ => ⟨doUStr e x y⟩
  | _ => ⟨noRun⟩
noncomputable def compUStr (P : Program) (t : TypeId) (x y : O) : CR := match tyAt P t with
  | some ⟨_, _, .pointer e, _⟩ => compUStr1 e (tyAt P e) x y
  | _ => ⟨noRun⟩
def isStrT (P : Program) (t : Option TypeId) : Bool := match t with
  | some t => match tyAt P t with
    | some ⟨_, _, .string, _⟩ => true
    | _ => false
  | none => false
noncomputable def compMin (s : Bool) (x y : O) : CR := match s with
  | true => ⟨doMMS (fun a b c d => ltS a b c d || eqS a b c d) x y⟩
  | false => ⟨doMin x y⟩
noncomputable def compMax (s : Bool) (x y : O) : CR := match s with
  | true => ⟨doMMS (fun a b c d => !ltS a b c d) x y⟩
  | false => ⟨doMax x y⟩
noncomputable def compBuiltin (P : Program) (b : Builtin) (args : List O) (tys : List TypeId) : CR := match b, args, tys with
  | .len, [x], [t] => compLen P t x
  | .min, [x, y], tys => compMin (isStrT P tys.head?) x y
  | .max, [x, y], tys => compMax (isStrT P tys.head?) x y
  | .append, [x, y], [t, t'] => compAppend P t t' x y
  | .copy, [x, y], [t, t'] => compCopyT P t t' x y
  | .unsafeSliceData, [x], _ => ⟨doSData x⟩
  | .delete, [x, y], [t, _] => compMapDel P t x y
  | .unsafeString, [x, y], [t, _] => compUStr P t x y
  | .clear, [x], [t] => compClear P t x
  | .close, [x], _ => ⟨doClose x⟩
  | _, _, _ => ⟨noRun⟩
/-- functions without a body: two are known -/
noncomputable def compExt2 (name origin : String) (f : FuncId) (args : List O) : CR := match name == "internal/bytealg.abigen_runtime_cmpstring" && origin == "" with
  | true => match args with
    | [x, y] => ⟨doCmpS x y⟩
    | _ => ⟨noRun⟩
  | false => ⟨doCall f args⟩
noncomputable def compExt (name origin : String) (f : FuncId) (args : List O) : CR := match name == "internal/abi.NoEscape" && origin == "" with
  | true => match args with
    | [x] => ⟨doMove x⟩
    | _ => ⟨noRun⟩
  | false => compExt2 name origin f args
noncomputable def compFn1 (P : Program) (f : FuncId) (args : List O) : CR := match P.funcs.toList[f]? with
  | none => ⟨doCall f args⟩
  | some fn => match fn.body with
    | some _ => ⟨doCall f args⟩
    | none => compExt fn.name fn.origin f args
noncomputable def compCall (P : Program) (c : Call) : CR := match c with
  | ⟨.builtin b, args, tys⟩ => compBuiltin P b (args.toList.map compO) tys.toList
  | ⟨.value (.func f), args, _⟩ => compFn1 P f (args.toList.map compO)
  | ⟨.value (.tmp n), args, _⟩ => ⟨doCallV (compO (.tmp n)) (args.toList.map compO)⟩
  | _ => ⟨noRun⟩
noncomputable def compMakeChan (P : Program) (ty : Option Ty) (n : O) : CR := match ty with
  | some ⟨_, _, .chan _ e, _⟩ => match tyAt P e with
    | some ⟨_, bytes, _, _⟩ => match Nat.ble bytes 65536 with
      | true => ⟨doMakeChan n⟩
      | false => ⟨noRun⟩
    | none => ⟨noRun⟩
  | _ => ⟨noRun⟩
noncomputable def compMkF1 (f : FuncId) (first cap : List Operand) : CR := match first with
  | [] => ⟨doMkF f (cap.map compO)⟩
  | _ => ⟨noRun⟩
noncomputable def compMkF (fn : Fn) (first cap : List Operand) : CR := match fn with
  | .func f => compMkF1 f first cap
  | _ => ⟨noRun⟩
noncomputable def compOp (P : Program) (op : Op) : CR :=
  match op with
  | .move x => ⟨doMove (compO x)⟩
  | .assign x => ⟨doMove (compO x)⟩
  | .pick c a b => ⟨doPick (compO c) (compO a) (compO b)⟩
  | .box e x => ⟨doBox e (compO x)⟩
  | .alloc e => compAlloc e (tyAt P e)
  | .load e x => compLoad (tyAt P e) (compO x)
  | .store e x v => compStore (tyAt P e) (compO x) (compO v)
  | .fieldAddr s x k => compFieldAddr P (tyAt P s) k (compO x)
  | .field s x k => compField P (tyAt P s) k (compO x)
  | .indexAddr s x ix => compIndexAddr P (tyAt P s) (compO x) (compO ix)
  | .build e parts => compBuild P (tyAt P e) parts.toList
  | .buildSlice e len parts => compBuildSlice P (tyAt P e) len parts.toList
  | .makeSlice e l c => compMakeSlice P (tyAt P e) (compO l) (compO c)
  | .binOp op tx x y _ => compBin P op tx (compO x) (compO y)
  | .unOp op _ x => compUn op (compO x)
  | .convert s d x => compConv P s d (compO x)
  | .extract x k => ⟨doExtract k (compO x)⟩
  | .nilCheck x => ⟨doNilCheck (compO x)⟩
  | .index t x y => compIndex P t (compO x) (compO y)
  | .slice t x lo hi mx => compSlice P t (compO x) (lo.map compO) (hi.map compO) mx
  | .call c => compCall P c
  | .lookup t x q ok => compLookup P t (compO x) (compO q) ok
  | .mapUpdate t x q v => compMapSet P t (compO x) (compO q) (compO v)
  | .makeMap t r => compMakeMap P t (r.map compO)
  | .makeFunc fn first cap => compMkF fn first.toList cap.toList
  | .makeChan t n => compMakeChan P (tyAt P t) (compO n)
  | _ => ⟨noRun⟩
inductive G where | none | some (p : Sl) (w : Bool) | bad
inductive D where | none | some (p : Sl) | bad
structure CO where
  guard : G
  dst : D
  bar : Bool
  run : CR
inductive Cm where | mk (r : RunC)
inductive CC where
  | skip
  | region (ops : List CO)
  | comm (pre : List CO) (m : Cm) (d : D) (post : List CO)
  | draws (ops : List CO) (ch : Option (List Nat × List (Nat × List Nat)))
  | seq (a b : CC)
  | cond (c : O) (a b : CC)
  | block (id : Nat) (a : CC)
  | loop (a : CC)
  | exit (id : Nat)
  | ret
  | bad
def dOf (nt : Nat) : Option Tmp → D
  | none => .none
  | some d => match Nat.ble (Nat.succ d) nt && Nat.ble (Nat.succ d) 512 with
    | true => .some (slOf d)
    | false => .bad
def compG (nt : Nat) (ops : List Oper) : Option (Nat × Bool) → G
  | none => .none
  | some (j, w) => match ops[j]? with
    | some ⟨some d, _, _, _, _, _⟩ => match Nat.ble (Nat.succ d) nt && Nat.ble (Nat.succ d) 512 with
      | true => .some (slOf d) w
      | false => .bad
    | _ => .bad
/-- what touches memory: all but what only makes values out of values -/
def isMapT (P : Program) (t : Option TypeId) : Bool := match t with
  | none => false
  | some t => match tyAt P t with
    | some ⟨_, _, .map _ _, _⟩ => true
    | _ => false
def still (P : Program) : Op → Bool
  | .move _ => true | .assign _ => true | .pick .. => true | .fieldAddr .. => true | .field .. => true | .indexAddr .. => true | .build .. => true
  | .binOp .. => true | .unOp .. => true | .extract .. => true | .index .. => true | .slice .. => true
  | .call ⟨.builtin .len, _, tys⟩ => !isMapT P tys.toList.head? | .call ⟨.builtin .min, _, _⟩ => true | .call ⟨.builtin .max, _, _⟩ => true
  | _ => false
def compOpsWith (bars : Nat → Bool) (P : Program) (nt : Nat) (all : List Oper) (cop : Op → CR) : Nat → List Oper → List CO
  | _, [] => []
  | n, o :: r => ⟨compG nt all o.guard, dOf nt o.dst, bars n, cop o.op⟩ :: compOpsWith bars P nt all cop (n + 1) r
def slotsOf (o : Operand) : List Nat := match o with
  | .tmp t => [t]
  | _ => []
def dstL (o : Oper) : List Nat := match o.dst with
  | none => []
  | some d => [d]
def guardL (ops : List Oper) (o : Oper) : List Nat := match o.guard with
  | none => []
  | some (j, _) => match ops[j]? with
    | none => []
    | some g => dstL g
def looks (ops : List Oper) (o : Oper) : List Nat := guardL ops o ++ o.op.operands.toList.flatMap slotsOf
/-- of each operation a number: bit i is set if operation i comes ahead of it at every order -/
def befOf (done : List Nat) : List Edge → Nat → Nat
  | [], acc => acc
  | e :: r, acc => match Region.binds .any e with
    | true => befOf done r (Nat.lor (Nat.lor acc (Nat.pow 2 e.on)) ((done[e.on]?).getD 0))
    | false => befOf done r acc
def befs : List Oper → List Nat → List Nat
  | [], done => done
  | o :: r, done => befs r (done ++ [befOf done o.after.toList 0])
def edgesUp : Nat → List Oper → Bool
  | _, [] => true
  | n, o :: r => o.after.toList.all (fun e => !Region.binds .any e || Nat.ble (Nat.succ e.on) n) && edgesUp (n + 1) r
def isSel : Op → Bool
  | .select _ _ => true
  | _ => false
def apartL (a b : List Nat) : Bool := a.all fun x => b.all fun y => !Nat.beq x y
/-- operations i < j, of which neither waits for the other one: their slots are apart -/
def slotsOk (ops : List Oper) (oi oj : Oper) : Bool := apartL (dstL oi) (dstL oj) && (apartL (dstL oi) (looks ops oj) && apartL (dstL oj) (looks ops oi))
def barOf (P : Program) (ops : List Oper) (bs : List Nat) (i : Nat) (oi : Oper) : Bool :=
  !still P oi.op && ops.zipIdx.all fun (oj, j) => still P oj.op || (Nat.beq i j || (Nat.testBit ((bs[j]?).getD 0) i || Nat.testBit ((bs[i]?).getD 0) j))
def pairOk (ops : List Oper) (bs : List Nat) (i j : Nat) (oi oj : Oper) : Bool :=
  Nat.ble j i || (Nat.testBit ((bs[j]?).getD 0) i || slotsOk ops oi oj)
def drawsOk (ops : List Oper) : Bool :=
  edgesUp 0 ops && (ops.all (fun o => !isSel o.op) && ops.zipIdx.all fun (oi, i) => ops.zipIdx.all fun (oj, j) => pairOk ops (befs ops []) i j oi oj)
def barAt (P : Program) (ops : List Oper) (bs : List Nat) (i : Nat) : Bool := match ops[i]? with
  | none => false
  | some o => barOf P ops bs i o
def quiet (P : Program) : Op → Bool
  | .load .. => true | .nilCheck _ => true
  | op => still P op
def loudsOf (P : Program) : Nat → List Oper → List Nat
  | _, [] => []
  | n, o :: r => match quiet P o.op with
    | true => loudsOf P (n + 1) r
    | false => n :: loudsOf P (n + 1) r
def befBit (bs : List Nat) (j i : Nat) : Bool := Nat.testBit ((bs[j]?).getD 0) i
def chainB (bs louds : List Nat) : Bool := louds.all fun j => louds.all fun i => Nat.ble j i || befBit bs j i
/-- may operation i be done at the heap ahead of operation j -/
def jOk (bs louds : List Nat) (i j : Nat) : Bool := louds.all fun k => (!befBit bs i k || Nat.ble (k + 1) j) && (!Nat.ble (k + 1) j || !befBit bs k i)
def jsOf (bs louds : List Nat) (i : Nat) : List Nat := (0 :: louds.map Nat.succ).filter (jOk bs louds i)
def chksOf (P : Program) (bs louds : List Nat) : Nat → List Oper → List (Nat × List Nat)
  | _, [] => []
  | n, o :: r => match quiet P o.op && !still P o.op with
    | true => (n, jsOf bs louds n) :: chksOf P bs louds (n + 1) r
    | false => chksOf P bs louds (n + 1) r
def chainOf (P : Program) (bars : Nat → Bool) (bs : List Nat) (ops : List Oper) : Option (List Nat × List (Nat × List Nat)) := match (loudsOf P 0 ops).any (fun i => !bars i) && chainB bs (loudsOf P 0 ops) with
  | true => some (loudsOf P 0 ops, chksOf P bs (loudsOf P 0 ops) 0 ops)
  | false => none
def isComm : Op → Bool
  | .send _ _ => true
  | .recv _ _ _ => true
  | .select _ _ => true
  | _ => false
def commAt : Nat → List Oper → Option Nat
  | _, [] => none
  | n, o :: r => match isComm o.op with
    | true => some n
    | false => commAt (n + 1) r
noncomputable def compCases (P : Program) : List SelectCase → Option (List O × List V)
  | [] => some ([], [])
  | ⟨c, none, e⟩ :: r => match zeroV P e, compCases P r with
    | some z, some (os, zs) => some (compO c :: os, z :: zs)
    | _, _ => none
  | ⟨_, some _, _⟩ :: _ => none
noncomputable def compSel (P : Program) (cs : List SelectCase) : Cm := match compCases P cs with
  | some (os, zs) => ⟨doSelect os zs⟩
  | none => ⟨fun _ _ _ => false⟩
noncomputable def compRecv (P : Program) (ty : Option Ty) (x : O) (ok : Bool) : Cm := match ty with
  | some ⟨_, _, .chan _ e, _⟩ => match zeroV P e with
    | some z => ⟨doRecv x z ok⟩
    | none => ⟨fun _ _ _ => false⟩
  | _ => ⟨fun _ _ _ => false⟩
noncomputable def compCm (P : Program) : Op → Cm
  | .send x y => ⟨doSend (compO x) (compO y)⟩
  | .recv t x ok => compRecv P (tyAt P t) (compO x) ok
  | .select cs _ => compSel P cs.toList
  | _ => ⟨fun _ _ _ => false⟩
noncomputable def compComm (P : Program) (nt : Nat) (ops : List Oper) (n : Nat) : CC := match ops[n]? with
  | some ⟨dst, op, _, _, _, none⟩ => .comm (compOpsWith (fun _ => true) P nt ops (compOp P) 0 (ops.take n)) (compCm P op) (dOf nt dst) (compOpsWith (fun _ => true) P nt ops (compOp P) (n + 1) (ops.drop (n + 1)))
  | _ => .bad
noncomputable def compRegion (P : Program) (nt : Nat) (ops : List Oper) (draw : Bool) : CC := match draw with
  | false => match commAt 0 ops with
    | none => .region (compOpsWith (fun _ => true) P nt ops (compOp P) 0 ops)
    | some n => compComm P nt ops n
  | true => match drawsOk ops with
    | true => .draws (compOpsWith (barAt P ops (befs ops [])) P nt ops (compOp P) 0 ops) (chainOf P (barAt P ops (befs ops [])) (befs ops []) ops)
    | false => .bad
noncomputable def comp (P : Program) (nt : Nat) : Code → CC
  | .skip => .skip
  | .label _ => .skip
  | .region _ ops draw => compRegion P nt ops.toList draw
  | .seq a b => .seq (comp P nt a) (comp P nt b)
  | .cond c a b => .cond (compO c) (comp P nt a) (comp P nt b)
  | .block id a => .block id (comp P nt a)
  | .loop a => .loop (comp P nt a)
  | .scope a => comp P nt a
  | .exit id => .exit id
  | .ret => .ret
  | _ => .bad
noncomputable def putD (d : D) : V → F → (F → Bool) → Bool := D.rec (fun _ t k => k t) (fun s v t k => sPut s v t k) (fun _ _ _ => false) d
noncomputable def guardK (g : G) : F → (Bool → Bool) → Bool := G.rec (fun _ k => k true) (fun s w t k => vG (sGet s t) w k) (fun _ _ => false) g
noncomputable def runK (c : CR) : Run := CR.rec (fun r => r) c
noncomputable def cmK (c : Cm) : RunC := Cm.rec (fun r => r) c
noncomputable def afterOp (d : D) (ih : F → H → (F → H → Bool) → Bool) (t : F) (k : F → H → Bool) (v : V) (h : H) : Bool := putD d v t fun t => ih t h k
noncomputable def opGo (b : Bool) : CR → D → CallF → (F → H → (F → H → Bool) → Bool) → F → H → (F → H → Bool) → Bool :=
  Bool.rec (fun _ d _ ih t h k => afterOp d ih t k (.tu []) h) (fun cr d cf ih t h k => runK cr cf t h (afterOp d ih t k)) b
noncomputable def opK (o : CO) : CallF → (F → H → (F → H → Bool) → Bool) → F → H → (F → H → Bool) → Bool :=
  CO.rec (fun g d _ cr cf ih t h k => guardK g t fun b => opGo b cr d cf ih t h k) o
noncomputable def execOps (cf : CallF) (ops : List CO) : F → H → (F → H → Bool) → Bool :=
  List.rec (fun _ t h k => k t h) (fun o _ ih cf t h k => opK o cf (ih cf) t h k) ops cf
noncomputable def reFloor (h : H) : H := H.rec (fun n _ hp => ⟨n, n, hp⟩) h
noncomputable def unFloor (h0 h : H) : H := H.rec (fun _ f _ h => H.rec (fun n _ hp f => ⟨n, f, hp⟩) h f) h0 h
noncomputable def afterDr (d : D) (ih : F → H → (F → H → Bool) → Bool) (t : F) (k : F → H → Bool) (h0 : H) (v : V) (h : H) : Bool := putD d v t fun t => ih t (unFloor h0 h) k
noncomputable def drGo (b : Bool) : Bool → CR → D → CallF → (F → H → (F → H → Bool) → Bool) → F → H → (F → H → Bool) → Bool :=
  Bool.rec (fun _ _ d _ ih t h k => afterOp d ih t k (.tu []) h)
    (fun bar cr d cf ih t h k => Bool.rec (fun cr d cf ih t h k => runK cr cf t (reFloor h) (afterDr d ih t k h)) (fun cr d cf ih t h k => runK cr cf t h (afterOp d ih t k)) bar cr d cf ih t h k) b
noncomputable def drK (o : CO) : CallF → (F → H → (F → H → Bool) → Bool) → F → H → (F → H → Bool) → Bool :=
  CO.rec (fun g d bar cr cf ih t h k => guardK g t fun b => drGo b bar cr d cf ih t h k) o
noncomputable def execDr (cf : CallF) (ops : List CO) : F → H → (F → H → Bool) → Bool :=
  List.rec (fun _ t h k => k t h) (fun o _ ih cf t h k => drK o cf (ih cf) t h k) ops cf
/-- the same value, of those that are told apart -/
def eqO : Option Nat → Option Nat → Bool
  | none, none => true
  | some a, some b => Nat.beq a b
  | _, _ => false
def eqBo : Bool → Bool → Bool
  | true, y => y
  | false, true => false
  | false, false => true
noncomputable def eqV1 (x : V) : V → Bool :=
  V.rec (motive_1 := fun _ => V → Bool) (motive_2 := fun _ => Unit)
   (fun _ => false)
   (fun x y => vB y fun y => eqBo x y)
   (fun kd n y => vI y fun kd' n' => ifK (kdEq kd kd') fun _ => eqI n n')
   (fun _ _ _ _ _ => false)
   (fun len n y => vS y fun len' n' => ifK (Nat.beq len len') fun _ => Nat.beq n n')
   (fun y => vPZ y (fun _ => true) fun _ _ _ _ => false)
   (fun id g off fin y => vP y fun id' g' off' fin' => ifK (Nat.beq (B.val id) (B.val id')) fun _ => ifK (Nat.beq g g') fun _ => ifK (Nat.beq off off') fun _ => Nat.beq fin fin')
   (fun y => vL y (fun _ => true) fun _ _ _ _ _ _ => false)
   (fun id g off len fin cap y => vL y (fun _ => false) fun id' g' off' len' fin' cap' => ifK (Nat.beq (B.val id) (B.val id')) fun _ => ifK (Nat.beq g g') fun _ => ifK (Nat.beq off off') fun _ => ifK (Nat.beq len len') fun _ => ifK (Nat.beq fin fin') fun _ => eqO cap cap')
   (fun _ _ _ => false)
   (fun _ _ _ => false)
   (fun _ => false)
   (fun _ _ _ _ => false)
   (fun _ => false)
   (fun _ _ _ _ => false)
   (fun y => vM y (fun _ => true) fun _ => false)
   (fun id y => vM y (fun _ => false) fun id' => Nat.beq (B.val id) (B.val id'))
   (fun y => vC y (fun _ => true) fun _ => false)
   (fun id y => vC y (fun _ => false) fun id' => Nat.beq (B.val id) (B.val id')) () (fun _ _ _ _ => ()) x
noncomputable def eqVs (xs : List V) : List V → Bool :=
  List.rec (fun ys => List.rec true (fun _ _ _ => false) ys) (fun x _ ih ys => List.rec (fun _ => false) (fun y ys _ ih => ifK (eqV1 x y) fun _ => ih ys) ys ih) xs
noncomputable def vAO (v : V) : (List V → Bool) → (Unit → Bool) → Bool :=
  V.rec (motive_1 := fun _ => (List V → Bool) → (Unit → Bool) → Bool) (motive_2 := fun _ => Unit)
   (fun _ z => z ())
   (fun _ _ z => z ())
   (fun _ _ _ z => z ())
   (fun _ _ _ _ _ z => z ())
   (fun _ _ _ z => z ())
   (fun _ z => z ())
   (fun _ _ _ _ _ z => z ())
   (fun _ z => z ())
   (fun _ _ _ _ _ _ _ z => z ())
   (fun cs _ k _ => k cs)
   (fun _ _ _ z => z ())
   (fun _ z => z ())
   (fun _ _ _ _ z => z ())
   (fun _ z => z ())
   (fun _ _ _ _ z => z ())
   (fun _ z => z ())
   (fun _ _ z => z ())
   (fun _ z => z ())
   (fun _ _ z => z ()) () (fun _ _ _ _ => ()) v
noncomputable def eqV (x y : V) : Bool := vAO x (fun cs => vA y fun cs' => eqVs cs cs') fun _ => eqV1 x y
/-- operations that leave memory alone, done on two heaps: they make the same -/
noncomputable def lockGo (b : Bool) : CR → D → CallF → (F → H → H → (F → Bool) → Bool) → F → H → H → (F → Bool) → Bool :=
  Bool.rec (fun _ d _ ih t h h2 k => putD d (.tu []) t fun t => ih t h h2 k)
    (fun cr d cf ih t h h2 k => runK cr cf t h fun v _ => runK cr cf t h2 fun v' _ => ifK (eqV v v') fun _ => putD d v t fun t => ih t h h2 k) b
noncomputable def lockK (o : CO) : CallF → (F → H → H → (F → Bool) → Bool) → F → H → H → (F → Bool) → Bool :=
  CO.rec (fun g d _ cr cf ih t h h2 k => guardK g t fun b => lockGo b cr d cf ih t h h2 k) o
noncomputable def chRun (cf : CallF) (ops : List CO) : F → H → (List (F × H) → F → H → Bool) → Bool :=
  List.rec (fun t h k => k [] t h) (fun o _ ih t h k => opK o cf (fun t1 h1 _ => ih t1 h1 fun l t2 h2 => k ((t1, h1) :: l) t2 h2) t h fun _ _ => true) ops
noncomputable def chJs (o : CO) (cf : CallF) (l : List (F × H)) (ti : F) (hi : H) (js : List Nat) : (Unit → Bool) → Bool :=
  List.rec (fun k => k ()) (fun j _ ih k => optK l[j]? fun th => Prod.rec (fun _ hj => lockK o cf (fun t _ _ k => k t) ti hi hj fun _ => ih k) th) js
noncomputable def chChk (cf : CallF) (ops : List CO) (l : List (F × H)) (cs : List (Nat × List Nat)) : (Unit → Bool) → Bool :=
  List.rec (fun k => k ()) (fun p _ ih k => Prod.rec (fun i js => optK ops[i]? fun o => optK l[i]? fun th => Prod.rec (fun ti hi => chJs o cf l ti hi js fun _ => ih k) th) p) cs
noncomputable def execCh (cf : CallF) (ops : List CO) (cs : List (Nat × List Nat)) (t : F) (h : H) (k : F → H → Bool) : Bool :=
  chRun cf ops t h fun l t1 h1 => chChk cf ops ((t, h) :: l) cs fun _ => k t1 h1
noncomputable def execDc (cf : CallF) (ops : List CO) (ch : Option (List Nat × List (Nat × List Nat))) : F → H → (F → H → Bool) → Bool :=
  Option.rec (fun t h k => execDr cf ops t h k) (fun cs t h k => Prod.rec (fun _ cs => execCh cf ops cs t h k) cs) ch
inductive Rs where
  | tmp (s : Sl)
  | cell (s : Sl) (size : Nat)
  | cellA (s : Sl) (size : Nat)
  | no
noncomputable def rsK (r : Rs) : F → H → (V → Bool) → Bool :=
  Rs.rec (fun s t _ k => forceV (sGet s t) k) (fun s _ t h k => vP (sGet s t) fun id g off fin => load1 h id g off fin k)
    (fun s size t h k => vP (sGet s t) fun id g off fin => loadN h id g off fin size fun vs => k (.a vs)) (fun _ _ _ => false) r
noncomputable def resK (rs : List Rs) : F → H → (List V → Bool) → Bool :=
  List.rec (fun _ _ k => k []) (fun r _ ih t h k => rsK r t h fun v => ih t h fun vs => k (v :: vs)) rs
structure CF where
  nt : Nat
  body : CC
  results : List Rs
noncomputable def rsOf (P : Program) : ResultVar → Rs
  | .tmp k => match Nat.ble (Nat.succ k) 512 with
    | true => .tmp (slOf k)
    | false => .no
  | .cell a e => match tyAt P e, Nat.ble (Nat.succ a) 512 with
     | some ⟨size, _, d, _⟩, true => match isAggD d with
       | true => .cellA (slOf a) size
       | false => .cell (slOf a) size
     | _, _ => .no
noncomputable def compFn (P : Program) (f : Nat) : CF := match P.funcs.toList[f]? with
  | none => ⟨0, .bad, []⟩
  | some fn => match fn.body, fn.name == "runtime.NumGoroutine" with
    | some b, false => ⟨fn.ntmps, comp P fn.ntmps b, fn.results.toList.map (rsOf P)⟩
    | _, _ => ⟨0, .bad, []⟩
noncomputable def one (vs : List V) : V := match vs with
  | [v] => v
  | vs => .tu vs
abbrev Ex := CC → F → H → (X → F → H → Bool) → Bool
noncomputable def retK (rs : List Rs) (k : V → H → Bool) (x : X) : F → H → Bool :=
  X.rec (fun rs k t h => resK rs t h fun vs => forceV (one vs) fun v => k v h) (fun _ _ _ _ _ => false) (fun rs k t h => resK rs t h fun vs => forceV (one vs) fun v => k v h) x rs k
noncomputable def slots (vs : List V) : Nat → F → (F → Bool) → Bool :=
  List.rec (fun _ t k => k t) (fun v _ ih n t k => sPut (slOf n) v t fun t => ih (Nat.succ n) t k) vs
/-- functions that are not run, but known -/
abbrev Sp := List V → H → (V → H → Bool) → Bool
noncomputable def callF (tb : Nat → Option Sp) (ex : Ex) (fns : Nat → CF) : CallF := fun f args h k =>
  Option.rec (motive := fun _ => Bool) (CF.rec (fun nt body rs ex args h k => ifK (Nat.ble args.length nt) fun _ => ifK (Nat.ble args.length 512) fun _ => slots args 0 F.zero fun t => ex body t h (retK rs k)) (fns f) ex args h k) (fun g => g args h k) (tb f)
noncomputable def regK (k : X → F → H → Bool) (t : F) (h : H) : Bool := k .normal t h
noncomputable def seqK (ex : Ex) (b : CC) (k : X → F → H → Bool) (x : X) : F → H → Bool :=
  X.rec (fun ex b k t h => ex b t h k) (fun id _ _ k t h => k (.exit id) t h) (fun _ _ k t h => k .ret t h) x ex b k
noncomputable def condK (b : Bool) : Ex → CC → CC → F → H → (X → F → H → Bool) → Bool :=
  Bool.rec (fun ex _ b t h k => ex b t h k) (fun ex a _ t h k => ex a t h k) b
noncomputable def blockB (b : Bool) : Nat → (X → F → H → Bool) → F → H → Bool := Bool.rec (fun id k t h => k (.exit id) t h) (fun _ k t h => k .normal t h) b
noncomputable def blockK (id : Nat) (k : X → F → H → Bool) (x : X) : F → H → Bool :=
  X.rec (fun _ k t h => k .normal t h) (fun j id k t h => blockB (Nat.beq j id) j k t h) (fun _ k t h => k .ret t h) x id k
noncomputable def loopK (ex : Ex) (a : CC) (k : X → F → H → Bool) (x : X) : F → H → Bool :=
  X.rec (fun ex a k t h => ex (.loop a) t h k) (fun id _ _ k t h => k (.exit id) t h) (fun _ _ k t h => k .ret t h) x ex a k
noncomputable def execC (tb : Nat → Option Sp) (c : CC) : (Nat → CF) → Ex → F → H → (X → F → H → Bool) → Bool :=
  CC.rec (fun _ _ t h k => k .normal t h)
    (fun ops fns ex t h k => execOps (callF tb ex fns) ops t h (regK k))
    (fun pre m d post fns ex t h k => execOps (callF tb ex fns) pre t h fun t h => cmK m t h fun v h => putD d v t fun t => execOps (callF tb ex fns) post t h (regK k))
    (fun ops ch fns ex t h k => execDc (callF tb ex fns) ops ch t h (regK k))
    (fun a b _ _ _ ex t h k => ex a t h (seqK ex b k))
    (fun c a b _ _ _ ex t h k => oE c t fun c => vB c fun c => condK c ex a b t h k)
    (fun id a _ _ ex t h k => ex a t h (blockK id k))
    (fun a _ _ ex t h k => ex a t h (loopK ex a k))
    (fun id _ _ t h k => k (.exit id) t h) (fun _ _ t h k => k .ret t h) (fun _ _ _ _ _ => false) c
noncomputable def exec (tb : Nat → Option Sp) (fns : Nat → CF) (n : Nat) : Ex :=
  Nat.rec (fun _ _ _ _ => false) (fun _ ex c t h k => execC tb c fns ex t h k) n
noncomputable def H.zero : H := ⟨.h, .h, .o⟩
noncomputable def isTrue (v : V) (_ : H) : Bool := vB v fun b => b
noncomputable def noTb : Nat → Option Sp := fun _ => none
noncomputable def runFn (tb : Nat → Option Sp) (P : Program) (fuel : Nat) (f : Nat) (args : List V) : Bool :=
  callF tb (exec tb (compFn P) fuel) (compFn P) f args H.zero isTrue
end Go.Ev

set_option linter.all false
namespace Go.Ev
open Go
theorem optK_ok {α : Type} {o : Option α} {k : α → Bool} (h : optK o k = true) : ∃ v, o = some v ∧ k v = true := by
  cases o with
  | none => exact Bool.noConfusion h
  | some v => exact ⟨v, rfl, h⟩
theorem ifK_ok {b : Bool} {k : Unit → Bool} (h : ifK b k = true) : b = true ∧ k () = true := by
  cases b with
  | false => exact Bool.noConfusion h
  | true => exact ⟨rfl, h⟩
theorem boolK_ok {b : Bool} {x y : Unit → Bool} (h : boolK b x y = true) : (b = true ∧ x () = true) ∨ (b = false ∧ y () = true) := by
  cases b with
  | false => exact .inr ⟨rfl, h⟩
  | true => exact .inl ⟨rfl, h⟩
theorem natK_ok {n : Int} {k : Nat → Bool} (h : natK n k = true) : ∃ m, n = .ofNat m ∧ k m = true := by
  cases n with
  | ofNat m => exact ⟨m, rfl, h⟩
  | negSucc m => exact Bool.noConfusion h
@[simp] theorem optK_some {α : Type} (v : α) (k : α → Bool) : optK (some v) k = k v := rfl
@[simp] theorem ifK_true (k : Unit → Bool) : ifK true k = k () := rfl
@[simp] theorem boolK_true (x y : Unit → Bool) : boolK true x y = x () := rfl
@[simp] theorem boolK_false (x y : Unit → Bool) : boolK false x y = y () := rfl
@[simp] theorem natK_ofNat (m : Nat) (k : Nat → Bool) : natK (.ofNat m) k = k m := rfl
@[simp] theorem fN_eq (n : Nat) (k : Nat → Bool) : fN n k = k n := by cases n <;> rfl
@[simp] theorem forceV_eq (v : V) (k : V → Bool) : forceV v k = k v := by cases v <;> rfl
@[simp] theorem forceI_eq (n : Int) (k : Int → Bool) : forceI n k = k n := by cases n <;> simp [forceI]
@[simp] theorem hK_mk (n f : B) (t : T Blk) (k : B → B → T Blk → Bool) : hK ⟨n, f, t⟩ k = k n f t := rfl
@[simp] theorem blkK_mk (a b c : Nat) (d : T V) (e f : Nat) (k : Nat → Nat → Nat → T V → Nat → Nat → Bool) : blkK ⟨a, b, c, d, e, f⟩ k = k a b c d e f := rfl
section
variable {α : Type}
theorem setK_ok (p : B) : ∀ (x : α) (t : T α), ∃ t', (∀ k, T.setK p x t k = k t') ∧ t'.get p = some x ∧ ∀ q, q ≠ p → t'.get q = t.get q := by
  induction p with
  | h =>
    intro x t
    cases t with
    | o => exact ⟨.n .o (some x) .o, fun _ => rfl, rfl, fun q hq => by cases q <;> first | rfl | exact absurd rfl hq⟩
    | n l v r => exact ⟨.n l (some x) r, fun _ => rfl, rfl, fun q hq => by cases q <;> first | rfl | exact absurd rfl hq⟩
  | o p ih =>
    intro x t
    cases t with
    | o =>
      obtain ⟨t1, h1, h2, h3⟩ := ih x .o
      exact ⟨.n t1 none .o, fun k => h1 _, h2, fun q hq => by
        cases q with
        | h => rfl
        | o q => exact h3 q fun e => hq (by rw [e])
        | i q => rfl⟩
    | n l v r =>
      obtain ⟨t1, h1, h2, h3⟩ := ih x l
      exact ⟨.n t1 v r, fun k => h1 _, h2, fun q hq => by
        cases q with
        | h => rfl
        | o q => exact h3 q fun e => hq (by rw [e])
        | i q => rfl⟩
  | i p ih =>
    intro x t
    cases t with
    | o =>
      obtain ⟨t1, h1, h2, h3⟩ := ih x .o
      exact ⟨.n .o none t1, fun k => h1 _, h2, fun q hq => by
        cases q with
        | h => rfl
        | i q => exact h3 q fun e => hq (by rw [e])
        | o q => rfl⟩
    | n l v r =>
      obtain ⟨t1, h1, h2, h3⟩ := ih x r
      exact ⟨.n l v t1, fun k => h1 _, h2, fun q hq => by
        cases q with
        | h => rfl
        | i q => exact h3 q fun e => hq (by rw [e])
        | o q => rfl⟩
theorem getN_even (l : T α) (v : Option α) (r : T α) {m : Nat} (h : m % 2 = 0) : (T.n l v r).getN (m + 1) = l.getN (m / 2) := by
  show nGet2 (m % 2) m l.getN r.getN = _
  rw [h]; rfl
theorem getN_odd (l : T α) (v : Option α) (r : T α) {m : Nat} (h : m % 2 = 1) : (T.n l v r).getN (m + 1) = r.getN (m / 2) := by
  show nGet2 (m % 2) m l.getN r.getN = _
  rw [h]; rfl
theorem nput_even {l l' r : T α} {v : Option α} {x : α} {m : Nat} (hm : m % 2 = 0) (h2 : l'.getN (m / 2) = some x) (h3 : ∀ q, q ≠ m / 2 → l'.getN q = l.getN q) :
    (T.n l' v r).getN (m + 1) = some x ∧ ∀ q, q ≠ m + 1 → (T.n l' v r).getN q = (T.n l v r).getN q := by
  refine ⟨by rw [getN_even _ _ _ hm, h2], fun q hq => ?_⟩
  cases q with
  | zero => rfl
  | succ q =>
    rcases Nat.mod_two_eq_zero_or_one q with hp | hp
    · rw [getN_even _ _ _ hp, getN_even _ _ _ hp]; exact h3 _ (by omega)
    · rw [getN_odd _ _ _ hp, getN_odd _ _ _ hp]
theorem nput_odd {l r r' : T α} {v : Option α} {x : α} {m : Nat} (hm : m % 2 = 1) (h2 : r'.getN (m / 2) = some x) (h3 : ∀ q, q ≠ m / 2 → r'.getN q = r.getN q) :
    (T.n l v r').getN (m + 1) = some x ∧ ∀ q, q ≠ m + 1 → (T.n l v r').getN q = (T.n l v r).getN q := by
  refine ⟨by rw [getN_odd _ _ _ hm, h2], fun q hq => ?_⟩
  cases q with
  | zero => rfl
  | succ q =>
    rcases Nat.mod_two_eq_zero_or_one q with hp | hp
    · rw [getN_even _ _ _ hp, getN_even _ _ _ hp]
    · rw [getN_odd _ _ _ hp, getN_odd _ _ _ hp]; exact h3 _ (by omega)
theorem getN_empty_node (q : Nat) : (T.n (.o : T α) none .o).getN q = (T.o : T α).getN q := by
  cases q with
  | zero => rfl
  | succ q =>
    rcases Nat.mod_two_eq_zero_or_one q with hp | hp
    · rw [getN_even _ _ _ hp]; rfl
    · rw [getN_odd _ _ _ hp]; rfl
theorem setN_ok : ∀ (f : Nat) (x : α) (t : T α) (n : Nat) (k : T α → Bool), T.setN f x t n k = true →
    ∃ t', (∀ k', T.setN f x t n k' = k' t') ∧ t'.getN n = some x ∧ ∀ m, m ≠ n → t'.getN m = t.getN m := by
  intro f
  induction f with
  | zero => intro x t n k h; exact Bool.noConfusion h
  | succ f ih =>
    intro x t n k h
    cases n with
    | zero =>
      cases t with
      | o => exact ⟨.n .o (some x) .o, fun _ => rfl, rfl, fun q hq => by
          cases q with
          | zero => exact absurd rfl hq
          | succ q => rw [← getN_empty_node (q + 1)]; rcases Nat.mod_two_eq_zero_or_one q with hp | hp <;> first | rw [getN_even _ _ _ hp, getN_even _ _ _ hp] | rw [getN_odd _ _ _ hp, getN_odd _ _ _ hp]⟩
      | n l v r => exact ⟨.n l (some x) r, fun _ => rfl, rfl, fun q hq => by
          cases q with
          | zero => exact absurd rfl hq
          | succ q => rcases Nat.mod_two_eq_zero_or_one q with hp | hp <;> first | rw [getN_even _ _ _ hp, getN_even _ _ _ hp] | rw [getN_odd _ _ _ hp, getN_odd _ _ _ hp]⟩
    | succ m =>
      have e : ∀ k', T.setN (f + 1) x t (m + 1) k' = nS2 (m % 2) m (T.setN f) x t k' := fun _ => rfl
      rw [e] at h
      rcases Nat.mod_two_eq_zero_or_one m with hp | hp
      · have e2 : ∀ k', nS2 (m % 2) m (T.setN f) x t k' = nO t (T.setN f) x (m / 2) k' := fun k' => by rw [hp]; rfl
        rw [e2] at h
        cases t with
        | o =>
          obtain ⟨t1, h1, h2, h3⟩ := ih x .o (m / 2) (fun a => k (.n a none .o)) h
          obtain ⟨h4, h5⟩ := nput_even (r := .o) (v := none) hp h2 h3
          exact ⟨.n t1 none .o, fun k' => by rw [e, e2]; exact h1 _, h4, fun q hq => (h5 q hq).trans (getN_empty_node q)⟩
        | n l v r =>
          obtain ⟨t1, h1, h2, h3⟩ := ih x l (m / 2) (fun a => k (.n a v r)) h
          obtain ⟨h4, h5⟩ := nput_even (r := r) (v := v) hp h2 h3
          exact ⟨.n t1 v r, fun k' => by rw [e, e2]; exact h1 _, h4, h5⟩
      · have e2 : ∀ k', nS2 (m % 2) m (T.setN f) x t k' = nI t (T.setN f) x (m / 2) k' := fun k' => by rw [hp]; rfl
        rw [e2] at h
        cases t with
        | o =>
          obtain ⟨t1, h1, h2, h3⟩ := ih x .o (m / 2) (fun a => k (.n .o none a)) h
          obtain ⟨h4, h5⟩ := nput_odd (l := .o) (v := none) hp h2 h3
          exact ⟨.n .o none t1, fun k' => by rw [e, e2]; exact h1 _, h4, fun q hq => (h5 q hq).trans (getN_empty_node q)⟩
        | n l v r =>
          obtain ⟨t1, h1, h2, h3⟩ := ih x r (m / 2) (fun a => k (.n l v a)) h
          obtain ⟨h4, h5⟩ := nput_odd (l := l) (v := v) hp h2 h3
          exact ⟨.n l v t1, fun k' => by rw [e, e2]; exact h1 _, h4, h5⟩
end
theorem setList_ok : ∀ (vs : List V) (n : Nat) (t : T V) (k : T V → Bool), setList vs n t k = true →
    ∃ t', (∀ k', setList vs n t k' = k' t') ∧ (∀ i v, vs[i]? = some v → t'.getN (n + i) = some v) ∧ ∀ m, m < n ∨ n + vs.length ≤ m → t'.getN m = t.getN m := by
  intro vs
  induction vs with
  | nil => intro n t k _; exact ⟨t, fun _ => rfl, fun i v h => by simp at h, fun _ _ => rfl⟩
  | cons x vs ih =>
    intro n t k h
    have e : ∀ k', setList (x :: vs) n t k' = T.setN 40 x t n fun t => setList vs (n + 1) t k' := fun _ => rfl
    rw [e] at h
    obtain ⟨t1, h1, h2, h3⟩ := setN_ok _ _ _ _ _ h
    rw [h1] at h
    obtain ⟨t2, h4, h5, h6⟩ := ih _ _ _ h
    refine ⟨t2, fun k' => by rw [e, h1, h4], fun i v hi => ?_, fun m hm => ?_⟩
    · cases i with
      | zero =>
        simp at hi
        subst hi
        rw [Nat.add_zero, h6 n (Or.inl (by omega)), h2]
      | succ i =>
        have := h5 i v (by simpa using hi)
        rwa [show n + 1 + i = n + (i + 1) by omega] at this
    · rw [h6 m (by simp at hm; omega), h3 m (by simp at hm; omega)]
theorem getList_ok : ∀ (n : Nat) (t : T V) (o : Nat) (k : List V → Bool), getList n t o k = true →
    ∃ vs, (∀ k', getList n t o k' = k' vs) ∧ vs.length = n ∧ ∀ i, i < n → t.getN (o + i) = vs[i]? := by
  intro n
  induction n with
  | zero => intro t o k _; exact ⟨[], fun _ => rfl, rfl, fun i hi => by omega⟩
  | succ n ih =>
    intro t o k h
    have e : ∀ k', getList (n + 1) t o k' = optK (t.getN o) fun v => getList n t (o + 1) fun vs => k' (v :: vs) := fun _ => rfl
    rw [e] at h
    obtain ⟨v, hv, h⟩ := optK_ok h
    obtain ⟨vs, h1, h2, h3⟩ := ih _ _ _ h
    refine ⟨v :: vs, fun k' => by rw [e, hv, optK_some, h1], by simp [h2], fun i hi => ?_⟩
    cases i with
    | zero => simpa using hv
    | succ i => have := h3 i (by omega); rw [show o + (i + 1) = o + 1 + i by omega, this]; rfl
theorem B.val_h : B.val .h = 1 := rfl
theorem B.val_o (p : B) : B.val (.o p) = 2 * B.val p := rfl
theorem B.val_i (p : B) : B.val (.i p) = 2 * B.val p + 1 := rfl
theorem B.val_pos (p : B) : 1 ≤ B.val p := by
  induction p with
  | h => rw [B.val_h]; omega
  | o p ih => rw [B.val_o]; omega
  | i p ih => rw [B.val_i]; omega
theorem B.val_inj : ∀ {p q : B}, B.val p = B.val q → p = q := by
  intro p
  induction p with
  | h => intro q h; cases q with
    | h => rfl
    | o q => rw [B.val_h, B.val_o] at h; omega
    | i q => rw [B.val_h, B.val_i] at h; have := B.val_pos q; omega
  | o p ih => intro q h; cases q with
    | h => rw [B.val_h, B.val_o] at h; omega
    | o q => rw [B.val_o, B.val_o] at h; rw [ih (q := q) (by omega)]
    | i q => rw [B.val_o, B.val_i] at h; omega
  | i p ih => intro q h; cases q with
    | h => rw [B.val_h, B.val_i] at h; have := B.val_pos p; omega
    | o q => rw [B.val_i, B.val_o] at h; omega
    | i q => rw [B.val_i, B.val_i] at h; rw [ih (q := q) (by omega)]
theorem incK_ok (p : B) : ∃ q, (∀ k, B.incK p k = k q) ∧ B.val q = B.val p + 1 := by
  induction p with
  | h => exact ⟨.o .h, fun _ => rfl, rfl⟩
  | o p ih => exact ⟨.i p, fun _ => rfl, rfl⟩
  | i p ih =>
    obtain ⟨q, h1, h2⟩ := ih
    exact ⟨.o q, fun k => h1 _, by rw [B.val_o, B.val_i, h2]; omega⟩
theorem geB_ok {f p : B} (h : B.geB f p = true) : B.val f ≤ B.val p := by
  cases f with
  | h => rw [B.val_h]; exact B.val_pos p
  | o f => exact Nat.le_of_ble_eq_true h
  | i f => exact Nat.le_of_ble_eq_true h
theorem set8_ok {α : Type} (s : S8) (v : α) (x : F8 α) : ∃ x', (∀ k, set8 s v x k = k x') ∧ get8 s x' = v ∧ ∀ s', s' ≠ s → get8 s' x' = get8 s' x := by
  cases x with
  | mk a b c d e f g h =>
    cases s
    · exact ⟨⟨v, b, c, d, e, f, g, h⟩, fun _ => rfl, rfl, fun s' hs => by cases s' <;> first | rfl | exact absurd rfl hs⟩
    · exact ⟨⟨a, v, c, d, e, f, g, h⟩, fun _ => rfl, rfl, fun s' hs => by cases s' <;> first | rfl | exact absurd rfl hs⟩
    · exact ⟨⟨a, b, v, d, e, f, g, h⟩, fun _ => rfl, rfl, fun s' hs => by cases s' <;> first | rfl | exact absurd rfl hs⟩
    · exact ⟨⟨a, b, c, v, e, f, g, h⟩, fun _ => rfl, rfl, fun s' hs => by cases s' <;> first | rfl | exact absurd rfl hs⟩
    · exact ⟨⟨a, b, c, d, v, f, g, h⟩, fun _ => rfl, rfl, fun s' hs => by cases s' <;> first | rfl | exact absurd rfl hs⟩
    · exact ⟨⟨a, b, c, d, e, v, g, h⟩, fun _ => rfl, rfl, fun s' hs => by cases s' <;> first | rfl | exact absurd rfl hs⟩
    · exact ⟨⟨a, b, c, d, e, f, v, h⟩, fun _ => rfl, rfl, fun s' hs => by cases s' <;> first | rfl | exact absurd rfl hs⟩
    · exact ⟨⟨a, b, c, d, e, f, g, v⟩, fun _ => rfl, rfl, fun s' hs => by cases s' <;> first | rfl | exact absurd rfl hs⟩
theorem sPut_ok (s : Sl) (v : V) (t : F) : ∃ t', (∀ k, sPut s v t k = k t') ∧ sGet s t' = v ∧ ∀ s', s' ≠ s → sGet s' t' = sGet s' t := by
  obtain ⟨x, y, z⟩ := s
  obtain ⟨g1, e1, a1, b1⟩ := set8_ok z v (get8 y (get8 x t))
  obtain ⟨g2, e2, a2, b2⟩ := set8_ok y g1 (get8 x t)
  obtain ⟨g3, e3, a3, b3⟩ := set8_ok x g2 t
  refine ⟨g3, fun k => ?_, ?_, fun s' hs => ?_⟩
  · show set8 z v (get8 y (get8 x t)) _ = _
    rw [e1]
    show set8 y g1 (get8 x t) _ = _
    rw [e2]
    exact e3 k
  · show get8 z (get8 y (get8 x g3)) = v
    rw [a3, a2, a1]
  · obtain ⟨x', y', z'⟩ := s'
    show get8 z' (get8 y' (get8 x' g3)) = get8 z' (get8 y' (get8 x' t))
    by_cases hx : x' = x
    · subst hx
      rw [a3]
      by_cases hy : y' = y
      · subst hy
        rw [a2]
        exact b1 z' fun e => hs (by rw [e])
      · rw [b2 y' hy]
    · rw [b3 x' hx]
theorem s8_inj : ∀ {a b : Nat}, a < 8 → b < 8 → s8 a = s8 b → a = b := by
  have key : ∀ a b : Fin 8, s8 a = s8 b → a = b := by decide
  intro a b ha hb h
  have := key ⟨a, ha⟩ ⟨b, hb⟩ h
  simpa using this
theorem slOf_inj {a b : Nat} (ha : a < 512) (hb : b < 512) (h : slOf a = slOf b) : a = b := by
  simp only [slOf, Sl.mk.injEq] at h
  have h1 := s8_inj (by omega) (by omega) h.1
  have h2 := s8_inj (by omega) (by omega) h.2.1
  have h3 := s8_inj (by omega) (by omega) h.2.2
  omega
/-- an object that no code of the evaluator's turns: an iterator; a map that is gone through; whatever else is no cells -/
inductive ItO
  | inl (d : Nat × Nat × Array Nat × Nat)
  | inr (d : Array MapEntry × Nat)
  | obj (o : Obj) (h : ∀ c e f, o ≠ .cells c e f)
/-- where a block of the evaluator's lies, as its g-th append left it: the model's block; which cell lies first; behind the last one; how many cells the model's block has -/
structure Loc where
  b : Nat
  s : Nat
  e : Nat
  cs : Nat
  it : Option ItO   -- of an iterator over a map, of a map that is being ranged over: just what it is
abbrev Emb := B → Nat → Option Loc
/-- the capacity isn't known -/
def Unk (cap : Option Nat) : Prop := cap = none ∨ ∃ d, cap = some d ∧ 18446744073709551616 ≤ d
theorem Unk.no {c : Nat} (h : c < 18446744073709551616) : ¬ Unk (some c) := fun e => by
  rcases e with e | ⟨d, e, h2⟩
  · cases e
  · cases e; omega
theorem flagB_t {c : Nat} (h : flagB c = true) : 18446744073709551616 ≤ c := Nat.le_of_ble_eq_true h
theorem flagB_f {c : Nat} (h : flagB c = false) : c < 18446744073709551616 := by
  refine Nat.lt_of_not_le fun h2 => ?_
  have : flagB c = true := by show Nat.ble _ _ = true; rw [Nat.ble_eq]; exact h2
  rw [this] at h; cases h
theorem flagB_of {c : Nat} (h : c < 18446744073709551616) : flagB c = false := by
  cases hf : flagB c with
  | false => rfl
  | true => have := flagB_t hf; omega
theorem capF_pos {l : Nat} (h : 1 ≤ l) : capF l = none := by cases l with | zero => omega | succ l => rfl
theorem capF_big {l d : Nat} (h : capF l = some d) : ¬ d < 18446744073709551616 := by cases l with | zero => cases h; omega | succ l => cases h
theorem capF_eq {l d : Nat} (h : capF l = some d) : d = 18446744073709551615 + 1 := by cases l with | zero => cases h; rfl | succ l => cases h
theorem capZ_pos {z l : Nat} (h : 1 ≤ l) : capZ z l = none := by cases l with | zero => omega | succ l => rfl
theorem capZ_eq {z l d : Nat} (h : capZ z l = some d) : d = 18446744073709551615 + z := by cases l with | zero => cases h; rfl | succ l => cases h
theorem capZ_big {z l d : Nat} (hz : 1 ≤ z) (h : capZ z l = some d) : ¬ d < 18446744073709551616 := by have := capZ_eq h; omega
theorem capS_eq {z b l d : Nat} (h : capS z b l = some d) : d = 18446744073709551615 + z := by cases b with | zero => (cases l with | zero => cases h | succ l => (cases h; rfl)) | succ l => cases h
theorem capS_big {z b l d : Nat} (hz : 1 ≤ z) (h : capS z b l = some d) : ¬ d < 18446744073709551616 := by have := capS_eq h; omega
theorem capS_pos {z b l : Nat} (h : 1 ≤ b) : capS z b l = none := by cases b with | zero => omega | succ l => rfl
theorem capS_self (z l : Nat) : capS z l l = none := by cases l <;> rfl
theorem limOk_some {c : Nat} (h : limOk (some c) = true) : c < 18446744073709551616 := flagB_f (by have h : (!flagB c) = true := h; cases hf : flagB c with | false => rfl | true => rw [hf] at h; cases h)
theorem selN_t (m c : Nat) : selN true m c = m := rfl
mutual
def VRel (ρ : Emb) : V → Value → Prop
  | .u, _ => True
  | .b x, v => v = .bool x
  | .i k n, v => v = .int k n
  | .r k m r hi, v => ∃ n : Nat, v = .int k n ∧ n % m = r ∧ n ≤ hi
  | .s len n, v => ∃ bs : ByteArray, v = .string bs ∧ bs.size = len ∧ bs.data.toList.foldl (fun a c => 256 * a + c.toNat) 0 = n
  | .p0, v => v = .pointer none
  | .p id g off fin, v => ∃ L, ρ id g = some L ∧ v = .pointer (some ⟨L.b, off - L.s, none⟩) ∧ L.s ≤ off ∧ fin ≤ L.e
  | .l0, v => v = .slice none 0 0
  | .l id g off len fin cap, v => ∃ L a c, ρ id g = some L ∧ v = .slice (some a) len c ∧ len ≤ c ∧ L.s ≤ off ∧ fin ≤ L.e ∧
      ((len = 0 ∧ (cap = none ∨ cap = some 0)) ∨ a = ⟨L.b, off - L.s, none⟩) ∧
      (∀ d, cap = some d → d < 18446744073709551616 → c = d) ∧ (Unk cap → (len = 0 ∧ cap = none) ∨ ∃ z, 1 ≤ z ∧ fin = off + len * z ∧ off - L.s + c * z ≤ L.cs ∧ ∀ d, cap = some d → d = 18446744073709551615 + z)
  | .a cs, v => ∃ arr, v = .agg arr ∧ LRel ρ cs arr.toList
  | .tu cs, v => ∃ arr, v = .tuple arr ∧ LRel ρ cs arr.toList
  | .f0, v => v = .nilFunc
  | .f fn cs, v => ∃ arr, v = .func (.func fn) #[] arr ∧ LRel ρ cs arr.toList
  | .x0, v => v = .nilIface
  | .x t y, v => ∃ z, v = .iface t z ∧ VRel ρ y z
  | .m0, v => v = .map none
  | .m id, v => ∃ L, ρ id 0 = some L ∧ v = .map (some L.b)
  | .c0, v => v = .chan none
  | .c id, v => ∃ L, ρ id 0 = some L ∧ v = .chan (some L.b)
def LRel (ρ : Emb) : List V → List Value → Prop
  | [], [] => True
  | x :: xs, y :: ys => VRel ρ x y ∧ LRel ρ xs ys
  | _, _ => False
end
def Emb.le (ρ ρ' : Emb) : Prop := ∀ id g L, ρ id g = some L → ρ' id g = some L
theorem Emb.le_refl (ρ : Emb) : ρ.le ρ := fun _ _ _ h => h
theorem Emb.le_trans {a b c : Emb} (h : a.le b) (h' : b.le c) : a.le c := fun _ _ _ x => h' _ _ _ (h _ _ _ x)
theorem VRel.up {ρ ρ' : Emb} (h : ρ.le ρ') : ∀ (v : V) (x : Value), VRel ρ v x → VRel ρ' v x := by
  intro v
  refine V.rec (motive_1 := fun v => ∀ x, VRel ρ v x → VRel ρ' v x) (motive_2 := fun vs => ∀ xs, LRel ρ vs xs → LRel ρ' vs xs)
    ?_ ?_ ?_ ?_ ?_ ?_ ?_ ?_ ?_ ?_ ?_ ?_ ?_ ?_ ?_ ?_ ?_ ?_ ?_ ?_ ?_ v
  · intro x hx; trivial
  · intro b x hx; exact hx
  · intro k n x hx; exact hx
  · intro k m r hi x hx; exact hx
  · intro l n x hx; exact hx
  · intro x hx; exact hx
  · intro id g off fin x hx
    obtain ⟨L, h1, h2⟩ := hx
    exact ⟨L, h _ _ _ h1, h2⟩
  · intro x hx; exact hx
  · intro id g off len fin cap x hx
    obtain ⟨L, a, c, h1, h2⟩ := hx
    exact ⟨L, a, c, h _ _ _ h1, h2⟩
  · intro cs ih x hx
    obtain ⟨arr, h1, h2⟩ := hx
    exact ⟨arr, h1, ih _ h2⟩
  · intro cs ih x hx
    obtain ⟨arr, h1, h2⟩ := hx
    exact ⟨arr, h1, ih _ h2⟩
  · intro x hx; exact hx
  · intro fn cs ih x hx
    obtain ⟨arr, h1, h2⟩ := hx
    exact ⟨arr, h1, ih _ h2⟩
  · intro x hx; exact hx
  · intro t y ih x hx
    obtain ⟨z, h1, h2⟩ := hx
    exact ⟨z, h1, ih _ h2⟩
  · intro x hx; exact hx
  · intro id x hx
    obtain ⟨L, h1, h2⟩ := hx
    exact ⟨L, h _ _ _ h1, h2⟩
  · intro x hx; exact hx
  · intro id x hx
    obtain ⟨L, h1, h2⟩ := hx
    exact ⟨L, h _ _ _ h1, h2⟩
  · intro xs hx; cases xs <;> exact hx
  · intro y ys ih1 ih2 xs hx
    cases xs with
    | nil => exact hx
    | cons x xs => exact ⟨ih1 _ hx.1, ih2 _ hx.2⟩
theorem LRel.up {ρ ρ' : Emb} (h : ρ.le ρ') : ∀ {vs : List V} {xs : List Value}, LRel ρ vs xs → LRel ρ' vs xs
  | [], [], _ => trivial
  | _ :: _, _ :: _, hx => ⟨VRel.up h _ _ hx.1, LRel.up h hx.2⟩
  | [], _ :: _, hx => hx.elim
  | _ :: _, [], hx => hx.elim
theorem LRel.length {ρ : Emb} : ∀ {vs : List V} {xs : List Value}, LRel ρ vs xs → vs.length = xs.length
  | [], [], _ => rfl
  | _ :: _, _ :: _, hx => by simp [LRel.length hx.2]
  | [], _ :: _, hx => hx.elim
  | _ :: _, [], hx => hx.elim
theorem LRel.get {ρ : Emb} : ∀ {vs : List V} {xs : List Value}, LRel ρ vs xs → ∀ {i : Nat} {v : V}, vs[i]? = some v → ∃ x, xs[i]? = some x ∧ VRel ρ v x
  | [], [], _, i, v, h => by simp at h
  | y :: ys, x :: xs, hx, i, v, h => by
    cases i with
    | zero => simp at h; subst h; exact ⟨x, rfl, hx.1⟩
    | succ i => exact LRel.get hx.2 (by simpa using h)
  | [], _ :: _, hx, _, _, _ => hx.elim
  | _ :: _, [], hx, _, _, _ => hx.elim
theorem LRel.of_get {ρ : Emb} : ∀ {vs : List V} {xs : List Value}, vs.length = xs.length → (∀ (i : Nat) v x, vs[i]? = some v → xs[i]? = some x → VRel ρ v x) → LRel ρ vs xs
  | [], [], _, _ => trivial
  | y :: ys, x :: xs, hl, h => ⟨h 0 y x rfl rfl, LRel.of_get (by simpa using hl) fun i v x h1 h2 => h (i + 1) v x (by simpa using h1) (by simpa using h2)⟩
  | [], _ :: _, hl, _ => by simp at hl
  | _ :: _, [], hl, _ => by simp at hl
theorem LRel.append {ρ : Emb} : ∀ {vs : List V} {xs : List Value} {vs' : List V} {xs' : List Value}, LRel ρ vs xs → LRel ρ vs' xs' → LRel ρ (vs ++ vs') (xs ++ xs')
  | [], [], _, _, _, h => h
  | _ :: _, _ :: _, _, _, hx, h => ⟨hx.1, LRel.append hx.2 h⟩
  | [], _ :: _, _, _, hx, _ => hx.elim
  | _ :: _, [], _, _, hx, _ => hx.elim
theorem LRel.take {ρ : Emb} {vs : List V} {xs : List Value} (h : LRel ρ vs xs) (n : Nat) : LRel ρ (vs.take n) (xs.take n) := by
  refine LRel.of_get (by simp [h.length]) fun i v x h1 h2 => ?_
  rw [List.getElem?_take] at h1 h2
  split at h1
  · rename_i hi
    simp only [hi, if_true] at h2
    obtain ⟨y, h3, h4⟩ := h.get h1
    rw [h2] at h3
    cases h3
    exact h4
  · cases h1
theorem LRel.drop {ρ : Emb} {vs : List V} {xs : List Value} (h : LRel ρ vs xs) (n : Nat) : LRel ρ (vs.drop n) (xs.drop n) := by
  refine LRel.of_get (by simp [h.length]) fun i v x h1 h2 => ?_
  rw [List.getElem?_drop] at h1 h2
  obtain ⟨y, h3, h4⟩ := h.get h1
  rw [h2] at h3
  cases h3
  exact h4
theorem cells_rel {ρ : Emb} {v : V} {x : Value} (hu : v ≠ .u) (h : VRel ρ v x) : LRel ρ (cells v) x.cells.toList := by
  cases v with
  | u => exact absurd rfl hu
  | a cs => obtain ⟨arr, rfl, h2⟩ := h; exact h2
  | b y => cases h; exact ⟨rfl, trivial⟩
  | i k n => cases h; exact ⟨rfl, trivial⟩
  | r k m r hi => have h' := h; obtain ⟨n, rfl, h2⟩ := h; exact ⟨h', trivial⟩
  | s l n => have h' := h; obtain ⟨bs, rfl, h2⟩ := h; exact ⟨h', trivial⟩
  | p0 => cases h; exact ⟨rfl, trivial⟩
  | p id g off fin => have h' := h; obtain ⟨L, h1, rfl, h2⟩ := h; exact ⟨h', trivial⟩
  | l0 => cases h; exact ⟨rfl, trivial⟩
  | l id g off len fin cap => have h' := h; obtain ⟨L, a, c, h1, rfl, h2⟩ := h; exact ⟨h', trivial⟩
  | tu cs => have h' := h; obtain ⟨arr, rfl, h2⟩ := h; exact ⟨h', trivial⟩
  | f0 => cases h; exact ⟨rfl, trivial⟩
  | f fn cs => have h' := h; obtain ⟨arr, rfl, h2⟩ := h; exact ⟨h', trivial⟩
  | x0 => cases h; exact ⟨rfl, trivial⟩
  | x t y => have h' := h; obtain ⟨z, rfl, h2⟩ := h; exact ⟨h', trivial⟩
  | m0 => cases h; exact ⟨rfl, trivial⟩
  | m id => have h' := h; obtain ⟨L, h1, rfl⟩ := h; exact ⟨h', trivial⟩
  | c0 => cases h; exact ⟨rfl, trivial⟩
  | c id => have h' := h; obtain ⟨L, h1, rfl⟩ := h; exact ⟨h', trivial⟩
theorem oneV_ok {ρ : Emb} {v : V} {x : Value} (ho : oneV v = true) (h : VRel ρ v x) : x.oneCell' = true := by
  cases v with
  | u => exact Bool.noConfusion ho
  | a cs => exact Bool.noConfusion ho
  | tu cs => exact Bool.noConfusion ho
  | b y => cases h; rfl
  | i k n => cases h; rfl
  | r k m r hi => obtain ⟨n, rfl, h2⟩ := h; rfl
  | s l n => obtain ⟨bs, rfl, h2⟩ := h; rfl
  | p0 => cases h; rfl
  | p id g off fin => obtain ⟨L, h1, rfl, h2⟩ := h; rfl
  | l0 => cases h; rfl
  | l id g off len fin cap => obtain ⟨L, a, c, h1, rfl, h2⟩ := h; rfl
  | f0 => cases h; rfl
  | f fn cs => obtain ⟨arr, rfl, h2⟩ := h; rfl
  | x0 => cases h; rfl
  | x t y => obtain ⟨z, rfl, h2⟩ := h; rfl
  | m0 => cases h; rfl
  | m id => obtain ⟨L, h1, rfl⟩ := h; rfl
  | c0 => cases h; rfl
  | c id => obtain ⟨L, h1, rfl⟩ := h; rfl
theorem allOne_ok {ρ : Emb} : ∀ {vs : List V} {xs : List Value}, allOne vs = true → LRel ρ vs xs → ∀ x ∈ xs, x.oneCell' = true
  | [], [], _, _, x, hx => by cases hx
  | v :: vs, y :: ys, ho, h, x, hx => by
    have e : allOne (v :: vs) = Bool.rec false (allOne vs) (oneV v) := rfl
    cases hv : oneV v with
    | false => rw [e, hv] at ho; exact Bool.noConfusion ho
    | true =>
      rw [e, hv] at ho
      rcases List.mem_cons.1 hx with rfl | hx
      · exact oneV_ok hv h.1
      · exact allOne_ok ho h.2 x hx
  | [], _ :: _, _, h, _, _ => h.elim
  | _ :: _, [], _, h, _, _ => h.elim
end Go.Ev

set_option linter.all false
namespace Go.Ev
open Go Go.MapKept
/-- what of a block may be frozen, as far as the evaluator knows -/
def FzOk (fz : Nat × Nat) (s cs : Nat) : Nat → Prop
  | 0 => fz.1 = fz.2
  | 1 => fz.1 = fz.2 ∨ fz = (cs, cs + 1)
  | k + 2 => fz.1 = fz.2 ∨ fz.2 + s ≤ k
def HasC (w : World) (b s : Nat) (c : Array Value) (el bel fr : Nat) : Prop := el = bel ∧ ∃ fz, w.heap[b]? = some (.cells c el fz) ∧ FzOk fz s c.size fr
theorem frOk_ok {fr off s cs i : Nat} {fz : Nat × Nat} (h : frOk fr off = true) (hf : FzOk fz s cs fr) (hi : off ≤ s + i) (hc : i < cs) : ¬ (fz.1 ≤ i ∧ i < fz.2) := by
  match fr, h, hf with
  | 0, _, hf => have : fz.1 = fz.2 := hf; omega
  | 1, _, hf =>
    have hf' : fz.1 = fz.2 ∨ fz = (cs, cs + 1) := hf
    rcases hf' with hf' | hf'
    · omega
    · rw [hf']; simp; omega
  | k + 2, h, hf =>
    have hf' : fz.1 = fz.2 ∨ fz.2 + s ≤ k := hf
    have hk : k ≤ off := Nat.le_of_ble_eq_true h
    omega
theorem FzOk.clean (s cs : Nat) : ∀ fr, FzOk (0, 0) s cs fr
  | 0 => rfl
  | 1 => .inl rfl
  | _ + 2 => .inl rfl
theorem HasC.cell? {w : World} {b s : Nat} {c : Array Value} {el bel fr : Nat} (h : HasC w b s c el bel fr) (o : Nat) : w.cell? ⟨b, o, none⟩ = c[o]? := by
  obtain ⟨_, fz, h, _⟩ := h
  simp [World.cell?, h]
theorem HasC.thawed {w : World} {b s off i : Nat} {c : Array Value} {el bel fr : Nat} (h : HasC w b s c el bel fr) (hf : frOk fr off = true) (hi : off ≤ s + i) (hc : i < c.size) : w.frozen? ⟨b, i, none⟩ = false := by
  obtain ⟨_, fz, h, h2⟩ := h
  have := frOk_ok hf h2 hi hc
  simp only [World.frozen?, h]
  simpa using this
theorem HasC.congr {w w' : World} {b s : Nat} {c : Array Value} {el bel fr : Nat} (h : HasC w b s c el bel fr) (e : w'.heap[b]? = w.heap[b]?) : HasC w' b s c el bel fr := by
  obtain ⟨h1, fz, h2, h3⟩ := h
  exact ⟨h1, fz, e.trans h2, h3⟩
/-- pairs and entries, one by one -/
inductive F2 (ρ : Emb) : List (V × V) → List MapEntry → Prop where
  | nil : F2 ρ [] []
  | cons {k v : V} {e : MapEntry} {ps : List (V × V)} {es : List MapEntry} : VRel ρ k e.key → VRel ρ v e.val → F2 ρ ps es → F2 ρ ((k, v) :: ps) (e :: es)
theorem F2.up {ρ ρ' : Emb} (h : ρ.le ρ') {ps : List (V × V)} {es : List MapEntry} (a : F2 ρ ps es) : F2 ρ' ps es := by
  induction a with
  | nil => exact .nil
  | cons a b _ ih => exact .cons (VRel.up h _ _ a) (VRel.up h _ _ b) ih
/-- what a map holds: its entries, in some order -/
structure MapP (ρ : Emb) (ps : List (V × V)) (es : Array MapEntry) (clock : Nat) : Prop where
  rel : ∃ l : List MapEntry, l.Perm es.toList ∧ F2 ρ ps l
  st : Stamped es clock
/-- the pairs of a map's block: the key of the i-th at 2i, its value behind it -/
def RdP (cells : T V) (n : Nat) (ps : List (V × V)) : Prop := ps.length = n ∧ ∀ (i : Nat) kv, ps[i]? = some kv → cells.getN (2 * i) = some kv.1 ∧ cells.getN (2 * i + 1) = some kv.2
def MapOk (ρ : Emb) (cells : T V) (n : Nat) (es : Array MapEntry) (clock : Nat) : Prop := ∃ ps, RdP cells n ps ∧ MapP ρ ps es clock
theorem MapP.up {ρ ρ' : Emb} (h : ρ.le ρ') {ps : List (V × V)} {es : Array MapEntry} {clock : Nat} (m : MapP ρ ps es clock) : MapP ρ' ps es clock := by
  obtain ⟨l, l1, l2⟩ := m.rel
  exact ⟨⟨l, l1, l2.up h⟩, m.st⟩
theorem MapOk.up {ρ ρ' : Emb} (h : ρ.le ρ') {cells : T V} {n : Nat} {es : Array MapEntry} {clock : Nat} (m : MapOk ρ cells n es clock) : MapOk ρ' cells n es clock := by
  obtain ⟨ps, a, b⟩ := m
  exact ⟨ps, a, b.up h⟩
/-- what waits in a channel -/
def ChRd (cells : T V) (n : Nat) (vs : List V) : Prop := vs.length = n ∧ ∀ (i : Nat) v, vs[i]? = some v → cells.getN i = some v
/-- a block is a map's where its 'min' is seven more than its 'cur', a channel's where it is eleven more: so nothing reads it as cells -/
def kdN : Bool → Nat
  | false => 7
  | true => 11
theorem kdN_pos (c : Bool) : 0 < kdN c := by cases c <;> decide
def ObOk (ρ : Emb) : Bool → Blk → Obj → Prop
  | false, blk, o => ∃ es clock, o = .map es clock ∧ MapOk ρ blk.cells blk.el es clock
  | true, blk, o => ∃ buf s r vs, o = .chan blk.size buf (Nat.beq (blk.el % 2) 1) s r false ∧ ChRd blk.cells (blk.el / 2) vs ∧ LRel ρ vs buf.toList
theorem ObOk.up {ρ ρ' : Emb} (h : ρ.le ρ') : ∀ {c : Bool} {blk : Blk} {o : Obj}, ObOk ρ c blk o → ObOk ρ' c blk o
  | false, _, _, ⟨es, clock, e, m⟩ => ⟨es, clock, e, m.up h⟩
  | true, _, _, ⟨buf, s, r, vs, e, d, l⟩ => ⟨buf, s, r, vs, e, d, l.up h⟩
theorem ObOk.noCells {ρ : Emb} {blk : Blk} {a : Array Value} {b : TypeId} {e : Nat × Nat} : ∀ {c : Bool}, ObOk ρ c blk (.cells a b e) → False
  | false, ⟨_, _, e, _⟩ => by cases e
  | true, ⟨_, _, _, _, e, _⟩ => by cases e
def MpOk (ρ : Emb) (h : H) (w : World) : Prop := ∀ id L blk, ρ id 0 = some L → h.heap.get id = some blk → ∀ c, blk.min = blk.cur + kdN c → ∃ o, w.heap[L.b]? = some o ∧ ObOk ρ c blk o
theorem MpOk.map {ρ : Emb} {h : H} {w : World} (m : MpOk ρ h w) (id : B) (L : Loc) (blk : Blk) (h1 : ρ id 0 = some L) (h2 : h.heap.get id = some blk) (h3 : blk.min = blk.cur + 7) : ∃ es clock, w.heap[L.b]? = some (.map es clock) ∧ MapOk ρ blk.cells blk.el es clock := by
  obtain ⟨o, e, es, clock, rfl, k⟩ := m id L blk h1 h2 false h3
  exact ⟨es, clock, e, k⟩
theorem MpOk.of {ρ ρ' : Emb} {h h' : H} {w w' : World} (m : MpOk ρ h w) (hle : ρ.le ρ') (hnew : ∀ id L blk, ρ' id 0 = some L → h'.heap.get id = some blk → ∀ c, blk.min = blk.cur + kdN c → ρ id 0 = some L ∧ h.heap.get id = some blk ∧ w'.heap[L.b]? = w.heap[L.b]?) : MpOk ρ' h' w' := by
  intro id L blk h1 h2 c h3
  obtain ⟨a1, a2, a3⟩ := hnew id L blk h1 h2 c h3
  obtain ⟨o, b1, b2⟩ := m id L blk a1 a2 c h3
  exact ⟨o, a3.trans b1, b2.up hle⟩
def objOf : ItO → Obj
  | .inl (m, s, seen, l) => .mapIter (some m) s seen l
  | .inr (es, c) => .map es c
  | .obj o _ => o
/-- of a block whose 'min' is nine more than its 'cur' it is known just which object lies there: an iterator, or the map that it goes through; each step is a generation -/
def ItOk (ρ : Emb) (h : H) (w : World) : Prop := ∀ id g L blk o, ρ id g = some L → h.heap.get id = some blk → blk.cur = g → blk.min = blk.cur + 9 → L.it = some o → w.heap[L.b]? = some (objOf o)
theorem ItOk.of {ρ ρ' : Emb} {h h' : H} {w w' : World} (m : ItOk ρ h w) (hnew : ∀ id g L blk, ρ' id g = some L → h'.heap.get id = some blk → blk.cur = g → blk.min = blk.cur + 9 → ρ id g = some L ∧ h.heap.get id = some blk ∧ w'.heap[L.b]? = w.heap[L.b]?) : ItOk ρ' h' w' := by
  intro id g L blk o h1 h2 h3 h4 h5
  obtain ⟨a1, a2, a3⟩ := hnew id g L blk h1 h2 h3 h4
  exact a3.trans (m id g L blk o a1 a2 h3 h4 h5)
/-- 'h' is what the evaluator knows of world 'w'; 'w0' is the world that it started from: of its blocks none has turned. -/
structure HRel (ρ : Emb) (h : H) (w w0 : World) : Prop where
  loc : ∀ id g L, ρ id g = some L → ∃ blk, h.heap.get id = some blk ∧ g ≤ blk.cur ∧ L.b < w.heap.size ∧ L.s ≤ L.e ∧ (blk.min ≤ g ∨ blk.cur < blk.min → L.e ≤ blk.size) ∧ (g = blk.cur → L.e = blk.size) ∧
    (blk.min ≤ g → ∃ c el, HasC w L.b L.s c el blk.el blk.fr ∧ c.size = L.cs ∧ L.e - L.s ≤ L.cs ∧
      ∀ i, L.s ≤ i → i < L.e → ∃ v x, blk.cells.getN i = some v ∧ c[i - L.s]? = some x ∧ VRel ρ v x)
  ids : ∀ id g L, ρ id g = some L → B.val id < B.val h.next
  sep : ∀ id g L id' g' L', ρ id g = some L → ρ id' g' = some L' → L.b = L'.b → id = id' ∧ L.s = L'.s
  flo : B.val h.floor ≤ B.val h.next
  old : ∀ b : Nat, b < w0.heap.size → w.heap[b]? = w0.heap[b]?
  up : ∀ id g L, ρ id g = some L → B.val h.floor ≤ B.val id → w0.heap.size ≤ L.b
  tp : w.tape = w0.tape
  os : w.os = w0.os
  out : w.output = w0.output
  siz : w0.heap.size ≤ w.heap.size
  mp : MpOk ρ h w
  ito : ItOk ρ h w
/-- the floor stays, and nothing below it turns -/
def KeepF (h h' : H) : Prop := h'.floor = h.floor ∧ (B.val h.floor ≤ B.val h.next → ∀ id, B.val id < B.val h.floor → h'.heap.get id = h.heap.get id)
theorem KeepF.refl (h : H) : KeepF h h := ⟨rfl, fun _ _ _ => rfl⟩
theorem KeepF.trans {a b c : H} (h : KeepF a b) (hn : B.val a.next ≤ B.val b.next) (h' : KeepF b c) : KeepF a c :=
  ⟨h'.1.trans h.1, fun hf id hid => (h'.2 (by rw [h.1]; exact Nat.le_trans hf hn) id (by rw [h.1]; exact hid)).trans (h.2 hf id hid)⟩
theorem alloc_get_old (w : World) (o : Obj) {b : Nat} (h : b < w.heap.size) : (w.alloc o).heap[b]? = w.heap[b]? := by
  show (w.heap.push o)[b]? = _
  rw [Array.getElem?_push]
  split
  · omega
  · rfl
theorem alloc_get_new (w : World) (o : Obj) : (w.alloc o).heap[w.heap.size]? = some o := by
  show (w.heap.push o)[_]? = _
  simp
theorem alloc_size (w : World) (o : Obj) : (w.alloc o).heap.size = w.heap.size + 1 := by
  show (w.heap.push o).size = _
  simp
noncomputable def Emb.put (ρ : Emb) (id : B) (g : Nat) (L : Loc) : Emb := open Classical in fun i j => if i = id ∧ j = g then some L else ρ i j
theorem Emb.put_same (ρ : Emb) (id : B) (g : Nat) (L : Loc) : ρ.put id g L id g = some L := by simp [Emb.put]
theorem Emb.put_other (ρ : Emb) (id : B) (g : Nat) (L : Loc) {i : B} {j : Nat} (h : ¬ (i = id ∧ j = g)) : ρ.put id g L i j = ρ i j := by simp [Emb.put, h]
theorem Emb.put_le {ρ : Emb} {id : B} {g : Nat} (L : Loc) (h : ρ id g = none) : ρ.le (ρ.put id g L) := by
  intro i j M hM
  by_cases e : i = id ∧ j = g
  · rw [e.1, e.2, h] at hM; cases hM
  · rw [Emb.put_other _ _ _ _ e]; exact hM
/-- what came to be known: at blocks from 'f' on alone -/
def Ext (f : B) (ρ ρ' : Emb) : Prop := ρ.le ρ' ∧ ∀ id g L, ρ' id g = some L → ρ id g = some L ∨ B.val f ≤ B.val id
theorem Ext.refl (f : B) (ρ : Emb) : Ext f ρ ρ := ⟨Emb.le_refl ρ, fun _ _ _ h => .inl h⟩
theorem Ext.trans {f : B} {a b c : Emb} (h : Ext f a b) (h' : Ext f b c) : Ext f a c :=
  ⟨Emb.le_trans h.1 h'.1, fun id g L hL => (h'.2 id g L hL).elim (fun x => h.2 id g L x) .inr⟩
theorem Ext.put {f : B} {ρ : Emb} {id : B} {g : Nat} {L : Loc} (h : ρ id g = none) (hf : B.val f ≤ B.val id) : Ext f ρ (ρ.put id g L) :=
  ⟨Emb.put_le L h, fun i j M hM => by
    by_cases e : i = id ∧ j = g
    · right; rw [e.1]; exact hf
    · left; rwa [Emb.put_other _ _ _ _ e] at hM⟩
/-- a new block -/
theorem alloc_ok {el : Nat} {cs : List V} {h : H} {k : B → H → Bool} (hk : alloc el cs h k = true) :
    ∃ h', (∀ k', alloc el cs h k' = k' h.next h') ∧ KeepF h h' ∧ B.val h.next ≤ B.val h'.next ∧
      ∀ ρ w w0 (c : Array Value) (s cap : Nat), HRel ρ h w w0 → cs.length ≤ c.size → c.size = cap → (∀ (i : Nat) v x, cs[i]? = some v → c[i]? = some x → VRel ρ v x) → s = 0 →
        ∃ ρ', Ext h.floor ρ ρ' ∧ ρ' h.next 0 = some ⟨w.heap.size, 0, cs.length, cap, none⟩ ∧ HRel ρ' h' (w.alloc (.cells c el)) w0 := by
  obtain ⟨next, floor, heap⟩ := h
  have e : ∀ k', alloc el cs ⟨next, floor, heap⟩ k' = setList cs 0 .o fun t => T.setK next ⟨0, 0, cs.length, t, el, 0⟩ heap fun heap => B.incK next fun next' => k' next ⟨next', floor, heap⟩ := by
    intro k'; simp only [alloc, hK_mk, fN_eq]
  rw [e] at hk
  obtain ⟨t, h1, h2, h3⟩ := setList_ok _ _ _ _ hk
  obtain ⟨hp, h4, h5, h6⟩ := setK_ok next (⟨0, 0, cs.length, t, el, 0⟩ : Blk) heap
  obtain ⟨nx, h7, h8⟩ := incK_ok next
  refine ⟨⟨nx, floor, hp⟩, fun k' => by rw [e, h1, h4, h7], ⟨rfl, fun hf id hid => h6 id (fun e => by rw [e] at hid; exact absurd hf (Nat.not_le.2 hid))⟩, by show B.val next ≤ B.val nx; omega, fun ρ w w0 c s cap R hl hcap hv _ => ?_⟩
  have hnone : ρ next 0 = none := by
    cases hr : ρ next 0 with
    | none => rfl
    | some L => have := R.ids _ _ _ hr; exact absurd this (Nat.lt_irrefl _)
  have hne : ∀ id g L, ρ id g = some L → ¬ (id = next) := fun id g L hr he => by
    have := R.ids _ _ _ hr; rw [he] at this; exact absurd this (Nat.lt_irrefl _)
  have hle := Emb.put_le ⟨w.heap.size, 0, cs.length, cap, none⟩ hnone
  refine ⟨ρ.put next 0 ⟨w.heap.size, 0, cs.length, cap, none⟩, Ext.put hnone R.flo, Emb.put_same _ _ _ _, ?_⟩
  have hcase : ∀ {id g L}, ρ.put next 0 ⟨w.heap.size, 0, cs.length, cap, none⟩ id g = some L → (id = next ∧ g = 0 ∧ L = ⟨w.heap.size, 0, cs.length, cap, none⟩) ∨ ρ id g = some L := by
    intro id g L hL
    by_cases e : id = next ∧ g = 0
    · left; obtain ⟨rfl, rfl⟩ := e; rw [Emb.put_same] at hL; exact ⟨rfl, rfl, (Option.some.inj hL).symm⟩
    · right; rwa [Emb.put_other _ _ _ _ e] at hL
  constructor
  · intro id g L hL
    rcases hcase hL with ⟨rfl, rfl, rfl⟩ | hL
    · refine ⟨_, h5, Nat.le_refl _, by rw [alloc_size]; exact Nat.lt_succ_self _, Nat.zero_le _, fun _ => Nat.le_refl _, fun _ => rfl, fun _ => ⟨c, el, ⟨rfl, (0, 0), alloc_get_new _ _, rfl⟩, hcap, by show cs.length - 0 ≤ cap; omega, fun i _ hi => ?_⟩⟩
      have hi' : i < cs.length := hi
      have hx : ∃ x, c[i]? = some x := ⟨c[i]'(by omega), by simp⟩
      obtain ⟨x, hx⟩ := hx
      have hvi : cs[i]? = some cs[i] := by simp [hi']
      refine ⟨cs[i], x, ?_, by simpa using hx, VRel.up hle _ _ (hv i _ _ hvi hx)⟩
      have := h2 i _ hvi
      simpa using this
    · obtain ⟨blk, a1, a2, a3, a4, a5, a6, a7⟩ := R.loc _ _ _ hL
      refine ⟨blk, (h6 id (hne _ _ _ hL)).trans a1, a2, by rw [alloc_size]; omega, a4, a5, a6, fun hm => ?_⟩
      obtain ⟨c', el', b1, b2, b3, b4⟩ := a7 hm
      refine ⟨c', el', b1.congr (alloc_get_old _ _ a3), b2, b3, fun i i1 i2 => ?_⟩
      obtain ⟨v, x, d1, d2, d3⟩ := b4 i i1 i2
      exact ⟨v, x, d1, d2, VRel.up hle _ _ d3⟩
  · intro id g L hL
    show B.val id < B.val nx
    rcases hcase hL with ⟨rfl, rfl, rfl⟩ | hL
    · rw [h8]; exact Nat.lt_succ_self _
    · have : B.val id < B.val next := R.ids _ _ _ hL
      rw [h8]; omega
  · intro id g L id' g' L' hL hL' hb
    rcases hcase hL with ⟨i1, i2, i3⟩ | hM <;> rcases hcase hL' with ⟨j1, j2, j3⟩ | hM'
    · exact ⟨i1.trans j1.symm, by rw [i3, j3]⟩
    · obtain ⟨_, _, _, a3, _⟩ := R.loc _ _ _ hM'
      rw [← hb, i3] at a3; exact absurd a3 (Nat.lt_irrefl _)
    · obtain ⟨_, _, _, a3, _⟩ := R.loc _ _ _ hM
      rw [hb, j3] at a3; exact absurd a3 (Nat.lt_irrefl _)
    · exact R.sep _ _ _ _ _ _ hM hM' hb
  · show B.val floor ≤ B.val nx
    have : B.val floor ≤ B.val next := R.flo
    rw [h8]; omega
  · intro b hb
    rw [alloc_get_old _ _ (Nat.lt_of_lt_of_le hb R.siz)]
    exact R.old b hb
  · intro id g L hL hf
    rcases hcase hL with ⟨rfl, rfl, rfl⟩ | hL
    · exact R.siz
    · exact R.up _ _ _ hL hf
  · exact R.tp
  · exact R.os
  · exact R.out
  · rw [alloc_size]; exact Nat.le_succ_of_le R.siz
  · refine R.mp.of hle fun id L blk h1 h2' c h3' => ?_
    rcases hcase h1 with ⟨rfl, _, _⟩ | hL
    · have : hp.get id = some blk := h2'
      rw [h5] at this
      rw [← Option.some.inj this] at h3'
      have h3' : 0 = 0 + kdN c := h3'
      exact absurd h3' (by cases c <;> decide)
    · obtain ⟨_, _, _, a3, _⟩ := R.loc _ _ _ hL
      exact ⟨hL, (h6 id (hne _ _ _ hL)).symm.trans h2', alloc_get_old _ _ a3⟩
  · refine R.ito.of fun id g L blk h1 h2' _ h3' => ?_
    rcases hcase h1 with ⟨rfl, _, _⟩ | hL
    · have : hp.get id = some blk := h2'
      rw [h5] at this
      rw [← Option.some.inj this] at h3'
      have h3' : 0 = 0 + 9 := h3'
      exact absurd h3' (by decide)
    · obtain ⟨_, _, _, a3, _⟩ := R.loc _ _ _ hL
      exact ⟨hL, (h6 id (hne _ _ _ hL)).symm.trans h2', alloc_get_old _ _ a3⟩
theorem add_none (b o n : Nat) : (⟨b, o, none⟩ : Addr).add n = ⟨b, o + n, none⟩ := by
  unfold Addr.add; split <;> simp_all
/-- loads -/
theorem loadN_ok {h : H} {id : B} {g off fin n : Nat} {k : List V → Bool} (hk : loadN h id g off fin n k = true) :
    ∃ vs, (∀ k', loadN h id g off fin n k' = k' vs) ∧ vs.length = n ∧
      ∀ ρ w w0 L, HRel ρ h w w0 → ρ id g = some L → L.s ≤ off → fin ≤ L.e → ∃ xs, LRel ρ vs xs ∧ (∀ (P : Program), (loadCells ⟨L.b, off - L.s, none⟩ n).run P w = .ok xs.toArray w) ∧ xs.length = n := by
  obtain ⟨next, floor, heap⟩ := h
  simp only [loadN, hK_mk] at hk
  obtain ⟨⟨cur, min, size, cells, bel, fr⟩, hb, hk⟩ := optK_ok hk
  simp only [blkK_mk] at hk
  obtain ⟨hm, hk⟩ := ifK_ok hk
  obtain ⟨hf, hk⟩ := ifK_ok hk
  obtain ⟨vs, h1, h2, h3⟩ := getList_ok _ _ _ _ hk
  refine ⟨vs, fun k' => by simp only [loadN, hK_mk, hb, optK_some, blkK_mk, hm, hf, ifK_true, h1], h2, fun ρ w w0 L R hL hs hfin => ?_⟩
  obtain ⟨blk, a1, a2, a3, a4, a5, a6, a7⟩ := R.loc _ _ _ hL
  have hbe : blk = ⟨cur, min, size, cells, bel, fr⟩ := by
    have : heap.get id = some blk := a1
    rw [hb] at this; exact (Option.some.inj this).symm
  subst hbe
  obtain ⟨c, el, b1, b2, b3, b4⟩ := a7 (Nat.le_of_ble_eq_true hm)
  have hfin' : off + n ≤ fin := Nat.le_of_ble_eq_true hf
  have hx : ∀ j, j < n → ∃ x, c[off - L.s + j]? = some x ∧ ∃ v, vs[j]? = some v ∧ VRel ρ v x := by
    intro j hj
    obtain ⟨v, x, d1, d2, d3⟩ := b4 (off + j) (by omega) (by omega)
    refine ⟨x, by rw [← d2]; congr 1; omega, v, ?_, d3⟩
    have := h3 j hj
    rw [← this]; exact d1
  refine ⟨(List.range n).map fun j => c.getD (off - L.s + j) default, ?_, fun P => ?_, by simp⟩
  · refine LRel.of_get (by simp [h2]) fun i v x hv hx' => ?_
    have hi : i < n := by
      rw [← h2]; exact (List.getElem?_eq_some_iff.1 hv).1
    obtain ⟨y, e1, v1, e2, e3⟩ := hx i hi
    rw [hv] at e2
    cases e2
    have : x = y := by
      simp [hi] at hx'
      rw [← hx']
      have hlt := (Array.getElem?_eq_some_iff.1 e1).1
      simp [hlt]
      exact (Array.getElem?_eq_some_iff.1 e1).2
    rw [this]; exact e3
  · rw [run_loadCells w ⟨L.b, off - L.s, none⟩ n (fun j => c.getD (off - L.s + j) default) (fun j hj => ?_)]
    obtain ⟨y, e1, _⟩ := hx j hj
    rw [add_none, b1.cell?, e1]
    have hlt := (Array.getElem?_eq_some_iff.1 e1).1
    congr 1
    simp [hlt]
    exact (Array.getElem?_eq_some_iff.1 e1).2.symm
theorem loadZ_pos {len n : Nat} {h : H} {id : B} {g off fin : Nat} {k : List V → Bool} (hl : 0 < len) : loadZ len n h id g off fin k = loadN h id g off fin n k := by
  cases len with
  | zero => exact absurd hl (Nat.lt_irrefl _)
  | succ l => rfl
theorem loadZ_ok {len n : Nat} (h0 : len = 0 → n = 0) {h : H} {id : B} {g off fin : Nat} {k : List V → Bool} (hk : loadZ len n h id g off fin k = true) :
    ∃ vs, (∀ k', loadZ len n h id g off fin k' = k' vs) ∧ vs.length = n ∧
      ∀ ρ w w0 L, HRel ρ h w w0 → ρ id g = some L → L.s ≤ off → fin ≤ L.e → ∃ xs, LRel ρ vs xs ∧ (∀ (P : Program), (loadCells ⟨L.b, off - L.s, none⟩ n).run P w = .ok xs.toArray w) ∧ xs.length = n := by
  cases len with
  | zero =>
    have hn := h0 rfl
    subst hn
    exact ⟨[], fun k' => rfl, rfl, fun ρ w w0 L R hL h1 h2 => ⟨[], trivial, fun P => rfl, rfl⟩⟩
  | succ l => exact loadN_ok hk
theorem loadN_cells {h : H} {id : B} {g off fin n : Nat} {vs : List V} (hk : ∀ k', loadN h id g off fin n k' = k' vs) {ρ : Emb} {w w0 : World} {L : Loc} (R : HRel ρ h w w0) (hL : ρ id g = some L) (hs : L.s ≤ off) (hfin : fin ≤ L.e) :
    ∃ xs, LRel ρ vs xs ∧ ∀ j x, xs[j]? = some x → w.cell? ⟨L.b, off - L.s + j, none⟩ = some x := by
  obtain ⟨next, floor, heap⟩ := h
  have hk0 := hk
  have hk := hk fun _ => true
  simp only [loadN, hK_mk] at hk
  obtain ⟨⟨cur, min, size, cells, bel, fr⟩, hb, hk⟩ := optK_ok hk
  simp only [blkK_mk] at hk
  obtain ⟨hm, hk⟩ := ifK_ok hk
  obtain ⟨hf, hk⟩ := ifK_ok hk
  obtain ⟨us, h1, h2, h3⟩ := getList_ok _ _ _ _ hk
  have huv : us = vs := by
    by_cases e : us = vs
    · exact e
    · classical
      have := hk0 fun l => decide (l = us)
      have e1 : loadN ⟨next, floor, heap⟩ id g off fin n (fun l => decide (l = us)) = decide (us = us) := by
        simp only [loadN, hK_mk, hb, optK_some, blkK_mk, hm, hf, ifK_true, h1]
      rw [e1] at this
      simp at this
      exact this.symm
  subst huv
  obtain ⟨blk, a1, a2, a3, a4, a5, a6, a7⟩ := R.loc _ _ _ hL
  have hbe : blk = ⟨cur, min, size, cells, bel, fr⟩ := by
    have : heap.get id = some blk := a1
    rw [hb] at this; exact (Option.some.inj this).symm
  subst hbe
  obtain ⟨c, el, b1, b2, b3, b4⟩ := a7 (Nat.le_of_ble_eq_true hm)
  have hfin' : off + n ≤ fin := Nat.le_of_ble_eq_true hf
  have hx : ∀ j, j < n → ∃ x, c[off - L.s + j]? = some x ∧ ∃ v, us[j]? = some v ∧ VRel ρ v x := by
    intro j hj
    obtain ⟨v, x, d1, d2, d3⟩ := b4 (off + j) (by omega) (by omega)
    refine ⟨x, by rw [← d2]; congr 1; omega, v, ?_, d3⟩
    have := h3 j hj
    rw [← this]; exact d1
  have hget : ∀ j x, ((List.range n).map fun j => c.getD (off - L.s + j) default)[j]? = some x → c[off - L.s + j]? = some x := by
    intro j x hx'
    have hj : j < n := by have := (List.getElem?_eq_some_iff.1 hx').1; simpa using this
    obtain ⟨y, e1, _⟩ := hx j hj
    have hlt := (Array.getElem?_eq_some_iff.1 e1).1
    simp [hj, hlt] at hx'
    rw [← hx']
    simp [hlt]
  refine ⟨(List.range n).map fun j => c.getD (off - L.s + j) default, LRel.of_get (by simp [h2]) fun i v x hv hx' => ?_, fun j x hj => by rw [b1.cell?]; exact hget j x hj⟩
  have hi : i < n := by rw [← h2]; exact (List.getElem?_eq_some_iff.1 hv).1
  obtain ⟨y, e1, v1, e2, e3⟩ := hx i hi
  rw [hv] at e2
  cases e2
  have := hget i x hx'
  rw [e1] at this
  cases this
  exact e3
theorem load1_ok {h : H} {id : B} {g off fin : Nat} {k : V → Bool} (hk : load1 h id g off fin k = true) :
    ∃ v, (∀ k', load1 h id g off fin k' = k' v) ∧
      ∀ ρ w w0 L, HRel ρ h w w0 → ρ id g = some L → L.s ≤ off → fin ≤ L.e → ∃ x, VRel ρ v x ∧ w.cell? ⟨L.b, off - L.s, none⟩ = some x := by
  obtain ⟨next, floor, heap⟩ := h
  simp only [load1, hK_mk] at hk
  obtain ⟨⟨cur, min, size, cells, bel, fr⟩, hb, hk⟩ := optK_ok hk
  simp only [blkK_mk] at hk
  obtain ⟨hm, hk⟩ := ifK_ok hk
  obtain ⟨hf, hk⟩ := ifK_ok hk
  obtain ⟨v, hv, hk⟩ := optK_ok hk
  refine ⟨v, fun k' => by simp only [load1, hK_mk, hb, optK_some, blkK_mk, hm, hf, ifK_true, hv, forceV_eq], fun ρ w w0 L R hL hs hfin => ?_⟩
  obtain ⟨blk, a1, a2, a3, a4, a5, a6, a7⟩ := R.loc _ _ _ hL
  have hbe : blk = ⟨cur, min, size, cells, bel, fr⟩ := by
    have : heap.get id = some blk := a1
    rw [hb] at this; exact (Option.some.inj this).symm
  subst hbe
  obtain ⟨c, el, b1, b2, b3, b4⟩ := a7 (Nat.le_of_ble_eq_true hm)
  have hfin' : off + 1 ≤ fin := Nat.le_of_ble_eq_true hf
  obtain ⟨v', x, d1, d2, d3⟩ := b4 off hs (by omega)
  have : v' = v := by
    have d1' : cells.getN off = some v' := d1
    rw [hv] at d1'; exact (Option.some.inj d1').symm
  subst this
  exact ⟨x, d3, by rw [b1.cell?]; exact d2⟩
theorem heap_setCells (b : Nat) : ∀ (vs : List Value) (o : Nat) (w : World) (c : Array Value) (el : TypeId) (f : Nat × Nat), w.heap[b]? = some (.cells c el f) →
    ∃ c', (w.setCells b o vs).heap[b]? = some (.cells c' el f) ∧ c'.size = c.size ∧ (∀ j, j < o ∨ o + vs.length ≤ j → c'[j]? = c[j]?) ∧ (∀ j x, vs[j]? = some x → o + j < c.size → c'[o + j]? = some x)
  | [], o, w, c, el, f, h => ⟨c, h, rfl, fun _ _ => rfl, fun j x hx => by simp at hx⟩
  | y :: r, o, w, c, el, f, h => by
    have h1 : (w.setCell ⟨b, o, none⟩ y).heap[b]? = some (.cells (c.setIfInBounds o y) el f) := by
      simp [World.setCell, Array.getElem?_modify, h]
    obtain ⟨c', e1, e2, e3, e4⟩ := heap_setCells b r (o + 1) _ _ el f h1
    refine ⟨c', e1, by simpa using e2, fun j hj => ?_, fun j x hx hs => ?_⟩
    · rw [e3 j (by simp at hj; omega), Array.getElem?_setIfInBounds]
      rw [if_neg (by simp at hj; omega)]
    · cases j with
      | zero =>
        simp at hx
        subst hx
        rw [Nat.add_zero, e3 o (Or.inl (by omega)), Array.getElem?_setIfInBounds, if_pos rfl, if_pos (by simpa using hs)]
      | succ j =>
        have := e4 j x (by simpa using hx) (by simp; omega)
        rwa [show o + 1 + j = o + (j + 1) by omega] at this
theorem heap_setCells_other (b : Nat) : ∀ (vs : List Value) (o : Nat) (w : World) (i : Nat), i ≠ b → (w.setCells b o vs).heap[i]? = w.heap[i]?
  | [], _, _, _, _ => rfl
  | y :: r, o, w, i, h => by
    rw [World.setCells, heap_setCells_other b r (o + 1) _ i h]
    simp only [World.setCell, Array.getElem?_modify]
    rw [if_neg (by simpa using fun e => h e.symm)]
theorem size_setCells (b : Nat) : ∀ (vs : List Value) (o : Nat) (w : World), (w.setCells b o vs).heap.size = w.heap.size
  | [], _, _ => rfl
  | y :: r, o, w => by
    rw [World.setCells, size_setCells b r]
    simp [World.setCell]
theorem os_setCells (b : Nat) : ∀ (vs : List Value) (o : Nat) (w : World), (w.setCells b o vs).os = w.os ∧ (w.setCells b o vs).output = w.output ∧ (w.setCells b o vs).tape = w.tape
  | [], _, _ => ⟨rfl, rfl, rfl⟩
  | y :: r, o, w => by
    rw [World.setCells]
    exact os_setCells b r _ _
/-- stores -/
theorem store_ok {h : H} {id : B} {g off fin : Nat} {vs : List V} {k : H → Bool} (hk : store h id g off fin vs k = true) :
    ∃ h', (∀ k', store h id g off fin vs k' = k' h') ∧ KeepF h h' ∧ h'.next = h.next ∧
      ∀ ρ w w0 L xs, HRel ρ h w w0 → ρ id g = some L → L.s ≤ off → fin ≤ L.e → LRel ρ vs xs →
        (∀ (P : Program), (storeCells ⟨L.b, off - L.s, none⟩ xs).run P w = .ok () (w.setCells L.b (off - L.s) xs)) ∧ HRel ρ h' (w.setCells L.b (off - L.s) xs) w0 := by
  obtain ⟨next, floor, heap⟩ := h
  have e : ∀ k', store ⟨next, floor, heap⟩ id g off fin vs k' = optK (heap.get id) fun blk => blkK blk fun cur min size cells el fr =>
    ifK (Nat.beq cur g) fun _ => ifK (Nat.ble min cur) fun _ => ifK (B.geB floor id) fun _ => ifK (Nat.ble (Nat.add off vs.length) fin) fun _ => ifK (allOne vs) fun _ => ifK (frOk fr off) fun _ =>
      setList vs off cells fun t => T.setK id ⟨cur, cur, size, t, el, fr⟩ heap fun heap => k' ⟨next, floor, heap⟩ := fun _ => rfl
  rw [e] at hk
  obtain ⟨⟨cur, min, size, cells, bel, fr⟩, hb, hk⟩ := optK_ok hk
  simp only [blkK_mk] at hk
  obtain ⟨hg, hk⟩ := ifK_ok hk
  obtain ⟨hmn, hk⟩ := ifK_ok hk
  obtain ⟨hfl, hk⟩ := ifK_ok hk
  obtain ⟨hfn, hk⟩ := ifK_ok hk
  obtain ⟨ho, hk⟩ := ifK_ok hk
  obtain ⟨hfr, hk⟩ := ifK_ok hk
  obtain ⟨t, h1, h2, h3⟩ := setList_ok _ _ _ _ hk
  obtain ⟨hp, h4, h5, h6⟩ := setK_ok id (⟨cur, cur, size, t, bel, fr⟩ : Blk) heap
  refine ⟨⟨next, floor, hp⟩, fun k' => by rw [e, hb, optK_some, blkK_mk, hg, hmn, hfl, hfn, ho, hfr]; simp only [ifK_true]; rw [h1, h4], ⟨rfl, fun hf i hi => h6 i (fun e => by rw [e] at hi; exact absurd (geB_ok hfl) (Nat.not_le.2 hi))⟩, rfl, fun ρ w w0 L xs R hL hs hfin hx => ?_⟩
  have hgc : cur = g := Nat.eq_of_beq_eq_true hg
  subst hgc
  have hlen : off + vs.length ≤ fin := Nat.le_of_ble_eq_true hfn
  have hxl := hx.length
  obtain ⟨blk, a1, a2, a3, a4, a5, a6, a7⟩ := R.loc _ _ _ hL
  have hbe : blk = ⟨cur, min, size, cells, bel, fr⟩ := by
    have : heap.get id = some blk := a1
    rw [hb] at this; exact (Option.some.inj this).symm
  subst hbe
  · obtain ⟨c, el, b1, b2, b3, b4⟩ := a7 (Nat.le_of_ble_eq_true hmn)
    have b1h := b1
    obtain ⟨b1e, fz, b1a, b1f⟩ := b1h
    obtain ⟨c', s1, s2, s3, s4⟩ := heap_setCells L.b xs (off - L.s) w c el fz b1a
    have hcs : ∀ j, j < xs.length → off - L.s + j < c.size := fun j hj => by omega
    refine ⟨fun P => ?_, ?_⟩
    · have := run_storeCells_cells (P := P) L.b (off - L.s) xs 0 w
        (fun j hj => by rw [b1.cell?]; have := hcs j hj; rw [Array.getElem?_eq_getElem (by omega)]; rfl)
        (fun j hj => by
          have hj' := hcs j (by simpa using hj)
          have : w.frozen? ⟨L.b, off - L.s + 0 + j, none⟩ = false := b1.thawed hfr (by omega) (by omega)
          exact this)
        (allOne_ok ho hx)
      simpa using this
    · constructor
      · intro i j M hM
        by_cases hi : i = id
        · subst hi
          obtain ⟨blk2, d1, d2, d3, d4, d5, d6, d7⟩ := R.loc _ _ _ hM
          have hbe2 : blk2 = ⟨cur, min, size, cells, bel, fr⟩ := by
            have : heap.get i = some blk2 := d1
            rw [hb] at this; exact (Option.some.inj this).symm
          subst hbe2
          refine ⟨⟨cur, cur, size, t, bel, fr⟩, h5, d2, by rw [size_setCells]; exact d3, d4, fun hm => d5 (.inl (Nat.le_trans (Nat.le_of_ble_eq_true hmn) (hm.elim (fun h => h) fun h => absurd h (Nat.lt_irrefl _)))), d6, fun hm => ?_⟩
          have hj : j = cur := Nat.le_antisymm d2 hm
          subst hj
          have hLM : M = L := by rw [hM] at hL; exact Option.some.inj hL
          subst hLM
          refine ⟨c', el, ⟨b1e, fz, s1, by rw [s2]; exact b1f⟩, s2.trans b2, b3, fun q q1 q2 => ?_⟩
          by_cases hq : off ≤ q ∧ q < off + vs.length
          · have hv : vs[q - off]? = some (vs[q - off]'(by omega)) := by simp
            obtain ⟨x, hx1, hx2⟩ := hx.get hv
            refine ⟨_, x, ?_, ?_, hx2⟩
            · have := h2 (q - off) _ hv
              rwa [show off + (q - off) = q by omega] at this
            · have := s4 (q - off) x hx1 (by omega)
              rwa [show off - M.s + (q - off) = q - M.s by omega] at this
          · obtain ⟨v, x, f1, f2, f3⟩ := b4 q q1 q2
            refine ⟨v, x, (h3 q (by omega)).trans f1, ?_, f3⟩
            rw [s3 (q - M.s) (by omega)]; exact f2
        · obtain ⟨blk2, d1, d2, d3, d4, d5, d6, d7⟩ := R.loc _ _ _ hM
          refine ⟨blk2, (h6 i hi).trans d1, d2, by rw [size_setCells]; exact d3, d4, d5, d6, fun hm => ?_⟩
          obtain ⟨c2, el2, f1, f2, f3, f4⟩ := d7 hm
          refine ⟨c2, el2, f1.congr ?_, f2, f3, f4⟩
          rw [heap_setCells_other]
          · intro hbb
            exact hi (R.sep _ _ _ _ _ _ hM hL hbb).1
      · exact R.ids
      · exact R.sep
      · exact R.flo
      · intro b hb'
        rw [heap_setCells_other]
        · exact R.old b hb'
        · have := R.up _ _ _ hL (geB_ok hfl)
          omega
      · exact R.up
      · rw [(os_setCells _ _ _ _).2.2]; exact R.tp
      · rw [(os_setCells _ _ _ _).1]; exact R.os
      · rw [(os_setCells _ _ _ _).2.1]; exact R.out
      · rw [size_setCells]; exact R.siz
      · refine R.mp.of (Emb.le_refl ρ) fun i M blk2 hM h2' kc h3' => ?_
        by_cases hi : i = id
        · subst hi
          have : hp.get i = some blk2 := h2'
          rw [h5] at this
          rw [← Option.some.inj this] at h3'
          have h3' : cur = cur + kdN kc := h3'
          have := kdN_pos kc
          omega
        · refine ⟨hM, (h6 i hi).symm.trans h2', heap_setCells_other _ _ _ _ _ fun hbb => ?_⟩
          exact hi (R.sep _ _ _ _ _ _ hM hL hbb).1
      · refine R.ito.of fun i j M blk2 hM h2' _ h3' => ?_
        by_cases hi : i = id
        · subst hi
          have : hp.get i = some blk2 := h2'
          rw [h5] at this
          rw [← Option.some.inj this] at h3'
          have h3' : cur = cur + 9 := h3'
          omega
        · refine ⟨hM, (h6 i hi).symm.trans h2', heap_setCells_other _ _ _ _ _ fun hbb => ?_⟩
          exact hi (R.sep _ _ _ _ _ _ hM hL hbb).1
end Go.Ev

set_option linter.all false
namespace Go.Ev
open Go
theorem kdEq_ok {a b : IntKind} (h : kdEq a b = true) : a = b := by
  cases a <;> cases b <;> first | rfl | exact Bool.noConfusion h
theorem ltI_eq (a b : Int) : ltI a b = decide (a < b) := by
  have e : ∀ {x y : Bool}, (x = true ↔ y = true) → x = y := by intro x y h; cases x <;> cases y <;> simp_all
  cases a <;> cases b <;> apply e
  · rename_i m n; show Nat.ble (m + 1) n = true ↔ _; rw [Nat.ble_eq]; simp; omega
  · rename_i m n; show false = true ↔ _; simp; omega
  · rename_i m n; show true = true ↔ _; simp; omega
  · rename_i m n; show Nat.ble (n + 1) m = true ↔ _; rw [Nat.ble_eq]; simp; omega
theorem eqI_eq (a b : Int) : eqI a b = (a == b) := by
  have e : ∀ {x y : Bool}, (x = true ↔ y = true) → x = y := by intro x y h; cases x <;> cases y <;> simp_all
  cases a <;> cases b <;> apply e
  · rename_i m n; show Nat.beq m n = true ↔ _; rw [Nat.beq_eq]; simp; omega
  · rename_i m n; show false = true ↔ _; simp
  · rename_i m n; show false = true ↔ _; simp
  · rename_i m n; show Nat.beq m n = true ↔ _; rw [Nat.beq_eq]; simp
theorem wrap_small (k : IntKind) (m : Nat) (h : m ≤ mxOf k) : k.wrap (Int.ofNat m) = Int.ofNat m := by
  have key : ∀ (B : Nat) (sg : Bool), (m : Int) < (2 ^ B : Int) → (sg = true → (m : Int) < 2 ^ (B - 1)) →
      (let r := (m : Int) % (2 ^ B : Int); if sg && r ≥ (2 ^ (B - 1) : Int) then r - (2 ^ B : Int) else r) = (m : Int) := by
    intro B sg h1 h2
    have e : (m : Int) % (2 ^ B : Int) = m := Int.emod_eq_of_lt (by omega) h1
    simp only [e]
    cases sg with
    | false => simp
    | true =>
      have := h2 rfl
      rw [if_neg]
      simp
      omega
  cases k <;> simp only [mxOf] at h
  · exact key 8 true (by omega) (by intro _; omega)
  · exact key 16 true (by omega) (by intro _; omega)
  · exact key 32 true (by omega) (by intro _; omega)
  · exact key 64 true (by omega) (by intro _; omega)
  · exact key 8 false (by omega) (by intro hf; cases hf)
  · exact key 16 false (by omega) (by intro hf; cases hf)
  · exact key 32 false (by omega) (by intro hf; cases hf)
  · exact key 64 false (by omega) (by intro hf; cases hf)
theorem wrapF_eq (n : Int) (kd : IntKind) (k : V → Bool) : wrapF n kd (mxOf kd) k = k (.i kd (kd.wrap n)) := by
  cases n with
  | ofNat m =>
    show wrapB (Nat.ble m (mxOf kd)) kd m k = _
    cases hb : Nat.ble m (mxOf kd) with
    | true =>
      show fN m _ = _
      rw [fN_eq, wrap_small kd m (Nat.le_of_ble_eq_true hb)]
    | false =>
      show forceI _ _ = _
      rw [forceI_eq]
  | negSucc m =>
    show forceI _ _ = _
    rw [forceI_eq]
noncomputable def oV (o : O) (t : F) : V := O.rec (fun s t => sGet s t) (fun v _ => v) o t
@[simp] theorem oK_eq (o : O) (t : F) (k : V → Bool) : oK o t k = k (oV o t) := by
  cases o with
  | t s => show forceV _ _ = _; rw [forceV_eq]; rfl
  | c v => rfl
@[simp] theorem oE_eq (o : O) (t : F) (k : V → Bool) : oE o t k = k (oV o t) := by
  cases o with
  | t s => rfl
  | c v => rfl
/-- what the function that runs has deferred so far -/
class DefL where
  d : List Deferred
/-- nothing, where nothing else is said -/
instance defNil : DefL := ⟨[]⟩
variable [DefL]
structure ARel (ρ : Emb) (nt : Nat) (t : F) (a : Act) : Prop where
  defers : a.defers = DefL.d
  size : a.tmps.size = nt
  slot : ∀ n, n < 512 → VRel ρ (sGet (slOf n) t) (a.tmps.getD n undef)
theorem ofConst_rel (ρ : Emb) (v : Value) : VRel ρ (ofConst v) v := by
  unfold ofConst
  split
  · rfl
  · rfl
  · rfl
  · rfl
  · exact ⟨_, rfl, rfl, rfl⟩
  · rfl
  · rfl
  · rfl
  · rename_i r
    cases r <;> first | rfl | trivial
  · trivial
theorem opnd_rel {ρ : Emb} {nt : Nat} {t : F} {a : Act} (A : ARel ρ nt t a) (x : Operand) : VRel ρ (oV (compO x) t) (a.eval x) := by
  cases x with
  | tmp n =>
    show VRel ρ (oV (match Nat.ble (n + 1) 512 with | true => .t (slOf n) | false => .c .u) t) _
    cases hn : Nat.ble (n + 1) 512 with
    | true => exact A.slot n (Nat.le_of_ble_eq_true hn)
    | false => trivial
  | const v => exact ofConst_rel ρ v
  | global g => trivial
  | func f => exact ⟨#[], rfl, trivial⟩
theorem evalsK_ok : ∀ (os : List Operand) (t : F) (k : List V → Bool), evalsK (os.map compO) t k = k (os.map fun x => oV (compO x) t)
  | [], _, _ => rfl
  | x :: r, t, k => by
    have e : evalsK ((x :: r).map compO) t k = oK (compO x) t fun v => evalsK (r.map compO) t fun vs => k (v :: vs) := rfl
    rw [e, oK_eq, evalsK_ok r]
    rfl
theorem tyAt_ok {P : Program} {t : TypeId} {ty : Ty} (h : tyAt P t = some ty) :
    ∃ i, P.info? t = some i ∧ i.size = ty.size ∧ i.bytes = ty.bytes ∧ zeroOf i.zero = ty.zero ∧ P.underlying t = some ty.desc := by
  have look : ∀ {u : Nat} {i : TypeInfo}, P.types.toList[u]? = some i → P.info? u = some i := by
    intro u i hu
    have hu' : P.types[u]? = some i := by simpa using hu
    have hlt : u < P.types.size := (Array.getElem?_eq_some_iff.1 hu').1
    simp only [Tables.info?, hlt, if_true]
    exact hu'
  unfold tyAt at h
  split at h
  · cases h
  · rename_i i hi
    split at h
    · rename_i nm u hd
      split at h
      · cases h
      · rename_i j hj
        cases h
        refine ⟨i, look hi, rfl, rfl, rfl, ?_⟩
        unfold Program.underlying
        rw [look hi]
        obtain ⟨d, s1, s2, s3, s4, s5, s6, s7, s8, s9⟩ := i
        simp only at hd
        subst hd
        simp only [look hj, Option.map_some]
    · rename_i d hd
      cases h
      refine ⟨i, look hi, rfl, rfl, rfl, ?_⟩
      unfold Program.underlying
      rw [look hi]
      obtain ⟨d, s1, s2, s3, s4, s5, s6, s7, s8, s9⟩ := i
      cases d <;> first | rfl | (exact absurd rfl (hd _ _))
theorem run_isAgg {P : Program} {t : TypeId} {d : TypeDesc} (h : P.underlying t = some d) (w : World) : (isAgg t).run P w = .ok (isAggD d) w := by
  unfold isAgg
  simp only [Sem.run_bind, run_underlying h, Result.andThen_ok]
  cases d <;> rfl
theorem run_sizeOf' {P : Program} {t : TypeId} {i : TypeInfo} (h : P.info? t = some i) (w : World) : (sizeOf t).run P w = .ok i.size w := by
  have hp : (program : Sem Program).run P w = .ok P w := rfl
  unfold sizeOf typeInfo
  simp only [Sem.run_bind, hp, Result.andThen_ok, h]
  rfl
theorem run_typeInfo' {P : Program} {t : TypeId} {i : TypeInfo} (h : P.info? t = some i) (w : World) : (typeInfo t).run P w = .ok i w := by
  have hp : (program : Sem Program).run P w = .ok P w := rfl
  unfold typeInfo
  simp only [Sem.run_bind, hp, Result.andThen_ok, h]
  rfl
theorem run_zero' {P : Program} {t : TypeId} {i : TypeInfo} {v : Value} (h : P.info? t = some i) (hz : i.zero = some v) (w : World) : (zeroValue t).run P w = .ok v w := by
  unfold zeroValue
  simp [Sem.run_bind, run_typeInfo' h, hz]
theorem zero_rel {ρ : Emb} {z : Option Value} (h : 1 ≤ (zeroOf z).length) : ∃ v, z = some v ∧ LRel ρ (zeroOf z) v.cells.toList := by
  unfold zeroOf at h ⊢
  split at h
  · rename_i cs
    refine ⟨_, rfl, ?_⟩
    show LRel ρ _ cs
    clear h
    induction cs with
    | nil => trivial
    | cons c cs ih => exact ⟨ofConst_rel ρ c, ih⟩
  · rename_i v hv
    refine ⟨v, rfl, ?_⟩
    have : v.cells = #[v] := by
      cases v <;> first | rfl | exact absurd rfl (hv _)
    simp only [this]
    exact ⟨ofConst_rel ρ v, trivial⟩
  · simp at h
def NxOk (P : Program) (nx : Next) (w : World) (Post : Value → World → Prop) : Prop :=
  match nx with
  | .value x => Post x w
  | .skip => Post undef w
  | .enter f args => Calls P f args w fun e w' => ∃ x, e = .returned x ∧ Post x w'
  | _ => False
def Done (f : B) (ρ : Emb) (w0 : World) (v : V) (h : H) (x : Value) (w : World) : Prop := ∃ ρ', Ext f ρ ρ' ∧ VRel ρ' v x ∧ HRel ρ' h w w0
/-- the operands alone -/
def ORel (ρ : Emb) (t : F) (a : Act) (os : List Operand) : Prop := ∀ x ∈ os, VRel ρ (oV (compO x) t) (a.eval x)
theorem ARel.ops {ρ : Emb} {nt : Nat} {t : F} {a : Act} (A : ARel ρ nt t a) (os : List Operand) : ORel ρ t a os := fun x _ => opnd_rel A x
theorem ORel.list {ρ : Emb} {t : F} {a : Act} : ∀ {os : List Operand}, ORel ρ t a os → LRel ρ (os.map fun x => oV (compO x) t) (os.map a.eval)
  | [], _ => trivial
  | x :: r, A => ⟨A x (by simp), ORel.list fun y hy => A y (by simp [hy])⟩
def OpSound (P : Program) (o : Oper) (t : F) (h : H) (v : V) (h' : H) : Prop :=
  ∀ ρ a w w0, ORel ρ t a o.op.operands.toList → HRel ρ h w w0 → ∃ nx w1, (execOp a.eval o).run P w = .ok nx w1 ∧ NxOk P nx w1 (Done h.floor ρ w0 v h')
/-- of an operation that touches no memory -/
def CalmSound (P : Program) (o : Oper) (t : F) (v : V) : Prop := ∀ ρ a w, ORel ρ t a o.op.operands.toList → ∃ x, (execOp a.eval o).run P w = .ok (.value x) w ∧ VRel ρ v x
def CfOk (P : Program) (cf : CallF) : Prop := ∀ f vs h k, cf f vs h k = true → ∃ v h', (∀ k', cf f vs h k' = k' v h') ∧ KeepF h h' ∧ B.val h.next ≤ B.val h'.next ∧
  ∀ ρ w w0 args, LRel ρ vs args → HRel ρ h w w0 →
    (callFunc f args.toArray).run P w = .ok (.enter f args.toArray) w ∧ Calls P f args.toArray w fun e w' => ∃ x, e = .returned x ∧ Done h.floor ρ w0 v h' x w'
def RunOk (P : Program) (o : Oper) (r : Run) : Prop := ∀ cf, CfOk P cf → ∀ t h k, r cf t h k = true →
  ∃ v h', (∀ k', r cf t h k' = k' v h') ∧ KeepF h h' ∧ B.val h.next ≤ B.val h'.next ∧ OpSound P o t h v h' ∧ (still P o.op = true → h' = h ∧ CalmSound P o t v)
theorem no_ok (P : Program) (o : Oper) : RunOk P o noRun := fun _ _ _ _ _ h => Bool.noConfusion h
/-- an operation that reads memory and leaves it alone -/
theorem RunOk.pure {P : Program} {o : Oper} {r : Run} (hs : still P o.op = false) (hr : ∀ cf t h k, r cf t h k = true → ∃ v, (∀ k', r cf t h k' = k' v h) ∧
    ∀ ρ a, ORel ρ t a o.op.operands.toList → ∀ w w0, HRel ρ h w w0 → ∃ x, (execOp a.eval o).run P w = .ok (.value x) w ∧ VRel ρ v x) : RunOk P o r := by
  intro cf _ t h k hk
  obtain ⟨v, h1, h2⟩ := hr cf t h k hk
  refine ⟨v, h, h1, KeepF.refl h, Nat.le_refl _, fun ρ a w w0 A R => ?_, fun hc => by rw [hs] at hc; cases hc⟩
  obtain ⟨x, h3, h4⟩ := h2 ρ a A w w0 R
  exact ⟨_, _, h3, ρ, Ext.refl _ ρ, h4, R⟩
/-- an operation that makes a value out of values -/
theorem RunOk.calm {P : Program} {o : Oper} {r : Run} (hr : ∀ cf t h k, r cf t h k = true → ∃ v, (∀ k', r cf t h k' = k' v h) ∧
    ∀ ρ a, ORel ρ t a o.op.operands.toList → ∀ w, ∃ x, (execOp a.eval o).run P w = .ok (.value x) w ∧ VRel ρ v x) : RunOk P o r := by
  intro cf _ t h k hk
  obtain ⟨v, h1, h2⟩ := hr cf t h k hk
  refine ⟨v, h, h1, KeepF.refl h, Nat.le_refl _, fun ρ a w w0 A R => ?_, fun _ => ⟨rfl, fun ρ a w A => h2 ρ a A w⟩⟩
  obtain ⟨x, h3, h4⟩ := h2 ρ a A w
  exact ⟨_, _, h3, ρ, Ext.refl _ ρ, h4, R⟩
theorem Sem.run_pure' {α : Type} (P : Program) (x : α) (w : World) : (pure x : Sem α).run P w = .ok x w := rfl
theorem run_v (P : Program) (s : Sem Value) (w : World) : (do pure (Next.value (← s)) : Sem Next).run P w = (s.run P w).andThen fun x w' => .ok (.value x) w' := by
  rw [Sem.run_bind]; rfl
theorem move_ok (P : Program) (o : Oper) (x : Operand) (h : o.op = .move x ∨ o.op = .assign x) : RunOk P o (doMove (compO x)) :=
  RunOk.calm fun cf t hp k _ => ⟨oV (compO x) t, fun k' => by simp [doMove], fun ρ a A w => ⟨a.eval x, by
    unfold execOp
    rcases h with h | h <;> rw [h] <;> rfl, A x (by rcases h with h | h <;> rw [h] <;> simp [Op.operands])⟩⟩
theorem vB_ok {v : V} {k : Bool → Bool} (h : vB v k = true) : ∃ x, v = .b x ∧ k x = true := by
  cases v <;> first | exact ⟨_, rfl, h⟩ | exact Bool.noConfusion h
theorem vI_ok {v : V} {k : IntKind → Int → Bool} (h : vI v k = true) : ∃ kd n, v = .i kd n ∧ k kd n = true := by
  cases v <;> first | exact ⟨_, _, rfl, h⟩ | exact Bool.noConfusion h
theorem vIR_ok {v : V} {k : IntKind → Int → Bool} {q : IntKind → Nat → Nat → Nat → Bool} (h : vIR v k q = true) : (∃ kd n, v = .i kd n ∧ k kd n = true) ∨ ∃ kd m r hi, v = .r kd m r hi ∧ q kd m r hi = true := by
  cases v <;> first | exact .inl ⟨_, _, rfl, h⟩ | exact .inr ⟨_, _, _, _, rfl, h⟩ | exact Bool.noConfusion h
@[simp] theorem vIR_i (kd : IntKind) (n : Int) (k : IntKind → Int → Bool) (q : IntKind → Nat → Nat → Nat → Bool) : vIR (.i kd n) k q = k kd n := rfl
@[simp] theorem vIR_r (kd : IntKind) (m r hi : Nat) (k : IntKind → Int → Bool) (q : IntKind → Nat → Nat → Nat → Bool) : vIR (.r kd m r hi) k q = q kd m r hi := rfl
theorem vP_ok {v : V} {k : B → Nat → Nat → Nat → Bool} (h : vP v k = true) : ∃ id g off fin, v = .p id g off fin ∧ k id g off fin = true := by
  cases v <;> first | exact ⟨_, _, _, _, rfl, h⟩ | exact Bool.noConfusion h
theorem vA_ok {v : V} {k : List V → Bool} (h : vA v k = true) : ∃ cs, v = .a cs ∧ k cs = true := by
  cases v <;> first | exact ⟨_, rfl, h⟩ | exact Bool.noConfusion h
theorem vT_ok {v : V} {k : List V → Bool} (h : vT v k = true) : ∃ cs, v = .tu cs ∧ k cs = true := by
  cases v <;> first | exact ⟨_, rfl, h⟩ | exact Bool.noConfusion h
theorem vL_ok {v : V} {z : Unit → Bool} {k : B → Nat → Nat → Nat → Nat → Option Nat → Bool} (h : vL v z k = true) :
    (v = .l0 ∧ z () = true) ∨ ∃ id g off len fin cap, v = .l id g off len fin cap ∧ k id g off len fin cap = true := by
  cases v <;> first | exact .inl ⟨rfl, h⟩ | exact .inr ⟨_, _, _, _, _, _, rfl, h⟩ | exact Bool.noConfusion h
theorem vS_ok {v : V} {k : Nat → Nat → Bool} (h : vS v k = true) : ∃ l n, v = .s l n ∧ k l n = true := by
  cases v <;> first | exact ⟨_, _, rfl, h⟩ | exact Bool.noConfusion h
theorem vF_ok {v : V} {k : FuncId → List V → Bool} (h : vF v k = true) : ∃ f cs, v = .f f cs ∧ k f cs = true := by
  cases v <;> first | exact ⟨_, _, rfl, h⟩ | exact Bool.noConfusion h
@[simp] theorem vF_f (f : FuncId) (cs : List V) (k : FuncId → List V → Bool) : vF (.f f cs) k = k f cs := rfl
@[simp] theorem vS_s (l n : Nat) (k : Nat → Nat → Bool) : vS (.s l n) k = k l n := rfl
theorem knownV_ok {v : V} (h : knownV v = true) : v ≠ .u := by
  rintro rfl; exact Bool.noConfusion h
@[simp] theorem vB_b (x : Bool) (k : Bool → Bool) : vB (.b x) k = k x := rfl
@[simp] theorem vI_i (kd : IntKind) (n : Int) (k : IntKind → Int → Bool) : vI (.i kd n) k = k kd n := rfl
@[simp] theorem vP_p (id : B) (g off fin : Nat) (k : B → Nat → Nat → Nat → Bool) : vP (.p id g off fin) k = k id g off fin := rfl
@[simp] theorem vA_a (cs : List V) (k : List V → Bool) : vA (.a cs) k = k cs := rfl
@[simp] theorem vT_tu (cs : List V) (k : List V → Bool) : vT (.tu cs) k = k cs := rfl
@[simp] theorem vL_l0 (z : Unit → Bool) (k : B → Nat → Nat → Nat → Nat → Option Nat → Bool) : vL .l0 z k = z () := rfl
@[simp] theorem vL_l (id : B) (g off len fin : Nat) (cap : Option Nat) (z : Unit → Bool) (k : B → Nat → Nat → Nat → Nat → Option Nat → Bool) : vL (.l id g off len fin cap) z k = k id g off len fin cap := rfl
theorem fB_eq (b : Bool) (k : V → Bool) : fB b k = k (.b b) := by cases b <;> rfl
theorem pick_ok (P : Program) (o : Oper) (c x y : Operand) (h : o.op = .pick c x y) : RunOk P o (doPick (compO c) (compO x) (compO y)) := by
  refine RunOk.calm fun cf t hp k hk => ?_
  simp only [doPick, oK_eq, oE_eq] at hk
  obtain ⟨b, hb, hk⟩ := vB_ok hk
  refine ⟨if b then oV (compO x) t else oV (compO y) t, fun k' => by simp only [doPick, oK_eq, oE_eq, hb, vB_b]; cases b <;> rfl, fun ρ a A w => ?_⟩
  have hc := (A c (by rw [h]; simp [Op.operands]))
  rw [hb] at hc
  have hc' : a.eval c = .bool b := hc
  refine ⟨if b then a.eval x else a.eval y, ?_, ?_⟩
  · unfold execOp; rw [h]; simp only [hc']; cases b <;> rfl
  · cases b
    · exact (A y (by rw [h]; simp [Op.operands]))
    · exact (A x (by rw [h]; simp [Op.operands]))
theorem box_ok (P : Program) (o : Oper) (el : TypeId) (x : Operand) (h : o.op = .box el x) : RunOk P o (doBox el (compO x)) := by
  intro cf _ t hp k hk
  simp only [doBox, oK_eq, oE_eq] at hk
  obtain ⟨hu, hk⟩ := ifK_ok hk
  obtain ⟨h', h1, h2, h3, h4⟩ := alloc_ok hk
  refine ⟨.p hp.next 0 0 (cells (oV (compO x) t)).length, h', fun k' => by simp only [doBox, oK_eq, oE_eq, hu, ifK_true, h1], h2, h3, fun ρ a w w0 A R => ?_, fun hs => by rw [h] at hs; exact Bool.noConfusion hs⟩
  have hc := cells_rel (knownV_ok hu) (A x (by rw [h]; simp [Op.operands]))
  obtain ⟨ρ', e1, e2, e3⟩ := h4 ρ w w0 (a.eval x).cells 0 _ R (by rw [hc.length]; simp) rfl
    (fun i v y hv hy => by obtain ⟨z, d1, d2⟩ := hc.get hv; have : some z = some y := by rw [← d1, ← hy, Array.getElem?_toList]
                           cases this; exact d2) rfl
  exact ⟨.value (.pointer (some ⟨w.heap.size, 0, none⟩)), w.alloc (.cells (a.eval x).cells el), by unfold execOp; rw [h]; rfl, ρ', e1, ⟨_, e2, by simp, Nat.zero_le _, Nat.le_refl _⟩, e3⟩
theorem zalloc_ok (P : Program) (o : Oper) (el : TypeId) (h : o.op = .alloc el) : RunOk P o (CR.rec (fun r => r) (compAlloc el (tyAt P el))) := by
  cases ht : tyAt P el with
  | none => exact no_ok P o
  | some ty =>
    obtain ⟨size, bytes, d, z⟩ := ty
    cases hc : (Nat.beq z.length size && Nat.ble 1 size) with
    | false =>
      have : compAlloc el (some ⟨size, bytes, d, z⟩) = ⟨noRun⟩ := by simp only [compAlloc, hc]
      rw [this]; exact no_ok P o
    | true =>
      have : compAlloc el (some ⟨size, bytes, d, z⟩) = ⟨doAlloc el z⟩ := by simp only [compAlloc, hc]
      rw [this]
      show RunOk P o (doAlloc el z)
      simp only [Bool.and_eq_true] at hc
      obtain ⟨i, i1, i2, i3, i4, i5⟩ := tyAt_ok ht
      intro cf _ t hp k hk
      simp only [doAlloc] at hk
      obtain ⟨h', h1, h2, h3, h4⟩ := alloc_ok hk
      refine ⟨.p hp.next 0 0 z.length, h', fun k' => by simp only [doAlloc, h1], h2, h3, fun ρ a w w0 A R => ?_, fun hs => by rw [h] at hs; exact Bool.noConfusion hs⟩
      have hl : 1 ≤ (zeroOf i.zero).length := by
        rw [i4]; have e1 := Nat.eq_of_beq_eq_true hc.1; have e2 := Nat.le_of_ble_eq_true hc.2; simp only; omega
      obtain ⟨v, v1, v2⟩ := zero_rel (ρ := ρ) hl
      rw [i4] at v2
      obtain ⟨ρ', e1, e2, e3⟩ := h4 ρ w w0 v.cells 0 _ R (by have := v2.length; simp at this; omega) rfl
        (fun i v y hv hy => by obtain ⟨z, d1, d2⟩ := v2.get hv; have : some z = some y := by rw [← d1, ← hy, Array.getElem?_toList]
                               cases this; exact d2) rfl
      refine ⟨.value (.pointer (some ⟨w.heap.size, 0, none⟩)), w.alloc (.cells v.cells el), ?_, ρ', e1, ⟨_, e2, by simp, Nat.zero_le _, Nat.le_refl _⟩, e3⟩
      unfold execOp
      rw [h]
      simp only [run_v, Instr.alloc, Sem.run_bind, run_zero' i1 v1, Result.andThen_ok]
      rfl
theorem sureAddr_run (P : Program) (a : Addr) (w : World) : (Instr.sureAddr (.pointer (some a))).run P w = .ok a w := rfl
theorem load_ok (P : Program) (o : Oper) (el : TypeId) (x : Operand) (h : o.op = .load el x) : RunOk P o (CR.rec (fun r => r) (compLoad (tyAt P el) (compO x))) := by
  cases ht : tyAt P el with
  | none => exact no_ok P o
  | some ty =>
    obtain ⟨size, bytes, d, z⟩ := ty
    obtain ⟨i, i1, i2, i3, i4, i5⟩ := tyAt_ok ht
    cases hd : isAggD d with
    | true =>
      have : compLoad (some ⟨size, bytes, d, z⟩) (compO x) = ⟨doLoadA size (compO x)⟩ := by simp only [compLoad, hd]
      rw [this]
      show RunOk P o (doLoadA size (compO x))
      refine RunOk.pure (by rw [h]; rfl) fun cf t hp k hk => ?_
      simp only [doLoadA, oK_eq, oE_eq] at hk
      obtain ⟨id, g, off, fin, hv, hk⟩ := vP_ok hk
      obtain ⟨vs, h1, h2, h3⟩ := loadN_ok hk
      refine ⟨.a vs, fun k' => by simp only [doLoadA, oK_eq, oE_eq, hv, vP_p, h1], fun ρ a A w w0 R => ?_⟩
      have hx := (A x (by rw [h]; simp [Op.operands]))
      rw [hv] at hx
      obtain ⟨L, l1, l2, l3, l4⟩ := hx
      obtain ⟨xs, x1, x2, x3⟩ := h3 ρ w w0 L R l1 l3 l4
      refine ⟨.agg xs.toArray, ?_, _, rfl, by simpa using x1⟩
      unfold execOp
      rw [h]
      simp only [run_v, Instr.loadAt, l2, Sem.run_bind, sureAddr_run, Result.andThen_ok, loadVar, run_isAgg i5, hd, if_true, run_sizeOf' i1, i2, x2]
      rfl
    | false =>
      have : compLoad (some ⟨size, bytes, d, z⟩) (compO x) = ⟨doLoad (compO x)⟩ := by simp only [compLoad, hd]
      rw [this]
      show RunOk P o (doLoad (compO x))
      refine RunOk.pure (by rw [h]; rfl) fun cf t hp k hk => ?_
      simp only [doLoad, oK_eq, oE_eq] at hk
      obtain ⟨id, g, off, fin, hv, hk⟩ := vP_ok hk
      obtain ⟨v, h1, h2⟩ := load1_ok hk
      refine ⟨v, fun k' => by simp only [doLoad, oK_eq, oE_eq, hv, vP_p, h1], fun ρ a A w w0 R => ?_⟩
      have hx := (A x (by rw [h]; simp [Op.operands]))
      rw [hv] at hx
      obtain ⟨L, l1, l2, l3, l4⟩ := hx
      obtain ⟨y, y1, y2⟩ := h2 ρ w w0 L R l1 l3 l4
      refine ⟨y, ?_, y1⟩
      unfold execOp
      rw [h]
      simp only [run_v, Instr.loadAt, l2, Sem.run_bind, sureAddr_run, Result.andThen_ok, loadVar, run_isAgg i5, hd, Bool.false_eq_true, if_false, run_load, y2]
      rfl
theorem storeop_ok (P : Program) (o : Oper) (el : TypeId) (x y : Operand) (h : o.op = .store el x y) : RunOk P o (CR.rec (fun r => r) (compStore (tyAt P el) (compO x) (compO y))) := by
  cases ht : tyAt P el with
  | none => exact no_ok P o
  | some ty =>
    obtain ⟨size, bytes, d, z⟩ := ty
    obtain ⟨i, i1, i2, i3, i4, i5⟩ := tyAt_ok ht
    show RunOk P o (doStore size (compO x) (compO y))
    intro cf _ t hp k hk
    simp only [doStore, oK_eq, oE_eq] at hk
    obtain ⟨id, g, off, fin, hv, hk⟩ := vP_ok hk
    obtain ⟨hl, hk⟩ := ifK_ok hk
    obtain ⟨h', h1, h2, h3, h4⟩ := store_ok hk
    have hu : oV (compO y) t ≠ .u := by
      intro e
      rw [e] at hk
      simp only [store] at hk
      generalize hp = hp' at hk
      obtain ⟨a1, a2, a3⟩ := hp'
      simp only [hK_mk] at hk
      obtain ⟨⟨b1, b2, b3, b4, b5, b6⟩, _, hk⟩ := optK_ok hk
      simp only [blkK_mk] at hk
      have := (ifK_ok (ifK_ok (ifK_ok (ifK_ok (ifK_ok hk).2).2).2).2).1
      exact Bool.noConfusion this
    refine ⟨.tu [], h', fun k' => by simp only [doStore, oK_eq, oE_eq, hv, vP_p, hl, ifK_true, h1], h2, by rw [h3]; exact Nat.le_refl _, fun ρ a w w0 A R => ?_, fun hs => by rw [h] at hs; exact Bool.noConfusion hs⟩
    have hx := (A x (by rw [h]; simp [Op.operands]))
    rw [hv] at hx
    obtain ⟨L, l1, l2, l3, l4⟩ := hx
    have hc := cells_rel hu (A y (by rw [h]; simp [Op.operands]))
    obtain ⟨s1, s2⟩ := h4 ρ w w0 L _ R l1 l3 l4 hc
    have hsz : (a.eval y).cells.size = i.size := by
      have := hc.length
      have e := Nat.eq_of_beq_eq_true hl
      simp at this
      rw [i2]; simp only; omega
    refine ⟨.skip, _, ?_, ρ, Ext.refl _ ρ, ⟨#[], rfl, trivial⟩, s2⟩
    unfold execOp
    rw [h]
    simp only [Instr.storeAt, l2, Sem.run_bind, sureAddr_run, Result.andThen_ok, storeVar, run_sizeOf' i1, hsz, ne_eq, not_true_eq_false, if_false, s1]
    rfl
end Go.Ev

set_option linter.all false
namespace Go.Ev
open Go
@[simp] theorem runK_mk (r : Run) : runK ⟨r⟩ = r := rfl
theorem fieldAddr_ok (P : Program) (o : Oper) (st : TypeId) (x : Operand) (n : Nat) (h : o.op = .fieldAddr st x n) : RunOk P o (runK (compFieldAddr P (tyAt P st) n (compO x))) := by
  cases ht : tyAt P st with
  | none => exact no_ok P o
  | some ty =>
    obtain ⟨size, bytes, d, z⟩ := ty
    cases d <;> try exact no_ok P o
    rename_i fs
    obtain ⟨i, i1, i2, i3, i4, i5⟩ := tyAt_ok ht
    cases hf : fs.toList[n]? with
    | none => simp only [compFieldAddr, hf]; exact no_ok P o
    | some f =>
      cases hft : tyAt P f.type with
      | none => simp only [compFieldAddr, hf, hft]; exact no_ok P o
      | some fty =>
        obtain ⟨fsz, fb, fd, fz⟩ := fty
        cases fsz with
        | zero => simp only [compFieldAddr, hf, hft]; exact no_ok P o
        | succ fsz =>
          simp only [compFieldAddr, hf, hft, runK_mk]
          obtain ⟨j, j1, j2, j3, j4, j5⟩ := tyAt_ok hft
          refine RunOk.calm fun cf t hp k hk => ?_
          simp only [doFieldAddr, oK_eq, oE_eq] at hk
          obtain ⟨id, g, off, fin, hv, hk⟩ := vP_ok hk
          refine ⟨.p id g (off + f.offset) fin, fun k' => by simp only [doFieldAddr, oK_eq, oE_eq, hv, vP_p, fN_eq]; rfl, fun ρ a A w => ?_⟩
          have hx := (A x (by rw [h]; simp [Op.operands]))
          rw [hv] at hx
          obtain ⟨L, l1, l2, l3, l4⟩ := hx
          have hf' : fs[n]? = some f := by simpa using hf
          refine ⟨.pointer (some ⟨L.b, off + f.offset - L.s, none⟩), ?_, L, l1, rfl, by omega, l4⟩
          unfold execOp
          rw [h]
          have hz : ¬ (j.size = 0) := by rw [j2]; simp
          simp only [run_v, Instr.fieldAt, l2, Sem.run_bind, run_underlying i5, Result.andThen_ok, hf', sureAddr_run, fieldPlace, run_sizeOf' j1, hz, if_false]
          simp only [add_none, show off - L.s + f.offset = off + f.offset - L.s by omega]
          rfl
theorem run_part {P : Program} {t : TypeId} {i : TypeInfo} {d : TypeDesc} (hi : P.info? t = some i) (hu : P.underlying t = some d) (cs : Array Value) (off : Nat) (w : World) :
    (part t cs off).run P w = if isAggD d then .ok (.agg (cs.extract off (off + i.size))) w else match cs[off]? with
      | some v => .ok v w
      | none => (stuck "part: no such cell" : Sem Value).run P w := by
  unfold part
  simp only [Sem.run_bind, run_isAgg hu, Result.andThen_ok]
  cases isAggD d with
  | true => simp only [if_true, Sem.run_bind, run_sizeOf' hi, Result.andThen_ok]; rfl
  | false => simp only [Bool.false_eq_true, if_false]; cases cs[off]? <;> rfl
theorem extract_list (cs : Array Value) (off n : Nat) : (cs.extract off (off + n)).toList = (cs.toList.drop off).take n := by
  simp only [Array.toList_extract, List.extract_eq_take_drop, Nat.add_sub_cancel_left]
theorem field_ok (P : Program) (o : Oper) (st : TypeId) (x : Operand) (n : Nat) (h : o.op = .field st x n) : RunOk P o (runK (compField P (tyAt P st) n (compO x))) := by
  cases ht : tyAt P st with
  | none => exact no_ok P o
  | some ty =>
    obtain ⟨size, bytes, d, z⟩ := ty
    cases d <;> try exact no_ok P o
    rename_i fs
    obtain ⟨i, i1, i2, i3, i4, i5⟩ := tyAt_ok ht
    cases hf : fs.toList[n]? with
    | none => simp only [compField, hf]; exact no_ok P o
    | some f =>
      cases hft : tyAt P f.type with
      | none => simp only [compField, hf, hft]; exact no_ok P o
      | some fty =>
        obtain ⟨fsz, fb, fd, fz⟩ := fty
        obtain ⟨j, j1, j2, j3, j4, j5⟩ := tyAt_ok hft
        have hf' : fs[n]? = some f := by simpa using hf
        cases hd : isAggD fd with
        | true =>
          simp only [compField, hf, hft, hd, runK_mk]
          refine RunOk.calm fun cf t hp k hk => ?_
          simp only [doFieldA, oK_eq, oE_eq] at hk
          obtain ⟨cs, hv, hk⟩ := vA_ok hk
          refine ⟨.a ((cs.drop f.offset).take fsz), fun k' => by simp only [doFieldA, oK_eq, oE_eq, hv, vA_a], fun ρ a A w => ?_⟩
          have hx := (A x (by rw [h]; simp [Op.operands]))
          rw [hv] at hx
          obtain ⟨arr, l1, l2⟩ := hx
          refine ⟨.agg (arr.extract f.offset (f.offset + j.size)), ?_, _, rfl, ?_⟩
          · unfold execOp
            rw [h]
            simp only [run_v, Instr.field, l1, Sem.run_bind, run_underlying i5, Result.andThen_ok, hf', asAgg, Sem.run_pure', run_part j1 j5, hd, if_true]
            all_goals rfl
          · rw [extract_list, j2]
            exact (l2.drop _).take _
        | false =>
          simp only [compField, hf, hft, hd, runK_mk]
          refine RunOk.calm fun cf t hp k hk => ?_
          simp only [doField, oK_eq, oE_eq] at hk
          obtain ⟨cs, hv, hk⟩ := vA_ok hk
          obtain ⟨v, hcv, hk⟩ := optK_ok hk
          refine ⟨v, fun k' => by simp only [doField, oK_eq, oE_eq, hv, vA_a, hcv, optK_some, forceV_eq], fun ρ a A w => ?_⟩
          have hx := (A x (by rw [h]; simp [Op.operands]))
          rw [hv] at hx
          obtain ⟨arr, l1, l2⟩ := hx
          obtain ⟨y, y1, y2⟩ := l2.get hcv
          have y1' : arr[f.offset]? = some y := by simpa using y1
          refine ⟨y, ?_, y2⟩
          unfold execOp
          rw [h]
          simp only [run_v, Instr.field, l1, Sem.run_bind, run_underlying i5, Result.andThen_ok, hf', asAgg, Sem.run_pure', run_part j1 j5, hd, Bool.false_eq_true, if_false, y1']
          all_goals rfl
theorem indexAddr_ok (P : Program) (o : Oper) (st : TypeId) (x y : Operand) (h : o.op = .indexAddr st x y) : RunOk P o (runK (compIndexAddr P (tyAt P st) (compO x) (compO y))) := by
  cases ht : tyAt P st with
  | none => exact no_ok P o
  | some ty =>
    obtain ⟨size, bytes, d, z⟩ := ty
    obtain ⟨i, i1, i2, i3, i4, i5⟩ := tyAt_ok ht
    cases d <;> try exact no_ok P o
    · rename_i e
      cases he : tyAt P e with
      | none => simp only [compIndexAddr, he]; exact no_ok P o
      | some ety =>
        obtain ⟨esz, eb, ed, ez⟩ := ety
        obtain ⟨j, j1, j2, j3, j4, j5⟩ := tyAt_ok he
        simp only [compIndexAddr, he, runK_mk]
        refine RunOk.calm fun cf t hp k hk => ?_
        simp only [doIndexAddr, oK_eq, oE_eq] at hk
        rcases vL_ok hk with ⟨hv, hk⟩ | ⟨id, g, off, len, fin, cap, hv, hk⟩
        · exact Bool.noConfusion hk
        obtain ⟨kd, n, hn, hk⟩ := vI_ok hk
        obtain ⟨m, hm, hk⟩ := natK_ok hk
        obtain ⟨hl, hk⟩ := ifK_ok hk
        subst hm
        have hlt : m < len := Nat.le_of_ble_eq_true hl
        refine ⟨.p id g (off + m * esz) fin, fun k' => by simp only [doIndexAddr, oK_eq, oE_eq, hv, vL_l, hn, vI_i, natK_ofNat, hl, ifK_true, fN_eq]; rfl, fun ρ a A w => ?_⟩
        have hx := (A x (by rw [h]; simp [Op.operands]))
        rw [hv] at hx
        obtain ⟨L, ad, c, l1, l2, lc, l3, l4, l5, l6, l7⟩ := hx
        have hy := (A y (by rw [h]; simp [Op.operands]))
        rw [hn] at hy
        have hy' : a.eval y = .int kd (Int.ofNat m) := hy
        have hadr : ad = ⟨L.b, off - L.s, none⟩ := by
          rcases l5 with ⟨l5, _⟩ | l5
          · omega
          · exact l5
        subst hadr
        refine ⟨.pointer (some ⟨L.b, off + m * esz - L.s, none⟩), ?_, L, l1, rfl, by omega, l4⟩
        unfold execOp
        rw [h]
        have hc : (0 ≤ Int.ofNat m ∧ Int.ofNat m < (len : Int)) := by constructor <;> simp <;> omega
        simp only [run_v, Instr.indexAt, hy', l2, asIntOf, Sem.run_pure', Sem.run_bind, run_underlying i5, Result.andThen_ok, hc, and_self, if_true, run_sizeOf' j1, j2, add_none]
        simp only [Int.ofNat_eq_natCast, Int.toNat_natCast, show off - L.s + m * esz = off + m * esz - L.s by omega]
        all_goals rfl
    · rename_i len e
      cases he : tyAt P e with
      | none => simp only [compIndexAddr, he]; exact no_ok P o
      | some ety =>
        obtain ⟨esz, eb, ed, ez⟩ := ety
        obtain ⟨j, j1, j2, j3, j4, j5⟩ := tyAt_ok he
        simp only [compIndexAddr, he, runK_mk]
        refine RunOk.calm fun cf t hp k hk => ?_
        simp only [doIndexAddrArr, oK_eq, oE_eq] at hk
        obtain ⟨id, g, off, fin, hv, hk⟩ := vP_ok hk
        obtain ⟨kd, n, hn, hk⟩ := vI_ok hk
        obtain ⟨m, hm, hk⟩ := natK_ok hk
        obtain ⟨hl, hk⟩ := ifK_ok hk
        subst hm
        have hlt : m < len := Nat.le_of_ble_eq_true hl
        refine ⟨.p id g (off + m * esz) fin, fun k' => by simp only [doIndexAddrArr, oK_eq, oE_eq, hv, vP_p, hn, vI_i, natK_ofNat, hl, ifK_true, fN_eq]; rfl, fun ρ a A w => ?_⟩
        have hx := (A x (by rw [h]; simp [Op.operands]))
        rw [hv] at hx
        obtain ⟨L, l1, l2, l3, l4⟩ := hx
        have hy := (A y (by rw [h]; simp [Op.operands]))
        rw [hn] at hy
        have hy' : a.eval y = .int kd (Int.ofNat m) := hy
        refine ⟨.pointer (some ⟨L.b, off + m * esz - L.s, none⟩), ?_, L, l1, rfl, by omega, l4⟩
        unfold execOp
        rw [h]
        have hc : (0 ≤ Int.ofNat m ∧ Int.ofNat m < (len : Int)) := by constructor <;> simp <;> omega
        simp only [run_v, Instr.indexAt, hy', l2, asIntOf, Sem.run_pure', Sem.run_bind, run_underlying i5, Result.andThen_ok, sureAddr_run, hc, and_self, if_true, run_sizeOf' j1, j2, add_none]
        simp only [Int.ofNat_eq_natCast, Int.toNat_natCast, show off - L.s + m * esz = off + m * esz - L.s by omega]
        all_goals rfl
theorem app_eq {α : Type} : ∀ (a b : List α), app a b = a ++ b
  | [], _ => rfl
  | x :: a, b => by
    have e : app (x :: a) b = x :: app a b := rfl
    rw [e, app_eq a b]; rfl
theorem fold_put : ∀ (vs : List Value) (off n : Nat) (cells : Array Value), off + n + vs.length ≤ cells.size →
    ((vs.zipIdx n).foldl (fun cs (p : Value × Nat) => cs.setIfInBounds (off + p.2) p.1) cells).toList = cells.toList.take (off + n) ++ vs ++ cells.toList.drop (off + n + vs.length)
  | [], off, n, cells, _ => by simp
  | v :: vs, off, n, cells, h => by
    simp only [List.length_cons] at h
    rw [List.zipIdx_cons, List.foldl_cons, fold_put vs off (n + 1) _ (by simp; omega)]
    simp only [Array.toList_setIfInBounds]
    have hl : off + n < cells.toList.length := by simp; omega
    rw [List.take_set, List.drop_set]
    have e1 : (List.take (off + (n + 1)) cells.toList).set (off + n) v = List.take (off + n) cells.toList ++ [v] := by
      rw [show off + (n + 1) = off + n + 1 by omega, List.take_succ_eq_append_getElem hl, List.set_append_right _ _ (by simp; omega)]
      have hm : min (off + n) cells.size = off + n := by simp at hl; omega
      simp [hm]
    rw [e1, if_pos (by omega), show off + (n + 1) + vs.length = off + n + (v :: vs).length by simp; omega]
    simp
theorem fill_step {cells : Array Value} {off size : Nat} {v : Value} (h : v.cells.size = size) (h2 : off + size ≤ cells.size) :
    (v.cells.zipIdx.foldl (fun cs (p : Value × Nat) => cs.setIfInBounds (off + p.2) p.1) cells).toList = cells.toList.take off ++ v.cells.toList ++ cells.toList.drop (off + size) := by
  rw [← Array.foldl_toList, Array.toList_zipIdx]
  have := fold_put v.cells.toList off 0 cells (by simp; omega)
  rw [this]
  simp [h]
theorem put_rel {ρ : Emb} {cs : List V} {cells : List Value} {vs : List V} {xs : List Value} (h : LRel ρ cs cells) (hv : LRel ρ vs xs) (off size : Nat) (hs : vs.length = size) :
    LRel ρ (putAt cs off vs) (cells.take off ++ xs ++ cells.drop (off + size)) := by
  unfold putAt
  rw [app_eq, app_eq, hs, List.append_assoc]
  exact (h.take off).append (hv.append (h.drop _))
/-- the parts of a literal -/
def PartsOk (place : Nat → Option (Nat × Nat)) : List (Nat × Operand) → List Pt → Prop
  | [], [] => True
  | (n, x) :: r, p :: ps => place n = some (p.off, p.size) ∧ p.o = compO x ∧ PartsOk place r ps
  | _, _ => False
theorem fill_ok (place : Nat → Option (Nat × Nat)) : ∀ (parts : List (Nat × Operand)) (ps : List Pt), PartsOk place parts ps → ∀ (t : F) (cs : List V) (k : List V → Bool), fillL ps t cs k = true →
    ∃ cs', (∀ k', fillL ps t cs k' = k' cs') ∧ cs'.length = cs.length ∧ ∀ ρ a, ORel ρ t a (parts.map (·.2)) → ∀ cells : Array Value, LRel ρ cs cells.toList →
      ∃ cells', Instr.fill place cells (parts.map fun p => (p.1, a.eval p.2)) = some cells' ∧ LRel ρ cs' cells'.toList
  | [], [], _, t, cs, k, _ => ⟨cs, fun _ => rfl, rfl, fun ρ a A cells h => ⟨cells, rfl, h⟩⟩
  | (n, x) :: r, ⟨off, size, o⟩ :: ps, hp, t, cs, k, hk => by
    obtain ⟨hp1, hp2, hp3⟩ := hp
    simp only at hp1 hp2
    subst hp2
    have e : ∀ k', fillL (⟨off, size, compO x⟩ :: ps) t cs k' = oK (compO x) t (fillP off size (fillL ps) t cs k') := fun _ => rfl
    have e2 : ∀ k' v, fillP off size (fillL ps) t cs k' v = ifK (knownV v) fun _ => ifK (Nat.beq (cells v).length size) fun _ => ifK (Nat.ble (Nat.add off size) cs.length) fun _ => fillL ps t (putAt cs off (cells v)) k' := fun _ _ => rfl
    rw [e, oK_eq, e2] at hk
    obtain ⟨hu, hk⟩ := ifK_ok hk
    obtain ⟨hl, hk⟩ := ifK_ok hk
    obtain ⟨hb, hk⟩ := ifK_ok hk
    obtain ⟨cs', h1, h2, h3⟩ := fill_ok place r ps hp3 _ _ _ hk
    have hsz : (cells (oV (compO x) t)).length = size := Nat.eq_of_beq_eq_true hl
    have hbd : off + size ≤ cs.length := Nat.le_of_ble_eq_true hb
    refine ⟨cs', fun k' => by rw [e, oK_eq, e2, hu, hl, hb]; simp only [ifK_true]; exact h1 k', ?_, fun ρ a A cl hcl => ?_⟩
    · rw [h2]; unfold putAt; rw [app_eq, app_eq]; simp; omega
    · have hc := cells_rel (knownV_ok hu) (A x (by simp))
      have hcsz : (a.eval x).cells.size = size := by have := hc.length; simp at this; omega
      have hclen := hcl.length
      simp at hclen
      have hstep := fill_step (cells := cl) (off := off) hcsz (by omega)
      obtain ⟨cells', c1, c2⟩ := h3 ρ a (fun y hy => A y (by simp at hy ⊢; exact .inr hy)) ((a.eval x).cells.zipIdx.foldl (fun cs (p : Value × Nat) => cs.setIfInBounds (off + p.2) p.1) cl) (by rw [hstep]; exact put_rel hcl hc off size hsz)
      refine ⟨cells', ?_, c2⟩
      rw [List.map_cons]
      unfold Instr.fill
      simp only [hp1]
      rw [if_neg (by simp; omega)]
      exact c1
  | [], _ :: _, hp, _, _, _, _ => hp.elim
  | _ :: _, [], hp, _, _, _, _ => hp.elim
theorem parts_arr (size : Nat) : ∀ (parts : List (Nat × Operand)), PartsOk (fun i => some (i * size, size)) parts (compPartsA size parts)
  | [] => trivial
  | (n, x) :: r => ⟨rfl, rfl, parts_arr size r⟩
theorem parts_struct (P : Program) (fs : List Field) (places : Array (Nat × Nat)) (hpl : ∀ (n : Nat) f, fs[n]? = some f → ∀ ty, tyAt P f.type = some ty → places[n]? = some (f.offset, ty.size)) :
    ∀ (parts : List (Nat × Operand)) (ps : List Pt), compParts P fs parts = some ps → PartsOk (places[·]?) parts ps
  | [], ps, h => by
    have : ps = [] := by simpa [compParts] using h.symm
    subst this; trivial
  | (n, x) :: r, ps, h => by
    unfold compParts at h
    cases hf : fs[n]? with
    | none => rw [hf] at h; cases h
    | some f =>
      rw [hf] at h
      simp only at h
      cases ht : tyAt P f.type with
      | none => rw [ht] at h; cases h
      | some ty =>
        obtain ⟨s1, s2, s3, s4⟩ := ty
        rw [ht] at h
        cases hr : compParts P fs r with
        | none => rw [hr] at h; cases h
        | some rest =>
          rw [hr] at h
          cases h
          exact ⟨hpl n f hf _ ht, rfl, parts_struct P fs places hpl r rest hr⟩
end Go.Ev

set_option linter.all false
namespace Go.Ev
open Go
/-- a list of bytes as one number -/
def pk : List UInt8 → Nat
  | [] => 0
  | c :: l => c.toNat * 256 ^ l.length + pk l
theorem foldl_pk : ∀ (l : List UInt8) (a : Nat), l.foldl (fun a c => 256 * a + c.toNat) a = a * 256 ^ l.length + pk l
  | [], a => by simp [pk]
  | c :: l, a => by
    rw [List.foldl_cons, foldl_pk l, List.length_cons, pk, Nat.pow_succ]
    rw [Nat.add_mul]
    have : 256 * a * 256 ^ l.length = a * (256 ^ l.length * 256) := by
      rw [Nat.mul_comm 256 a, Nat.mul_assoc, Nat.mul_comm 256]
    omega
theorem foldl_pk0 (l : List UInt8) : l.foldl (fun a c => 256 * a + c.toNat) 0 = pk l := by rw [foldl_pk]; simp
theorem pk_lt : ∀ (l : List UInt8), pk l < 256 ^ l.length
  | [] => by simp [pk]
  | c :: l => by
    have h1 := pk_lt l
    have h2 : c.toNat ≤ 255 := by have := c.toNat_lt; omega
    have h3 : c.toNat * 256 ^ l.length ≤ 255 * 256 ^ l.length := Nat.mul_le_mul_right _ h2
    rw [List.length_cons, pk, Nat.pow_succ]
    omega
theorem pk_append : ∀ (a b : List UInt8), pk (a ++ b) = pk a * 256 ^ b.length + pk b
  | [], b => by simp [pk]
  | c :: a, b => by
    rw [List.cons_append, pk, pk, pk_append a b, List.length_append, Nat.pow_add, Nat.add_mul, Nat.mul_assoc]
    omega
theorem pk_inj : ∀ (a b : List UInt8), a.length = b.length → pk a = pk b → a = b
  | [], [], _, _ => rfl
  | c :: a, d :: b, hl, h => by
    simp only [List.length_cons, Nat.add_right_cancel_iff] at hl
    have ha := pk_lt a
    have hb := pk_lt b
    rw [pk, pk, hl] at h
    rw [hl] at ha
    have hc : c.toNat = d.toNat := by
      rcases Nat.lt_trichotomy c.toNat d.toNat with h' | h' | h'
      · have := Nat.mul_le_mul_right (256 ^ b.length) h'
        rw [Nat.succ_mul] at this; omega
      · exact h'
      · have := Nat.mul_le_mul_right (256 ^ b.length) h'
        rw [Nat.succ_mul] at this; omega
    rw [hc] at h
    rw [UInt8.toNat_inj.1 hc, pk_inj a b hl (by omega)]
  | [], _ :: _, hl, _ => by simp at hl
  | _ :: _, [], hl, _ => by simp at hl
theorem pk_eq (a b : List UInt8) : (a == b) = (Nat.beq a.length b.length && Nat.beq (pk a) (pk b)) := by
  have e : ∀ {x y : Bool}, (x = true ↔ y = true) → x = y := by intro x y h; cases x <;> cases y <;> simp_all
  apply e
  simp only [beq_iff_eq, Bool.and_eq_true, Nat.beq_eq]
  constructor
  · rintro rfl; exact ⟨rfl, rfl⟩
  · rintro ⟨h1, h2⟩; exact pk_inj a b h1 h2
theorem pk_split (a b : List UInt8) : pk (a ++ b) / 256 ^ b.length = pk a ∧ pk (a ++ b) % 256 ^ b.length = pk b := by
  have hb := pk_lt b
  have hp : 0 < 256 ^ b.length := Nat.pow_pos (by omega)
  rw [pk_append]
  constructor
  · rw [Nat.add_comm, Nat.add_mul_div_right _ _ hp, Nat.div_eq_of_lt hb, Nat.zero_add]
  · rw [Nat.add_comm, Nat.add_mul_mod_self_right, Nat.mod_eq_of_lt hb]
/-- the part from lo to hi -/
theorem pk_part (l : List UInt8) {lo hi : Nat} (h1 : lo ≤ hi) (h2 : hi ≤ l.length) : pk ((l.take hi).drop lo) = (pk l / 256 ^ (l.length - hi)) % 256 ^ (hi - lo) := by
  have e1 : l = l.take hi ++ l.drop hi := (List.take_append_drop _ _).symm
  have e2 : l.take hi = (l.take hi).take lo ++ (l.take hi).drop lo := (List.take_append_drop _ _).symm
  have s1 := (pk_split (l.take hi) (l.drop hi)).1
  rw [← e1, List.length_drop] at s1
  have s2 := (pk_split ((l.take hi).take lo) ((l.take hi).drop lo)).2
  rw [← e2, List.length_drop, List.length_take, Nat.min_eq_left h2] at s2
  rw [s1, s2]
theorem pk_get (l : List UInt8) {i : Nat} (h : i < l.length) : l[i].toNat = (pk l / 256 ^ (l.length - 1 - i)) % 256 := by
  have := pk_part l (lo := i) (hi := i + 1) (by omega) (by omega)
  rw [show l.length - (i + 1) = l.length - 1 - i by omega, show i + 1 - i = 1 by omega, Nat.pow_one] at this
  rw [← this]
  have e : (l.take (i + 1)).drop i = [l[i]] := by
    rw [List.take_succ_eq_append_getElem h, List.drop_append_of_le_length (by simp; omega)]
    simp
  rw [e]; simp [pk]
theorem bytesLess_pk : ∀ (a b : List UInt8), Op.bytesLess a b = ltS a.length (pk a) b.length (pk b)
  | a, [] => by
    have : Op.bytesLess a [] = false := by cases a <;> rfl
    rw [this]
    unfold ltS
    cases a with
    | nil => rfl
    | cons c a =>
      have : Nat.ble (c :: a).length ([] : List UInt8).length = false := by simp [Nat.ble]
      rw [this]
      simp [pk]
      rfl
  | [], d :: b => by
    have : Op.bytesLess [] (d :: b) = true := rfl
    rw [this]
    unfold ltS
    have h1 : Nat.ble ([] : List UInt8).length (d :: b).length = true := by simp [Nat.ble]
    rw [h1]
    have e0 : Nat.mul (pk []) (Nat.pow 256 (Nat.sub (d :: b).length ([] : List UInt8).length)) = 0 := by simp [pk]
    simp only [e0]
    by_cases h : pk (d :: b) = 0
    · rw [h]; rfl
    · have : Nat.ble (Nat.succ 0) (pk (d :: b)) = true := Nat.ble_eq_true_of_le (by omega)
      rw [this]; rfl
  | c :: a, d :: b => by
    have ih := bytesLess_pk a b
    have e : Op.bytesLess (c :: a) (d :: b) = (decide (c < d) || (c == d && Op.bytesLess a b)) := by
      rw [Op.bytesLess]
    have ha := pk_lt a
    have hb := pk_lt b
    have bb : ∀ {x y : Bool}, (x = true ↔ y = true) → x = y := by intro x y h; cases x <;> cases y <;> simp_all
    rw [e, ih]
    apply bb
    simp only [Bool.or_eq_true, Bool.and_eq_true, decide_eq_true_eq, beq_iff_eq]
    have hlt : c < d ↔ c.toNat < d.toNat := UInt8.lt_iff_toNat_lt
    have heq : c = d ↔ c.toNat = d.toNat := UInt8.toNat_inj.symm
    rw [hlt, heq]
    unfold ltS
    simp only [List.length_cons]
    by_cases hl : a.length ≤ b.length
    · have h1 : Nat.ble (a.length + 1) (b.length + 1) = true := Nat.ble_eq_true_of_le (by omega)
      have h1' : Nat.ble a.length b.length = true := Nat.ble_eq_true_of_le hl
      rw [h1, h1']
      simp only
      have hsub : Nat.sub (b.length + 1) (a.length + 1) = Nat.sub b.length a.length := by show b.length + 1 - (a.length + 1) = b.length - a.length; omega
      rw [hsub]
      generalize hm : Nat.mul (pk a) (Nat.pow 256 (Nat.sub b.length a.length)) = p
      have hp : p < 256 ^ b.length := by
        have h2 : pk a * 256 ^ (b.length - a.length) < 256 ^ a.length * 256 ^ (b.length - a.length) := Nat.mul_lt_mul_of_pos_right ha (Nat.pow_pos (by omega))
        rw [← Nat.pow_add, Nat.add_sub_of_le hl] at h2
        rw [← hm]; exact h2
      have hm2 : Nat.mul (pk (c :: a)) (Nat.pow 256 (Nat.sub b.length a.length)) = c.toNat * 256 ^ b.length + p := by
        show pk (c :: a) * 256 ^ (b.length - a.length) = _
        rw [pk, Nat.add_mul, Nat.mul_assoc, ← Nat.pow_add, Nat.add_sub_of_le hl]
        rw [← hm]; rfl
      rw [hm2, show pk (d :: b) = d.toNat * 256 ^ b.length + pk b from rfl]
      generalize 256 ^ b.length = Q at *
      simp only [Bool.or_eq_true, Bool.and_eq_true, Nat.ble_eq, Nat.beq_eq]
      rcases Nat.lt_trichotomy c.toNat d.toNat with h | h | h
      · have := Nat.mul_le_mul_right Q h
        rw [Nat.succ_mul] at this
        simp only [h, true_or, true_iff]
        left; show c.toNat * Q + p + 1 ≤ _; omega
      · rw [h]
        constructor
        · rintro (h' | ⟨_, h' | h'⟩)
          · omega
          · left; show d.toNat * Q + p + 1 ≤ _; have : p + 1 ≤ pk b := h'; omega
          · right; exact ⟨by rw [h'.1], by have : a.length + 1 ≤ b.length := h'.2; show a.length + 1 + 1 ≤ b.length + 1; omega⟩
        · rintro (h' | h')
          · right; exact ⟨rfl, .inl (by have : d.toNat * Q + p + 1 ≤ d.toNat * Q + pk b := h'; show p + 1 ≤ pk b; omega)⟩
          · right; exact ⟨rfl, .inr ⟨by omega, by have : a.length + 1 + 1 ≤ b.length + 1 := h'.2; show a.length + 1 ≤ b.length; omega⟩⟩
      · have := Nat.mul_le_mul_right Q h
        rw [Nat.succ_mul] at this
        constructor
        · rintro (h' | ⟨h', _⟩)
          · omega
          · omega
        · rintro (h' | h')
          · have : c.toNat * Q + p + 1 ≤ d.toNat * Q + pk b := h'; omega
          · omega
    · have h1 : Nat.ble (a.length + 1) (b.length + 1) = false := by
        cases hx : Nat.ble (a.length + 1) (b.length + 1) with
        | false => rfl
        | true => have := Nat.le_of_ble_eq_true hx; omega
      have h1' : Nat.ble a.length b.length = false := by
        cases hx : Nat.ble a.length b.length with
        | false => rfl
        | true => have := Nat.le_of_ble_eq_true hx; omega
      rw [h1, h1']
      simp only
      have hl' : b.length ≤ a.length := by omega
      have hsub : Nat.sub (a.length + 1) (b.length + 1) = Nat.sub a.length b.length := by show a.length + 1 - (b.length + 1) = a.length - b.length; omega
      rw [hsub]
      generalize hm : Nat.mul (pk b) (Nat.pow 256 (Nat.sub a.length b.length)) = p
      have hp : p < 256 ^ a.length := by
        have h2 : pk b * 256 ^ (a.length - b.length) < 256 ^ b.length * 256 ^ (a.length - b.length) := Nat.mul_lt_mul_of_pos_right hb (Nat.pow_pos (by omega))
        rw [← Nat.pow_add, Nat.add_sub_of_le hl'] at h2
        rw [← hm]; exact h2
      have hm2 : Nat.mul (pk (d :: b)) (Nat.pow 256 (Nat.sub a.length b.length)) = d.toNat * 256 ^ a.length + p := by
        show pk (d :: b) * 256 ^ (a.length - b.length) = _
        rw [pk, Nat.add_mul, Nat.mul_assoc, ← Nat.pow_add, Nat.add_sub_of_le hl']
        rw [← hm]; rfl
      rw [hm2, show pk (c :: a) = c.toNat * 256 ^ a.length + pk a from rfl]
      generalize 256 ^ a.length = Q at *
      simp only [Nat.ble_eq]
      rcases Nat.lt_trichotomy c.toNat d.toNat with h | h | h
      · have := Nat.mul_le_mul_right Q h
        rw [Nat.succ_mul] at this
        simp only [h, true_or, true_iff]
        show c.toNat * Q + pk a + 1 ≤ _; omega
      · rw [h]
        constructor
        · rintro (h' | ⟨_, h'⟩)
          · omega
          · have : pk a + 1 ≤ p := h'; show d.toNat * Q + pk a + 1 ≤ _; omega
        · intro h'
          have : d.toNat * Q + pk a + 1 ≤ d.toNat * Q + p := h'
          right; exact ⟨rfl, by show pk a + 1 ≤ p; omega⟩
      · have := Nat.mul_le_mul_right Q h
        rw [Nat.succ_mul] at this
        constructor
        · rintro (h' | ⟨h', _⟩)
          · omega
          · omega
        · intro h'
          have : c.toNat * Q + pk a + 1 ≤ d.toNat * Q + p := h'
          omega
end Go.Ev

set_option linter.all false
namespace Go.Ev
open Go
/-- a packed string's bytes -/
theorem srel {ρ : Emb} {len n : Nat} {v : Value} (h : VRel ρ (.s len n) v) : ∃ bs : ByteArray, v = .string bs ∧ bs.data.toList.length = len ∧ pk bs.data.toList = n ∧ bs.size = len := by
  obtain ⟨bs, rfl, h1, h2⟩ := h
  rw [foldl_pk0] at h2
  exact ⟨bs, rfl, by simpa using h1, h2, h1⟩
theorem srel_mk {ρ : Emb} {bs : ByteArray} {len n : Nat} (h1 : bs.data.toList.length = len) (h2 : pk bs.data.toList = n) : VRel ρ (.s len n) (.string bs) :=
  ⟨bs, rfl, by simpa using h1, by rw [foldl_pk0]; exact h2⟩
theorem run_eqGuard_str (P : Program) (w : World) (op : BinOp) (t : TypeId) (x y : Operand) (m n : ByteArray) : (eqGuard op t x y (.string m) (.string n)).run P w = .ok () w := by
  unfold eqGuard
  cases op <;> rfl
theorem concat_ok (P : Program) (o : Oper) (tx ty : TypeId) (x y : Operand) (h : o.op = .binOp .add tx x y ty) : RunOk P o (doConcat (compO x) (compO y)) := by
  refine RunOk.calm fun cf t hp k hk => ?_
  simp only [doConcat, oE_eq] at hk
  obtain ⟨la, na, ha, hk2⟩ := vS_ok hk
  obtain ⟨lb, nb, hb, hk3⟩ := vS_ok hk2
  obtain ⟨hl, hk4⟩ := ifK_ok hk3
  have hl' : la + lb ≤ 1048576 := Nat.le_of_ble_eq_true hl
  refine ⟨.s (la + lb) (na * 256 ^ lb + nb), fun k' => by simp only [doConcat, oE_eq, ha, vS_s, hb, hl, ifK_true, fN_eq]; rfl, fun ρ a A w => ?_⟩
  have hx := (A x (by rw [h]; simp [Op.operands]))
  rw [ha] at hx
  obtain ⟨bx, ex, lx, px, sx⟩ := srel hx
  have hy := (A y (by rw [h]; simp [Op.operands]))
  rw [hb] at hy
  obtain ⟨by', ey, ly, py, sy⟩ := srel hy
  refine ⟨.string (bx ++ by'), ?_, srel_mk (by simp [ByteArray.data_append]; simp at lx ly; omega) ?_⟩
  · unfold execOp
    rw [h]
    simp only [Sem.run_bind, ex, ey, run_eqGuard_str, Result.andThen_ok]
    have : (binOp .add tx (.string bx) (.string by')).run P w = .ok (.string (bx ++ by')) w := by
      rw [show binOp .add tx (.string bx) (.string by') = Op.stringOp .add bx by' by simp [binOp]]
      exact run_string_add_sum w bx by' (by omega)
    rw [this]; rfl
  · rw [ByteArray.data_append, Array.toList_append, pk_append, px, py, ly]
def SCmpOk (op : BinOp) (f : Nat → Nat → Nat → Nat → Bool) : Prop := ∀ (P : Program) (w : World) (t : TypeId) (a b : ByteArray),
  (binOp op t (.string a) (.string b)).run P w = .ok (.bool (f a.data.toList.length (pk a.data.toList) b.data.toList.length (pk b.data.toList))) w
theorem scmp_ok (P : Program) (o : Oper) (op : BinOp) (f : Nat → Nat → Nat → Nat → Bool) (hf : SCmpOk op f) (tx ty : TypeId) (x y : Operand) (h : o.op = .binOp op tx x y ty) : RunOk P o (doSCmp f (compO x) (compO y)) := by
  refine RunOk.calm fun cf t hp k hk => ?_
  simp only [doSCmp, oE_eq] at hk
  obtain ⟨la, na, ha, hk2⟩ := vS_ok hk
  obtain ⟨lb, nb, hb, hk3⟩ := vS_ok hk2
  refine ⟨.b (f la na lb nb), fun k' => by simp only [doSCmp, oE_eq, ha, vS_s, hb, fB_eq], fun ρ a A w => ?_⟩
  have hx := (A x (by rw [h]; simp [Op.operands]))
  rw [ha] at hx
  obtain ⟨bx, ex, lx, px, sx⟩ := srel hx
  have hy := (A y (by rw [h]; simp [Op.operands]))
  rw [hb] at hy
  obtain ⟨by', ey, ly, py, sy⟩ := srel hy
  refine ⟨.bool (f la na lb nb), ?_, rfl⟩
  unfold execOp
  rw [h]
  simp only [Sem.run_bind, ex, ey, run_eqGuard_str, Result.andThen_ok, hf P w tx bx by']
  rw [lx, px, ly, py]; rfl
theorem eqS_pk (a b : ByteArray) : (a.toList == b.toList) = eqS a.data.toList.length (pk a.data.toList) b.data.toList.length (pk b.data.toList) := by
  rw [ByteArray.toList_eq, ByteArray.toList_eq, pk_eq]; rfl
theorem ltS_pk (a b : ByteArray) : Op.bytesLess a.toList b.toList = ltS a.data.toList.length (pk a.data.toList) b.data.toList.length (pk b.data.toList) := by
  rw [ByteArray.toList_eq, ByteArray.toList_eq, bytesLess_pk]
theorem strop_ok (P : Program) (o : Oper) (op : BinOp) (tx ty : TypeId) (x y : Operand) (h : o.op = .binOp op tx x y ty) :
    RunOk P o (runK (compBinS op (compO x) (compO y))) := by
  cases op <;> try exact no_ok P o
  · exact concat_ok P o tx ty x y h
  · exact scmp_ok P o .eql _ (fun P w t a b => by simp [binOp, Op.stringOp, eqS_pk]) tx ty x y h
  · exact scmp_ok P o .neq _ (fun P w t a b => by simp [binOp, Op.stringOp, eqS_pk]) tx ty x y h
  · exact scmp_ok P o .lss _ (fun P w t a b => by simp [binOp, Op.stringOp, ltS_pk]) tx ty x y h
  · exact scmp_ok P o .leq _ (fun P w t a b => by simp [binOp, Op.stringOp, ltS_pk, eqS_pk]) tx ty x y h
  · exact scmp_ok P o .gtr _ (fun P w t a b => by simp [binOp, Op.stringOp, ltS_pk, eqS_pk]) tx ty x y h
  · exact scmp_ok P o .geq _ (fun P w t a b => by simp [binOp, Op.stringOp, ltS_pk]) tx ty x y h
theorem indexA_ok (P : Program) (o : Oper) (st : TypeId) (x y : Operand) (h : o.op = .index st x y) (len : Nat) (e : TypeId) (i5 : P.underlying st = some (.array len e)) : RunOk P o (runK (compIndexA len (tyAt P e) (compO x) (compO y))) := by
  cases he : tyAt P e with
  | none => exact no_ok P o
  | some ty =>
    obtain ⟨size, bytes, d, z⟩ := ty
    obtain ⟨j, j1, j2, j3, j4, j5⟩ := tyAt_ok he
    cases hd : isAggD d with
    | true => simp only [compIndexA, hd]; exact no_ok P o
    | false =>
    simp only [compIndexA, hd, runK_mk]
    refine RunOk.calm fun cf t hp k hk => ?_
    simp only [doAIndex, oE_eq] at hk
    obtain ⟨cs, hv, hk⟩ := vA_ok hk
    obtain ⟨kd, m, hm, hk3⟩ := vI_ok hk
    obtain ⟨q, rfl, hk4⟩ := natK_ok hk3
    obtain ⟨hlt, hk5⟩ := ifK_ok hk4
    obtain ⟨v, hcv, hk⟩ := optK_ok hk5
    have hlt' : q < len := Nat.le_of_ble_eq_true hlt
    refine ⟨v, fun k' => by simp only [doAIndex, oE_eq, hv, vA_a, hm, vI_i, natK_ofNat, hlt, ifK_true, hcv, optK_some, forceV_eq], fun ρ a A w => ?_⟩
    have hx := (A x (by rw [h]; simp [Op.operands]))
    rw [hv] at hx
    obtain ⟨arr, l1, l2⟩ := hx
    have hy := (A y (by rw [h]; simp [Op.operands]))
    rw [hm] at hy
    have hy' : a.eval y = .int kd (Int.ofNat q) := hy
    obtain ⟨u, y1, y2⟩ := l2.get hcv
    have y1' : arr[q * j.size]? = some u := by rw [show j.size = size from j2]; have y1 : arr.toList[q * size]? = some u := y1; simpa using y1
    refine ⟨u, ?_, y2⟩
    unfold execOp
    rw [h]
    have h0 : (0 : Int) ≤ Int.ofNat q ∧ Int.ofNat q < (len : Int) := ⟨Int.natCast_nonneg q, by simp; omega⟩
    have hq2 : (Int.ofNat q).toNat = q := rfl
    simp only [run_v, Instr.index, l1, hy', asIntOf, Sem.run_bind, Sem.run_pure', Result.andThen_ok, run_underlying i5, h0, and_self, if_true, hq2, run_sizeOf' j1, run_part j1 j5, hd, Bool.false_eq_true, if_false, y1']
    all_goals rfl
theorem index_ok (P : Program) (o : Oper) (st : TypeId) (x y : Operand) (h : o.op = .index st x y) : RunOk P o (runK (compIndex P st (compO x) (compO y))) := by
  cases ht : tyAt P st with
  | none => simp only [compIndex, ht]; exact no_ok P o
  | some ty =>
    obtain ⟨size, bytes, d, z⟩ := ty
    obtain ⟨i, i1, i2, i3, i4, i5⟩ := tyAt_ok ht
    cases d <;> simp only [compIndex, ht] <;> try exact no_ok P o
    case array len e => exact indexA_ok P o st x y h len e i5
    refine RunOk.calm fun cf t hp k hk => ?_
    simp only [runK_mk, doSIndex, oE_eq] at hk
    obtain ⟨l, n, hv, hk2⟩ := vS_ok hk
    obtain ⟨kd, m, hm, hk3⟩ := vI_ok hk2
    obtain ⟨j, rfl, hk4⟩ := natK_ok hk3
    obtain ⟨hlt, hk5⟩ := ifK_ok hk4
    have hlt' : j < l := Nat.le_of_ble_eq_true hlt
    refine ⟨.i .u8 (Int.ofNat ((n / 256 ^ (l - 1 - j)) % 256)), fun k' => by simp only [runK_mk, doSIndex, oE_eq, hv, vS_s, hm, vI_i, natK_ofNat, hlt, ifK_true, fN_eq]; rfl, fun ρ a A w => ?_⟩
    have hx := (A x (by rw [h]; simp [Op.operands]))
    rw [hv] at hx
    obtain ⟨bx, ex, lx, px, sx⟩ := srel hx
    have hy := (A y (by rw [h]; simp [Op.operands]))
    rw [hm] at hy
    have hy' : a.eval y = .int kd (Int.ofNat j) := hy
    have hjl : j < bx.data.toList.length := by omega
    have hg := pk_get bx.data.toList hjl
    rw [px, lx] at hg
    refine ⟨.int .u8 (Int.ofNat ((n / 256 ^ (l - 1 - j)) % 256)), ?_, rfl⟩
    unfold execOp
    rw [h]
    have hjs : j < bx.size := by omega
    have hb : bx[j]? = some bx[j] := by simp [hjs]
    have hbe : bx[j].toNat = (n / 256 ^ (l - 1 - j)) % 256 := by rw [← hg]; rfl
    simp only [run_v, Instr.index, ex, hy', asIntOf, Sem.run_bind, Sem.run_pure', Result.andThen_ok, run_underlying i5]
    have h0 : (0 : Int) ≤ Int.ofNat j := Int.natCast_nonneg j
    have hj2 : (Int.ofNat j).toNat = j := rfl
    simp only [h0, if_true, hj2, hb, Sem.run_pure', Result.andThen_ok, hbe]
    rfl
theorem bound_ok {od : Option Operand} {d : Nat} {t : F} {k : Nat → Bool} (hk : boundK (od.map compO) d t k = true) : ∃ n, (∀ k', boundK (od.map compO) d t k' = k' n) ∧
    ((od = none ∧ n = d) ∨ ∃ x, od = some x ∧ ∀ ρ (a : Act), VRel ρ (oV (compO x) t) (a.eval x) → ∃ kd, a.eval x = .int kd (Int.ofNat n)) := by
  cases od with
  | none => exact ⟨d, fun _ => rfl, .inl ⟨rfl, rfl⟩⟩
  | some x =>
    have e : ∀ k', boundK ((some x).map compO) d t k' = oE (compO x) t fun v => vI v fun _ n => natK n k' := fun _ => rfl
    rw [e, oE_eq] at hk
    obtain ⟨kd, m, hm, hk2⟩ := vI_ok hk
    obtain ⟨n, rfl, hk3⟩ := natK_ok hk2
    refine ⟨n, fun k' => by rw [e, oE_eq, hm]; rfl, .inr ⟨x, rfl, fun ρ a hr => ?_⟩⟩
    rw [hm] at hr
    exact ⟨kd, hr⟩
theorem run_bound {P : Program} {w : World} {kd : IntKind} {n y : Nat} {c : BoundsCode} (h : n ≤ y) : (Instr.sliceBound (.int kd (Int.ofNat n)) y c).run P w = .ok n w := by
  unfold Instr.sliceBound
  have hc : (0 ≤ Int.ofNat n ∧ Int.ofNat n ≤ (y : Int)) := by constructor <;> simp <;> omega
  simp only [asIntOf, Sem.run_bind, Sem.run_pure', Result.andThen_ok, hc, and_self, if_true]
  rfl
/-- the bounds of a piece -/
theorem run_bounds {P : Program} {w : World} {a : Act} {lo hi : Option Operand} {isS : Bool} {len cap p q : Nat} (hlo : (lo = none ∧ p = 0) ∨ ∃ x, lo = some x ∧ ∃ kd, a.eval x = .int kd (Int.ofNat p))
    (hhi : (hi = none ∧ q = len) ∨ ∃ x, hi = some x ∧ ∃ kd, a.eval x = .int kd (Int.ofNat q)) (hpq : p ≤ q) (hqc : hi.isSome = true → q ≤ cap) :
    (Instr.sliceBounds isS len cap (lo.map a.eval) (hi.map a.eval) none).run P w = .ok (p, q, cap) w := by
  unfold Instr.sliceBounds
  rcases hhi with ⟨rfl, rfl⟩ | ⟨x, rfl, kd, hx⟩
  · rcases hlo with ⟨rfl, rfl⟩ | ⟨y, rfl, kd', hy⟩
    · rfl
    · simp only [Option.map_none, Option.map_some, hy, Sem.run_bind, Sem.run_pure', Result.andThen_ok, run_bound hpq]
  · have hqc' := hqc rfl
    rcases hlo with ⟨rfl, rfl⟩ | ⟨y, rfl, kd', hy⟩
    · simp only [Option.map_none, Option.map_some, hx, Sem.run_bind, Sem.run_pure', Result.andThen_ok, run_bound hqc']
    · simp only [Option.map_none, Option.map_some, hx, hy, Sem.run_bind, Sem.run_pure', Result.andThen_ok, run_bound hqc', run_bound hpq]
theorem run_bounds3 {P : Program} {w : World} {a : Act} {lo : Option Operand} {hi mx : Operand} {isS : Bool} {len cap p q m : Nat} {kh km : IntKind} (hlo : (lo = none ∧ p = 0) ∨ ∃ x, lo = some x ∧ ∃ kd, a.eval x = .int kd (Int.ofNat p))
    (hhi : a.eval hi = .int kh (Int.ofNat q)) (hmx : a.eval mx = .int km (Int.ofNat m)) (hpq : p ≤ q) (hqm : q ≤ m) (hmc : m ≤ cap) :
    (Instr.sliceBounds isS len cap (lo.map a.eval) (some (a.eval hi)) (some (a.eval mx))).run P w = .ok (p, q, m) w := by
  unfold Instr.sliceBounds
  rcases hlo with ⟨rfl, rfl⟩ | ⟨y, rfl, kd', hy⟩
  · simp only [Option.map_none, hhi, hmx, Sem.run_bind, Sem.run_pure', Result.andThen_ok, run_bound hqm, run_bound hmc]
  · simp only [Option.map_some, hhi, hmx, hy, Sem.run_bind, Sem.run_pure', Result.andThen_ok, run_bound hqm, run_bound hpq, run_bound hmc]
theorem bound1_ok {x : Operand} {d : Nat} {t : F} {k : Nat → Bool} (hk : boundK (some (compO x)) d t k = true) : ∃ n, (∀ k', boundK (some (compO x)) d t k' = k' n) ∧
    ∀ ρ (a : Act), VRel ρ (oV (compO x) t) (a.eval x) → ∃ kd, a.eval x = .int kd (Int.ofNat n) := by
  obtain ⟨n, h1, h2⟩ := bound_ok (od := some x) hk
  refine ⟨n, h1, fun ρ a hr => ?_⟩
  rcases h2 with ⟨h2, _⟩ | ⟨y, h2, h3⟩
  · cases h2
  · cases h2; exact h3 ρ a hr
theorem slice3_ok (P : Program) (o : Oper) (st : TypeId) (x : Operand) (lo hi : Option Operand) (mx : Operand) (h : o.op = .slice st x lo hi (some mx)) : RunOk P o (runK (compSliceM P st (compO x) (lo.map compO) (hi.map compO) (compO mx))) := by
  have hlo : ∀ {t : F} {k : Nat → Bool} {d : Nat}, boundK (lo.map compO) d t k = true → ∃ n, (∀ k', boundK (lo.map compO) d t k' = k' n) ∧ ∀ ρ a, ORel ρ t a o.op.operands.toList → ((lo = none ∧ n = d) ∨ ∃ x, lo = some x ∧ ∃ kd, a.eval x = .int kd (Int.ofNat n)) := by
    intro t k d hk
    obtain ⟨n, h1, h2⟩ := bound_ok hk
    refine ⟨n, h1, fun ρ a A => ?_⟩
    rcases h2 with h2 | ⟨x, rfl, h2⟩
    · exact .inl h2
    · exact .inr ⟨x, rfl, h2 ρ a (A x (by rw [h]; simp [Op.operands]))⟩
  cases hi with
  | none =>
    unfold compSliceM
    split
    · unfold compSlice3; split
      · rename_i h2; cases h2
      · exact no_ok P o
    · exact no_ok P o
  | some hi =>
  have mhi : hi ∈ o.op.operands.toList := by rw [h]; simp [Op.operands]
  have mmx : mx ∈ o.op.operands.toList := by rw [h]; simp [Op.operands]
  cases ht : tyAt P st with
  | none => simp only [compSliceM, ht]; exact no_ok P o
  | some ty =>
    obtain ⟨size, bytes, d, z⟩ := ty
    obtain ⟨i, i1, i2, i3, i4, i5⟩ := tyAt_ok ht
    cases d <;> simp only [compSliceM, ht] <;> try exact no_ok P o
    rename_i e
    cases he : tyAt P e with
    | none => exact no_ok P o
    | some ety =>
      obtain ⟨esz, eb, ed, ez⟩ := ety
      obtain ⟨j, j1, j2, j3, j4, j5⟩ := tyAt_ok he
      simp only at j2
      cases hz : Nat.ble 1 esz with
      | false => simp only [compSlice3, Option.map_some, hz]; exact no_ok P o
      | true =>
        simp only [compSlice3, Option.map_some, hz, runK_mk]
        refine RunOk.calm fun cf t hp k hk => ?_
        simp only [doSlice3, oE_eq] at hk
        rcases vL_ok hk with ⟨hv, hk2⟩ | ⟨id, g, off, len, fin, cap, hv, hk2⟩
        · obtain ⟨p, p1, p2⟩ := hlo hk2
          rw [p1] at hk2
          obtain ⟨q, q1, q2⟩ := bound1_ok hk2
          rw [q1] at hk2
          obtain ⟨m, m1, m2⟩ := bound1_ok hk2
          rw [m1] at hk2
          obtain ⟨hp0, hk3⟩ := ifK_ok hk2
          obtain ⟨hq0, hk4⟩ := ifK_ok hk3
          obtain ⟨hm0, hk5⟩ := ifK_ok hk4
          have hp0' : p = 0 := Nat.eq_of_beq_eq_true hp0
          have hq0' : q = 0 := Nat.eq_of_beq_eq_true hq0
          have hm0' : m = 0 := Nat.eq_of_beq_eq_true hm0
          subst hp0'
          subst hq0'
          subst hm0'
          refine ⟨.l0, fun k' => by simp only [doSlice3, oE_eq, hv, vL_l0, p1, q1, m1, hp0, hq0, hm0, ifK_true], fun ρ a A w => ?_⟩
          have hx := (A x (by rw [h]; simp [Op.operands]))
          rw [hv] at hx
          have hx' : a.eval x = .slice none 0 0 := hx
          obtain ⟨kh, hh⟩ := q2 ρ a (A hi mhi)
          obtain ⟨km, hm⟩ := m2 ρ a (A mx mmx)
          refine ⟨.slice none 0 0, ?_, rfl⟩
          unfold execOp
          rw [h]
          have hb := run_bounds3 (P := P) (w := w) (isS := true) (len := 0) (cap := 0) (p2 ρ a A) hh hm (Nat.le_refl _) (Nat.le_refl _) (Nat.le_refl _)
          simp only [run_v, Instr.sliceAt, Option.map_some, Sem.run_bind, run_underlying i5, Result.andThen_ok, Instr.slice, hx', hb, run_sizeOf' j1]
          rfl
        · obtain ⟨p, p1, p2⟩ := hlo hk2
          rw [p1] at hk2
          obtain ⟨q, q1, q2⟩ := bound1_ok hk2
          rw [q1] at hk2
          obtain ⟨m, m1, m2⟩ := bound1_ok hk2
          rw [m1] at hk2
          obtain ⟨hlim, hk2⟩ := ifK_ok hk2
          obtain ⟨hml, hk3⟩ := ifK_ok hk2
          obtain ⟨hpq, hk4⟩ := ifK_ok hk3
          obtain ⟨hmM, hk4⟩ := ifK_ok hk4
          obtain ⟨hqm, hk5⟩ := ifK_ok hk4
          have hmM' : m < 18446744073709551616 := Nat.le_of_ble_eq_true hmM
          have hpq' : p ≤ q := Nat.le_of_ble_eq_true hpq
          have hqm' : q ≤ m := Nat.le_of_ble_eq_true hqm
          have hml' : m ≤ cap.getD len := Nat.le_of_ble_eq_true hml
          by_cases hpm : p = m
          · have hpmb : Nat.beq p m = true := by rw [hpm]; exact Nat.beq_refl m
            refine ⟨.l id g off 0 fin (some 0), fun k' => by simp only [doSlice3, oE_eq, hv, vL_l, p1, q1, m1, hlim, slice3K, hml, hpq, ifK_true, sliceC, hmM, hqm, hpmb, boolK_true], fun ρ a A w => ?_⟩
            have hx := (A x (by rw [h]; simp [Op.operands]))
            rw [hv] at hx
            obtain ⟨L, ad, cc, l1, hx', lc, l3, l4, l5, l6, l7⟩ := hx
            have hmc : m ≤ cc := by
              cases cap with
              | none => exact Nat.le_trans hml' lc
              | some c => rw [l6 c rfl (limOk_some hlim)]; exact hml'
            obtain ⟨kh, hh⟩ := q2 ρ a (A hi mhi)
            obtain ⟨km, hm⟩ := m2 ρ a (A mx mmx)
            refine ⟨.slice (some ad) (q - p) (m - p), ?_, L, ad, m - p, l1, by rw [show q - p = 0 by omega], by omega, l3, l4, .inl ⟨rfl, .inr rfl⟩, (fun d hd _ => by cases hd; omega), (fun hd => absurd hd (Unk.no (by omega)))⟩
            unfold execOp
            rw [h]
            have hb := run_bounds3 (P := P) (w := w) (isS := true) (len := len) (cap := cc) (p2 ρ a A) hh hm hpq' hqm' hmc
            have hmp : m = p := hpm.symm
            simp only [run_v, Instr.sliceAt, Option.map_some, Sem.run_bind, run_underlying i5, Result.andThen_ok, Instr.slice, hx', hb, run_sizeOf' j1]
            rw [if_pos hmp]
            rfl
          · have hpmb : Nat.beq p m = false := by
              cases hx : Nat.beq p m with
              | false => rfl
              | true => exact absurd (Nat.eq_of_beq_eq_true hx) hpm
            refine ⟨.l id g (off + p * esz) (q - p) fin (some (m - p)), fun k' => by simp only [doSlice3, oE_eq, hv, vL_l, p1, q1, m1, hlim, slice3K, hml, hpq, ifK_true, sliceC, hmM, hqm, hpmb, boolK_false, fN_eq]; rfl, fun ρ a A w => ?_⟩
            have hx := (A x (by rw [h]; simp [Op.operands]))
            rw [hv] at hx
            obtain ⟨L, ad, cc, l1, hx', lc, l3, l4, l5, l6, l7⟩ := hx
            have hmc : m ≤ cc := by
              cases cap with
              | none => exact Nat.le_trans hml' lc
              | some c => rw [l6 c rfl (limOk_some hlim)]; exact hml'
            obtain ⟨kh, hh⟩ := q2 ρ a (A hi mhi)
            obtain ⟨km, hm⟩ := m2 ρ a (A mx mmx)
            have hadr : ad = ⟨L.b, off - L.s, none⟩ := by
              rcases l5 with ⟨h0, h1⟩ | h1
              · rcases h1 with h1 | h1
                · subst h1; have : m ≤ len := hml'; omega
                · subst h1; have : m ≤ 0 := hml'; omega
              · exact h1
            subst hadr
            refine ⟨.slice (some ⟨L.b, off + p * esz - L.s, none⟩) (q - p) (m - p), ?_, L, _, m - p, l1, rfl, by omega, by omega, l4, .inr rfl, (fun d hd _ => by cases hd; rfl), (fun hd => absurd hd (Unk.no (by omega)))⟩
            unfold execOp
            rw [h]
            have hb := run_bounds3 (P := P) (w := w) (isS := true) (len := len) (cap := cc) (p2 ρ a A) hh hm hpq' hqm' hmc
            have hne : ¬ m = p := fun e => hpm e.symm
            simp only [run_v, Instr.sliceAt, Option.map_some, Sem.run_bind, run_underlying i5, Result.andThen_ok, Instr.slice, hx', hb, run_sizeOf' j1]
            rw [if_neg hne]
            simp only [Option.map_some, j2, add_none]
            rw [show off - L.s + p * esz = off + p * esz - L.s by omega]
            rfl
theorem sliceArr_ok (P : Program) (o : Oper) (st : TypeId) (x : Operand) (lo hi : Option Operand) (h : o.op = .slice st x lo hi none) {n : Nat} {e : TypeId} {bytes sz : Nat} {z : List V} (ht : tyAt P st = some ⟨sz, bytes, .array n e, z⟩) : RunOk P o (runK (compSliceA n (tyAt P e) (compO x) (lo.map compO) (hi.map compO))) := by
  obtain ⟨i, i1, i2, i3, i4, i5⟩ := tyAt_ok ht
  cases he : tyAt P e with
  | none => simp only [compSliceA]; exact no_ok P o
  | some ety =>
    obtain ⟨esz, eb, ed, ez⟩ := ety
    obtain ⟨j, j1, j2, j3, j4, j5⟩ := tyAt_ok he
    simp only at j2
    cases hz : Nat.ble 1 esz with
    | false => simp only [compSliceA, hz]; exact no_ok P o
    | true =>
      simp only [compSliceA, hz, runK_mk]
      refine RunOk.calm fun cf t hp k hk => ?_
      simp only [doSliceArr, oE_eq] at hk
      obtain ⟨id, g, off, fin, hv, hk2⟩ := vP_ok hk
      obtain ⟨p, p1, p2⟩ := bound_ok hk2
      rw [p1] at hk2
      obtain ⟨q, q1, q2⟩ := bound_ok hk2
      rw [q1] at hk2
      obtain ⟨hpq, hk3⟩ := ifK_ok hk2
      have hpq' : p ≤ q := Nat.le_of_ble_eq_true hpq
      have hk4 : (ifK (Nat.ble (Nat.succ n) 18446744073709551616) fun _ => ifK (Nat.ble q n) fun _ => boolK (Nat.beq p n) (fun _ => k (.l id g off 0 fin (some 0)) hp) (fun _ => fN (Nat.sub q p) fun l' => fN (Nat.sub n p) fun c' => fN (Nat.add off (Nat.mul p esz)) fun off' => k (.l id g off' l' fin (some c')) hp)) = true := hk3
      obtain ⟨hcs, hk4⟩ := ifK_ok hk4
      have hcM : n < 18446744073709551616 := Nat.le_of_ble_eq_true hcs
      obtain ⟨hqc, hk5⟩ := ifK_ok hk4
      have hqc' : q ≤ n := Nat.le_of_ble_eq_true hqc
      have p2' : ∀ ρ a, ORel ρ t a o.op.operands.toList → ((lo = none ∧ p = 0) ∨ ∃ x, lo = some x ∧ ∃ kd, a.eval x = .int kd (Int.ofNat p)) := fun ρ a A => by
        rcases p2 with p2 | ⟨x, rfl, p2⟩
        · exact .inl p2
        · exact .inr ⟨x, rfl, p2 ρ a (A x (by rw [h]; simp [Op.operands]))⟩
      have q2' : ∀ ρ a, ORel ρ t a o.op.operands.toList → ((hi = none ∧ q = n) ∨ ∃ x, hi = some x ∧ ∃ kd, a.eval x = .int kd (Int.ofNat q)) := fun ρ a A => by
        rcases q2 with q2 | ⟨x, rfl, q2⟩
        · exact .inl q2
        · exact .inr ⟨x, rfl, q2 ρ a (A x (by rw [h]; simp [Op.operands]))⟩
      by_cases hpc : p = n
      · have hpcb : Nat.beq p n = true := by rw [hpc]; exact Nat.beq_refl n
        refine ⟨.l id g off 0 fin (some 0), fun k' => by simp only [doSliceArr, oE_eq, hv, vP_p, p1, q1, hpq, ifK_true]; show sliceC esz id g off n fin n p q _ = _; simp only [sliceC, hcs, hqc, hpcb, ifK_true, boolK_true], fun ρ a A w => ?_⟩
        have hx := (A x (by rw [h]; simp [Op.operands]))
        rw [hv] at hx
        obtain ⟨L, l1, hx', l3, l4⟩ := hx
        refine ⟨.slice (some ⟨L.b, off - L.s, none⟩) (q - p) (n - p), ?_, L, _, n - p, l1, by rw [show q - p = 0 by omega], by omega, l3, l4, .inl ⟨rfl, .inr rfl⟩, (fun d hd _ => by cases hd; omega), (fun hd => absurd hd (Unk.no (by omega)))⟩
        unfold execOp
        rw [h]
        have hb := run_bounds (P := P) (w := w) (isS := false) (len := n) (cap := n) (p2' ρ a A) (q2' ρ a A) hpq' (fun _ => hqc')
        have hx'' : a.eval x = .pointer (some ⟨L.b, off - L.s, none⟩) := hx'
        simp only [run_v, Instr.sliceAt, Option.map_none, Sem.run_bind, run_underlying i5, Result.andThen_ok, Instr.sureAddr, hx'', Sem.run_pure', hb, run_sizeOf' j1, hpc, if_true]
      · have hpcb : Nat.beq p n = false := by
          cases hx : Nat.beq p n with
          | false => rfl
          | true => exact absurd (Nat.eq_of_beq_eq_true hx) hpc
        refine ⟨.l id g (off + p * esz) (q - p) fin (some (n - p)), fun k' => by simp only [doSliceArr, oE_eq, hv, vP_p, p1, q1, hpq, ifK_true]; show sliceC esz id g off n fin n p q _ = _; simp only [sliceC, hcs, hqc, hpcb, ifK_true, boolK_false, fN_eq]; rfl, fun ρ a A w => ?_⟩
        have hx := (A x (by rw [h]; simp [Op.operands]))
        rw [hv] at hx
        obtain ⟨L, l1, hx', l3, l4⟩ := hx
        refine ⟨.slice (some ⟨L.b, off + p * esz - L.s, none⟩) (q - p) (n - p), ?_, L, _, n - p, l1, rfl, by omega, by omega, l4, .inr rfl, (fun d hd _ => by cases hd; rfl), (fun hd => absurd hd (Unk.no (by omega)))⟩
        unfold execOp
        rw [h]
        have hb := run_bounds (P := P) (w := w) (isS := false) (len := n) (cap := n) (p2' ρ a A) (q2' ρ a A) hpq' (fun _ => hqc')
        have hne : ¬ n = p := fun e => hpc e.symm
        have hx'' : a.eval x = .pointer (some ⟨L.b, off - L.s, none⟩) := hx'
        simp only [run_v, Instr.sliceAt, Option.map_none, Sem.run_bind, run_underlying i5, Result.andThen_ok, Instr.sureAddr, hx'', Sem.run_pure', hb, run_sizeOf' j1, hne, if_false, j2, add_none]
        rw [show off - L.s + p * esz = off + p * esz - L.s by omega]
theorem slice_ok (P : Program) (o : Oper) (st : TypeId) (x : Operand) (lo hi mx : Option Operand) (h : o.op = .slice st x lo hi mx) : RunOk P o (runK (compSlice P st (compO x) (lo.map compO) (hi.map compO) mx)) := by
  cases mx with
  | some m => simp only [compSlice]; exact slice3_ok P o st x lo hi m h
  | none =>
  have hlo : ∀ {t : F} {k : Nat → Bool} {d : Nat}, boundK (lo.map compO) d t k = true → ∃ n, (∀ k', boundK (lo.map compO) d t k' = k' n) ∧ ∀ ρ a, ORel ρ t a o.op.operands.toList → ((lo = none ∧ n = d) ∨ ∃ x, lo = some x ∧ ∃ kd, a.eval x = .int kd (Int.ofNat n)) := by
    intro t k d hk
    obtain ⟨n, h1, h2⟩ := bound_ok hk
    refine ⟨n, h1, fun ρ a A => ?_⟩
    rcases h2 with h2 | ⟨x, rfl, h2⟩
    · exact .inl h2
    · exact .inr ⟨x, rfl, h2 ρ a (A x (by rw [h]; simp [Op.operands]))⟩
  have hhi : ∀ {t : F} {k : Nat → Bool} {d : Nat}, boundK (hi.map compO) d t k = true → ∃ n, (∀ k', boundK (hi.map compO) d t k' = k' n) ∧ ∀ ρ a, ORel ρ t a o.op.operands.toList → ((hi = none ∧ n = d) ∨ ∃ x, hi = some x ∧ ∃ kd, a.eval x = .int kd (Int.ofNat n)) := by
    intro t k d hk
    obtain ⟨n, h1, h2⟩ := bound_ok hk
    refine ⟨n, h1, fun ρ a A => ?_⟩
    rcases h2 with h2 | ⟨x, rfl, h2⟩
    · exact .inl h2
    · exact .inr ⟨x, rfl, h2 ρ a (A x (by rw [h]; simp [Op.operands]))⟩
  cases ht : tyAt P st with
  | none => simp only [compSlice, ht]; exact no_ok P o
  | some ty =>
    obtain ⟨size, bytes, d, z⟩ := ty
    obtain ⟨i, i1, i2, i3, i4, i5⟩ := tyAt_ok ht
    cases d <;> try (simp only [compSlice, ht]; exact no_ok P o)
    case array n e => simp only [compSlice, ht]; exact sliceArr_ok P o st x lo hi h ht
    · -- a string
      simp only [compSlice, ht, runK_mk]
      refine RunOk.calm fun cf t hp k hk => ?_
      simp only [doSSlice, oE_eq] at hk
      obtain ⟨l, n, hv, hk2⟩ := vS_ok hk
      obtain ⟨p, p1, p2⟩ := hlo hk2
      rw [p1] at hk2
      obtain ⟨q, q1, q2⟩ := hhi hk2
      rw [q1] at hk2
      obtain ⟨hpq, hk3⟩ := ifK_ok hk2
      obtain ⟨hql, hk4⟩ := ifK_ok hk3
      have hpq' : p ≤ q := Nat.le_of_ble_eq_true hpq
      have hql' : q ≤ l := Nat.le_of_ble_eq_true hql
      refine ⟨.s (q - p) ((n / 256 ^ (l - q)) % 256 ^ (q - p)), fun k' => by simp only [doSSlice, oE_eq, hv, vS_s, p1, q1, hpq, hql, ifK_true, fN_eq]; rfl, fun ρ a A w => ?_⟩
      have hx := (A x (by rw [h]; simp [Op.operands]))
      rw [hv] at hx
      obtain ⟨bx, ex, lx, px, sx⟩ := srel hx
      have e1 : (bx.extract p q).data.toList = (bx.data.toList.take q).drop p := by
        rw [ByteArray.data_extract, Array.toList_extract, List.extract_eq_take_drop]
        rw [List.drop_take]
      refine ⟨.string (bx.extract p q), ?_, srel_mk (by rw [e1]; simp; simp at lx; omega) (by rw [e1, pk_part _ hpq' (by omega), px, lx])⟩
      unfold execOp
      rw [h]
      have hb := run_bounds (P := P) (w := w) (isS := false) (len := l) (cap := l) (p2 ρ a A) (q2 ρ a A) hpq' (fun _ => hql')
      simp only [run_v, Instr.sliceAt, Option.map_none, Sem.run_bind, run_underlying i5, Result.andThen_ok, Instr.slice, ex, Option.isSome_none, Bool.false_eq_true, if_false, sx, hb]
      rfl
    · rename_i e
      cases he : tyAt P e with
      | none => simp only [compSlice, ht, he]; exact no_ok P o
      | some ety =>
        obtain ⟨esz, eb, ed, ez⟩ := ety
        obtain ⟨j, j1, j2, j3, j4, j5⟩ := tyAt_ok he
        simp only at j2
        cases hz : Nat.ble 1 esz with
        | false => simp only [compSlice, ht, he, hz]; exact no_ok P o
        | true =>
          simp only [compSlice, ht, he, hz, runK_mk]
          refine RunOk.calm fun cf t hp k hk => ?_
          simp only [doSlice, oE_eq] at hk
          rcases vL_ok hk with ⟨hv, hk2⟩ | ⟨id, g, off, len, fin, cap, hv, hk2⟩
          · obtain ⟨p, p1, p2⟩ := hlo hk2
            rw [p1] at hk2
            obtain ⟨q, q1, q2⟩ := hhi hk2
            rw [q1] at hk2
            obtain ⟨hp0, hk3⟩ := ifK_ok hk2
            obtain ⟨hq0, hk4⟩ := ifK_ok hk3
            have hp0' : p = 0 := Nat.eq_of_beq_eq_true hp0
            have hq0' : q = 0 := Nat.eq_of_beq_eq_true hq0
            subst hp0'
            subst hq0'
            refine ⟨.l0, fun k' => by simp only [doSlice, oE_eq, hv, vL_l0, p1, q1, hp0, hq0, ifK_true], fun ρ a A w => ?_⟩
            have hx := (A x (by rw [h]; simp [Op.operands]))
            rw [hv] at hx
            have hx' : a.eval x = .slice none 0 0 := hx
            refine ⟨.slice none 0 0, ?_, rfl⟩
            unfold execOp
            rw [h]
            have hb := run_bounds (P := P) (w := w) (isS := true) (len := 0) (cap := 0) (p2 ρ a A) (q2 ρ a A) (Nat.le_refl _) (fun _ => Nat.le_refl _)
            simp only [run_v, Instr.sliceAt, Option.map_none, Sem.run_bind, run_underlying i5, Result.andThen_ok, Instr.slice, hx', hb, run_sizeOf' j1]
            rfl
          · obtain ⟨p, p1, p2⟩ := hlo hk2
            rw [p1] at hk2
            obtain ⟨q, q1, q2⟩ := hhi hk2
            rw [q1] at hk2
            obtain ⟨hpq, hk3⟩ := ifK_ok hk2
            have hpq' : p ≤ q := Nat.le_of_ble_eq_true hpq
            cases cap with
            | some c =>
              have hk3 : boolK (flagB c) (fun _ => ifK (Nat.beq q 0) fun _ => k (.l id g off 0 off (some c)) hp) (fun _ => sliceC esz id g off len fin c p q fun v => k v hp) = true := hk3
              cases hfc : flagB c with
              | true =>
                rw [hfc] at hk3
                obtain ⟨hq0, hk4⟩ := ifK_ok (show (ifK (Nat.beq q 0) fun _ => k (.l id g off 0 off (some c)) hp) = true from hk3)
                have hq0' : q = 0 := Nat.eq_of_beq_eq_true hq0
                have hp0' : p = 0 := by omega
                subst hq0'; subst hp0'
                have hc := flagB_t hfc
                refine ⟨.l id g off 0 off (some c), fun k' => by simp only [doSlice, oE_eq, hv, vL_l, p1, q1, hpq, ifK_true]; show boolK (flagB c) (fun _ => ifK (Nat.beq 0 0) fun _ => _) _ = _; rw [hfc]; rfl, fun ρ a A w => ?_⟩
                have hx := (A x (by rw [h]; simp [Op.operands]))
                rw [hv] at hx
                obtain ⟨L, ad, cc, l1, hx', lc, l3, l4, l5, l6, l7⟩ := hx
                have hadr : ad = ⟨L.b, off - L.s, none⟩ := by
                  rcases l5 with ⟨h0, h1⟩ | h1
                  · rcases h1 with h1 | h1
                    · cases h1
                    · cases h1; omega
                  · exact h1
                subst hadr
                obtain ⟨zz, z1, z2, z3, z4⟩ : ∃ z, 1 ≤ z ∧ fin = off + len * z ∧ off - L.s + cc * z ≤ L.cs ∧ ∀ d, some c = some d → d = 18446744073709551615 + z := by
                  rcases l7 (.inr ⟨c, rfl, hc⟩) with h0 | h0
                  · cases h0.2
                  · exact h0
                refine ⟨.slice (some ⟨L.b, off - L.s, none⟩) (0 - 0) (cc - 0), ?_, L, _, cc - 0, l1, rfl, by omega, l3, by omega, .inr rfl, (fun d hd hl => by cases hd; omega), (fun _ => .inr ⟨zz, z1, by omega, by rw [Nat.sub_zero]; exact z3, z4⟩)⟩
                unfold execOp
                rw [h]
                have hb := run_bounds (P := P) (w := w) (isS := true) (len := len) (cap := cc) (p2 ρ a A) (q2 ρ a A) hpq' (fun _ => by omega)
                simp only [run_v, Instr.sliceAt, Option.map_none, Sem.run_bind, run_underlying i5, Result.andThen_ok, Instr.slice, hx', hb, run_sizeOf' j1, Option.map_some, Nat.zero_mul, add_none, Nat.add_zero]
                split <;> rfl
              | false =>
              rw [hfc] at hk3
              have hcM := flagB_f hfc
              have hk4 : (ifK (Nat.ble (Nat.succ c) 18446744073709551616) fun _ => ifK (Nat.ble q c) fun _ => boolK (Nat.beq p c) (fun _ => k (.l id g off 0 fin (some 0)) hp) (fun _ => fN (Nat.sub q p) fun l' => fN (Nat.sub c p) fun c' => fN (Nat.add off (Nat.mul p esz)) fun off' => k (.l id g off' l' fin (some c')) hp)) = true := hk3
              obtain ⟨hcs, hk4⟩ := ifK_ok hk4
              obtain ⟨hqc, hk5⟩ := ifK_ok hk4
              have hqc' : q ≤ c := Nat.le_of_ble_eq_true hqc
              by_cases hpc : p = c
              · have hpcb : Nat.beq p c = true := by rw [hpc]; exact Nat.beq_refl c
                refine ⟨.l id g off 0 fin (some 0), fun k' => by simp only [doSlice, oE_eq, hv, vL_l, p1, q1, hpq, ifK_true]; show boolK (flagB c) _ (fun _ => sliceC esz id g off len fin c p q _) = _; rw [hfc, boolK_false]; show sliceC esz id g off len fin c p q _ = _; simp only [sliceC, hcs, hqc, hpcb, ifK_true, boolK_true], fun ρ a A w => ?_⟩
                have hx := (A x (by rw [h]; simp [Op.operands]))
                rw [hv] at hx
                obtain ⟨L, ad, cc, l1, hx', lc, l3, l4, l5, l6, l7⟩ := hx
                have hcc : cc = c := l6 c rfl hcM
                subst hcc
                refine ⟨.slice (some ad) (q - p) (cc - p), ?_, L, ad, cc - p, l1, by rw [show q - p = 0 by omega], by omega, l3, l4, .inl ⟨rfl, .inr rfl⟩, (fun d hd _ => by cases hd; omega), (fun hd => absurd hd (Unk.no (by omega)))⟩
                unfold execOp
                rw [h]
                have hb := run_bounds (P := P) (w := w) (isS := true) (len := len) (cap := cc) (p2 ρ a A) (q2 ρ a A) hpq' (fun _ => hqc')
                simp only [run_v, Instr.sliceAt, Option.map_none, Sem.run_bind, run_underlying i5, Result.andThen_ok, Instr.slice, hx', hb, run_sizeOf' j1, hpc, if_true]
                rfl
              · have hpcb : Nat.beq p c = false := by
                  cases hx : Nat.beq p c with
                  | false => rfl
                  | true => exact absurd (Nat.eq_of_beq_eq_true hx) hpc
                refine ⟨.l id g (off + p * esz) (q - p) fin (some (c - p)), fun k' => by simp only [doSlice, oE_eq, hv, vL_l, p1, q1, hpq, ifK_true]; show boolK (flagB c) _ (fun _ => sliceC esz id g off len fin c p q _) = _; rw [hfc, boolK_false]; show sliceC esz id g off len fin c p q _ = _; simp only [sliceC, hcs, hqc, hpcb, ifK_true, boolK_false, fN_eq]; rfl, fun ρ a A w => ?_⟩
                have hx := (A x (by rw [h]; simp [Op.operands]))
                rw [hv] at hx
                obtain ⟨L, ad, cc, l1, hx', lc, l3, l4, l5, l6, l7⟩ := hx
                have hcc : cc = c := l6 c rfl hcM
                subst hcc
                have hadr : ad = ⟨L.b, off - L.s, none⟩ := by
                  rcases l5 with ⟨h0, h1⟩ | h1
                  · rcases h1 with h1 | h1
                    · cases h1
                    · cases h1; omega
                  · exact h1
                subst hadr
                refine ⟨.slice (some ⟨L.b, off + p * esz - L.s, none⟩) (q - p) (cc - p), ?_, L, _, cc - p, l1, rfl, by omega, by omega, l4, .inr rfl, (fun d hd _ => by cases hd; rfl), (fun hd => absurd hd (Unk.no (by omega)))⟩
                unfold execOp
                rw [h]
                have hb := run_bounds (P := P) (w := w) (isS := true) (len := len) (cap := cc) (p2 ρ a A) (q2 ρ a A) hpq' (fun _ => hqc')
                have hne : ¬ cc = p := fun e => hpc e.symm
                simp only [run_v, Instr.sliceAt, Option.map_none, Sem.run_bind, run_underlying i5, Result.andThen_ok, Instr.slice, hx', hb, run_sizeOf' j1, hne, if_false, Option.map_some, j2, add_none]
                rw [show off - L.s + p * esz = off + p * esz - L.s by omega]
                rfl
            | none =>
              have hk4 : (ifK (Nat.ble q len) fun _ => ifK (Nat.beq fin (Nat.add off (Nat.mul len esz))) fun _ => fN (Nat.sub q p) fun l' => fN (Nat.add off (Nat.mul p esz)) fun off' => fN (Nat.add off (Nat.mul q esz)) fun fin' => k (.l id g off' l' fin' (capS esz q len)) hp) = true := hk3
              obtain ⟨hqc, hk5⟩ := ifK_ok hk4
              obtain ⟨hfin, hk6⟩ := ifK_ok hk5
              have hqc' : q ≤ len := Nat.le_of_ble_eq_true hqc
              have hfin' : fin = off + len * esz := Nat.eq_of_beq_eq_true hfin
              refine ⟨.l id g (off + p * esz) (q - p) (off + q * esz) (capS esz q len), fun k' => by simp only [doSlice, oE_eq, hv, vL_l, p1, q1, hpq, ifK_true]; show sliceN esz id g off len fin p q _ = _; simp only [sliceN, hqc, hfin, ifK_true, fN_eq]; rfl, fun ρ a A w => ?_⟩
              have hx := (A x (by rw [h]; simp [Op.operands]))
              rw [hv] at hx
              obtain ⟨L, ad, cc, l1, hx', lc, l3, l4, l5, l6, l7⟩ := hx
              have hle1 : q * esz ≤ len * esz := Nat.mul_le_mul_right _ hqc'
              have hle2 : p * esz ≤ q * esz := Nat.mul_le_mul_right _ hpq'
              have hb := run_bounds (P := P) (w := w) (isS := true) (len := len) (cap := cc) (p2 ρ a A) (q2 ρ a A) hpq' (fun _ => by omega)
              refine ⟨.slice (if cc = p then some ad else some (ad.add (p * esz))) (q - p) (cc - p), ?_, ?_⟩
              · unfold execOp
                rw [h]
                simp only [run_v, Instr.sliceAt, Option.map_none, Sem.run_bind, run_underlying i5, Result.andThen_ok, Instr.slice, hx', hb, run_sizeOf' j1, j2, Option.map_some]
                rfl
              · by_cases hin : len = 0 ∨ 1 ≤ q ∧ (cc = p ∨ q - p = 0)
                · have hcs : capS esz q len = none := by
                    rcases hin with e | e
                    · have : q = len := by omega
                      rw [this, capS_self]
                    · exact capS_pos e.1
                  rw [hcs]
                  by_cases hpc : cc = p
                  · rw [if_pos hpc]
                    refine ⟨L, ad, cc - p, l1, rfl, by omega, by omega, by omega, .inl ⟨by omega, .inl rfl⟩, (fun d hd => by cases hd), (fun _ => .inl ⟨by omega, rfl⟩)⟩
                  · rw [if_neg hpc]
                    exact ⟨L, _, cc - p, l1, rfl, by omega, by omega, by omega, .inl ⟨by omega, .inl rfl⟩, (fun d hd => by cases hd), (fun _ => .inl ⟨by omega, rfl⟩)⟩
                · have hl1 : 1 ≤ len := by omega
                  have hadr : ad = ⟨L.b, off - L.s, none⟩ := by
                    rcases l5 with ⟨h0, h1⟩ | h1
                    · omega
                    · exact h1
                  subst hadr
                  obtain ⟨zz, z1, z2, z3⟩ : ∃ z, 1 ≤ z ∧ fin = off + len * z ∧ off - L.s + cc * z ≤ L.cs := by
                    rcases l7 (.inl rfl) with h0 | ⟨z, h1, h2, h3, _⟩
                    · omega
                    · exact ⟨z, h1, h2, h3⟩
                  have hzz : zz = esz := by
                    have : len * zz = len * esz := by omega
                    exact Nat.eq_of_mul_eq_mul_left (by omega) this
                  subst hzz
                  have hpcc : p ≤ cc := by omega
                  have e3 : (cc - p) * zz = cc * zz - p * zz := Nat.sub_mul _ _ _
                  have e4 : (q - p) * zz = q * zz - p * zz := Nat.sub_mul _ _ _
                  have e5 : p * zz ≤ cc * zz := Nat.mul_le_mul_right _ hpcc
                  have hpc : ¬ cc = p := fun e => by
                    rcases Nat.eq_zero_or_pos q with h0 | h0
                    · omega
                    · exact hin (.inr ⟨h0, .inl e⟩)
                  rw [if_neg hpc]
                  exact ⟨L, _, cc - p, l1, rfl, by omega, by omega, by omega, .inr (by rw [add_none]; rw [show off - L.s + p * zz = off + p * zz - L.s by omega]), (fun d hd hl => absurd hl (capS_big z1 hd)), (fun _ => .inr ⟨zz, z1, by omega, by omega, fun d hd => capS_eq hd⟩)⟩
theorem strmove_ok (P : Program) (o : Oper) (s d : TypeId) (x : Operand) (hs : P.underlying s = some .string) (hd : P.underlying d = some .string) (h : o.op = .convert s d x) : RunOk P o (doMoveS (compO x)) := by
  refine RunOk.calm fun cf t hp k hk => ?_
  simp only [doMoveS, oE_eq] at hk
  obtain ⟨l, n, hv, hk2⟩ := vS_ok hk
  refine ⟨.s l n, fun k' => by simp only [doMoveS, oE_eq, hv, vS_s], fun ρ a A w => ?_⟩
  have hx := (A x (by rw [h]; simp [Op.operands]))
  rw [hv] at hx
  have hx0 := hx
  obtain ⟨bx, ex, lx, px, sx⟩ := srel hx
  refine ⟨.string bx, ?_, by rw [← ex]; exact hx0⟩
  unfold execOp
  rw [h]
  simp only [ex, convert, Sem.run_bind, run_underlying hs, run_underlying hd, Result.andThen_ok]
  rfl
theorem byteK_ok {v : V} {k : Nat → Bool} (h : byteK v k = true) : ∃ n, v = .i .u8 (Int.ofNat n) ∧ n ≤ 255 ∧ (∀ k', byteK v k' = k' n) ∧ k n = true := by
  obtain ⟨kd, m, rfl, h2⟩ := vI_ok h
  obtain ⟨hk, h3⟩ := ifK_ok h2
  have hkd := kdEq_ok hk
  subst hkd
  obtain ⟨n, rfl, h4⟩ := natK_ok h3
  obtain ⟨hn, h5⟩ := ifK_ok h4
  exact ⟨n, rfl, Nat.le_of_ble_eq_true hn, fun k' => by simp only [byteK, vI_i, hk, ifK_true, natK_ofNat, hn], h5⟩
theorem packK_ok : ∀ (vs : List V) (acc : Nat) (k : Nat → Bool), packK vs acc k = true → ∃ bs : List UInt8, vs = bs.map (fun c => V.i .u8 (Int.ofNat c.toNat)) ∧ ∀ k', packK vs acc k' = k' (acc * 256 ^ bs.length + pk bs)
  | [], acc, k, _ => ⟨[], rfl, fun k' => by show fN acc k' = _; rw [fN_eq]; simp [pk]⟩
  | v :: vs, acc, k, h => by
    have e : ∀ k', packK (v :: vs) acc k' = byteK v fun c => fN (Nat.add (Nat.mul acc 256) c) fun acc => packK vs acc k' := fun _ => rfl
    rw [e] at h
    obtain ⟨n, rfl, hn, h1, h2⟩ := byteK_ok h
    rw [fN_eq] at h2
    obtain ⟨bs, rfl, h3⟩ := packK_ok vs _ k h2
    have hc : (UInt8.ofNat n).toNat = n := by simp; omega
    refine ⟨UInt8.ofNat n :: bs, by simp only [List.map_cons, hc], fun k' => ?_⟩
    rw [e, h1, fN_eq, h3]
    congr 1
    show (acc * 256 + n) * 256 ^ bs.length + pk bs = acc * 256 ^ (bs.length + 1) + ((UInt8.ofNat n).toNat * 256 ^ bs.length + pk bs)
    rw [hc, Nat.add_mul, Nat.pow_succ, Nat.mul_assoc, Nat.mul_comm 256, Nat.add_assoc]
theorem push_fold : ∀ (ns : List UInt8) (s : ByteArray), ((ns.map fun c => (Int.ofNat c.toNat)).foldl (fun r n => r.push (UInt8.ofNat n.toNat)) s).data.toList = s.data.toList ++ ns
  | [], s => by simp
  | c :: ns, s => by
    rw [List.map_cons, List.foldl_cons, push_fold ns]
    have : (s.push (UInt8.ofNat (Int.ofNat c.toNat).toNat)).data.toList = s.data.toList ++ [c] := by
      show (s.data.push _).toList = _
      simp
    rw [this]; simp
theorem b2s_ok (P : Program) (o : Oper) (s d e : TypeId) (x : Operand) (hs : P.underlying s = some (.slice e)) (hd : P.underlying d = some .string) (h : o.op = .convert s d x) :
    RunOk P o (runK (compB2S (tyAt P e) (compO x))) := by
  unfold compB2S
  split
  · rename_i b z he
    obtain ⟨j, j1, j2, j3, j4, j5⟩ := tyAt_ok he
    refine RunOk.pure (by rw [h]; rfl) fun cf t hp k hk => ?_
    simp only [runK_mk, doB2S, oE_eq] at hk
    rcases vL_ok hk with ⟨hv, hk2⟩ | ⟨id, g, off, len, fin, cap, hv, hk2⟩
    · refine ⟨.s 0 0, fun k' => by simp only [runK_mk, doB2S, oE_eq, hv, vL_l0], fun ρ a A w w0 R => ?_⟩
      have hx := (A x (by rw [h]; simp [Op.operands]))
      rw [hv] at hx
      have hx' : a.eval x = .slice none 0 0 := hx
      refine ⟨.string .empty, ?_, srel_mk rfl rfl⟩
      unfold execOp
      rw [h]
      simp only [hx', convert, Sem.run_bind, run_underlying hs, run_underlying hd, run_underlying j5, Result.andThen_ok]
      rfl
    · obtain ⟨vs, h1, h2, h3⟩ := loadZ_ok (fun h => h) hk2
      rw [h1] at hk2
      obtain ⟨bs, rfl, h4⟩ := packK_ok _ _ _ hk2
      have hbl : bs.length = len := by simpa using h2
      refine ⟨.s len (pk bs), fun k' => by simp only [runK_mk, doB2S, oE_eq, hv, vL_l, h1, h4]; simp, fun ρ a A w w0 R => ?_⟩
      have hx := (A x (by rw [h]; simp [Op.operands]))
      rw [hv] at hx
      obtain ⟨L, ad, cc, l1, hx', lc, l3, l4, l5, l6, l7⟩ := hx
      obtain ⟨xs, x1, x2, x3⟩ := h3 ρ w w0 L R l1 l3 l4
      have hxs : ∀ (bs : List UInt8) (xs : List Value), LRel ρ (bs.map fun c => V.i .u8 (Int.ofNat c.toNat)) xs → xs = (bs.map fun c => Int.ofNat c.toNat).map (Value.int .u8) := by
        intro bs
        induction bs with
        | nil => intro xs hx; cases xs <;> first | rfl | exact hx.elim
        | cons c bs ih =>
          intro xs hx
          cases xs with
          | nil => exact hx.elim
          | cons y ys =>
            have h1 : y = .int .u8 (Int.ofNat c.toNat) := hx.1
            rw [h1, ih ys hx.2]; rfl
      have hx1 := hxs bs xs x1
      have hload : (loadCells ad len).run P w = .ok ((bs.map fun c => Int.ofNat c.toNat).map (Value.int .u8)).toArray w := by
        rcases l5 with ⟨h0, _⟩ | h0
        · subst h0
          have : bs = [] := List.eq_nil_of_length_eq_zero hbl
          subst this; rfl
        · rw [h0, ← hx1]; exact x2 P
      refine ⟨.string ((bs.map fun c => Int.ofNat c.toNat).foldl (fun r n => r.push (UInt8.ofNat n.toNat)) ByteArray.empty), ?_, srel_mk ?_ ?_⟩
      · unfold execOp
        rw [h]
        have := run_bytesToString w ad len cc _ hload
        simp only [hx', convert, Sem.run_bind, run_underlying hs, run_underlying hd, run_underlying j5, Result.andThen_ok, this]
        rfl
      · rw [push_fold]; simpa using hbl
      · rw [push_fold]; rfl
  · exact no_ok P o
end Go.Ev
