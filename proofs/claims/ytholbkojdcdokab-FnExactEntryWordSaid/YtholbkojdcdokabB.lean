/- The abstract machine's operations, how an operation of the model is read as one of them, and what one does. No program is named here. -/
import Derived.Test.YtholbkojdcdokabA
namespace Go.Proofs.Ytholbkojdcdokab
open Go.RowKit

inductive Opd where
  | t (i : Nat)
  | c (v : AV)

def Opd.val (env : List AV) : Opd → AV
  | .t i => env.getD i .unk
  | .c v => v

inductive LOp where
  | mv (x : Opd)
  | pick (c a b : Opd)
  | box (e : TypeId) (x : Opd)
  | fresh (e : TypeId) (zero : List AV)
  | bld (zero : List AV) (parts : List (Nat × Nat × Opd))
  | bsl (e : TypeId) (sz m : Nat) (zero : List AV) (parts : List (Nat × Nat × Opd))
  | load (ag : Bool) (m : Nat) (a : Opd)
  | store (m : Nat) (a x : Opd)
  | bin (op : BinOp) (x y : Opd)
  | binb (neg : Bool) (x y : Opd)
  | un (op : UnOp) (x : Opd)
  | mk (e : TypeId) (sz bytes : Nat) (zero : List AV) (l : Opd)
  | slc (sz : Nat) (x : Opd) (lo hi : Option Opd)
  | fadr (off : Nat) (x : Opd)
  | fld (ag : Bool) (off m : Nat) (x : Opd)
  | iadr (sz : Nat) (x i : Opd)
  | ext (x : Opd) (i : Nat)
  | len (x : Opd)
  | app (e : TypeId) (sz bytes : Nat) (zero : List AV) (s x : Opd)
  | cpy (sz : Nat) (d s : Opd)
  | cvt (k : IntKind) (x : Opd)
  | call (f : FuncId) (xs : List Opd)

structure LOper where
  dst : Option Nat
  op : LOp
  g : Option (Nat × Bool) := none

/-! ### Reading an operation of the model -/

mutual
def lowVal : Value → Option AV
  | .bool b => some (.bool b)
  | .int k n => if k.min ≤ n ∧ n ≤ k.max then some (.int k n) else none
  | .slice none 0 0 => some .nil
  | .agg ⟨cs⟩ => (lowVals cs).map .agg
  | _ => none
def lowVals : List Value → Option (List AV)
  | [] => some []
  | v :: vs => if v.oneCell' then match lowVal v, lowVals vs with | some x, some xs => some (x :: xs) | _, _ => none else none
end

def lowOpd : Operand → Option Opd
  | .tmp t => some (.t t)
  | .const v => (lowVal v).map .c
  | _ => none

def lowOpds : List Operand → Option (List Opd)
  | [] => some []
  | x :: xs => match lowOpd x, lowOpds xs with | some y, some ys => some (y :: ys) | _, _ => none

def zeroCells (P : Program) (t : TypeId) : Option (List AV) := ((P.info? t).bind (·.zero)).bind fun z => lowVals z.cells.toList

def aggB (P : Program) (t : TypeId) : Option Bool := (P.underlying t).map fun | .struct _ => true | .array _ _ => true | _ => false

def lowParts (P : Program) (fs : Array Field) : List (Nat × Operand) → Option (List (Nat × Nat × Opd))
  | [] => some []
  | (i, x) :: ps => match fs[i]?, lowOpd x, lowParts P fs ps with
    | some f, some y, some ys => (P.info? f.type).map fun inf => (f.offset, inf.size, y) :: ys
    | _, _, _ => none

def lowElems (sz : Nat) : List (Nat × Operand) → Option (List (Nat × Nat × Opd))
  | [] => some []
  | (i, x) :: ps => match lowOpd x, lowElems sz ps with
    | some y, some ys => some ((i * sz, sz, y) :: ys)
    | _, _ => none

def lowOptOpd : Option Operand → Option (Option Opd)
  | none => some none
  | some x => (lowOpd x).map some

def lowOp (P : Program) (o : Oper) : Option LOp :=
  match o.op with
  | .move x | .assign x => (lowOpd x).map .mv
  | .pick c a b => match lowOpd c, lowOpd a, lowOpd b with | some c, some a, some b => some (.pick c a b) | _, _, _ => none
  | .box e x => (lowOpd x).map (.box e)
  | .alloc e => (zeroCells P e).map (.fresh e)
  | .build t ps => match P.underlying t, zeroCells P t, ps.toList with
    | some (.struct fs), some z, l => if fs.toList.all (fun f => (P.info? f.type).isSome) then (lowParts P fs l).map (.bld z) else none
    | _, _, _ => none
  | .buildSlice t m ps => match P.underlying t with
    | some (.slice e) => match P.info? e, zeroCells P e with
      | some inf, some z => if m * inf.size ≤ 2 ^ 24 ∧ z.length = inf.size ∧ 0 < inf.size then (lowElems inf.size ps.toList).map (.bsl e inf.size m z) else none
      | _, _ => none
    | _ => none
  | .load t a => match aggB P t, P.info? t, lowOpd a with
    | some ag, some inf, some a => some (.load ag inf.size a)
    | _, _, _ => none
  | .store t a x => match P.info? t, lowOpd a, lowOpd x with
    | some inf, some a, some x => some (.store inf.size a x)
    | _, _, _ => none
  | .binOp op t x y _ => match P.underlying t, lowOpd x, lowOpd y with
    | some (.int _), some x, some y => some (.bin op x y)
    | some .bool, some x, some y => match op with
      | .eql => some (.binb false x y)
      | .neq => some (.binb true x y)
      | _ => none
    | _, _, _ => none
  | .unOp op _ x => (lowOpd x).map (.un op)
  | .makeSlice t l c => match P.underlying t, lowOpd l, lowOpd c with
    | some (.slice e), some (.t l), some (.t c) => match P.info? e, zeroCells P e with
      | some inf, some z => if l = c ∧ z.length = inf.size ∧ 0 < inf.size then some (.mk e inf.size inf.bytes z (.t l)) else none
      | _, _ => none
    | some (.slice e), some (.c (.int .i64 l)), some (.c (.int .i64 c)) => match P.info? e, zeroCells P e with
      | some inf, some z => if l = c ∧ z.length = inf.size ∧ 0 < inf.size then some (.mk e inf.size inf.bytes z (.c (.int .i64 l))) else none
      | _, _ => none
    | _, _, _ => none
  | .fieldAddr s x f => match P.underlying s, lowOpd x with
    | some (.struct fs), some x => match fs[f]? with
      | some f => match P.info? f.type with
        | some inf => if inf.size = 0 then none else some (.fadr f.offset x)
        | none => none
      | none => none
    | _, _ => none
  | .field s x f => match P.underlying s, lowOpd x with
    | some (.struct fs), some x => match fs[f]? with
      | some f => match aggB P f.type, P.info? f.type with
        | some ag, some inf => some (.fld ag f.offset inf.size x)
        | _, _ => none
      | none => none
    | _, _ => none
  | .indexAddr t x i => match P.underlying t, lowOpd x, lowOpd i with
    | some (.slice e), some x, some i => (P.info? e).map fun inf => .iadr inf.size x i
    | _, _, _ => none
  | .extract x i => (lowOpd x).map (.ext · i)
  | .call { callee := .builtin .len, args := ⟨[x]⟩, argTypes := ⟨[t]⟩ } => match P.underlying t, lowOpd x with
    | some (.slice _), some x => some (.len x)
    | _, _ => none
  | .call { callee := .value (.func f), args := ⟨xs⟩, .. } => (lowOpds xs).map (.call f)
  | _ => none

/-! ### What an operation does -/

def AV.cells : AV → Option (List AV)
  | .unk | .und | .tup _ => none
  | .agg vs => some vs
  | v => some [v]

def setCells (cs : List AV) (o : Nat) : List AV → List AV
  | [] => cs
  | v :: vs => setCells (cs.set o v) (o + 1) vs

def pickCells (ag : Bool) (cs : List AV) (o m : Nat) : AV := match ag with
  | true => .agg ((cs.drop o).take m)
  | false => cs.getD o .unk

def repeatCells (z : List AV) : Nat → List AV
  | 0 => []
  | k + 1 => z ++ repeatCells z k

def fillParts (env : List AV) (cs : List AV) : List (Nat × Nat × Opd) → Option (List AV)
  | [] => some cs
  | (off, sz, x) :: ps => match (x.val env).cells with
    | some vs => if vs.length = sz ∧ off + sz ≤ cs.length then fillParts env (setCells cs off vs) ps else none
    | none => none

def xbin (op : BinOp) (k : IntKind) (a b : Int) (K : AV → Prop) : Prop :=
  match op with
  | .add => K (.int k (k.wrap (a + b)))
  | .sub => K (.int k (k.wrap (a - b)))
  | .mul => K (.int k (k.wrap (a * b)))
  | .quo => b ≠ 0 ∧ K (.int k (k.wrap (a.tdiv b)))
  | .rem => b ≠ 0 ∧ K (.int k (a.tmod b))
  | .eql => K (.bool (decide (a = b)))
  | .neq => K (.bool (!decide (a = b)))
  | .lss => K (.bool (decide (a < b)))
  | .leq => K (.bool (decide (a ≤ b)))
  | .gtr => K (.bool (decide (b < a)))
  | .geq => K (.bool (decide (b ≤ a)))
  | _ => False

def xun (op : UnOp) (x : AV) (K : AV → Prop) : Prop :=
  match op, x with
  | .not, .bool b => K (.bool (!b))
  | .neg, .int k a => K (.int k (k.wrap (0 - a)))
  | _, _ => False

/-- A function, called on these values with this memory, hands back r and leaves H'. -/
def Inl (P : Program) (f : FuncId) (args : List AV) (H : Heap) (n : Nat) (r : AV) (H' : Heap) (n' : Nat) : Prop :=
  ∀ (w0 w : World) (β : Nat → Spot) (vs : List Value), Below w0.heap.size w0 w → RH w0 n β H w → RVt w0 n β args vs →
    Calls P f vs.toArray w fun e w' => ∃ v β', e = .returned v ∧ n ≤ n' ∧ (∀ i, i < n → β' i = β i) ∧ RV w0 n' β' r v ∧ RH w0 n' β' H' w' ∧ Below w0.heap.size w0 w'

def xop (P : Program) (env : List AV) (H : Heap) (n : Nat) (K : AV → Heap → Nat → Prop) : LOp → Prop
  | .mv x => K (x.val env) H n
  | .pick c a b => match c.val env with
    | .bool t => if t = true then K (a.val env) H n else K (b.val env) H n
    | _ => False
  | .box e x => match (x.val env).cells with
    | some cs => K (.ptr n 0) ((n, some ⟨e, cs⟩) :: H) (n + 1)
    | none => False
  | .fresh e z => K (.ptr n 0) ((n, some ⟨e, z⟩) :: H) (n + 1)
  | .bld z ps => match fillParts env z ps with
    | some cs => K (.agg cs) H n
    | none => False
  | .bsl e sz m z ps => match fillParts env (repeatCells z m) ps with
    | some cs => K (.sref n 0 m sz) ((n, some ⟨e, cs⟩) :: H) (n + 1)
    | none => False
  | .load ag m a => match a.val env with
    | .ptr r o => match H.get r with
      | some t => o + m ≤ t.cs.length ∧ (ag = false → m = 1) ∧ K (pickCells ag t.cs o m) H n
      | none => False
    | .bptr cs o => o + m ≤ cs.length ∧ (ag = false → m = 1) ∧ K (pickCells ag cs o m) H n
    | _ => False
  | .store m a x => match a.val env, (x.val env).cells with
    | .ptr r o, some vs => match H.get r with
      | some t => vs.length = m ∧ o + m ≤ t.cs.length ∧ K .und ((r, some ⟨t.e, setCells t.cs o vs⟩) :: H) n
      | none => False
    | _, _ => False
  | .bin op x y => match x.val env, y.val env with
    | .int k a, .int k' b => k = k' ∧ xbin op k a b fun v => K v H n
    | _, _ => False
  | .binb ng x y => match x.val env, y.val env with
    | .bool a, .bool b => K (.bool (match ng with | true => !(a == b) | false => a == b)) H n
    | _, _ => False
  | .un op x => xun op (x.val env) fun v => K v H n
  | .mk e sz bytes z l => match l.val env with
    | .int .i64 m => (0 ≤ m ∧ m * bytes ≤ 2 ^ 47 ∧ m ≤ 2 ^ 47) ∧ K (.sref n 0 m.toNat sz) ((n, some ⟨e, repeatCells z m.toNat⟩) :: H) (n + 1)
    | _ => False
  | .fadr off x => match x.val env with
    | .ptr r o => K (.ptr r (o + off)) H n
    | .bptr cs o => K (.bptr cs (o + off)) H n
    | _ => False
  | .fld ag off m x => match x.val env with
    | .agg cs => off + m ≤ cs.length ∧ (ag = false → m = 1) ∧ K (pickCells ag cs off m) H n
    | _ => False
  | .iadr sz x i => match x.val env, i.val env with
    | .sref r o m sz', .int _ k => (sz' = sz ∧ 0 ≤ k ∧ k < m) ∧ K (.ptr r (o + k.toNat * sz)) H n
    | .bor m cs, .int _ k => (0 ≤ k ∧ k < m ∧ k.toNat * sz < cs.length) ∧ K (.bptr cs (k.toNat * sz)) H n
    | _, _ => False
  | .ext x i => match x.val env with
    | .tup vs => i < vs.length ∧ K (vs.getD i .unk) H n
    | _ => False
  | .len x => match x.val env with
    | .sref _ _ m _ => K (.int .i64 m) H n
    | .bor m _ => K (.int .i64 m) H n
    | .nil => K (.int .i64 0) H n
    | _ => False
  | .call f xs => ∃ r H' n', Inl P f (xs.map (·.val env)) H n r H' n' ∧ K r H' n'
  | _ => False

def put (env : List AV) (d : Option Nat) (v : AV) : List AV := match d with
  | some d => env.set d v
  | none => env

def xops (P : Program) (K : List AV → Heap → Nat → Prop) : List LOper → List AV → Heap → Nat → Prop
  | [], env, H, n => K env H n
  | o :: os, env, H, n => match o.g with
    | none => xop P env H n (fun v H' n' => xops P K os (put env o.dst v) H' n') o.op
    | some (t, want) => match env.getD t .unk with
      | .bool b => if b = want then xop P env H n (fun v H' n' => xops P K os (put env o.dst v) H' n') o.op else xops P K os (put env o.dst .und) H n
      | .und => xops P K os (put env o.dst .und) H n
      | _ => False
end Go.Proofs.Ytholbkojdcdokab
