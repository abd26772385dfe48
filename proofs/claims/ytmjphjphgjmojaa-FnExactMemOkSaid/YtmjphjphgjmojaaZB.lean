/- The operations of the machine with trees, how an operation of the model is read as one of them, and what one does. No program is named here. -/
import Derived.Test.YtmjphjphgjmojaaZA
namespace Go.Proofs.Ytmjphjphgjmojaa
set_option linter.all false
open Go.RowKit
inductive Opd where
 | t (i : Nat)
 | c (v : AV)
def Opd.val (env : List AV) : Opd → AV
 | .t i => env.getD i .unk
 | .c v => v
inductive LOp where
 | mv (x : Opd)
 | pick (c a b : Opd)
 | box (e : TypeId) (x : Opd)
 | fresh (e : TypeId) (zero : List AV)
 | bld (zero : List AV) (parts : List (Nat × Nat × Opd))
 | bsl (e : TypeId) (sz m : Nat) (zero : List AV) (parts : List (Nat × Nat × Opd))
 | load (ag : Bool) (m : Nat) (a : Opd)
 | store (m : Nat) (a x : Opd)
 | bin (op : BinOp) (x y : Opd)
 | binb (neg : Bool) (x y : Opd)
 | un (op : UnOp) (x : Opd)
 | mk (e : TypeId) (sz bytes : Nat) (zero : List AV) (l : Opd)
 | slc (sz : Nat) (x : Opd) (lo hi : Option Opd)
 | fadr (off : Nat) (x : Opd)
 | fld (ag : Bool) (off m : Nat) (x : Opd)
 | iadr (sz : Nat) (x i : Opd)
 | ext (x : Opd) (i : Nat)
 | len (x : Opd)
 | app (e : TypeId) (sz bytes : Nat) (zero : List AV) (s x : Opd)
 | cpy (sz : Nat) (d s : Opd)
 | cvt (k : IntKind) (x : Opd)
 | sh (left : Bool) (x y : Opd)
 | beq (neg : Bool) (offs : List (Nat × Bool)) (x y : Opd)
 | nck (x : Opd)
 | mx (most : Bool) (x y : Opd)
 | call (f : FuncId) (xs : List Opd)
structure LOper where
 dst : Option Nat
 op : LOp
 g : Option (Nat × Bool) := none
mutual
def lowVal : Value → Option AV
 | .bool b => some (.bool b)
 | .int k n => if k.min ≤ n ∧ n ≤ k.max then some (.int k n) else none
 | .slice none 0 0 => some .nil
 | .pointer none => some .unk
 | .agg ⟨cs⟩ => (lowVals cs).map .agg
 | _ => none
def lowVals : List Value → Option (List AV)
 | [] => some []
 | v :: vs => if v.oneCell' then match lowVal v, lowVals vs with | some x, some xs => some (x :: xs) | _, _ => none else none
end
def lowOpd : Operand → Option Opd
 | .tmp t => some (.t t)
 | .const v => (lowVal v).map .c
 | _ => none
def lowOpds : List Operand → Option (List Opd)
 | [] => some []
 | x :: xs => match lowOpd x, lowOpds xs with | some y, some ys => some (y :: ys) | _, _ => none
def zeroCells (P : Program) (t : TypeId) : Option (List AV) := ((P.info? t).bind (·.zero)).bind fun z => lowVals z.cells.toList
def aggB (P : Program) (t : TypeId) : Option Bool := (P.underlying t).map fun | .struct _ => true | .array _ _ => true | _ => false
def lowParts (P : Program) (fs : Array Field) : List (Nat × Operand) → Option (List (Nat × Nat × Opd))
 | [] => some []
 | (i, x) :: ps => match fs[i]?, lowOpd x, lowParts P fs ps with
  | some f, some y, some ys => (P.info? f.type).map fun inf => (f.offset, inf.size, y) :: ys
  | _, _, _ => none
def lowElems (sz : Nat) : List (Nat × Operand) → Option (List (Nat × Nat × Opd))
 | [] => some []
 | (i, x) :: ps => match lowOpd x, lowElems sz ps with
  | some y, some ys => some ((i * sz, sz, y) :: ys)
  | _, _ => none
def lowOptOpd : Option Operand → Option (Option Opd)
 | none => some none
 | some x => (lowOpd x).map some
def plainField (P : Program) (f : Field) : Bool := f.name != "_" && (match P.underlying f.type with | some (.int _) => true | some .bool => true | _ => false)
def fieldAt (P : Program) (f : Field) : Nat × Bool := (f.offset, match P.underlying f.type with | some .bool => true | _ => false)
def plainStruct (P : Program) (t : TypeId) (fs : Array Field) : Bool := fs.toList.all (plainField P) && !P.stoodInHeld t && !(P.eqGuardType P.depth t)
def lowOp (P : Program) (o : Oper) : Option LOp :=
 match o.op with
 | .move x | .assign x => (lowOpd x).map .mv
 | .pick c a b => match lowOpd c, lowOpd a, lowOpd b with | some c, some a, some b => some (.pick c a b) | _, _, _ => none
 | .box e x => (lowOpd x).map (.box e)
 | .alloc e => (zeroCells P e).map (.fresh e)
 | .build t ps => match P.underlying t, zeroCells P t, ps.toList with
  | some (.struct fs), some z, l => if fs.toList.all (fun f => (P.info? f.type).isSome) then (lowParts P fs l).map (.bld z) else none
  | _, _, _ => none
 | .buildSlice t m ps => match P.underlying t with
  | some (.slice e) => match P.info? e, zeroCells P e with
   | some inf, some z => if m * inf.size ≤ 2 ^ 24 ∧ z.length = inf.size ∧ 0 < inf.size then (lowElems inf.size ps.toList).map (.bsl e inf.size m z) else none
   | _, _ => none
  | _ => none
 | .load t a => match aggB P t, P.info? t, lowOpd a with
  | some ag, some inf, some a => some (.load ag inf.size a)
  | _, _, _ => none
 | .store t a x => match P.info? t, lowOpd a, lowOpd x with
  | some inf, some a, some x => some (.store inf.size a x)
  | _, _, _ => none
 | .binOp op t x y _ => match P.underlying t, lowOpd x, lowOpd y with
  | some (.int _), some x, some y => match op with
   | .shl => some (.sh true x y)
   | .shr => some (.sh false x y)
   | op => some (.bin op x y)
  | some (.struct fs), some x, some y => if plainStruct P t fs then match op with
   | .eql => some (.beq false (fs.toList.map (fieldAt P)) x y)
   | .neq => some (.beq true (fs.toList.map (fieldAt P)) x y)
   | _ => none
   else none
  | some .bool, some x, some y => match op with
   | .eql => some (.binb false x y)
   | .neq => some (.binb true x y)
   | _ => none
  | _, _, _ => none
 | .unOp op _ x => (lowOpd x).map (.un op)
 | .makeSlice t l c => match P.underlying t, lowOpd l, lowOpd c with
  | some (.slice e), some (.t l), some (.t c) => match P.info? e, zeroCells P e with
   | some inf, some z => if l = c ∧ z.length = inf.size ∧ 0 < inf.size then some (.mk e inf.size inf.bytes z (.t l)) else none
   | _, _ => none
  | some (.slice e), some (.c (.int .i64 l)), some (.c (.int .i64 c)) => match P.info? e, zeroCells P e with
   | some inf, some z => if l = c ∧ z.length = inf.size ∧ 0 < inf.size then some (.mk e inf.size inf.bytes z (.c (.int .i64 l))) else none
   | _, _ => none
  | _, _, _ => none
 | .fieldAddr s x f => match P.underlying s, lowOpd x with
  | some (.struct fs), some x => match fs[f]? with
   | some f => match P.info? f.type with
    | some inf => if inf.size = 0 then none else some (.fadr f.offset x)
    | none => none
   | none => none
  | _, _ => none
 | .field s x f => match P.underlying s, lowOpd x with
  | some (.struct fs), some x => match fs[f]? with
   | some f => match aggB P f.type, P.info? f.type with
    | some ag, some inf => some (.fld ag f.offset inf.size x)
    | _, _ => none
   | none => none
  | _, _ => none
 | .indexAddr t x i => match P.underlying t, lowOpd x, lowOpd i with
  | some (.slice e), some x, some i => (P.info? e).map fun inf => .iadr inf.size x i
  | _, _, _ => none
 | .extract x i => (lowOpd x).map (.ext · i)
 | .call { callee := .builtin .len, args := ⟨[x]⟩, argTypes := ⟨[t]⟩ } => match P.underlying t, lowOpd x with
  | some (.slice _), some x => some (.len x)
  | _, _ => none
 | .slice t x lo hi none => match P.underlying t, lowOpd x, lowOptOpd lo, lowOptOpd hi with
  | some (.slice e), some x, some lo, some hi => match P.info? e with
   | some inf => if 0 < inf.size then some (.slc inf.size x lo hi) else none
   | none => none
  | _, _, _, _ => none
 | .convert src dst x => match P.underlying src, P.underlying dst, lowOpd x with
  | some (.int _), some (.int k), some x => some (.cvt k x)
  | _, _, _ => none
 | .call { callee := .builtin .append, args := ⟨[x, y]⟩, argTypes := ⟨[t, t2]⟩ } => match P.underlying t, lowOpd x, lowOpd y with
  | some (.slice e), some x, some y => match P.info? e, zeroCells P e with
   | some inf, some z => if t = t2 ∧ z.length = inf.size ∧ 0 < inf.size then some (.app e inf.size inf.bytes z x y) else none
   | _, _ => none
  | _, _, _ => none
 | .call { callee := .builtin .copy, args := ⟨[x, y]⟩, argTypes := ⟨[t, _]⟩ } => match P.underlying t, lowOpd x, lowOpd y with
  | some (.slice e), some x, some y => match P.info? e with
   | some inf => if 0 < inf.size then some (.cpy inf.size x y) else none
   | none => none
  | _, _, _ => none
 | .call { callee := .builtin .max, args := ⟨[x, y]⟩, .. } => match lowOpd x, lowOpd y with | some x, some y => some (.mx true x y) | _, _ => none
 | .call { callee := .builtin .min, args := ⟨[x, y]⟩, .. } => match lowOpd x, lowOpd y with | some x, some y => some (.mx false x y) | _, _ => none
 | .nilCheck x => (lowOpd x).map .nck
 | .call { callee := .value (.func f), args := ⟨xs⟩, .. } => (lowOpds xs).map (.call f)
 | _ => none
def AV.cells : AV → Option (List AV)
 | .unk | .und | .tup _ | .own _ _ _ _ => none
 | .agg vs => some vs
 | v => some [v]
def setCells (cs : List AV) (o : Nat) : List AV → List AV
 | [] => cs
 | v :: vs => setCells (cs.set o v) (o + 1) vs
def pickCells (ag : Bool) (cs : List AV) (o m : Nat) : AV := match ag with
 | true => .agg ((cs.drop o).take m)
 | false => cs.getD o .unk
def repeatCells (z : List AV) : Nat → List AV
 | 0 => []
 | k + 1 => z ++ repeatCells z k
def fillParts (env : List AV) (cs : List AV) : List (Nat × Nat × Opd) → Option (List AV)
 | [] => some cs
 | (off, sz, x) :: ps => match (x.val env).cells with
  | some vs => if vs.length = sz ∧ off + sz ≤ cs.length then fillParts env (setCells cs off vs) ps else none
  | none => none
def boundOf (env : List AV) (x : Option Opd) (d : Int) : Option Int := match x with
 | none => some d
 | some x => match x.val env with
  | .int _ z => some z
  | _ => none
def ownPart (H : Heap) (e : TypeId) (sz : Nat) : AV → Option (Nat × List AV × Nat × List Nat)
 | .sref r π o n sz' => match H.get r π with
  | some t => if sz' = sz ∧ o = 0 ∧ t.e = e ∧ t.cs.length = n * sz then some (n, t.cs, r, π) else none
  | none => none
 | _ => none
def readPart (H : Heap) (sz : Nat) : AV → Option (Nat × List AV)
 | .nil => some (0, [])
 | .emp => some (0, [])
 | .sref r π o m sz' => match H.get r π with
  | some t => if sz' = sz ∧ o + m * sz ≤ t.cs.length then some (m, ((refer r π 0 t.cs).drop o).take (m * sz)) else none
  | none => none
 | .bor m cs => if cs.length = m * sz then some (m, cs) else none
 | _ => none
def xbin (op : BinOp) (k : IntKind) (a b : Int) (K : AV → Prop) : Prop :=
 match op with
 | .add => K (.int k (k.wrap (a + b)))
 | .sub => K (.int k (k.wrap (a - b)))
 | .mul => K (.int k (k.wrap (a * b)))
 | .and => K (.int k (bits .and k a b))
 | .or => K (.int k (bits .or k a b))
 | .xor => K (.int k (bits .xor k a b))
 | .andNot => K (.int k (bits .andNot k a b))
 | .quo => b ≠ 0 ∧ K (.int k (k.wrap (a.tdiv b)))
 | .rem => b ≠ 0 ∧ K (.int k (a.tmod b))
 | .eql => K (.bool (decide (a = b)))
 | .neq => K (.bool (!decide (a = b)))
 | .lss => K (.bool (decide (a < b)))
 | .leq => K (.bool (decide (a ≤ b)))
 | .gtr => K (.bool (decide (b < a)))
 | .geq => K (.bool (decide (b ≤ a)))
 | _ => False
def xun (op : UnOp) (x : AV) (K : AV → Prop) : Prop :=
 match op, x with
 | .not, .bool b => K (.bool (!b))
 | .neg, .int k a => K (.int k (k.wrap (0 - a)))
 | _, _ => False
def Inl (P : Program) (f : FuncId) (args : List AV) (H : Heap) (n : Nat) (r : AV) (H' : Heap) (n' : Nat) : Prop :=
 ∀ (Φ : Fz) (w : World) (β : Spots) (vs : List Value), Keep Φ w → RH Φ n β H w → RVt Φ n β args vs →
  Calls P f vs.toArray w fun e w' => ∃ v Φ' β', e = .returned v ∧ n ≤ n' ∧ (∀ i, i < n → β' i = β i) ∧ Φ.le Φ' ∧ Keep Φ' w' ∧ RV Φ' n' β' r v ∧ RH Φ' n' β' H' w' ∧ Below 0 w w'
def eqAt (xs ys : List AV) : List (Nat × Bool) → Option Bool
 | [] => some true
 | (o, t) :: os => match t, xs.getD o .unk, ys.getD o .unk, eqAt xs ys os with
  | false, .int k a, .int k' b, some r => if k = k' then some (decide (a = b) && r) else none
  | true, .bool a, .bool b, some r => some ((a == b) && r)
  | _, _, _, _ => none
def xop (P : Program) (env : List AV) (H : Heap) (n : Nat) (K : AV → Heap → Nat → Prop) : LOp → Prop
 | .mv x => K (x.val env) H n
 | .pick c a b => match c.val env with
  | .bool t => if t = true then K (a.val env) H n else K (b.val env) H n
  | _ => False
 | .box e x => match (x.val env).cells with
  | some cs => K (.ptr n [] 0) ((n, some ⟨e, cs⟩) :: H) (n + 1)
  | none => False
 | .fresh e z => K (.ptr n [] 0) ((n, some ⟨e, z⟩) :: H) (n + 1)
 | .bld z ps => match fillParts env z ps with
  | some cs => K (.agg cs) H n
  | none => False
 | .bsl e sz m z ps => match fillParts env (repeatCells z m) ps with
  | some cs => K (.sref n [] 0 m sz) ((n, some ⟨e, cs⟩) :: H) (n + 1)
  | none => False
 | .load ag m a => match a.val env with
  | .ptr r π o => match H.get r π with
   | some t => o + m ≤ t.cs.length ∧ (ag = false → m = 1) ∧ K (pickCells ag (refer r π 0 t.cs) o m) H n
   | none => False
  | .bptr cs o => o + m ≤ cs.length ∧ (ag = false → m = 1) ∧ K (pickCells ag cs o m) H n
  | _ => False
 | .store m a x => match a.val env, (x.val env).cells with
  | .ptr r π o, some vs => match H.get r π with
   | some t => vs.length = m ∧ o + m ≤ t.cs.length ∧ K .und (H.put r π (setCells t.cs o vs)) n
   | none => False
  | _, _ => False
 | .bin op x y => match x.val env, y.val env with
  | .int k a, .int k' b => k = k' ∧ xbin op k a b fun v => K v H n
  | _, _ => False
 | .binb ng x y => match x.val env, y.val env with
  | .bool a, .bool b => K (.bool (match ng with | true => !(a == b) | false => a == b)) H n
  | _, _ => False
 | .un op x => xun op (x.val env) fun v => K v H n
 | .mk e sz bytes z l => match l.val env with
  | .int .i64 m => (0 ≤ m ∧ m * bytes ≤ 2 ^ 47 ∧ m ≤ 2 ^ 47) ∧ K (.sref n [] 0 m.toNat sz) ((n, some ⟨e, repeatCells z m.toNat⟩) :: H) (n + 1)
  | _ => False
 | .slc sz x lo hi => match boundOf env lo 0 with
  | some l => match x.val env with
   | .nil => match boundOf env hi 0 with
    | some h => (l = 0 ∧ h = 0) ∧ K .nil H n
    | none => False
   | .sref r π o m sz' => match boundOf env hi m with
    | some h => (sz' = sz ∧ 0 ≤ l ∧ l ≤ h ∧ h ≤ m) ∧ K (.sref r π (o + l.toNat * sz) (h.toNat - l.toNat) sz) H n
    | none => False
   | .bor m cs => match boundOf env hi m with
    | some h => (cs.length = m * sz ∧ 0 ≤ l ∧ l ≤ h ∧ h ≤ m) ∧ K (.bor (h.toNat - l.toNat) ((cs.drop (l.toNat * sz)).take ((h.toNat - l.toNat) * sz))) H n
    | none => False
   | _ => False
  | none => False
 | .cvt k x => match x.val env with
  | .int _ z => K (.int k (k.wrap z)) H n
  | _ => False
 | .fadr off x => match x.val env with
  | .ptr r π o => K (.ptr r π (o + off)) H n
  | .bptr cs o => K (.bptr cs (o + off)) H n
  | _ => False
 | .fld ag off m x => match x.val env with
  | .agg cs => off + m ≤ cs.length ∧ (ag = false → m = 1) ∧ K (pickCells ag cs off m) H n
  | _ => False
 | .iadr sz x i => match x.val env, i.val env with
  | .sref r π o m sz', .int _ k => (sz' = sz ∧ 0 ≤ k ∧ k < m) ∧ K (.ptr r π (o + k.toNat * sz)) H n
  | .bor m cs, .int _ k => (0 ≤ k ∧ k < m ∧ k.toNat * sz < cs.length) ∧ K (.bptr cs (k.toNat * sz)) H n
  | _, _ => False
 | .ext x i => match x.val env with
  | .tup vs => i < vs.length ∧ K (vs.getD i .unk) H n
  | _ => False
 | .len x => match x.val env with
  | .sref _ _ _ m _ => K (.int .i64 m) H n
  | .bor m _ => K (.int .i64 m) H n
  | .nil => K (.int .i64 0) H n
  | .emp => K (.int .i64 0) H n
  | _ => False
 | .app e sz bytes _z s x => match readPart H sz (x.val env) with
  | some (m, ds) => match s.val env with
   | .nil => (m * bytes ≤ 2 ^ 47 ∧ m ≤ 2 ^ 47) ∧ K (.sref n [] 0 m sz) ((n, some ⟨e, ds⟩) :: H) (n + 1)
   | .emp => (m * bytes ≤ 2 ^ 47 ∧ m ≤ 2 ^ 47) ∧ K (.sref n [] 0 m sz) ((n, some ⟨e, ds⟩) :: H) (n + 1)
   | v => match ownPart H e sz v with
    | some (l, cs, r, π) => ((l + m) * bytes ≤ 2 ^ 47 ∧ l + m ≤ 2 ^ 47) ∧ K (.sref n [] 0 (l + m) sz) ((n, some ⟨e, cs ++ ds⟩) :: H.kill r π) (n + 1)
    | none => False
  | none => False
 | .sh left x y => match x.val env, y.val env with
  | .int k a, .int _ b => 0 ≤ b ∧ K (.int k (match left with | true => k.wrap (a * 2 ^ (min b.toNat k.bits)) | false => a.fdiv (2 ^ (min b.toNat k.bits)))) H n
  | _, _ => False
 | .beq ng offs x y => match x.val env, y.val env with
  | .agg xs, .agg ys => match eqAt xs ys offs with
   | some r => K (.bool (match ng with | true => !r | false => r)) H n
   | none => False
  | _, _ => False
 | .nck x => match x.val env with
  | .ptr r π o => K (.ptr r π o) H n
  | .bptr cs o => K (.bptr cs o) H n
  | _ => False
 | .mx most x y => match x.val env, y.val env with
  | .int k a, .int k' b => k = k' ∧ K (.int k (match most with | true => max a b | false => min a b)) H n
  | _, _ => False
 | .cpy sz d s => match readPart H sz (s.val env) with
  | some (m2, ds) => match d.val env with
   | .sref r π o m sz' => match H.get r π with
    | some t => (sz' = sz ∧ o + m * sz ≤ t.cs.length) ∧ K (.int .i64 (min m m2 : Nat)) (H.put r π (setCells t.cs o (ds.take (min m m2 * sz)))) n
    | none => False
   | .nil => K (.int .i64 0) H n
   | .emp => K (.int .i64 0) H n
   | _ => False
  | none => False
 | .call f xs => ∃ r H' n', Inl P f (xs.map (·.val env)) H n r H' n' ∧ K r H' n'
def put (env : List AV) (d : Option Nat) (v : AV) : List AV := match d with
 | some d => env.set d v
 | none => env
def xops (P : Program) (K : List AV → Heap → Nat → Prop) : List LOper → List AV → Heap → Nat → Prop
 | [], env, H, n => K env H n
 | o :: os, env, H, n => match o.g with
  | none => xop P env H n (fun v H' n' => xops P K os (put env o.dst v) H' n') o.op
  | some (t, want) => match env.getD t .unk with
   | .bool b => if b = want then xop P env H n (fun v H' n' => xops P K os (put env o.dst v) H' n') o.op else xops P K os (put env o.dst .und) H n
   | .und => xops P K os (put env o.dst .und) H n
   | _ => False
end Go.Proofs.Ytmjphjphgjmojaa
