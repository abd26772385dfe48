/- Plain functions of the program, and that it hands back what they say. Made by program. -/
import Derived.Test.YtogfcdondojfeaaWTD
import Derived.Test.YtogfcdondojfeaaProg
import Derived.Test.YtogfcdondojfeaaWD1
import Derived.Test.YtogfcdondojfeaaWGFT1
import Derived.Test.YtogfcdondojfeaaWSI1
import Derived.Test.YtogfcdondojfeaaWTF1
namespace Go.Proofs.Ytogfcdondojfeaa
open Go.RowKit
set_option maxRecDepth 100000
set_option linter.all false
set_option maxHeartbeats 0
noncomputable def F_laws_FnFairTurns_j5 (v1:(List Int) × Int) (v2:(List Int)) (s5:Unit):Option Bool :=
 cond (decide ((((List.length v2):Nat):Int)=v1.2))
  (Option.bind (F_laws_alive ) fun v6 =>
  some v6)
  (cond (decide ((((List.length v2):Nat):Int)=(0:Int)))
   (Option.bind (F_laws_alive ) fun v7 =>
   some v7)
   (some false))
noncomputable def F_laws_FnFairTurns_j9 (s8:(List Int) × Int) (s9:(List Int)):Option (LO ((List Int) × Int) (JO Unit Bool)) :=
 some (.next (s9,(w64 (s8.2+(1:Int)))))
noncomputable def F_laws_FnFairTurns_j11 (s10:Int) (s11:Unit):Option (LO Int (JO (List Int) (LO ((List Int) × Int) (JO Unit Bool)))) :=
 some (.next (w64 (s10+(1:Int))))
noncomputable def F_laws_FnFairTurns_j13 (s12:Int) (s13:Unit):Option (LO Int (JO Unit (LO Int (JO (List Int) (LO ((List Int) × Int) (JO Unit Bool)))))) :=
 some (.next (w64 (s12+(1:Int))))
noncomputable def F_laws_FnFairTurns_l12 (v1:(List Int) × Int) (v2:(List Int)) (s8:(List Int) × Int) (s10:Int) (s12:Int):Option (LO Int (JO Unit (LO Int (JO (List Int) (LO ((List Int) × Int) (JO Unit Bool)))))) :=
 cond (decide (s12<(((List.length v1.1):Nat):Int)))
  (Option.bind (grd ((0:Int)≤s10∧s10<(((List.length v1.1):Nat):Int)) (cond (decide ((0:Int)<(List.getD v1.1 (Int.toNat s10) default)))
   (grd ((0:Int)≤s12∧s12<(((List.length v1.1):Nat):Int)) (cond (decide ((0:Int)<(List.getD v1.1 (Int.toNat s12) default)))
    (grd ((0:Int)≤s12∧s12<(((List.length s8.1):Nat):Int)) (grd ((0:Int)≤s10∧s10<(((List.length v1.1):Nat):Int)) (grd ((0:Int)≤s10∧s10<(((List.length s8.1):Nat):Int)) (grd ((0:Int)≤s12∧s12<(((List.length v1.1):Nat):Int)) (grd ((0:Int)≤s10∧s10<(((List.length v1.1):Nat):Int)) (cond (decide ((w64 ((w64 ((w64 ((List.getD (List.set s8.1 (Int.toNat (List.getD v2 (Int.toNat s8.2) default)) (w64 ((List.getD s8.1 (Int.toNat (List.getD v2 (Int.toNat s8.2) default)) default)+(1:Int)))) (Int.toNat s10) default)+(1:Int)))*(List.getD v1.1 (Int.toNat s12) default)))+(List.getD v1.1 (Int.toNat s10) default)))<(w64 ((List.getD (List.set s8.1 (Int.toNat (List.getD v2 (Int.toNat s8.2) default)) (w64 ((List.getD s8.1 (Int.toNat (List.getD v2 (Int.toNat s8.2) default)) default)+(1:Int)))) (Int.toNat s12) default)*(List.getD v1.1 (Int.toNat s10) default)))))
     (some (.out (.ret (.out (.ret (.out (.ret (.out false))))))))
     (some (.go ()))))))))
    (some (.go ()))))
   (some (.go ())))) fun j13 =>
   JO.run j13 (F_laws_FnFairTurns_j13 s12))
  (some (.ret (.go ())))
noncomputable def F_laws_FnFairTurns_l10 (v1:(List Int) × Int) (v2:(List Int)) (s8:(List Int) × Int) (s10:Int):Option (LO Int (JO (List Int) (LO ((List Int) × Int) (JO Unit Bool)))) :=
 cond (decide (s10<(((List.length v1.1):Nat):Int)))
  (Option.bind (Option.bind (iter (F_laws_FnFairTurns_l12 v1 v2 s8 s10) (0:Int)) LO.val) fun j11 =>
   JO.run j11 (F_laws_FnFairTurns_j11 s10))
  (some (.ret (.go (List.set s8.1 (Int.toNat (List.getD v2 (Int.toNat s8.2) default)) (w64 ((List.getD s8.1 (Int.toNat (List.getD v2 (Int.toNat s8.2) default)) default)+(1:Int)))))))
noncomputable def F_laws_FnFairTurns_l8 (v1:(List Int) × Int) (v2:(List Int)) (s8:(List Int) × Int):Option (LO ((List Int) × Int) (JO Unit Bool)) :=
 cond (decide (s8.2<(((List.length v2):Nat):Int)))
  (Option.bind (grd ((0:Int)≤s8.2∧s8.2<(((List.length v2):Nat):Int)) (cond (decide ((List.getD v2 (Int.toNat s8.2) default)<(0:Int)))
   (some (.out (.ret (.out false))))
   (grd ((0:Int)≤s8.2∧s8.2<(((List.length v2):Nat):Int)) (cond (decide ((((List.length v1.1):Nat):Int)≤(List.getD v2 (Int.toNat s8.2) default)))
    (some (.out (.ret (.out false))))
    (grd ((0:Int)≤s8.2∧s8.2<(((List.length v2):Nat):Int)) (grd ((0:Int)≤s8.2∧s8.2<(((List.length v2):Nat):Int)) (grd ((0:Int)≤(List.getD v2 (Int.toNat s8.2) default)∧(List.getD v2 (Int.toNat s8.2) default)<(((List.length s8.1):Nat):Int)) (grd ((0:Int)≤(List.getD v2 (Int.toNat s8.2) default)∧(List.getD v2 (Int.toNat s8.2) default)<(((List.length s8.1):Nat):Int)) (Option.bind (iter (F_laws_FnFairTurns_l10 v1 v2 s8) (0:Int)) LO.val))))))))) fun j9 =>
   JO.run j9 (F_laws_FnFairTurns_j9 s8))
  (some (.ret (.go ())))
noncomputable def F_laws_FnFairTurns (x_code:List Int):Option Bool :=
 cond (decide ((1048576:Int)<(((List.length x_code):Nat):Int)))
  (some true)
  (Option.bind (F_spec_DrawFairTurns x_code) fun v1 =>
  Option.bind (F_impl_FairTurns v1.1 v1.2) fun v2 =>
  Option.bind (F_spec_FairTurns v1.1 v1.2) fun v3 =>
  Option.bind (F_laws_sameInts v2 v3) fun v4 =>
  cond (!v4)
   (some false)
   (grd ((0:Int)≤(((List.length v1.1):Nat):Int)∧(((List.length v1.1):Nat):Int)*8≤2 ^ 47∧(((List.length v1.1):Nat):Int)≤2 ^ 47) (Option.bind (Option.bind (iter (F_laws_FnFairTurns_l8 v1 v2) ((List.replicate (Int.toNat (((List.length v1.1):Nat):Int)) (0:Int)),(0:Int))) LO.val) fun j5 =>
    JO.run j5 (F_laws_FnFairTurns_j5 v1 v2))))
noncomputable def g7:Sg tG:=⟨[.row 5],.one .b,F_laws_FnFairTurns⟩
theorem s7:Sok 7 g7:=sgx [(26,.r g26),(27,.r g27),(29,.r g29),(28,.r g28),(14,.r g14)] ⟨s26,s27,s29,s28,s14,trivial⟩ (.s .o (.s .o (.s .o (.s .o (.s .o (.s .o (.j ⟨[4,5],[],[]⟩ (.s .o (.k (.l ⟨[3,4,5],[],[(.s 6,.ro 3),(.s 7,.i .i64)]⟩ (.s .o (.j ⟨[3,4,5,7],[],[(.s 6,.ro 3)]⟩ (.k (.s .o (.s .o (.s .o (.k (.l ⟨[3,4,5,6,7],[],[(.s 8,.i .i64)]⟩ (.s .o (.j ⟨[3,4,5,6,7,8],[],[]⟩ (.k (.s .o (.k (.l ⟨[3,4,5,6,7,8],[],[(.s 9,.i .i64)]⟩ (.s .o (.j ⟨[3,4,5,6,7,8,9],[],[]⟩ .o .o)))))) .o)))))))) .o))))) .o))))))) kr kr kr
theorem laws_FnFairTurns_fn {x_code:List Int} {R_:Bool} (hh:F_laws_FnFairTurns x_code=some R_):Fn Try.prog 7 [bo (eI .u8) x_code] (.bool R_):=kc (s7 x_code R_ hh)
end Go.Proofs.Ytogfcdondojfeaa
