/- Plain functions of the program, and that it hands back what they say. Made by program. -/
import Derived.Test.YtkjabgefacfpfaaWTD
import Derived.Test.YtkjabgefacfpfaaProg
import Derived.Test.YtkjabgefacfpfaaWI1
import Derived.Test.YtkjabgefacfpfaaWSI1
namespace Go.Proofs.Ytkjabgefacfpfaa
open Go.RowKit
set_option maxRecDepth 100000
set_option linter.all false
set_option maxHeartbeats 0
noncomputable def aFi  (s4:Unit):Option Bool:=some true
noncomputable def kR (x_a:DGuest)(x_b:DGuest)(s5:Int):Option (LO Int (JO Unit Bool)):=
 cond (decide (s5<((List.length x_a.Pages:Nat):Int)))
  (grd ((0:Int)<=s5/\s5<((List.length x_a.Pages:Nat):Int)) (grd ((0:Int)<=s5/\s5<((List.length x_b.Pages:Nat):Int)) (cond (!(decide ((List.getD x_a.Pages (Int.toNat s5) default).Frame=(List.getD x_b.Pages (Int.toNat s5) default).Frame)&&(((List.getD x_a.Pages (Int.toNat s5) default).Write==(List.getD x_b.Pages (Int.toNat s5) default).Write)&&(((List.getD x_a.Pages (Int.toNat s5) default).Dirty==(List.getD x_b.Pages (Int.toNat s5) default).Dirty)&&true))))
   (some (.ret (.out false)))
   (some (.next (w64 (s5+(1:Int))))))))
  (some (.ret (.go ())))
noncomputable def kA (x_a:DGuest)(x_b:DGuest):Option Bool:=
 cond (!(x_a.Live==x_b.Live))
  (some false)
  (Option.bind (lI x_a.C x_b.C) λv1=>
  cond (!v1)
   (some false)
   (Option.bind (cZ x_a.In x_b.In) λv2=>
   cond (!v2)
    (some false)
    (Option.bind (cZ x_a.Out x_b.Out) λv3=>
    cond (!v3)
     (some false)
     (cond (!decide (((List.length x_a.Pages:Nat):Int)=((List.length x_b.Pages:Nat):Int)))
      (some false)
      (Option.bind (Option.bind (iter (kR x_a x_b) (0:Int)) LO.val) λj4=>
       JO.run j4 aFi)))))
noncomputable def g44:Sg tG:=⟨[.st 41,.st 41],.one .b,kA⟩
theorem s44:Sok 44 g44:=sgx [(89,.r g89),(18,.r g18)] ⟨s89,s18,trivial⟩ (.s .o (.s .o (.j ⟨[],[],[]⟩ (.s .o (.k (.l ⟨[2,3],[],[(.s 5,.i .i64)]⟩ .o))) .o))) kr kr kr
noncomputable def aFv  (s2:Unit):Option Bool:=some true
noncomputable def lG (x_a:DHost)(x_b:DHost)(s3:Int):Option (LO Int (JO Unit Bool)):=
 cond (decide (s3<((List.length x_a.Guests:Nat):Int)))
  (grd ((0:Int)<=s3/\s3<((List.length x_a.Guests:Nat):Int)) (grd ((0:Int)<=s3/\s3<((List.length x_b.Guests:Nat):Int)) (Option.bind (kA (DGuest.mk (List.getD x_a.Guests (Int.toNat s3) default).Live (DCore.mk ((List.getD x_a.Guests (Int.toNat s3) default).C).Regs ((List.getD x_a.Guests (Int.toNat s3) default).C).Pc ((List.getD x_a.Guests (Int.toNat s3) default).C).Root ((List.getD x_a.Guests (Int.toNat s3) default).C).Vector ((List.getD x_a.Guests (Int.toNat s3) default).C).Saved ((List.getD x_a.Guests (Int.toNat s3) default).C).SavedUser ((List.getD x_a.Guests (Int.toNat s3) default).C).Cause ((List.getD x_a.Guests (Int.toNat s3) default).C).Bad ((List.getD x_a.Guests (Int.toNat s3) default).C).Timer ((List.getD x_a.Guests (Int.toNat s3) default).C).Waits ((List.getD x_a.Guests (Int.toNat s3) default).C).User ((List.getD x_a.Guests (Int.toNat s3) default).C).On ((List.getD x_a.Guests (Int.toNat s3) default).C).Stopped) (List.getD x_a.Guests (Int.toNat s3) default).Pages (List.getD x_a.Guests (Int.toNat s3) default).In (List.getD x_a.Guests (Int.toNat s3) default).Out) (DGuest.mk (List.getD x_b.Guests (Int.toNat s3) default).Live (DCore.mk ((List.getD x_b.Guests (Int.toNat s3) default).C).Regs ((List.getD x_b.Guests (Int.toNat s3) default).C).Pc ((List.getD x_b.Guests (Int.toNat s3) default).C).Root ((List.getD x_b.Guests (Int.toNat s3) default).C).Vector ((List.getD x_b.Guests (Int.toNat s3) default).C).Saved ((List.getD x_b.Guests (Int.toNat s3) default).C).SavedUser ((List.getD x_b.Guests (Int.toNat s3) default).C).Cause ((List.getD x_b.Guests (Int.toNat s3) default).C).Bad ((List.getD x_b.Guests (Int.toNat s3) default).C).Timer ((List.getD x_b.Guests (Int.toNat s3) default).C).Waits ((List.getD x_b.Guests (Int.toNat s3) default).C).User ((List.getD x_b.Guests (Int.toNat s3) default).C).On ((List.getD x_b.Guests (Int.toNat s3) default).C).Stopped) (List.getD x_b.Guests (Int.toNat s3) default).Pages (List.getD x_b.Guests (Int.toNat s3) default).In (List.getD x_b.Guests (Int.toNat s3) default).Out)) λv4=>
   cond (!v4)
    (some (.ret (.out false)))
    (some (.next (w64 (s3+(1:Int))))))))
  (some (.ret (.go ())))
noncomputable def iN (x_a:DHost)(x_b:DHost):Option Bool:=
 Option.bind (cZ x_a.Words x_b.Words) λv1=>
 cond (!v1)
  (some false)
  (cond (!decide (((List.length x_a.Guests:Nat):Int)=((List.length x_b.Guests:Nat):Int)))
   (some false)
   (Option.bind (Option.bind (iter (lG x_a x_b) (0:Int)) LO.val) λj2=>
    JO.run j2 aFv))
noncomputable def g12:Sg tG:=⟨[.st 26,.st 26],.one .b,iN⟩
theorem s12:Sok 12 g12:=sgx [(18,.r g18),(44,.r g44)] ⟨s18,s44,trivial⟩ (.s .o (.s .o (.j ⟨[],[],[]⟩ (.s .o (.k (.l ⟨[2,3],[],[(.s 5,.i .i64)]⟩ .o))) .o))) kr kr kr
end Go.Proofs.Ytkjabgefacfpfaa
