/- Plain functions of the program, and that it hands back what they say. Made by program. -/
import Derived.Test.YtkjabgefacfpfaaWTD
import Derived.Test.YtkjabgefacfpfaaProg
import Derived.Test.YtkjabgefacfpfaaWH1
namespace Go.Proofs.Ytkjabgefacfpfaa
open Go.RowKit
set_option maxRecDepth 100000
set_option linter.all false
set_option maxHeartbeats 0
noncomputable def aEu (x_a:DSlot):Option DSlot:=some x_a
noncomputable def bKi:Sg tG:=⟨[.st 153],.one (.st 43),aEu⟩
theorem bNy:Sok 139 bKi:=sgx [] trivial .o kr kr kr
noncomputable def aIs  (s1:List DSlot):Option (List DSlot):=some s1
noncomputable def mB (x_a:List DSlot)(s2:(List DSlot)×Int):Option (LO ((List DSlot)×Int) (JO (List DSlot) (List DSlot))):=
 cond (decide (s2.2<((List.length x_a:Nat):Int)))
  (grd ((0:Int)<=s2.2/\s2.2<((List.length x_a:Nat):Int)) (Option.bind (aEu (DSlot.mk (List.getD x_a (Int.toNat s2.2) default).Frame (List.getD x_a (Int.toNat s2.2) default).Write (List.getD x_a (Int.toNat s2.2) default).Dirty)) λv3=>
   grd ((0:Int)<=s2.2/\s2.2<((List.length s2.1:Nat):Int)) (some (.next ((List.set s2.1 (Int.toNat s2.2) v3),w64 (s2.2+(1:Int)))))))
  (some (.ret (.go s2.1)))
noncomputable def qL (x_a:List DSlot):Option (List DSlot):=
 grd ((0:Int)<=((List.length x_a:Nat):Int)/\((List.length x_a:Nat):Int)*16<=2^47/\((List.length x_a:Nat):Int)<=2^47) (Option.bind (Option.bind (iter (mB x_a) ((List.replicate (Int.toNat ((List.length x_a:Nat):Int)) (DSlot.mk (0:Int) false false)),(0:Int))) LO.val) λj1=>
  JO.run j1 aIs)
noncomputable def bLn:Sg tG:=⟨[.row 153],.one (.row 43),qL⟩
theorem bOw:Sok 127 bLn:=sgx [(139,.r bKi)] ⟨bNy,trivial⟩ (.s .o (.s .o (.j ⟨[],[],[(.s 3,.ro 43)]⟩ (.s .o (.k (.l ⟨[0],[],[(.s 3,.ro 43),(.s 4,.i .i64)]⟩ .o))) .o))) kr kr kr
noncomputable def mT (x_a:DGuest):Option DGuest:=
 Option.bind (rJ x_a.C) λv1=>
 Option.bind (qL x_a.Pages) λv2=>
 Option.bind (iP x_a.In) λv3=>
 Option.bind (iP x_a.Out) λv4=>
 some (DGuest.mk x_a.Live v1 v2 v3 v4)
noncomputable def bKl:Sg tG:=⟨[.st 123],.one (.st 41),mT⟩
theorem bPi:Sok 100 bKl:=sgx [(126,.r bLa),(127,.r bLn),(60,.r g60)] ⟨bOn,bOw,s60,trivial⟩ .o kr kr kr
noncomputable def aGl  (s1:List DGuest):Option (List DGuest):=some s1
noncomputable def lS (x_a:List DGuest)(s2:(List DGuest)×Int):Option (LO ((List DGuest)×Int) (JO (List DGuest) (List DGuest))):=
 cond (decide (s2.2<((List.length x_a:Nat):Int)))
  (grd ((0:Int)<=s2.2/\s2.2<((List.length x_a:Nat):Int)) (Option.bind (mT (DGuest.mk (List.getD x_a (Int.toNat s2.2) default).Live (DCore.mk ((List.getD x_a (Int.toNat s2.2) default).C).Regs ((List.getD x_a (Int.toNat s2.2) default).C).Pc ((List.getD x_a (Int.toNat s2.2) default).C).Root ((List.getD x_a (Int.toNat s2.2) default).C).Vector ((List.getD x_a (Int.toNat s2.2) default).C).Saved ((List.getD x_a (Int.toNat s2.2) default).C).SavedUser ((List.getD x_a (Int.toNat s2.2) default).C).Cause ((List.getD x_a (Int.toNat s2.2) default).C).Bad ((List.getD x_a (Int.toNat s2.2) default).C).Timer ((List.getD x_a (Int.toNat s2.2) default).C).Waits ((List.getD x_a (Int.toNat s2.2) default).C).User ((List.getD x_a (Int.toNat s2.2) default).C).On ((List.getD x_a (Int.toNat s2.2) default).C).Stopped) (List.getD x_a (Int.toNat s2.2) default).Pages (List.getD x_a (Int.toNat s2.2) default).In (List.getD x_a (Int.toNat s2.2) default).Out)) λv3=>
   grd ((0:Int)<=s2.2/\s2.2<((List.length s2.1:Nat):Int)) (some (.next ((List.set s2.1 (Int.toNat s2.2) v3),w64 (s2.2+(1:Int)))))))
  (some (.ret (.go s2.1)))
noncomputable def oK (x_a:List DGuest):Option (List DGuest):=
 grd ((0:Int)<=((List.length x_a:Nat):Int)/\((List.length x_a:Nat):Int)*176<=2^47/\((List.length x_a:Nat):Int)<=2^47) (Option.bind (Option.bind (iter (lS x_a) ((List.replicate (Int.toNat ((List.length x_a:Nat):Int)) (DGuest.mk false (DCore.mk ([]:List Int) (0:Int) (0:Int) (0:Int) (0:Int) false (0:Int) (0:Int) (0:Int) false false false false) ([]:List DSlot) ([]:List Int) ([]:List Int))),(0:Int))) LO.val) λj1=>
  JO.run j1 aGl)
noncomputable def g61:Sg tG:=⟨[.row 123],.one (.row 1041),oK⟩
theorem s61:Sok 61 g61:=sgx [(100,.r bKl)] ⟨bPi,trivial⟩ (.s .o (.s (.g [] [] [.fo (.s 3) 0]) (.j ⟨[],[],[(.s 3,.ro 1041)]⟩ (.s .o (.k (.l ⟨[0],[],[(.s 3,.ro 1041),(.s 4,.i .i64)]⟩ (.s .o (.s (.k (.g [] [] [.fo (.s 3) 0])) .o))))) .o))) kr kr kr
noncomputable def dF (x_a:DHost):Option DHost:=
 Option.bind (iP x_a.Words) λv1=>
 Option.bind (oK x_a.Guests) λv2=>
 some (DHost.mk v1 v2)
noncomputable def g24:Sg tG:=⟨[.st 46],.one (.st 2026),dF⟩
theorem s24:Sok 24 g24:=sgx [(60,.r g60),(61,.r g61)] ⟨s60,s61,trivial⟩ .o kr kr kr
theorem fM{x_a:DHost}{R_:DHost}(hh:dF x_a=some R_):Fn Try.prog 24 [.agg [bo (eI .i64) x_a.Words,bo cH x_a.Guests]] (.agg [.own 3 1 (List.length R_.Words) (fl (eI .i64) R_.Words),.own 41 17 (List.length R_.Guests) (fl bV R_.Guests)]):=kc (s24 x_a R_ hh)
noncomputable def nW (x_a:DSlot)(x_b:DSlot):Option Bool:=
 cond (!decide (x_a.Frame=x_b.Frame))
  (some false)
  (cond (!(x_a.Write==x_b.Write))
   (some false)
   (cond (!(x_a.Dirty==x_b.Dirty))
    (some false)
    (some true)))
noncomputable def bLv:Sg tG:=⟨[.st 43,.st 43],.one .b,nW⟩
theorem bOh:Sok 140 bLv:=sgx [] trivial .o kr kr kr
noncomputable def aIq  (s1:Unit):Option Bool:=some true
noncomputable def mI (x_a:List DSlot)(x_b:List DSlot)(s2:Int):Option (LO Int (JO Unit Bool)):=
 cond (decide (s2<((List.length x_a:Nat):Int)))
  (grd ((0:Int)<=s2/\s2<((List.length x_a:Nat):Int)) (grd ((0:Int)<=s2/\s2<((List.length x_b:Nat):Int)) (Option.bind (nW (DSlot.mk (List.getD x_a (Int.toNat s2) default).Frame (List.getD x_a (Int.toNat s2) default).Write (List.getD x_a (Int.toNat s2) default).Dirty) (DSlot.mk (List.getD x_b (Int.toNat s2) default).Frame (List.getD x_b (Int.toNat s2) default).Write (List.getD x_b (Int.toNat s2) default).Dirty)) λv3=>
   cond (!v3)
    (some (.ret (.out false)))
    (some (.next (w64 (s2+(1:Int))))))))
  (some (.ret (.go ())))
noncomputable def qP (x_a:List DSlot)(x_b:List DSlot):Option Bool:=
 cond (!decide (((List.length x_a:Nat):Int)=((List.length x_b:Nat):Int)))
  (some false)
  (Option.bind (Option.bind (iter (mI x_a x_b) (0:Int)) LO.val) λj1=>
   JO.run j1 aIq)
noncomputable def bKt:Sg tG:=⟨[.row 43,.row 43],.one .b,qP⟩
theorem bPa:Sok 129 bKt:=sgx [(140,.r bLv)] ⟨bOh,trivial⟩ (.s .o (.s .o (.j ⟨[],[],[]⟩ (.s .o (.k (.l ⟨[0,1],[],[(.s 5,.i .i64)]⟩ .o))) .o))) kr kr kr
noncomputable def mP (x_a:DGuest)(x_b:DGuest):Option Bool:=
 cond (!(x_a.Live==x_b.Live))
  (some false)
  (Option.bind (rK x_a.C x_b.C) λv1=>
  cond (!v1)
   (some false)
   (Option.bind (qP x_a.Pages x_b.Pages) λv2=>
   cond (!v2)
    (some false)
    (Option.bind (iR x_a.In x_b.In) λv3=>
    cond (!v3)
     (some false)
     (Option.bind (iR x_a.Out x_b.Out) λv4=>
     cond (!v4)
      (some false)
      (some true)))))
noncomputable def bLg:Sg tG:=⟨[.st 41,.st 41],.one .b,mP⟩
theorem bOe:Sok 101 bLg:=sgx [(128,.r bMo),(129,.r bKt),(62,.r g62)] ⟨bOq,bPa,s62,trivial⟩ .o kr kr kr
noncomputable def aGc  (s1:Unit):Option Bool:=some true
noncomputable def lV (x_a:List DGuest)(x_b:List DGuest)(s2:Int):Option (LO Int (JO Unit Bool)):=
 cond (decide (s2<((List.length x_a:Nat):Int)))
  (grd ((0:Int)<=s2/\s2<((List.length x_a:Nat):Int)) (grd ((0:Int)<=s2/\s2<((List.length x_b:Nat):Int)) (Option.bind (mP (DGuest.mk (List.getD x_a (Int.toNat s2) default).Live (DCore.mk ((List.getD x_a (Int.toNat s2) default).C).Regs ((List.getD x_a (Int.toNat s2) default).C).Pc ((List.getD x_a (Int.toNat s2) default).C).Root ((List.getD x_a (Int.toNat s2) default).C).Vector ((List.getD x_a (Int.toNat s2) default).C).Saved ((List.getD x_a (Int.toNat s2) default).C).SavedUser ((List.getD x_a (Int.toNat s2) default).C).Cause ((List.getD x_a (Int.toNat s2) default).C).Bad ((List.getD x_a (Int.toNat s2) default).C).Timer ((List.getD x_a (Int.toNat s2) default).C).Waits ((List.getD x_a (Int.toNat s2) default).C).User ((List.getD x_a (Int.toNat s2) default).C).On ((List.getD x_a (Int.toNat s2) default).C).Stopped) (List.getD x_a (Int.toNat s2) default).Pages (List.getD x_a (Int.toNat s2) default).In (List.getD x_a (Int.toNat s2) default).Out) (DGuest.mk (List.getD x_b (Int.toNat s2) default).Live (DCore.mk ((List.getD x_b (Int.toNat s2) default).C).Regs ((List.getD x_b (Int.toNat s2) default).C).Pc ((List.getD x_b (Int.toNat s2) default).C).Root ((List.getD x_b (Int.toNat s2) default).C).Vector ((List.getD x_b (Int.toNat s2) default).C).Saved ((List.getD x_b (Int.toNat s2) default).C).SavedUser ((List.getD x_b (Int.toNat s2) default).C).Cause ((List.getD x_b (Int.toNat s2) default).C).Bad ((List.getD x_b (Int.toNat s2) default).C).Timer ((List.getD x_b (Int.toNat s2) default).C).Waits ((List.getD x_b (Int.toNat s2) default).C).User ((List.getD x_b (Int.toNat s2) default).C).On ((List.getD x_b (Int.toNat s2) default).C).Stopped) (List.getD x_b (Int.toNat s2) default).Pages (List.getD x_b (Int.toNat s2) default).In (List.getD x_b (Int.toNat s2) default).Out)) λv3=>
   cond (!v3)
    (some (.ret (.out false)))
    (some (.next (w64 (s2+(1:Int))))))))
  (some (.ret (.go ())))
noncomputable def oP (x_a:List DGuest)(x_b:List DGuest):Option Bool:=
 cond (!decide (((List.length x_a:Nat):Int)=((List.length x_b:Nat):Int)))
  (some false)
  (Option.bind (Option.bind (iter (lV x_a x_b) (0:Int)) LO.val) λj1=>
   JO.run j1 aGc)
noncomputable def g63:Sg tG:=⟨[.row 41,.row 41],.one .b,oP⟩
theorem s63:Sok 63 g63:=sgx [(101,.r bLg)] ⟨bOe,trivial⟩ (.s .o (.s .o (.j ⟨[],[],[]⟩ (.s .o (.k (.l ⟨[0,1],[],[(.s 5,.i .i64)]⟩ .o))) .o))) kr kr kr
noncomputable def dE (x_a:DHost)(x_b:DHost):Option Bool:=
 Option.bind (iR x_a.Words x_b.Words) λv1=>
 cond (!v1)
  (some false)
  (Option.bind (oP x_a.Guests x_b.Guests) λv2=>
  cond (!v2)
   (some false)
   (some true))
noncomputable def g25:Sg tG:=⟨[.st 26,.st 26],.one .b,dE⟩
theorem s25:Sok 25 g25:=sgx [(62,.r g62),(63,.r g63)] ⟨s62,s63,trivial⟩ .o kr kr kr
theorem fI{x_a:DHost}{x_b:DHost}{R_:Bool}(hh:dE x_a x_b=some R_):Fn Try.prog 25 [.agg [bo (eI .i64) x_a.Words,bo dS x_a.Guests],.agg [bo (eI .i64) x_b.Words,bo dS x_b.Guests]] (.bool R_):=kc (s25 x_a x_b R_ hh)
noncomputable def qN (x_a:List DSlot)(x_left:Int):Option Int:=
 cond (decide ((w64 (x_left-((List.length x_a:Nat):Int)))<(0:Int)))
  (some (-1:Int))
  (some (w64 (x_left-((List.length x_a:Nat):Int))))
noncomputable def bMi:Sg tG:=⟨[.row 153,.i .i64],.one (.i .i64),qN⟩
theorem bOp:Sok 125 bMi:=sgx [] trivial .o kr kr kr
noncomputable def mO (x_a:DGuest)(x_left:Int):Option Int:=
 Option.bind (rQ x_a.C x_left) λv1=>
 cond (decide (v1<(0:Int)))
  (some (-1:Int))
  (Option.bind (qN x_a.Pages v1) λv2=>
  cond (decide (v2<(0:Int)))
   (some (-1:Int))
   (Option.bind (iQ x_a.In v2) λv3=>
   cond (decide (v3<(0:Int)))
    (some (-1:Int))
    (Option.bind (iQ x_a.Out v3) λv4=>
    cond (decide (v4<(0:Int)))
     (some (-1:Int))
     (some v4))))
noncomputable def g99:Sg tG:=⟨[.st 123,.i .i64],.one (.i .i64),mO⟩
theorem s99:Sok 99 g99:=sgx [(124,.r bMq),(125,.r bMi),(58,.r g58)] ⟨bPg,bOp,s58,trivial⟩ .o kr kr kr
noncomputable def aGy  (s1:Int):Option Int:=some s1
noncomputable def iE (x_a:List DGuest)(s2:Int×Int):Option (LO (Int×Int) (JO Int Int)):=
 cond (decide (s2.2<((List.length x_a:Nat):Int)))
  (grd ((0:Int)<=s2.2/\s2.2<((List.length x_a:Nat):Int)) (Option.bind (mO (DGuest.mk (List.getD x_a (Int.toNat s2.2) default).Live (DCore.mk ((List.getD x_a (Int.toNat s2.2) default).C).Regs ((List.getD x_a (Int.toNat s2.2) default).C).Pc ((List.getD x_a (Int.toNat s2.2) default).C).Root ((List.getD x_a (Int.toNat s2.2) default).C).Vector ((List.getD x_a (Int.toNat s2.2) default).C).Saved ((List.getD x_a (Int.toNat s2.2) default).C).SavedUser ((List.getD x_a (Int.toNat s2.2) default).C).Cause ((List.getD x_a (Int.toNat s2.2) default).C).Bad ((List.getD x_a (Int.toNat s2.2) default).C).Timer ((List.getD x_a (Int.toNat s2.2) default).C).Waits ((List.getD x_a (Int.toNat s2.2) default).C).User ((List.getD x_a (Int.toNat s2.2) default).C).On ((List.getD x_a (Int.toNat s2.2) default).C).Stopped) (List.getD x_a (Int.toNat s2.2) default).Pages (List.getD x_a (Int.toNat s2.2) default).In (List.getD x_a (Int.toNat s2.2) default).Out) s2.1) λv3=>
   cond (decide (v3<(0:Int)))
    (some (.ret (.out (-1:Int))))
    (some (.next (v3,w64 (s2.2+(1:Int)))))))
  (some (.ret (.go s2.1)))
noncomputable def oF (x_a:List DGuest)(x_left:Int):Option Int:=
 cond (decide ((w64 (x_left-((List.length x_a:Nat):Int)))<(0:Int)))
  (some (-1:Int))
  (Option.bind (Option.bind (iter (iE x_a) ((w64 (x_left-((List.length x_a:Nat):Int))),(0:Int))) LO.val) λj1=>
   JO.run j1 aGy)
noncomputable def g59:Sg tG:=⟨[.row 123,.i .i64],.one (.i .i64),oF⟩
theorem s59:Sok 59 g59:=sgx [(99,.r g99)] ⟨s99,trivial⟩ (.s .o (.s .o (.s .o (.j ⟨[],[],[(.s 1,.i .i64)]⟩ (.s .o (.k (.l ⟨[0],[],[(.s 1,.i .i64),(.s 5,.i .i64)]⟩ .o))) .o)))) kr kr kr
noncomputable def lC (x_a:DHost)(x_left:Int):Option Int:=
 Option.bind (iQ x_a.Words x_left) λv1=>
 cond (decide (v1<(0:Int)))
  (some (-1:Int))
  (Option.bind (oF x_a.Guests v1) λv2=>
  cond (decide (v2<(0:Int)))
   (some (-1:Int))
   (some v2))
noncomputable def g23:Sg tG:=⟨[.st 46,.i .i64],.one (.i .i64),lC⟩
theorem s23:Sok 23 g23:=sgx [(58,.r g58),(59,.r g59)] ⟨s58,s59,trivial⟩ .o kr kr kr
theorem aBz{x_a:DHost}{x_left:Int}{R_:Int}(hh:lC x_a x_left=some R_):Fn Try.prog 23 [.agg [bo (eI .i64) x_a.Words,bo cH x_a.Guests],.int .i64 x_left] (.int .i64 R_):=kc (s23 x_a x_left R_ hh)
end Go.Proofs.Ytkjabgefacfpfaa
