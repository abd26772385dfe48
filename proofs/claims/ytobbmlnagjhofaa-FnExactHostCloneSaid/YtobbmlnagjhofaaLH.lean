/- A host as an argument, opened. -/
import Derived.Test.YtobbmlnagjhofaaLS
import Derived.Test.YtobbmlnagjhofaaPCXG
namespace Go.Proofs.Ytobbmlnagjhofaa
set_option linter.all false
open Go.ChangeShapes Go.WideShapes Go.ChangeAt Go.RowKit
def aRm:List Sh:=[.int,.bool,.bool]
theorem aXu{ds:List Dat}(h:Fits aRm ds)(ho:oks ds):∃s:DSlot,avs ds=qB s/\True:=by simp only[aRm]at h;obtain⟨d0,r0,rfl,f0,o0,h,ho⟩:=eF h ho;obtain⟨d1,r1,rfl,f1,o1,h,ho⟩:=eF h ho;obtain⟨d2,r2,rfl,f2,o2,h,ho⟩:=eF h ho;obtain rfl:=yX h;obtain⟨n0,e0,-⟩:=uU f0 o0;obtain⟨n1,e1,-⟩:=xJ f1 o1;obtain⟨n2,e2,-⟩:=xJ f2 o2;refine⟨⟨n0,n1,n2⟩,?_,trivial⟩;simp only[avs,e0,e1,e2,qB]
def aLa:List Sh:= .bool::(aJp++[.sl 3 aRm,.sl 1 [.int],.sl 1 [.int]])
theorem aXd{ds:List Dat}(h:Fits aLa ds)(ho:oks ds):∃g:DGuest,avs ds=cB g/\FitG g:=by simp only[aLa]at h;obtain⟨d0,r0,rfl,f0,o0,h,ho⟩:=eF h ho;obtain⟨c,r,ec,pc,h,ho⟩:=aLk h ho;obtain⟨d1,r1,rfl,f1,o1,h,ho⟩:=eF h ho;obtain⟨d2,r2,rfl,f2,o2,h,ho⟩:=eF h ho;obtain⟨d3,r3,rfl,f3,o3,h,ho⟩:=eF h ho;obtain rfl:=yX h;obtain⟨l,e0,-⟩:=xJ f0 o0;obtain⟨ps,e1,p1⟩:=lF (c:=qB) (p:=λ_=>True) (λr=>aXu) f1 o1;obtain⟨is,e2,p2⟩:=lF (c:=eI .i64) (p:=InI) (λr=>tO) f2 o2;obtain⟨os,e3,p3⟩:=lF (c:=eI .i64) (p:=InI) (λr=>tO) f3 o3;refine⟨⟨l,c,ps,is,os⟩,?_,⟨pc.1,p1.1,p2.1,p3.1⟩⟩;rw[avs,ec];simp only[avs,e0,e1,e2,e3,uB,cB,bo,List.cons_append,List.nil_append]
def aCi:List Sh:=[.sl 1 [.int],.sl 17 aLa]
theorem aDm{ss:List Sh}{ds:List Dat}(h:Fits (aCi++ss) ds)(ho:oks ds):∃(x:DHost) (ds':List Dat),avs ds=[bo (eI .i64) x.Words,bo cB x.Guests]++avs ds'/\FitH x/\Fits ss ds'/\oks ds':=by simp only[aCi,List.cons_append,List.nil_append]at h;obtain⟨d0,r0,rfl,f0,o0,h,ho⟩:=eF h ho;obtain⟨d1,r1,rfl,f1,o1,h,ho⟩:=eF h ho;obtain⟨ws,e0,p0⟩:=lF (c:=eI .i64) (p:=InI) (λr=>tO) f0 o0;obtain⟨gs,e1,p1⟩:=lF (c:=cB) (p:=FitG) (λr=>aXd) f1 o1;refine⟨⟨ws,gs⟩,r1,?_,⟨p0.1,p1.1,p1.2⟩,h,ho⟩;simp only[avs,e0,e1,bo,List.cons_append,List.nil_append]
end Go.Proofs.Ytobbmlnagjhofaa
