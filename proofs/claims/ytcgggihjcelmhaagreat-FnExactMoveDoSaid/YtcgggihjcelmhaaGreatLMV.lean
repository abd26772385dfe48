/- A move as an argument, opened. -/
import Derived.Test.YtcgggihjcelmhaaGreatLH
import Derived.Test.YtcgggihjcelmhaaGreatPMXD
namespace Go.Proofs.YtcgggihjcelmhaaGreat
set_option linter.all false
open Go.ChangeShapes Go.WideShapes Go.ChangeAt Go.RowKit
def bAh:List Sh:=aRl++(aRl++[.int,.int,.sl 1 [.bool]])
theorem bMo{ss:List Sh}{ds:List Dat}(h:Fits (bAh++ss) ds)(ho:oks ds):∃(x:DMove) (ds':List Dat),avs ds=[bo (eI .i64) x.From.Words,bo iR x.From.Guests,bo (eI .i64) x.To.Words,bo iR x.To.Guests,.int .i64 x.G,.int .i64 x.N,bo eB x.Left]++avs ds'/\FitM x/\Fits ss ds'/\oks ds':=by simp only[bAh,List.append_assoc]at h;obtain⟨a,r,ea,pa,h,ho⟩:=aVl h ho;obtain⟨b,r2,eb,pb,h,ho⟩:=aVl h ho;simp only[List.cons_append,List.nil_append]at h;obtain⟨d0,r3,rfl,f0,o0,h,ho⟩:=dH h ho;obtain⟨d1,r4,rfl,f1,o1,h,ho⟩:=dH h ho;obtain⟨d2,r5,rfl,f2,o2,h,ho⟩:=dH h ho;obtain⟨g,e0,-⟩:=sA f0 o0;obtain⟨n,e1,-⟩:=sA f1 o1;obtain⟨ls,e2,p2⟩:=uO (c:=eB) (p:=okB) (λr=>bZp) f2 o2;refine⟨⟨a,b,g,n,ls⟩,r5,?_,⟨pa,pb,p2.1⟩,h,ho⟩;rw[ea,eb];simp only[avs,e0,e1,e2,bo,List.cons_append,List.nil_append]
end Go.Proofs.YtcgggihjcelmhaaGreat
