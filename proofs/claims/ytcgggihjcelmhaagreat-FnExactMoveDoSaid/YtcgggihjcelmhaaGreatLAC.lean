/- What happens while a guest moves, as an argument, opened. -/
import Derived.Test.YtcgggihjcelmhaaGreatLS
namespace Go.Proofs.YtcgggihjcelmhaaGreat
set_option linter.all false
open Go.ChangeShapes Go.WideShapes Go.ChangeAt Go.RowKit
def bAv:List Sh:=[.int,.int]
theorem bMu{ss:List Sh}{ds:List Dat}(h:Fits (bAv++ss) ds)(ho:oks ds):∃(x:DAct) (ds':List Dat),avs ds=aKj x++avs ds'/\True/\Fits ss ds'/\oks ds':=by simp only[bAv,List.cons_append,List.nil_append]at h;obtain⟨d0,r0,rfl,f0,o0,h,ho⟩:=dH h ho;obtain⟨d1,r1,rfl,f1,o1,h,ho⟩:=dH h ho;obtain⟨n0,e0,-⟩:=sA f0 o0;obtain⟨n1,e1,-⟩:=sA f1 o1;refine⟨⟨n0,n1⟩,r1,?_,trivial,h,ho⟩;simp only[avs,e0,e1,aKj,List.cons_append,List.nil_append]
end Go.Proofs.YtcgggihjcelmhaaGreat
