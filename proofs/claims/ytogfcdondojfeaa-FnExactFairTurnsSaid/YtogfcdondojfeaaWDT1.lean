/- Plain functions of the program, and that it hands back what they say. Made by program. -/
import Derived.Test.YtogfcdondojfeaaWTD
import Derived.Test.YtogfcdondojfeaaProg
import Derived.Test.YtogfcdondojfeaaWD1
namespace Go.Proofs.Ytogfcdondojfeaa
open Go.RowKit
set_option maxRecDepth 100000
set_option linter.all false
set_option maxHeartbeats 0
noncomputable def F_spec_l20Turns_j1  (s1:(List Int) × (List Int) × Int):Option (Dl20Rd × (List Int)) :=
 some ((Dl20Rd.mk s1.2.1 s1.2.2),s1.1)
noncomputable def F_spec_l20Turns_l3  (s3:(List Int) × Int × (List Int) × Int):Option (LO ((List Int) × Int × (List Int) × Int) (JO ((List Int) × (List Int) × Int) (Dl20Rd × (List Int)))) :=
 cond (decide ((0:Int)<s3.2.2.2))
  (Option.bind (F___spec_l20Rd__pick (Dl20Rd.mk s3.1 s3.2.1) (3:Int)) fun v4 =>
  Option.bind (F___spec_l20Rd__pick v4.1 (30:Int)) fun v5 =>
  grd ((List.length s3.2.2.1+List.length ([(w64 (v4.2 - (w64 ((w64 (Int.tdiv v5.2 (29:Int)))*(4:Int)))))]:List Int))*8≤2 ^ 47∧List.length s3.2.2.1+List.length ([(w64 (v4.2 - (w64 ((w64 (Int.tdiv v5.2 (29:Int)))*(4:Int)))))]:List Int)≤2 ^ 47) (some (.next (v5.1.b,v5.1.p,(s3.2.2.1 ++ ([(w64 (v4.2 - (w64 ((w64 (Int.tdiv v5.2 (29:Int)))*(4:Int)))))]:List Int)),(w64 (s3.2.2.2 - (1:Int)))))))
  (some (.ret (.go (s3.2.2.1,s3.1,s3.2.1))))
noncomputable def F_spec_l20Turns (x_r:Dl20Rd) (x_most:Int):Option (Dl20Rd × (List Int)) :=
 Option.bind (Option.bind (F___spec_l20Rd__pick x_r (w64 (x_most+(1:Int)))) fun v2 =>
  Option.bind (iter (F_spec_l20Turns_l3) (v2.1.b,v2.1.p,([]:List Int),v2.2)) LO.val) fun j1 =>
  JO.run j1 (F_spec_l20Turns_j1)
noncomputable def g57:Sw tG:=⟨[.pt 79,.v (.i .i64)],.one (.row 3),F_spec_l20Turns⟩
theorem s57:Sjk 57 g57:=sgy [(48,.w g48)] ⟨s48,trivial⟩ (.s .o (.s .o (.j ⟨[],[0],[(.s 5,.ro 3),(.d 0 0,.rb 5),(.d 0 1,.i .i64)]⟩ (.s .o (.k (.l ⟨[0],[],[(.c 0 0,.rb 5),(.c 0 1,.i .i64),(.s 5,.ro 3),(.s 6,.i .i64)]⟩ .o))) .o))) kr kr kr
theorem spec_l20Turns_fn {x_r:Dl20Rd} {x_most:Int} {R_:Dl20Rd × (List Int)} (hh:F_spec_l20Turns x_r x_most=some R_):Inl Try.prog 57 [.ptr 0 [] 0,.int .i64 x_most] [(0,some (rB79 x_r))] 1 (.sref 1 [] 0 (List.length R_.2) 1) [(1,some (rI_3 R_.2)),(0,some ⟨79,[bo (eI .u8) R_.1.b,.int .i64 R_.1.p]⟩)] 2:=kc (s57 x_r x_most R_ hh)
end Go.Proofs.Ytogfcdondojfeaa
