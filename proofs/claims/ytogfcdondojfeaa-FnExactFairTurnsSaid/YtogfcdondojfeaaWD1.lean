/- Plain functions of the program, and that it hands back what they say. Made by program. -/
import Derived.Test.YtogfcdondojfeaaWTD
import Derived.Test.YtogfcdondojfeaaProg
import Derived.Test.YtogfcdondojfeaaWO1
namespace Go.Proofs.Ytogfcdondojfeaa
open Go.RowKit
set_option maxRecDepth 100000
set_option linter.all false
set_option maxHeartbeats 0
theorem low_spec_l20Open:LW 34 ⟨11,[(.tmp 2)],(.seq (.reg false (rg 34 0)) (.seq (.seq (.reg false (rg 34 1)) (.cond (.t 5) (.reg false (rg 34 2)) .skip)) (.seq (.reg false (rg 34 3)) .ret)))⟩:=kr
noncomputable def F_spec_l20Open_j1  (s1:(List Int)):Option Dl20Rd :=
 some (Dl20Rd.mk s1 (0:Int))
noncomputable def F_spec_l20Open (x_code:List Int):Option Dl20Rd :=
 Option.bind (cond (decide ((2000:Int)<(((List.length x_code):Nat):Int)))
  (grd ((0:Int)≤(0:Int)∧(0:Int)≤(2000:Int)∧(2000:Int)≤((List.length x_code:Nat):Int)) (some (.go (List.take (Int.toNat (2000:Int) - Int.toNat (0:Int)) (List.drop (Int.toNat (0:Int)) x_code)))))
  (some (.go x_code))) fun j1 =>
  JO.run j1 (F_spec_l20Open_j1)
theorem spec_l20Open_fn {x_code:List Int} {R_:Dl20Rd} (hh:F_spec_l20Open x_code=some R_):Inl Try.prog 34 [bo (eI .u8) x_code] [] 0 (pp 0) [(0,some ⟨79,[bo (eI .u8) R_.b,.int .i64 R_.p]⟩)] 1:=by
 let z3:=(0,bo (eI .u8) x_code); let z4:=(5,bb (decide ((2000:Int)<(((List.length x_code):Nat):Int)))); let z1:=List.drop (Int.toNat (0:Int)) x_code; let z2:=List.take (Int.toNat (2000:Int) - Int.toNat (0:Int)) z1
 unfold F_spec_l20Open at hh
 refine Inl.start low_spec_l20Open [0] [] (E:=sp 11 [z3]) (H1:=[]) kr kr (sy [0] [] (sp 11 [z3]) [] 0 ?_)
 obtain ⟨j1,hh,hk1⟩:=bind_some hh
 refine Aw.join (S:=(List Int)) (fun s1=>sp 11 [(0,bo (eI .u8) s1)]) (fun s1=>[]) 0 (fun s1=>F_spec_l20Open_j1 s1=some R_) ?_ ?_
 · intro s1 hh
   unfold F_spec_l20Open_j1 at hh
   refine Aw.sreg [2] [0] ?_
   let q1:Root:=⟨79,[bo (eI .u8) s1,ii 0]⟩
   refine yt (sp 11 [(2,pp 0)]) [(0,some q1)] 1 (Aw.ret ?_)
   rw [some_some hh]
   exact gives (r':=pp 0) kr (el [some 0] (rens_1 (ren_p dd rfl)) (hq q1 rz hs_nil))
 intro Q1 hN1 hR1 hE1
 refine sy [0,5] [] (sp 11 [z3,z4]) [] 0 ?_
 rcases cond_sf hh with ⟨hb,hh⟩ | ⟨hb,hh⟩
 · refine cF hb (Aw.skip ?_)
   obtain rfl:=some_some hh
   exact hN1 x_code _ _ _ hk1 (el [] (rens_sp kr (ro nr_eI rl_n)) hs_nil)
 refine cT hb (Aw.oreg (yu 1 [(6,bo (eI .u8) x_code)] [] 0 ?_))
 obtain ⟨hg6,hh⟩:=grd_some hh
 refine ys (.slc 1 (.t 6) none (some (.c (ii 2000)))) (some 7) (op_slc (c:=(eI .u8)) (xs:=x_code) (l:=(0:Int)) (h:=(2000:Int)) len_eI kr kr kr hg6 ?_)
 refine ye (sp 11 [(0,bo (eI .u8) z2),z4,(6,bo (eI .u8) x_code),(7,bo (eI .u8) z2)]) [] 0 ?_
 obtain rfl:=some_some hh
 exact hN1 z2 _ _ _ hk1 (el [] (rens_sp kr (ro nr_eI rl_n)) hs_nil)
noncomputable def F___spec_l20Rd__pick (x_r:Dl20Rd) (x_n:Int):Option (Dl20Rd × Int) :=
 cond (decide (x_n<(1:Int)))
  (some ((Dl20Rd.mk x_r.b (w64 (x_r.p+(1:Int)))),(0:Int)))
  (cond (decide ((((List.length x_r.b):Nat):Int)=(0:Int)))
   (some ((Dl20Rd.mk x_r.b (w64 (x_r.p+(1:Int)))),(0:Int)))
   (cond (decide ((w64 ((w64 (x_r.p+(1:Int))) - (1:Int)))<(((List.length x_r.b):Nat):Int)))
    (grd ((0:Int)≤(w64 ((w64 (x_r.p+(1:Int))) - (1:Int)))∧(w64 ((w64 (x_r.p+(1:Int))) - (1:Int)))<((List.length x_r.b:Nat):Int)) (grd (x_n≠0) (some ((Dl20Rd.mk x_r.b (w64 (x_r.p+(1:Int)))),(Int.tmod (IntKind.wrap .i64 (List.getD x_r.b (Int.toNat (w64 ((w64 (x_r.p+(1:Int))) - (1:Int)))) default)) x_n)))))
    (grd ((((List.length x_r.b):Nat):Int)≠0) (grd ((0:Int)≤(Int.tmod (w64 ((w64 (x_r.p+(1:Int))) - (1:Int))) (((List.length x_r.b):Nat):Int))∧(Int.tmod (w64 ((w64 (x_r.p+(1:Int))) - (1:Int))) (((List.length x_r.b):Nat):Int))<((List.length x_r.b:Nat):Int)) (grd ((((List.length x_r.b):Nat):Int)≠0) (grd ((0:Int)≤(Int.tmod (w64 ((w64 ((w64 ((w64 (x_r.p+(1:Int))) - (1:Int)))*(7:Int)))+(3:Int))) (((List.length x_r.b):Nat):Int))∧(Int.tmod (w64 ((w64 ((w64 ((w64 (x_r.p+(1:Int))) - (1:Int)))*(7:Int)))+(3:Int))) (((List.length x_r.b):Nat):Int))<((List.length x_r.b:Nat):Int)) (grd ((((List.length x_r.b):Nat):Int)≠0) (grd (x_n≠0) (some ((Dl20Rd.mk x_r.b (w64 (x_r.p+(1:Int)))),(Int.tmod (bits .xor .i64 (w64 ((w64 ((w64 ((w64 ((IntKind.wrap .i64 (List.getD x_r.b (Int.toNat (Int.tmod (w64 ((w64 (x_r.p+(1:Int))) - (1:Int))) (((List.length x_r.b):Nat):Int))) default))*(131:Int)))+(w64 ((IntKind.wrap .i64 (List.getD x_r.b (Int.toNat (Int.tmod (w64 ((w64 ((w64 ((w64 (x_r.p+(1:Int))) - (1:Int)))*(7:Int)))+(3:Int))) (((List.length x_r.b):Nat):Int))) default))*(1117:Int)))))+(w64 ((w64 ((w64 (x_r.p+(1:Int))) - (1:Int)))*(29:Int)))))+(w64 ((w64 (Int.tdiv (w64 ((w64 (x_r.p+(1:Int))) - (1:Int))) (((List.length x_r.b):Nat):Int)))*(53:Int))))) (w64 (Int.tdiv (w64 ((w64 ((w64 ((w64 ((IntKind.wrap .i64 (List.getD x_r.b (Int.toNat (Int.tmod (w64 ((w64 (x_r.p+(1:Int))) - (1:Int))) (((List.length x_r.b):Nat):Int))) default))*(131:Int)))+(w64 ((IntKind.wrap .i64 (List.getD x_r.b (Int.toNat (Int.tmod (w64 ((w64 ((w64 ((w64 (x_r.p+(1:Int))) - (1:Int)))*(7:Int)))+(3:Int))) (((List.length x_r.b):Nat):Int))) default))*(1117:Int)))))+(w64 ((w64 ((w64 (x_r.p+(1:Int))) - (1:Int)))*(29:Int)))))+(w64 ((w64 (Int.tdiv (w64 ((w64 (x_r.p+(1:Int))) - (1:Int))) (((List.length x_r.b):Nat):Int)))*(53:Int))))) (64:Int)))) x_n)))))))))))
noncomputable def g48:Sw tG:=⟨[.pt 79,.v (.i .i64)],.one (.i .i64),F___spec_l20Rd__pick⟩
theorem s48:Sjk 48 g48:=sgy [] trivial .o kr kr kr
theorem __spec_l20Rd__pick_fn {x_r:Dl20Rd} {x_n:Int} {R_:Dl20Rd × Int} (hh:F___spec_l20Rd__pick x_r x_n=some R_):Inl Try.prog 48 [.ptr 0 [] 0,.int .i64 x_n] [(0,some (rB79 x_r))] 1 (.int .i64 R_.2) [(0,some ⟨79,[bo (eI .u8) R_.1.b,.int .i64 R_.1.p]⟩)] 1:=kc (s48 x_r x_n R_ hh)
noncomputable def F_laws_alive  : Option Bool :=
 Option.bind (F_impl_WordOk (5:Int)) fun v1 =>
 cond v1
  (Option.bind (F_impl_WordOk (-1:Int)) fun v2 =>
  some (!v2))
  (some false)
noncomputable def g14:Sg tG:=⟨[],.one .b,F_laws_alive⟩
theorem s14:Sok 14 g14:=sgx [(46,.r g46)] ⟨s46,trivial⟩ .o kr kr kr
end Go.Proofs.Ytogfcdondojfeaa
