/- The types of the plain functions. Made by program. -/
import Derived.Test.YtogfcdondojfeaaZY
import Derived.Test.YtogfcdondojfeaaProg
namespace Go.Proofs.Ytogfcdondojfeaa
open Go.RowKit
set_option maxRecDepth 100000
set_option linter.all false
set_option maxHeartbeats 0
noncomputable def rg:=rgOf Try.prog
abbrev LW (k:Nat) (L:LFun):Prop:=lowFun Try.prog k=some L
structure DCore where
 Regs:List Int
 Pc:Int
 Root:Int
 Vector:Int
 Saved:Int
 SavedUser:Bool
 Cause:Int
 Bad:Int
 Timer:Int
 Waits:Bool
 User:Bool
 On:Bool
 Stopped:Bool
deriving Inhabited
structure DSlot where
 Frame:Int
 Write:Bool
 Dirty:Bool
deriving Inhabited
structure DGuest where
 Live:Bool
 C:DCore
 Pages:List DSlot
 In:List Int
 Out:List Int
deriving Inhabited
structure DHost where
 Words:List Int
 Guests:List DGuest
deriving Inhabited
structure DShade where
 There:Bool
 Write:Bool
 User:Bool
 Page:Int
 Frame:Int
 Ready:Bool
deriving Inhabited
structure DLine where
 Tag:Int
 At:Int
 What:DShade
deriving Inhabited
structure Dl20Rd where
 b:List Int
 p:Int
deriving Inhabited
structure DBare where
 C:DCore
 Mem:List Int
 In:List Int
 Out:List Int
deriving Inhabited
structure DEntry where
 There:Bool
 Write:Bool
 User:Bool
 Page:Int
deriving Inhabited
structure DIns where
 Op:Int
 A:Int
 N:Int
deriving Inhabited
def B_85 (x:DBare):List AV:=[bo (eI .i64) x.C.Regs,.int .i64 x.C.Pc,.int .i64 x.C.Root,.int .i64 x.C.Vector,.int .i64 x.C.Saved,.bool x.C.SavedUser,.int .i64 x.C.Cause,.int .i64 x.C.Bad,.int .i64 x.C.Timer,.bool x.C.Waits,.bool x.C.User,.bool x.C.On,.bool x.C.Stopped,bo (eI .i64) x.Mem,bo (eI .i64) x.In,bo (eI .i64) x.Out]
theorem no_B_85:∀ x,noOwn (B_85 x)=true:=fun _=>rfl
theorem cl_B_85:∀ x,cleans (B_85 x)=true:=fun x=>by simp only [B_85,cleans,AV.clean,Bool.and_self,cleans_fl cl_eI]
theorem nr_B_85:∀ x,noRefs (B_85 x)=true:=fun x=>by simp only [B_85,noRefs,AV.noRef,Bool.and_self,noRefs_fl nr_eI]
def B_83 (x:DCore):List AV:=[bo (eI .i64) x.Regs,.int .i64 x.Pc,.int .i64 x.Root,.int .i64 x.Vector,.int .i64 x.Saved,.bool x.SavedUser,.int .i64 x.Cause,.int .i64 x.Bad,.int .i64 x.Timer,.bool x.Waits,.bool x.User,.bool x.On,.bool x.Stopped]
theorem no_B_83:∀ x,noOwn (B_83 x)=true:=fun _=>rfl
theorem cl_B_83:∀ x,cleans (B_83 x)=true:=fun x=>by simp only [B_83,cleans,AV.clean,Bool.and_self,cleans_fl cl_eI]
theorem nr_B_83:∀ x,noRefs (B_83 x)=true:=fun x=>by simp only [B_83,noRefs,AV.noRef,Bool.and_self,noRefs_fl nr_eI]
def C_93 (x:DSlot):List AV:=[.int .i64 x.Frame,.bool x.Write,.bool x.Dirty]
theorem len_C_93:∀ x,(C_93 x).length=3:=fun _=>rfl
theorem no_C_93:∀ x,noOwn (C_93 x)=true:=fun _=>rfl
theorem cl_C_93:∀ x,cleans (C_93 x)=true:=fun _=>rfl
theorem nr_C_93:∀ x,noRefs (C_93 x)=true:=fun _=>rfl
theorem nb_C_93:∀ x,noBors (C_93 x)=true:=fun _=>rfl
def B_91 (x:DGuest):List AV:=[.bool x.Live,bo (eI .i64) x.C.Regs,.int .i64 x.C.Pc,.int .i64 x.C.Root,.int .i64 x.C.Vector,.int .i64 x.C.Saved,.bool x.C.SavedUser,.int .i64 x.C.Cause,.int .i64 x.C.Bad,.int .i64 x.C.Timer,.bool x.C.Waits,.bool x.C.User,.bool x.C.On,.bool x.C.Stopped,bo C_93 x.Pages,bo (eI .i64) x.In,bo (eI .i64) x.Out]
theorem no_B_91:∀ x,noOwn (B_91 x)=true:=fun _=>rfl
theorem cl_B_91:∀ x,cleans (B_91 x)=true:=fun x=>by simp only [B_91,cleans,AV.clean,Bool.and_self,cleans_fl cl_eI,cleans_fl cl_C_93]
theorem nr_B_91:∀ x,noRefs (B_91 x)=true:=fun x=>by simp only [B_91,noRefs,AV.noRef,Bool.and_self,noRefs_fl nr_eI,noRefs_fl nr_C_93]
def B_26 (x:DHost):List AV:=[bo (eI .i64) x.Words,bo B_91 x.Guests]
theorem no_B_26:∀ x,noOwn (B_26 x)=true:=fun _=>rfl
theorem cl_B_26:∀ x,cleans (B_26 x)=true:=fun x=>by simp only [B_26,cleans,AV.clean,Bool.and_self,cleans_fl cl_eI,cleans_fl cl_B_91]
theorem nr_B_26:∀ x,noRefs (B_26 x)=true:=fun x=>by simp only [B_26,noRefs,AV.noRef,Bool.and_self,noRefs_fl nr_eI,noRefs_fl nr_B_91]
def O_91 (x:DGuest):List AV:=[.bool x.Live,.own 3 1 (List.length x.C.Regs) (fl (eI .i64) x.C.Regs),.int .i64 x.C.Pc,.int .i64 x.C.Root,.int .i64 x.C.Vector,.int .i64 x.C.Saved,.bool x.C.SavedUser,.int .i64 x.C.Cause,.int .i64 x.C.Bad,.int .i64 x.C.Timer,.bool x.C.Waits,.bool x.C.User,.bool x.C.On,.bool x.C.Stopped,.own 93 3 (List.length x.Pages) (fl C_93 x.Pages),.own 3 1 (List.length x.In) (fl (eI .i64) x.In),.own 3 1 (List.length x.Out) (fl (eI .i64) x.Out)]
theorem nr_O_91:∀ x,noRefs (O_91 x)=true:=fun x=>by simp only [O_91,noRefs,AV.noRef,Bool.and_self,noRefs_fl nr_eI,noRefs_fl nr_C_93]
theorem nb_O_91:∀ x,noBors (O_91 x)=true:=fun x=>by simp only [O_91,noBors,AV.noBor,Bool.and_self,noBors_fl nb_eI,noBors_fl nb_C_93]
theorem oc_O_91:CloEnc O_91 B_91:=fun x H r π j h=>(clos_c (clo_same rfl) (clos_c (clo_own (e:=3) rfl len_eI no_eI cl_eI (h 1 _ rfl)) (clos_c (clo_same rfl) (clos_c (clo_same rfl) (clos_c (clo_same rfl) (clos_c (clo_same rfl) (clos_c (clo_same rfl) (clos_c (clo_same rfl) (clos_c (clo_same rfl) (clos_c (clo_same rfl) (clos_c (clo_same rfl) (clos_c (clo_same rfl) (clos_c (clo_same rfl) (clos_c (clo_same rfl) (clos_c (clo_own (e:=93) rfl len_C_93 no_C_93 cl_C_93 (h 14 _ rfl)) (clos_c (clo_own (e:=3) rfl len_eI no_eI cl_eI (h 15 _ rfl)) (clos_c (clo_own (e:=3) rfl len_eI no_eI cl_eI (h 16 _ rfl)) clos_n)))))))))))))))))
def C_45 (x:DShade):List AV:=[.bool x.There,.bool x.Write,.bool x.User,.int .i64 x.Page,.int .i64 x.Frame,.bool x.Ready]
theorem no_C_45:∀ x,noOwn (C_45 x)=true:=fun _=>rfl
theorem cl_C_45:∀ x,cleans (C_45 x)=true:=fun _=>rfl
theorem nr_C_45:∀ x,noRefs (C_45 x)=true:=fun _=>rfl
theorem nb_C_45:∀ x,noBors (C_45 x)=true:=fun _=>rfl
def C_98 (x:DEntry):List AV:=[.bool x.There,.bool x.Write,.bool x.User,.int .i64 x.Page]
theorem no_C_98:∀ x,noOwn (C_98 x)=true:=fun _=>rfl
theorem cl_C_98:∀ x,cleans (C_98 x)=true:=fun _=>rfl
theorem nr_C_98:∀ x,noRefs (C_98 x)=true:=fun _=>rfl
theorem nb_C_98:∀ x,noBors (C_98 x)=true:=fun _=>rfl
def C_114 (x:DIns):List AV:=[.int .i64 x.Op,.int .i64 x.A,.int .i64 x.N]
theorem no_C_114:∀ x,noOwn (C_114 x)=true:=fun _=>rfl
theorem cl_C_114:∀ x,cleans (C_114 x)=true:=fun _=>rfl
theorem nr_C_114:∀ x,noRefs (C_114 x)=true:=fun _=>rfl
theorem nb_C_114:∀ x,noBors (C_114 x)=true:=fun _=>rfl
def C_47 (x:DLine):List AV:=[.int .i64 x.Tag,.int .i64 x.At,.bool x.What.There,.bool x.What.Write,.bool x.What.User,.int .i64 x.What.Page,.int .i64 x.What.Frame,.bool x.What.Ready]
theorem no_C_47:∀ x,noOwn (C_47 x)=true:=fun _=>rfl
theorem cl_C_47:∀ x,cleans (C_47 x)=true:=fun _=>rfl
theorem nr_C_47:∀ x,noRefs (C_47 x)=true:=fun _=>rfl
theorem nb_C_47:∀ x,noBors (C_47 x)=true:=fun _=>rfl
def B_79 (x:Dl20Rd):List AV:=[bo (eI .u8) x.b,.int .i64 x.p]
theorem no_B_79:∀ x,noOwn (B_79 x)=true:=fun _=>rfl
theorem cl_B_79:∀ x,cleans (B_79 x)=true:=fun x=>by simp only [B_79,cleans,AV.clean,Bool.and_self,cleans_fl cl_eI]
theorem nr_B_79:∀ x,noRefs (B_79 x)=true:=fun x=>by simp only [B_79,noRefs,AV.noRef,Bool.and_self,noRefs_fl nr_eI]
def O_79 (x:Dl20Rd):List AV:=[.own 5 1 (List.length x.b) (fl (eI .u8) x.b),.int .i64 x.p]
theorem nr_O_79:∀ x,noRefs (O_79 x)=true:=fun x=>by simp only [O_79,noRefs,AV.noRef,Bool.and_self,noRefs_fl nr_eI]
theorem nb_O_79:∀ x,noBors (O_79 x)=true:=fun x=>by simp only [O_79,noBors,AV.noBor,Bool.and_self,noBors_fl nb_eI]
theorem oc_O_79:CloEnc O_79 B_79:=fun x H r π j h=>(clos_c (clo_own (e:=5) rfl len_eI no_eI cl_eI (h 0 _ rfl)) (clos_c (clo_same rfl) clos_n))
def O_83 (x:DCore):List AV:=[.own 3 1 (List.length x.Regs) (fl (eI .i64) x.Regs),.int .i64 x.Pc,.int .i64 x.Root,.int .i64 x.Vector,.int .i64 x.Saved,.bool x.SavedUser,.int .i64 x.Cause,.int .i64 x.Bad,.int .i64 x.Timer,.bool x.Waits,.bool x.User,.bool x.On,.bool x.Stopped]
theorem nr_O_83:∀ x,noRefs (O_83 x)=true:=fun x=>by simp only [O_83,noRefs,AV.noRef,Bool.and_self,noRefs_fl nr_eI]
theorem nb_O_83:∀ x,noBors (O_83 x)=true:=fun x=>by simp only [O_83,noBors,AV.noBor,Bool.and_self,noBors_fl nb_eI]
theorem oc_O_83:CloEnc O_83 B_83:=fun x H r π j h=>(clos_c (clo_own (e:=3) rfl len_eI no_eI cl_eI (h 0 _ rfl)) (clos_c (clo_same rfl) (clos_c (clo_same rfl) (clos_c (clo_same rfl) (clos_c (clo_same rfl) (clos_c (clo_same rfl) (clos_c (clo_same rfl) (clos_c (clo_same rfl) (clos_c (clo_same rfl) (clos_c (clo_same rfl) (clos_c (clo_same rfl) (clos_c (clo_same rfl) (clos_c (clo_same rfl) clos_n)))))))))))))
def O_85 (x:DBare):List AV:=[.own 3 1 (List.length x.C.Regs) (fl (eI .i64) x.C.Regs),.int .i64 x.C.Pc,.int .i64 x.C.Root,.int .i64 x.C.Vector,.int .i64 x.C.Saved,.bool x.C.SavedUser,.int .i64 x.C.Cause,.int .i64 x.C.Bad,.int .i64 x.C.Timer,.bool x.C.Waits,.bool x.C.User,.bool x.C.On,.bool x.C.Stopped,.own 3 1 (List.length x.Mem) (fl (eI .i64) x.Mem),.own 3 1 (List.length x.In) (fl (eI .i64) x.In),.own 3 1 (List.length x.Out) (fl (eI .i64) x.Out)]
theorem nr_O_85:∀ x,noRefs (O_85 x)=true:=fun x=>by simp only [O_85,noRefs,AV.noRef,Bool.and_self,noRefs_fl nr_eI]
theorem nb_O_85:∀ x,noBors (O_85 x)=true:=fun x=>by simp only [O_85,noBors,AV.noBor,Bool.and_self,noBors_fl nb_eI]
theorem oc_O_85:CloEnc O_85 B_85:=fun x H r π j h=>(clos_c (clo_own (e:=3) rfl len_eI no_eI cl_eI (h 0 _ rfl)) (clos_c (clo_same rfl) (clos_c (clo_same rfl) (clos_c (clo_same rfl) (clos_c (clo_same rfl) (clos_c (clo_same rfl) (clos_c (clo_same rfl) (clos_c (clo_same rfl) (clos_c (clo_same rfl) (clos_c (clo_same rfl) (clos_c (clo_same rfl) (clos_c (clo_same rfl) (clos_c (clo_same rfl) (clos_c (clo_own (e:=3) rfl len_eI no_eI cl_eI (h 13 _ rfl)) (clos_c (clo_own (e:=3) rfl len_eI no_eI cl_eI (h 14 _ rfl)) (clos_c (clo_own (e:=3) rfl len_eI no_eI cl_eI (h 15 _ rfl)) clos_n))))))))))))))))
def ru83 (x:DCore) (us:List AV):List AV:=.int .i64 x.Pc :: .int .i64 x.Root :: .int .i64 x.Vector :: .int .i64 x.Saved :: .bool x.SavedUser :: .int .i64 x.Cause :: .int .i64 x.Bad :: .int .i64 x.Timer :: .bool x.Waits :: .bool x.User :: .bool x.On :: .bool x.Stopped::us
def zru83 (us:List AV):List AV:=.int .i64 (0:Int) :: .int .i64 (0:Int) :: .int .i64 (0:Int) :: .int .i64 (0:Int) :: .bool false :: .int .i64 (0:Int) :: .int .i64 (0:Int) :: .int .i64 (0:Int) :: .bool false :: .bool false :: .bool false :: .bool false::us
def ru45 (x:DShade) (us:List AV):List AV:=.bool x.There :: .bool x.Write :: .bool x.User :: .int .i64 x.Page :: .int .i64 x.Frame :: .bool x.Ready::us
def zru45 (us:List AV):List AV:=.bool false :: .bool false :: .bool false :: .int .i64 (0:Int) :: .int .i64 (0:Int) :: .bool false::us
def ru98 (x:DEntry) (us:List AV):List AV:=.bool x.There :: .bool x.Write :: .bool x.User :: .int .i64 x.Page::us
def zru98 (us:List AV):List AV:=.bool false :: .bool false :: .bool false :: .int .i64 (0:Int)::us
theorem rz {ρ:Nat→Option Nat} {n:Nat} {vs us:List AV} (h:Rens ρ n vs us:=by repeat first | exact rens_n | refine rens_i ?_ | refine rens_b ?_ | refine rens_c ren_nil ?_ | refine rens_c (ren_agg ?_) ?_ | refine rens_c (ren_p dd rfl) ?_ | refine rens_c ren_sy ?_ | refine rens_c (ren_s0 dd rfl rfl) ?_ | refine rens_c (ren_bor (rens_same (noRefs_fl nr_B_26))) ?_ | refine rens_c (ren_bor (rens_same (noRefs_fl nr_B_79))) ?_ | refine rens_c (ren_bor (rens_same (noRefs_fl nr_B_83))) ?_ | refine rens_c (ren_bor (rens_same (noRefs_fl nr_B_85))) ?_ | refine rens_c (ren_bor (rens_same (noRefs_fl nr_B_91))) ?_ | refine rens_c (ren_bor (rens_same (noRefs_fl nr_C_114))) ?_ | refine rens_c (ren_bor (rens_same (noRefs_fl nr_C_45))) ?_ | refine rens_c (ren_bor (rens_same (noRefs_fl nr_C_47))) ?_ | refine rens_c (ren_bor (rens_same (noRefs_fl nr_C_93))) ?_ | refine rens_c (ren_bor (rens_same (noRefs_fl nr_C_98))) ?_ | refine rens_c (ren_bor (rens_same (noRefs_fl nr_O_79))) ?_ | refine rens_c (ren_bor (rens_same (noRefs_fl nr_O_83))) ?_ | refine rens_c (ren_bor (rens_same (noRefs_fl nr_O_85))) ?_ | refine rens_c (ren_bor (rens_same (noRefs_fl nr_O_91))) ?_ | refine rens_c (ren_bor (rens_same (noRefs_fl nr_eI))) ?_ | refine rens_c (ren_bor (rens_same (noRefs_fl nr_eB))) ?_ ):Rens ρ n vs us:=h
theorem nrr {p:Prop} (h:p:=by simp only [ru45,ru83,ru98,zru45,zru83,zru98,AV.noRef,noRefs,AV.noBor,noBors,Bool.and_self,noRefs_fl nr_B_26,noRefs_fl nr_B_79,noRefs_fl nr_B_83,noRefs_fl nr_B_85,noRefs_fl nr_B_91,noRefs_fl nr_C_114,noRefs_fl nr_C_45,noRefs_fl nr_C_47,noRefs_fl nr_C_93,noRefs_fl nr_C_98,noRefs_fl nr_O_79,noRefs_fl nr_O_83,noRefs_fl nr_O_85,noRefs_fl nr_O_91,noRefs_fl nr_eI,noRefs_fl nr_eB,nr_B_26,nr_B_79,nr_B_83,nr_B_85,nr_B_91,nr_C_114,nr_C_45,nr_C_47,nr_C_93,nr_C_98,nr_O_79,nr_O_83,nr_O_85,nr_O_91,noBors_fl nb_C_114,noBors_fl nb_C_45,noBors_fl nb_C_47,noBors_fl nb_C_93,noBors_fl nb_C_98,noBors_fl nb_O_79,noBors_fl nb_O_83,noBors_fl nb_O_85,noBors_fl nb_O_91,noBors_fl nb_eI,noBors_fl nb_eB,nb_C_114,nb_C_45,nb_C_47,nb_C_93,nb_C_98,nb_O_79,nb_O_83,nb_O_85,nb_O_91]):p:=h
abbrev rI_3 (x:List Int):Root:=⟨3,fl (eI .i64) x⟩
abbrev rB79 (x:Dl20Rd):Root:=⟨79,B_79 x⟩
end Go.Proofs.Ytogfcdondojfeaa
