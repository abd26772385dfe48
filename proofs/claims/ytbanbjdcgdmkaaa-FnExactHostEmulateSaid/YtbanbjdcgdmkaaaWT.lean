/- The types of the plain functions. Made by program. -/
import Derived.Test.YtbanbjdcgdmkaaaZ5
import Derived.Test.YtbanbjdcgdmkaaaProg
namespace Go.Proofs.Ytbanbjdcgdmkaaa
open Go.RowKit
set_option maxRecDepth 100000
set_option linter.all false
set_option maxHeartbeats 0
noncomputable def rg:=rgOf Try.prog
abbrev LW (k:Nat) (L:LFun):Prop:=lowFun Try.prog k=some L
structure DCore where
 Regs:List Int
 Pc:Int
 Root:Int
 Vector:Int
 Saved:Int
 SavedUser:Bool
 Cause:Int
 Bad:Int
 Timer:Int
 Waits:Bool
 User:Bool
 On:Bool
 Stopped:Bool
deriving Inhabited
structure DBare where
 C:DCore
 Mem:List Int
 In:List Int
 Out:List Int
deriving Inhabited
structure DSlot where
 Frame:Int
 Write:Bool
 Dirty:Bool
deriving Inhabited
structure DGuest where
 Live:Bool
 C:DCore
 Pages:List DSlot
 In:List Int
 Out:List Int
deriving Inhabited
structure DHost where
 Words:List Int
 Guests:List DGuest
deriving Inhabited
structure DIns where
 Op:Int
 A:Int
 N:Int
deriving Inhabited
structure DExit where
 Why:Int
 Page:Int
 What:DIns
deriving Inhabited
structure DEntry where
 There:Bool
 Write:Bool
 User:Bool
 Page:Int
deriving Inhabited
structure Dl20Rd where
 b:List Int
 p:Int
deriving Inhabited
structure DShade where
 There:Bool
 Write:Bool
 User:Bool
 Page:Int
 Frame:Int
 Ready:Bool
deriving Inhabited
def B_27 (x:DBare):List AV:=[bo (eI .i64) x.C.Regs,.int .i64 x.C.Pc,.int .i64 x.C.Root,.int .i64 x.C.Vector,.int .i64 x.C.Saved,.bool x.C.SavedUser,.int .i64 x.C.Cause,.int .i64 x.C.Bad,.int .i64 x.C.Timer,.bool x.C.Waits,.bool x.C.User,.bool x.C.On,.bool x.C.Stopped,bo (eI .i64) x.Mem,bo (eI .i64) x.In,bo (eI .i64) x.Out]
theorem cl_B_27:∀ x,cleans (B_27 x)=true:=fun x=>by simp only [B_27,cleans,AV.clean,Bool.and_self,cleans_fl cl_eI]
theorem nr_B_27:∀ x,noRefs (B_27 x)=true:=fun x=>by simp only [B_27,noRefs,AV.noRef,Bool.and_self,noRefs_fl nr_eI]
def B_25 (x:DCore):List AV:=[bo (eI .i64) x.Regs,.int .i64 x.Pc,.int .i64 x.Root,.int .i64 x.Vector,.int .i64 x.Saved,.bool x.SavedUser,.int .i64 x.Cause,.int .i64 x.Bad,.int .i64 x.Timer,.bool x.Waits,.bool x.User,.bool x.On,.bool x.Stopped]
theorem cl_B_25:∀ x,cleans (B_25 x)=true:=fun x=>by simp only [B_25,cleans,AV.clean,Bool.and_self,cleans_fl cl_eI]
theorem nr_B_25:∀ x,noRefs (B_25 x)=true:=fun x=>by simp only [B_25,noRefs,AV.noRef,Bool.and_self,noRefs_fl nr_eI]
def C_52 (x:DSlot):List AV:=[.int .i64 x.Frame,.bool x.Write,.bool x.Dirty]
theorem len_C_52:∀ x,(C_52 x).length=3:=fun _=>rfl
theorem no_C_52:∀ x,noOwn (C_52 x)=true:=fun _=>rfl
theorem cl_C_52:∀ x,cleans (C_52 x)=true:=fun _=>rfl
theorem nr_C_52:∀ x,noRefs (C_52 x)=true:=fun _=>rfl
theorem nb_C_52:∀ x,noBors (C_52 x)=true:=fun _=>rfl
def B_55 (x:DGuest):List AV:=[.bool x.Live,bo (eI .i64) x.C.Regs,.int .i64 x.C.Pc,.int .i64 x.C.Root,.int .i64 x.C.Vector,.int .i64 x.C.Saved,.bool x.C.SavedUser,.int .i64 x.C.Cause,.int .i64 x.C.Bad,.int .i64 x.C.Timer,.bool x.C.Waits,.bool x.C.User,.bool x.C.On,.bool x.C.Stopped,bo C_52 x.Pages,bo (eI .i64) x.In,bo (eI .i64) x.Out]
theorem len_B_55:∀ x,(B_55 x).length=17:=fun _=>rfl
theorem cl_B_55:∀ x,cleans (B_55 x)=true:=fun x=>by simp only [B_55,cleans,AV.clean,Bool.and_self,cleans_fl cl_eI,cleans_fl cl_C_52]
theorem nr_B_55:∀ x,noRefs (B_55 x)=true:=fun x=>by simp only [B_55,noRefs,AV.noRef,Bool.and_self,noRefs_fl nr_eI,noRefs_fl nr_C_52]
def B_41 (x:DHost):List AV:=[bo (eI .i64) x.Words,bo B_55 x.Guests]
theorem cl_B_41:∀ x,cleans (B_41 x)=true:=fun x=>by simp only [B_41,cleans,AV.clean,Bool.and_self,cleans_fl cl_eI,cleans_fl cl_B_55]
theorem nr_B_41:∀ x,noRefs (B_41 x)=true:=fun x=>by simp only [B_41,noRefs,AV.noRef,Bool.and_self,noRefs_fl nr_eI,noRefs_fl nr_B_55]
def C_177 (x:DSlot):List AV:=[.int .i64 x.Frame,.bool x.Write,.bool x.Dirty]
theorem len_C_177:∀ x,(C_177 x).length=3:=fun _=>rfl
theorem cl_C_177:∀ x,cleans (C_177 x)=true:=fun _=>rfl
theorem nr_C_177:∀ x,noRefs (C_177 x)=true:=fun _=>rfl
theorem nb_C_177:∀ x,noBors (C_177 x)=true:=fun _=>rfl
def B_157 (x:DGuest):List AV:=[.bool x.Live,bo (eI .i64) x.C.Regs,.int .i64 x.C.Pc,.int .i64 x.C.Root,.int .i64 x.C.Vector,.int .i64 x.C.Saved,.bool x.C.SavedUser,.int .i64 x.C.Cause,.int .i64 x.C.Bad,.int .i64 x.C.Timer,.bool x.C.Waits,.bool x.C.User,.bool x.C.On,.bool x.C.Stopped,bo C_177 x.Pages,bo (eI .i64) x.In,bo (eI .i64) x.Out]
theorem len_B_157:∀ x,(B_157 x).length=17:=fun _=>rfl
theorem cl_B_157:∀ x,cleans (B_157 x)=true:=fun x=>by simp only [B_157,cleans,AV.clean,Bool.and_self,cleans_fl cl_eI,cleans_fl cl_C_177]
theorem nr_B_157:∀ x,noRefs (B_157 x)=true:=fun x=>by simp only [B_157,noRefs,AV.noRef,Bool.and_self,noRefs_fl nr_eI,noRefs_fl nr_C_177]
def O_55 (x:DGuest):List AV:=[.bool x.Live,.own 3 1 (List.length x.C.Regs) (fl (eI .i64) x.C.Regs),.int .i64 x.C.Pc,.int .i64 x.C.Root,.int .i64 x.C.Vector,.int .i64 x.C.Saved,.bool x.C.SavedUser,.int .i64 x.C.Cause,.int .i64 x.C.Bad,.int .i64 x.C.Timer,.bool x.C.Waits,.bool x.C.User,.bool x.C.On,.bool x.C.Stopped,.own 52 3 (List.length x.Pages) (fl C_52 x.Pages),.own 3 1 (List.length x.In) (fl (eI .i64) x.In),.own 3 1 (List.length x.Out) (fl (eI .i64) x.Out)]
theorem len_O_55:∀ x,(O_55 x).length=17:=fun _=>rfl
theorem nr_O_55:∀ x,noRefs (O_55 x)=true:=fun x=>by simp only [O_55,noRefs,AV.noRef,Bool.and_self,noRefs_fl nr_eI,noRefs_fl nr_C_52]
theorem nb_O_55:∀ x,noBors (O_55 x)=true:=fun x=>by simp only [O_55,noBors,AV.noBor,Bool.and_self,noBors_fl nb_eI,noBors_fl nb_C_52]
theorem oc_O_55:CloEnc O_55 B_55:=fun x H r π j h=>(clos_c (clo_same rfl) (clos_c (clo_own (e:=3) rfl len_eI no_eI cl_eI (h 1 _ rfl)) (clos_c (clo_same rfl) (clos_c (clo_same rfl) (clos_c (clo_same rfl) (clos_c (clo_same rfl) (clos_c (clo_same rfl) (clos_c (clo_same rfl) (clos_c (clo_same rfl) (clos_c (clo_same rfl) (clos_c (clo_same rfl) (clos_c (clo_same rfl) (clos_c (clo_same rfl) (clos_c (clo_same rfl) (clos_c (clo_own (e:=52) rfl len_C_52 no_C_52 cl_C_52 (h 14 _ rfl)) (clos_c (clo_own (e:=3) rfl len_eI no_eI cl_eI (h 15 _ rfl)) (clos_c (clo_own (e:=3) rfl len_eI no_eI cl_eI (h 16 _ rfl)) clos_n)))))))))))))))))
def C_147 (x:DShade):List AV:=[.bool x.There,.bool x.Write,.bool x.User,.int .i64 x.Page,.int .i64 x.Frame,.bool x.Ready]
theorem cl_C_147:∀ x,cleans (C_147 x)=true:=fun _=>rfl
theorem nr_C_147:∀ x,noRefs (C_147 x)=true:=fun _=>rfl
theorem nb_C_147:∀ x,noBors (C_147 x)=true:=fun _=>rfl
def C_102 (x:DEntry):List AV:=[.bool x.There,.bool x.Write,.bool x.User,.int .i64 x.Page]
theorem cl_C_102:∀ x,cleans (C_102 x)=true:=fun _=>rfl
theorem nr_C_102:∀ x,noRefs (C_102 x)=true:=fun _=>rfl
theorem nb_C_102:∀ x,noBors (C_102 x)=true:=fun _=>rfl
def C_45 (x:DIns):List AV:=[.int .i64 x.Op,.int .i64 x.A,.int .i64 x.N]
theorem cl_C_45:∀ x,cleans (C_45 x)=true:=fun _=>rfl
theorem nr_C_45:∀ x,noRefs (C_45 x)=true:=fun _=>rfl
theorem nb_C_45:∀ x,noBors (C_45 x)=true:=fun _=>rfl
def C_47 (x:DExit):List AV:=[.int .i64 x.Why,.int .i64 x.Page,.int .i64 x.What.Op,.int .i64 x.What.A,.int .i64 x.What.N]
theorem cl_C_47:∀ x,cleans (C_47 x)=true:=fun _=>rfl
theorem nr_C_47:∀ x,noRefs (C_47 x)=true:=fun _=>rfl
theorem nb_C_47:∀ x,noBors (C_47 x)=true:=fun _=>rfl
def B_134 (x:Dl20Rd):List AV:=[bo (eI .u8) x.b,.int .i64 x.p]
theorem cl_B_134:∀ x,cleans (B_134 x)=true:=fun x=>by simp only [B_134,cleans,AV.clean,Bool.and_self,cleans_fl cl_eI]
theorem nr_B_134:∀ x,noRefs (B_134 x)=true:=fun x=>by simp only [B_134,noRefs,AV.noRef,Bool.and_self,noRefs_fl nr_eI]
def ru25 (x:DCore) (us:List AV):List AV:=.int .i64 x.Pc :: .int .i64 x.Root :: .int .i64 x.Vector :: .int .i64 x.Saved :: .bool x.SavedUser :: .int .i64 x.Cause :: .int .i64 x.Bad :: .int .i64 x.Timer :: .bool x.Waits :: .bool x.User :: .bool x.On :: .bool x.Stopped::us
def zru25 (us:List AV):List AV:=.int .i64 (0:Int) :: .int .i64 (0:Int) :: .int .i64 (0:Int) :: .int .i64 (0:Int) :: .bool false :: .int .i64 (0:Int) :: .int .i64 (0:Int) :: .int .i64 (0:Int) :: .bool false :: .bool false :: .bool false :: .bool false::us
def ru147 (x:DShade) (us:List AV):List AV:=.bool x.There :: .bool x.Write :: .bool x.User :: .int .i64 x.Page :: .int .i64 x.Frame :: .bool x.Ready::us
def zru147 (us:List AV):List AV:=.bool false :: .bool false :: .bool false :: .int .i64 (0:Int) :: .int .i64 (0:Int) :: .bool false::us
def ru102 (x:DEntry) (us:List AV):List AV:=.bool x.There :: .bool x.Write :: .bool x.User :: .int .i64 x.Page::us
def zru102 (us:List AV):List AV:=.bool false :: .bool false :: .bool false :: .int .i64 (0:Int)::us
theorem rz {ρ:Nat→Option Nat} {n:Nat} {vs us:List AV} (h:Rens ρ n vs us:=by repeat first | exact rens_n | refine rens_i ?_ | refine rens_b ?_ | refine rens_c ren_nil ?_ | refine rens_c (ren_agg ?_) ?_ | refine rens_c (ren_p dd rfl) ?_ | refine rens_c ren_sy ?_ | refine rens_c (ren_s0 dd rfl rfl) ?_ | refine rens_c (ren_bor (rens_same (noRefs_fl nr_B_134))) ?_ | refine rens_c (ren_bor (rens_same (noRefs_fl nr_B_157))) ?_ | refine rens_c (ren_bor (rens_same (noRefs_fl nr_B_25))) ?_ | refine rens_c (ren_bor (rens_same (noRefs_fl nr_B_27))) ?_ | refine rens_c (ren_bor (rens_same (noRefs_fl nr_B_41))) ?_ | refine rens_c (ren_bor (rens_same (noRefs_fl nr_B_55))) ?_ | refine rens_c (ren_bor (rens_same (noRefs_fl nr_C_102))) ?_ | refine rens_c (ren_bor (rens_same (noRefs_fl nr_C_147))) ?_ | refine rens_c (ren_bor (rens_same (noRefs_fl nr_C_177))) ?_ | refine rens_c (ren_bor (rens_same (noRefs_fl nr_C_45))) ?_ | refine rens_c (ren_bor (rens_same (noRefs_fl nr_C_47))) ?_ | refine rens_c (ren_bor (rens_same (noRefs_fl nr_C_52))) ?_ | refine rens_c (ren_bor (rens_same (noRefs_fl nr_O_55))) ?_ | refine rens_c (ren_bor (rens_same (noRefs_fl nr_eI))) ?_ | refine rens_c (ren_bor (rens_same (noRefs_fl nr_eB))) ?_ ):Rens ρ n vs us:=h
theorem cz {H:Heap} {vs us:List AV} (h:Clos H vs us:=by repeat first | exact clos_n | refine cs1 ?_ | refine clos_c (clo_same (clean_bor (cleans_fl cl_B_134))) ?_ | refine clos_c (clo_same (clean_bor (cleans_fl cl_B_157))) ?_ | refine clos_c (clo_same (clean_bor (cleans_fl cl_B_25))) ?_ | refine clos_c (clo_same (clean_bor (cleans_fl cl_B_27))) ?_ | refine clos_c (clo_same (clean_bor (cleans_fl cl_B_41))) ?_ | refine clos_c (clo_same (clean_bor (cleans_fl cl_B_55))) ?_ | refine clos_c (clo_same (clean_bor (cleans_fl cl_C_102))) ?_ | refine clos_c (clo_same (clean_bor (cleans_fl cl_C_147))) ?_ | refine clos_c (clo_same (clean_bor (cleans_fl cl_C_177))) ?_ | refine clos_c (clo_same (clean_bor (cleans_fl cl_C_45))) ?_ | refine clos_c (clo_same (clean_bor (cleans_fl cl_C_47))) ?_ | refine clos_c (clo_same (clean_bor (cleans_fl cl_C_52))) ?_ | refine clos_c (clo_same (clean_bor (cleans_fl cl_eI))) ?_ | refine clos_c (clo_same (clean_bor (cleans_fl cl_eB))) ?_ ):Clos H vs us:=h
theorem nrr {p:Prop} (h:p:=by simp only [ru102,ru147,ru25,zru102,zru147,zru25,AV.noRef,noRefs,AV.noBor,noBors,Bool.and_self,noRefs_fl nr_B_134,noRefs_fl nr_B_157,noRefs_fl nr_B_25,noRefs_fl nr_B_27,noRefs_fl nr_B_41,noRefs_fl nr_B_55,noRefs_fl nr_C_102,noRefs_fl nr_C_147,noRefs_fl nr_C_177,noRefs_fl nr_C_45,noRefs_fl nr_C_47,noRefs_fl nr_C_52,noRefs_fl nr_O_55,noRefs_fl nr_eI,noRefs_fl nr_eB,nr_B_134,nr_B_157,nr_B_25,nr_B_27,nr_B_41,nr_B_55,nr_C_102,nr_C_147,nr_C_177,nr_C_45,nr_C_47,nr_C_52,nr_O_55,noBors_fl nb_C_102,noBors_fl nb_C_147,noBors_fl nb_C_177,noBors_fl nb_C_45,noBors_fl nb_C_47,noBors_fl nb_C_52,noBors_fl nb_O_55,noBors_fl nb_eI,noBors_fl nb_eB,nb_C_102,nb_C_147,nb_C_177,nb_C_45,nb_C_47,nb_C_52,nb_O_55]):p:=h
abbrev zc2:List AV:=[(bb false),.nil,(ii 0),(ii 0),(ii 0),(ii 0),(bb false),(ii 0),(ii 0),(ii 0),(bb false),(bb false),(bb false),(bb false),.nil,.nil,.nil]
abbrev rB25 (x:DCore):Root:=⟨25,B_25 x⟩
abbrev rB27 (x:DBare):Root:=⟨27,B_27 x⟩
abbrev rI_3 (x:List Int):Root:=⟨3,fl (eI .i64) x⟩
abbrev rB25_65 (x:DCore):Root:=⟨65,B_25 x⟩
abbrev rB55 (x:DGuest):Root:=⟨55,B_55 x⟩
abbrev rB41 (x:DHost):Root:=⟨41,B_41 x⟩
abbrev rT_4 (x:List Bool):Root:=⟨4,fl eB x⟩
abbrev rC52 (x:List DSlot):Root:=⟨52,fl C_52 x⟩
abbrev rB157 (x:DGuest):Root:=⟨157,B_157 x⟩
abbrev rO55 (x:List DGuest):Root:=⟨55,fl O_55 x⟩
end Go.Proofs.Ytbanbjdcgdmkaaa
