/- The types of the plain functions. Made by program. -/
import Derived.Test.YtlikfpmbcdlnjaaZY
namespace Go.Proofs.Ytlikfpmbcdlnjaa
open Go.RowKit
set_option maxRecDepth 100000
set_option linter.all false
set_option maxHeartbeats 0
structure DCore where
 Regs:List Int
 Pc:Int
 Root:Int
 Vector:Int
 Saved:Int
 SavedUser:Bool
 Cause:Int
 Bad:Int
 Timer:Int
 Waits:Bool
 User:Bool
 On:Bool
 Stopped:Bool
deriving Inhabited
structure DSlot where
 Frame:Int
 Write:Bool
 Dirty:Bool
deriving Inhabited
structure DGuest where
 Live:Bool
 C:DCore
 Pages:List DSlot
 In:List Int
 Out:List Int
deriving Inhabited
structure DHost where
 Words:List Int
 Guests:List DGuest
deriving Inhabited
structure DBare where
 C:DCore
 Mem:List Int
 In:List Int
 Out:List Int
deriving Inhabited
structure DShade where
 There:Bool
 Write:Bool
 User:Bool
 Page:Int
 Frame:Int
 Ready:Bool
deriving Inhabited
structure DEntry where
 There:Bool
 Write:Bool
 User:Bool
 Page:Int
deriving Inhabited
structure Dl20Rd where
 b:List Int
 p:Int
deriving Inhabited
structure DIns where
 Op:Int
 A:Int
 N:Int
deriving Inhabited
def B_30 (x:DBare):List AV:=[bo (eI .i64) x.C.Regs,.int .i64 x.C.Pc,.int .i64 x.C.Root,.int .i64 x.C.Vector,.int .i64 x.C.Saved,.bool x.C.SavedUser,.int .i64 x.C.Cause,.int .i64 x.C.Bad,.int .i64 x.C.Timer,.bool x.C.Waits,.bool x.C.User,.bool x.C.On,.bool x.C.Stopped,bo (eI .i64) x.Mem,bo (eI .i64) x.In,bo (eI .i64) x.Out]
theorem cl_B_30:∀ x,cleans (B_30 x)=true:=fun x=>by simp only [B_30,cleans,AV.clean,Bool.and_self,cleans_fl cl_eI]
theorem nr_B_30:∀ x,noRefs (B_30 x)=true:=fun x=>by simp only [B_30,noRefs,AV.noRef,Bool.and_self,noRefs_fl nr_eI]
def B_28 (x:DCore):List AV:=[bo (eI .i64) x.Regs,.int .i64 x.Pc,.int .i64 x.Root,.int .i64 x.Vector,.int .i64 x.Saved,.bool x.SavedUser,.int .i64 x.Cause,.int .i64 x.Bad,.int .i64 x.Timer,.bool x.Waits,.bool x.User,.bool x.On,.bool x.Stopped]
theorem cl_B_28:∀ x,cleans (B_28 x)=true:=fun x=>by simp only [B_28,cleans,AV.clean,Bool.and_self,cleans_fl cl_eI]
theorem nr_B_28:∀ x,noRefs (B_28 x)=true:=fun x=>by simp only [B_28,noRefs,AV.noRef,Bool.and_self,noRefs_fl nr_eI]
def C_50 (x:DSlot):List AV:=[.int .i64 x.Frame,.bool x.Write,.bool x.Dirty]
theorem len_C_50:∀ x,(C_50 x).length=3:=fun _=>rfl
theorem no_C_50:∀ x,noOwn (C_50 x)=true:=fun _=>rfl
theorem cl_C_50:∀ x,cleans (C_50 x)=true:=fun _=>rfl
theorem nr_C_50:∀ x,noRefs (C_50 x)=true:=fun _=>rfl
theorem nb_C_50:∀ x,noBors (C_50 x)=true:=fun _=>rfl
def B_53 (x:DGuest):List AV:=[.bool x.Live,bo (eI .i64) x.C.Regs,.int .i64 x.C.Pc,.int .i64 x.C.Root,.int .i64 x.C.Vector,.int .i64 x.C.Saved,.bool x.C.SavedUser,.int .i64 x.C.Cause,.int .i64 x.C.Bad,.int .i64 x.C.Timer,.bool x.C.Waits,.bool x.C.User,.bool x.C.On,.bool x.C.Stopped,bo C_50 x.Pages,bo (eI .i64) x.In,bo (eI .i64) x.Out]
theorem len_B_53:∀ x,(B_53 x).length=17:=fun _=>rfl
theorem cl_B_53:∀ x,cleans (B_53 x)=true:=fun x=>by simp only [B_53,cleans,AV.clean,Bool.and_self,cleans_fl cl_eI,cleans_fl cl_C_50]
theorem nr_B_53:∀ x,noRefs (B_53 x)=true:=fun x=>by simp only [B_53,noRefs,AV.noRef,Bool.and_self,noRefs_fl nr_eI,noRefs_fl nr_C_50]
def B_26 (x:DHost):List AV:=[bo (eI .i64) x.Words,bo B_53 x.Guests]
theorem cl_B_26:∀ x,cleans (B_26 x)=true:=fun x=>by simp only [B_26,cleans,AV.clean,Bool.and_self,cleans_fl cl_eI,cleans_fl cl_B_53]
theorem nr_B_26:∀ x,noRefs (B_26 x)=true:=fun x=>by simp only [B_26,noRefs,AV.noRef,Bool.and_self,noRefs_fl nr_eI,noRefs_fl nr_B_53]
def C_165 (x:DSlot):List AV:=[.int .i64 x.Frame,.bool x.Write,.bool x.Dirty]
theorem len_C_165:∀ x,(C_165 x).length=3:=fun _=>rfl
theorem cl_C_165:∀ x,cleans (C_165 x)=true:=fun _=>rfl
theorem nr_C_165:∀ x,noRefs (C_165 x)=true:=fun _=>rfl
def B_149 (x:DGuest):List AV:=[.bool x.Live,bo (eI .i64) x.C.Regs,.int .i64 x.C.Pc,.int .i64 x.C.Root,.int .i64 x.C.Vector,.int .i64 x.C.Saved,.bool x.C.SavedUser,.int .i64 x.C.Cause,.int .i64 x.C.Bad,.int .i64 x.C.Timer,.bool x.C.Waits,.bool x.C.User,.bool x.C.On,.bool x.C.Stopped,bo C_165 x.Pages,bo (eI .i64) x.In,bo (eI .i64) x.Out]
theorem len_B_149:∀ x,(B_149 x).length=17:=fun _=>rfl
theorem cl_B_149:∀ x,cleans (B_149 x)=true:=fun x=>by simp only [B_149,cleans,AV.clean,Bool.and_self,cleans_fl cl_eI,cleans_fl cl_C_165]
theorem nr_B_149:∀ x,noRefs (B_149 x)=true:=fun x=>by simp only [B_149,noRefs,AV.noRef,Bool.and_self,noRefs_fl nr_eI,noRefs_fl nr_C_165]
def O_53 (x:DGuest):List AV:=[.bool x.Live,.own 3 1 (List.length x.C.Regs) (fl (eI .i64) x.C.Regs),.int .i64 x.C.Pc,.int .i64 x.C.Root,.int .i64 x.C.Vector,.int .i64 x.C.Saved,.bool x.C.SavedUser,.int .i64 x.C.Cause,.int .i64 x.C.Bad,.int .i64 x.C.Timer,.bool x.C.Waits,.bool x.C.User,.bool x.C.On,.bool x.C.Stopped,.own 50 3 (List.length x.Pages) (fl C_50 x.Pages),.own 3 1 (List.length x.In) (fl (eI .i64) x.In),.own 3 1 (List.length x.Out) (fl (eI .i64) x.Out)]
theorem len_O_53:∀ x,(O_53 x).length=17:=fun _=>rfl
theorem nr_O_53:∀ x,noRefs (O_53 x)=true:=fun x=>by simp only [O_53,noRefs,AV.noRef,Bool.and_self,noRefs_fl nr_eI,noRefs_fl nr_C_50]
theorem nb_O_53:∀ x,noBors (O_53 x)=true:=fun x=>by simp only [O_53,noBors,AV.noBor,Bool.and_self,noBors_fl nb_eI,noBors_fl nb_C_50]
theorem oc_O_53:CloEnc O_53 B_53:=fun x H r π j h=>(clos_c (clo_same rfl) (clos_c (clo_own (e:=3) rfl len_eI no_eI cl_eI (h 1 _ rfl)) (clos_c (clo_same rfl) (clos_c (clo_same rfl) (clos_c (clo_same rfl) (clos_c (clo_same rfl) (clos_c (clo_same rfl) (clos_c (clo_same rfl) (clos_c (clo_same rfl) (clos_c (clo_same rfl) (clos_c (clo_same rfl) (clos_c (clo_same rfl) (clos_c (clo_same rfl) (clos_c (clo_same rfl) (clos_c (clo_own (e:=50) rfl len_C_50 no_C_50 cl_C_50 (h 14 _ rfl)) (clos_c (clo_own (e:=3) rfl len_eI no_eI cl_eI (h 15 _ rfl)) (clos_c (clo_own (e:=3) rfl len_eI no_eI cl_eI (h 16 _ rfl)) clos_n)))))))))))))))))
def C_48 (x:DShade):List AV:=[.bool x.There,.bool x.Write,.bool x.User,.int .i64 x.Page,.int .i64 x.Frame,.bool x.Ready]
theorem cl_C_48:∀ x,cleans (C_48 x)=true:=fun _=>rfl
theorem nr_C_48:∀ x,noRefs (C_48 x)=true:=fun _=>rfl
def C_111 (x:DEntry):List AV:=[.bool x.There,.bool x.Write,.bool x.User,.int .i64 x.Page]
theorem cl_C_111:∀ x,cleans (C_111 x)=true:=fun _=>rfl
theorem nr_C_111:∀ x,noRefs (C_111 x)=true:=fun _=>rfl
def C_154 (x:DIns):List AV:=[.int .i64 x.Op,.int .i64 x.A,.int .i64 x.N]
theorem cl_C_154:∀ x,cleans (C_154 x)=true:=fun _=>rfl
theorem nr_C_154:∀ x,noRefs (C_154 x)=true:=fun _=>rfl
def B_135 (x:Dl20Rd):List AV:=[bo (eI .u8) x.b,.int .i64 x.p]
theorem cl_B_135:∀ x,cleans (B_135 x)=true:=fun x=>by simp only [B_135,cleans,AV.clean,Bool.and_self,cleans_fl cl_eI]
theorem nr_B_135:∀ x,noRefs (B_135 x)=true:=fun x=>by simp only [B_135,noRefs,AV.noRef,Bool.and_self,noRefs_fl nr_eI]
def ru28 (x:DCore) (us:List AV):List AV:=.int .i64 x.Pc :: .int .i64 x.Root :: .int .i64 x.Vector :: .int .i64 x.Saved :: .bool x.SavedUser :: .int .i64 x.Cause :: .int .i64 x.Bad :: .int .i64 x.Timer :: .bool x.Waits :: .bool x.User :: .bool x.On :: .bool x.Stopped::us
def zru28 (us:List AV):List AV:=.int .i64 (0:Int) :: .int .i64 (0:Int) :: .int .i64 (0:Int) :: .int .i64 (0:Int) :: .bool false :: .int .i64 (0:Int) :: .int .i64 (0:Int) :: .int .i64 (0:Int) :: .bool false :: .bool false :: .bool false :: .bool false::us
theorem rz {ρ:Nat→Option Nat} {n:Nat} {vs us:List AV} (h:Rens ρ n vs us:=by repeat first | exact rens_n | refine rens_i ?_ | refine rens_b ?_ | refine rens_c ren_nil ?_ | refine rens_c (ren_agg ?_) ?_ | refine rens_c (ren_p dd rfl) ?_ | refine rens_c ren_sy ?_ | refine rens_c (ren_s0 dd rfl rfl) ?_ | refine rens_c (ren_bor (rens_same (noRefs_fl nr_B_135))) ?_ | refine rens_c (ren_bor (rens_same (noRefs_fl nr_B_149))) ?_ | refine rens_c (ren_bor (rens_same (noRefs_fl nr_B_26))) ?_ | refine rens_c (ren_bor (rens_same (noRefs_fl nr_B_28))) ?_ | refine rens_c (ren_bor (rens_same (noRefs_fl nr_B_30))) ?_ | refine rens_c (ren_bor (rens_same (noRefs_fl nr_B_53))) ?_ | refine rens_c (ren_bor (rens_same (noRefs_fl nr_C_111))) ?_ | refine rens_c (ren_bor (rens_same (noRefs_fl nr_C_154))) ?_ | refine rens_c (ren_bor (rens_same (noRefs_fl nr_C_165))) ?_ | refine rens_c (ren_bor (rens_same (noRefs_fl nr_C_48))) ?_ | refine rens_c (ren_bor (rens_same (noRefs_fl nr_C_50))) ?_ | refine rens_c (ren_bor (rens_same (noRefs_fl nr_O_53))) ?_ | refine rens_c (ren_bor (rens_same (noRefs_fl nr_eI))) ?_ | refine rens_c (ren_bor (rens_same (noRefs_fl nr_eB))) ?_ ):Rens ρ n vs us:=h
theorem cz {H:Heap} {vs us:List AV} (h:Clos H vs us:=by repeat first | exact clos_n | refine cs1 ?_ | refine clos_c (clo_same (clean_bor (cleans_fl cl_B_135))) ?_ | refine clos_c (clo_same (clean_bor (cleans_fl cl_B_149))) ?_ | refine clos_c (clo_same (clean_bor (cleans_fl cl_B_26))) ?_ | refine clos_c (clo_same (clean_bor (cleans_fl cl_B_28))) ?_ | refine clos_c (clo_same (clean_bor (cleans_fl cl_B_30))) ?_ | refine clos_c (clo_same (clean_bor (cleans_fl cl_B_53))) ?_ | refine clos_c (clo_same (clean_bor (cleans_fl cl_C_111))) ?_ | refine clos_c (clo_same (clean_bor (cleans_fl cl_C_154))) ?_ | refine clos_c (clo_same (clean_bor (cleans_fl cl_C_165))) ?_ | refine clos_c (clo_same (clean_bor (cleans_fl cl_C_48))) ?_ | refine clos_c (clo_same (clean_bor (cleans_fl cl_C_50))) ?_ | refine clos_c (clo_same (clean_bor (cleans_fl cl_eI))) ?_ | refine clos_c (clo_same (clean_bor (cleans_fl cl_eB))) ?_ ):Clos H vs us:=h
abbrev zc0:List AV:=[.nil,(ii 0),(ii 0),(ii 0),(ii 0),(bb false),(ii 0),(ii 0),(ii 0),(bb false),(bb false),(bb false),(bb false)]
abbrev zc1:List AV:=[.nil,(ii 0),(ii 0),(ii 0),(ii 0),(bb false),(ii 0),(ii 0),(ii 0),(bb false),(bb false),(bb false),(bb false),.nil,.nil,.nil]
abbrev zc2:List AV:=[(bb false),.nil,(ii 0),(ii 0),(ii 0),(ii 0),(bb false),(ii 0),(ii 0),(ii 0),(bb false),(bb false),(bb false),(bb false),.nil,.nil,.nil]
end Go.Proofs.Ytlikfpmbcdlnjaa
