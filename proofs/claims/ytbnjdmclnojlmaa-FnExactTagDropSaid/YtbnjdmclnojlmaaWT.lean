/- The types of the plain functions. Made by program. -/
import Derived.Test.YtbnjdmclnojlmaaZ5
import Derived.Test.YtbnjdmclnojlmaaProg
namespace Go.Proofs.Ytbnjdmclnojlmaa
open Go.RowKit
set_option maxRecDepth 100000
set_option linter.all false
set_option maxHeartbeats 0
noncomputable def rg := rgOf Try.prog
abbrev LW (k : Nat) (L : LFun) : Prop := lowFun Try.prog k = some L
structure DCore where
 Regs : List Int
 Pc : Int
 Root : Int
 Vector : Int
 Saved : Int
 SavedUser : Bool
 Cause : Int
 Bad : Int
 Timer : Int
 Waits : Bool
 User : Bool
 On : Bool
 Stopped : Bool
deriving Inhabited
structure DSlot where
 Frame : Int
 Write : Bool
 Dirty : Bool
deriving Inhabited
structure DGuest where
 Live : Bool
 C : DCore
 Pages : List DSlot
 In : List Int
 Out : List Int
deriving Inhabited
structure DHost where
 Words : List Int
 Guests : List DGuest
deriving Inhabited
structure DShade where
 There : Bool
 Write : Bool
 User : Bool
 Page : Int
 Frame : Int
 Ready : Bool
deriving Inhabited
structure DLine where
 Tag : Int
 At : Int
 What : DShade
deriving Inhabited
structure Dl20Rd where
 b : List Int
 p : Int
deriving Inhabited
structure DBare where
 C : DCore
 Mem : List Int
 In : List Int
 Out : List Int
deriving Inhabited
structure DEntry where
 There : Bool
 Write : Bool
 User : Bool
 Page : Int
deriving Inhabited
structure DIns where
 Op : Int
 A : Int
 N : Int
deriving Inhabited
def B_102 (x : DBare) : List AV := [bo (eI .i64) x.C.Regs, .int .i64 x.C.Pc, .int .i64 x.C.Root, .int .i64 x.C.Vector, .int .i64 x.C.Saved, .bool x.C.SavedUser, .int .i64 x.C.Cause, .int .i64 x.C.Bad, .int .i64 x.C.Timer, .bool x.C.Waits, .bool x.C.User, .bool x.C.On, .bool x.C.Stopped, bo (eI .i64) x.Mem, bo (eI .i64) x.In, bo (eI .i64) x.Out]
theorem cl_B_102 : ∀ x, cleans (B_102 x) = true := fun x => by simp only [B_102, cleans, AV.clean, Bool.and_self, cleans_fl cl_eI]
theorem nr_B_102 : ∀ x, noRefs (B_102 x) = true := fun x => by simp only [B_102, noRefs, AV.noRef, Bool.and_self, noRefs_fl nr_eI]
def B_100 (x : DCore) : List AV := [bo (eI .i64) x.Regs, .int .i64 x.Pc, .int .i64 x.Root, .int .i64 x.Vector, .int .i64 x.Saved, .bool x.SavedUser, .int .i64 x.Cause, .int .i64 x.Bad, .int .i64 x.Timer, .bool x.Waits, .bool x.User, .bool x.On, .bool x.Stopped]
theorem cl_B_100 : ∀ x, cleans (B_100 x) = true := fun x => by simp only [B_100, cleans, AV.clean, Bool.and_self, cleans_fl cl_eI]
theorem nr_B_100 : ∀ x, noRefs (B_100 x) = true := fun x => by simp only [B_100, noRefs, AV.noRef, Bool.and_self, noRefs_fl nr_eI]
def C_110 (x : DSlot) : List AV := [.int .i64 x.Frame, .bool x.Write, .bool x.Dirty]
theorem len_C_110 : ∀ x, (C_110 x).length = 3 := fun _ => rfl
theorem no_C_110 : ∀ x, noOwn (C_110 x) = true := fun _ => rfl
theorem cl_C_110 : ∀ x, cleans (C_110 x) = true := fun _ => rfl
theorem nr_C_110 : ∀ x, noRefs (C_110 x) = true := fun _ => rfl
theorem nb_C_110 : ∀ x, noBors (C_110 x) = true := fun _ => rfl
def B_108 (x : DGuest) : List AV := [.bool x.Live, bo (eI .i64) x.C.Regs, .int .i64 x.C.Pc, .int .i64 x.C.Root, .int .i64 x.C.Vector, .int .i64 x.C.Saved, .bool x.C.SavedUser, .int .i64 x.C.Cause, .int .i64 x.C.Bad, .int .i64 x.C.Timer, .bool x.C.Waits, .bool x.C.User, .bool x.C.On, .bool x.C.Stopped, bo C_110 x.Pages, bo (eI .i64) x.In, bo (eI .i64) x.Out]
theorem len_B_108 : ∀ x, (B_108 x).length = 17 := fun _ => rfl
theorem cl_B_108 : ∀ x, cleans (B_108 x) = true := fun x => by simp only [B_108, cleans, AV.clean, Bool.and_self, cleans_fl cl_eI, cleans_fl cl_C_110]
theorem nr_B_108 : ∀ x, noRefs (B_108 x) = true := fun x => by simp only [B_108, noRefs, AV.noRef, Bool.and_self, noRefs_fl nr_eI, noRefs_fl nr_C_110]
def B_26 (x : DHost) : List AV := [bo (eI .i64) x.Words, bo B_108 x.Guests]
theorem cl_B_26 : ∀ x, cleans (B_26 x) = true := fun x => by simp only [B_26, cleans, AV.clean, Bool.and_self, cleans_fl cl_eI, cleans_fl cl_B_108]
theorem nr_B_26 : ∀ x, noRefs (B_26 x) = true := fun x => by simp only [B_26, noRefs, AV.noRef, Bool.and_self, noRefs_fl nr_eI, noRefs_fl nr_B_108]
def C_156 (x : DSlot) : List AV := [.int .i64 x.Frame, .bool x.Write, .bool x.Dirty]
theorem len_C_156 : ∀ x, (C_156 x).length = 3 := fun _ => rfl
theorem cl_C_156 : ∀ x, cleans (C_156 x) = true := fun _ => rfl
theorem nr_C_156 : ∀ x, noRefs (C_156 x) = true := fun _ => rfl
theorem nb_C_156 : ∀ x, noBors (C_156 x) = true := fun _ => rfl
def B_126 (x : DGuest) : List AV := [.bool x.Live, bo (eI .i64) x.C.Regs, .int .i64 x.C.Pc, .int .i64 x.C.Root, .int .i64 x.C.Vector, .int .i64 x.C.Saved, .bool x.C.SavedUser, .int .i64 x.C.Cause, .int .i64 x.C.Bad, .int .i64 x.C.Timer, .bool x.C.Waits, .bool x.C.User, .bool x.C.On, .bool x.C.Stopped, bo C_156 x.Pages, bo (eI .i64) x.In, bo (eI .i64) x.Out]
theorem len_B_126 : ∀ x, (B_126 x).length = 17 := fun _ => rfl
theorem cl_B_126 : ∀ x, cleans (B_126 x) = true := fun x => by simp only [B_126, cleans, AV.clean, Bool.and_self, cleans_fl cl_eI, cleans_fl cl_C_156]
theorem nr_B_126 : ∀ x, noRefs (B_126 x) = true := fun x => by simp only [B_126, noRefs, AV.noRef, Bool.and_self, noRefs_fl nr_eI, noRefs_fl nr_C_156]
def O_108 (x : DGuest) : List AV := [.bool x.Live, .own 3 1 (List.length x.C.Regs) (fl (eI .i64) x.C.Regs), .int .i64 x.C.Pc, .int .i64 x.C.Root, .int .i64 x.C.Vector, .int .i64 x.C.Saved, .bool x.C.SavedUser, .int .i64 x.C.Cause, .int .i64 x.C.Bad, .int .i64 x.C.Timer, .bool x.C.Waits, .bool x.C.User, .bool x.C.On, .bool x.C.Stopped, .own 110 3 (List.length x.Pages) (fl C_110 x.Pages), .own 3 1 (List.length x.In) (fl (eI .i64) x.In), .own 3 1 (List.length x.Out) (fl (eI .i64) x.Out)]
theorem len_O_108 : ∀ x, (O_108 x).length = 17 := fun _ => rfl
theorem nr_O_108 : ∀ x, noRefs (O_108 x) = true := fun x => by simp only [O_108, noRefs, AV.noRef, Bool.and_self, noRefs_fl nr_eI, noRefs_fl nr_C_110]
theorem nb_O_108 : ∀ x, noBors (O_108 x) = true := fun x => by simp only [O_108, noBors, AV.noBor, Bool.and_self, noBors_fl nb_eI, noBors_fl nb_C_110]
theorem oc_O_108 : CloEnc O_108 B_108 := fun x H r π j h => (clos_c (clo_same rfl) (clos_c (clo_own (e := 3) rfl len_eI no_eI cl_eI (h 1 _ rfl)) (clos_c (clo_same rfl) (clos_c (clo_same rfl) (clos_c (clo_same rfl) (clos_c (clo_same rfl) (clos_c (clo_same rfl) (clos_c (clo_same rfl) (clos_c (clo_same rfl) (clos_c (clo_same rfl) (clos_c (clo_same rfl) (clos_c (clo_same rfl) (clos_c (clo_same rfl) (clos_c (clo_same rfl) (clos_c (clo_own (e := 110) rfl len_C_110 no_C_110 cl_C_110 (h 14 _ rfl)) (clos_c (clo_own (e := 3) rfl len_eI no_eI cl_eI (h 15 _ rfl)) (clos_c (clo_own (e := 3) rfl len_eI no_eI cl_eI (h 16 _ rfl)) clos_n)))))))))))))))))
def C_45 (x : DShade) : List AV := [.bool x.There, .bool x.Write, .bool x.User, .int .i64 x.Page, .int .i64 x.Frame, .bool x.Ready]
theorem len_C_45 : ∀ x, (C_45 x).length = 6 := fun _ => rfl
theorem no_C_45 : ∀ x, noOwn (C_45 x) = true := fun _ => rfl
theorem cl_C_45 : ∀ x, cleans (C_45 x) = true := fun _ => rfl
theorem nr_C_45 : ∀ x, noRefs (C_45 x) = true := fun _ => rfl
theorem nb_C_45 : ∀ x, noBors (C_45 x) = true := fun _ => rfl
def C_116 (x : DEntry) : List AV := [.bool x.There, .bool x.Write, .bool x.User, .int .i64 x.Page]
theorem cl_C_116 : ∀ x, cleans (C_116 x) = true := fun _ => rfl
theorem nr_C_116 : ∀ x, noRefs (C_116 x) = true := fun _ => rfl
theorem nb_C_116 : ∀ x, noBors (C_116 x) = true := fun _ => rfl
def C_149 (x : DIns) : List AV := [.int .i64 x.Op, .int .i64 x.A, .int .i64 x.N]
theorem cl_C_149 : ∀ x, cleans (C_149 x) = true := fun _ => rfl
theorem nr_C_149 : ∀ x, noRefs (C_149 x) = true := fun _ => rfl
theorem nb_C_149 : ∀ x, noBors (C_149 x) = true := fun _ => rfl
def C_90 (x : DLine) : List AV := [.int .i64 x.Tag, .int .i64 x.At, .bool x.What.There, .bool x.What.Write, .bool x.What.User, .int .i64 x.What.Page, .int .i64 x.What.Frame, .bool x.What.Ready]
theorem len_C_90 : ∀ x, (C_90 x).length = 8 := fun _ => rfl
theorem cl_C_90 : ∀ x, cleans (C_90 x) = true := fun _ => rfl
theorem nr_C_90 : ∀ x, noRefs (C_90 x) = true := fun _ => rfl
theorem nb_C_90 : ∀ x, noBors (C_90 x) = true := fun _ => rfl
def C_47 (x : DLine) : List AV := [.int .i64 x.Tag, .int .i64 x.At, .bool x.What.There, .bool x.What.Write, .bool x.What.User, .int .i64 x.What.Page, .int .i64 x.What.Frame, .bool x.What.Ready]
theorem len_C_47 : ∀ x, (C_47 x).length = 8 := fun _ => rfl
theorem no_C_47 : ∀ x, noOwn (C_47 x) = true := fun _ => rfl
theorem cl_C_47 : ∀ x, cleans (C_47 x) = true := fun _ => rfl
theorem nr_C_47 : ∀ x, noRefs (C_47 x) = true := fun _ => rfl
theorem nb_C_47 : ∀ x, noBors (C_47 x) = true := fun _ => rfl
def B_96 (x : Dl20Rd) : List AV := [bo (eI .u8) x.b, .int .i64 x.p]
theorem cl_B_96 : ∀ x, cleans (B_96 x) = true := fun x => by simp only [B_96, cleans, AV.clean, Bool.and_self, cleans_fl cl_eI]
theorem nr_B_96 : ∀ x, noRefs (B_96 x) = true := fun x => by simp only [B_96, noRefs, AV.noRef, Bool.and_self, noRefs_fl nr_eI]
def ru100 (x : DCore) (us : List AV) : List AV := .int .i64 x.Pc :: .int .i64 x.Root :: .int .i64 x.Vector :: .int .i64 x.Saved :: .bool x.SavedUser :: .int .i64 x.Cause :: .int .i64 x.Bad :: .int .i64 x.Timer :: .bool x.Waits :: .bool x.User :: .bool x.On :: .bool x.Stopped :: us
def zru100 (us : List AV) : List AV := .int .i64 (0 : Int) :: .int .i64 (0 : Int) :: .int .i64 (0 : Int) :: .int .i64 (0 : Int) :: .bool false :: .int .i64 (0 : Int) :: .int .i64 (0 : Int) :: .int .i64 (0 : Int) :: .bool false :: .bool false :: .bool false :: .bool false :: us
def ru45 (x : DShade) (us : List AV) : List AV := .bool x.There :: .bool x.Write :: .bool x.User :: .int .i64 x.Page :: .int .i64 x.Frame :: .bool x.Ready :: us
def zru45 (us : List AV) : List AV := .bool false :: .bool false :: .bool false :: .int .i64 (0 : Int) :: .int .i64 (0 : Int) :: .bool false :: us
def ru116 (x : DEntry) (us : List AV) : List AV := .bool x.There :: .bool x.Write :: .bool x.User :: .int .i64 x.Page :: us
def zru116 (us : List AV) : List AV := .bool false :: .bool false :: .bool false :: .int .i64 (0 : Int) :: us
theorem rz {ρ : Nat → Option Nat} {n : Nat} {vs us : List AV} (h : Rens ρ n vs us := by repeat first | exact rens_n | refine rens_i ?_ | refine rens_b ?_ | refine rens_c ren_nil ?_ | refine rens_c (ren_agg ?_) ?_ | refine rens_c (ren_p dd rfl) ?_ | refine rens_c ren_sy ?_ | refine rens_c (ren_s0 dd rfl rfl) ?_ | refine rens_c (ren_bor (rens_same (noRefs_fl nr_B_100))) ?_ | refine rens_c (ren_bor (rens_same (noRefs_fl nr_B_102))) ?_ | refine rens_c (ren_bor (rens_same (noRefs_fl nr_B_108))) ?_ | refine rens_c (ren_bor (rens_same (noRefs_fl nr_B_126))) ?_ | refine rens_c (ren_bor (rens_same (noRefs_fl nr_B_26))) ?_ | refine rens_c (ren_bor (rens_same (noRefs_fl nr_B_96))) ?_ | refine rens_c (ren_bor (rens_same (noRefs_fl nr_C_110))) ?_ | refine rens_c (ren_bor (rens_same (noRefs_fl nr_C_116))) ?_ | refine rens_c (ren_bor (rens_same (noRefs_fl nr_C_149))) ?_ | refine rens_c (ren_bor (rens_same (noRefs_fl nr_C_156))) ?_ | refine rens_c (ren_bor (rens_same (noRefs_fl nr_C_45))) ?_ | refine rens_c (ren_bor (rens_same (noRefs_fl nr_C_47))) ?_ | refine rens_c (ren_bor (rens_same (noRefs_fl nr_C_90))) ?_ | refine rens_c (ren_bor (rens_same (noRefs_fl nr_O_108))) ?_ | refine rens_c (ren_bor (rens_same (noRefs_fl nr_eI))) ?_ | refine rens_c (ren_bor (rens_same (noRefs_fl nr_eB))) ?_ ) : Rens ρ n vs us := h
theorem cz {H : Heap} {vs us : List AV} (h : Clos H vs us := by repeat first | exact clos_n | refine cs1 ?_ | refine clos_c (clo_same (clean_bor (cleans_fl cl_B_100))) ?_ | refine clos_c (clo_same (clean_bor (cleans_fl cl_B_102))) ?_ | refine clos_c (clo_same (clean_bor (cleans_fl cl_B_108))) ?_ | refine clos_c (clo_same (clean_bor (cleans_fl cl_B_126))) ?_ | refine clos_c (clo_same (clean_bor (cleans_fl cl_B_26))) ?_ | refine clos_c (clo_same (clean_bor (cleans_fl cl_B_96))) ?_ | refine clos_c (clo_same (clean_bor (cleans_fl cl_C_110))) ?_ | refine clos_c (clo_same (clean_bor (cleans_fl cl_C_116))) ?_ | refine clos_c (clo_same (clean_bor (cleans_fl cl_C_149))) ?_ | refine clos_c (clo_same (clean_bor (cleans_fl cl_C_156))) ?_ | refine clos_c (clo_same (clean_bor (cleans_fl cl_C_45))) ?_ | refine clos_c (clo_same (clean_bor (cleans_fl cl_C_47))) ?_ | refine clos_c (clo_same (clean_bor (cleans_fl cl_C_90))) ?_ | refine clos_c (clo_same (clean_bor (cleans_fl cl_eI))) ?_ | refine clos_c (clo_same (clean_bor (cleans_fl cl_eB))) ?_ ) : Clos H vs us := h
theorem nrr {p : Prop} (h : p := by simp only [ru100, ru116, ru45, zru100, zru116, zru45, AV.noRef, noRefs, AV.noBor, noBors, Bool.and_self, noRefs_fl nr_B_100, noRefs_fl nr_B_102, noRefs_fl nr_B_108, noRefs_fl nr_B_126, noRefs_fl nr_B_26, noRefs_fl nr_B_96, noRefs_fl nr_C_110, noRefs_fl nr_C_116, noRefs_fl nr_C_149, noRefs_fl nr_C_156, noRefs_fl nr_C_45, noRefs_fl nr_C_47, noRefs_fl nr_C_90, noRefs_fl nr_O_108, noRefs_fl nr_eI, noRefs_fl nr_eB, nr_B_100, nr_B_102, nr_B_108, nr_B_126, nr_B_26, nr_B_96, nr_C_110, nr_C_116, nr_C_149, nr_C_156, nr_C_45, nr_C_47, nr_C_90, nr_O_108, noBors_fl nb_C_110, noBors_fl nb_C_116, noBors_fl nb_C_149, noBors_fl nb_C_156, noBors_fl nb_C_45, noBors_fl nb_C_47, noBors_fl nb_C_90, noBors_fl nb_O_108, noBors_fl nb_eI, noBors_fl nb_eB, nb_C_110, nb_C_116, nb_C_149, nb_C_156, nb_C_45, nb_C_47, nb_C_90, nb_O_108]) : p := h
abbrev zc1 : List AV := [(bb false), .nil, (ii 0), (ii 0), (ii 0), (ii 0), (bb false), (ii 0), (ii 0), (ii 0), (bb false), (bb false), (bb false), (bb false), .nil, .nil, .nil]
abbrev zc2 : List AV := [(ii 0), (ii 0), (bb false), (bb false), (bb false), (ii 0), (ii 0), (bb false)]
abbrev rB100 (x : DCore) : Root := ⟨100, B_100 x⟩
abbrev rI_3 (x : List Int) : Root := ⟨3, fl (eI .i64) x⟩
abbrev rB100_123 (x : DCore) : Root := ⟨123, B_100 x⟩
abbrev rB108 (x : DGuest) : Root := ⟨108, B_108 x⟩
abbrev rB26 (x : DHost) : Root := ⟨26, B_26 x⟩
abbrev rT_4 (x : List Bool) : Root := ⟨4, fl eB x⟩
abbrev rC110 (x : List DSlot) : Root := ⟨110, fl C_110 x⟩
abbrev rB126 (x : DGuest) : Root := ⟨126, B_126 x⟩
abbrev rO108 (x : List DGuest) : Root := ⟨108, fl O_108 x⟩
abbrev rC45 (x : List DShade) : Root := ⟨45, fl C_45 x⟩
abbrev rC47 (x : List DLine) : Root := ⟨47, fl C_47 x⟩
end Go.Proofs.Ytbnjdmclnojlmaa
