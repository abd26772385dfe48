/- The types of the plain functions. Made by program. -/
import Derived.Test.YtbogmfjpabfhpaaZY
namespace Go.Proofs.Ytbogmfjpabfhpaa
open Go.RowKit
set_option maxRecDepth 100000
set_option linter.all false
set_option maxHeartbeats 0
structure DCore where
 Regs : List Int
 Pc : Int
 Root : Int
 Vector : Int
 Saved : Int
 SavedUser : Bool
 Cause : Int
 Bad : Int
 Timer : Int
 Waits : Bool
 User : Bool
 On : Bool
 Stopped : Bool
deriving Inhabited
structure DSlot where
 Frame : Int
 Write : Bool
 Dirty : Bool
deriving Inhabited
structure DGuest where
 Live : Bool
 C : DCore
 Pages : List DSlot
 In : List Int
 Out : List Int
deriving Inhabited
structure DHost where
 Words : List Int
 Guests : List DGuest
deriving Inhabited
structure DBare where
 C : DCore
 Mem : List Int
 In : List Int
 Out : List Int
deriving Inhabited
structure Dl20Rd where
 b : List Int
 p : Int
deriving Inhabited
structure DEntry where
 There : Bool
 Write : Bool
 User : Bool
 Page : Int
deriving Inhabited
structure DIns where
 Op : Int
 A : Int
 N : Int
deriving Inhabited
def B_38 (x : DBare) : List AV := [bo (eI .i64) x.C.Regs, .int .i64 x.C.Pc, .int .i64 x.C.Root, .int .i64 x.C.Vector, .int .i64 x.C.Saved, .bool x.C.SavedUser, .int .i64 x.C.Cause, .int .i64 x.C.Bad, .int .i64 x.C.Timer, .bool x.C.Waits, .bool x.C.User, .bool x.C.On, .bool x.C.Stopped, bo (eI .i64) x.Mem, bo (eI .i64) x.In, bo (eI .i64) x.Out]
theorem cl_B_38 : ∀ x, cleans (B_38 x) = true := fun x => by simp only [B_38, cleans, AV.clean, Bool.and_self, cleans_fl cl_eI]
theorem nr_B_38 : ∀ x, noRefs (B_38 x) = true := fun x => by simp only [B_38, noRefs, AV.noRef, Bool.and_self, noRefs_fl nr_eI]
def B_36 (x : DCore) : List AV := [bo (eI .i64) x.Regs, .int .i64 x.Pc, .int .i64 x.Root, .int .i64 x.Vector, .int .i64 x.Saved, .bool x.SavedUser, .int .i64 x.Cause, .int .i64 x.Bad, .int .i64 x.Timer, .bool x.Waits, .bool x.User, .bool x.On, .bool x.Stopped]
theorem cl_B_36 : ∀ x, cleans (B_36 x) = true := fun x => by simp only [B_36, cleans, AV.clean, Bool.and_self, cleans_fl cl_eI]
theorem nr_B_36 : ∀ x, noRefs (B_36 x) = true := fun x => by simp only [B_36, noRefs, AV.noRef, Bool.and_self, noRefs_fl nr_eI]
def C_47 (x : DSlot) : List AV := [.int .i64 x.Frame, .bool x.Write, .bool x.Dirty]
theorem len_C_47 : ∀ x, (C_47 x).length = 3 := fun _ => rfl
theorem no_C_47 : ∀ x, noOwn (C_47 x) = true := fun _ => rfl
theorem cl_C_47 : ∀ x, cleans (C_47 x) = true := fun _ => rfl
theorem nr_C_47 : ∀ x, noRefs (C_47 x) = true := fun _ => rfl
theorem nb_C_47 : ∀ x, noBors (C_47 x) = true := fun _ => rfl
def B_50 (x : DGuest) : List AV := [.bool x.Live, bo (eI .i64) x.C.Regs, .int .i64 x.C.Pc, .int .i64 x.C.Root, .int .i64 x.C.Vector, .int .i64 x.C.Saved, .bool x.C.SavedUser, .int .i64 x.C.Cause, .int .i64 x.C.Bad, .int .i64 x.C.Timer, .bool x.C.Waits, .bool x.C.User, .bool x.C.On, .bool x.C.Stopped, bo C_47 x.Pages, bo (eI .i64) x.In, bo (eI .i64) x.Out]
theorem len_B_50 : ∀ x, (B_50 x).length = 17 := fun _ => rfl
theorem cl_B_50 : ∀ x, cleans (B_50 x) = true := fun x => by simp only [B_50, cleans, AV.clean, Bool.and_self, cleans_fl cl_eI, cleans_fl cl_C_47]
theorem nr_B_50 : ∀ x, noRefs (B_50 x) = true := fun x => by simp only [B_50, noRefs, AV.noRef, Bool.and_self, noRefs_fl nr_eI, noRefs_fl nr_C_47]
def B_26 (x : DHost) : List AV := [bo (eI .i64) x.Words, bo B_50 x.Guests]
theorem cl_B_26 : ∀ x, cleans (B_26 x) = true := fun x => by simp only [B_26, cleans, AV.clean, Bool.and_self, cleans_fl cl_eI, cleans_fl cl_B_50]
theorem nr_B_26 : ∀ x, noRefs (B_26 x) = true := fun x => by simp only [B_26, noRefs, AV.noRef, Bool.and_self, noRefs_fl nr_eI, noRefs_fl nr_B_50]
def C_139 (x : DSlot) : List AV := [.int .i64 x.Frame, .bool x.Write, .bool x.Dirty]
theorem len_C_139 : ∀ x, (C_139 x).length = 3 := fun _ => rfl
theorem cl_C_139 : ∀ x, cleans (C_139 x) = true := fun _ => rfl
theorem nr_C_139 : ∀ x, noRefs (C_139 x) = true := fun _ => rfl
def B_121 (x : DGuest) : List AV := [.bool x.Live, bo (eI .i64) x.C.Regs, .int .i64 x.C.Pc, .int .i64 x.C.Root, .int .i64 x.C.Vector, .int .i64 x.C.Saved, .bool x.C.SavedUser, .int .i64 x.C.Cause, .int .i64 x.C.Bad, .int .i64 x.C.Timer, .bool x.C.Waits, .bool x.C.User, .bool x.C.On, .bool x.C.Stopped, bo C_139 x.Pages, bo (eI .i64) x.In, bo (eI .i64) x.Out]
theorem len_B_121 : ∀ x, (B_121 x).length = 17 := fun _ => rfl
theorem cl_B_121 : ∀ x, cleans (B_121 x) = true := fun x => by simp only [B_121, cleans, AV.clean, Bool.and_self, cleans_fl cl_eI, cleans_fl cl_C_139]
theorem nr_B_121 : ∀ x, noRefs (B_121 x) = true := fun x => by simp only [B_121, noRefs, AV.noRef, Bool.and_self, noRefs_fl nr_eI, noRefs_fl nr_C_139]
def O_50 (x : DGuest) : List AV := [.bool x.Live, .own 3 1 (List.length x.C.Regs) (fl (eI .i64) x.C.Regs), .int .i64 x.C.Pc, .int .i64 x.C.Root, .int .i64 x.C.Vector, .int .i64 x.C.Saved, .bool x.C.SavedUser, .int .i64 x.C.Cause, .int .i64 x.C.Bad, .int .i64 x.C.Timer, .bool x.C.Waits, .bool x.C.User, .bool x.C.On, .bool x.C.Stopped, .own 47 3 (List.length x.Pages) (fl C_47 x.Pages), .own 3 1 (List.length x.In) (fl (eI .i64) x.In), .own 3 1 (List.length x.Out) (fl (eI .i64) x.Out)]
theorem len_O_50 : ∀ x, (O_50 x).length = 17 := fun _ => rfl
theorem nr_O_50 : ∀ x, noRefs (O_50 x) = true := fun x => by simp only [O_50, noRefs, AV.noRef, Bool.and_self, noRefs_fl nr_eI, noRefs_fl nr_C_47]
theorem nb_O_50 : ∀ x, noBors (O_50 x) = true := fun x => by simp only [O_50, noBors, AV.noBor, Bool.and_self, noBors_fl nb_eI, noBors_fl nb_C_47]
theorem oc_O_50 : CloEnc O_50 B_50 := fun x H r π j h => (clos_c (clo_same rfl) (clos_c (clo_own (e := 3) rfl len_eI no_eI cl_eI (h 1 _ rfl)) (clos_c (clo_same rfl) (clos_c (clo_same rfl) (clos_c (clo_same rfl) (clos_c (clo_same rfl) (clos_c (clo_same rfl) (clos_c (clo_same rfl) (clos_c (clo_same rfl) (clos_c (clo_same rfl) (clos_c (clo_same rfl) (clos_c (clo_same rfl) (clos_c (clo_same rfl) (clos_c (clo_same rfl) (clos_c (clo_own (e := 47) rfl len_C_47 no_C_47 cl_C_47 (h 14 _ rfl)) (clos_c (clo_own (e := 3) rfl len_eI no_eI cl_eI (h 15 _ rfl)) (clos_c (clo_own (e := 3) rfl len_eI no_eI cl_eI (h 16 _ rfl)) clos_n)))))))))))))))))
def ru36 (x : DCore) (us : List AV) : List AV := .int .i64 x.Pc :: .int .i64 x.Root :: .int .i64 x.Vector :: .int .i64 x.Saved :: .bool x.SavedUser :: .int .i64 x.Cause :: .int .i64 x.Bad :: .int .i64 x.Timer :: .bool x.Waits :: .bool x.User :: .bool x.On :: .bool x.Stopped :: us
def zru36 (us : List AV) : List AV := .int .i64 (0 : Int) :: .int .i64 (0 : Int) :: .int .i64 (0 : Int) :: .int .i64 (0 : Int) :: .bool false :: .int .i64 (0 : Int) :: .int .i64 (0 : Int) :: .int .i64 (0 : Int) :: .bool false :: .bool false :: .bool false :: .bool false :: us
end Go.Proofs.Ytbogmfjpabfhpaa
