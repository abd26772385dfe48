/- The types of the plain functions. Made by program. -/
import Derived.Test.YthbefahhpikcaaaZI
namespace Go.Proofs.Ythbefahhpikcaaa
open Go.RowKit
set_option maxRecDepth 100000
set_option linter.all false
set_option maxHeartbeats 0
structure DEntry where
 There : Bool
 Write : Bool
 User : Bool
 Page : Int
deriving Inhabited
structure DCore where
 Regs : List Int
 Pc : Int
 Root : Int
 Vector : Int
 Saved : Int
 SavedUser : Bool
 Cause : Int
 Bad : Int
 Timer : Int
 Waits : Bool
 User : Bool
 On : Bool
 Stopped : Bool
deriving Inhabited
structure DBare where
 C : DCore
 Mem : List Int
 In : List Int
 Out : List Int
deriving Inhabited
structure DIns where
 Op : Int
 A : Int
 N : Int
deriving Inhabited
structure Dl20Rd where
 b : List Int
 p : Int
deriving Inhabited
def B_43 (x : DBare) : List AV := [bo (eI .i64) x.C.Regs, .int .i64 x.C.Pc, .int .i64 x.C.Root, .int .i64 x.C.Vector, .int .i64 x.C.Saved, .bool x.C.SavedUser, .int .i64 x.C.Cause, .int .i64 x.C.Bad, .int .i64 x.C.Timer, .bool x.C.Waits, .bool x.C.User, .bool x.C.On, .bool x.C.Stopped, bo (eI .i64) x.Mem, bo (eI .i64) x.In, bo (eI .i64) x.Out]
theorem cl_B_43 : ∀ x, cleans (B_43 x) = true := fun x => by simp only [B_43, cleans, AV.clean, Bool.and_self, cleans_fl cl_eI]
theorem nr_B_43 : ∀ x, noRefs (B_43 x) = true := fun x => by simp only [B_43, noRefs, AV.noRef, Bool.and_self, noRefs_fl nr_eI]
def B_39 (x : DCore) : List AV := [bo (eI .i64) x.Regs, .int .i64 x.Pc, .int .i64 x.Root, .int .i64 x.Vector, .int .i64 x.Saved, .bool x.SavedUser, .int .i64 x.Cause, .int .i64 x.Bad, .int .i64 x.Timer, .bool x.Waits, .bool x.User, .bool x.On, .bool x.Stopped]
theorem cl_B_39 : ∀ x, cleans (B_39 x) = true := fun x => by simp only [B_39, cleans, AV.clean, Bool.and_self, cleans_fl cl_eI]
theorem nr_B_39 : ∀ x, noRefs (B_39 x) = true := fun x => by simp only [B_39, noRefs, AV.noRef, Bool.and_self, noRefs_fl nr_eI]
def C_29 (x : DEntry) : List AV := [.bool x.There, .bool x.Write, .bool x.User, .int .i64 x.Page]
theorem nr_C_29 : ∀ x, noRefs (C_29 x) = true := fun _ => rfl
def C_76 (x : DIns) : List AV := [.int .i64 x.Op, .int .i64 x.A, .int .i64 x.N]
theorem nr_C_76 : ∀ x, noRefs (C_76 x) = true := fun _ => rfl
def B_90 (x : Dl20Rd) : List AV := [bo (eI .u8) x.b, .int .i64 x.p]
theorem nr_B_90 : ∀ x, noRefs (B_90 x) = true := fun x => by simp only [B_90, noRefs, AV.noRef, Bool.and_self, noRefs_fl nr_eI]
def ru39 (x : DCore) (us : List AV) : List AV := .int .i64 x.Pc :: .int .i64 x.Root :: .int .i64 x.Vector :: .int .i64 x.Saved :: .bool x.SavedUser :: .int .i64 x.Cause :: .int .i64 x.Bad :: .int .i64 x.Timer :: .bool x.Waits :: .bool x.User :: .bool x.On :: .bool x.Stopped :: us
def zru39 (us : List AV) : List AV := .int .i64 (0 : Int) :: .int .i64 (0 : Int) :: .int .i64 (0 : Int) :: .int .i64 (0 : Int) :: .bool false :: .int .i64 (0 : Int) :: .int .i64 (0 : Int) :: .int .i64 (0 : Int) :: .bool false :: .bool false :: .bool false :: .bool false :: us
def ru29 (x : DEntry) (us : List AV) : List AV := .bool x.There :: .bool x.Write :: .bool x.User :: .int .i64 x.Page :: us
def zru29 (us : List AV) : List AV := .bool false :: .bool false :: .bool false :: .int .i64 (0 : Int) :: us
end Go.Proofs.Ythbefahhpikcaaa
