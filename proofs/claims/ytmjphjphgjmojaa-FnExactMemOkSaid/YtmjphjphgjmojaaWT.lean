/- The types of the plain functions. Made by program. -/
import Derived.Test.YtmjphjphgjmojaaZI
namespace Go.Proofs.Ytmjphjphgjmojaa
open Go.RowKit
set_option maxRecDepth 100000
set_option linter.all false
set_option maxHeartbeats 0
structure DEntry where
 There : Bool
 Write : Bool
 User : Bool
 Page : Int
deriving Inhabited
def C_31 (x : DEntry) : List AV := [.bool x.There, .bool x.Write, .bool x.User, .int .i64 x.Page]
theorem len_C_31 : ∀ x, (C_31 x).length = 4 := fun _ => rfl
theorem no_C_31 : ∀ x, noOwn (C_31 x) = true := fun _ => rfl
theorem cl_C_31 : ∀ x, cleans (C_31 x) = true := fun _ => rfl
theorem nr_C_31 : ∀ x, noRefs (C_31 x) = true := fun _ => rfl
theorem nb_C_31 : ∀ x, noBors (C_31 x) = true := fun _ => rfl
def ru31 (x : DEntry) (us : List AV) : List AV := .bool x.There :: .bool x.Write :: .bool x.User :: .int .i64 x.Page :: us
def zru31 (us : List AV) : List AV := .bool false :: .bool false :: .bool false :: .int .i64 (0 : Int) :: us
end Go.Proofs.Ytmjphjphgjmojaa
