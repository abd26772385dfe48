/- What is an instruction: the model's answer. -/
import Derived.Test.YtlikfpmbcdlnjaaPO
import Derived.Test.YtlikfpmbcdlnjaaWU1
namespace Go.Proofs.Ytlikfpmbcdlnjaa
set_option linter.all false
namespace M
def insOk (x : DIns) : Bool := inR 0 15 x.Op && inR 0 3 x.A && inR 0 63 x.N
end M
theorem insOk_s (x : DIns) : F_spec_InsOk x = some (M.insOk x) := by
 unfold F_spec_InsOk
 rw [l1In_s, l1In_s, l1In_s]
 simp only [Option.bind_some, M.insOk]
 cases M.inR 0 15 x.Op <;> cases M.inR 0 3 x.A <;> cases M.inR 0 63 x.N <;> rfl
end Go.Proofs.Ytlikfpmbcdlnjaa
