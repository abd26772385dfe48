/- What a host is, said in parts. -/
import Derived.Test.YtbnjdmclnojlmaaPHA
namespace Go.Proofs.Ytbnjdmclnojlmaa
set_option linter.all false
structure HOk (h : DHost) : Prop where
 len : h.Words.length = 160
 words : M.wordsOk h.Words = true
 three : h.Guests.length = 3
 all : h.Guests.all M.guestOk = true
 alone : M.alone (M.slots h.Guests) = true
theorem hOk_iff {h : DHost} : M.hostOk h = true ↔ HOk h := by
 unfold M.hostOk
 simp only [Bool.and_eq_true, decide_eq_true_eq]
 exact ⟨fun ⟨⟨⟨a, b⟩, c, d⟩, e⟩ => ⟨a, b, c, d, e⟩, fun h => ⟨⟨⟨h.len, h.words⟩, h.three, h.all⟩, h.alone⟩⟩
end Go.Proofs.Ytbnjdmclnojlmaa
