/- HostView: the program's function and the model's answer alike. -/
import Derived.Test.YtlikfpmbcdlnjaaPHL
import Derived.Test.YtlikfpmbcdlnjaaPHQ
import Derived.Test.YtlikfpmbcdlnjaaWHV1
namespace Go.Proofs.Ytlikfpmbcdlnjaa
set_option linter.all false
theorem over_len3 {xs ys : List Int} {o k : Nat} (ho : o + k ≤ xs.length) : (over xs o k ys).length = xs.length := over_len2 ho
theorem page_len {xs : List Int} {o : Nat} (h : o + 8 ≤ xs.length) : ((xs.drop o).take 8).length = 8 := by simp; omega
namespace M
def word (ws : List Int) (ps : List DSlot) (a : Nat) : Int := if (ps.getD (a / 8) default).Frame < 0 then 0 else ws.getD ((ps.getD (a / 8) default).Frame.toNat * 8 + a % 8) default
def mem (ws : List Int) (ps : List DSlot) : List Int := (List.range 64).map (word ws ps)
def page (ws : List Int) (f : Nat) : List Int := (ws.drop (f * 8)).take 8
end M
structure Live (h : DHost) (g : Int) (x : DGuest) : Prop where
 small : SmallG x
 ok : HOk h
 lo : 0 ≤ g
 hi : g ≤ 2
 at_ : h.Guests.getD g.toNat default = x
 live : x.Live = true
 core : M.coreOk x.C = true
 pages : x.Pages.length = 8
 slots : x.Pages.all M.slotOk = true
 inn : M.rowOk x.In = true
 out : M.rowOk x.Out = true
end Go.Proofs.Ytlikfpmbcdlnjaa
