/- Shorter words for the steps of a walk. No program is named here. -/
import Derived.Test.YtmjphjphgjmojaaZS
namespace Go.Proofs.Ytmjphjphgjmojaa
set_option linter.all false
section
variable {P : Program} {H H' : Heap} {n n' : Nat} {K0 : List AV → Heap → Nat → Prop} {E E' : List AV} {L : List LOper} {ls rs : List Nat}
theorem yj (j : Nat) (E' : List AV) (H' : Heap) (n' : Nat) (hk : Hld (yops P K0 (List.drop j L) E' H' n')) (h : ∀ K : List AV → Heap → Nat → Prop, yops P K (List.take j L) E H n = K E' H' n' := by intro K; kernel_rfl) : Hld (yops P K0 L E H n) :=
 yc (List.take_append_drop j L).symm (cs := []) h .nil hk
theorem yjc (j : Nat) (cs : List Prop) (E' : List AV) (H' : Heap) (n' : Nat) (hc : Conds cs) (hk : Hld (yops P K0 (List.drop j L) E' H' n')) (h : ∀ K : List AV → Heap → Nat → Prop, yops P K (List.take j L) E H n = conj cs (K E' H' n') := by intro K; kernel_rfl) : Hld (yops P K0 L E H n) :=
 yc (List.take_append_drop j L).symm h hc hk
theorem yt (E' : List AV) (H' : Heap) (n' : Nat) (hk : K0 E' H' n') (h : ∀ K : List AV → Heap → Nat → Prop, yops P (TK ls rs K) L E H n = K E' H' n' := by intro K; kernel_rfl) : Hld (yops P (TK ls rs K0) L E H n) := yct (cs := []) h .nil hk
theorem ytc (cs : List Prop) (E' : List AV) (H' : Heap) (n' : Nat) (hc : Conds cs) (hk : K0 E' H' n') (h : ∀ K : List AV → Heap → Nat → Prop, yops P (TK ls rs K) L E H n = conj cs (K E' H' n') := by intro K; kernel_rfl) : Hld (yops P (TK ls rs K0) L E H n) := yct h hc hk
theorem ye (E' : List AV) (H' : Heap) (n' : Nat) (hk : K0 E' H' n') (h : ∀ K : List AV → Heap → Nat → Prop, yops P K L E H n = K E' H' n' := by intro K; kernel_rfl) : Hld (yops P K0 L E H n) := yce (cs := []) h .nil hk
theorem yec (cs : List Prop) (E' : List AV) (H' : Heap) (n' : Nat) (hc : Conds cs) (hk : K0 E' H' n') (h : ∀ K : List AV → Heap → Nat → Prop, yops P K L E H n = conj cs (K E' H' n') := by intro K; kernel_rfl) : Hld (yops P K0 L E H n) := yce h hc hk
theorem ys (op : LOp) (d : Option Nat) (hk : Hld (yop P E H n (fun v H' n' => yops P K0 (List.tail L) (put E d v) H' n') op)) (hL : L = ⟨d, op, none⟩ :: List.tail L := by kernel_rfl) : Hld (yops P K0 L E H n) := yso hL hk
theorem ybl {t : Nat} {b v : Bool} (h : b = v) (hk : Hld (yops P K0 L (E.set t (.bool v)) H n)) (he : E.getD t .unk = .bool b := by kernel_rfl) : Hld (yops P K0 L E H n) := ybs h he hk
theorem hq {ρ : Nat → Option Nat} {n2 r j : Nat} {H2 : Heap} {t2 : Root} (t : Root) (hr : Rens ρ n2 t2.cs t.cs) (h : HS ρ n2 H H2) (hn : r < n2 := by decide) (hj : ρ r = some j := by rfl) (ht : H.get1 j = some t := by kernel_rfl) (he : t.e = t2.e := by rfl) : HS ρ n2 H ((r, some t2) :: H2) := hs_as hn hj ht he hr h
end
section
variable {ρ : Nat → Option Nat} {n : Nat}
theorem ren_sx {r j o k k2 sz : Nat} {π : List Nat} (h : r < n := by decide) (hj : ρ r = some j := by rfl) (hk : k2 = k := by first | rfl | omega | (simp only [List.length_set, over_len, List.length_replicate, List.length_append, List.length_cons, List.length_nil, List.length_take, List.length_drop] <;> omega)) : Ren ρ n (.sref r π o k sz) (.sref j π o k2 sz) := ren_se h hj hk
theorem rens_i {k : IntKind} {z : Int} {vs us : List AV} (h : Rens ρ n vs us) : Rens ρ n (.int k z :: vs) (.int k z :: us) := rens_c ren_i h
theorem rens_b {b : Bool} {vs us : List AV} (h : Rens ρ n vs us) : Rens ρ n (.bool b :: vs) (.bool b :: us) := rens_c ren_b h
end
def oo (d : Nat) (x : LOp) : LOper := ⟨some d, x, none⟩
def om (d t : Nat) : LOper := ⟨some d, .mv (.t t), none⟩
abbrev pp (r : Nat) : AV := .ptr r [] 0
section
variable {P : Program} {H H' : Heap} {n n' k : Nat} {K0 : List AV → Heap → Nat → Prop} {E E' env : List AV} {L : List LOper} {Kq : List AV → Prop} {M : List Nat} {n0 : Nat} {fs : Fresh} {Kd : DK} {K : AV → Heap → Nat → Prop}
theorem gvb {b : Bool} {ls : List LRes} (h : resOut env H ls = some (.bool b) := by kernel_rfl) : Gives 0 (.bool b) [] k ls .ret env H n := gives h (Ent.list [] rfl rfl (Nat.zero_le _) (rens_1 ren_b) hs_nil)
theorem gvi {kd : IntKind} {z : Int} {ls : List LRes} (h : resOut env H ls = some (.int kd z) := by kernel_rfl) : Gives 0 (.int kd z) [] k ls .ret env H n := gives h (Ent.list [] rfl rfl (Nat.zero_le _) (rens_1 ren_i) hs_nil)
theorem clz_same : ∀ {vs : List AV}, cleans vs = true → Cloz H vs vs
 | [], _ => clz_n
 | x :: vs, h => by
  simp only [cleans, Bool.and_eq_true] at h
  exact clz_c (clo_same h.1) (clz_same h.2)
theorem oc {f : FuncId} {as : List Opd} {args' : List AV} {r : AV} (hp : Fn P f args' r) (hk : Hld (K r H n)) (hv : as.map (·.val env) = args' := by kernel_rfl) (hc : cleans args' = true := by first | rfl | simp only [cleans, AV.clean, Bool.and_self, cleans_fl cl_eI]) (h1 : r.noRef = true := by rfl) (h2 : r.noBor = true := by rfl) (hn : nameV n r = (r, [], n) := by kernel_rfl) : Hld (yop P env H n K (.call f as)) :=
 op_call hp (clz_v hv (clz_same hc)) h1 h2 hn hk
theorem yg (op : LOp) (d : Option Nat) (t : Nat) (want : Bool) (hk : Hld (yop P E H n (fun v H' n' => yops P K0 (List.tail L) (put E d v) H' n') op)) (hL : L = ⟨d, op, some (t, want)⟩ :: List.tail L := by kernel_rfl) (ht : E.getD t .unk = .bool want := by kernel_rfl) : Hld (yops P K0 L E H n) := ysg hL ht hk
theorem ds (op : LOp) (d : Option Nat) (hk : Hld (ydo P M n0 E H n (fun v H' n' => yds P M n0 Kd (List.tail L) (put E d v) H' n' fs) op)) (hL : L = ⟨d, op, none⟩ :: List.tail L := by kernel_rfl) (hf : isFresh1 op = false := by rfl) : Hld (yds P M n0 Kd L E H n fs) := dso hL hf hk
theorem qs (op : LOp) (d : Option Nat) (hk : Hld (yq P E H n (fun v => yqs P H n Kq (List.tail L) (put E d v)) op)) (hL : L = ⟨d, op, none⟩ :: List.tail L := by kernel_rfl) : Hld (yqs P H n Kq L E) := qso hL hk
theorem cs1 {x : AV} {as bs : List AV} (k : Clos H as bs) (h : x.clean = true := by rfl) : Clos H (x :: as) (x :: bs) := clos_c (clo_same h) k
theorem cz1 {x : AV} {as bs : List AV} (k : Cloz H as bs) (h : x.clean = true := by rfl) : Cloz H (x :: as) (x :: bs) := clz_c (clo_same h) k
end
abbrev ii (z : Int) : AV := .int .i64 z
abbrev bb (b : Bool) : AV := .bool b
abbrev sw {T : Type} (r : Nat) (xs : List T) : AV := .sref r [] 0 (List.length xs) 1
def puts_ (E : List AV) : List (Nat × AV) → List AV
 | [] => E
 | (k, v) :: l => puts_ (E.set k v) l
section
variable {P : Program} {H H' : Heap} {n n' m : Nat} {K0 : List AV → Heap → Nat → Prop} {E E' env : List AV} {L ops : List LOper} {b x y : LCode} {Q : Post}
theorem yu (j : Nat) (l : List (Nat × AV)) (H' : Heap) (n' : Nat) (hk : Hld (yops P K0 (List.drop j L) (puts_ E l) H' n')) (h : ∀ K : List AV → Heap → Nat → Prop, yops P K (List.take j L) E H n = K (puts_ E l) H' n' := by intro K; kernel_rfl) : Hld (yops P K0 L E H n) := yj j (puts_ E l) H' n' hk h
theorem sy (ls rs : List Nat) (E' : List AV) (H' : Heap) (n' : Nat) (hk : Aw P m b Q E' H' n') (h : ∀ K : List AV → Heap → Nat → Prop, yops P (TK ls rs K) ops E H n = K E' H' n' := by intro K; kernel_rfl) : Aw P m (.seq (.reg false ops) b) Q E H n := Aw.sreg ls rs (yt E' H' n' hk h)
theorem cT {c : Opd} {t : Bool} (ht : t = true) (h : Aw P m x Q env H n) (hc : c.val env = .bool t := by kernel_rfl) : Aw P m (.cond c x y) Q env H n := Aw.condT hc ht h
theorem cF {c : Opd} {t : Bool} (ht : t = false) (h : Aw P m y Q env H n) (hc : c.val env = .bool t := by kernel_rfl) : Aw P m (.cond c x y) Q env H n := Aw.condF hc ht h
theorem yb (t : Nat) {bo v : Bool} (h : bo = v) (hk : Hld (yops P K0 L (E.set t (.bool v)) H n)) (he : E.getD t .unk = .bool bo := by kernel_rfl) : Hld (yops P K0 L E H n) := ybs h he hk
end
end Go.Proofs.Ytmjphjphgjmojaa
