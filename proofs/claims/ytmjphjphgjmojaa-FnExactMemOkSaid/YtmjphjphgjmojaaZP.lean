/- The machine with trees, walked by reckoning: operations on rows of data, calls. No program is named here. -/
import Derived.Test.YtmjphjphgjmojaaZO
namespace Go.Proofs.Ytmjphjphgjmojaa
set_option linter.all false
open Go.RowKit
section
variable {P : Program} {env : List AV} {H H' : Heap} {n n' : Nat} {K : AV → Heap → Nat → Prop} {T : Type} [Inhabited T] {c : T → List AV} {sz : Nat} {xs ys : List T}
theorem refer_fl (hn : ∀ x, noOwn (c x) = true) {r : Nat} {π : List Nat} {k : Nat} : refer r π k (fl c xs) = fl c xs := refer_no (noOwn_fl hn)
theorem bc_t {b : Bool} {p : Prop} (h : b = true) (hp : p) : bc b p := by subst h; exact hp
theorem chk_t {a b m : Nat} {ag : Bool} (h : a ≤ b) (k : ag = false → m = 1) : (Nat.ble a b && (ag || Nat.beq m 1)) = true := by
 simp only [Bool.and_eq_true, Bool.or_eq_true, Nat.ble_eq, Nat.beq_eq]
 refine ⟨h, ?_⟩
 cases ag
 · exact .inr (k rfl)
 · exact .inl rfl
theorem in_row {a b i off k : Nat} (hs : b = a * sz) (hi : i < a) (hf : off + k ≤ sz) : i * sz + off + k ≤ b := by
 have : (i + 1) * sz ≤ a * sz := Nat.mul_le_mul_right sz hi
 rw [Nat.add_mul, Nat.one_mul] at this
 omega
theorem op_load {a : Opd} {r o i off : Nat} {π : List Nat} {e : TypeId} {v : AV} (hc : ∀ x, (c x).length = sz) (ha : a.val env = .ptr r π o) (hg : H.get r π = some ⟨e, fl c xs⟩) (ho : o = i * sz + off) (hi : i < xs.length) (hf : off + 1 ≤ sz)
 (hv : ((c (xs.getD i default)).getD off .unk).at r π o = v) (hk : Hld (K v H n)) : Hld (yop P env H n K (.load false 1 a)) := by
 constructor
 have hk := hk.un
 simp only [yop, ha, hg]
 refine bc_t (chk_t (by rw [fl_len hc, ho]; exact in_row rfl hi hf) fun _ => rfl) ?_
 simp only [pickCells]
 rw [refer_getD, Nat.zero_add, ho, fl_getD hc hi hf, ← ho, hv]
 exact hk
theorem op_loadA {a : Opd} {r o i off k : Nat} {π : List Nat} {e : TypeId} {v : AV} (hc : ∀ x, (c x).length = sz) (ha : a.val env = .ptr r π o) (hg : H.get r π = some ⟨e, fl c xs⟩) (ho : o = i * sz + off) (hi : i < xs.length) (hf : off + k ≤ sz)
 (hv : AV.agg (refer r π o (((c (xs.getD i default)).drop off).take k)) = v) (hk : Hld (K v H n)) : Hld (yop P env H n K (.load true k a)) := by
 constructor
 have hk := hk.un
 simp only [yop, ha, hg]
 refine bc_t (chk_t (by rw [fl_len hc, ho]; exact in_row rfl hi hf) fun h => by cases h) ?_
 simp only [pickCells]
 rw [refer_drop, refer_take, Nat.zero_add, ho, fl_sub hc hi hf, ← ho, hv]
 exact hk
theorem op_loadb {a : Opd} {o i off : Nat} {v : AV} (hc : ∀ x, (c x).length = sz) (ha : a.val env = .bptr (fl c xs) o) (ho : o = i * sz + off) (hi : i < xs.length) (hf : off + 1 ≤ sz)
 (hv : (c (xs.getD i default)).getD off .unk = v) (hk : Hld (K v H n)) : Hld (yop P env H n K (.load false 1 a)) := by
 constructor
 have hk := hk.un
 simp only [yop, ha]
 refine bc_t (chk_t (by rw [fl_len hc, ho]; exact in_row rfl hi hf) fun _ => rfl) ?_
 simp only [pickCells]
 rw [ho, fl_getD hc hi hf, hv]
 exact hk
theorem op_loadbA {a : Opd} {o i off k : Nat} {v : AV} (hc : ∀ x, (c x).length = sz) (ha : a.val env = .bptr (fl c xs) o) (ho : o = i * sz + off) (hi : i < xs.length) (hf : off + k ≤ sz)
 (hv : AV.agg (((c (xs.getD i default)).drop off).take k) = v) (hk : Hld (K v H n)) : Hld (yop P env H n K (.load true k a)) := by
 constructor
 have hk := hk.un
 simp only [yop, ha]
 refine bc_t (chk_t (by rw [fl_len hc, ho]; exact in_row rfl hi hf) fun h => by cases h) ?_
 simp only [pickCells]
 rw [ho, fl_sub hc hi hf, hv]
 exact hk
theorem op_iadr {x i : Opd} {k : Int} {kd : IntKind} (hc : ∀ x, (c x).length = sz) (hp : 0 < sz) (hx : x.val env = .bor xs.length (fl c xs)) (hi : i.val env = .int kd k) (h : 0 ≤ k ∧ k < xs.length) (hk : Hld (K (.bptr (fl c xs) (k.toNat * sz)) H n)) : Hld (yop P env H n K (.iadr sz x i)) := by
 constructor
 have hk := hk.un
 simp only [yop, hx, hi]
 refine ⟨⟨h.1, h.2, ?_⟩, hk⟩
 rw [fl_len hc]
 exact Nat.mul_lt_mul_of_pos_right (by omega) hp
theorem op_store {a x : Opd} {r o i off m : Nat} {π : List Nat} {e : TypeId} {vs : List AV} {y : T} (hc : ∀ x, (c x).length = sz) (ha : a.val env = .ptr r π o) (hx : (x.val env).cells = some vs) (hm : vs.length = m) (hg : H.get r π = some ⟨e, fl c xs⟩) (ho : o = i * sz + off) (hi : i < xs.length) (hf : off + m ≤ sz)
 (hy : setCells (c (xs.getD i default)) off vs = c y) (hp : H.put r π (fl c (xs.set i y)) = H') (hk : Hld (K .und H' n)) : Hld (yop P env H n K (.store m a x)) := by
 constructor
 have hk := hk.un
 simp only [yop, ha, hx, hg]
 refine bc_t ?_ ?_
 · simp only [Bool.and_eq_true, Nat.ble_eq, Nat.beq_eq]
   exact ⟨hm, by rw [fl_len hc, ho]; exact in_row rfl hi hf⟩
 · rw [ho, fl_set hc hi (by rw [hm]; exact hf) hy, hp]
   exact hk
theorem rp_bor (hc : ∀ x, (c x).length = sz) : readPart H sz (.bor xs.length (fl c xs)) = some (xs.length, fl c xs) := by
 simp only [readPart]
 rw [if_pos (fl_len hc)]
theorem rp_own {r o k i : Nat} {π : List Nat} {e : TypeId} (hc : ∀ x, (c x).length = sz) (hn : ∀ x, noOwn (c x) = true) (hg : H.get r π = some ⟨e, fl c xs⟩) (ho : o = i * sz) (hi : i + k ≤ xs.length) : readPart H sz (.sref r π o k sz) = some (((xs.drop i).take k).length, fl c ((xs.drop i).take k)) := by
 simp only [readPart, hg]
 rw [if_pos]
 · rw [refer_fl hn, ho, fl_drop hc, fl_take hc]
   congr 2
   simp; omega
 · refine ⟨trivial, ?_⟩
   rw [fl_len hc, ho, ← Nat.add_mul]
   exact Nat.mul_le_mul_right sz hi
theorem rp_whole {r k : Nat} {π : List Nat} {e : TypeId} (hk : k = xs.length) (hc : ∀ x, (c x).length = sz) (hn : ∀ x, noOwn (c x) = true) (hg : H.get r π = some ⟨e, fl c xs⟩) : readPart H sz (.sref r π 0 k sz) = some (xs.length, fl c xs) := by
 subst hk
 have := rp_own (k := xs.length) (o := 0) (i := 0) hc hn hg (by simp) (by omega)
 simpa using this
theorem op_own {r : Nat} {π : List Nat} {e : TypeId} (hc : ∀ x, (c x).length = sz) (hg : H.get r π = some ⟨e, fl c xs⟩) : ownPart H e sz (.sref r π 0 xs.length sz) = some (xs.length, fl c xs, r, π) := by
 simp only [ownPart, hg]
 rw [if_pos ⟨trivial, trivial, trivial, fl_len hc⟩]
theorem op_app {e : TypeId} {bytes r k : Nat} {π : List Nat} {z : List AV} {s x : Opd} (hl : k = xs.length) (hc : ∀ x, (c x).length = sz) (hx : readPart H sz (x.val env) = some (ys.length, fl c ys)) (hs : s.val env = .sref r π 0 k sz) (hg : H.get r π = some ⟨e, fl c xs⟩)
 (hb : (xs.length + ys.length) * bytes ≤ 2 ^ 47 ∧ xs.length + ys.length ≤ 2 ^ 47) (hk : Hld (K (.sref n [] 0 (xs ++ ys).length sz) ((n, some ⟨e, fl c (xs ++ ys)⟩) :: H.kill r π) (n + 1))) : Hld (yop P env H n K (.app e sz bytes z s x)) := by
 constructor
 have hk := hk.un
 subst hl
 have key : xop P env H n K (.app e sz bytes z s x) := by
  simp only [xop, hx, hs, op_own hc hg]
  refine ⟨hb, ?_⟩
  rw [fl_append, ← List.length_append]
  exact hk
 exact key
theorem op_app0 {e : TypeId} {bytes : Nat} {z : List AV} {s x : Opd} (hx : readPart H sz (x.val env) = some (ys.length, fl c ys)) (hs : s.val env = .nil ∨ s.val env = .emp) (hb : ys.length * bytes ≤ 2 ^ 47 ∧ ys.length ≤ 2 ^ 47)
 (hk : Hld (K (.sref n [] 0 ys.length sz) ((n, some ⟨e, fl c ys⟩) :: H) (n + 1))) : Hld (yop P env H n K (.app e sz bytes z s x)) := by
 constructor
 have hk := hk.un
 have key : xop P env H n K (.app e sz bytes z s x) := by
  simp only [xop, hx]
  rcases hs with hs | hs <;> rw [hs] <;> exact ⟨hb, hk⟩
 exact key
theorem op_mk {e : TypeId} {bytes : Nat} {z : List AV} {l : Opd} {k : Int} {d : T} (hl : l.val env = .int .i64 k) (h0 : 0 ≤ k ∧ k * bytes ≤ 2 ^ 47 ∧ k ≤ 2 ^ 47) (hz : z = c d) (hk : Hld (K (.sref n [] 0 (List.replicate k.toNat d).length sz) ((n, some ⟨e, fl c (List.replicate k.toNat d)⟩) :: H) (n + 1))) :
 Hld (yop P env H n K (.mk e sz bytes z l)) := by
 constructor
 have hk := hk.un
 have key : xop P env H n K (.mk e sz bytes z l) := by
  simp only [xop, hl]
  refine ⟨h0, ?_⟩
  rw [fl_replicate hz]
  rw [List.length_replicate] at hk
  exact hk
 exact key
theorem op_slc {x : Opd} {lo hi : Option Opd} {l h : Int} (hc : ∀ x, (c x).length = sz) (hx : x.val env = .bor xs.length (fl c xs)) (hl : boundOf env lo 0 = some l) (hh : boundOf env hi xs.length = some h) (hb : 0 ≤ l ∧ l ≤ h ∧ h ≤ xs.length)
 (hk : Hld (K (.bor ((xs.drop l.toNat).take (h.toNat - l.toNat)).length (fl c ((xs.drop l.toNat).take (h.toNat - l.toNat)))) H n)) : Hld (yop P env H n K (.slc sz x lo hi)) := by
 constructor
 have hk := hk.un
 have key : xop P env H n K (.slc sz x lo hi) := by
  simp only [xop, hl, hx, hh]
  refine ⟨⟨fl_len hc, hb⟩, ?_⟩
  rw [fl_drop hc, fl_take hc]
  have : ((xs.drop l.toNat).take (h.toNat - l.toNat)).length = h.toNat - l.toNat := by simp; omega
  rw [this] at hk
  exact hk
 exact key
theorem op_slo {x : Opd} {lo hi : Option Opd} {l h : Int} {r o k : Nat} {π : List Nat} (hx : x.val env = .sref r π o k sz) (hl : boundOf env lo 0 = some l) (hh : boundOf env hi k = some h) (hb : 0 ≤ l ∧ l ≤ h ∧ h ≤ k)
 (hk : Hld (K (.sref r π (o + l.toNat * sz) (h.toNat - l.toNat) sz) H n)) : Hld (yop P env H n K (.slc sz x lo hi)) := by
 constructor
 have hk := hk.un
 have key : xop P env H n K (.slc sz x lo hi) := by
  simp only [xop, hl, hx, hh]
  exact ⟨⟨trivial, hb⟩, hk⟩
 exact key
def over (xs : List T) (o k : Nat) (ys : List T) : List T := xs.take o ++ (ys.take (min k ys.length) ++ xs.drop (o + min k ys.length))
theorem over_len2 {xs : List T} {o k : Nat} {ys : List T} (h : o + k ≤ xs.length) : (over xs o k ys).length = xs.length := by simp [over]; omega
theorem over_len {xs : List T} {o k : Nat} {ys : List T} : (over xs o k ys).length = min o xs.length + (min (min k ys.length) ys.length + (xs.length - (o + min k ys.length))) := by simp [over]
theorem setCells_over : ∀ {vs cs : List AV} {o : Nat}, o + vs.length ≤ cs.length → setCells cs o vs = cs.take o ++ (vs ++ cs.drop (o + vs.length))
 | [], cs, o, _ => by simp [setCells]
 | v :: vs, cs, o, h => by
  simp only [List.length_cons] at h
  rw [setCells, setCells_over (by simp; omega)]
  apply List.ext_getElem?
  intro i
  simp only [List.getElem?_append, List.length_take, List.length_set, List.getElem?_take, List.getElem?_set, List.length_cons, List.getElem?_drop]
  by_cases h1 : i < o
  · simp [show i < min (o + 1) cs.length by omega, show i < min o cs.length by omega, show i < o + 1 by omega, h1, show ¬ o = i by omega]
  · by_cases h2 : i = o
    · subst h2
      have m1 : min i cs.length = i := by omega
      simp [show i < min (i + 1) cs.length by omega, show i < cs.length by omega, m1]
    · have e1 : ¬ i < min (o + 1) cs.length := by omega
      have e2 : ¬ i < min o cs.length := by omega
      simp only [e1, e2, if_false]
      have m1 : min (o + 1) cs.length = o + 1 := by omega
      have m2 : min o cs.length = o := by omega
      rw [m1, m2]
      by_cases h3 : i - (o + 1) < vs.length
      · simp [h3, show i - o < vs.length + 1 by omega, show i - o = (i - (o + 1)) + 1 by omega]
      · simp only [h3, if_false, show ¬ i - o < vs.length + 1 by omega]
        rw [if_neg (by omega)]
        congr 1; omega
theorem op_cpy {d s : Opd} {r o k i : Nat} {π : List Nat} {e : TypeId} (hc : ∀ x, (c x).length = sz) (hs : readPart H sz (s.val env) = some (ys.length, fl c ys)) (hd : d.val env = .sref r π o k sz) (hg : H.get r π = some ⟨e, fl c xs⟩) (ho : o = i * sz) (hi : i + k ≤ xs.length)
 (hp : H.put r π (fl c (over xs i k ys)) = H') (hk : Hld (K (.int .i64 (min k ys.length : Nat)) H' n)) : Hld (yop P env H n K (.cpy sz d s)) := by
 constructor
 have hk := hk.un
 have key : xop P env H n K (.cpy sz d s) := by
  simp only [xop, hs, hd, hg]
  refine ⟨⟨trivial, ?_⟩, ?_⟩
  · rw [fl_len hc, ho, ← Nat.add_mul]; exact Nat.mul_le_mul_right sz hi
  · have : setCells (fl c xs) o ((fl c ys).take (min k ys.length * sz)) = fl c (over xs i k ys) := by
     rw [fl_take hc, ho]
     have hl : (fl c (ys.take (min k ys.length))).length = min k ys.length * sz := by rw [fl_len hc, List.length_take]; congr 1; omega
     rw [setCells_over (by rw [hl, fl_len hc, ← Nat.add_mul]; exact Nat.mul_le_mul_right sz (by omega)), hl, ← Nat.add_mul, fl_drop hc, fl_take hc, fl_append, fl_append]
     rfl
    rw [this, hp]
    exact hk
 exact key
theorem op_call {f : FuncId} {as : List Opd} {args' : List AV} {r v : AV} {Hr : Heap} (hp : Fn P f args' r) (hc : Cloz H (as.map (·.val env)) args') (h1 : r.noRef = true) (h2 : r.noBor = true) (hn : nameV n r = (v, Hr, n')) (hk : Hld (K v (Hr ++ H) n')) : Hld (yop P env H n K (.call f as)) := by
 constructor
 have hk := hk.un
 have key : xop P env H n K (.call f as) := by
  have := Inl.of_fn_read (n := n) hc hp h1 h2
  rw [hn] at this
  exact ⟨_, _, _, this, hk⟩
 exact key
theorem op_callp {f : FuncId} {as : List Opd} {args' : List AV} {r v : AV} {Hr : Heap} (hp : Fn P f args' r) (hc : Cloz [] (as.map (·.val env)) args') (h1 : r.noRef = true) (hn : nameV n r = (v, Hr, n')) (hk : Hld (K v (Hr ++ H) n')) : Hld (yop P env H n K (.call f as)) := by
 constructor
 have hk := hk.un
 have key : xop P env H n K (.call f as) := by
  have := Inl.of_fn0 (H := H) (n := n) hc hp h1
  rw [hn] at this
  exact ⟨_, _, _, this, hk⟩
 exact key
theorem op_calli {f : FuncId} {as : List Opd} {r : AV} (hp : Inl P f (as.map (·.val env)) H n r H' n') (hk : Hld (K r H' n')) : Hld (yop P env H n K (.call f as)) := by
 constructor
 have hk := hk.un
 have key : xop P env H n K (.call f as) := ⟨_, _, _, hp, hk⟩
 exact key
theorem oq_call {f : FuncId} {as : List Opd} {args' : List AV} {r : AV} {Kq : AV → Prop} (hp : Fn P f args' r) (hc : Cloz H (as.map (·.val env)) args') (hf : r.isFlat = true) (hk : Hld (Kq r)) : Hld (yq P env H n Kq (.call f as)) := ⟨⟨args', r, hc, hf, hp, hk.un⟩⟩
theorem clz_v {as : List Opd} {vs args' : List AV} (h : as.map (·.val env) = vs) (hc : Cloz H vs args') : Cloz H (as.map (·.val env)) args' := by rw [h]; exact hc
theorem clz_n : Cloz H [] [] := rfl
theorem clz_c {x y : AV} {as bs : List AV} (h : Clo H x y) (k : Cloz H as bs) : Cloz H (x :: as) (y :: bs) := ⟨y, bs, rfl, h, k⟩
theorem clean_bor {k : Nat} {cs : List AV} (h : cleans cs = true) : (AV.bor k cs).clean = true := by simpa [AV.clean] using h
theorem clean_agg {cs : List AV} (h : cleans cs = true) : (AV.agg cs).clean = true := by simpa [AV.clean] using h
theorem rpv {x : Opd} {v : AV} {q : Option (Nat × List AV)} (h : x.val env = v) (k : readPart H sz v = q) : readPart H sz (x.val env) = q := by rw [h]; exact k
theorem clo_same {x : AV} (h : x.clean = true) : Clo H x x := .clean x h
theorem clos_n : Clos H [] [] := .nil
theorem clos_c {x y : AV} {as bs : List AV} (h : Clo H x y) (k : Clos H as bs) : Clos H (x :: as) (y :: bs) := .cons x y as bs h k
theorem clo_agg {as bs : List AV} (h : Clos H as bs) : Clo H (.agg as) (.agg bs) := .agg as bs h
theorem clos_same : ∀ {as : List AV}, cleans as = true → Clos H as as
 | [], _ => .nil
 | x :: as, h => by
  simp only [cleans, Bool.and_eq_true] at h
  exact .cons _ _ _ _ (.clean x h.1) (clos_same h.2)
theorem clo_own {r k : Nat} {π : List Nat} {e : TypeId} (hk : k = xs.length) (hc : ∀ x, (c x).length = sz) (hn : ∀ x, noOwn (c x) = true) (hcl : ∀ x, cleans (c x) = true) (hg : H.get r π = some ⟨e, fl c xs⟩) : Clo H (.sref r π 0 k sz) (.bor xs.length (fl c xs)) := by
 subst hk
 refine .sref r π 0 _ _ sz _ _ hg (by rw [Nat.zero_add, fl_len hc]; exact Nat.le_refl _) rfl ?_
 rw [refer_fl hn, List.drop_zero, List.take_of_length_le (by rw [fl_len hc]; exact Nat.le_refl _)]
 exact clos_same (cleans_fl hcl)
theorem clo_part {r o k i : Nat} {π : List Nat} {e : TypeId} (hc : ∀ x, (c x).length = sz) (hn : ∀ x, noOwn (c x) = true) (hcl : ∀ x, cleans (c x) = true) (hg : H.get r π = some ⟨e, fl c xs⟩) (ho : o = i * sz) (hi : i + k ≤ xs.length) :
 Clo H (.sref r π o k sz) (.bor ((xs.drop i).take k).length (fl c ((xs.drop i).take k))) := by
 refine .sref r π o _ _ sz _ _ hg (by rw [fl_len hc, ho, ← Nat.add_mul]; exact Nat.mul_le_mul_right sz hi) (by simp; omega) ?_
 rw [refer_fl hn, ho, fl_drop hc, fl_take hc]
 exact clos_same (cleans_fl hcl)
theorem clo_nil : Clo H .nil (.bor ([] : List T).length (fl c [])) := .nil0
theorem clo_emp : Clo H .emp (.bor ([] : List T).length (fl c [])) := .emp0
section
variable {m i j : Nat} {b : LCode} {Q : Post}
theorem then_m (h : Aw P m b Q env H n) : Post.then P m b Q .normal env H n := h
theorem then_r (h : Q .ret env H n) : Post.then P m b Q .ret env H n := h
theorem then_x (h : Q (.exit i) env H n) : Post.then P m b Q (.exit i) env H n := h
theorem blk_m (h : Q .normal env H n) : Post.inBlock i Q .normal env H n := h
theorem blk_r (h : Q .ret env H n) : Post.inBlock i Q .ret env H n := h
theorem blk_x (h : Q .normal env H n) : Post.inBlock i Q (.exit i) env H n := by simpa [Post.inBlock] using h
theorem blk_y (hne : j ≠ i) (h : Q (.exit j) env H n) : Post.inBlock i Q (.exit j) env H n := by simpa [Post.inBlock, hne] using h
theorem gives_n {r : AV} {Hr : Heap} {k : Nat} {ls : List LRes} (h : Gives m r Hr k ls .ret env H n) : Gives m r Hr k ls .normal env H n := h
theorem rl_n {ρ : Nat → Option Nat} : RL ρ n env [] := trivial
theorem rl_c {ρ : Nat → Option Nat} {v u : AV} {l : List (Nat × AV)} (he : env.getD i .unk = u) (h : Ren ρ n v u) (k : RL ρ n env l) : RL ρ n env ((i, v) :: l) := ⟨by rw [he]; exact h, k⟩
end
inductive Conds : List Prop → Prop
 | nil : Conds []
 | cons {c : Prop} {cs : List Prop} (h : c) (t : Conds cs) : Conds (c :: cs)
def conj : List Prop → Prop → Prop
 | [], p => p
 | c :: cs, p => c ∧ conj cs p
theorem conj_t : ∀ {cs : List Prop} {p : Prop}, Conds cs → p → conj cs p
 | [], _, _, hp => hp
 | _ :: _, _, .cons h t, hp => ⟨h, conj_t t hp⟩
section
variable {K0 : List AV → Heap → Nat → Prop} {E E' : List AV} {L L' : List LOper} {cs : List Prop} {ls rs : List Nat} {Kq : List AV → Prop} {M : List Nat} {n0 : Nat} {fs fs' : Fresh} {Kd : DK} {os : List LOper} {d : Option Nat} {op : LOp} {tail : List LOper}
def isFresh1 : LOp → Bool
 | .bsl _ _ _ _ _ => true
 | .fresh _ _ => true
 | _ => false
theorem yc {pre : List LOper} (hL : L = pre ++ L') (h : ∀ K : List AV → Heap → Nat → Prop, yops P K pre E H n = conj cs (K E' H' n')) (hc : Conds cs) (hk : Hld (yops P K0 L' E' H' n')) : Hld (yops P K0 L E H n) := ⟨by rw [hL, yops_app, h]; exact conj_t hc hk.un⟩
theorem yct (h : ∀ K, yops P (TK ls rs K) L E H n = conj cs (K E' H' n')) (hc : Conds cs) (hk : K0 E' H' n') : Hld (yops P (TK ls rs K0) L E H n) := ⟨by rw [h]; exact conj_t hc hk⟩
theorem yce (h : ∀ K : List AV → Heap → Nat → Prop, yops P K L E H n = conj cs (K E' H' n')) (hc : Conds cs) (hk : K0 E' H' n') : Hld (yops P K0 L E H n) := ⟨by rw [h]; exact conj_t hc hk⟩
theorem yso (hL : L = ⟨d, op, none⟩ :: os) (hk : Hld (yop P E H n (fun v H' n' => yops P K0 os (put E d v) H' n') op)) : Hld (yops P K0 L E H n) := by subst hL; exact ⟨hk.un⟩
theorem ysg {t : Nat} {want : Bool} (hL : L = ⟨d, op, some (t, want)⟩ :: os) (ht : E.getD t .unk = .bool want) (hk : Hld (yop P E H n (fun v H' n' => yops P K0 os (put E d v) H' n') op)) : Hld (yops P K0 L E H n) := by
 constructor
 have hk := hk.un
 subst hL; unfold yops; simp only [ht]; rw [same2_eq]; simpa using hk
theorem ybs {t : Nat} {b v : Bool} (h : b = v) (he : E.getD t .unk = .bool b) (hk : Hld (yops P K0 L (E.set t (.bool v)) H n)) : Hld (yops P K0 L E H n) := by
 have : E.set t (.bool v) = E := by
  apply List.ext_getElem?
  intro i
  rw [List.getElem?_set]
  split
  · rename_i e; subst e
    rw [← h, ← he]
    split
    · rename_i hl; simp [List.getD, hl]
    · rename_i hl; simp [hl]
  · rfl
 rwa [this] at hk
theorem qbs {t : Nat} {b v : Bool} (h : b = v) (he : E.getD t .unk = .bool b) (hk : Hld (yqs P H n Kq L (E.set t (.bool v)))) : Hld (yqs P H n Kq L E) := by
 have : E.set t (.bool v) = E := by
  apply List.ext_getElem?
  intro i
  rw [List.getElem?_set]
  split
  · rename_i e; subst e
    rw [← h, ← he]
    split
    · rename_i hl; simp [List.getD, hl]
    · rename_i hl; simp [hl]
  · rfl
 rwa [this] at hk
theorem dbs {t : Nat} {b v : Bool} (h : b = v) (he : E.getD t .unk = .bool b) (hk : Hld (yds P M n0 Kd L (E.set t (.bool v)) H n fs)) : Hld (yds P M n0 Kd L E H n fs) := by
 have : E.set t (.bool v) = E := by
  apply List.ext_getElem?
  intro i
  rw [List.getElem?_set]
  split
  · rename_i e; subst e
    rw [← h, ← he]
    split
    · rename_i hl; simp [List.getD, hl]
    · rename_i hl; simp [hl]
  · rfl
 rwa [this] at hk
theorem qc {pre : List LOper} (hL : L = pre ++ L') (h : ∀ K : List AV → Prop, yqs P H n K pre E = conj cs (K E')) (hc : Conds cs) (hk : Hld (yqs P H n Kq L' E')) : Hld (yqs P H n Kq L E) := ⟨by rw [hL, yqs_app, h]; exact conj_t hc hk.un⟩
theorem qct (h : ∀ K : List AV → Prop, yqs P H n (TQ ls K) L E = conj cs (K E')) (hc : Conds cs) (hk : Kq E') : Hld (yqs P H n (TQ ls Kq) L E) := ⟨by rw [h]; exact conj_t hc hk⟩
theorem qce (h : ∀ K : List AV → Prop, yqs P H n K L E = conj cs (K E')) (hc : Conds cs) (hk : Kq E') : Hld (yqs P H n Kq L E) := ⟨by rw [h]; exact conj_t hc hk⟩
theorem qso (hL : L = ⟨d, op, none⟩ :: os) (hk : Hld (yq P E H n (fun v => yqs P H n Kq os (put E d v)) op)) : Hld (yqs P H n Kq L E) := by subst hL; exact ⟨hk.un⟩
theorem qsg {t : Nat} {want : Bool} (hL : L = ⟨d, op, some (t, want)⟩ :: os) (ht : E.getD t .unk = .bool want) (hk : Hld (yq P E H n (fun v => yqs P H n Kq os (put E d v)) op)) : Hld (yqs P H n Kq L E) := by
 constructor
 have hk := hk.un
 subst hL; unfold yqs; simp only [ht]; rw [same2_eq]; simpa using hk
theorem qtt (h : ∀ K, yqs P H n (TT P tail K H n) L E = conj cs (yops P K tail E' H n)) (hc : Conds cs) (hk : Hld (yops P K0 tail E' H n)) : Hld (yqs P H n (TT P tail K0 H n) L E) := ⟨by rw [h]; exact conj_t hc hk.un⟩
theorem dc {pre : List LOper} (hL : L = pre ++ L') (h : ∀ K : DK, yds P M n0 K pre E H n fs = conj cs (K E' H' n' fs')) (hc : Conds cs) (hk : Hld (yds P M n0 Kd L' E' H' n' fs')) : Hld (yds P M n0 Kd L E H n fs) := ⟨by rw [hL, yds_app, h]; exact conj_t hc hk.un⟩
theorem dct (h : ∀ K, yds P M n0 (TD P tail K) L E H n fs = conj cs (yops P K tail E' H' n')) (hc : Conds cs) (hk : Hld (yops P K0 tail E' H' n')) : Hld (yds P M n0 (TD P tail K0) L E H n fs) := ⟨by rw [h]; exact conj_t hc hk.un⟩
theorem dso (hL : L = ⟨d, op, none⟩ :: os) (hf : isFresh1 op = false) (hk : Hld (ydo P M n0 E H n (fun v H' n' => yds P M n0 Kd os (put E d v) H' n' fs) op)) : Hld (yds P M n0 Kd L E H n fs) := by
 subst hL
 cases op <;> first
  | exact ⟨hk.un⟩
  | cases hf
theorem dsg {t : Nat} {want : Bool} (hL : L = ⟨d, op, some (t, want)⟩ :: os) (ht : E.getD t .unk = .bool want) (hf : isFresh1 op = false) (hk : Hld (ydo P M n0 E H n (fun v H' n' => yds P M n0 Kd os (put E d v) H' n' fs) op)) : Hld (yds P M n0 Kd L E H n fs) := by
 subst hL
 have hg : gate (some (t, want)) E = some true := by simp only [gate, ht]; simp
 constructor
 unfold yds
 simp only [hg]
 cases op <;> first
  | exact hk.un
  | cases hf
theorem ydo_q {K : AV → Heap → Nat → Prop} (hq : op.quiet = true) (hs : seenOk M n0 (seen E op) = true) (h : Hld (yop P E H n (fun v _ _ => K v H n) op)) : Hld (ydo P M n0 E H n K op) := by
 constructor
 unfold ydo; rw [hq]; exact bc_t hs h.un
theorem ydo_n {K : AV → Heap → Nat → Prop} (hq : op.quiet = false) (h : Hld (yop P E H n (fun v H' n' => Agr M n0 H H' ∧ K v H' n') op)) : Hld (ydo P M n0 E H n K op) := by
 constructor
 unfold ydo; rw [hq]; exact h.un
theorem yq_q {Kq : AV → Prop} {op : LOp} (hq : op.quiet = true) (h : Hld (yop P env H n (fun v _ _ => Kq v) op)) : Hld (yq P env H n Kq op) := by
 cases op <;> first
  | exact ⟨h.un⟩
  | cases hq
theorem op_st {v : AV} {K : AV → Heap → Nat → Prop} (h : ∀ K, yop P E H n K op = K v H' n') (hk : Hld (K v H' n')) : Hld (yop P E H n K op) := ⟨by rw [h]; exact hk.un⟩
theorem agr_put {r : Nat} {t : Option Root} (h : (M.contains r || Nat.ble n0 r) = true) : Agr M n0 H ((r, t) :: H) := fun r' h1 h2 => by
 simp only [Bool.or_eq_true, Nat.ble_eq] at h
 simp only [Heap.get1]
 rw [if_neg]
 intro e
 subst e
 rcases h with h | h
 · rw [h] at h2; cases h2
 · omega
theorem name_ge : ∀ {x : AV} {k : Nat}, (∀ p ∈ (nameV k x).2.1, k ≤ p.1) := by
 have h1 : ∀ {x : AV} {k : Nat}, (∀ p ∈ (name1 k x).2.1, k ≤ p.1) ∧ k ≤ (name1 k x).2.2 := by
  intro x k; cases x <;> simp [name1]
 have h2 : ∀ {xs : List AV} {k : Nat}, (∀ p ∈ (nameL k xs).2.1, k ≤ p.1) ∧ k ≤ (nameL k xs).2.2 := by
  intro xs
  induction xs with
  | nil => intro k; simp [nameL]
  | cons x xs ih =>
   intro k
   simp only [nameL, List.mem_append]
   have a := h1 (x := x) (k := k)
   have b := ih (k := (name1 k x).2.2)
   refine ⟨?_, Nat.le_trans a.2 b.2⟩
   rintro p (h | h)
   · exact Nat.le_trans a.2 (b.1 p h)
   · exact a.1 p h
 have h3 : ∀ {x : AV} {k : Nat}, (∀ p ∈ (nameA k x).2.1, k ≤ p.1) ∧ k ≤ (nameA k x).2.2 := by
  intro x k
  cases x
  case agg vs => exact h2
  all_goals exact h1
 have h4 : ∀ {xs : List AV} {k : Nat}, (∀ p ∈ (nameT k xs).2.1, k ≤ p.1) ∧ k ≤ (nameT k xs).2.2 := by
  intro xs
  induction xs with
  | nil => intro k; simp [nameT]
  | cons x xs ih =>
   intro k
   simp only [nameT, List.mem_append]
   have a := h3 (x := x) (k := k)
   have b := ih (k := (nameA k x).2.2)
   refine ⟨?_, Nat.le_trans a.2 b.2⟩
   rintro p (h | h)
   · exact Nat.le_trans a.2 (b.1 p h)
   · exact a.1 p h
 intro x k
 cases x
 case tup vs => exact h4.1
 all_goals exact h3.1
theorem agr_app {Hr : Heap} (h : ∀ p ∈ Hr, n0 ≤ p.1) : Agr M n0 H (Hr ++ H) := by
 induction Hr with
 | nil => exact Agr.refl
 | cons p Hr ih =>
  obtain ⟨k, t⟩ := p
  exact (ih fun q hq => h q (by simp [hq])).trans (Agr.cons (h (k, t) (by simp)))
theorem agr_name {r v : AV} {Hr : Heap} (hn : nameV n r = (v, Hr, n')) (h : n0 ≤ n) : Agr M n0 H (Hr ++ H) :=
 agr_app fun p hp => Nat.le_trans h (name_ge (x := r) p (by rw [hn]; exact hp))
end
end
end Go.Proofs.Ytmjphjphgjmojaa
