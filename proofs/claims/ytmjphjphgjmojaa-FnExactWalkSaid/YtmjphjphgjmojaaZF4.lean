/- Slice expressions and conversions between integers, in the abstract machine. No program is named here. -/
import Derived.Test.YtmjphjphgjmojaaZF3
namespace Go.Proofs.Ytmjphjphgjmojaa
set_option linter.all false
open Go.RowKit
section
variable {P : Program} {Φ : Fz} {n : Nat} {β : Spots} {env : List AV} {H : Heap} {a : Act} {w : World} {K : AV → Heap → Nat → Prop}
theorem bound_sound (he : Env Φ n β env a) {x : Option Operand} {y : Option Opd} {d z : Int} (hl : lowOptOpd x = some y) (hb : boundOf env y d = some z) :
 (x = none ∧ z = d) ∨ ∃ u k, x = some u ∧ a.eval u = .int k z := by
 cases x with
 | none =>
  simp only [lowOptOpd, Option.some.injEq] at hl
  subst hl
  simp only [boundOf, Option.some.injEq] at hb
  exact .inl ⟨rfl, hb.symm⟩
 | some u =>
  simp only [lowOptOpd] at hl
  obtain ⟨y', h1, rfl⟩ := Option.map_eq_some_iff.1 hl
  have h0 := lowOpd_sound he h1
  simp only [boundOf] at hb
  split at hb
  · rename_i k z' e1
    cases hb
    rw [e1] at h0
    simp only [RV] at h0
    exact .inr ⟨u, k, rfl, h0.1⟩
  · cases hb
theorem run_bounds {x y : Option Operand} {l h : Int} {m cap : Nat} (hx : (x = none ∧ l = 0) ∨ ∃ u k, x = some u ∧ a.eval u = .int k l) (hy : (y = none ∧ h = m) ∨ ∃ u k, y = some u ∧ a.eval u = .int k h)
 (h0 : 0 ≤ l) (h1 : l ≤ h) (h2 : h ≤ m) (hmc : m ≤ cap) (w : World) : (Instr.sliceBounds true m cap (x.map a.eval) (y.map a.eval) none).run P w = .ok (l.toNat, h.toNat, cap) w := by
 have e1 : 0 ≤ h := by omega
 have e2 : h ≤ (cap : Int) := by omega
 have e3 : (h.toNat : Int) = h := Int.toNat_of_nonneg e1
 rcases hx with ⟨rfl, rfl⟩ | ⟨u, k, rfl, e4⟩ <;> rcases hy with ⟨rfl, rfl⟩ | ⟨u', k', rfl, e5⟩
 · simp [Instr.sliceBounds]
 · simp [Instr.sliceBounds, Instr.sliceBound, e5, asIntOf, e1, e2]
 · simp [Instr.sliceBounds, Instr.sliceBound, e4, asIntOf, h0, h1]
 · simp [Instr.sliceBounds, Instr.sliceBound, e4, e5, asIntOf, e1, e2, h0, h1, e3]
theorem do_slc {o : Oper} {t e : TypeId} {x : Operand} {lo hi : Option Operand} {x' : Opd} {lo' hi' : Option Opd} {inf : TypeInfo} (ho : o.op = .slice t x lo hi none) (ht : P.underlying t = some (.slice e)) (hi0 : P.info? e = some inf) (hpos : 0 < inf.size)
 (hx : lowOpd x = some x') (hlo : lowOptOpd lo = some lo') (hhi : lowOptOpd hi = some hi')
 (he : Env Φ n β env a) (h : xop P env H n K (.slc inf.size x' lo' hi')) : QDone P o a Φ n β H K w := by
 have h0 := lowOpd_sound he hx
 have key : ∀ (s : Option Addr) (m cap : Nat) (l h : Int), a.eval x = .slice s m cap → boundOf env lo' 0 = some l → boundOf env hi' m = some h → 0 ≤ l → l ≤ h → h ≤ m → m ≤ cap → ∀ w', 
  (execOp a.eval o).run P w' = .ok (.value (.slice (if cap = l.toNat then s else s.map (·.add (l.toNat * inf.size))) (h.toNat - l.toNat) (cap - l.toNat))) w' := by
  intro s m cap l h e1 hl hh k0 k1 k2 k3 w'
  have hb := run_bounds (P := P) (bound_sound he hlo hl) (bound_sound he hhi hh) k0 k1 k2 k3 w'
  simp [execOp, ho, Instr.sliceAt, Instr.slice, run_underlying ht, e1, hb, sizeOf, typeInfo, hi0]
 simp only [xop] at h
 split at h
 · rename_i l hl
   split at h
   · rename_i e1
     rw [e1] at h0
     simp only [RV] at h0
     split at h
     · rename_i hh hhh
       obtain ⟨⟨rfl, rfl⟩, hK⟩ := h
       have := key none 0 0 0 0 h0 hl hhh (Int.le_refl _) (Int.le_refl _) (by simp) (Nat.le_refl _)
       refine done_same (v := .slice none 0 0) (fun w' _ => by rw [this w']; simp) (by simp [RV]) hK
     · exact h.elim
   · rename_i r π p m sz' e1
     rw [e1] at h0
     simp only [RV] at h0
     split at h
     · rename_i hh hhh
       obtain ⟨⟨rfl, k0, k1, k2⟩, hK⟩ := h
       obtain ⟨hrn, s, cap, q1, q2, q3, q4⟩ := h0
       refine done_same (fun w' _ => key s m cap l hh q1 hl hhh k0 k1 k2 q2 w') ?_ hK
       simp only [RV]
       refine ⟨hrn, _, _, rfl, by omega, by omega, ?_⟩
       have hL : (l.toNat : Int) = l := Int.toNat_of_nonneg k0
       have hH' : (hh.toNat : Int) = hh := Int.toNat_of_nonneg (by omega)
       by_cases hc : cap = l.toNat
       · rw [if_pos hc]
         by_cases hz : l.toNat = 0
         · rw [hz] at hc ⊢
           rcases q4 with ⟨q4, q5, q6⟩ | ⟨q4, q5, q6⟩
           · exact .inl ⟨by omega, by omega, by simpa using q6⟩
           · exact .inr ⟨q4, by simpa using q5, by simp only [hc] at q6 ⊢; simpa using q6⟩
         · have := Nat.mul_pos (Nat.pos_of_ne_zero hz) hpos
           exact .inl ⟨by omega, by omega, .inl (by omega)⟩
       · rw [if_neg hc]
         rcases q4 with ⟨q4, q5, q6⟩ | ⟨q4, rfl, q6⟩
         · omega
         · refine .inr ⟨q4, by simp [addr_add], ?_⟩
           have : l.toNat ≤ cap := by omega
           rw [Nat.add_assoc, ← Nat.add_mul, show l.toNat + (cap - l.toNat) = cap by omega]
           exact q6
     · exact h.elim
   · rename_i m cs e1
     rw [e1] at h0
     simp only [RV] at h0
     split at h
     · rename_i hh hhh
       obtain ⟨⟨hcs, k0, k1, k2⟩, hK⟩ := h
       obtain ⟨s, cap, vs, q1, q2, q3, q4, q5⟩ := h0
       refine done_same (fun w' _ => key s m cap l hh q1 hl hhh k0 k1 k2 q2 w') ?_ hK
       simp only [RV]
       have hL : (l.toNat : Int) = l := Int.toNat_of_nonneg k0
       have hH' : (hh.toNat : Int) = hh := Int.toNat_of_nonneg (by omega)
       have hvl := q5.length
       refine ⟨_, _, (vs.drop (l.toNat * inf.size)).take ((hh.toNat - l.toNat) * inf.size), rfl, by omega, by omega, ?_, (q5.drop _).take _⟩
       by_cases hz : hh.toNat = l.toNat
       · refine .inl ?_
         rw [hz, Nat.sub_self, Nat.zero_mul, List.take_zero]
       · rw [if_neg (by omega)]
         rcases q4 with rfl | ⟨b, p, ar, ee, fz, rfl, hb, hcell⟩
         · exact .inl (by simp)
         · refine .inr ⟨b, p + l.toNat * inf.size, ar, ee, fz, by simp [addr_add], hb, fun i hi => ?_⟩
           simp only [List.length_take, List.length_drop] at hi
           have hlt : l.toNat * inf.size + i < vs.length := by omega
           have := hcell (l.toNat * inf.size + i) hlt
           rw [Nat.add_assoc, this]
           simp [List.getD, List.getElem?_take, List.getElem?_drop, show i < (hh.toNat - l.toNat) * inf.size by omega]
     · exact h.elim
   · exact h.elim
 · exact h.elim
theorem do_cvt {o : Oper} {src dst : TypeId} {k k' : IntKind} {x : Operand} {x' : Opd} (ho : o.op = .convert src dst x) (hs : P.underlying src = some (.int k')) (hd : P.underlying dst = some (.int k)) (hx : lowOpd x = some x')
 (he : Env Φ n β env a) (h : xop P env H n K (.cvt k x')) : QDone P o a Φ n β H K w := by
 have h0 := lowOpd_sound he hx
 simp only [xop] at h
 split at h
 · rename_i k2 z e1
   rw [e1] at h0
   simp only [RV] at h0
   exact done_same (v := .int k (k.wrap z)) (fun w' _ => by simp [execOp, ho, h0.1, convert, run_underlying hs, run_underlying hd, Conv.intToInt]) (by simp [RV, wrap_within]) h
 · exact h.elim
end
end Go.Proofs.Ytmjphjphgjmojaa
