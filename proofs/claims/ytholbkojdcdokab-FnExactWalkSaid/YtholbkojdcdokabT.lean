/- The texts of the program's functions, in the machine's words (printed by program, asked of the kernel). -/
import Derived.Test.YtholbkojdcdokabL
import Derived.Test.YtholbkojdcdokabProg
namespace Go.Proofs.Ytholbkojdcdokab
-- 3 loop.example/guesthouse/laws.FnExactInsFrom
def L_laws_FnExactInsFrom_r0 : List LOper := [⟨(some 2), (.mv (.c (.bool false))), none⟩]
def L_laws_FnExactInsFrom_r1 : List LOper := [⟨(some 5), (.mv (.t 0)), none⟩, ⟨(some 6), (.call 9 [(.t 5)]), none⟩, ⟨(some 3), (.fresh 23 [(.int .i64 0), (.int .i64 0), (.int .i64 0)]), none⟩, ⟨none, (.store 3 (.t 3) (.t 6)), none⟩]
def L_laws_FnExactInsFrom_r2 : List LOper := [⟨(some 7), (.mv (.t 0)), none⟩, ⟨(some 8), (.call 10 [(.t 7)]), none⟩, ⟨(some 4), (.fresh 23 [(.int .i64 0), (.int .i64 0), (.int .i64 0)]), none⟩, ⟨none, (.store 3 (.t 4) (.t 8)), none⟩]
def L_laws_FnExactInsFrom_r3 : List LOper := [⟨(some 9), (.load true 3 (.t 4)), none⟩, ⟨(some 10), (.load true 3 (.t 3)), none⟩, ⟨(some 11), (.call 11 [(.t 9), (.t 10)]), none⟩, ⟨(some 12), (.un .not (.t 11)), none⟩]
def L_laws_FnExactInsFrom_r4 : List LOper := [⟨(some 2), (.mv (.c (.bool false))), none⟩]
def L_laws_FnExactInsFrom_r5 : List LOper := [⟨(some 2), (.mv (.c (.bool true))), none⟩]
def L_laws_FnExactInsFrom : LFun := ⟨13, [(.tmp 2)], (.seq (.reg false L_laws_FnExactInsFrom_r0) (.seq (.reg false L_laws_FnExactInsFrom_r1) (.seq (.reg false L_laws_FnExactInsFrom_r2) (.seq (.seq (.reg false L_laws_FnExactInsFrom_r3) (.cond (.t 12) (.seq (.reg false L_laws_FnExactInsFrom_r4) .ret) .skip)) (.seq (.reg false L_laws_FnExactInsFrom_r5) .ret)))))⟩
theorem low_laws_FnExactInsFrom : lowFun Go.Proofs.Try.prog 3 = some L_laws_FnExactInsFrom := by kernel_rfl
-- 4 loop.example/guesthouse/laws.FnExactInsKernel
def L_laws_FnExactInsKernel_r0 : List LOper := [⟨(some 1), (.box 27 (.t 0)), none⟩, ⟨(some 2), (.mv (.c (.bool false))), none⟩]
def L_laws_FnExactInsKernel_r1 : List LOper := [⟨(some 5), (.load true 3 (.t 1)), none⟩, ⟨(some 6), (.call 13 [(.t 5)]), none⟩, ⟨(some 7), (.call 12 [(.t 6)]), none⟩, ⟨(some 3), (.mv (.t 7)), none⟩]
def L_laws_FnExactInsKernel_r2 : List LOper := [⟨(some 8), (.load true 3 (.t 1)), none⟩, ⟨(some 9), (.call 13 [(.t 8)]), none⟩, ⟨(some 10), (.call 14 [(.t 9)]), none⟩, ⟨(some 4), (.mv (.t 10)), none⟩]
def L_laws_FnExactInsKernel_r3 : List LOper := [⟨(some 11), (.mv (.t 4)), none⟩, ⟨(some 12), (.mv (.t 3)), none⟩, ⟨(some 13), (.binb true (.t 11) (.t 12)), none⟩]
def L_laws_FnExactInsKernel_r4 : List LOper := [⟨(some 2), (.mv (.c (.bool false))), none⟩]
def L_laws_FnExactInsKernel_r5 : List LOper := [⟨(some 2), (.mv (.c (.bool true))), none⟩]
def L_laws_FnExactInsKernel : LFun := ⟨14, [(.tmp 2)], (.seq (.reg false L_laws_FnExactInsKernel_r0) (.seq (.reg false L_laws_FnExactInsKernel_r1) (.seq (.reg false L_laws_FnExactInsKernel_r2) (.seq (.seq (.reg false L_laws_FnExactInsKernel_r3) (.cond (.t 13) (.seq (.reg false L_laws_FnExactInsKernel_r4) .ret) .skip)) (.seq (.reg false L_laws_FnExactInsKernel_r5) .ret)))))⟩
theorem low_laws_FnExactInsKernel : lowFun Go.Proofs.Try.prog 4 = some L_laws_FnExactInsKernel := by kernel_rfl
-- 5 loop.example/guesthouse/laws.FnExactMemOk
def L_laws_FnExactMemOk_r0 : List LOper := [⟨(some 2), (.mv (.c (.bool false))), none⟩]
def L_laws_FnExactMemOk_r1 : List LOper := [⟨(some 6), (.mv (.t 0)), none⟩, ⟨(some 7), (.len (.t 6)), none⟩, ⟨(some 8), (.bin .gtr (.t 7) (.c (.int .i64 1048576))), none⟩]
def L_laws_FnExactMemOk_r2 : List LOper := [⟨(some 2), (.mv (.c (.bool true))), none⟩]
def L_laws_FnExactMemOk_r3 : List LOper := [⟨(some 9), (.mv (.t 0)), none⟩, ⟨(some 10), (.call 16 [(.t 9)]), none⟩, ⟨(some 11), (.call 15 [(.t 10)]), none⟩, ⟨(some 3), (.mv (.t 11)), none⟩]
def L_laws_FnExactMemOk_r4 : List LOper := [⟨(some 12), (.mv (.t 0)), none⟩, ⟨(some 13), (.call 16 [(.t 12)]), none⟩, ⟨(some 4), (.mv (.t 13)), none⟩]
def L_laws_FnExactMemOk_r5 : List LOper := [⟨(some 14), (.mv (.t 4)), none⟩, ⟨(some 15), (.call 17 [(.t 14)]), none⟩, ⟨(some 5), (.mv (.t 15)), none⟩]
def L_laws_FnExactMemOk_r6 : List LOper := [⟨(some 16), (.mv (.t 5)), none⟩, ⟨(some 17), (.mv (.t 3)), none⟩, ⟨(some 18), (.binb true (.t 16) (.t 17)), none⟩]
def L_laws_FnExactMemOk_r7 : List LOper := [⟨(some 2), (.mv (.c (.bool false))), none⟩]
def L_laws_FnExactMemOk_r8 : List LOper := [⟨(some 19), (.mv (.t 4)), none⟩, ⟨(some 20), (.mv (.t 0)), none⟩, ⟨(some 21), (.call 16 [(.t 20)]), none⟩, ⟨(some 22), (.call 18 [(.t 19), (.t 21)]), none⟩, ⟨(some 23), (.un .not (.t 22)), none⟩]
def L_laws_FnExactMemOk_r9 : List LOper := [⟨(some 2), (.mv (.c (.bool false))), none⟩]
def L_laws_FnExactMemOk_r10 : List LOper := [⟨(some 2), (.mv (.c (.bool true))), none⟩]
def L_laws_FnExactMemOk : LFun := ⟨24, [(.tmp 2)], (.seq (.reg false L_laws_FnExactMemOk_r0) (.seq (.seq (.reg false L_laws_FnExactMemOk_r1) (.cond (.t 8) (.seq (.reg false L_laws_FnExactMemOk_r2) .ret) .skip)) (.seq (.reg false L_laws_FnExactMemOk_r3) (.seq (.reg false L_laws_FnExactMemOk_r4) (.seq (.reg false L_laws_FnExactMemOk_r5) (.seq (.seq (.reg false L_laws_FnExactMemOk_r6) (.cond (.t 18) (.seq (.reg false L_laws_FnExactMemOk_r7) .ret) .skip)) (.seq (.seq (.reg false L_laws_FnExactMemOk_r8) (.cond (.t 23) (.seq (.reg false L_laws_FnExactMemOk_r9) .ret) .skip)) (.seq (.reg false L_laws_FnExactMemOk_r10) .ret))))))))⟩
theorem low_laws_FnExactMemOk : lowFun Go.Proofs.Try.prog 5 = some L_laws_FnExactMemOk := by kernel_rfl
-- 6 loop.example/guesthouse/laws.FnExactEntryWord
def L_laws_FnExactEntryWord_r0 : List LOper := [⟨(some 1), (.box 36 (.t 0)), none⟩, ⟨(some 2), (.mv (.c (.bool false))), none⟩]
def L_laws_FnExactEntryWord_r1 : List LOper := [⟨(some 5), (.load true 4 (.t 1)), none⟩, ⟨(some 6), (.call 20 [(.t 5)]), none⟩, ⟨(some 7), (.call 19 [(.t 6)]), none⟩, ⟨(some 3), (.mv (.t 7)), none⟩]
def L_laws_FnExactEntryWord_r2 : List LOper := [⟨(some 8), (.load true 4 (.t 1)), none⟩, ⟨(some 9), (.call 20 [(.t 8)]), none⟩, ⟨(some 10), (.call 21 [(.t 9)]), none⟩, ⟨(some 4), (.mv (.t 10)), none⟩]
def L_laws_FnExactEntryWord_r3 : List LOper := [⟨(some 11), (.mv (.t 4)), none⟩, ⟨(some 12), (.mv (.t 3)), none⟩, ⟨(some 13), (.bin .neq (.t 11) (.t 12)), none⟩]
def L_laws_FnExactEntryWord_r4 : List LOper := [⟨(some 2), (.mv (.c (.bool false))), none⟩]
def L_laws_FnExactEntryWord_r5 : List LOper := [⟨(some 2), (.mv (.c (.bool true))), none⟩]
def L_laws_FnExactEntryWord : LFun := ⟨14, [(.tmp 2)], (.seq (.reg false L_laws_FnExactEntryWord_r0) (.seq (.reg false L_laws_FnExactEntryWord_r1) (.seq (.reg false L_laws_FnExactEntryWord_r2) (.seq (.seq (.reg false L_laws_FnExactEntryWord_r3) (.cond (.t 13) (.seq (.reg false L_laws_FnExactEntryWord_r4) .ret) .skip)) (.seq (.reg false L_laws_FnExactEntryWord_r5) .ret)))))⟩
theorem low_laws_FnExactEntryWord : lowFun Go.Proofs.Try.prog 6 = some L_laws_FnExactEntryWord := by kernel_rfl
-- 7 loop.example/guesthouse/laws.FnExactEntryFrom
def L_laws_FnExactEntryFrom_r0 : List LOper := [⟨(some 2), (.mv (.c (.bool false))), none⟩]
def L_laws_FnExactEntryFrom_r1 : List LOper := [⟨(some 5), (.mv (.t 0)), none⟩, ⟨(some 6), (.call 22 [(.t 5)]), none⟩, ⟨(some 3), (.fresh 38 [(.bool false), (.bool false), (.bool false), (.int .i64 0)]), none⟩, ⟨none, (.store 4 (.t 3) (.t 6)), none⟩]
def L_laws_FnExactEntryFrom_r2 : List LOper := [⟨(some 7), (.mv (.t 0)), none⟩, ⟨(some 8), (.call 23 [(.t 7)]), none⟩, ⟨(some 4), (.fresh 38 [(.bool false), (.bool false), (.bool false), (.int .i64 0)]), none⟩, ⟨none, (.store 4 (.t 4) (.t 8)), none⟩]
def L_laws_FnExactEntryFrom_r3 : List LOper := [⟨(some 9), (.load true 4 (.t 4)), none⟩, ⟨(some 10), (.load true 4 (.t 3)), none⟩, ⟨(some 11), (.call 24 [(.t 9), (.t 10)]), none⟩, ⟨(some 12), (.un .not (.t 11)), none⟩]
def L_laws_FnExactEntryFrom_r4 : List LOper := [⟨(some 2), (.mv (.c (.bool false))), none⟩]
def L_laws_FnExactEntryFrom_r5 : List LOper := [⟨(some 2), (.mv (.c (.bool true))), none⟩]
def L_laws_FnExactEntryFrom : LFun := ⟨13, [(.tmp 2)], (.seq (.reg false L_laws_FnExactEntryFrom_r0) (.seq (.reg false L_laws_FnExactEntryFrom_r1) (.seq (.reg false L_laws_FnExactEntryFrom_r2) (.seq (.seq (.reg false L_laws_FnExactEntryFrom_r3) (.cond (.t 12) (.seq (.reg false L_laws_FnExactEntryFrom_r4) .ret) .skip)) (.seq (.reg false L_laws_FnExactEntryFrom_r5) .ret)))))⟩
theorem low_laws_FnExactEntryFrom : lowFun Go.Proofs.Try.prog 7 = some L_laws_FnExactEntryFrom := by kernel_rfl
-- 8 loop.example/guesthouse/laws.FnExactWalk
def L_laws_FnExactWalk_r0 : List LOper := [⟨(some 10), (.mv (.c (.bool false))), none⟩]
def L_laws_FnExactWalk_r1 : List LOper := [⟨(some 14), (.mv (.t 0)), none⟩, ⟨(some 15), (.len (.t 14)), none⟩, ⟨(some 16), (.bin .gtr (.t 15) (.c (.int .i64 1048576))), none⟩]
def L_laws_FnExactWalk_r2 : List LOper := [⟨(some 10), (.mv (.c (.bool true))), none⟩]
def L_laws_FnExactWalk_r3 : List LOper := [⟨(some 17), (.mv (.t 0)), none⟩, ⟨(some 18), (.call 16 [(.t 17)]), none⟩, ⟨(some 19), (.mv (.t 1)), none⟩, ⟨(some 20), (.mv (.t 2)), none⟩, ⟨(some 21), (.mv (.t 3)), none⟩, ⟨(some 22), (.mv (.t 4)), none⟩, ⟨(some 23), (.call 25 [(.t 18), (.t 19), (.t 20), (.t 21), (.t 22)]), none⟩, ⟨(some 11), (.mv (.t 23)), none⟩]
def L_laws_FnExactWalk_r4 : List LOper := [⟨(some 24), (.mv (.t 0)), none⟩, ⟨(some 25), (.call 16 [(.t 24)]), none⟩, ⟨(some 12), (.mv (.t 25)), none⟩]
def L_laws_FnExactWalk_r5 : List LOper := [⟨(some 26), (.mv (.t 12)), none⟩, ⟨(some 27), (.mv (.t 1)), none⟩, ⟨(some 28), (.mv (.t 2)), none⟩, ⟨(some 29), (.mv (.t 3)), none⟩, ⟨(some 30), (.mv (.t 4)), none⟩, ⟨(some 31), (.call 26 [(.t 26), (.t 27), (.t 28), (.t 29), (.t 30)]), none⟩, ⟨(some 13), (.mv (.t 31)), none⟩]
def L_laws_FnExactWalk_r6 : List LOper := [⟨(some 32), (.mv (.t 13)), none⟩, ⟨(some 33), (.mv (.t 11)), none⟩, ⟨(some 34), (.bin .neq (.t 32) (.t 33)), none⟩]
def L_laws_FnExactWalk_r7 : List LOper := [⟨(some 10), (.mv (.c (.bool false))), none⟩]
def L_laws_FnExactWalk_r8 : List LOper := [⟨(some 35), (.mv (.t 12)), none⟩, ⟨(some 36), (.mv (.t 0)), none⟩, ⟨(some 37), (.call 16 [(.t 36)]), none⟩, ⟨(some 38), (.call 18 [(.t 35), (.t 37)]), none⟩, ⟨(some 39), (.un .not (.t 38)), none⟩]
def L_laws_FnExactWalk_r9 : List LOper := [⟨(some 10), (.mv (.c (.bool false))), none⟩]
def L_laws_FnExactWalk_r10 : List LOper := [⟨(some 10), (.mv (.c (.bool true))), none⟩]
def L_laws_FnExactWalk : LFun := ⟨40, [(.tmp 10)], (.seq (.reg false L_laws_FnExactWalk_r0) (.seq (.seq (.reg false L_laws_FnExactWalk_r1) (.cond (.t 16) (.seq (.reg false L_laws_FnExactWalk_r2) .ret) .skip)) (.seq (.reg false L_laws_FnExactWalk_r3) (.seq (.reg false L_laws_FnExactWalk_r4) (.seq (.reg false L_laws_FnExactWalk_r5) (.seq (.seq (.reg false L_laws_FnExactWalk_r6) (.cond (.t 34) (.seq (.reg false L_laws_FnExactWalk_r7) .ret) .skip)) (.seq (.seq (.reg false L_laws_FnExactWalk_r8) (.cond (.t 39) (.seq (.reg false L_laws_FnExactWalk_r9) .ret) .skip)) (.seq (.reg false L_laws_FnExactWalk_r10) .ret))))))))⟩
theorem low_laws_FnExactWalk : lowFun Go.Proofs.Try.prog 8 = some L_laws_FnExactWalk := by kernel_rfl
-- 9 loop.example/guesthouse/spec.InsFrom
def L_spec_InsFrom_r0 : List LOper := [⟨(some 2), (.fresh 23 [(.int .i64 0), (.int .i64 0), (.int .i64 0)]), none⟩]
def L_spec_InsFrom_r1 : List LOper := [⟨(some 3), (.mv (.t 0)), none⟩, ⟨(some 4), (.call 27 [(.t 3)]), none⟩, ⟨(some 5), (.un .not (.t 4)), none⟩]
def L_spec_InsFrom_r2 : List LOper := [⟨(some 6), (.bld [(.int .i64 0), (.int .i64 0), (.int .i64 0)] []), none⟩, ⟨none, (.store 3 (.t 2) (.t 6)), none⟩]
def L_spec_InsFrom_r3 : List LOper := [⟨(some 7), (.mv (.t 0)), none⟩, ⟨(some 8), (.bin .quo (.t 7) (.c (.int .i64 256))), none⟩, ⟨(some 9), (.mv (.t 0)), none⟩, ⟨(some 10), (.bin .quo (.t 9) (.c (.int .i64 64))), none⟩, ⟨(some 11), (.bin .rem (.t 10) (.c (.int .i64 4))), none⟩, ⟨(some 12), (.mv (.t 0)), none⟩, ⟨(some 13), (.bin .rem (.t 12) (.c (.int .i64 64))), none⟩, ⟨(some 14), (.bld [(.int .i64 0), (.int .i64 0), (.int .i64 0)] [(0, (1, (.t 8))), (1, (1, (.t 11))), (2, (1, (.t 13)))]), none⟩, ⟨none, (.store 3 (.t 2) (.t 14)), none⟩]
def L_spec_InsFrom : LFun := ⟨15, [(.cell 2 true 3)], (.seq (.reg false L_spec_InsFrom_r0) (.seq (.seq (.reg false L_spec_InsFrom_r1) (.cond (.t 5) (.seq (.reg false L_spec_InsFrom_r2) .ret) .skip)) (.seq (.reg false L_spec_InsFrom_r3) .ret)))⟩
theorem low_spec_InsFrom : lowFun Go.Proofs.Try.prog 9 = some L_spec_InsFrom := by kernel_rfl
-- 10 loop.example/guesthouse/impl.InsFrom
def L_impl_InsFrom_r0 : List LOper := [⟨(some 2), (.fresh 23 [(.int .i64 0), (.int .i64 0), (.int .i64 0)]), none⟩]
def L_impl_InsFrom_r1 : List LOper := [⟨(some 3), (.mv (.t 0)), none⟩, ⟨(some 4), (.call 28 [(.t 3)]), none⟩, ⟨(some 5), (.un .not (.t 4)), none⟩]
def L_impl_InsFrom_r2 : List LOper := [⟨(some 6), (.bld [(.int .i64 0), (.int .i64 0), (.int .i64 0)] []), none⟩, ⟨none, (.store 3 (.t 2) (.t 6)), none⟩]
def L_impl_InsFrom_r3 : List LOper := [⟨(some 7), (.mv (.t 0)), none⟩, ⟨(some 8), (.bin .quo (.t 7) (.c (.int .i64 256))), none⟩, ⟨(some 9), (.mv (.t 0)), none⟩, ⟨(some 10), (.bin .quo (.t 9) (.c (.int .i64 64))), none⟩, ⟨(some 11), (.bin .rem (.t 10) (.c (.int .i64 4))), none⟩, ⟨(some 12), (.mv (.t 0)), none⟩, ⟨(some 13), (.bin .rem (.t 12) (.c (.int .i64 64))), none⟩, ⟨(some 14), (.bld [(.int .i64 0), (.int .i64 0), (.int .i64 0)] [(0, (1, (.t 8))), (1, (1, (.t 11))), (2, (1, (.t 13)))]), none⟩, ⟨none, (.store 3 (.t 2) (.t 14)), none⟩]
def L_impl_InsFrom : LFun := ⟨15, [(.cell 2 true 3)], (.seq (.reg false L_impl_InsFrom_r0) (.seq (.seq (.reg false L_impl_InsFrom_r1) (.cond (.t 5) (.seq (.reg false L_impl_InsFrom_r2) .ret) .skip)) (.seq (.reg false L_impl_InsFrom_r3) .ret)))⟩
theorem low_impl_InsFrom : lowFun Go.Proofs.Try.prog 10 = some L_impl_InsFrom := by kernel_rfl
-- 11 loop.example/guesthouse/laws.eqIns
def L_laws_eqIns_r0 : List LOper := [⟨(some 2), (.box 23 (.t 0)), none⟩, ⟨(some 3), (.box 23 (.t 1)), none⟩, ⟨(some 4), (.mv (.c (.bool false))), none⟩]
def L_laws_eqIns_r1 : List LOper := [⟨(some 5), (.fadr 0 (.t 2)), none⟩, ⟨(some 6), (.load false 1 (.t 5)), none⟩, ⟨(some 7), (.fadr 0 (.t 3)), none⟩, ⟨(some 8), (.load false 1 (.t 7)), none⟩, ⟨(some 9), (.bin .neq (.t 6) (.t 8)), none⟩]
def L_laws_eqIns_r2 : List LOper := [⟨(some 4), (.mv (.c (.bool false))), none⟩]
def L_laws_eqIns_r3 : List LOper := [⟨(some 10), (.fadr 1 (.t 2)), none⟩, ⟨(some 11), (.load false 1 (.t 10)), none⟩, ⟨(some 12), (.fadr 1 (.t 3)), none⟩, ⟨(some 13), (.load false 1 (.t 12)), none⟩, ⟨(some 14), (.bin .neq (.t 11) (.t 13)), none⟩]
def L_laws_eqIns_r4 : List LOper := [⟨(some 4), (.mv (.c (.bool false))), none⟩]
def L_laws_eqIns_r5 : List LOper := [⟨(some 15), (.fadr 2 (.t 2)), none⟩, ⟨(some 16), (.load false 1 (.t 15)), none⟩, ⟨(some 17), (.fadr 2 (.t 3)), none⟩, ⟨(some 18), (.load false 1 (.t 17)), none⟩, ⟨(some 19), (.bin .neq (.t 16) (.t 18)), none⟩]
def L_laws_eqIns_r6 : List LOper := [⟨(some 4), (.mv (.c (.bool false))), none⟩]
def L_laws_eqIns_r7 : List LOper := [⟨(some 4), (.mv (.c (.bool true))), none⟩]
def L_laws_eqIns : LFun := ⟨20, [(.tmp 4)], (.seq (.reg false L_laws_eqIns_r0) (.seq (.seq (.reg false L_laws_eqIns_r1) (.cond (.t 9) (.seq (.reg false L_laws_eqIns_r2) .ret) .skip)) (.seq (.seq (.reg false L_laws_eqIns_r3) (.cond (.t 14) (.seq (.reg false L_laws_eqIns_r4) .ret) .skip)) (.seq (.seq (.reg false L_laws_eqIns_r5) (.cond (.t 19) (.seq (.reg false L_laws_eqIns_r6) .ret) .skip)) (.seq (.reg false L_laws_eqIns_r7) .ret)))))⟩
theorem low_laws_eqIns : lowFun Go.Proofs.Try.prog 11 = some L_laws_eqIns := by kernel_rfl
-- 12 loop.example/guesthouse/spec.InsKernel
def L_spec_InsKernel_r0 : List LOper := [⟨(some 1), (.box 23 (.t 0)), none⟩, ⟨(some 2), (.mv (.c (.bool false))), none⟩]
def L_spec_InsKernel_r1 : List LOper := [⟨(some 3), (.load true 3 (.t 1)), none⟩, ⟨(some 4), (.call 29 [(.t 3)]), none⟩, ⟨(some 5), (.mv (.t 4)), none⟩, ⟨(some 6), (.fadr 0 (.t 1)), (some (5, true))⟩, ⟨(some 7), (.load false 1 (.t 6)), (some (5, true))⟩, ⟨(some 8), (.bin .eql (.t 7) (.c (.int .i64 0))), (some (5, true))⟩, ⟨(some 9), (.mv (.t 8)), (some (5, true))⟩, ⟨(some 10), (.fadr 0 (.t 1)), (some (9, false))⟩, ⟨(some 11), (.load false 1 (.t 10)), (some (9, false))⟩, ⟨(some 12), (.call 30 [(.t 11), (.c (.int .i64 8)), (.c (.int .i64 14))]), (some (9, false))⟩, ⟨(some 13), (.pick (.t 9) (.c (.bool true)) (.t 12)), (some (5, true))⟩, ⟨(some 14), (.pick (.t 5) (.t 13) (.c (.bool false))), none⟩, ⟨(some 2), (.mv (.t 14)), none⟩]
def L_spec_InsKernel : LFun := ⟨15, [(.tmp 2)], (.seq (.reg false L_spec_InsKernel_r0) (.seq (.reg false L_spec_InsKernel_r1) .ret))⟩
theorem low_spec_InsKernel : lowFun Go.Proofs.Try.prog 12 = some L_spec_InsKernel := by kernel_rfl
-- 13 loop.example/guesthouse/laws.toIns
def L_laws_toIns_r0 : List LOper := [⟨(some 1), (.box 27 (.t 0)), none⟩, ⟨(some 2), (.fresh 23 [(.int .i64 0), (.int .i64 0), (.int .i64 0)]), none⟩]
def L_laws_toIns_r1 : List LOper := [⟨(some 3), (.fresh 23 [(.int .i64 0), (.int .i64 0), (.int .i64 0)]), none⟩]
def L_laws_toIns_r2 : List LOper := [⟨(some 4), (.fadr 0 (.t 1)), none⟩, ⟨(some 5), (.load false 1 (.t 4)), none⟩, ⟨(some 6), (.fadr 0 (.t 3)), none⟩, ⟨none, (.store 1 (.t 6) (.t 5)), none⟩]
def L_laws_toIns_r3 : List LOper := [⟨(some 7), (.fadr 1 (.t 1)), none⟩, ⟨(some 8), (.load false 1 (.t 7)), none⟩, ⟨(some 9), (.fadr 1 (.t 3)), none⟩, ⟨none, (.store 1 (.t 9) (.t 8)), none⟩]
def L_laws_toIns_r4 : List LOper := [⟨(some 10), (.fadr 2 (.t 1)), none⟩, ⟨(some 11), (.load false 1 (.t 10)), none⟩, ⟨(some 12), (.fadr 2 (.t 3)), none⟩, ⟨none, (.store 1 (.t 12) (.t 11)), none⟩]
def L_laws_toIns_r5 : List LOper := [⟨(some 13), (.load true 3 (.t 3)), none⟩, ⟨none, (.store 3 (.t 2) (.t 13)), none⟩]
def L_laws_toIns : LFun := ⟨14, [(.cell 2 true 3)], (.seq (.reg false L_laws_toIns_r0) (.seq (.reg false L_laws_toIns_r1) (.seq (.reg false L_laws_toIns_r2) (.seq (.reg false L_laws_toIns_r3) (.seq (.reg false L_laws_toIns_r4) (.seq (.reg false L_laws_toIns_r5) .ret))))))⟩
theorem low_laws_toIns : lowFun Go.Proofs.Try.prog 13 = some L_laws_toIns := by kernel_rfl
-- 14 loop.example/guesthouse/impl.InsKernel
def L_impl_InsKernel_r0 : List LOper := [⟨(some 1), (.box 23 (.t 0)), none⟩, ⟨(some 2), (.mv (.c (.bool false))), none⟩]
def L_impl_InsKernel_r1 : List LOper := [⟨(some 3), (.load true 3 (.t 1)), none⟩, ⟨(some 4), (.call 31 [(.t 3)]), none⟩, ⟨(some 5), (.un .not (.t 4)), none⟩]
def L_impl_InsKernel_r2 : List LOper := [⟨(some 2), (.mv (.c (.bool false))), none⟩]
def L_impl_InsKernel_r3 : List LOper := [⟨(some 6), (.fadr 0 (.t 1)), none⟩, ⟨(some 7), (.load false 1 (.t 6)), none⟩]
def L_impl_InsKernel_r4 : List LOper := [⟨(some 9), (.bin .eql (.t 7) (.c (.int .i64 0))), none⟩, ⟨(some 8), (.mv (.t 9)), none⟩]
def L_impl_InsKernel_r5 : List LOper := [⟨(some 10), (.bin .eql (.t 7) (.c (.int .i64 8))), none⟩, ⟨(some 8), (.mv (.t 10)), none⟩]
def L_impl_InsKernel_r6 : List LOper := [⟨(some 11), (.bin .eql (.t 7) (.c (.int .i64 9))), none⟩, ⟨(some 8), (.mv (.t 11)), none⟩]
def L_impl_InsKernel_r7 : List LOper := [⟨(some 12), (.bin .eql (.t 7) (.c (.int .i64 10))), none⟩, ⟨(some 8), (.mv (.t 12)), none⟩]
def L_impl_InsKernel_r8 : List LOper := [⟨(some 13), (.bin .eql (.t 7) (.c (.int .i64 11))), none⟩, ⟨(some 8), (.mv (.t 13)), none⟩]
def L_impl_InsKernel_r9 : List LOper := [⟨(some 14), (.bin .eql (.t 7) (.c (.int .i64 12))), none⟩, ⟨(some 8), (.mv (.t 14)), none⟩]
def L_impl_InsKernel_r10 : List LOper := [⟨(some 15), (.bin .eql (.t 7) (.c (.int .i64 13))), none⟩, ⟨(some 8), (.mv (.t 15)), none⟩]
def L_impl_InsKernel_r11 : List LOper := [⟨(some 16), (.bin .eql (.t 7) (.c (.int .i64 14))), none⟩, ⟨(some 8), (.mv (.t 16)), none⟩]
def L_impl_InsKernel_r12 : List LOper := [⟨(some 2), (.mv (.c (.bool true))), none⟩]
def L_impl_InsKernel_r13 : List LOper := [⟨(some 2), (.mv (.c (.bool false))), none⟩]
def L_impl_InsKernel : LFun := ⟨17, [(.tmp 2)], (.seq (.reg false L_impl_InsKernel_r0) (.seq (.seq (.reg false L_impl_InsKernel_r1) (.cond (.t 5) (.seq (.reg false L_impl_InsKernel_r2) .ret) .skip)) (.seq (.seq (.reg false L_impl_InsKernel_r3) (.block 0 (.seq (.seq (.reg false L_impl_InsKernel_r4) (.cond (.t 8) .skip (.seq (.reg false L_impl_InsKernel_r5) (.cond (.t 8) .skip (.seq (.reg false L_impl_InsKernel_r6) (.cond (.t 8) .skip (.seq (.reg false L_impl_InsKernel_r7) (.cond (.t 8) .skip (.seq (.reg false L_impl_InsKernel_r8) (.cond (.t 8) .skip (.seq (.reg false L_impl_InsKernel_r9) (.cond (.t 8) .skip (.seq (.reg false L_impl_InsKernel_r10) (.cond (.t 8) .skip (.reg false L_impl_InsKernel_r11))))))))))))))) (.cond (.t 8) (.seq (.reg false L_impl_InsKernel_r12) .ret) .skip)))) (.seq (.reg false L_impl_InsKernel_r13) .ret))))⟩
theorem low_impl_InsKernel : lowFun Go.Proofs.Try.prog 14 = some L_impl_InsKernel := by kernel_rfl
-- 15 loop.example/guesthouse/spec.MemOk
def L_spec_MemOk_r0 : List LOper := [⟨(some 2), (.mv (.c (.bool false))), none⟩]
def L_spec_MemOk_r1 : List LOper := [⟨(some 3), (.mv (.c (.int .i64 0))), none⟩]
def L_spec_MemOk_r2 : List LOper := [⟨(some 4), (.mv (.t 3)), none⟩, ⟨(some 5), (.mv (.t 0)), none⟩, ⟨(some 6), (.len (.t 5)), none⟩, ⟨(some 7), (.bin .lss (.t 4) (.t 6)), none⟩]
def L_spec_MemOk_r3 : List LOper := [⟨(some 10), (.mv (.t 0)), none⟩, ⟨(some 11), (.mv (.t 3)), none⟩, ⟨(some 12), (.iadr 1 (.t 10) (.t 11)), none⟩, ⟨(some 13), (.load false 1 (.t 12)), none⟩, ⟨(some 14), (.call 27 [(.t 13)]), none⟩, ⟨(some 15), (.un .not (.t 14)), none⟩]
def L_spec_MemOk_r4 : List LOper := [⟨(some 2), (.mv (.c (.bool false))), none⟩]
def L_spec_MemOk_r5 : List LOper := [⟨(some 8), (.mv (.t 3)), none⟩, ⟨(some 9), (.bin .add (.t 8) (.c (.int .i64 1))), none⟩, ⟨(some 3), (.mv (.t 9)), none⟩]
def L_spec_MemOk_l6 : LCode := (.seq (.seq (.reg false L_spec_MemOk_r2) (.cond (.t 7) .skip (.exit 0))) (.seq (.block 1 (.seq (.reg false L_spec_MemOk_r3) (.cond (.t 15) (.seq (.reg false L_spec_MemOk_r4) .ret) .skip))) (.reg false L_spec_MemOk_r5)))
def L_spec_MemOk_r7 : List LOper := [⟨(some 16), (.mv (.t 0)), none⟩, ⟨(some 17), (.len (.t 16)), none⟩, ⟨(some 18), (.bin .eql (.t 17) (.c (.int .i64 64))), none⟩, ⟨(some 2), (.mv (.t 18)), none⟩]
def L_spec_MemOk : LFun := ⟨19, [(.tmp 2)], (.seq (.reg false L_spec_MemOk_r0) (.seq (.seq (.reg false L_spec_MemOk_r1) (.block 0 (.loop L_spec_MemOk_l6))) (.seq (.reg false L_spec_MemOk_r7) .ret)))⟩
theorem low_spec_MemOk : lowFun Go.Proofs.Try.prog 15 = some L_spec_MemOk := by kernel_rfl
-- 16 loop.example/guesthouse/laws.toIntS
def L_laws_toIntS_r0 : List LOper := [⟨(some 2), (.mv (.c .nil)), none⟩]
def L_laws_toIntS_r1 : List LOper := [⟨(some 5), (.mv (.t 0)), none⟩, ⟨(some 6), (.len (.t 5)), none⟩, ⟨(some 7), (.mk 3 1 8 [(.int .i64 0)] (.t 6)), none⟩, ⟨(some 3), (.mv (.t 7)), none⟩]
def L_laws_toIntS_r2 : List LOper := [⟨(some 4), (.mv (.c (.int .i64 0))), none⟩]
def L_laws_toIntS_r3 : List LOper := [⟨(some 8), (.mv (.t 4)), none⟩, ⟨(some 9), (.mv (.t 0)), none⟩, ⟨(some 10), (.len (.t 9)), none⟩, ⟨(some 11), (.bin .lss (.t 8) (.t 10)), none⟩]
def L_laws_toIntS_r4 : List LOper := [⟨(some 14), (.mv (.t 3)), none⟩, ⟨(some 15), (.mv (.t 4)), none⟩, ⟨(some 16), (.mv (.t 0)), none⟩, ⟨(some 17), (.mv (.t 4)), none⟩, ⟨(some 18), (.iadr 1 (.t 16) (.t 17)), none⟩, ⟨(some 19), (.load false 1 (.t 18)), none⟩, ⟨(some 20), (.iadr 1 (.t 14) (.t 15)), none⟩, ⟨none, (.store 1 (.t 20) (.t 19)), none⟩]
def L_laws_toIntS_r5 : List LOper := [⟨(some 12), (.mv (.t 4)), none⟩, ⟨(some 13), (.bin .add (.t 12) (.c (.int .i64 1))), none⟩, ⟨(some 4), (.mv (.t 13)), none⟩]
def L_laws_toIntS_l6 : LCode := (.seq (.seq (.reg false L_laws_toIntS_r3) (.cond (.t 11) .skip (.exit 0))) (.seq (.block 1 (.reg false L_laws_toIntS_r4)) (.reg false L_laws_toIntS_r5)))
def L_laws_toIntS_r7 : List LOper := [⟨(some 21), (.mv (.t 3)), none⟩, ⟨(some 2), (.mv (.t 21)), none⟩]
def L_laws_toIntS : LFun := ⟨22, [(.tmp 2)], (.seq (.reg false L_laws_toIntS_r0) (.seq (.reg false L_laws_toIntS_r1) (.seq (.seq (.reg false L_laws_toIntS_r2) (.block 0 (.loop L_laws_toIntS_l6))) (.seq (.reg false L_laws_toIntS_r7) .ret))))⟩
theorem low_laws_toIntS : lowFun Go.Proofs.Try.prog 16 = some L_laws_toIntS := by kernel_rfl
-- 17 loop.example/guesthouse/impl.MemOk
def L_impl_MemOk_r0 : List LOper := [⟨(some 2), (.mv (.c (.bool false))), none⟩]
def L_impl_MemOk_r1 : List LOper := [⟨(some 5), (.mv (.t 0)), none⟩, ⟨(some 6), (.len (.t 5)), none⟩, ⟨(some 7), (.bin .neq (.t 6) (.c (.int .i64 64))), none⟩]
def L_impl_MemOk_r2 : List LOper := [⟨(some 2), (.mv (.c (.bool false))), none⟩]
def L_impl_MemOk_r3 : List LOper := [⟨(some 8), (.mv (.t 0)), none⟩, ⟨(some 9), (.len (.t 8)), none⟩, ⟨(some 10), (.mv (.c (.int .i64 0))), none⟩]
def L_impl_MemOk_r4 : List LOper := [⟨(some 11), (.bin .lss (.t 10) (.t 9)), none⟩]
def L_impl_MemOk_r5 : List LOper := [⟨(some 12), (.iadr 1 (.t 8) (.t 10)), none⟩, ⟨(some 13), (.load false 1 (.t 12)), none⟩, ⟨(some 4), (.mv (.t 13)), none⟩]
def L_impl_MemOk_r6 : List LOper := [⟨(some 14), (.mv (.t 4)), none⟩, ⟨(some 15), (.call 28 [(.t 14)]), none⟩, ⟨(some 16), (.un .not (.t 15)), none⟩]
def L_impl_MemOk_r7 : List LOper := [⟨(some 2), (.mv (.c (.bool false))), none⟩]
def L_impl_MemOk_r8 : List LOper := [⟨(some 17), (.bin .add (.t 10) (.c (.int .i64 1))), none⟩, ⟨(some 10), (.mv (.t 17)), none⟩]
def L_impl_MemOk_l9 : LCode := (.seq (.reg false L_impl_MemOk_r4) (.seq (.cond (.t 11) .skip (.exit 0)) (.seq (.block 1 (.seq (.reg false L_impl_MemOk_r5) (.seq (.reg false L_impl_MemOk_r6) (.cond (.t 16) (.seq (.reg false L_impl_MemOk_r7) .ret) .skip)))) (.reg false L_impl_MemOk_r8))))
def L_impl_MemOk_r10 : List LOper := [⟨(some 2), (.mv (.c (.bool true))), none⟩]
def L_impl_MemOk : LFun := ⟨18, [(.tmp 2)], (.seq (.reg false L_impl_MemOk_r0) (.seq (.seq (.reg false L_impl_MemOk_r1) (.cond (.t 7) (.seq (.reg false L_impl_MemOk_r2) .ret) .skip)) (.seq (.seq (.reg false L_impl_MemOk_r3) (.block 0 (.loop L_impl_MemOk_l9))) (.seq (.reg false L_impl_MemOk_r10) .ret))))⟩
theorem low_impl_MemOk : lowFun Go.Proofs.Try.prog 17 = some L_impl_MemOk := by kernel_rfl
-- 18 loop.example/guesthouse/laws.eqIntS
def L_laws_eqIntS_r0 : List LOper := [⟨(some 4), (.mv (.c (.bool false))), none⟩]
def L_laws_eqIntS_r1 : List LOper := [⟨(some 6), (.mv (.t 0)), none⟩, ⟨(some 7), (.len (.t 6)), none⟩, ⟨(some 8), (.mv (.t 1)), none⟩, ⟨(some 9), (.len (.t 8)), none⟩, ⟨(some 10), (.bin .neq (.t 7) (.t 9)), none⟩]
def L_laws_eqIntS_r2 : List LOper := [⟨(some 4), (.mv (.c (.bool false))), none⟩]
def L_laws_eqIntS_r3 : List LOper := [⟨(some 5), (.mv (.c (.int .i64 0))), none⟩]
def L_laws_eqIntS_r4 : List LOper := [⟨(some 11), (.mv (.t 5)), none⟩, ⟨(some 12), (.mv (.t 0)), none⟩, ⟨(some 13), (.len (.t 12)), none⟩, ⟨(some 14), (.bin .lss (.t 11) (.t 13)), none⟩]
def L_laws_eqIntS_r5 : List LOper := [⟨(some 17), (.mv (.t 0)), none⟩, ⟨(some 18), (.mv (.t 5)), none⟩, ⟨(some 19), (.iadr 1 (.t 17) (.t 18)), none⟩, ⟨(some 20), (.load false 1 (.t 19)), none⟩, ⟨(some 21), (.mv (.t 1)), none⟩, ⟨(some 22), (.mv (.t 5)), none⟩, ⟨(some 23), (.iadr 1 (.t 21) (.t 22)), none⟩, ⟨(some 24), (.load false 1 (.t 23)), none⟩, ⟨(some 25), (.bin .neq (.t 20) (.t 24)), none⟩]
def L_laws_eqIntS_r6 : List LOper := [⟨(some 4), (.mv (.c (.bool false))), none⟩]
def L_laws_eqIntS_r7 : List LOper := [⟨(some 15), (.mv (.t 5)), none⟩, ⟨(some 16), (.bin .add (.t 15) (.c (.int .i64 1))), none⟩, ⟨(some 5), (.mv (.t 16)), none⟩]
def L_laws_eqIntS_l8 : LCode := (.seq (.seq (.reg false L_laws_eqIntS_r4) (.cond (.t 14) .skip (.exit 0))) (.seq (.block 1 (.seq (.reg true L_laws_eqIntS_r5) (.cond (.t 25) (.seq (.reg false L_laws_eqIntS_r6) .ret) .skip))) (.reg false L_laws_eqIntS_r7)))
def L_laws_eqIntS_r9 : List LOper := [⟨(some 4), (.mv (.c (.bool true))), none⟩]
def L_laws_eqIntS : LFun := ⟨26, [(.tmp 4)], (.seq (.reg false L_laws_eqIntS_r0) (.seq (.seq (.reg false L_laws_eqIntS_r1) (.cond (.t 10) (.seq (.reg false L_laws_eqIntS_r2) .ret) .skip)) (.seq (.seq (.reg false L_laws_eqIntS_r3) (.block 0 (.loop L_laws_eqIntS_l8))) (.seq (.reg false L_laws_eqIntS_r9) .ret))))⟩
theorem low_laws_eqIntS : lowFun Go.Proofs.Try.prog 18 = some L_laws_eqIntS := by kernel_rfl
-- 19 loop.example/guesthouse/spec.EntryWord
def L_spec_EntryWord_r0 : List LOper := [⟨(some 1), (.box 38 (.t 0)), none⟩, ⟨(some 2), (.mv (.c (.int .i64 0))), none⟩]
def L_spec_EntryWord_r1 : List LOper := [⟨(some 4), (.fadr 3 (.t 1)), none⟩, ⟨(some 5), (.load false 1 (.t 4)), none⟩, ⟨(some 6), (.call 30 [(.t 5), (.c (.int .i64 0)), (.c (.int .i64 7))]), none⟩, ⟨(some 7), (.un .not (.t 6)), none⟩]
def L_spec_EntryWord_r2 : List LOper := [⟨(some 2), (.mv (.c (.int .i64 (-1)))), none⟩]
def L_spec_EntryWord_r3 : List LOper := [⟨(some 8), (.fadr 3 (.t 1)), none⟩, ⟨(some 9), (.load false 1 (.t 8)), none⟩, ⟨(some 10), (.bin .mul (.t 9) (.c (.int .i64 8))), none⟩, ⟨(some 3), (.mv (.t 10)), none⟩]
def L_spec_EntryWord_r4 : List LOper := [⟨(some 11), (.fadr 0 (.t 1)), none⟩, ⟨(some 12), (.load false 1 (.t 11)), none⟩]
def L_spec_EntryWord_r5 : List LOper := [⟨(some 13), (.mv (.t 3)), none⟩, ⟨(some 14), (.bin .add (.t 13) (.c (.int .i64 1))), none⟩, ⟨(some 3), (.mv (.t 14)), none⟩]
def L_spec_EntryWord_r6 : List LOper := [⟨(some 15), (.fadr 1 (.t 1)), none⟩, ⟨(some 16), (.load false 1 (.t 15)), none⟩]
def L_spec_EntryWord_r7 : List LOper := [⟨(some 17), (.mv (.t 3)), none⟩, ⟨(some 18), (.bin .add (.t 17) (.c (.int .i64 2))), none⟩, ⟨(some 3), (.mv (.t 18)), none⟩]
def L_spec_EntryWord_r8 : List LOper := [⟨(some 19), (.fadr 2 (.t 1)), none⟩, ⟨(some 20), (.load false 1 (.t 19)), none⟩]
def L_spec_EntryWord_r9 : List LOper := [⟨(some 21), (.mv (.t 3)), none⟩, ⟨(some 22), (.bin .add (.t 21) (.c (.int .i64 4))), none⟩, ⟨(some 3), (.mv (.t 22)), none⟩]
def L_spec_EntryWord_r10 : List LOper := [⟨(some 23), (.mv (.t 3)), none⟩, ⟨(some 2), (.mv (.t 23)), none⟩]
def L_spec_EntryWord : LFun := ⟨24, [(.tmp 2)], (.seq (.reg false L_spec_EntryWord_r0) (.seq (.seq (.reg false L_spec_EntryWord_r1) (.cond (.t 7) (.seq (.reg false L_spec_EntryWord_r2) .ret) .skip)) (.seq (.reg false L_spec_EntryWord_r3) (.seq (.seq (.reg false L_spec_EntryWord_r4) (.cond (.t 12) (.reg false L_spec_EntryWord_r5) .skip)) (.seq (.seq (.reg false L_spec_EntryWord_r6) (.cond (.t 16) (.reg false L_spec_EntryWord_r7) .skip)) (.seq (.seq (.reg false L_spec_EntryWord_r8) (.cond (.t 20) (.reg false L_spec_EntryWord_r9) .skip)) (.seq (.reg false L_spec_EntryWord_r10) .ret)))))))⟩
theorem low_spec_EntryWord : lowFun Go.Proofs.Try.prog 19 = some L_spec_EntryWord := by kernel_rfl
-- 20 loop.example/guesthouse/laws.toEntry
def L_laws_toEntry_r0 : List LOper := [⟨(some 1), (.box 36 (.t 0)), none⟩, ⟨(some 2), (.fresh 38 [(.bool false), (.bool false), (.bool false), (.int .i64 0)]), none⟩]
def L_laws_toEntry_r1 : List LOper := [⟨(some 3), (.fresh 38 [(.bool false), (.bool false), (.bool false), (.int .i64 0)]), none⟩]
def L_laws_toEntry_r2 : List LOper := [⟨(some 4), (.fadr 0 (.t 1)), none⟩, ⟨(some 5), (.load false 1 (.t 4)), none⟩, ⟨(some 6), (.fadr 0 (.t 3)), none⟩, ⟨none, (.store 1 (.t 6) (.t 5)), none⟩]
def L_laws_toEntry_r3 : List LOper := [⟨(some 7), (.fadr 1 (.t 1)), none⟩, ⟨(some 8), (.load false 1 (.t 7)), none⟩, ⟨(some 9), (.fadr 1 (.t 3)), none⟩, ⟨none, (.store 1 (.t 9) (.t 8)), none⟩]
def L_laws_toEntry_r4 : List LOper := [⟨(some 10), (.fadr 2 (.t 1)), none⟩, ⟨(some 11), (.load false 1 (.t 10)), none⟩, ⟨(some 12), (.fadr 2 (.t 3)), none⟩, ⟨none, (.store 1 (.t 12) (.t 11)), none⟩]
def L_laws_toEntry_r5 : List LOper := [⟨(some 13), (.fadr 3 (.t 1)), none⟩, ⟨(some 14), (.load false 1 (.t 13)), none⟩, ⟨(some 15), (.fadr 3 (.t 3)), none⟩, ⟨none, (.store 1 (.t 15) (.t 14)), none⟩]
def L_laws_toEntry_r6 : List LOper := [⟨(some 16), (.load true 4 (.t 3)), none⟩, ⟨none, (.store 4 (.t 2) (.t 16)), none⟩]
def L_laws_toEntry : LFun := ⟨17, [(.cell 2 true 4)], (.seq (.reg false L_laws_toEntry_r0) (.seq (.reg false L_laws_toEntry_r1) (.seq (.reg false L_laws_toEntry_r2) (.seq (.reg false L_laws_toEntry_r3) (.seq (.reg false L_laws_toEntry_r4) (.seq (.reg false L_laws_toEntry_r5) (.seq (.reg false L_laws_toEntry_r6) .ret)))))))⟩
theorem low_laws_toEntry : lowFun Go.Proofs.Try.prog 20 = some L_laws_toEntry := by kernel_rfl
-- 21 loop.example/guesthouse/impl.EntryWord
def L_impl_EntryWord_r0 : List LOper := [⟨(some 1), (.box 38 (.t 0)), none⟩, ⟨(some 2), (.mv (.c (.int .i64 0))), none⟩]
def L_impl_EntryWord_r1 : List LOper := [⟨(some 4), (.fadr 3 (.t 1)), none⟩, ⟨(some 5), (.load false 1 (.t 4)), none⟩, ⟨(some 6), (.call 32 [(.t 5)]), none⟩, ⟨(some 7), (.un .not (.t 6)), none⟩]
def L_impl_EntryWord_r2 : List LOper := [⟨(some 2), (.mv (.c (.int .i64 (-1)))), none⟩]
def L_impl_EntryWord_r3 : List LOper := [⟨(some 8), (.fadr 3 (.t 1)), none⟩, ⟨(some 9), (.load false 1 (.t 8)), none⟩, ⟨(some 10), (.bin .mul (.c (.int .i64 8)) (.t 9)), none⟩, ⟨(some 3), (.mv (.t 10)), none⟩]
def L_impl_EntryWord_r4 : List LOper := [⟨(some 11), (.fadr 0 (.t 1)), none⟩, ⟨(some 12), (.load false 1 (.t 11)), none⟩]
def L_impl_EntryWord_r5 : List LOper := [⟨(some 13), (.mv (.t 3)), none⟩, ⟨(some 14), (.bin .add (.t 13) (.c (.int .i64 1))), none⟩, ⟨(some 3), (.mv (.t 14)), none⟩]
def L_impl_EntryWord_r6 : List LOper := [⟨(some 15), (.fadr 1 (.t 1)), none⟩, ⟨(some 16), (.load false 1 (.t 15)), none⟩]
def L_impl_EntryWord_r7 : List LOper := [⟨(some 17), (.mv (.t 3)), none⟩, ⟨(some 18), (.bin .add (.t 17) (.c (.int .i64 2))), none⟩, ⟨(some 3), (.mv (.t 18)), none⟩]
def L_impl_EntryWord_r8 : List LOper := [⟨(some 19), (.fadr 2 (.t 1)), none⟩, ⟨(some 20), (.load false 1 (.t 19)), none⟩]
def L_impl_EntryWord_r9 : List LOper := [⟨(some 21), (.mv (.t 3)), none⟩, ⟨(some 22), (.bin .add (.t 21) (.c (.int .i64 4))), none⟩, ⟨(some 3), (.mv (.t 22)), none⟩]
def L_impl_EntryWord_r10 : List LOper := [⟨(some 23), (.mv (.t 3)), none⟩, ⟨(some 2), (.mv (.t 23)), none⟩]
def L_impl_EntryWord : LFun := ⟨24, [(.tmp 2)], (.seq (.reg false L_impl_EntryWord_r0) (.seq (.seq (.reg false L_impl_EntryWord_r1) (.cond (.t 7) (.seq (.reg false L_impl_EntryWord_r2) .ret) .skip)) (.seq (.reg false L_impl_EntryWord_r3) (.seq (.seq (.reg false L_impl_EntryWord_r4) (.cond (.t 12) (.reg false L_impl_EntryWord_r5) .skip)) (.seq (.seq (.reg false L_impl_EntryWord_r6) (.cond (.t 16) (.reg false L_impl_EntryWord_r7) .skip)) (.seq (.seq (.reg false L_impl_EntryWord_r8) (.cond (.t 20) (.reg false L_impl_EntryWord_r9) .skip)) (.seq (.reg false L_impl_EntryWord_r10) .ret)))))))⟩
theorem low_impl_EntryWord : lowFun Go.Proofs.Try.prog 21 = some L_impl_EntryWord := by kernel_rfl
-- 22 loop.example/guesthouse/spec.EntryFrom
def L_spec_EntryFrom_r0 : List LOper := [⟨(some 2), (.fresh 38 [(.bool false), (.bool false), (.bool false), (.int .i64 0)]), none⟩]
def L_spec_EntryFrom_r1 : List LOper := [⟨(some 3), (.mv (.t 0)), none⟩, ⟨(some 4), (.call 27 [(.t 3)]), none⟩, ⟨(some 5), (.un .not (.t 4)), none⟩]
def L_spec_EntryFrom_r2 : List LOper := [⟨(some 6), (.bld [(.bool false), (.bool false), (.bool false), (.int .i64 0)] []), none⟩, ⟨none, (.store 4 (.t 2) (.t 6)), none⟩]
def L_spec_EntryFrom_r3 : List LOper := [⟨(some 7), (.mv (.t 0)), none⟩, ⟨(some 8), (.bin .rem (.t 7) (.c (.int .i64 2))), none⟩, ⟨(some 9), (.bin .eql (.t 8) (.c (.int .i64 1))), none⟩, ⟨(some 10), (.mv (.t 0)), none⟩, ⟨(some 11), (.bin .quo (.t 10) (.c (.int .i64 2))), none⟩, ⟨(some 12), (.bin .rem (.t 11) (.c (.int .i64 2))), none⟩, ⟨(some 13), (.bin .eql (.t 12) (.c (.int .i64 1))), none⟩, ⟨(some 14), (.mv (.t 0)), none⟩, ⟨(some 15), (.bin .quo (.t 14) (.c (.int .i64 4))), none⟩, ⟨(some 16), (.bin .rem (.t 15) (.c (.int .i64 2))), none⟩, ⟨(some 17), (.bin .eql (.t 16) (.c (.int .i64 1))), none⟩, ⟨(some 18), (.mv (.t 0)), none⟩, ⟨(some 19), (.bin .quo (.t 18) (.c (.int .i64 8))), none⟩, ⟨(some 20), (.bin .rem (.t 19) (.c (.int .i64 8))), none⟩, ⟨(some 21), (.bld [(.bool false), (.bool false), (.bool false), (.int .i64 0)] [(0, (1, (.t 9))), (1, (1, (.t 13))), (2, (1, (.t 17))), (3, (1, (.t 20)))]), none⟩, ⟨none, (.store 4 (.t 2) (.t 21)), none⟩]
def L_spec_EntryFrom : LFun := ⟨22, [(.cell 2 true 4)], (.seq (.reg false L_spec_EntryFrom_r0) (.seq (.seq (.reg false L_spec_EntryFrom_r1) (.cond (.t 5) (.seq (.reg false L_spec_EntryFrom_r2) .ret) .skip)) (.seq (.reg false L_spec_EntryFrom_r3) .ret)))⟩
theorem low_spec_EntryFrom : lowFun Go.Proofs.Try.prog 22 = some L_spec_EntryFrom := by kernel_rfl
-- 23 loop.example/guesthouse/impl.EntryFrom
def L_impl_EntryFrom_r0 : List LOper := [⟨(some 2), (.fresh 38 [(.bool false), (.bool false), (.bool false), (.int .i64 0)]), none⟩]
def L_impl_EntryFrom_r1 : List LOper := [⟨(some 3), (.mv (.t 0)), none⟩, ⟨(some 4), (.call 28 [(.t 3)]), none⟩, ⟨(some 5), (.un .not (.t 4)), none⟩]
def L_impl_EntryFrom_r2 : List LOper := [⟨(some 6), (.bld [(.bool false), (.bool false), (.bool false), (.int .i64 0)] []), none⟩, ⟨none, (.store 4 (.t 2) (.t 6)), none⟩]
def L_impl_EntryFrom_r3 : List LOper := [⟨(some 7), (.mv (.t 0)), none⟩, ⟨(some 8), (.bin .quo (.t 7) (.c (.int .i64 1))), none⟩, ⟨(some 9), (.bin .rem (.t 8) (.c (.int .i64 2))), none⟩, ⟨(some 10), (.bin .eql (.t 9) (.c (.int .i64 1))), none⟩, ⟨(some 11), (.mv (.t 0)), none⟩, ⟨(some 12), (.bin .quo (.t 11) (.c (.int .i64 2))), none⟩, ⟨(some 13), (.bin .rem (.t 12) (.c (.int .i64 2))), none⟩, ⟨(some 14), (.bin .eql (.t 13) (.c (.int .i64 1))), none⟩, ⟨(some 15), (.mv (.t 0)), none⟩, ⟨(some 16), (.bin .quo (.t 15) (.c (.int .i64 4))), none⟩, ⟨(some 17), (.bin .rem (.t 16) (.c (.int .i64 2))), none⟩, ⟨(some 18), (.bin .eql (.t 17) (.c (.int .i64 1))), none⟩, ⟨(some 19), (.mv (.t 0)), none⟩, ⟨(some 20), (.bin .quo (.t 19) (.c (.int .i64 8))), none⟩, ⟨(some 21), (.bin .rem (.t 20) (.c (.int .i64 8))), none⟩, ⟨(some 22), (.bld [(.bool false), (.bool false), (.bool false), (.int .i64 0)] [(0, (1, (.t 10))), (1, (1, (.t 14))), (2, (1, (.t 18))), (3, (1, (.t 21)))]), none⟩, ⟨none, (.store 4 (.t 2) (.t 22)), none⟩]
def L_impl_EntryFrom : LFun := ⟨23, [(.cell 2 true 4)], (.seq (.reg false L_impl_EntryFrom_r0) (.seq (.seq (.reg false L_impl_EntryFrom_r1) (.cond (.t 5) (.seq (.reg false L_impl_EntryFrom_r2) .ret) .skip)) (.seq (.reg false L_impl_EntryFrom_r3) .ret)))⟩
theorem low_impl_EntryFrom : lowFun Go.Proofs.Try.prog 23 = some L_impl_EntryFrom := by kernel_rfl
-- 24 loop.example/guesthouse/laws.eqEntry
def L_laws_eqEntry_r0 : List LOper := [⟨(some 2), (.box 38 (.t 0)), none⟩, ⟨(some 3), (.box 38 (.t 1)), none⟩, ⟨(some 4), (.mv (.c (.bool false))), none⟩]
def L_laws_eqEntry_r1 : List LOper := [⟨(some 5), (.fadr 0 (.t 2)), none⟩, ⟨(some 6), (.load false 1 (.t 5)), none⟩, ⟨(some 7), (.fadr 0 (.t 3)), none⟩, ⟨(some 8), (.load false 1 (.t 7)), none⟩, ⟨(some 9), (.binb true (.t 6) (.t 8)), none⟩]
def L_laws_eqEntry_r2 : List LOper := [⟨(some 4), (.mv (.c (.bool false))), none⟩]
def L_laws_eqEntry_r3 : List LOper := [⟨(some 10), (.fadr 1 (.t 2)), none⟩, ⟨(some 11), (.load false 1 (.t 10)), none⟩, ⟨(some 12), (.fadr 1 (.t 3)), none⟩, ⟨(some 13), (.load false 1 (.t 12)), none⟩, ⟨(some 14), (.binb true (.t 11) (.t 13)), none⟩]
def L_laws_eqEntry_r4 : List LOper := [⟨(some 4), (.mv (.c (.bool false))), none⟩]
def L_laws_eqEntry_r5 : List LOper := [⟨(some 15), (.fadr 2 (.t 2)), none⟩, ⟨(some 16), (.load false 1 (.t 15)), none⟩, ⟨(some 17), (.fadr 2 (.t 3)), none⟩, ⟨(some 18), (.load false 1 (.t 17)), none⟩, ⟨(some 19), (.binb true (.t 16) (.t 18)), none⟩]
def L_laws_eqEntry_r6 : List LOper := [⟨(some 4), (.mv (.c (.bool false))), none⟩]
def L_laws_eqEntry_r7 : List LOper := [⟨(some 20), (.fadr 3 (.t 2)), none⟩, ⟨(some 21), (.load false 1 (.t 20)), none⟩, ⟨(some 22), (.fadr 3 (.t 3)), none⟩, ⟨(some 23), (.load false 1 (.t 22)), none⟩, ⟨(some 24), (.bin .neq (.t 21) (.t 23)), none⟩]
def L_laws_eqEntry_r8 : List LOper := [⟨(some 4), (.mv (.c (.bool false))), none⟩]
def L_laws_eqEntry_r9 : List LOper := [⟨(some 4), (.mv (.c (.bool true))), none⟩]
def L_laws_eqEntry : LFun := ⟨25, [(.tmp 4)], (.seq (.reg false L_laws_eqEntry_r0) (.seq (.seq (.reg false L_laws_eqEntry_r1) (.cond (.t 9) (.seq (.reg false L_laws_eqEntry_r2) .ret) .skip)) (.seq (.seq (.reg false L_laws_eqEntry_r3) (.cond (.t 14) (.seq (.reg false L_laws_eqEntry_r4) .ret) .skip)) (.seq (.seq (.reg false L_laws_eqEntry_r5) (.cond (.t 19) (.seq (.reg false L_laws_eqEntry_r6) .ret) .skip)) (.seq (.seq (.reg false L_laws_eqEntry_r7) (.cond (.t 24) (.seq (.reg false L_laws_eqEntry_r8) .ret) .skip)) (.seq (.reg false L_laws_eqEntry_r9) .ret))))))⟩
theorem low_laws_eqEntry : lowFun Go.Proofs.Try.prog 24 = some L_laws_eqEntry := by kernel_rfl
-- 25 loop.example/guesthouse/spec.Walk
def L_spec_Walk_r0 : List LOper := [⟨(some 10), (.mv (.c (.int .i64 0))), none⟩]
def L_spec_Walk_r1 : List LOper := [⟨(some 12), (.mv (.t 0)), none⟩, ⟨(some 13), (.call 15 [(.t 12)]), none⟩, ⟨(some 14), (.un .not (.t 13)), none⟩, ⟨(some 15), (.mv (.t 14)), none⟩, ⟨(some 16), (.mv (.t 1)), (some (15, false))⟩, ⟨(some 17), (.call 30 [(.t 16), (.c (.int .i64 (-1))), (.c (.int .i64 7))]), (some (15, false))⟩, ⟨(some 18), (.un .not (.t 17)), (some (15, false))⟩, ⟨(some 19), (.pick (.t 15) (.c (.bool true)) (.t 18)), none⟩, ⟨(some 20), (.mv (.t 19)), none⟩, ⟨(some 21), (.mv (.t 2)), (some (20, false))⟩, ⟨(some 22), (.call 30 [(.t 21), (.c (.int .i64 0)), (.c (.int .i64 63))]), (some (20, false))⟩, ⟨(some 23), (.un .not (.t 22)), (some (20, false))⟩, ⟨(some 24), (.pick (.t 20) (.c (.bool true)) (.t 23)), none⟩]
def L_spec_Walk_r2 : List LOper := [⟨(some 10), (.mv (.c (.int .i64 (-1)))), none⟩]
def L_spec_Walk_r3 : List LOper := [⟨(some 25), (.mv (.t 1)), none⟩, ⟨(some 26), (.bin .eql (.t 25) (.c (.int .i64 (-1)))), none⟩]
def L_spec_Walk_r4 : List LOper := [⟨(some 27), (.mv (.t 2)), none⟩, ⟨(some 10), (.mv (.t 27)), none⟩]
def L_spec_Walk_r5 : List LOper := [⟨(some 28), (.mv (.t 0)), none⟩, ⟨(some 29), (.mv (.t 1)), none⟩, ⟨(some 30), (.bin .mul (.t 29) (.c (.int .i64 8))), none⟩, ⟨(some 31), (.mv (.t 2)), none⟩, ⟨(some 32), (.bin .quo (.t 31) (.c (.int .i64 8))), none⟩, ⟨(some 33), (.bin .add (.t 30) (.t 32)), none⟩, ⟨(some 34), (.iadr 1 (.t 28) (.t 33)), none⟩, ⟨(some 35), (.load false 1 (.t 34)), none⟩, ⟨(some 36), (.call 22 [(.t 35)]), none⟩, ⟨(some 11), (.fresh 38 [(.bool false), (.bool false), (.bool false), (.int .i64 0)]), none⟩, ⟨none, (.store 4 (.t 11) (.t 36)), none⟩]
def L_spec_Walk_r6 : List LOper := [⟨(some 37), (.fadr 0 (.t 11)), none⟩, ⟨(some 38), (.load false 1 (.t 37)), none⟩, ⟨(some 39), (.un .not (.t 38)), none⟩, ⟨(some 40), (.mv (.t 39)), none⟩, ⟨(some 41), (.mv (.t 4)), (some (40, false))⟩, ⟨(some 42), (.mv (.t 41)), (some (40, false))⟩, ⟨(some 43), (.fadr 1 (.t 11)), (some (42, true))⟩, ⟨(some 44), (.load false 1 (.t 43)), (some (42, true))⟩, ⟨(some 45), (.un .not (.t 44)), (some (42, true))⟩, ⟨(some 46), (.pick (.t 42) (.t 45) (.c (.bool false))), (some (40, false))⟩, ⟨(some 47), (.pick (.t 40) (.c (.bool true)) (.t 46)), none⟩, ⟨(some 48), (.mv (.t 47)), none⟩, ⟨(some 49), (.mv (.t 3)), (some (48, false))⟩, ⟨(some 50), (.mv (.t 49)), (some (48, false))⟩, ⟨(some 51), (.fadr 2 (.t 11)), (some (50, true))⟩, ⟨(some 52), (.load false 1 (.t 51)), (some (50, true))⟩, ⟨(some 53), (.un .not (.t 52)), (some (50, true))⟩, ⟨(some 54), (.pick (.t 50) (.t 53) (.c (.bool false))), (some (48, false))⟩, ⟨(some 55), (.pick (.t 48) (.c (.bool true)) (.t 54)), none⟩]
def L_spec_Walk_r7 : List LOper := [⟨(some 10), (.mv (.c (.int .i64 (-1)))), none⟩]
def L_spec_Walk_r8 : List LOper := [⟨(some 56), (.fadr 3 (.t 11)), none⟩, ⟨(some 57), (.load false 1 (.t 56)), none⟩, ⟨(some 58), (.bin .mul (.t 57) (.c (.int .i64 8))), none⟩, ⟨(some 59), (.mv (.t 2)), none⟩, ⟨(some 60), (.bin .rem (.t 59) (.c (.int .i64 8))), none⟩, ⟨(some 61), (.bin .add (.t 58) (.t 60)), none⟩, ⟨(some 10), (.mv (.t 61)), none⟩]
def L_spec_Walk : LFun := ⟨62, [(.tmp 10)], (.seq (.reg false L_spec_Walk_r0) (.seq (.seq (.reg false L_spec_Walk_r1) (.cond (.t 24) (.seq (.reg false L_spec_Walk_r2) .ret) .skip)) (.seq (.seq (.reg false L_spec_Walk_r3) (.cond (.t 26) (.seq (.reg false L_spec_Walk_r4) .ret) .skip)) (.seq (.reg false L_spec_Walk_r5) (.seq (.seq (.reg false L_spec_Walk_r6) (.cond (.t 55) (.seq (.reg false L_spec_Walk_r7) .ret) .skip)) (.seq (.reg false L_spec_Walk_r8) .ret))))))⟩
theorem low_spec_Walk : lowFun Go.Proofs.Try.prog 25 = some L_spec_Walk := by kernel_rfl
-- 26 loop.example/guesthouse/impl.Walk
def L_impl_Walk_r0 : List LOper := [⟨(some 10), (.mv (.c (.int .i64 0))), none⟩]
def L_impl_Walk_r1 : List LOper := [⟨(some 12), (.mv (.t 0)), none⟩, ⟨(some 13), (.call 17 [(.t 12)]), none⟩, ⟨(some 14), (.un .not (.t 13)), none⟩, ⟨(some 15), (.mv (.t 14)), none⟩, ⟨(some 16), (.mv (.t 1)), (some (15, false))⟩, ⟨(some 17), (.call 33 [(.t 16)]), (some (15, false))⟩, ⟨(some 18), (.un .not (.t 17)), (some (15, false))⟩, ⟨(some 19), (.pick (.t 15) (.c (.bool true)) (.t 18)), none⟩, ⟨(some 20), (.mv (.t 19)), none⟩, ⟨(some 21), (.mv (.t 2)), (some (20, false))⟩, ⟨(some 22), (.call 34 [(.t 21)]), (some (20, false))⟩, ⟨(some 23), (.un .not (.t 22)), (some (20, false))⟩, ⟨(some 24), (.pick (.t 20) (.c (.bool true)) (.t 23)), none⟩]
def L_impl_Walk_r2 : List LOper := [⟨(some 10), (.mv (.c (.int .i64 (-1)))), none⟩]
def L_impl_Walk_r3 : List LOper := [⟨(some 25), (.mv (.t 1)), none⟩, ⟨(some 26), (.bin .eql (.t 25) (.c (.int .i64 (-1)))), none⟩]
def L_impl_Walk_r4 : List LOper := [⟨(some 27), (.mv (.t 2)), none⟩, ⟨(some 10), (.mv (.t 27)), none⟩]
def L_impl_Walk_r5 : List LOper := [⟨(some 28), (.mv (.t 0)), none⟩, ⟨(some 29), (.mv (.t 1)), none⟩, ⟨(some 30), (.bin .mul (.t 29) (.c (.int .i64 8))), none⟩, ⟨(some 31), (.mv (.t 2)), none⟩, ⟨(some 32), (.bin .quo (.t 31) (.c (.int .i64 8))), none⟩, ⟨(some 33), (.bin .add (.t 30) (.t 32)), none⟩, ⟨(some 34), (.iadr 1 (.t 28) (.t 33)), none⟩, ⟨(some 35), (.load false 1 (.t 34)), none⟩, ⟨(some 36), (.call 23 [(.t 35)]), none⟩, ⟨(some 11), (.fresh 38 [(.bool false), (.bool false), (.bool false), (.int .i64 0)]), none⟩, ⟨none, (.store 4 (.t 11) (.t 36)), none⟩]
def L_impl_Walk_r6 : List LOper := [⟨(some 37), (.load true 4 (.t 11)), none⟩, ⟨(some 38), (.mv (.t 3)), none⟩, ⟨(some 39), (.mv (.t 4)), none⟩, ⟨(some 40), (.call 35 [(.t 37), (.t 38), (.t 39)]), none⟩, ⟨(some 41), (.un .not (.t 40)), none⟩]
def L_impl_Walk_r7 : List LOper := [⟨(some 10), (.mv (.c (.int .i64 (-1)))), none⟩]
def L_impl_Walk_r8 : List LOper := [⟨(some 42), (.fadr 3 (.t 11)), none⟩, ⟨(some 43), (.load false 1 (.t 42)), none⟩, ⟨(some 44), (.bin .mul (.t 43) (.c (.int .i64 8))), none⟩, ⟨(some 45), (.mv (.t 2)), none⟩, ⟨(some 46), (.bin .rem (.t 45) (.c (.int .i64 8))), none⟩, ⟨(some 47), (.bin .add (.t 44) (.t 46)), none⟩, ⟨(some 10), (.mv (.t 47)), none⟩]
def L_impl_Walk : LFun := ⟨48, [(.tmp 10)], (.seq (.reg false L_impl_Walk_r0) (.seq (.seq (.reg false L_impl_Walk_r1) (.cond (.t 24) (.seq (.reg false L_impl_Walk_r2) .ret) .skip)) (.seq (.seq (.reg false L_impl_Walk_r3) (.cond (.t 26) (.seq (.reg false L_impl_Walk_r4) .ret) .skip)) (.seq (.reg false L_impl_Walk_r5) (.seq (.seq (.reg false L_impl_Walk_r6) (.cond (.t 41) (.seq (.reg false L_impl_Walk_r7) .ret) .skip)) (.seq (.reg false L_impl_Walk_r8) .ret))))))⟩
theorem low_impl_Walk : lowFun Go.Proofs.Try.prog 26 = some L_impl_Walk := by kernel_rfl
-- 27 loop.example/guesthouse/spec.WordOk
def L_spec_WordOk_r0 : List LOper := [⟨(some 2), (.mv (.c (.bool false))), none⟩]
def L_spec_WordOk_r1 : List LOper := [⟨(some 3), (.mv (.t 0)), none⟩, ⟨(some 4), (.call 30 [(.t 3), (.c (.int .i64 0)), (.c (.int .i64 4095))]), none⟩, ⟨(some 2), (.mv (.t 4)), none⟩]
def L_spec_WordOk : LFun := ⟨5, [(.tmp 2)], (.seq (.reg false L_spec_WordOk_r0) (.seq (.reg false L_spec_WordOk_r1) .ret))⟩
theorem low_spec_WordOk : lowFun Go.Proofs.Try.prog 27 = some L_spec_WordOk := by kernel_rfl
-- 28 loop.example/guesthouse/impl.WordOk
def L_impl_WordOk_r0 : List LOper := [⟨(some 2), (.mv (.c (.bool false))), none⟩]
def L_impl_WordOk_r1 : List LOper := [⟨(some 3), (.mv (.t 0)), none⟩, ⟨(some 4), (.bin .leq (.c (.int .i64 0)) (.t 3)), none⟩, ⟨(some 5), (.mv (.t 4)), none⟩, ⟨(some 6), (.mv (.t 0)), (some (5, true))⟩, ⟨(some 7), (.bin .leq (.t 6) (.c (.int .i64 4095))), (some (5, true))⟩, ⟨(some 8), (.pick (.t 5) (.t 7) (.c (.bool false))), none⟩, ⟨(some 2), (.mv (.t 8)), none⟩]
def L_impl_WordOk : LFun := ⟨9, [(.tmp 2)], (.seq (.reg false L_impl_WordOk_r0) (.seq (.reg false L_impl_WordOk_r1) .ret))⟩
theorem low_impl_WordOk : lowFun Go.Proofs.Try.prog 28 = some L_impl_WordOk := by kernel_rfl
-- 29 loop.example/guesthouse/spec.InsOk
def L_spec_InsOk_r0 : List LOper := [⟨(some 1), (.box 23 (.t 0)), none⟩, ⟨(some 2), (.mv (.c (.bool false))), none⟩]
def L_spec_InsOk_r1 : List LOper := [⟨(some 3), (.fadr 0 (.t 1)), none⟩, ⟨(some 4), (.load false 1 (.t 3)), none⟩, ⟨(some 5), (.call 30 [(.t 4), (.c (.int .i64 0)), (.c (.int .i64 15))]), none⟩, ⟨(some 6), (.mv (.t 5)), none⟩, ⟨(some 7), (.fadr 1 (.t 1)), (some (6, true))⟩, ⟨(some 8), (.load false 1 (.t 7)), (some (6, true))⟩, ⟨(some 9), (.call 30 [(.t 8), (.c (.int .i64 0)), (.c (.int .i64 3))]), (some (6, true))⟩, ⟨(some 10), (.pick (.t 6) (.t 9) (.c (.bool false))), none⟩, ⟨(some 11), (.mv (.t 10)), none⟩, ⟨(some 12), (.fadr 2 (.t 1)), (some (11, true))⟩, ⟨(some 13), (.load false 1 (.t 12)), (some (11, true))⟩, ⟨(some 14), (.call 30 [(.t 13), (.c (.int .i64 0)), (.c (.int .i64 63))]), (some (11, true))⟩, ⟨(some 15), (.pick (.t 11) (.t 14) (.c (.bool false))), none⟩, ⟨(some 2), (.mv (.t 15)), none⟩]
def L_spec_InsOk : LFun := ⟨16, [(.tmp 2)], (.seq (.reg false L_spec_InsOk_r0) (.seq (.reg false L_spec_InsOk_r1) .ret))⟩
theorem low_spec_InsOk : lowFun Go.Proofs.Try.prog 29 = some L_spec_InsOk := by kernel_rfl
-- 30 loop.example/guesthouse/spec.l1In
def L_spec_l1In_r0 : List LOper := [⟨(some 6), (.mv (.c (.bool false))), none⟩]
def L_spec_l1In_r1 : List LOper := [⟨(some 7), (.mv (.t 0)), none⟩, ⟨(some 8), (.mv (.t 1)), none⟩, ⟨(some 9), (.bin .geq (.t 7) (.t 8)), none⟩, ⟨(some 10), (.mv (.t 9)), none⟩, ⟨(some 11), (.mv (.t 0)), (some (10, true))⟩, ⟨(some 12), (.mv (.t 2)), (some (10, true))⟩, ⟨(some 13), (.bin .leq (.t 11) (.t 12)), (some (10, true))⟩, ⟨(some 14), (.pick (.t 10) (.t 13) (.c (.bool false))), none⟩, ⟨(some 6), (.mv (.t 14)), none⟩]
def L_spec_l1In : LFun := ⟨15, [(.tmp 6)], (.seq (.reg false L_spec_l1In_r0) (.seq (.reg false L_spec_l1In_r1) .ret))⟩
theorem low_spec_l1In : lowFun Go.Proofs.Try.prog 30 = some L_spec_l1In := by kernel_rfl
-- 31 loop.example/guesthouse/impl.InsOk
def L_impl_InsOk_r0 : List LOper := [⟨(some 1), (.box 23 (.t 0)), none⟩, ⟨(some 2), (.mv (.c (.bool false))), none⟩]
def L_impl_InsOk_r1 : List LOper := [⟨(some 6), (.fadr 0 (.t 1)), none⟩, ⟨(some 7), (.load false 1 (.t 6)), none⟩, ⟨(some 8), (.bin .leq (.c (.int .i64 0)) (.t 7)), none⟩, ⟨(some 9), (.mv (.t 8)), none⟩, ⟨(some 10), (.fadr 0 (.t 1)), (some (9, true))⟩, ⟨(some 11), (.load false 1 (.t 10)), (some (9, true))⟩, ⟨(some 12), (.bin .leq (.t 11) (.c (.int .i64 15))), (some (9, true))⟩, ⟨(some 13), (.pick (.t 9) (.t 12) (.c (.bool false))), none⟩, ⟨(some 3), (.mv (.t 13)), none⟩]
def L_impl_InsOk_r2 : List LOper := [⟨(some 14), (.fadr 1 (.t 1)), none⟩, ⟨(some 15), (.load false 1 (.t 14)), none⟩, ⟨(some 16), (.bin .leq (.c (.int .i64 0)) (.t 15)), none⟩, ⟨(some 17), (.mv (.t 16)), none⟩, ⟨(some 18), (.fadr 1 (.t 1)), (some (17, true))⟩, ⟨(some 19), (.load false 1 (.t 18)), (some (17, true))⟩, ⟨(some 20), (.bin .lss (.t 19) (.c (.int .i64 4))), (some (17, true))⟩, ⟨(some 21), (.pick (.t 17) (.t 20) (.c (.bool false))), none⟩, ⟨(some 4), (.mv (.t 21)), none⟩]
def L_impl_InsOk_r3 : List LOper := [⟨(some 22), (.fadr 2 (.t 1)), none⟩, ⟨(some 23), (.load false 1 (.t 22)), none⟩, ⟨(some 24), (.bin .leq (.c (.int .i64 0)) (.t 23)), none⟩, ⟨(some 25), (.mv (.t 24)), none⟩, ⟨(some 26), (.fadr 2 (.t 1)), (some (25, true))⟩, ⟨(some 27), (.load false 1 (.t 26)), (some (25, true))⟩, ⟨(some 28), (.bin .lss (.t 27) (.c (.int .i64 64))), (some (25, true))⟩, ⟨(some 29), (.pick (.t 25) (.t 28) (.c (.bool false))), none⟩, ⟨(some 5), (.mv (.t 29)), none⟩]
def L_impl_InsOk_r4 : List LOper := [⟨(some 30), (.mv (.t 3)), none⟩, ⟨(some 31), (.mv (.t 30)), none⟩, ⟨(some 32), (.mv (.t 4)), (some (31, true))⟩, ⟨(some 33), (.pick (.t 31) (.t 32) (.c (.bool false))), none⟩, ⟨(some 34), (.mv (.t 33)), none⟩, ⟨(some 35), (.mv (.t 5)), (some (34, true))⟩, ⟨(some 36), (.pick (.t 34) (.t 35) (.c (.bool false))), none⟩, ⟨(some 2), (.mv (.t 36)), none⟩]
def L_impl_InsOk : LFun := ⟨37, [(.tmp 2)], (.seq (.reg false L_impl_InsOk_r0) (.seq (.reg false L_impl_InsOk_r1) (.seq (.reg false L_impl_InsOk_r2) (.seq (.reg false L_impl_InsOk_r3) (.seq (.reg false L_impl_InsOk_r4) .ret)))))⟩
theorem low_impl_InsOk : lowFun Go.Proofs.Try.prog 31 = some L_impl_InsOk := by kernel_rfl
-- 32 loop.example/guesthouse/impl.pageOk
def L_impl_pageOk_r0 : List LOper := [⟨(some 2), (.mv (.c (.bool false))), none⟩]
def L_impl_pageOk_r1 : List LOper := [⟨(some 3), (.mv (.t 0)), none⟩, ⟨(some 4), (.bin .leq (.c (.int .i64 0)) (.t 3)), none⟩, ⟨(some 5), (.mv (.t 4)), none⟩, ⟨(some 6), (.mv (.t 0)), (some (5, true))⟩, ⟨(some 7), (.bin .lss (.t 6) (.c (.int .i64 8))), (some (5, true))⟩, ⟨(some 8), (.pick (.t 5) (.t 7) (.c (.bool false))), none⟩, ⟨(some 2), (.mv (.t 8)), none⟩]
def L_impl_pageOk : LFun := ⟨9, [(.tmp 2)], (.seq (.reg false L_impl_pageOk_r0) (.seq (.reg false L_impl_pageOk_r1) .ret))⟩
theorem low_impl_pageOk : lowFun Go.Proofs.Try.prog 32 = some L_impl_pageOk := by kernel_rfl
-- 33 loop.example/guesthouse/impl.rootOk
def L_impl_rootOk_r0 : List LOper := [⟨(some 2), (.mv (.c (.bool false))), none⟩]
def L_impl_rootOk_r1 : List LOper := [⟨(some 3), (.mv (.t 0)), none⟩, ⟨(some 4), (.bin .eql (.t 3) (.c (.int .i64 (-1)))), none⟩, ⟨(some 5), (.mv (.t 4)), none⟩, ⟨(some 6), (.mv (.t 0)), (some (5, false))⟩, ⟨(some 7), (.call 32 [(.t 6)]), (some (5, false))⟩, ⟨(some 8), (.pick (.t 5) (.c (.bool true)) (.t 7)), none⟩, ⟨(some 2), (.mv (.t 8)), none⟩]
def L_impl_rootOk : LFun := ⟨9, [(.tmp 2)], (.seq (.reg false L_impl_rootOk_r0) (.seq (.reg false L_impl_rootOk_r1) .ret))⟩
theorem low_impl_rootOk : lowFun Go.Proofs.Try.prog 33 = some L_impl_rootOk := by kernel_rfl
-- 34 loop.example/guesthouse/impl.addressOk
def L_impl_addressOk_r0 : List LOper := [⟨(some 2), (.mv (.c (.bool false))), none⟩]
def L_impl_addressOk_r1 : List LOper := [⟨(some 3), (.mv (.t 0)), none⟩, ⟨(some 4), (.bin .leq (.c (.int .i64 0)) (.t 3)), none⟩, ⟨(some 5), (.mv (.t 4)), none⟩, ⟨(some 6), (.mv (.t 0)), (some (5, true))⟩, ⟨(some 7), (.bin .lss (.t 6) (.c (.int .i64 64))), (some (5, true))⟩, ⟨(some 8), (.pick (.t 5) (.t 7) (.c (.bool false))), none⟩, ⟨(some 2), (.mv (.t 8)), none⟩]
def L_impl_addressOk : LFun := ⟨9, [(.tmp 2)], (.seq (.reg false L_impl_addressOk_r0) (.seq (.reg false L_impl_addressOk_r1) .ret))⟩
theorem low_impl_addressOk : lowFun Go.Proofs.Try.prog 34 = some L_impl_addressOk := by kernel_rfl
-- 35 loop.example/guesthouse/impl.entryLets
def L_impl_entryLets_r0 : List LOper := [⟨(some 3), (.box 38 (.t 0)), none⟩, ⟨(some 6), (.mv (.c (.bool false))), none⟩]
def L_impl_entryLets_r1 : List LOper := [⟨(some 7), (.fadr 0 (.t 3)), none⟩, ⟨(some 8), (.load false 1 (.t 7)), none⟩, ⟨(some 9), (.mv (.t 8)), none⟩, ⟨(some 10), (.fadr 1 (.t 3)), (some (9, true))⟩, ⟨(some 11), (.load false 1 (.t 10)), (some (9, true))⟩, ⟨(some 12), (.mv (.t 11)), (some (9, true))⟩, ⟨(some 13), (.mv (.t 2)), (some (12, false))⟩, ⟨(some 14), (.un .not (.t 13)), (some (12, false))⟩, ⟨(some 15), (.pick (.t 12) (.c (.bool true)) (.t 14)), (some (9, true))⟩, ⟨(some 16), (.pick (.t 9) (.t 15) (.c (.bool false))), none⟩, ⟨(some 17), (.mv (.t 16)), none⟩, ⟨(some 18), (.fadr 2 (.t 3)), (some (17, true))⟩, ⟨(some 19), (.load false 1 (.t 18)), (some (17, true))⟩, ⟨(some 20), (.mv (.t 19)), (some (17, true))⟩, ⟨(some 21), (.mv (.t 1)), (some (20, false))⟩, ⟨(some 22), (.un .not (.t 21)), (some (20, false))⟩, ⟨(some 23), (.pick (.t 20) (.c (.bool true)) (.t 22)), (some (17, true))⟩, ⟨(some 24), (.pick (.t 17) (.t 23) (.c (.bool false))), none⟩, ⟨(some 6), (.mv (.t 24)), none⟩]
def L_impl_entryLets : LFun := ⟨25, [(.tmp 6)], (.seq (.reg false L_impl_entryLets_r0) (.seq (.reg false L_impl_entryLets_r1) .ret))⟩
theorem low_impl_entryLets : lowFun Go.Proofs.Try.prog 35 = some L_impl_entryLets := by kernel_rfl
end Go.Proofs.Ytholbkojdcdokab
