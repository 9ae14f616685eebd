/- A reader's 'orBack', 'Var', 'Align', 'Take'; 'NewReader'. -/
import Derived.Test.YtamonbkhpbdojaaDoorRvar
import Derived.Test.YtamonbkhpbdojaaDoorVar3
namespace Go.Proofs.YtamonbkhpbdojaaDoor
set_option maxRecDepth 100000
open Go.RowKit

/-- Where the reader stands behind a call that may be refused. -/
def backTo (er p2 pos : Nat) : Nat := if er = 0 then p2 else pos
theorem backTo_ok (p2 pos : Nat) : backTo 0 p2 pos = p2 := rfl
theorem backTo_back (er p2 pos : Nat) (h : er ≠ 0) : backTo er p2 pos = pos := if_neg h

set_option maxRecDepth 100000 in
set_option maxHeartbeats 1000000 in
theorem rback1_ok (pe pa pr : Nat) (u : FrameMode) (w : World) (h0 : w.cell? ⟨pe, 0, none⟩ = some (.int .i64 0)) :
    CallsD Tryd.prog 77 #[.pointer (some ⟨pe, 0, none⟩), .pointer (some ⟨pa, 0, none⟩), .pointer (some ⟨pr, 0, none⟩)] u w fun e u' w' => u' = u ∧ (e = .returned (.tuple #[]) ∧ w' = w) := by
  go_enter_d Tryd.func77, Tryd.ntmps77
  go_wp2
  go_end0
  exact ⟨rfl, rfl⟩

set_option maxRecDepth 100000 in
set_option maxHeartbeats 1000000 in
theorem rback1_back (pe pa pr br : Nat) (v : Value) (l : List Nat) (pos pos' : Nat) (er : Nat) (u : FrameMode) (w : World) (h : RAt w br v l pos') (hp : pos ≤ 8 * l.length) (her : 0 < er) (h0 : w.cell? ⟨pe, 0, none⟩ = some (.int .i64 er))
    (h1 : w.cell? ⟨pa, 0, none⟩ = some (.int .i64 pos)) (h2 : w.cell? ⟨pr, 0, none⟩ = some (.pointer (some ⟨br, 0, none⟩))) :
    CallsD Tryd.prog 77 #[.pointer (some ⟨pe, 0, none⟩), .pointer (some ⟨pa, 0, none⟩), .pointer (some ⟨pr, 0, none⟩)] u w fun e u' w' => u' = u ∧ (e = .returned (.tuple #[]) ∧ RAt w' br v l pos ∧ Fr (fun k => k = br) w w') := by
  have HA : Hid (RAt (w.setCell ⟨br, 1, none⟩ (.int .i64 (pos : Int))) br v l pos) := h.moved rfl hp
  obtain ⟨c0, c1, cf⟩ := cell_of_two h.blk
  have hne : ((er : Int) != 0) = true := by rw [bne_iff_ne]; omega
  clear h
  go_enter_d Tryd.func77, Tryd.ntmps77
  go_wp2
  go_end0
  exact ⟨rfl, HA.out, Fr.one _ _ _ _⟩

set_option maxRecDepth 100000 in
set_option maxHeartbeats 1000000 in
theorem rback_44 (br : Nat) (v : Value) (l : List Nat) (pos n er p2 : Nat) (w : World) (h : RAt w br v l pos) (hq : Hid (rvar l pos = (n, er, p2))) :
    Calls Tryd.prog 73 #[.pointer (some ⟨br, 0, none⟩), .func (.func 74) #[.pointer (some ⟨br, 0, none⟩)] #[]] w fun e w' => e = .returned (.tuple #[.int .u64 n, .int .i64 er]) ∧ RAt w' br v l (backTo er p2 pos) ∧ Fr (fun k => k = br) w w' := by
  have hmf : ∀ (fn : Fn) (first cap : Array Value) (w : World), (Instr.makeFunc fn first cap).run Tryd.prog w = .ok (.func fn first cap) w := fun _ _ _ _ => rfl
  obtain ⟨c0, c1, cf⟩ := cell_of_two h.blk
  have hlt := h.lt
  have hrl := h.rowlt
  have HL : Hid (pos ≤ 8 * l.length) := h.le
  have HW : Hid (RAt w br v l pos) := h
  clear h
  go_enter_defers Tryd.func73, Tryd.ntmps73
  go_wp2_with fail
  obtain ⟨a1, a2, a3, a4, a5⟩ := allocs3 w (.cells #[.pointer (some ⟨br, 0, none⟩)] 103) (.cells #[.int .i64 0] 29) (.cells #[.int .i64 pos] 3)
  refine (gatherGroups_any br v l pos _ (HW.out.kept a5 (fun hh => hh) (fun _ _ hh => hh))).mono ?_
  rw [hq.out]
  rintro e w1 ⟨rfl, hat, hfr⟩
  simp only at hat
  have hsz := hfr.size
  rw [a1] at hsz
  have hkeep : ∀ k, w.heap.size ≤ k → k < w.heap.size + 3 → w1.heap[k]? = (((w.alloc (.cells #[.pointer (some ⟨br, 0, none⟩)] 103)).alloc (.cells #[.int .i64 0] 29)).alloc (.cells #[.int .i64 pos] 3)).heap[k]? := fun k hk1 hk2 =>
    hfr.block k (by omega) (by omega)
  have ho := (hkeep (w.heap.size + 1) (by omega) (by omega)).trans a3
  have hop := (hkeep w.heap.size (by omega) (by omega)).trans a2
  have hos := (hkeep (w.heap.size + 1 + 1) (by omega) (by omega)).trans a4
  have he0 := cell_of_one ho
  have he1 := free_of_one ho
  have f2 : Fr (fun k => k = w.heap.size + 1) w1 (w1.setCell ⟨w.heap.size + 1, 0, none⟩ (.int .i64 (er : Int))) := Fr.one _ _ _ _
  have f3 : Fr (fun k => k = br) w w1 := (a5.mono (fun _ _ hh => hh.elim)).trans hfr (fun _ _ hh => hh)
  have HR : Hid ((w1.setCell ⟨w.heap.size + 1, 0, none⟩ (.int .i64 (er : Int))).cell? ⟨w.heap.size + 1, 0, none⟩ = some (.int .i64 (er : Int))) := cell_of_one (one_setCell ho)
  have HP : Hid ((w1.setCell ⟨w.heap.size + 1, 0, none⟩ (.int .i64 (er : Int))).cell? ⟨w.heap.size, 0, none⟩ = some (.pointer (some ⟨br, 0, none⟩))) := f2.cell (cell_of_one hop) (by omega)
  have HZ : Hid ((w1.setCell ⟨w.heap.size + 1, 0, none⟩ (.int .i64 (er : Int))).cell? ⟨w.heap.size + 1 + 1, 0, none⟩ = some (.int .i64 pos)) := f2.cell (cell_of_one hos) (by omega)
  have HA2 : Hid (RAt (w1.setCell ⟨w.heap.size + 1, 0, none⟩ (.int .i64 (er : Int))) br v l p2) := hat.kept f2 (by omega) (fun k hk e => by have := hrl k hk; omega)
  have HS2 : Hid (Fr (fun k => k = br) w (w1.setCell ⟨w.heap.size + 1, 0, none⟩ (.int .i64 (er : Int)))) := f3.trans f2 (fun k hk e => by omega)
  clear hat hfr a1 a2 a3 a4 a5 c0 c1 cf ho hop hos hkeep f2 f3
  go_wp2_with fail
  refine leaves_cons (f := 77) (args := #[.pointer (some ⟨w.heap.size + 1, 0, none⟩), .pointer (some ⟨w.heap.size + 1 + 1, 0, none⟩), .pointer (some ⟨w.heap.size, 0, none⟩)]) (by simp) (by simp [go_sem]) ?_
  by_cases her : er = 0
  · refine (rback1_ok (w.heap.size + 1) (w.heap.size + 1 + 1) w.heap.size .returning _ (HR.out.trans (by rw [her]; rfl))).mono ?_
    rintro e u' w2 ⟨rfl, rfl, rfl⟩
    have hr := HR.out
    refine ⟨.tuple #[.int .u64 (n : Int), .int .i64 (er : Int)], ?_, rfl, ?_, HS2.out⟩
    · simp [results, Tryd.results73, go_sem, hr]
    · rw [show backTo er p2 pos = p2 from by rw [her]; rfl]; exact HA2.out
  · refine (rback1_back (w.heap.size + 1) (w.heap.size + 1 + 1) w.heap.size br v l pos p2 er .returning _ HA2.out HL.out (by omega) HR.out HZ.out HP.out).mono ?_
    rintro e u' w2 ⟨rfl, rfl, hat, hfr⟩
    have hr : w2.cell? ⟨w.heap.size + 1, 0, none⟩ = some (.int .i64 (er : Int)) := hfr.cell HR.out (by omega)
    refine ⟨.tuple #[.int .u64 (n : Int), .int .i64 (er : Int)], ?_, rfl, ?_, HS2.out.trans hfr (fun _ _ hh => hh)⟩
    · simp [results, Tryd.results73, go_sem, hr]
    · rw [backTo_back er p2 pos her]; exact hat

/-- The bits up to a whole byte: they are told as 0, or refused. -/
def rpad (l : List Nat) (pos : Nat) : Nat × Nat × Nat := (0, if num (nextBits l pos ((8 - pos % 8) % 8)) = 0 then 0 else 15, pos + (8 - pos % 8) % 8)
theorem rpad_ok (l : List Nat) (pos : Nat) (h : num (nextBits l pos ((8 - pos % 8) % 8)) = 0) : rpad l pos = (0, 0, pos + (8 - pos % 8) % 8) := by unfold rpad; rw [if_pos h]
theorem rpad_no (l : List Nat) (pos : Nat) (h : ¬ num (nextBits l pos ((8 - pos % 8) % 8)) = 0) : rpad l pos = (0, 15, pos + (8 - pos % 8) % 8) := by unfold rpad; rw [if_neg h]

set_option maxRecDepth 100000 in
set_option maxHeartbeats 1000000 in
theorem gatherPad_any (br : Nat) (v : Value) (l : List Nat) (pos : Nat) (w : World) (h : RAt w br v l pos) :
    Calls Tryd.prog 76 #[.pointer (some ⟨br, 0, none⟩)] w fun e w' => e = .returned (.tuple #[.int .u64 (rpad l pos).1, .int .i64 (rpad l pos).2.1]) ∧ RAt w' br v l (rpad l pos).2.2 ∧ Fr (fun k => k = br) w w' := by
  obtain ⟨c0, c1, cf⟩ := cell_of_two h.blk
  have hle := h.le
  have hlim := h.lim
  have HA : Hid (RAt w br v l pos) := h
  clear h
  by_cases hp : num (nextBits l pos ((8 - pos % 8) % 8)) = 0
  · rw [rpad_ok l pos hp]
    have HP : Hid (num (nextBits l pos ((8 - pos % 8) % 8)) = 0) := hp
    clear hp
    go_enter Tryd.func76, Tryd.ntmps76
    go_wp2_with fail
    refine (gather8_any' br v l pos ((8 - pos % 8) % 8) _ _ (by omega) HA.out (by omega) (by omega)).mono ?_
    rw [HP.out]
    rintro e w1 ⟨rfl, hat, hfr⟩
    go_wp2_with fail
    go_ret2
    exact ⟨rfl, hat, hfr⟩
  · rw [rpad_no l pos hp]
    have HG : Hid (¬ num (nextBits l pos ((8 - pos % 8) % 8)) = 0) := hp
    clear hp
    go_enter Tryd.func76, Tryd.ntmps76
    go_wp2_with fail
    refine (gather8_any' br v l pos ((8 - pos % 8) % 8) _ _ (by omega) HA.out (by omega) (by omega)).mono ?_
    generalize num (nextBits l pos ((8 - pos % 8) % 8)) = G at HG
    have hne : ((G : Int) != 0) = true := by rw [bne_iff_ne]; have := HG.out; omega
    rintro e w1 ⟨rfl, hat, hfr⟩
    go_wp2_with fail
    go_ret2
    exact ⟨rfl, hat, hfr⟩

set_option maxRecDepth 100000 in
set_option maxHeartbeats 1000000 in
theorem rback_45 (br : Nat) (v : Value) (l : List Nat) (pos n er p2 : Nat) (w : World) (h : RAt w br v l pos) (hq : Hid (rpad l pos = (n, er, p2))) :
    Calls Tryd.prog 73 #[.pointer (some ⟨br, 0, none⟩), .func (.func 76) #[.pointer (some ⟨br, 0, none⟩)] #[]] w fun e w' => e = .returned (.tuple #[.int .u64 n, .int .i64 er]) ∧ RAt w' br v l (backTo er p2 pos) ∧ Fr (fun k => k = br) w w' := by
  have hmf : ∀ (fn : Fn) (first cap : Array Value) (w : World), (Instr.makeFunc fn first cap).run Tryd.prog w = .ok (.func fn first cap) w := fun _ _ _ _ => rfl
  obtain ⟨c0, c1, cf⟩ := cell_of_two h.blk
  have hlt := h.lt
  have hrl := h.rowlt
  have HL : Hid (pos ≤ 8 * l.length) := h.le
  have HW : Hid (RAt w br v l pos) := h
  clear h
  go_enter_defers Tryd.func73, Tryd.ntmps73
  go_wp2_with fail
  obtain ⟨a1, a2, a3, a4, a5⟩ := allocs3 w (.cells #[.pointer (some ⟨br, 0, none⟩)] 103) (.cells #[.int .i64 0] 29) (.cells #[.int .i64 pos] 3)
  refine (gatherPad_any br v l pos _ (HW.out.kept a5 (fun hh => hh) (fun _ _ hh => hh))).mono ?_
  rw [hq.out]
  rintro e w1 ⟨rfl, hat, hfr⟩
  simp only at hat
  have hsz := hfr.size
  rw [a1] at hsz
  have hkeep : ∀ k, w.heap.size ≤ k → k < w.heap.size + 3 → w1.heap[k]? = (((w.alloc (.cells #[.pointer (some ⟨br, 0, none⟩)] 103)).alloc (.cells #[.int .i64 0] 29)).alloc (.cells #[.int .i64 pos] 3)).heap[k]? := fun k hk1 hk2 =>
    hfr.block k (by omega) (by omega)
  have ho := (hkeep (w.heap.size + 1) (by omega) (by omega)).trans a3
  have hop := (hkeep w.heap.size (by omega) (by omega)).trans a2
  have hos := (hkeep (w.heap.size + 1 + 1) (by omega) (by omega)).trans a4
  have he0 := cell_of_one ho
  have he1 := free_of_one ho
  have f2 : Fr (fun k => k = w.heap.size + 1) w1 (w1.setCell ⟨w.heap.size + 1, 0, none⟩ (.int .i64 (er : Int))) := Fr.one _ _ _ _
  have f3 : Fr (fun k => k = br) w w1 := (a5.mono (fun _ _ hh => hh.elim)).trans hfr (fun _ _ hh => hh)
  have HR : Hid ((w1.setCell ⟨w.heap.size + 1, 0, none⟩ (.int .i64 (er : Int))).cell? ⟨w.heap.size + 1, 0, none⟩ = some (.int .i64 (er : Int))) := cell_of_one (one_setCell ho)
  have HP : Hid ((w1.setCell ⟨w.heap.size + 1, 0, none⟩ (.int .i64 (er : Int))).cell? ⟨w.heap.size, 0, none⟩ = some (.pointer (some ⟨br, 0, none⟩))) := f2.cell (cell_of_one hop) (by omega)
  have HZ : Hid ((w1.setCell ⟨w.heap.size + 1, 0, none⟩ (.int .i64 (er : Int))).cell? ⟨w.heap.size + 1 + 1, 0, none⟩ = some (.int .i64 pos)) := f2.cell (cell_of_one hos) (by omega)
  have HA2 : Hid (RAt (w1.setCell ⟨w.heap.size + 1, 0, none⟩ (.int .i64 (er : Int))) br v l p2) := hat.kept f2 (by omega) (fun k hk e => by have := hrl k hk; omega)
  have HS2 : Hid (Fr (fun k => k = br) w (w1.setCell ⟨w.heap.size + 1, 0, none⟩ (.int .i64 (er : Int)))) := f3.trans f2 (fun k hk e => by omega)
  clear hat hfr a1 a2 a3 a4 a5 c0 c1 cf ho hop hos hkeep f2 f3
  go_wp2_with fail
  refine leaves_cons (f := 77) (args := #[.pointer (some ⟨w.heap.size + 1, 0, none⟩), .pointer (some ⟨w.heap.size + 1 + 1, 0, none⟩), .pointer (some ⟨w.heap.size, 0, none⟩)]) (by simp) (by simp [go_sem]) ?_
  by_cases her : er = 0
  · refine (rback1_ok (w.heap.size + 1) (w.heap.size + 1 + 1) w.heap.size .returning _ (HR.out.trans (by rw [her]; rfl))).mono ?_
    rintro e u' w2 ⟨rfl, rfl, rfl⟩
    have hr := HR.out
    refine ⟨.tuple #[.int .u64 (n : Int), .int .i64 (er : Int)], ?_, rfl, ?_, HS2.out⟩
    · simp [results, Tryd.results73, go_sem, hr]
    · rw [show backTo er p2 pos = p2 from by rw [her]; rfl]; exact HA2.out
  · refine (rback1_back (w.heap.size + 1) (w.heap.size + 1 + 1) w.heap.size br v l pos p2 er .returning _ HA2.out HL.out (by omega) HR.out HZ.out HP.out).mono ?_
    rintro e u' w2 ⟨rfl, rfl, hat, hfr⟩
    have hr : w2.cell? ⟨w.heap.size + 1, 0, none⟩ = some (.int .i64 (er : Int)) := hfr.cell HR.out (by omega)
    refine ⟨.tuple #[.int .u64 (n : Int), .int .i64 (er : Int)], ?_, rfl, ?_, HS2.out.trans hfr (fun _ _ hh => hh)⟩
    · simp [results, Tryd.results73, go_sem, hr]
    · rw [backTo_back er p2 pos her]; exact hat

set_option maxRecDepth 100000 in
set_option maxHeartbeats 1000000 in
theorem rvar_any (br : Nat) (v : Value) (l : List Nat) (pos n er p2 : Nat) (w : World) (h : RAt w br v l pos) (hq : Hid (rvar l pos = (n, er, p2))) :
    Calls Tryd.prog 66 #[.pointer (some ⟨br, 0, none⟩)] w fun e w' => e = .returned (.tuple #[.int .u64 n, .int .i64 er]) ∧ RAt w' br v l (backTo er p2 pos) ∧ Fr (fun k => k = br) w w' := by
  have hmf : ∀ (fn : Fn) (first cap : Array Value) (w : World), (Instr.makeFunc fn first cap).run Tryd.prog w = .ok (.func fn first cap) w := fun _ _ _ _ => rfl
  have HA : Hid (RAt w br v l pos) := h
  clear h
  go_enter Tryd.func66, Tryd.ntmps66
  go_wp2_with fail
  refine (rback_44 br v l pos n er p2 _ HA.out hq).mono ?_
  rintro e w1 ⟨rfl, hat, hfr⟩
  go_wp2_with fail
  go_ret2
  exact ⟨rfl, hat, hfr⟩

set_option maxRecDepth 100000 in
set_option maxHeartbeats 1000000 in
theorem ralign_any (br : Nat) (v : Value) (l : List Nat) (pos n er p2 : Nat) (w : World) (h : RAt w br v l pos) (hq : Hid (rpad l pos = (n, er, p2))) :
    Calls Tryd.prog 71 #[.pointer (some ⟨br, 0, none⟩)] w fun e w' => e = .returned (.int .i64 er) ∧ RAt w' br v l (backTo er p2 pos) ∧ Fr (fun k => k = br) w w' := by
  have hmf : ∀ (fn : Fn) (first cap : Array Value) (w : World), (Instr.makeFunc fn first cap).run Tryd.prog w = .ok (.func fn first cap) w := fun _ _ _ _ => rfl
  have HA : Hid (RAt w br v l pos) := h
  clear h
  go_enter Tryd.func71, Tryd.ntmps71
  go_wp2_with fail
  refine (rback_45 br v l pos n er p2 _ HA.out hq).mono ?_
  rintro e w1 ⟨rfl, hat, hfr⟩
  go_wp2_with fail
  go_ret
  exact ⟨rfl, hat, hfr⟩

set_option maxRecDepth 100000 in
set_option maxHeartbeats 1000000 in
theorem take_width (p : Value) (wd : Int) (w : World) (h : wd < 0 ∨ 64 < wd) :
    Calls Tryd.prog 69 #[p, .int .i64 wd] w fun e w' => e = .returned (.tuple #[.int .u64 0, .int .i64 11]) ∧ w' = w := by
  have HF : Hid (wd < 0 ∨ 64 < wd) := h
  clear h
  have hnot : ∀ (x : Bool) (w : World), (Op.unary .not (.bool x)).run Tryd.prog w = .ok (.bool (!x)) w := fun _ _ => rfl
  go_enter Tryd.func69, Tryd.ntmps69
  go_wp2_with fail
  refine (isWidth_no wd _ HF.out).mono ?_
  rintro e w1 ⟨rfl, rfl⟩
  go_wp2_with fail
  go_ret2
  exact ⟨rfl, rfl⟩

set_option maxRecDepth 100000 in
set_option maxHeartbeats 1000000 in
theorem take_end (br : Nat) (v : Value) (l : List Nat) (pos wd : Nat) (w : World) (h : RAt w br v l pos) (hw : wd ≤ 64) (hf : 8 * l.length < pos + wd) :
    Calls Tryd.prog 69 #[.pointer (some ⟨br, 0, none⟩), .int .i64 wd] w fun e w' => e = .returned (.tuple #[.int .u64 0, .int .i64 14]) ∧ ∃ q, w' = w.drewN q := by
  have HA : Hid (RAt w br v l pos) := h
  have HF : Hid (8 * l.length < pos + wd) := hf
  clear h hf
  have hnot : ∀ (x : Bool) (w : World), (Op.unary .not (.bool x)).run Tryd.prog w = .ok (.bool (!x)) w := fun _ _ => rfl
  go_enter Tryd.func69, Tryd.ntmps69
  go_wp2_with fail
  refine (isWidth_yes wd _ (by omega) (by omega)).mono ?_
  rintro e w1 ⟨rfl, hw1⟩
  subst hw1
  go_wp2_with fail
  refine (gather64_end br v l pos wd _ HA.out hw HF.out).mono ?_
  rintro e w1 ⟨rfl, q, rfl⟩
  go_wp2_with fail
  go_ret2
  exact ⟨rfl, q, rfl⟩

set_option maxRecDepth 100000 in
set_option maxHeartbeats 1000000 in
theorem take_any (br : Nat) (v : Value) (l : List Nat) (pos wd : Nat) (w : World) (h : RAt w br v l pos) (hw : wd ≤ 64) (hf : pos + wd ≤ 8 * l.length) :
    Calls Tryd.prog 69 #[.pointer (some ⟨br, 0, none⟩), .int .i64 wd] w fun e w' => e = .returned (.tuple #[.int .u64 (num (nextBits l pos wd)), .int .i64 0]) ∧ RAt w' br v l (pos + wd) ∧ Fr (fun k => k = br) w w' := by
  have HA : Hid (RAt w br v l pos) := h
  have HF : Hid (pos + wd ≤ 8 * l.length) := hf
  clear h hf
  have hnot : ∀ (x : Bool) (w : World), (Op.unary .not (.bool x)).run Tryd.prog w = .ok (.bool (!x)) w := fun _ _ => rfl
  go_enter Tryd.func69, Tryd.ntmps69
  go_wp2_with fail
  refine (isWidth_yes wd _ (by omega) (by omega)).mono ?_
  rintro e w1 ⟨rfl, hw1⟩
  subst hw1
  go_wp2_with fail
  refine (gather64_any br v l pos wd _ HA.out hw HF.out).mono ?_
  rintro e w1 ⟨rfl, hat, hfr⟩
  go_wp2_with fail
  go_ret2
  exact ⟨rfl, hat, hfr⟩

set_option maxRecDepth 100000 in
set_option maxHeartbeats 1000000 in
theorem newR_some (a : Addr) (n cap : Nat) (l : List Nat) (w : World) (hl : l.length = n) (hn : n ≤ 140737488355328) (hc : ∀ (j : Nat) (u : Value), (byteCells l)[j]? = some u → w.cell? (a.add j) = some u) (hb : ∀ x ∈ l, x < 256) :
    Calls Tryd.prog 72 #[.slice (some a) n cap] w fun e w' => ∃ br v, e = .returned (.pointer (some ⟨br, 0, none⟩)) ∧ RAt w' br v l 0 ∧ Below w.heap.size w w' ∧ w.heap.size ≤ br ∧ (∀ k, v.ownBlock = some k → w.heap.size ≤ k) := by
  have HC : Hid (∀ (j : Nat) (u : Value), (byteCells l)[j]? = some u → w.cell? (a.add j) = some u) := hc
  have HB : Hid (∀ x ∈ l, x < 256) := hb
  have HL : Hid (l.length = n) := hl
  clear hc hb hl
  go_enter Tryd.func72, Tryd.ntmps72
  go_wp2_with fail
  refine (clone_some a n cap l _ HL.out hn HC.out).mono ?_
  rintro e w1 ⟨rv, rfl, hown, hbel, hnn⟩
  obtain ⟨g, cap', hv⟩ : ∃ g cap', rv = .slice (some ⟨g, 0, none⟩) n cap' := by
    rcases hown.2 with ⟨e, _⟩ | ⟨g, cap', cur, e, _⟩
    · exact absurd e hnn
    · exact ⟨g, cap', e⟩
  rw [hv] at hown ⊢
  have HO : Hid (w1.ownsRow w.heap.size 5 1 (.slice (some ⟨g, 0, none⟩) n cap') n (byteCells l)) := hown
  have HE : Hid (Below w.heap.size w w1) := hbel
  have hsz := hbel.size
  clear hown hbel hnn hv
  go_wp2_with fail
  go_ret
  refine ⟨w1.heap.size, .slice (some ⟨g, 0, none⟩) n cap', rfl, ⟨heap_alloc_new _ _, ?_, by omega, by rw [HL.out]; exact hn, HB.out⟩, HE.out.alloc hsz _, hsz, fun k hk => (HO.out.lt k hk).1⟩
  rw [HL.out]
  exact ownsRow_base (HO.out.alloc _) (fun _ _ => Nat.zero_le _)

set_option maxRecDepth 100000 in
set_option maxHeartbeats 1000000 in
theorem newR_nil (w : World) :
    Calls Tryd.prog 72 #[.slice none 0 0] w fun e w' => ∃ br v, e = .returned (.pointer (some ⟨br, 0, none⟩)) ∧ RAt w' br v [] 0 ∧ Below w.heap.size w w' ∧ w.heap.size ≤ br ∧ (∀ k, v.ownBlock = some k → w.heap.size ≤ k) := by
  go_enter Tryd.func72, Tryd.ntmps72
  go_wp2_with fail
  refine (clone_nil _).mono ?_
  rintro e w1 ⟨rfl, hw1⟩
  subst hw1
  go_wp2_with fail
  go_ret
  exact ⟨w1.heap.size, .slice none 0 0, rfl, ⟨heap_alloc_new _ _, World.ownsRow_nil _ _ _ _, by simp, by simp, by simp⟩, (Below.refl _ _).alloc (Nat.le_refl _) _, Nat.le_refl _, fun k hk => by simp [Value.ownBlock] at hk⟩

end Go.Proofs.YtamonbkhpbdojaaDoor
