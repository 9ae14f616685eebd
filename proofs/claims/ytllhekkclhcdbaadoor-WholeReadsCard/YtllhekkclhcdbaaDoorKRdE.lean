/- The reference's decoder: 'NewDecoder' of no bytes. -/
import Derived.Test.YtllhekkclhcdbaaDoorKRdW
namespace Go.Proofs.YtllhekkclhcdbaaDoor
open Go.RowKit

set_option maxRecDepth 100000 in
set_option maxHeartbeats 4000000 in
theorem rnewD_nil (w : World) (n : Nat) (h1 : 1 ≤ n) (h2 : n ≤ 131072) :
    Calls Tryd.prog 35 #[.slice none 0 0, .int .i64 n] w fun e w' => ∃ br gt ct gs gz vb, e = .returned (.pointer (some ⟨br, 0, none⟩)) ∧ RdAt w' br gt ct gs gz n vb [] (newD [] n) ∧ Fr (fun _ => False) w w' ∧ w.heap.size ≤ br ∧ w.heap.size ≤ gt ∧ w.heap.size ≤ gs ∧ w.heap.size ≤ gz := by
  have HN : Hid (1 ≤ n ∧ n ≤ 131072) := ⟨h1, h2⟩
  have HB : Hid (∀ y ∈ ([] : List Nat), y < 256) := fun y h => by cases h
  obtain ⟨B, HBe⟩ : ∃ B : List Nat, Hid (B = []) := ⟨[], rfl⟩
  rw [← HBe.out] at HB ⊢
  clear h1 h2
  go_enter Tryd.func35, Tryd.ntmps35
  go_wp2_with fail
  refine (begun_at w n HN.out.1 HN.out.2).mono ?_
  rintro e w1 ⟨gt, ct, gs, gz, rfl, hb⟩
  have HBg : Hid (Begun w w1 gt ct gs gz n) := hb
  clear hb
  have HX : Hid (∀ w', Fr (fun _ => False) w1 w' → ∀ (br : Nat) (o : De), w'.heap[br]? = some (.cells #[.slice (some ⟨gt, 0, none⟩) 47 ct, .slice (some ⟨gs, 0, none⟩) n n, .slice (some ⟨gz, 0, none⟩) n n, .int .i64 (o.made : Nat), .int .i64 (o.s.a : Nat), .int .i64 (o.s.c : Nat), .int .i64 (o.s.t : Nat), .slice none 0 0, .int .i64 (o.s.p : Nat)] 107 (0, 0)) → o.x = List.replicate n 0 → RdAt w' br gt ct gs gz n (.slice none 0 0) B o) := fun w' f br o hb hx => by
    refine ⟨hb, row_kept1 HBg.out.tab f (fun h => h), ?_, ?_, ?_, ?_, HBg.out.ne, by rw [hx]; simp⟩
    · have e : o.x.map (· / 2) = List.replicate n 0 := by rw [hx]; simp
      rw [e]; exact row_kept1 HBg.out.st f (fun h => h)
    · have e : o.x.map (· % 2) = List.replicate n 0 := by rw [hx]; simp
      rw [e]; exact row_kept1 HBg.out.bt f (fun h => h)
    · rw [HBe.out]; exact ⟨rfl, Or.inl ⟨rfl, rfl⟩⟩
    · rw [HBe.out]; decide
  have HF2 : Hid (Fr (fun _ => False) w w1) := HBg.out.fr
  have HR0 : Hid (RdAt (w1.alloc (.cells #[.slice (some ⟨gt, 0, none⟩) 47 ct, .slice (some ⟨gs, 0, none⟩) n n, .slice (some ⟨gz, 0, none⟩) n n, .int .i64 0, .int .i64 32768, .int .i64 0, .int .i64 0, .slice none 0 0, .int .i64 0] 107)) w1.heap.size gt ct gs gz n (.slice none 0 0) B { s := { a := 32768, c := 0, t := 0, p := 0 }, x := List.replicate n 0, made := 0 }) := HX.out _ ((Fr.refl _ _).alloc _) w1.heap.size _ (heap_alloc_new w1 _) rfl
  have HF3 : Hid (Fr (fun _ => False) w (w1.alloc (.cells #[.slice (some ⟨gt, 0, none⟩) 47 ct, .slice (some ⟨gs, 0, none⟩) n n, .slice (some ⟨gz, 0, none⟩) n n, .int .i64 0, .int .i64 32768, .int .i64 0, .int .i64 0, .slice none 0 0, .int .i64 0] 107))) := HF2.out.alloc _
  have HG : Hid (w.heap.size ≤ w1.heap.size ∧ w.heap.size ≤ gt ∧ w.heap.size ≤ gs ∧ w.heap.size ≤ gz) := ⟨HF2.out.size, HBg.out.new⟩
  obtain ⟨q0, q1, q2, q3, q4, q5, q6, q7, q8, qf⟩ := cell_of_nine HR0.out.blk
  go_wp2_with fail
  generalize w1.alloc (.cells #[.slice (some ⟨gt, 0, none⟩) 47 ct, .slice (some ⟨gs, 0, none⟩) n n, .slice (some ⟨gz, 0, none⟩) n n, .int .i64 0, .int .i64 32768, .int .i64 0, .int .i64 0, .slice none 0 0, .int .i64 0] 107) = w3 at *
  refine (rbyte_any _ w1.heap.size gt ct gs gz n _ B _ HR0.out HB.out 0 (by decide)).mono ?_
  rintro e w4 ⟨rfl, hw4⟩
  subst hw4
  obtain ⟨u, hu⟩ : ∃ u, u = byteD B 0 := ⟨_, rfl⟩
  rw [← hu]
  have hu2 : u < 256 := by rw [hu]; exact byteD_lt HB.out 0
  have HU : Hid (u = byteD B 0) := hu
  clear hu
  have HR1 : Hid (RdAt (w4.setCell ⟨w1.heap.size, 5, none⟩ (.int .i64 ((u : Int) * 65536))) w1.heap.size gt ct gs gz n (.slice none 0 0) B { s := { a := 32768, c := u * 65536, t := 0, p := 0 }, x := List.replicate n 0, made := 0 }) := by
    have h := HR0.out.setC (u * 65536)
    rw [show ((u * 65536 : Nat) : Int) = (u : Int) * 65536 by omega] at h
    exact h
  have HF4 : Hid (Fr (fun k => k = w1.heap.size) w4 (w4.setCell ⟨w1.heap.size, 5, none⟩ (.int .i64 ((u : Int) * 65536)))) := Fr.set1 w4 w1.heap.size 5 _
  go_wp2_with fail
  generalize w4.setCell ⟨w1.heap.size, 5, none⟩ (.int .i64 ((u : Int) * 65536)) = w5 at *
  clear q0 q1 q2 q3 q4 q5 q6 q7 q8 qf
  have hD0 : Dw B { a := 32768, c := u * 65536, t := 0, p := 0 } := ⟨by show 1 ≤ 32768; decide, by show 32768 < 65536; decide, by show u * 65536 < _; omega, Nat.zero_le _, Nat.zero_le _⟩
  obtain ⟨hiw, hia, hit⟩ := inD_dw hD0
  refine (rin_any _ w1.heap.size gt ct gs gz n _ B _ HR1.out HB.out hD0).mono ?_
  rintro e w6 ⟨rfl, hr6, hs6⟩
  have HEn : Hid (newD B n = { s := { inD B { a := 32768, c := u * 65536, t := 0, p := 0 } with c := (inD B { a := 32768, c := u * 65536, t := 0, p := 0 }).c * 128 % 4294967296, t := (inD B { a := 32768, c := u * 65536, t := 0, p := 0 }).t - 7 }, x := List.replicate n 0, made := 0 }) := by
    rw [HU.out]; rfl
  dsimp only at hr6
  have hcl := hiw.clt
  have htl := hiw.tlt
  clear hiw hia hD0
  generalize inD B { a := 32768, c := u * 65536, t := 0, p := 0 } = s2 at *
  obtain ⟨a, c, t, p⟩ := s2
  dsimp only at *
  obtain ⟨d, HD⟩ : ∃ d, Hid (d = c * 128 % 4294967296) := ⟨_, rfl⟩
  have hd : bits BinOp.and IntKind.i64 ((c : Int) * 128) 4294967295 = (d : Int) := by
    have := band64 (c * 128) 32 (by omega) (by decide)
    rw [show ((c * 128 : Nat) : Int) = (c : Int) * 128 by omega] at this
    rw [HD.out]; exact this
  obtain ⟨q0, q1, q2, q3, q4, q5, q6, q7, q8, qf⟩ := cell_of_nine hr6.blk
  have hbl := hr6.lt
  have HR6 : Hid (RdAt ((w6.setCell ⟨w1.heap.size, 5, none⟩ (.int .i64 (d : Int))).setCell ⟨w1.heap.size, 6, none⟩ (.int .i64 ((t : Int) - 7))) w1.heap.size gt ct gs gz n (.slice none 0 0) B (newD B n)) := by
    have h := (hr6.setC d).setT (t - 7)
    rw [show ((t - 7 : Nat) : Int) = (t : Int) - 7 by omega] at h
    rw [HEn.out, ← HD.out]
    exact h
  have HF6 : Hid (Fr (fun _ => False) w ((w6.setCell ⟨w1.heap.size, 5, none⟩ (.int .i64 (d : Int))).setCell ⟨w1.heap.size, 6, none⟩ (.int .i64 ((t : Int) - 7)))) := by
    have hg := HG.out
    have g1 := (HF3.out.trans HF4.out (fun i hi e => by omega)).trans hs6 (fun i hi e => by rcases e with e | e | e <;> omega)
    exact (g1.trans (Fr.set1 w6 w1.heap.size 5 _) (fun i hi e => by omega)).trans (Fr.set1 _ w1.heap.size 6 _) (fun i hi e => by omega)
  clear hr6 hs6
  go_wp2_with fail
  go_ret
  exact ⟨w1.heap.size, rfl, gt, ct, gs, gz, ⟨_, HR6.out⟩, HF6.out, HG.out.1, HG.out.2.1, HG.out.2.2.1, HG.out.2.2.2⟩

set_option maxRecDepth 100000 in
set_option maxHeartbeats 4000000 in
theorem rnewD_zero (w : World) (a : Addr) (cap : Nat) (n : Nat) (h1 : 1 ≤ n) (h2 : n ≤ 131072) :
    Calls Tryd.prog 35 #[.slice (some a) 0 cap, .int .i64 n] w fun e w' => ∃ br gt ct gs gz vb, e = .returned (.pointer (some ⟨br, 0, none⟩)) ∧ RdAt w' br gt ct gs gz n vb [] (newD [] n) ∧ Fr (fun _ => False) w w' ∧ w.heap.size ≤ br ∧ w.heap.size ≤ gt ∧ w.heap.size ≤ gs ∧ w.heap.size ≤ gz := by
  have HN : Hid (1 ≤ n ∧ n ≤ 131072) := ⟨h1, h2⟩
  have HB : Hid (∀ y ∈ ([] : List Nat), y < 256) := fun y h => by cases h
  obtain ⟨B, HBe⟩ : ∃ B : List Nat, Hid (B = []) := ⟨[], rfl⟩
  rw [← HBe.out] at HB ⊢
  clear h1 h2
  go_enter Tryd.func35, Tryd.ntmps35
  go_wp2_with fail
  refine (begun_at w n HN.out.1 HN.out.2).mono ?_
  rintro e w1 ⟨gt, ct, gs, gz, rfl, hb⟩
  have HBg : Hid (Begun w w1 gt ct gs gz n) := hb
  clear hb
  have HX : Hid (∀ w', Fr (fun _ => False) w1 w' → ∀ (br : Nat) (o : De), w'.heap[br]? = some (.cells #[.slice (some ⟨gt, 0, none⟩) 47 ct, .slice (some ⟨gs, 0, none⟩) n n, .slice (some ⟨gz, 0, none⟩) n n, .int .i64 (o.made : Nat), .int .i64 (o.s.a : Nat), .int .i64 (o.s.c : Nat), .int .i64 (o.s.t : Nat), .slice none 0 0, .int .i64 (o.s.p : Nat)] 107 (0, 0)) → o.x = List.replicate n 0 → RdAt w' br gt ct gs gz n (.slice none 0 0) B o) := fun w' f br o hb hx => by
    refine ⟨hb, row_kept1 HBg.out.tab f (fun h => h), ?_, ?_, ?_, ?_, HBg.out.ne, by rw [hx]; simp⟩
    · have e : o.x.map (· / 2) = List.replicate n 0 := by rw [hx]; simp
      rw [e]; exact row_kept1 HBg.out.st f (fun h => h)
    · have e : o.x.map (· % 2) = List.replicate n 0 := by rw [hx]; simp
      rw [e]; exact row_kept1 HBg.out.bt f (fun h => h)
    · rw [HBe.out]; exact ⟨rfl, Or.inl ⟨rfl, rfl⟩⟩
    · rw [HBe.out]; decide
  have HF2 : Hid (Fr (fun _ => False) w w1) := HBg.out.fr
  have HR0 : Hid (RdAt (w1.alloc (.cells #[.slice (some ⟨gt, 0, none⟩) 47 ct, .slice (some ⟨gs, 0, none⟩) n n, .slice (some ⟨gz, 0, none⟩) n n, .int .i64 0, .int .i64 32768, .int .i64 0, .int .i64 0, .slice none 0 0, .int .i64 0] 107)) w1.heap.size gt ct gs gz n (.slice none 0 0) B { s := { a := 32768, c := 0, t := 0, p := 0 }, x := List.replicate n 0, made := 0 }) := HX.out _ ((Fr.refl _ _).alloc _) w1.heap.size _ (heap_alloc_new w1 _) rfl
  have HF3 : Hid (Fr (fun _ => False) w (w1.alloc (.cells #[.slice (some ⟨gt, 0, none⟩) 47 ct, .slice (some ⟨gs, 0, none⟩) n n, .slice (some ⟨gz, 0, none⟩) n n, .int .i64 0, .int .i64 32768, .int .i64 0, .int .i64 0, .slice none 0 0, .int .i64 0] 107))) := HF2.out.alloc _
  have HG : Hid (w.heap.size ≤ w1.heap.size ∧ w.heap.size ≤ gt ∧ w.heap.size ≤ gs ∧ w.heap.size ≤ gz) := ⟨HF2.out.size, HBg.out.new⟩
  obtain ⟨q0, q1, q2, q3, q4, q5, q6, q7, q8, qf⟩ := cell_of_nine HR0.out.blk
  go_wp2_with fail
  generalize w1.alloc (.cells #[.slice (some ⟨gt, 0, none⟩) 47 ct, .slice (some ⟨gs, 0, none⟩) n n, .slice (some ⟨gz, 0, none⟩) n n, .int .i64 0, .int .i64 32768, .int .i64 0, .int .i64 0, .slice none 0 0, .int .i64 0] 107) = w3 at *
  refine (rbyte_any _ w1.heap.size gt ct gs gz n _ B _ HR0.out HB.out 0 (by decide)).mono ?_
  rintro e w4 ⟨rfl, hw4⟩
  subst hw4
  obtain ⟨u, hu⟩ : ∃ u, u = byteD B 0 := ⟨_, rfl⟩
  rw [← hu]
  have hu2 : u < 256 := by rw [hu]; exact byteD_lt HB.out 0
  have HU : Hid (u = byteD B 0) := hu
  clear hu
  have HR1 : Hid (RdAt (w4.setCell ⟨w1.heap.size, 5, none⟩ (.int .i64 ((u : Int) * 65536))) w1.heap.size gt ct gs gz n (.slice none 0 0) B { s := { a := 32768, c := u * 65536, t := 0, p := 0 }, x := List.replicate n 0, made := 0 }) := by
    have h := HR0.out.setC (u * 65536)
    rw [show ((u * 65536 : Nat) : Int) = (u : Int) * 65536 by omega] at h
    exact h
  have HF4 : Hid (Fr (fun k => k = w1.heap.size) w4 (w4.setCell ⟨w1.heap.size, 5, none⟩ (.int .i64 ((u : Int) * 65536)))) := Fr.set1 w4 w1.heap.size 5 _
  go_wp2_with fail
  generalize w4.setCell ⟨w1.heap.size, 5, none⟩ (.int .i64 ((u : Int) * 65536)) = w5 at *
  clear q0 q1 q2 q3 q4 q5 q6 q7 q8 qf
  have hD0 : Dw B { a := 32768, c := u * 65536, t := 0, p := 0 } := ⟨by show 1 ≤ 32768; decide, by show 32768 < 65536; decide, by show u * 65536 < _; omega, Nat.zero_le _, Nat.zero_le _⟩
  obtain ⟨hiw, hia, hit⟩ := inD_dw hD0
  refine (rin_any _ w1.heap.size gt ct gs gz n _ B _ HR1.out HB.out hD0).mono ?_
  rintro e w6 ⟨rfl, hr6, hs6⟩
  have HEn : Hid (newD B n = { s := { inD B { a := 32768, c := u * 65536, t := 0, p := 0 } with c := (inD B { a := 32768, c := u * 65536, t := 0, p := 0 }).c * 128 % 4294967296, t := (inD B { a := 32768, c := u * 65536, t := 0, p := 0 }).t - 7 }, x := List.replicate n 0, made := 0 }) := by
    rw [HU.out]; rfl
  dsimp only at hr6
  have hcl := hiw.clt
  have htl := hiw.tlt
  clear hiw hia hD0
  generalize inD B { a := 32768, c := u * 65536, t := 0, p := 0 } = s2 at *
  obtain ⟨a, c, t, p⟩ := s2
  dsimp only at *
  obtain ⟨d, HD⟩ : ∃ d, Hid (d = c * 128 % 4294967296) := ⟨_, rfl⟩
  have hd : bits BinOp.and IntKind.i64 ((c : Int) * 128) 4294967295 = (d : Int) := by
    have := band64 (c * 128) 32 (by omega) (by decide)
    rw [show ((c * 128 : Nat) : Int) = (c : Int) * 128 by omega] at this
    rw [HD.out]; exact this
  obtain ⟨q0, q1, q2, q3, q4, q5, q6, q7, q8, qf⟩ := cell_of_nine hr6.blk
  have hbl := hr6.lt
  have HR6 : Hid (RdAt ((w6.setCell ⟨w1.heap.size, 5, none⟩ (.int .i64 (d : Int))).setCell ⟨w1.heap.size, 6, none⟩ (.int .i64 ((t : Int) - 7))) w1.heap.size gt ct gs gz n (.slice none 0 0) B (newD B n)) := by
    have h := (hr6.setC d).setT (t - 7)
    rw [show ((t - 7 : Nat) : Int) = (t : Int) - 7 by omega] at h
    rw [HEn.out, ← HD.out]
    exact h
  have HF6 : Hid (Fr (fun _ => False) w ((w6.setCell ⟨w1.heap.size, 5, none⟩ (.int .i64 (d : Int))).setCell ⟨w1.heap.size, 6, none⟩ (.int .i64 ((t : Int) - 7)))) := by
    have hg := HG.out
    have g1 := (HF3.out.trans HF4.out (fun i hi e => by omega)).trans hs6 (fun i hi e => by rcases e with e | e | e <;> omega)
    exact (g1.trans (Fr.set1 w6 w1.heap.size 5 _) (fun i hi e => by omega)).trans (Fr.set1 _ w1.heap.size 6 _) (fun i hi e => by omega)
  clear hr6 hs6
  go_wp2_with fail
  go_ret
  exact ⟨w1.heap.size, rfl, gt, ct, gs, gz, ⟨_, HR6.out⟩, HF6.out, HG.out.1, HG.out.2.1, HG.out.2.2.1, HG.out.2.2.2⟩

theorem rnewD_all (w : World) (v : Value) (B : List Nat) (n : Nat) (h1 : 1 ≤ n) (h2 : n ≤ 131072) (hv : SeenAt w v B) (hnil : v = .slice none 0 0 ∨ ∃ a n c, v = .slice (some a) n c) (hB : ∀ y ∈ B, y < 256) :
    Calls Tryd.prog 35 #[v, .int .i64 n] w fun e w' => ∃ br gt ct gs gz vb, e = .returned (.pointer (some ⟨br, 0, none⟩)) ∧ RdAt w' br gt ct gs gz n vb B (newD B n) ∧ Fr (fun _ => False) w w' ∧ w.heap.size ≤ br ∧ w.heap.size ≤ gt ∧ w.heap.size ≤ gs ∧ w.heap.size ≤ gz := by
  rcases Nat.eq_zero_or_pos B.length with h | h
  · obtain rfl := List.eq_nil_of_length_eq_zero h
    obtain ⟨ao, cap, rfl, _, _⟩ := hv
    rcases hnil with e | ⟨a, m, c, e⟩
    · rw [e]; exact rnewD_nil w n h1 h2
    · simp only [Value.slice.injEq] at e
      obtain ⟨rfl, _, rfl⟩ := e
      exact rnewD_zero w a cap n h1 h2
  · exact rnewD_any w v B n h1 h2 hv hB h

end Go.Proofs.YtllhekkclhcdbaaDoor
