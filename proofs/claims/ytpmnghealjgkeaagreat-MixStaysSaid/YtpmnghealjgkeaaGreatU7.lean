/-
  The document's examples of layer 7: up answers true.
-/
import Derived.Test.YtpmnghealjgkeaaGreatL7a
import Derived.Test.YtpmnghealjgkeaaGreatKnu
namespace Go.Proofs.YtpmnghealjgkeaaGreat
open Go.RowKit
set_option linter.unusedVariables false
theorem ns_one {w : World} {A : Option Addr} {n c : Nat} {N : Int} (h : Nm w A n c N) : Ns (w.alloc (.cells #[.slice A n c] 23)) (some ⟨w.heap.size, 0, none⟩) 1 1 (fun _ => ⟨A, n, c, N⟩) :=
  ⟨Nat.le_refl _, by omega, fun _ => ⟨w.heap.size, 0, rfl, by simp, fun i hi => by
    obtain rfl : i = 0 := by omega
    simp [World.cell?_alloc_at]⟩, fun i hi => h.below (below_al _ _)⟩
theorem ch_one {w : World} {A1 A2 A3 : Option Addr} {n1 c1 n2 c2 n3 c3 : Nat} {X Y Z : Int} (h1 : Nm w A1 n1 c1 X) (h2 : Nm w A2 n2 c2 Y) (h3 : Nm w A3 n3 c3 Z) :
    Ch (w.alloc (.cells #[.slice A1 n1 c1, .slice A2 n2 c2, .slice A3 n3 c3] 61)) (some ⟨w.heap.size, 0, none⟩) 1 1 (fun _ => ⟨A1, n1, c1, A2, n2, c2, A3, n3, c3, X, Y, Z⟩) :=
  ⟨Nat.le_refl _, by omega, fun _ => ⟨w.heap.size, 0, rfl, by simp, fun i hi => by
    obtain rfl : i = 0 := by omega
    exact ⟨by simp [World.cell?_alloc_at], by simp [World.cell?_alloc_at], by simp [World.cell?_alloc_at]⟩⟩, fun i hi => ⟨h1.below (below_al _ _), h2.below (below_al _ _), h3.below (below_al _ _)⟩⟩
theorem lit_nm (w : World) {x : Int} (h0 : 0 ≤ x) (h1 : x < W) : Nm (w.alloc (.cells #[.int .u64 x] 78)) (some ⟨w.heap.size, 0, none⟩) 1 1 x :=
  Nm.one (Row.new w 78 .u64 [x]) h0 h1 (by omega) (by omega)
theorem nil_nm (w : World) : Nm w none 0 0 0 := (Cn.nil w).nm
theorem dl_lit {x : Int} (h0 : 0 < x) (h1 : x < W) : 1 = dl x := by
  have h := dl_one (by omega) h1
  have h2 : dl x ≠ 0 := fun e => by have := (dl_zero (show 0 ≤ x by omega)).1 e; omega
  omega
set_option maxRecDepth 100000 in
theorem eq_err0 : ∀ w : World, (binOp .eql 35 .nilIface .nilIface).run Tryz.prog w = .ok (.bool true) w := fun _ => rfl
set_option maxRecDepth 100000 in
theorem ne_err0 : ∀ w : World, (binOp .neq 35 .nilIface .nilIface).run Tryz.prog w = .ok (.bool false) w := fun _ => rfl
theorem kP0 : kP 0 = 100547 := by decide +kernel
theorem kQ0 : kQ 0 = 50273 := by decide +kernel
theorem el4_0 : El 100547 50273 4 := by
  have h := (k_safe (k := 0) (by decide)).2.1
  rwa [kP0, kQ0] at h
theorem seal_ex : sealN 100547 50273 4 1 4 0 = ⟨1, 4, 1⟩ := by
  unfold sealN
  rw [gx_zero (by decide) (by decide), gx_zero (by decide) (by decide)]
  rfl
theorem lit_args (w : World) {s : Nat} (hs : w.heap.size = s) :
    Ns (((w.alloc (.cells #[.int .u64 4] 78)).alloc (.cells #[.slice (some ⟨s, 0, none⟩) 1 1] 23)).alloc (.cells #[.slice none 0 0] 23)) (some ⟨s + 1, 0, none⟩) 1 1 (fun _ => ⟨some ⟨s, 0, none⟩, 1, 1, 4⟩) ∧
    Ns (((w.alloc (.cells #[.int .u64 4] 78)).alloc (.cells #[.slice (some ⟨s, 0, none⟩) 1 1] 23)).alloc (.cells #[.slice none 0 0] 23)) (some ⟨s + 1 + 1, 0, none⟩) 1 1 (fun _ => ⟨none, 0, 0, 0⟩) ∧
    Below w.heap.size w (((w.alloc (.cells #[.int .u64 4] 78)).alloc (.cells #[.slice (some ⟨s, 0, none⟩) 1 1] 23)).alloc (.cells #[.slice none 0 0] 23)) := by
  subst hs
  have h1 := ns_one (lit_nm w (x := 4) (by decide) (by decide))
  have h2 := ns_one (nil_nm ((w.alloc (.cells #[.int .u64 4] 78)).alloc (.cells #[.slice (some ⟨w.heap.size, 0, none⟩) 1 1] 23)))
  have e1 : (w.alloc (.cells #[.int .u64 4] 78)).heap.size = w.heap.size + 1 := by simp
  have e2 : ((w.alloc (.cells #[.int .u64 4] 78)).alloc (.cells #[.slice (some ⟨w.heap.size, 0, none⟩) 1 1] 23)).heap.size = w.heap.size + 1 + 1 := by simp
  rw [e1] at h1
  rw [e2] at h2
  exact ⟨h1.below (below_al _ _), h2, (((Below.refl _ _).alloc (Nat.le_refl _) _).alloc (by simp) _).alloc (by simp; omega) _⟩
set_option maxRecDepth 100000 in
theorem eq_errA : ∀ w : World, (binOp .eql 35 (.iface 80 (.int .i64 1)) (.iface 80 (.int .i64 1))).run Tryz.prog w = .ok (.bool true) w := fun _ => rfl
set_option maxHeartbeats 8000000 in
set_option maxRecDepth 100000 in
theorem up7_any (w : World) : Calls Tryz.prog 11 #[] w (AnsV (.bool true) w) := by
  have he := ne_err0
  have he1 := eq_err0
  have he2 := eq_errA
  go_enter Tryz.func11, Tryz.ntmps11
  go_wp2_with fail
  refine (known_any 0 (by decide) w).mono ?_
  rintro e w1 ⟨A, n, c, A', n', c', rfl, kg, b1⟩
  have B1 := Lib.hid b1
  have KGG := Lib.hid kg
  clear b1 kg
  go_wp2_with fail
  refine (kg_new (kix_lt 0) KGG.out).mono ?_
  rintro e w2 ⟨b, d, rfl, gr, hP, hQ, hG, b2, -, -⟩
  have B2 := Lib.hid (B1.out.trans (b2.mono B1.out.size))
  rw [show kix 0 = 0 from rfl] at hP hQ
  rw [kP0] at hP
  rw [kQ0] at hQ
  have HP := Lib.hid hP
  have HQ := Lib.hid hQ
  have HG := Lib.hid hG
  have GR := Lib.hid gr
  clear b2 gr hP hQ hG KGG B1
  obtain ⟨s2, hs2⟩ : ∃ s, w2.heap.size = s := ⟨_, rfl⟩
  have N1 := Lib.hid (lit_nm w2 (x := 1) (by decide) (by decide))
  rw [hs2] at N1
  have L := Lib.hid (lit_args (w2.alloc (.cells #[.int .u64 1] 78)) (s := s2 + 1) (by simp; exact hs2))
  have B3 := Lib.hid (below_al w2 (.cells #[.int .u64 1] 78))
  have HS2 := Lib.hid hs2
  have EL4 := Lib.hid (show El d.P d.Q 4 by rw [HP.out, HQ.out]; exact el4_0)
  go_wp2_with fail
  clear hs2
  refine (seal_ok ((GR.out.below B3.out).below L.out.2.2) (N1.out.below L.out.2.2) L.out.1 L.out.2.1 (by decide) (by decide) (fun i _ => by show dl 0 ≤ 64; rw [(dl_zero (by decide)).2 rfl]; omega) (el_one GR.out.safe.p2) (fun i _ => EL4.out)).mono ?_
  rintro e w3 ⟨A3, c3, S3, rfl, lo, hT, b3⟩
  have HLO := Lib.hid lo
  have HT := Lib.hid hT
  have b23 : Below w2.heap.size w2 w3 := B3.out.trans ((L.out.2.2.trans (b3.mono L.out.2.2.size)).mono B3.out.size)
  have N1' := Lib.hid ((N1.out.below L.out.2.2).below b3)
  have GR3 := Lib.hid (GR.out.below b23)
  have B23 := Lib.hid (B2.out.trans (b23.mono B2.out.size))
  clear lo hT b3 b23
  go_wp2_with fail
  refine (pm_seal GR3.out N1'.out (Ns.nil w3 (fun _ => ⟨none, 0, 0, 0⟩)) (Ns.nil w3 (fun _ => ⟨none, 0, 0, 0⟩))).mono ?_
  rintro e w4 hp4
  rw [show sealC d.P d.Q 1 (fun _ => ⟨none, 0, 0, 0⟩) 0 (fun _ => ⟨none, 0, 0, 0⟩) 0 = 1 from fitC_arg (by omega)] at hp4
  obtain ⟨rfl, b4⟩ := hp4.bad (by decide)
  have B4 := Lib.hid (B23.out.trans (b4.mono B23.out.size))
  have LO4 := Lib.hid (HLO.out.below b4)
  have N14 := Lib.hid (N1'.out.below b4)
  clear b4 hp4
  obtain ⟨s4, hs4⟩ : ∃ s, w4.heap.size = s := ⟨_, rfl⟩
  have L4 := Lib.hid (lit_args w4 hs4)
  go_wp2_with fail
  clear hs4
  refine (pm_seal_nil (N14.out.below L4.out.2.2) L4.out.1 L4.out.2.1).mono ?_
  rintro e w5 ⟨rfl, b5⟩
  have b45 : Below w4.heap.size w4 w5 := L4.out.2.2.trans (b5.mono L4.out.2.2.size)
  have B5 := Lib.hid (B4.out.trans (b45.mono B4.out.size))
  have LO5 := Lib.hid (LO4.out.below b45)
  have N15 := Lib.hid (N14.out.below b45)
  clear b5 b45
  have a1 := below_al w5 (.cells #[.int .u64 4] 78)
  have CL := Lib.hid (ch_one (N15.out.below a1) (lit_nm w5 (x := 4) (by decide) (by decide)) (N15.out.below a1))
  have LO6 := Lib.hid ((LO5.out.ch.below a1).below (below_al _ (.cells #[.slice (some ⟨s2, 0, none⟩) 1 1, .slice (some ⟨w5.heap.size, 0, none⟩) 1 1, .slice (some ⟨s2, 0, none⟩) 1 1] 61)))
  have B6 := Lib.hid ((B5.out.trans (a1.mono B5.out.size)).trans ((below_al _ (.cells #[.slice (some ⟨s2, 0, none⟩) 1 1, .slice (some ⟨w5.heap.size, 0, none⟩) 1 1, .slice (some ⟨s2, 0, none⟩) 1 1] 61)).mono (B5.out.trans (a1.mono B5.out.size)).size))
  have e6 : (w5.alloc (.cells #[.int .u64 4] 78)).heap.size = w5.heap.size + 1 := by simp
  rw [e6] at CL
  clear a1 e6
  go_wp2_with fail
  refine (same7_yes LO6.out CL.out LO5.out.can (fun i _ => ⟨dl_lit (x := 1) (by decide) (by decide), dl_lit (x := 4) (by decide) (by decide), dl_lit (x := 1) (by decide) (by decide)⟩) (fun i hi => ?_)).mono ?_
  · rw [HT.out i hi, HP.out, HQ.out, HG.out]; exact seal_ex
  rintro e w7 ⟨rfl, q, rfl⟩
  go_wp2_with fail
  go_ret
  exact ⟨rfl, below_drewN B6.out q⟩
end Go.Proofs.YtpmnghealjgkeaaGreat
