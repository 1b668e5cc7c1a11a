/-
  The document's way of reading: what ReadPacket answers. By program: genird.py.
-/
import Derived.Test.YtcnekfpgoceblaaPcg
import Derived.Test.YtcnekfpgoceblaaPcc
import Derived.Test.YtcnekfpgoceblaaPcb
namespace Go.Proofs.Ytcnekfpgoceblaa
open Go.RowKit
set_option linter.unusedVariables false
theorem Se.it {g r : Nat} {w w' : World} {A : Option Addr} {n c : Nat} {xs : List Int} {p : Nat} {q : Bool} (h : It w r A n c xs p q) (k : Se g w w') (hr : r ≠ g) (hA : ∀ a, A = some a → 0 < n → a.block ≠ g) : It w' r A n c xs p q :=
  ⟨(k.block r hr).trans h.row, k.rd h.rd fun b ⟨a, ha, hn, hb⟩ => by rw [← hb]; exact hA a ha hn, h.dig_, h.ne, h.le, h.nc⟩
theorem Ti.se {r g : Nat} {w w1 w2 : World} (h : Ti r w w1) (k : Se g w1 w2) (hs : w.heap.size ≤ g) : Ti r w w2 := k.ti h hs
theorem Se.one (g i : Nat) (w : World) (v : Value) : Se g w (w.setCell ⟨g, i, none⟩ v) := (Se.refl g w).set i v
theorem Rdd.rx {α : Type} {cd : Cdc α} {xs : List Int} {p p' : Nat} {q q' : Bool} {u : α} (h : Rdd cd xs p q u p' q') : Rx cd (xs.drop p) q u (xs.drop p') q' := h
/-- What was read, or why nothing was. -/
def RdPk (xs : List Int) (w : World) (en : Ending) (w' : World) : Prop :=
  (∃ m : Pkd, rdC pktC 2097152 xs = (0, some (pv m)) ∧ en = .returned (.tuple #[m.v, .int .i64 0]) ∧ Rd .u8 w' m.A m.xs.length m.xs ∧ m.Cn ∧ Below w.heap.size w w') ∨
  (∃ code : Int, rdC pktC 2097152 xs = (code, none) ∧ (code = 2 ∨ code = 9 ∨ code = 10) ∧ en = .returned (.tuple #[.agg #[.int .i64 0, .int .i64 0, .int .u64 0, .bool false, .slice none 0 0], .int .i64 code]) ∧ Below w.heap.size w w')
set_option maxHeartbeats 16000000 in
set_option maxRecDepth 100000 in
theorem rrpkt_any {w : World} {A : Option Addr} {n c : Nat} {xs : List Int} (hr : Rd .u8 w A n xs) (hd : Dig 256 xs) (hnc : n ≤ c) (hn47 : n ≤ 140737488355328) :
    Calls Try.prog 17 #[.slice A n c] w (RdPk xs w) := by
  have HR := Lib.hid hr
  have HD := Lib.hid hd
  have HL := Lib.hid hr.len
  obtain ⟨s, hs⟩ : ∃ s, w.heap.size = s := ⟨_, rfl⟩
  obtain ⟨W1, hW1⟩ : ∃ W1, w.alloc (.cells #[.int .i64 0, .int .i64 0, .int .u64 0, .bool false, .slice none 0 0] 43) = W1 := ⟨_, rfl⟩
  have b1 : Below w.heap.size w W1 := by rw [← hW1]; exact (Below.refl _ _).alloc (Nat.le_refl _) _
  have s1 : W1.heap.size = s + 1 := by rw [← hW1, ← hs]; simp
  have r10 : W1.heap[s]? = some (.cells #[.int .i64 0, .int .i64 0, .int .u64 0, .bool false, .slice none 0 0] 43 (0, 0)) := by rw [← hW1, ← hs]; exact heap_alloc_new w _
  obtain ⟨W2, hW2⟩ : ∃ W2, W1.alloc (.cells #[.int .i64 0, .int .i64 0, .int .u64 0, .bool false, .slice none 0 0] 43) = W2 := ⟨_, rfl⟩
  have b2 : Below W1.heap.size W1 W2 := by rw [← hW2]; exact (Below.refl _ _).alloc (Nat.le_refl _) _
  have s2 : W2.heap.size = s + 2 := by rw [← hW2]; simp [s1]
  have R21 := Lib.hid (show W2.heap[s + 1]? = some (.cells #[.int .i64 0, .int .i64 0, .int .u64 0, .bool false, .slice none 0 0] 43 (0, 0)) by rw [← hW2, ← s1]; exact heap_alloc_new W1 _)
  have R20 := Lib.hid (show W2.heap[s]? = some (.cells #[.int .i64 0, .int .i64 0, .int .u64 0, .bool false, .slice none 0 0] 43 (0, 0)) from (b2.block s (by omega)).trans r10)
  have B2 := Lib.hid (show Below w.heap.size w W2 from b1.trans (b2.mono (by omega)))
  have HS := Lib.hid hs
  have AB := Lib.hid (show ∀ a, A = some a → 0 < n → a.block < s from fun a ha hn => by
    obtain ⟨b, off, e, hb, -⟩ := HR.out.cells hn
    rw [e] at ha
    injection ha with ha
    subst ha
    have := HS.out
    show b < s
    omega)
  clear hr hd b1 b2 r10
  rcases Nat.lt_or_ge 2097152 n with g | g
  · have e1 : decide ((2097152 : Int) < (n : Int)) = true := by simp; omega
    have x0 := cell_of_row W2 s 0 _ _ _ R20.out
    have x1 := cell_of_row W2 s 1 _ _ _ R20.out
    have x2 := cell_of_row W2 s 2 _ _ _ R20.out
    have x3 := cell_of_row W2 s 3 _ _ _ R20.out
    have x4 := cell_of_row W2 s 4 _ _ _ R20.out
    have f0 := frozen_of_row W2 s 0 _ _ R20.out
    have f1 := frozen_of_row W2 s 1 _ _ R20.out
    have f2 := frozen_of_row W2 s 2 _ _ R20.out
    have f3 := frozen_of_row W2 s 3 _ _ R20.out
    have f4 := frozen_of_row W2 s 4 _ _ R20.out
    have y0 := cell_of_row W2 (s + 1) 0 _ _ _ R21.out
    have y1 := cell_of_row W2 (s + 1) 1 _ _ _ R21.out
    have y2 := cell_of_row W2 (s + 1) 2 _ _ _ R21.out
    have y3 := cell_of_row W2 (s + 1) 3 _ _ _ R21.out
    have y4 := cell_of_row W2 (s + 1) 4 _ _ _ R21.out
    have G := Lib.hid g
    clear g
    go_enter Try.func17, Try.ntmps17
    go_wp2_with fail
    refine bodyPost_ret (v := .tuple #[.agg #[.int .i64 0, .int .i64 0, .int .u64 0, .bool false, .slice none 0 0], .int .i64 2]) (resultsS Try.results17 _ _ _ s _ rfl (load_pk (row5 R20.out)) rfl) rfl ?_
    refine .inr ⟨2, ?_, .inl rfl, rfl, B2.out.trans ((se5 s W2 (.int .i64 0) (.int .i64 0) (.int .u64 0) (.bool false) (.slice none 0 0)).below (by have := HS.out; omega))⟩
    unfold rdC
    rw [if_pos (by rw [HL.out]; exact G.out)]
  · have e1 : decide ((2097152 : Int) < (n : Int)) = false := by simp; omega
    obtain ⟨W3, hW3⟩ : ∃ W3, W2.alloc (.cells #[.slice A n c, .int .i64 0, .bool false] 85) = W3 := ⟨_, rfl⟩
    have b3 : Below W2.heap.size W2 W3 := by rw [← hW3]; exact (Below.refl _ _).alloc (Nat.le_refl _) _
    have R3 := Lib.hid (show W3.heap[s + 2]? = some (.cells #[.slice A n c, .int .i64 0, .bool false] 85 (0, 0)) by rw [← hW3, ← s2]; exact heap_alloc_new W2 _)
    have B3 := Lib.hid (show Below w.heap.size w W3 from B2.out.trans (b3.mono (by have := HS.out; omega)))
    have I0 := Lib.hid (show It W3 (s + 2) A n c xs 0 false from ⟨R3.out, HR.out.below B3.out, HD.out, fun a ha hn => by have := AB.out a ha hn; omega, Nat.zero_le _, hnc⟩)
    have S3 := Lib.hid (show W3.heap.size = s + 3 by rw [← hW3]; simp [s2])
    have R30 := Lib.hid (show W3.heap[s]? = some (.cells #[.int .i64 0, .int .i64 0, .int .u64 0, .bool false, .slice none 0 0] 43 (0, 0)) from (b3.block s (by omega)).trans R20.out)
    have P0 := Lib.hid (show W3.heap[s + 1]? = some (.cells #[.int .i64 0, .int .i64 0, .int .u64 0, .bool false, .slice none 0 0] 43 (0, 0)) from (b3.block (s + 1) (by omega)).trans R21.out)
    have T0 := Lib.hid (Ti.refl (s + 2) W3)
    have Q0 := Lib.hid (R30.out)
    have Z0 := Lib.hid (Nat.le_refl W3.heap.size)
    have G := Lib.hid g
    clear g b3
    go_enter Try.func17, Try.ntmps17
    go_wp2_with fail
    try rw [hW1]
    try rw [hW2]
    try rw [hW3]
    clear hW1 hW2 hW3 s1 s2 hs
    refine (icnt_any I0.out (by omega)).mono ?_
    rintro e u0 ⟨k0, p0, q0, rfl, hk, it, ti, rd⟩
    have K0 := Lib.hid hk
    have J0 := Lib.hid it
    have X0 := Lib.hid rd
    have T0a := Lib.hid ti
    have PR0 := Lib.hid (show u0.heap[s + 1]? = some (.cells #[.int .i64 0, .int .i64 0, .int .u64 0, .bool false, .slice none 0 0] 43 (0, 0)) from (ti.block (s + 1) (by have := S3.out; have := Z0.out; omega) (by omega)).trans P0.out)
    have QR0 := Lib.hid (show u0.heap[s]? = some (.cells #[.int .i64 0, .int .i64 0, .int .u64 0, .bool false, .slice none 0 0] 43 (0, 0)) from (ti.block s (by have := S3.out; have := Z0.out; omega) (by omega)).trans Q0.out)
    have c0 := cell_of_row u0 (s + 1) 0 _ _ _ PR0.out
    have f0 := frozen_of_row u0 (s + 1) 0 _ _ PR0.out
    obtain ⟨V1, hV1⟩ : ∃ V, u0.setCell ⟨s + 1, 0, none⟩ (.int .i64 (k0 : Int)) = V := ⟨_, rfl⟩
    have SE0 := Lib.hid (show Se (s + 1) u0 V1 by rw [← hV1]; exact Se.one _ _ _ _)
    have P1 := Lib.hid (show V1.heap[s + 1]? = some (.cells #[.int .i64 (k0 : Int), .int .i64 0, .int .u64 0, .bool false, .slice none 0 0] 43 (0, 0)) by rw [← hV1]; exact heap_setCell_same u0 (s + 1) 0 _ _ _ PR0.out)
    have Q1 := Lib.hid (show V1.heap[s]? = some (.cells #[.int .i64 0, .int .i64 0, .int .u64 0, .bool false, .slice none 0 0] 43 (0, 0)) from (SE0.out.block s (by omega)).trans QR0.out)
    have I1 := Lib.hid (SE0.out.it it (by omega) (fun a ha hn => by have := AB.out a ha hn; omega))
    have Z1 := Lib.hid (show W3.heap.size ≤ V1.heap.size from by have := Z0.out; have := ti.size; have := SE0.out.size; omega)
    have D1 := Lib.hid (show ∀ k, k < s + 1 → V1.heap[k]? = W3.heap[k]? from fun k hk => (SE0.out.block k (by omega)).trans (ti.block k (by have := S3.out; omega) (by omega)))
    have OT1 := Lib.hid (show V1.os = W3.os ∧ V1.tape = W3.tape ∧ V1.output = W3.output from ⟨SE0.out.os.trans (ti.os.trans rfl), SE0.out.tape.trans (ti.tape.trans rfl), SE0.out.output.trans (ti.output.trans rfl)⟩)
    clear it ti rd hk
    go_wp2_with fail
    try rw [hV1]
    clear hV1 c0 f0
    refine (icnt_any I1.out (by omega)).mono ?_
    rintro e u1 ⟨k1, p1, q1, rfl, hk, it, ti, rd⟩
    have K1 := Lib.hid hk
    have J1 := Lib.hid it
    have X1 := Lib.hid rd
    have T1a := Lib.hid ti
    have PR1 := Lib.hid (show u1.heap[s + 1]? = some (.cells #[.int .i64 (k0 : Int), .int .i64 0, .int .u64 0, .bool false, .slice none 0 0] 43 (0, 0)) from (ti.block (s + 1) (by have := S3.out; have := Z1.out; omega) (by omega)).trans P1.out)
    have QR1 := Lib.hid (show u1.heap[s]? = some (.cells #[.int .i64 0, .int .i64 0, .int .u64 0, .bool false, .slice none 0 0] 43 (0, 0)) from (ti.block s (by have := S3.out; have := Z1.out; omega) (by omega)).trans Q1.out)
    have c0 := cell_of_row u1 (s + 1) 1 _ _ _ PR1.out
    have f0 := frozen_of_row u1 (s + 1) 1 _ _ PR1.out
    obtain ⟨V2, hV2⟩ : ∃ V, u1.setCell ⟨s + 1, 1, none⟩ (.int .i64 (k1 : Int)) = V := ⟨_, rfl⟩
    have SE1 := Lib.hid (show Se (s + 1) u1 V2 by rw [← hV2]; exact Se.one _ _ _ _)
    have P2 := Lib.hid (show V2.heap[s + 1]? = some (.cells #[.int .i64 (k0 : Int), .int .i64 (k1 : Int), .int .u64 0, .bool false, .slice none 0 0] 43 (0, 0)) by rw [← hV2]; exact heap_setCell_same u1 (s + 1) 1 _ _ _ PR1.out)
    have Q2 := Lib.hid (show V2.heap[s]? = some (.cells #[.int .i64 0, .int .i64 0, .int .u64 0, .bool false, .slice none 0 0] 43 (0, 0)) from (SE1.out.block s (by omega)).trans QR1.out)
    have I2 := Lib.hid (SE1.out.it it (by omega) (fun a ha hn => by have := AB.out a ha hn; omega))
    have Z2 := Lib.hid (show W3.heap.size ≤ V2.heap.size from by have := Z1.out; have := ti.size; have := SE1.out.size; omega)
    have D2 := Lib.hid (show ∀ k, k < s + 1 → V2.heap[k]? = W3.heap[k]? from fun k hk => (SE1.out.block k (by omega)).trans ((ti.block k (by have := S3.out; have := Z1.out; omega) (by omega)).trans (D1.out k hk)))
    have OT2 := Lib.hid (show V2.os = W3.os ∧ V2.tape = W3.tape ∧ V2.output = W3.output from ⟨SE1.out.os.trans (ti.os.trans OT1.out.1), SE1.out.tape.trans (ti.tape.trans OT1.out.2.1), SE1.out.output.trans (ti.output.trans OT1.out.2.2)⟩)
    clear it ti rd hk
    go_wp2_with fail
    try rw [hV2]
    clear hV2 c0 f0
    refine (icnt_any I2.out (by omega)).mono ?_
    rintro e u2 ⟨k2, p2, q2, rfl, hk, it, ti, rd⟩
    have K2 := Lib.hid hk
    have J2 := Lib.hid it
    have X2 := Lib.hid rd
    have T2a := Lib.hid ti
    have PR2 := Lib.hid (show u2.heap[s + 1]? = some (.cells #[.int .i64 (k0 : Int), .int .i64 (k1 : Int), .int .u64 0, .bool false, .slice none 0 0] 43 (0, 0)) from (ti.block (s + 1) (by have := S3.out; have := Z2.out; omega) (by omega)).trans P2.out)
    have QR2 := Lib.hid (show u2.heap[s]? = some (.cells #[.int .i64 0, .int .i64 0, .int .u64 0, .bool false, .slice none 0 0] 43 (0, 0)) from (ti.block s (by have := S3.out; have := Z2.out; omega) (by omega)).trans Q2.out)
    have c0 := cell_of_row u2 (s + 1) 2 _ _ _ PR2.out
    have f0 := frozen_of_row u2 (s + 1) 2 _ _ PR2.out
    obtain ⟨V3, hV3⟩ : ∃ V, u2.setCell ⟨s + 1, 2, none⟩ (.int .u64 (k2 : Int)) = V := ⟨_, rfl⟩
    have SE2 := Lib.hid (show Se (s + 1) u2 V3 by rw [← hV3]; exact Se.one _ _ _ _)
    have P3 := Lib.hid (show V3.heap[s + 1]? = some (.cells #[.int .i64 (k0 : Int), .int .i64 (k1 : Int), .int .u64 (k2 : Int), .bool false, .slice none 0 0] 43 (0, 0)) by rw [← hV3]; exact heap_setCell_same u2 (s + 1) 2 _ _ _ PR2.out)
    have Q3 := Lib.hid (show V3.heap[s]? = some (.cells #[.int .i64 0, .int .i64 0, .int .u64 0, .bool false, .slice none 0 0] 43 (0, 0)) from (SE2.out.block s (by omega)).trans QR2.out)
    have I3 := Lib.hid (SE2.out.it it (by omega) (fun a ha hn => by have := AB.out a ha hn; omega))
    have Z3 := Lib.hid (show W3.heap.size ≤ V3.heap.size from by have := Z2.out; have := ti.size; have := SE2.out.size; omega)
    have D3 := Lib.hid (show ∀ k, k < s + 1 → V3.heap[k]? = W3.heap[k]? from fun k hk => (SE2.out.block k (by omega)).trans ((ti.block k (by have := S3.out; have := Z2.out; omega) (by omega)).trans (D2.out k hk)))
    have OT3 := Lib.hid (show V3.os = W3.os ∧ V3.tape = W3.tape ∧ V3.output = W3.output from ⟨SE2.out.os.trans (ti.os.trans OT2.out.1), SE2.out.tape.trans (ti.tape.trans OT2.out.2.1), SE2.out.output.trans (ti.output.trans OT2.out.2.2)⟩)
    clear it ti rd hk
    have e3 : IntKind.u64.wrap (k2 : Int) = (k2 : Int) := by have h9 := K2.out; unfold topC at h9; rw [IntKind.wrap_u64]; omega
    go_wp2_with fail
    try rw [hV3]
    clear hV3 c0 f0
    clear e3
    refine (itru_any I3.out (by omega)).mono ?_
    rintro e u3 ⟨k3, p3, q3, rfl, it, ti, rd⟩
    have J3 := Lib.hid it
    have X3 := Lib.hid rd
    have T3a := Lib.hid ti
    have PR3 := Lib.hid (show u3.heap[s + 1]? = some (.cells #[.int .i64 (k0 : Int), .int .i64 (k1 : Int), .int .u64 (k2 : Int), .bool false, .slice none 0 0] 43 (0, 0)) from (ti.block (s + 1) (by have := S3.out; have := Z3.out; omega) (by omega)).trans P3.out)
    have QR3 := Lib.hid (show u3.heap[s]? = some (.cells #[.int .i64 0, .int .i64 0, .int .u64 0, .bool false, .slice none 0 0] 43 (0, 0)) from (ti.block s (by have := S3.out; have := Z3.out; omega) (by omega)).trans Q3.out)
    have c0 := cell_of_row u3 (s + 1) 3 _ _ _ PR3.out
    have f0 := frozen_of_row u3 (s + 1) 3 _ _ PR3.out
    obtain ⟨V4, hV4⟩ : ∃ V, u3.setCell ⟨s + 1, 3, none⟩ (.bool k3) = V := ⟨_, rfl⟩
    have SE3 := Lib.hid (show Se (s + 1) u3 V4 by rw [← hV4]; exact Se.one _ _ _ _)
    have P4 := Lib.hid (show V4.heap[s + 1]? = some (.cells #[.int .i64 (k0 : Int), .int .i64 (k1 : Int), .int .u64 (k2 : Int), .bool k3, .slice none 0 0] 43 (0, 0)) by rw [← hV4]; exact heap_setCell_same u3 (s + 1) 3 _ _ _ PR3.out)
    have Q4 := Lib.hid (show V4.heap[s]? = some (.cells #[.int .i64 0, .int .i64 0, .int .u64 0, .bool false, .slice none 0 0] 43 (0, 0)) from (SE3.out.block s (by omega)).trans QR3.out)
    have I4 := Lib.hid (SE3.out.it it (by omega) (fun a ha hn => by have := AB.out a ha hn; omega))
    have Z4 := Lib.hid (show W3.heap.size ≤ V4.heap.size from by have := Z3.out; have := ti.size; have := SE3.out.size; omega)
    have D4 := Lib.hid (show ∀ k, k < s + 1 → V4.heap[k]? = W3.heap[k]? from fun k hk => (SE3.out.block k (by omega)).trans ((ti.block k (by have := S3.out; have := Z3.out; omega) (by omega)).trans (D3.out k hk)))
    have OT4 := Lib.hid (show V4.os = W3.os ∧ V4.tape = W3.tape ∧ V4.output = W3.output from ⟨SE3.out.os.trans (ti.os.trans OT3.out.1), SE3.out.tape.trans (ti.tape.trans OT3.out.2.1), SE3.out.output.trans (ti.output.trans OT3.out.2.2)⟩)
    clear it ti rd
    go_wp2_with fail
    try rw [hV4]
    clear hV4 c0 f0
    refine (ibyt_any I4.out (by have := G.out; omega)).mono ?_
    rintro e u4 ⟨v, bs, p4, q4, rfl, ho, it, ti, rd⟩
    obtain ⟨A4, c4, rfl, rd4, -, ge4⟩ := own_rd ho
    have DR := Lib.hid rd4
    have GE4 := Lib.hid (blN_ge (n := bs.length) ge4)
    have J4 := Lib.hid it
    have X4 := Lib.hid rd
    have T4a := Lib.hid ti
    have PR4 := Lib.hid (show u4.heap[s + 1]? = some (.cells #[.int .i64 (k0 : Int), .int .i64 (k1 : Int), .int .u64 (k2 : Int), .bool k3, .slice none 0 0] 43 (0, 0)) from (ti.block (s + 1) (by have := S3.out; have := Z4.out; omega) (by omega)).trans P4.out)
    have QR4 := Lib.hid (show u4.heap[s]? = some (.cells #[.int .i64 0, .int .i64 0, .int .u64 0, .bool false, .slice none 0 0] 43 (0, 0)) from (ti.block s (by have := S3.out; have := Z4.out; omega) (by omega)).trans Q4.out)
    have c0 := cell_of_row u4 (s + 1) 4 _ _ _ PR4.out
    have f0 := frozen_of_row u4 (s + 1) 4 _ _ PR4.out
    obtain ⟨V5, hV5⟩ : ∃ V, u4.setCell ⟨s + 1, 4, none⟩ (.slice A4 bs.length c4) = V := ⟨_, rfl⟩
    have SE4 := Lib.hid (show Se (s + 1) u4 V5 by rw [← hV5]; exact Se.one _ _ _ _)
    have P5 := Lib.hid (show V5.heap[s + 1]? = some (.cells #[.int .i64 (k0 : Int), .int .i64 (k1 : Int), .int .u64 (k2 : Int), .bool k3, .slice A4 bs.length c4] 43 (0, 0)) by rw [← hV5]; exact heap_setCell_same u4 (s + 1) 4 _ _ _ PR4.out)
    have Q5 := Lib.hid (show V5.heap[s]? = some (.cells #[.int .i64 0, .int .i64 0, .int .u64 0, .bool false, .slice none 0 0] 43 (0, 0)) from (SE4.out.block s (by omega)).trans QR4.out)
    have I5 := Lib.hid (SE4.out.it it (by omega) (fun a ha hn => by have := AB.out a ha hn; omega))
    have Z5 := Lib.hid (show W3.heap.size ≤ V5.heap.size from by have := Z4.out; have := ti.size; have := SE4.out.size; omega)
    have D5 := Lib.hid (show ∀ k, k < s + 1 → V5.heap[k]? = W3.heap[k]? from fun k hk => (SE4.out.block k (by omega)).trans ((ti.block k (by have := S3.out; have := Z4.out; omega) (by omega)).trans (D4.out k hk)))
    have OT5 := Lib.hid (show V5.os = W3.os ∧ V5.tape = W3.tape ∧ V5.output = W3.output from ⟨SE4.out.os.trans (ti.os.trans OT4.out.1), SE4.out.tape.trans (ti.tape.trans OT4.out.2.1), SE4.out.output.trans (ti.output.trans OT4.out.2.2)⟩)
    clear it ti rd ho rd4 ge4
    have n1 := I5.out.c1
    have n2 := I5.out.c2
    have hle := I5.out.le
    have x0 := cell_of_row V5 s 0 _ _ _ Q5.out
    have x1 := cell_of_row V5 s 1 _ _ _ Q5.out
    have x2 := cell_of_row V5 s 2 _ _ _ Q5.out
    have x3 := cell_of_row V5 s 3 _ _ _ Q5.out
    have x4 := cell_of_row V5 s 4 _ _ _ Q5.out
    have y0 := cell_of_row V5 (s + 1) 0 _ _ _ P5.out
    have y1 := cell_of_row V5 (s + 1) 1 _ _ _ P5.out
    have y2 := cell_of_row V5 (s + 1) 2 _ _ _ P5.out
    have y3 := cell_of_row V5 (s + 1) 3 _ _ _ P5.out
    have y4 := cell_of_row V5 (s + 1) 4 _ _ _ P5.out
    have g0 := frozen_of_row V5 s 0 _ _ Q5.out
    have g1 := frozen_of_row V5 s 1 _ _ Q5.out
    have g2 := frozen_of_row V5 s 2 _ _ Q5.out
    have g3 := frozen_of_row V5 s 3 _ _ Q5.out
    have g4 := frozen_of_row V5 s 4 _ _ Q5.out
    have RX := Lib.hid (show Rx pktC xs false (k0, (k1, (k2, (k3, bs)))) (xs.drop p4) q4 from Rx.pair (show Rx cntC xs false k0 (xs.drop p0) q0 from X0.out) (Rx.pair (show Rx cntC (xs.drop p0) q0 k1 (xs.drop p1) q1 from X1.out) (Rx.pair (show Rx cntC (xs.drop p1) q1 k2 (xs.drop p2) q2 from X2.out) (Rx.pair (show Rx truC (xs.drop p2) q2 k3 (xs.drop p3) q3 from X3.out) (show Rx bytesC (xs.drop p3) q3 bs (xs.drop p4) q4 from X4.out)))))
    have BE := Lib.hid (show ∀ W', Se s V5 W' → Below w.heap.size w W' from fun W' k => by
      refine B3.out.trans ⟨k.os.trans OT5.out.1, k.tape.trans OT5.out.2.1, k.output.trans OT5.out.2.2, by rw [k.size]; exact Z5.out, fun j hj => (k.block j (by have := HS.out; omega)).trans (D5.out j (by have := HS.out; omega))⟩)
    have hV5' := hV5
    cases q4 with
    | true =>
      go_wp2_with fail
      refine bodyPost_ret (v := .tuple #[.agg #[.int .i64 0, .int .i64 0, .int .u64 0, .bool false, .slice none 0 0], .int .i64 9]) (resultsS Try.results17 _ _ _ s _ rfl (load_pk (row5 Q5.out)) rfl) rfl ?_
      refine .inr ⟨9, ?_, .inr (.inl rfl), rfl, BE.out _ (se5 s V5 (.int .i64 0) (.int .i64 0) (.int .u64 0) (.bool false) (.slice none 0 0))⟩
      unfold rdC
      rw [if_neg (by rw [HL.out]; have := G.out; omega)]
      rcases RX.out with ⟨-, -, k⟩ | ⟨k | k, -⟩
      · cases k
      · cases k
      · rw [k]
    | false =>
      have DEC := Lib.hid (show pktC.dec xs = some ((k0, (k1, (k2, (k3, bs)))), xs.drop p4) by
        rcases RX.out with ⟨-, k, -⟩ | ⟨-, k⟩
        · exact k
        · cases k)
      rcases Nat.lt_or_ge p4 n with g0 | g0
      · have e6 : decide (p4 < n) = true := by simp; omega
        have G0 := Lib.hid g0
        clear g0 hle
        go_wp2_with fail
        refine bodyPost_ret (v := .tuple #[.agg #[.int .i64 0, .int .i64 0, .int .u64 0, .bool false, .slice none 0 0], .int .i64 10]) (resultsS Try.results17 _ _ _ s _ rfl (load_pk (row5 Q5.out)) rfl) rfl ?_
        refine .inr ⟨10, ?_, .inr (.inr rfl), rfl, BE.out _ (se5 s V5 (.int .i64 0) (.int .i64 0) (.int .u64 0) (.bool false) (.slice none 0 0))⟩
        unfold rdC
        rw [if_neg (by rw [HL.out]; have := G.out; omega), DEC.out]
        cases hL : xs.drop p4 with
        | nil =>
          have h9 := congrArg List.length hL
          rw [List.length_drop, HL.out] at h9
          have := G0.out
          simp at h9
          omega
        | cons a l => rfl
      · have e6 : decide (p4 < n) = false := by simp; omega
        have G0 := Lib.hid g0
        clear g0 hle
        go_wp2_with fail
        refine bodyPost_ret (v := .tuple #[.agg #[.int .i64 (k0 : Int), .int .i64 (k1 : Int), .int .u64 (k2 : Int), .bool k3, .slice A4 bs.length c4], .int .i64 0]) (resultsS Try.results17 _ _ _ s _ rfl (load_pk (row5 Q5.out)) rfl) rfl ?_
        have L0 : xs.drop p4 = [] := List.drop_eq_nil_of_le (by rw [HL.out]; exact G0.out)
        have c1 : Cnt (k0 : Int) := ⟨by omega, by have h9 := K0.out; unfold topC at h9; omega⟩
        have c2 : Cnt (k1 : Int) := ⟨by omega, by have h9 := K1.out; unfold topC at h9; omega⟩
        have c3 : Cnt (k2 : Int) := ⟨by omega, by have h9 := K2.out; unfold topC at h9; omega⟩
        refine .inl ⟨⟨k0, k1, k2, k3, A4, c4, bs⟩, ?_, rfl, (se5 s V5 (.int .i64 (k0 : Int)) (.int .i64 (k1 : Int)) (.int .u64 (k2 : Int)) (.bool k3) (.slice A4 bs.length c4)).rd (SE4.out.rd DR.out fun b hb => ?_) (fun b hb => ?_), ⟨c1, c2, c3⟩, BE.out _ (se5 s V5 (.int .i64 (k0 : Int)) (.int .i64 (k1 : Int)) (.int .u64 (k2 : Int)) (.bool k3) (.slice A4 bs.length c4))⟩
        · unfold rdC
          rw [if_neg (by rw [HL.out]; have := G.out; omega), DEC.out, L0]
          rfl
        · have h9 := GE4.out b hb
          have := Z4.out
          have := S3.out
          omega
        · have h9 := GE4.out b hb
          have := Z4.out
          have := S3.out
          omega
end Go.Proofs.Ytcnekfpgoceblaa
