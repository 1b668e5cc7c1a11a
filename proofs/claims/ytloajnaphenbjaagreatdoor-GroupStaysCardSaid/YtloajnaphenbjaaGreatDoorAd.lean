/-
  A modulus in memory, and what addAndDrop does to a row of digits.
-/
import Derived.Test.YtloajnaphenbjaaGreatDoorDrop
import Derived.Deep.QuietTactic
import Derived.BigQuiet
namespace Go.Proofs.YtloajnaphenbjaaGreatDoor
open Go.RowKit
set_option linter.unusedVariables false
/-- Block b is what reckons modulo m: its four cells. -/
structure Md (w : World) (b : Nat) (m : Int) (n : Nat) (A : Option Addr) (c : Nat) (low : Int) (B : Option Addr) (cB : Nat) (S : Option Addr) (cS : Nat) : Prop where
  lt : b < w.heap.size
  c0 : w.cell? ⟨b, 0, none⟩ = some (.slice A n c)
  c1 : w.cell? ⟨b, 1, none⟩ = some (.int .u64 low)
  c2 : w.cell? ⟨b, 2, none⟩ = some (.slice B n cB)
  c3 : w.cell? ⟨b, 3, none⟩ = some (.slice S n cS)
  lim : Cn w A n c m
  low0 : 0 ≤ low
  low1 : low < 18446744073709551616
  lowm : Eqm W (m * low) (-1)
  one : Nm w B n cB (W ^ n % m)
  shift : Nm w S n cS (W ^ n * W ^ n % m)
  odd : m % 2 = 1
  m3 : 3 ≤ m
  l32 : n ≤ 32
section
variable {w w' : World} {b : Nat} {m : Int} {n : Nat} {A : Option Addr} {c : Nat} {low : Int} {B : Option Addr} {cB : Nat} {S : Option Addr} {cS : Nat}
theorem Md.below (h : Md w b m n A c low B cB S cS) (hb : Below w.heap.size w w') : Md w' b m n A c low B cB S cS :=
  ⟨by have := hb.size; have := h.lt; omega, (hb.cell (p := ⟨b, 0, none⟩) h.lt).trans h.c0, (hb.cell (p := ⟨b, 1, none⟩) h.lt).trans h.c1, (hb.cell (p := ⟨b, 2, none⟩) h.lt).trans h.c2, (hb.cell (p := ⟨b, 3, none⟩) h.lt).trans h.c3,
    h.lim.below hb, h.low0, h.low1, h.lowm, h.one.below hb, h.shift.below hb, h.odd, h.m3, h.l32⟩
theorem Md.len (h : Md w b m n A c low B cB S cS) : n = dl m := h.lim.len_
theorem Md.n1 (h : Md w b m n A c low B cB S cS) : 1 ≤ n := by
  have h1 := h.len
  have h2 := h.m3
  rcases Nat.eq_zero_or_pos n with g | g
  · have := (dl_zero (N := m) (by omega)).1 (by omega); omega
  · exact g
theorem Md.dig0 (h : Md w b m n A c low B cB S cS) : Eqm W (dig (dg W m) 0 * low) (-1) := by
  have h3 := h.m3
  have e : dig (dg W m) 0 = m % W := by rw [dg_pos W_two (by omega)]; rfl
  rw [e]
  exact ((Eqm.mod W m).mul (Eqm.refl W low)).trans h.lowm
end
/-! ### addAndDrop -/
theorem drop_first {z x M0 K u ov un limb lo : Int} (h1 : limb + W * ov = x * K + z + 0) (h2 : lo + W * un = M0 * u + limb + 0) (h3 : lo = 0) : (ov + un) * W = z + K * x + u * M0 := by
  grind
theorem drop_step {zs ys X M : List Int} {k : Nat} {K u ov un ov' un' limb v : Int} (hk : k < ys.length) (h1 : limb + W * ov' = dig X (k + 1) * K + dig zs (k + 1) + ov) (h2 : v + W * un' = dig M (k + 1) * u + limb + un)
    (h : vf W (dig ys) k * W + (ov + un) * W ^ (k + 1) = vf W (dig zs) (k + 1) + K * vf W (dig X) (k + 1) + u * vf W (dig M) (k + 1)) :
    vf W (dig (ys.set k v)) (k + 1) * W + (ov' + un') * W ^ (k + 1 + 1) = vf W (dig zs) (k + 1 + 1) + K * vf W (dig X) (k + 1 + 1) + u * vf W (dig M) (k + 1 + 1) := by
  rw [vf_set hk]
  have e : ∀ f : Nat → Int, vf W f (k + 1 + 1) = vf W f (k + 1) + f (k + 1) * W ^ (k + 1) := fun f => rfl
  rw [e, e, e, Int.pow_succ W (k + 1)]
  have e2 : W ^ (k + 1) = W ^ k * W := Int.pow_succ _ _
  rw [e2] at h ⊢
  generalize vf W (dig ys) k = a at *
  generalize vf W (dig zs) (k + 1) = b at *
  generalize vf W (dig X) (k + 1) = x at *
  generalize vf W (dig M) (k + 1) = y at *
  generalize W ^ k = p at *
  grind
theorem drop_last {zs ys X M : List Int} {k : Nat} {K u ov un limb cr v c2 : Int} (hk : k + 1 < ys.length) (h1 : limb + W * cr = dig zs (k + 1) + ov + 0) (h2 : v + W * c2 = limb + un + 0)
    (h : vf W (dig ys) k * W + (ov + un) * W ^ (k + 1) = vf W (dig zs) (k + 1) + K * vf W (dig X) (k + 1) + u * vf W (dig M) (k + 1)) :
    vf W (dig (((ys.set k v).set (k + 1) c2).set (k + 1) (c2 + cr))) (k + 1 + 1) * W = vf W (dig zs) (k + 1 + 1) + K * vf W (dig X) (k + 1) + u * vf W (dig M) (k + 1) := by
  rw [List.set_set, vf_set (by simpa using hk), vf_set (by omega)]
  have e : vf W (dig zs) (k + 1 + 1) = vf W (dig zs) (k + 1) + dig zs (k + 1) * W ^ (k + 1) := rfl
  rw [e]
  have e2 : W ^ (k + 1) = W ^ k * W := Int.pow_succ _ _
  rw [e2] at h ⊢
  generalize vf W (dig ys) k = a at *
  generalize vf W (dig zs) (k + 1) = b at *
  generalize vf W (dig X) (k + 1) = x at *
  generalize vf W (dig M) (k + 1) = y at *
  generalize W ^ k = p at *
  grind
def DropR (zs X M : List Int) (n : Nat) (K u : Int) (w0 : World) (o un i : Value) (wr : World) : Prop :=
  ∃ (k : Nat) (ys : List Int) (ov ud : Int), k + 1 ≤ n ∧ i = .int .i64 ((k : Int) + 1) ∧ o = .int .u64 ov ∧ un = .int .u64 ud ∧ 0 ≤ ov ∧ ov < 18446744073709551616 ∧ 0 ≤ ud ∧ ud < 18446744073709551616 ∧
    Row wr w0.heap.size 38 .u64 ys ∧ ys.length = n + 1 ∧ Dig W ys ∧ (∀ j, k ≤ j → dig ys j = dig zs j) ∧
    vf W (dig ys) k * W + (ov + ud) * W ^ (k + 1) = vf W (dig zs) (k + 1) + K * vf W (dig X) (k + 1) + u * vf W (dig M) (k + 1) ∧ Below w0.heap.size w0 wr
def DropP (zs : List Int) (n : Nat) (K X m : Int) (w0 : World) (e : Ending) (w' : World) : Prop :=
  ∃ (ys : List Int) (u : Int), e = .returned (.tuple #[]) ∧ 0 ≤ u ∧ u < 18446744073709551616 ∧ Row w' w0.heap.size 38 .u64 ys ∧ ys.length = n + 1 ∧ Dig W ys ∧
    vf W (dig ys) (n + 1) * W = vf W (dig zs) (n + 1) + K * X + u * m ∧ Below w0.heap.size w0 w'
set_option maxHeartbeats 4000000 in
set_option maxRecDepth 100000 in
theorem addAndDrop_any {w0 w : World} {b : Nat} {m : Int} {n : Nat} {A : Option Addr} {c : Nat} {low : Int} {B : Option Addr} {cB : Nat} {S : Option Addr} {cS : Nat} (md : Md w0 b m n A c low B cB S cS)
    {XA : Option Addr} {cx cz : Nat} {X zs : List Int} {K : Int} (hX : Rd .u64 w0 XA n X) (hXd : Dig W X) (hb : Below w0.heap.size w0 w) (hrow : Row w w0.heap.size 38 .u64 zs) (hzl : zs.length = n + 1) (hzd : Dig W zs)
    (hK0 : 0 ≤ K) (hK : K < 18446744073709551616) :
    Calls Tryz.prog 110 #[.pointer (some ⟨b, 0, none⟩), .slice (some ⟨w0.heap.size, 0, none⟩) (n + 1 : Nat) cz, .slice XA n cx, .int .u64 K] w (DropP zs n K (vf W (dig X) n) m w0) := by
  have n1 := md.n1
  have n32 := md.l32
  have hlen := md.len
  obtain ⟨bx, ox, rfl, hbx, hcx⟩ := hX.cells (by omega)
  obtain ⟨bm, om, rfl, hbm, hcm⟩ := md.lim.rd.cells (by omega)
  have HCX := Lib.hid hcx
  have HCM := Lib.hid hcm
  have m0 : 0 ≤ m := by have := md.m3; omega
  have hmd := dig_dg W_two m0
  have hml : (dg W m).length = n := md.lim.rd.len
  have hXl := hX.len
  have HML := Lib.hid hml
  have HXL := Lib.hid hXl
  have HZL := Lib.hid hzl
  have HLEN := Lib.hid hlen
  clear hcx hcm
  have LM : ∀ j, j < n → ∀ wr, Below w0.heap.size w0 wr → wr.cell? ⟨bm, om + j, none⟩ = some (.int .u64 (dig (dg W m) j)) := fun j hj wr hb => (hb.cell (p := ⟨bm, om + j, none⟩) hbm).trans (HCM.out j _ (getElem?_dig (by rw [HML.out]; exact hj)))
  have LX : ∀ j, j < n → ∀ wr, Below w0.heap.size w0 wr → wr.cell? ⟨bx, ox + j, none⟩ = some (.int .u64 (dig X j)) := fun j hj wr hb => (hb.cell (p := ⟨bx, ox + j, none⟩) hbx).trans (HCX.out j _ (getElem?_dig (by rw [HXL.out]; exact hj)))
  have HLM := Lib.hid LM
  have HLX := Lib.hid LX
  clear LM LX hml hXl hlen
  have x0 := HLX.out 0 (by omega) w hb
  have mm0 := HLM.out 0 (by omega) w hb
  rw [Nat.add_zero] at x0 mm0
  have z0 := hrow.cell (getElem?_dig (show 0 < zs.length by omega))
  have hf0 := hrow.frozen 0
  clear hzl
  have mdw := md.below hb
  have q0 := mdw.c0
  have q1 := mdw.c1
  have bx0 := dig_W hXd 0
  have bm0 := dig_W hmd 0
  have bz0 := dig_W hzd 0
  have t1 := tp_bd bx0.1 bx0.2 hK0 hK bz0.1 bz0.2 (Int.le_refl 0) (by decide)
  have l0 := md.low0
  have l1 := md.low1
  have e1 : (0 : Int) < (n : Int) + 1 := by omega
  have e2 : (0 : Int) < (n : Int) := by omega
  have e3 : 0 < n := by omega
  have e4 : 0 < n + 1 := by omega
  go_enter Tryz.func110, Tryz.ntmps110
  go_wp2_with fail
  go_quiet ((go_at_call 118; exact quiet_one (timesPlus_any _ _ _ _ _ bx0.1 bx0.2 hK0 hK bz0.1 bz0.2 (Int.le_refl 0) (by decide))))
  go_wp2_with fail
  have hw := wrap_u (tpl (dig X 0) K (dig zs 0) 0 * low)
  generalize IntKind.u64.wrap (tpl (dig X 0) K (dig zs 0) 0 * low) = u at *
  obtain ⟨tu, hu, u0, u1⟩ := hw
  have HU := Lib.hid hu
  clear hu
  have t2 := tp_bd bm0.1 bm0.2 u0 u1 t1.1 t1.2.1 (Int.le_refl 0) (by decide)
  have hfst := drop_first t1.2.2.2.2 t2.2.2.2.2 (low_clear md.dig0 ⟨tu, HU.out⟩)
  have HF := Lib.hid hfst
  refine (timesPlus_any _ _ _ _ _ bm0.1 bm0.2 u0 u1 t1.1 t1.2.1 (Int.le_refl 0) (by decide)).mono ?_
  rintro e w1 ⟨rfl, rfl⟩
  have s1 := t1.2.2.1
  have s2 := t1.2.2.2.1
  have s3 := t2.2.2.1
  have s4 := t2.2.2.2.1
  clear hfst x0 mm0 z0 hf0 mdw q0 q1 t1 t2
  go_wp2_with fail
  go_loopw [9, 12, 14] (fun o un i wr => DropR zs X (dg W m) n K u w0 o un i wr) (fun _ _ i _ => n - (intOf i).toNat)
  case atStart =>
    refine ⟨0, zs, _, _, n1, rfl, rfl, rfl, s1, s2, s3, s4, hrow.drewN _, HZL.out, hzd, fun _ _ => rfl, ?_, below_drewN hb _⟩
    have := HF.out
    simp only [vf, Int.zero_mul, Int.zero_add, Int.pow_zero, Int.mul_one, Nat.zero_add, Int.pow_succ, Int.one_mul]
    exact this
  case round =>
    obtain ⟨k, ys, ov, ud, hk, rfl, rfl, rfl, o0, o1, d0, d1, hrow', hyl, hyd, hrest, hv, hb'⟩ := hrel
    have HV := Lib.hid hv
    have HR := Lib.hid hrest
    have HYL := Lib.hid hyl
    clear hv hrest
    have mdw := md.below hb'
    have q0 := mdw.c0
    have g1 : IntKind.i64.wrap ((k : Int) + 1) = (k : Int) + 1 := IntWalk.i64_in _ (by omega)
    rcases Nat.lt_or_ge (k + 1) n with hlt | hge
    · have xk := HLX.out (k + 1) hlt _ hb'
      have mk := HLM.out (k + 1) hlt _ hb'
      have zk := hrow'.cell (getElem?_dig (show k + 1 < ys.length by omega))
      rw [HR.out (k + 1) (by omega)] at zk
      have hfk := hrow'.frozen k
      have hck := hrow'.cell (getElem?_dig (show k < ys.length by omega))
      clear hyl
      have bxk := dig_W hXd (k + 1)
      have bmk := dig_W hmd (k + 1)
      have bzk := dig_W hzd (k + 1)
      have t1 := tp_bd bxk.1 bxk.2 hK0 hK bzk.1 bzk.2 o0 o1
      have t2 := tp_bd bmk.1 bmk.2 u0 u1 t1.1 t1.2.1 d0 d1
      have T1 := Lib.hid t1
      have T2 := Lib.hid t2
      clear t1 t2
      have g2 : 0 ≤ (k : Int) + 1 := by omega
      have g3 : ((k : Int) + 1).toNat = k + 1 := by omega
      have g4 : (k : Int) + 1 < (n : Int) := by omega
      have g5 : (k : Int) + 1 < (n : Int) + 1 := by omega
      go_wp2_with fail
      go_quiet ((go_at_call 118; exact quiet_one (timesPlus_any _ _ _ _ _ bxk.1 bxk.2 hK0 hK bzk.1 bzk.2 o0 o1)))
      go_wp2_with fail
      refine (timesPlus_any _ _ _ _ _ bmk.1 bmk.2 u0 u1 T1.out.1 T1.out.2.1 d0 d1).mono ?_
      rintro e w1 ⟨rfl, rfl⟩
      go_wp2
      go_roundw
      case rel =>
        refine ⟨k + 1, ys.set k _, _, _, hlt, by go_num, rfl, rfl, T1.out.2.2.1, T1.out.2.2.2.1, T2.out.2.2.1, T2.out.2.2.2.1, (hrow'.drewN _).set k _, by simpa using HYL.out, hyd.set T2.out.1 T2.out.2.1 k, fun j hj => by rw [dig_set_ne (by omega)]; exact HR.out j (by omega), drop_step (by have := HYL.out; omega) T1.out.2.2.2.2 T2.out.2.2.2.2 HV.out, (below_drewN hb' _).setCell (Nat.le_refl _) _⟩
      case measure => simp [intOf]; omega
    · obtain rfl : n = k + 1 := by omega
      have zk := hrow'.cell (getElem?_dig (show k + 1 < ys.length by omega))
      rw [HR.out (k + 1) (by omega)] at zk
      have hfk := hrow'.frozen k
      have hfk1 := hrow'.frozen (k + 1)
      have hck := hrow'.cell (getElem?_dig (show k < ys.length by omega))
      clear hyl
      have bzk := dig_W hzd (k + 1)
      have t1 := add64_bd bzk.1 bzk.2 o0 o1 (Int.le_refl 0) (by decide)
      have t2 := add64_bd t1.1 t1.2.1 d0 d1 (Int.le_refl 0) (by decide)
      have T1 := Lib.hid t1
      have T2 := Lib.hid t2
      have a1 := t1.2.2.1
      have a2 := t1.2.2.2.1
      have a3 := t2.2.2.1
      have a4 := t2.2.2.2.1
      clear t1 t2
      have HN := Lib.hid hge
      clear hge hk
      go_wp2_with (first | simp only [add64 _ _ _ bzk.1 o0 (Int.le_refl 0) (by decide)] | simp only [add64 _ _ _ T1.out.1 d0 (Int.le_refl 0) (by decide)])
      have hlast := drop_last (by have := HYL.out; omega) T1.out.2.2.2.2 T2.out.2.2.2.2 HV.out
      have hM : vf W (dig (dg W m)) (k + 1) = m := val_dl m0 (Nat.le_of_eq HLEN.out.symm)
      rw [hM] at hlast
      refine bodyPost_ret (v := .tuple #[]) (by simp [results, Tryz.results110, go_sem]) rfl ⟨_, u, rfl, u0, u1, ((hrow'.set k _).set (k + 1) _).set (k + 1) _, by simpa using HYL.out, ?_, hlast, ((hb'.setCell (Nat.le_refl _) _).setCell (Nat.le_refl _) _).setCell (Nat.le_refl _) _⟩
      exact ((hyd.set T2.out.1 T2.out.2.1 k).set (by omega) (by unfold W; omega) _).set (by omega) (by unfold W; omega) _
end Go.Proofs.YtloajnaphenbjaaGreatDoor
