/-
  SigmaSound answers true: two answers to one beginning, by two challenges, give the scalar away.
-/
import Derived.Test.YtloibmemlkfkfaaGreatDoorSgb
import Derived.Test.YtloibmemlkfkfaaGreatDoorPkm
namespace Go.Proofs.YtloibmemlkfkfaaGreatDoor
open Go.RowKit
set_option linter.unusedVariables false
set_option maxHeartbeats 16000000 in
set_option maxRecDepth 100000 in
theorem sigmaSound_walk {w : World} (x : Int) (hx : -9223372036854775808 ≤ x ∧ x ≤ 9223372036854775807) {As Ak Ae Af : Option Addr} {ns cs nk ck ne ce nf cf : Nat} {S K E F : Int}
    (hs : Nm w As ns cs S) (hk : Nm w Ak nk ck K) (hE : Nm w Ae ne ce E) (hF : Nm w Af nf cf F) (hT : Tabs w) :
    Calls Tryz.prog 6 #[.int .i64 x, .slice As ns cs, .slice Ak nk ck, .slice Ae ne ce, .slice Af nf cf] w (AnsV (.bool true) w) := by
  have HS := Lib.hid hs
  have HK := Lib.hid hk
  have HE := Lib.hid hE
  have HF := Lib.hid hF
  have HX := Lib.hid hx
  have HT := Lib.hid hT
  have he := ne_nil8
  have he1 := eq_nil8
  clear hs hk hE hF hx hT
  go_enter Tryz.func6, Tryz.ntmps6
  go_wp2_with fail
  refine (up8_any HT.out).mono ?_
  rintro e w0 ⟨rfl, b0⟩
  have B0 := Lib.hid (show B8 w w0 from b0)
  clear b0
  go_wp2_with fail
  refine (known_any x HX.out w0).mono ?_
  rintro e w1 ⟨A, n, c, A', n', c', rfl, kg, b1⟩
  have B1 := Lib.hid (B0.out.trans (show B8 w0 w1 from b1))
  have KGG := Lib.hid kg
  clear b1 kg B0
  go_wp2_with fail
  refine (kg_new (kix_lt x) KGG.out).mono ?_
  rintro e w2 ⟨b, d, rfl, gr, -, -, -, b2, -, -⟩
  have q1 := g8_eq b
  have q2 := gne8 b
  have B2 := Lib.hid (B1.out.trans (show B8 w1 w2 from b2))
  have GR := Lib.hid gr
  have SF := Lib.hid gr.safe
  have EG := Lib.hid gr.el
  have Q0 := Lib.hid (show 0 < d.Q by have := gr.safe.q3; omega)
  have LQ := Lib.hid (show dl d.Q ≤ 64 by have := gr.lq; omega)
  clear b2 gr KGG B1
  rcases Nat.lt_or_ge 30 ns with g1 | g1
  · have e1 : decide ((30 : Int) < (ns : Int)) = true := by simp; omega
    go_wp2_with fail
    go_ret
    exact ⟨rfl, B2.out⟩
  have e1 : decide ((30 : Int) < (ns : Int)) = false := by simp; omega
  rcases Nat.lt_or_ge 30 nk with g2 | g2
  · have e2 : decide ((30 : Int) < (nk : Int)) = true := by simp; omega
    go_wp2_with fail
    go_ret
    exact ⟨rfl, B2.out⟩
  have e2 : decide ((30 : Int) < (nk : Int)) = false := by simp; omega
  rcases Nat.lt_or_ge 30 ne with g3 | g3
  · have e3 : decide ((30 : Int) < (ne : Int)) = true := by simp; omega
    go_wp2_with fail
    go_ret
    exact ⟨rfl, B2.out⟩
  have e3 : decide ((30 : Int) < (ne : Int)) = false := by simp; omega
  rcases Nat.lt_or_ge 30 nf with g4 | g4
  · have e4 : decide ((30 : Int) < (nf : Int)) = true := by simp; omega
    go_wp2_with fail
    go_ret
    exact ⟨rfl, B2.out⟩
  have e4 : decide ((30 : Int) < (nf : Int)) = false := by simp; omega
  have lS : dl S ≤ 64 := by have := HS.out.dl_le; omega
  have lK : dl K ≤ 64 := by have := HK.out.dl_le; omega
  have lE : dl E ≤ 64 := by have := HE.out.dl_le; omega
  have lF : dl F ≤ 64 := by have := HF.out.dl_le; omega
  go_wp2_with fail
  refine (gscalars_any GR.out.toGr0).mono ?_
  rintro e w3 ⟨bs', As', cs', lows', Bs', cBs', Ss', cSs', rfl, -, b3, -⟩
  have q3 := meq8 bs'
  have B3 := Lib.hid (B2.out.trans (show B8 w2 w3 from b3))
  have GR3 := Lib.hid (B8.gr (show B8 w2 w3 from b3) GR.out)
  clear b3 GR B2
  go_wp2_with fail
  clear q3 e1 e2 e3 e4
  refine (gscalars_any GR3.out.toGr0).mono ?_
  rintro e w4 ⟨bs, As, cs, lows, Bs, cBs, Ss, cSs, rfl, md, b4, -⟩
  have B4 := Lib.hid (B3.out.trans (show B8 w3 w4 from b4))
  have GR4 := Lib.hid (B8.gr (show B8 w3 w4 from b4) GR3.out)
  have MD := Lib.hid md
  clear b4 GR3 B3 md
  go_wp2_with fail
  refine (gx_base GR4.out (B4.out.nm HS.out) lS).mono ?_
  rintro e w5 ⟨Ay, ny, cy, rfl, ky, b5, -⟩
  have C5 := Lib.hid (show B8 w4 w5 from b5)
  have KY := Lib.hid ky
  clear b5 ky
  go_wp2_with fail
  refine (mmul_any (MD.out.below C5.out) (C5.out.nm (B4.out.nm HE.out)) (C5.out.nm (B4.out.nm HS.out)) lE lS).mono ?_
  rintro e w6 ⟨A1, n1, c1, rfl, k1, b6, -⟩
  have C6 := Lib.hid (C5.out.trans (show B8 w5 w6 from b6))
  have KY6 := Lib.hid (B8.cn (show B8 w5 w6 from b6) KY.out)
  have K1 := Lib.hid k1
  clear b6 k1 C5 KY
  go_wp2_with fail
  refine (mmul_any (MD.out.below C6.out) (C6.out.nm (B4.out.nm HF.out)) (C6.out.nm (B4.out.nm HS.out)) lF lS).mono ?_
  rintro e w7 ⟨A2, n2, c2, rfl, k2, b7, -⟩
  have D7 := Lib.hid (show B8 w6 w7 from b7)
  have C7 := Lib.hid (C6.out.trans D7.out)
  have KY7 := Lib.hid (D7.out.cn KY6.out)
  have K1b := Lib.hid (D7.out.cn K1.out)
  have K2 := Lib.hid k2
  have L1 := Lib.hid (K1.out.d64 (Int.emod_lt_of_pos _ Q0.out) LQ.out)
  have L2 := Lib.hid (K2.out.d64 (Int.emod_lt_of_pos _ Q0.out) LQ.out)
  clear b7 k2 C6 KY6 K1 D7
  go_wp2_with fail
  refine (madd_any (MD.out.below C7.out) (C7.out.nm (B4.out.nm HK.out)) K1b.out.nm lK L1.out).mono ?_
  rintro e w8 ⟨A3, n3, c3, rfl, k3, b8, -⟩
  have D8 := Lib.hid (show B8 w7 w8 from b8)
  have C8 := Lib.hid (C7.out.trans D8.out)
  have KY8 := Lib.hid (D8.out.cn KY7.out)
  have K2b := Lib.hid (D8.out.cn K2.out)
  have K3 := Lib.hid k3
  clear b8 k3 C7 KY7 K1b K2 D8
  go_wp2_with fail
  refine (madd_any (MD.out.below C8.out) (C8.out.nm (B4.out.nm HK.out)) K2b.out.nm lK L2.out).mono ?_
  rintro e w9 ⟨A4, n4, c4, rfl, k4, b9, -⟩
  have D9 := Lib.hid (show B8 w8 w9 from b9)
  have C9 := Lib.hid (C8.out.trans D9.out)
  have KY9 := Lib.hid (D9.out.cn KY8.out)
  have K3b := Lib.hid (D9.out.cn K3.out)
  have K4 := Lib.hid k4
  have L3 := Lib.hid (K3.out.d64 (Int.emod_lt_of_pos _ Q0.out) LQ.out)
  have L4 := Lib.hid (K4.out.d64 (Int.emod_lt_of_pos _ Q0.out) LQ.out)
  clear b9 k4 C8 KY8 K2b K3 D9
  go_wp2_with fail
  refine (msub_any (MD.out.below C9.out) K3b.out.nm K4.out.nm L3.out L4.out).mono ?_
  rintro e w10 ⟨A5, n5, c5, rfl, k5, b10, -⟩
  have D10 := Lib.hid (show B8 w9 w10 from b10)
  have C10 := Lib.hid (C9.out.trans D10.out)
  have KY10 := Lib.hid (D10.out.cn KY9.out)
  have K5 := Lib.hid k5
  clear b10 k5 C9 KY9 K3b K4 D10
  go_wp2_with fail
  refine (msub_any (MD.out.below C10.out) (C10.out.nm (B4.out.nm HE.out)) (C10.out.nm (B4.out.nm HF.out)) lE lF).mono ?_
  rintro e w11 ⟨A6, n6, c6, rfl, k6, b11, -⟩
  have D11 := Lib.hid (show B8 w10 w11 from b11)
  have C11 := Lib.hid (C10.out.trans D11.out)
  have KY11 := Lib.hid (D11.out.cn KY10.out)
  have K5b := Lib.hid (D11.out.cn K5.out)
  have K6 := Lib.hid k6
  have L5 := Lib.hid (K5.out.d64 (Int.emod_lt_of_pos _ Q0.out) LQ.out)
  have L6 := Lib.hid (k6.d64 (Int.emod_lt_of_pos _ Q0.out) LQ.out)
  have m6 := cn_len k6
  have m5 := cn_len K5.out
  have v0 := Int.emod_nonneg (E - F) (show d.Q ≠ 0 by have := Q0.out; omega)
  have v1 := Int.emod_lt_of_pos (E - F) Q0.out
  obtain ⟨V, hV⟩ : ∃ V, (E - F) % d.Q = V := ⟨_, rfl⟩
  have HV := Lib.hid hV
  rw [hV] at m6 v0 v1 K6 L6
  have M5 := Lib.hid m5
  have M6 := Lib.hid m6
  have V1 := Lib.hid v1
  clear b11 k6 C10 KY10 K5 D11 hV m5 m6 v1
  by_cases hz : V = 0
  · have z1 : ((n6 : Int) == 0) = true := by
      have := M6.out
      have h2 := (dl_zero v0).2 hz
      simp; omega
    have z2 : ((n5 : Int) == 0) = true := by
      have := M5.out
      have h2 := sound_zero (Q := d.Q) (k := K) (s := S) (e := E) (f := F) (by rw [HV.out]; exact hz)
      rw [h2] at this
      have h3 := (dl_zero (Int.le_refl 0)).2 rfl
      simp; omega
    clear hz v0
    go_wp2_with fail
    go_ret
    exact ⟨rfl, B4.out.trans C11.out⟩
  · have vp : 0 < V := by omega
    have z1 : ((n6 : Int) == 0) = false := by
      have := M6.out
      have h2 := dl_pos vp
      simp; omega
    have GC := Lib.hid (show Int.gcd d.Q (V % d.Q) = 1 by rw [Int.emod_eq_of_lt v0 V1.out]; exact pr_gcd SF.out.qr vp V1.out)
    clear hz v0 vp
    go_wp2_with fail
    refine (inverse_any (MD.out.below C11.out) K6.out.nm L6.out GC.out).mono ?_
    rintro e w12 ⟨U, u1, u2, hu, A7, n7, c7, rfl, k7, b12, -⟩
    have D12 := Lib.hid (show B8 w11 w12 from b12)
    have C12 := Lib.hid (C11.out.trans D12.out)
    have KY12 := Lib.hid (D12.out.cn KY11.out)
    have K5c := Lib.hid (D12.out.cn K5b.out)
    have K7 := Lib.hid k7
    have HU := Lib.hid hu
    have L7 := Lib.hid (k7.d64 u2 LQ.out)
    clear b12 k7 C11 KY11 K5b D12 u1 u2 hu
    go_wp2_with fail
    refine (mmul_any (MD.out.below C12.out) K5c.out.nm K7.out.nm L5.out L7.out).mono ?_
    rintro e w13 ⟨A8, n8, c8, rfl, k8, b13, -⟩
    have D13 := Lib.hid (show B8 w12 w13 from b13)
    have C13 := Lib.hid (C12.out.trans D13.out)
    have KY13 := Lib.hid (D13.out.cn KY12.out)
    have K8 := Lib.hid k8
    have L8 := Lib.hid (k8.d64 (Int.emod_lt_of_pos _ Q0.out) LQ.out)
    clear b13 k8 C12 KY12 K5c D13 K7
    go_wp2_with fail
    refine (gx_base (C13.out.gr GR4.out) K8.out.nm L8.out).mono ?_
    rintro e w14 ⟨A9, n9, c9, rfl, k9, b14, -⟩
    have D14 := Lib.hid (show B8 w13 w14 from b14)
    have C14 := Lib.hid (C13.out.trans D14.out)
    have KY14 := Lib.hid (D14.out.cn KY13.out)
    have K9 := Lib.hid k9
    have SAME := Lib.hid (show gx d.P d.Q d.G (((K + E * S % d.Q) % d.Q - (K + F * S % d.Q) % d.Q) % d.Q * U % d.Q) = gx d.P d.Q d.G S by
      rw [sound_diff, HV.out, sound_scalar HU.out, gx_mod SF.out.q1])
    clear b14 k9 C13 KY13 D14 K8
    go_wp2_with fail
    refine (same8 K9.out KY14.out SAME.out).mono ?_
    rintro e w15 ⟨rfl, r, rfl⟩
    go_wp2_with fail
    go_ret
    exact ⟨rfl, B4.out.trans (C14.out.trans (B8.drewN _ _))⟩
end Go.Proofs.YtloibmemlkfkfaaGreatDoor
