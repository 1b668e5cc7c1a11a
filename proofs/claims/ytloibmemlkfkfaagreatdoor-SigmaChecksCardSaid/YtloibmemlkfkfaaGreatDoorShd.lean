/-
  What the document's Sha answers. (Its loops: Shl.)
-/
import Derived.Test.YtloibmemlkfkfaaGreatDoorShl
namespace Go.Proofs.YtloibmemlkfkfaaGreatDoor
open Go.RowKit
set_option linter.unusedVariables false
set_option maxHeartbeats 8000000 in
set_option maxRecDepth 100000 in
theorem dsha_any {AK AH : Option Addr} {cK cH : Nat} {A : Option Addr} {n c : Nat} {l : List Int} {w : World} (hK : Rd .u32 w AK 64 KT) (hH : Rd .u32 w AH 8 H0.l) (hb : Bs w A n c l) (hn : n ≤ 1000000) :
    Calls Tryz.prog 122 #[.agg #[.slice AK 64 cK, .slice AH 8 cH], .slice A n c] w (AnsOb (sha l) w) := by
  obtain ⟨bK, oK, rfl, -, -⟩ := hK.cells (by decide)
  have hl := hb.rd.len
  have hd := hb.dig_
  have HRD := Lib.hid hb.rd
  have HL := Lib.hid hl
  have HD := Lib.hid hd
  have HK := Lib.hid hK
  have HH := Lib.hid hH
  clear hl hd hb hK hH
  obtain ⟨W0, hW0⟩ : ∃ W0, w.alloc (.cells #[.slice (some ⟨bK, oK, none⟩) 64 cK, .slice AH 8 cH] 126) = W0 := ⟨_, rfl⟩
  have S0 : W0.heap.size = w.heap.size + 1 := by rw [← hW0]; simp
  have HBX := Lib.hid (show W0.heap[w.heap.size]? = some (.cells #[.slice (some ⟨bK, oK, none⟩) 64 cK, .slice AH 8 cH] 126 (0, 0)) by rw [← hW0]; exact heap_alloc_new w _)
  have HO0 := Lib.hid (own_none_at W0 5 .u8 (base := w.heap.size + 1) S0 (Nat.le_refl _))
  have HR0 := Lib.hid (show Rd .u8 (W0.alloc (.cells #[] 5)) A n l by rw [← hW0]; exact (HRD.out.alloc _).alloc _)
  have HB0 := Lib.hid (show Below w.heap.size w W0 by rw [← hW0]; exact (Below.refl _ w).alloc (Nat.le_refl _) _)
  have HB00 := Lib.hid (show Below (w.heap.size + 1) W0 (W0.alloc (.cells #[] 5)) from (Below.refl _ W0).alloc (by omega) _)
  have HK0 := Lib.hid (HK.out.below HB0.out)
  have HH0 := Lib.hid (HH.out.below HB0.out)
  have HW0 := Lib.hid hW0
  have HS0 := Lib.hid S0
  clear hW0
  go_enter Tryz.func122, Tryz.ntmps122
  go_wp2_with (at_builtin; rw [HW0.out]; refine wpList_cat8 _ rfl (.tmp 23) (.tmp 24) 22 rfl (w.heap.size + 1) 5 .u8 Tryz.underlying22 info8u _ 0 [] rfl HO0.out A n c l rfl HR0.out (by omega) (by simp; omega) ?_)
  rintro v1 w1 h1 g1
  have b1 := own_below HB00.out HO0.out g1 (by simp; omega) (Nat.le_refl _)
  have HO1 := Lib.hid (show Own8 w1 (w.heap.size + 1) v1 l from Own8.app (xs := []) rfl HL.out (by simpa using h1))
  have HB1 := Lib.hid b1
  have s1 := b1.size
  rw [S0] at s1
  clear h1 g1 b1
  obtain ⟨s, hs⟩ : ∃ s, w.heap.size + 1 = s := ⟨_, rfl⟩
  rw [hs] at HO1 HB1 s1
  have HS := Lib.hid hs
  clear hs
  go_wp2_with (at_builtin; refine wpList_app1 _ rfl (.tmp 26) (.tmp 27) 22 rfl s 1 5 .u8 Tryz.underlying22 info8u (by omega) v1 l.length l rfl (HO1.out.alloc _) w1.heap.size 128 rfl (cell_one _ _ _) (by simp) (by rw [HL.out]; omega) (by simp; omega) ?_)
  rintro v2 w2 h2 g2
  have b2 := own_below (HB1.out.alloc s1 _) (HO1.out.alloc _) g2 (by simp; omega) (Nat.le_refl _)
  have HO2 := Lib.hid (show Own8 w2 s v2 (l ++ 128 :: List.replicate 0 0) from Own8.app rfl rfl (by simpa using h2))
  have HB2 := Lib.hid b2
  clear h2 g2 b2 HB1 HO1 s1 HR0 HB00 HO0
  go_wp2_with fail
  go_loopw [5] (fun v wr => FlR l s W0 v wr) (fun v _ => n + 1 + fillN n - sln v)
  case atStart => exact ⟨0, Nat.zero_le _, HO2.out, HB2.out⟩
  case round =>
    clear HO2 HB2
    obtain ⟨j, hj, ho, hb⟩ := hrel
    rw [HL.out] at hj
    obtain ⟨Av, cv, rfl, hrv, hcv, hAv⟩ := ho.rd
    have hlen : (l ++ 128 :: List.replicate j 0).length = n + 1 + j := by simp [HL.out]; omega
    rw [hlen] at hrv hcv
    obtain ⟨m, hm⟩ : ∃ m, n + 1 + j = m := ⟨_, rfl⟩
    rw [hm] at hrv hcv
    rw [hlen, hm] at ho ⊢
    have hft := fill_test n j hj
    have hfl := fillN_lt n
    rw [hm] at hft
    have HM := Lib.hid hm
    have HO := Lib.hid ho
    have HB := Lib.hid hb
    have HLEN := Lib.hid hlen
    have sb := hb.size
    rw [S0, HS.out] at sb
    clear hm ho hb hlen hcv hAv
    by_cases hjf : j = fillN n
    · have ht : ((m : Int) % 64 != 56) = false := by have := hft.2 hjf; simp; omega
      have hm2 : m ≤ 1000064 := by have := HM.out; omega
      have hjl : j = fillN l.length := by rw [HL.out]; exact hjf
      subst hjl
      have hn64 : 8 * (n : Int) < 18446744073709551616 := by omega
      clear hft hjf hfl hj
      go_wp2_with fail
      refine (number_any (8 * (n : Int)) (by omega) hn64 _).mono ?_
      rintro e w4 ⟨v4, rfl, ho4, b4⟩
      obtain ⟨A4, c4, rfl, hr4, -, -⟩ := ho4.rd
      rw [be8_len] at hr4 ⊢
      have HO4 := Lib.hid (HO.out.below b4)
      have HR4 := Lib.hid hr4
      have B4 := Lib.hid (HB.out.trans (b4.mono (by omega)))
      have s4 := b4.size
      have hmm : m + 8 ≤ 8796093022208 := by omega
      clear ho4 hr4 b4 ht
      go_wp2_with (at_builtin; refine wpList_cat8 _ rfl (.tmp 36) (.tmp 41) 22 rfl s 5 .u8 Tryz.underlying22 info8u _ _ _ rfl HO4.out _ _ _ _ rfl HR4.out (by rw [HLEN.out, HM.out]; exact hmm) (by omega) ?_)
      rintro v5 w5 h5 g5
      have b5 := own_below B4.out HO4.out g5 (by omega) (Nat.le_refl _)
      obtain ⟨L, hL⟩ : ∃ L, l ++ pad l.length = L := ⟨_, rfl⟩
      have ho5 : Own8 w5 s v5 L := by
        rw [← hL, pad_split, HL.out]
        refine Own8.app rfl (be8_len _) ?_
        simpa [HL.out] using h5
      have HO5 := Lib.hid ho5
      have B5 := Lib.hid b5
      have hLd : Dig 256 L := by rw [← hL]; exact Dig.append HD.out (pad_dig _)
      have HLD := Lib.hid hLd
      have s5 := b5.size
      rw [S0] at s5
      have HLL := Lib.hid hL
      obtain ⟨M, hM⟩ : ∃ M, L.length = 64 * M := ⟨L.length / 64, by have := pad_all l.length; rw [← hL, List.length_append]; omega⟩
      have hM2 : M ≤ 20000 := by
        have h1 := hM
        rw [← hL, List.length_append, pad_len] at h1
        have h2 := fillN_lt l.length
        have := HL.out
        omega
      obtain ⟨A5, c5, rfl, hr5, hc5, ha5⟩ := ho5.rd
      obtain ⟨N, hN⟩ : ∃ N, L.length = N := ⟨_, rfl⟩
      have HNP := Lib.hid (show 0 < N by rw [← hN, ← hL, List.length_append, pad_len]; omega)
      rw [hN] at hr5 hc5 hM ⊢
      rw [hN] at HO5
      have HMM := Lib.hid hM
      have HM2 := Lib.hid hM2
      have HN := Lib.hid hN
      clear h5 g5 HO4 HR4 B4 HO HB HLEN hL hLd ho5 b5 hmm hrv hM hM2 hN
      obtain ⟨bL, oL, rfl, -, -⟩ := hr5.cells HNP.out
      have cT1 : w5.cell? ⟨w.heap.size, 1, none⟩ = some (.slice AH 8 cH) := (B5.out.cell (p := ⟨w.heap.size, 1, none⟩) (by have := HS.out; show w.heap.size < s; omega)).trans (cell_of_row W0 _ 1 _ _ _ HBX.out)
      have HR6 := Lib.hid ((HH0.out.below (B5.out.mono (by have := HS.out; omega))).alloc (.cells #[] 156))
      have HO6 := Lib.hid (own_none_at w5 156 .u32 (base := w5.heap.size) (q := w5.heap.size) rfl (Nat.le_refl _))
      have lt5 : w.heap.size < w5.heap.size := by omega
      have HS5 := Lib.hid (show s ≤ w5.heap.size by have := HS.out; omega)
      have HRL := Lib.hid hr5
      clear hc5 ha5 sb s4 s5 hn64 hm2 hn S0 hr5 HO5
      go_wp2_with (at_builtin; refine wpList_catK _ rfl (.tmp 43) (.tmp 45) 124 rfl w5.heap.size 4 156 .u32 Tryz.underlying124 info32 (by omega) _ 0 [] rfl HO6.out AH 8 cH H0.l rfl HR6.out (by omega) (by simp) ?_)
      rintro v7 w7 h7 g7
      have b57 := own_below ((Below.refl w5.heap.size w5).alloc (Nat.le_refl _) _) HO6.out g7 (by simp) (Nat.le_refl _)
      obtain ⟨A7, c7, rfl, m7⟩ := mn_own (t := 156) (k := .u32) (xs := H0.l) (n := 8) (by simpa using h7)
      obtain ⟨g, rfl, hg5, hg7⟩ := m7.at0 (by omega)
      have HM7 := Lib.hid (m7.base_ HS5.out)
      have B7 := Lib.hid (B5.out.trans (b57.mono HS5.out))
      have HL7 := Lib.hid (HRL.out.below b57)
      have hsg : s ≤ g := by have := HS5.out; omega
      have hws : w.heap.size < s := by have := HS.out; omega
      have HB0s := Lib.hid (show Below W0.heap.size W0 w7 from B7.out.mono (by have := HS0.out; have := HS.out; omega))
      have HK7 := Lib.hid (HK0.out.below HB0s.out)
      have HLg := Lib.hid (show ∀ a, some (⟨bL, oL, none⟩ : Addr) = some a → a.block < w7.heap.size → ¬ a.block = g from fun a ha _ => by have := HRL.out.blk_lt HNP.out ha; omega)
      have HKg := Lib.hid (show ∀ a, some (⟨bK, oK, none⟩ : Addr) = some a → a.block < w7.heap.size → ¬ a.block = g from fun a ha _ => by have := HK0.out.blk_lt (by omega) ha; have := HS0.out; have := HS.out; omega)
      have cT7 : w7.cell? ⟨w.heap.size, 0, none⟩ = some (.slice (some ⟨bK, oK, none⟩) 64 cK) := (B7.out.cell (p := ⟨w.heap.size, 0, none⟩) hws).trans (cell_of_row W0 _ 0 _ _ _ HBX.out)
      have CT7 := Lib.hid cT7
      clear cT7 cT1 lt5 h7 g7 b57 m7 HR6 HO6 HRL HB0s HK0 HH0
      go_wp2_with fail
      go_loopw [7] (fun i wr => DsR L M s W0 w7 g c7 i wr) (fun i _ => N - (intOf i).toNat)
      case atStart => exact ⟨0, Nat.zero_le _, rfl, HM7.out, Kept.refl _ _, B7.out⟩
      case round =>
        clear HM7 B7
        obtain ⟨j, hj, rfl, hm, hk, hb⟩ := hrel
        obtain ⟨S, hS⟩ : ∃ S, absb H0 L j = S := ⟨_, rfl⟩
        rw [hS] at hm
        have HSe := Lib.hid hS
        have hok : S.ok := by rw [← hS]; exact absb_ok H0_ok _ _
        obtain ⟨p, hp⟩ : ∃ p, 64 * j = p := ⟨_, rfl⟩
        rw [hp]
        have HP := Lib.hid hp
        have HMN := Lib.hid hm
        have HKE := Lib.hid hk
        have HB := Lib.hid hb
        have HLw := Lib.hid (hk.rd HL7.out HLg.out)
        have HKw := Lib.hid (hk.rd HK7.out HKg.out)
        have cT0 : wr.cell? ⟨w.heap.size, 0, none⟩ = some (.slice (some ⟨bK, oK, none⟩) 64 cK) := (hk.cell (p := ⟨w.heap.size, 0, none⟩) (by show w.heap.size < w7.heap.size; omega) (by show ¬ w.heap.size = g; omega)).trans CT7.out
        have CT0 := Lib.hid cT0
        have szg : g < wr.heap.size := by have := hk.size; omega
        have szw : w.heap.size < wr.heap.size := by omega
        clear hS hm hk hb cT0 hp
        rcases Nat.lt_or_ge j M with hlt | hge
        · have hpN : (p : Int) < (N : Int) := by have := HP.out; have := HMM.out; omega
          have hp40 : (p : Int) ≤ 1280000 := by have := HP.out; have := HM2.out; omega
          obtain ⟨blk, hblk⟩ : ∃ blk, (L.drop (64 * j)).take 64 = blk := ⟨_, rfl⟩
          have HBLK := Lib.hid hblk
          have HBD := Lib.hid (show Dig 256 blk by rw [← hblk]; exact (HLD.out.drop _).take _)
          obtain ⟨wo, rfl⟩ : ∃ wo, wo = wr := ⟨_, rfl⟩
          clear hblk
          go_wp2_with fail
          refine only_use (words_loop hlt HP.out HMM.out hpN hp40 HLD.out HBLK.out HLw.out _ _ _ _ _ _ _ _ _ _ _ _ _ _ _ _ _ _ _ _ _ _ _ _ _ _ _ _ _ _ _ _ _ _ _ _ _ _ _ _ _ _ _ _ _ _ _ _ _ _ _ _ _ _ _ _ _ _ _ _ _ _ _ _ _ _ _ _ _ _ _ _ _ _ _ _ _ _ _ _ _ _ _ _ _ _ _ _ _ _ _ _ _ _ _ _ _ _ _ _ _ _ _ _ _ _ _ _ _ _ _ _ _ _ _ _ _ _ _ _ _ _ _ _ _ _ _ _ _ _ _ _ _ _ _ _ _ _ _ _ _ _ _ _ _ _ _ _ _ _ _ _ _ _ _ _ _ _ _ _ _ _ _ _ _ _ _ _ _ _ _ _ _ _ _ _ _ _ _ _ _ _ _ _ _ _ _ _ _ _ _ _ _ _ _ _ _ _ _ _ _ _ _ _ _ _ _ _ _ _ _ _ _ _ _ _ _ _ _ _ _ _ _ _ _ _ _ _ _ _ _ _ _ _ _ _ _ _ _ _ _ _ _ _ _ _ _ _ _ _ _ _ _ _ _ _ _ _ _ _ _ _ _ _ _ _ _ _ _ _ _ _ _ _ _ _ _ _ _ _ _ _ _ _ _ _ _ _ ?_)
          intro e10 e11 e12 e13 e53 e54 e55 e56 e57 e58 e59 e60 e61 e62 e63 e64 e65 e66 e67 e68 e69 e70 e71 e72 e73 e74 e75 e76 e77 e78 e79 e80 e81 e82 e83 e84 e85 e86 e87 e88 e89 e90 e91 e92 e93 e94 e95 e96 e97 e98 e99 e100 e101 e102 e103 e104 e105 e106 e107 e108 e109 e110 e111 e112 e113 e114 e115 e116 e117 e118 e119 e120 e121 e122 e123 e124 e125 e126 e127 e128 e129 e130 e131 e132 e133 e134 e135 e136 e137 v wr ho hbA
          obtain ⟨Aw, cw, rfl, hrw, -, -⟩ := own_rd ho
          obtain ⟨bw, ow, rfl, hbw, -⟩ := hrw.cells (by decide)
          have sbA := hbA.size
          have mh := HMN.out.below hbA
          have HMA := Lib.hid mh
          have HRH := Lib.hid (mh.rd.alloc (.cells #[] 156))
          have HOV := Lib.hid (own_none_at wr 156 .u32 (base := wr.heap.size) (q := wr.heap.size) rfl (Nat.le_refl _))
          have HRW := Lib.hid hrw
          have HBA := Lib.hid hbA
          clear ho hbA hrw mh hbw
          go_wp2_with (at_builtin; refine wpList_catK _ rfl (.tmp 138) (.tmp 139) 124 rfl wr.heap.size 4 156 .u32 Tryz.underlying124 info32 (by omega) _ 0 [] rfl HOV.out _ 8 c7 S.l rfl HRH.out (by omega) (by simp) ?_)
          rintro vB wB hB gB
          have bB := own_below ((Below.refl wr.heap.size wr).alloc (Nat.le_refl _) _) HOV.out gB (by simp) (Nat.le_refl _)
          obtain ⟨AB, cB, rfl, mB⟩ := mn_own (t := 156) (k := .u32) (xs := S.l) (n := 8) (by simpa using hB)
          obtain ⟨g2, rfl, hg2, hg2l⟩ := mB.at0 (by omega)
          have RB := Lib.hid mB.rd
          have HKB := Lib.hid ((HKw.out.below HBA.out).below bB)
          have CTB := Lib.hid ((bB.cell (p := ⟨w.heap.size, 0, none⟩) (by show w.heap.size < wr.heap.size; omega)).trans ((HBA.out.cell (p := ⟨w.heap.size, 0, none⟩) szw).trans CT0.out))
          have HWB := Lib.hid (HRW.out.below bB)
          have HMB := Lib.hid (HMA.out.below bB)
          have HBB := Lib.hid (HBA.out.trans (bB.mono sbA))
          have gg2 : g < g2 := by omega
          have szB : w.heap.size < wB.heap.size := by have := bB.size; omega
          have sob : wo.heap.size ≤ wB.heap.size := by have := bB.size; omega
          clear hB gB bB mB HRW HMA HRH HOV hg2 hg2l
          go_wp2_with fail
          have gBs : g < wB.heap.size := by omega
          refine only_use (rounds_loop hok gBs gg2 szB HKB.out CTB.out HWB.out RB.out _ _ _ _ _ _ _ _ _ _ _ _ _ _ _ _ _ _ _ _ _ _ _ _ _ _ _ _ _ _ _ _ _ _ _ _ _ _ _ _ _ _ _ _ _ _ _ _ _ _ _ _ _ _ _ _ _ _ _ _ _ _ _ _ _ _ _ _ _ _ _ _ _ _ _ _ _ _ _ _ _ _ _ _ _ _ _ _ _ _ _ _ _ _ _ _ _ _ _ _ _ _ _ _ _ _ _ _ _ _ _ _ _ _ _ _ _ _ _ _ _ _ _ _ _ _ _ _ _ _ _ _ _ _ _ _ _ _ _ _ _ _ _ _ _ _ _ _ _ _ _ _ _ _ _ _ _ _ _ _ _ _ _ _ _ _ _ _ _ _ _ _ _ _ _ _ _ _ _ _ _ _ _ _ _ _ _ _ _ _ _ _ _ _ _ _ _ _ _ _ _ _ _ _ _ _ _ _ _ _ _ _ _ _ _ _ _ _ _ _ _ _ _ _ _ _ _ _ _ _ _ _ _ _ _ _ _ _ _ _ _ _ _ _ _ _ _ _ _ _ _ _ _ _ _ _ _ _ _ _ _ _ _ _ _ _ _ _ _ _ _ _ _ _ _ _ _ _ _ _ _ _ _ _ _ _ _ _ ?_)
          intro e16 e17 e18 e19 e141 e142 e143 e144 e145 e146 e147 e148 e149 e150 e151 e152 e153 e154 e155 e156 e157 e158 e159 e160 e161 e162 e163 e164 e165 e166 e167 e168 e169 e170 e171 e172 e173 e174 e175 e176 e177 e178 e179 e180 e181 e182 e183 e184 e185 e186 e187 e188 e189 e190 e191 e192 e193 e194 e195 e196 e197 e198 e199 e200 e201 e202 e203 e204 e205 e206 e207 e208 e209 e210 e211 e212 e213 e214 e215 e216 e217 e218 e219 e220 e221 e222 e223 e224 e225 e226 e227 e228 e229 e230 e231 e232 e233 e234 e235 e236 e237 e238 e239 e240 e241 b c wr hr hgb hbB
          obtain ⟨Rr, hRr⟩ : ∃ Rr, rnds KT (sched blk) S 64 = Rr := ⟨_, rfl⟩
          rw [hRr] at hr
          have HRR := Lib.hid hRr
          obtain ⟨wC, rfl⟩ : ∃ wC, wC = wr := ⟨_, rfl⟩
          have HMC := Lib.hid (HMB.out.below hbB)
          have HBC := Lib.hid (HB.out.trans ((HBB.out.trans (hbB.mono sob)).mono (by omega)))
          have HKC := Lib.hid ((HKE.out.below HBB.out).below hbB)
          have HRC := Lib.hid hr
          clear hRr hr hbB
          go_wp2_with fail
          go_loopw [20] (fun i wr' => CcS S Rr s g c7 W0 wC i wr') (fun i _ => 8 - (intOf i).toNat)
          case atStart => exact ⟨0, Nat.zero_le _, rfl, HMC.out, Kept.refl _ _, HBC.out⟩
          case round =>
            obtain ⟨k, hk, rfl, hm, hkp, hb⟩ := hrel
            rcases Nat.lt_or_ge k 8 with hlt3 | hge3
            · --<C1
              have ch := hm.cell hlt3
              rw [hmx_dig S Rr hlt3] at ch
              have fz := hm.frozen hlt3
              have cv := (hkp.rd HRC.out (fun a ha _ => by injection ha with ha; subst ha; show ¬ b = g; omega)).c0 hlt3
              have hst := hm.set hlt3 (ad (dig S.l k) (dig Rr.l k))
              rw [hmx_set S Rr hlt3] at hst
              obtain ⟨x, hx⟩ : ∃ x, dig S.l k = x := ⟨_, rfl⟩
              obtain ⟨y, hy⟩ : ∃ y, dig Rr.l k = y := ⟨_, rfl⟩
              rw [hx] at ch hst
              rw [hy] at cv hst
              have HST := Lib.hid hst
              have HKP := Lib.hid hkp
              have HBP := Lib.hid hb
              have hki : (k : Int) < 8 := by omega
              have hgb2 : ¬ b = g := by omega
              have hgb3 : ¬ g = b := by omega
              clear hm hkp hb hst hx hy
              go_wp2_with fail
              go_region
              all_goals
                go_wp2_with fail
                go_roundw
                case rel => exact ⟨k + 1, by omega, by go_num, HST.out.drew, (HKP.out.set rfl k (.int .u32 (ad x y))).drew, (HBP.out.setCell hsg (.int .u32 (ad x y))).drew⟩
                case measure => simp [intOf]; omega
              --C1>
            · --<C2
              obtain rfl : k = 8 := by omega
              rw [hmx_end] at hm
              have HMm := Lib.hid hm
              have HKm := Lib.hid (HKC.out.trans hkp)
              have HBm := Lib.hid hb
              clear hm hkp hb hk hge3
              go_wp2_with fail
              go_roundw
              case rel =>
                refine ⟨j + 1, hlt, ?_, ?_, HKm.out, HBm.out⟩
                · rw [← HP.out]; go_num
                · have e : absb H0 L (j + 1) = addS S Rr := by
                    show comp (absb H0 L j) ((L.drop (64 * j)).take 64) = _
                    rw [HSe.out, HBLK.out, ← HRR.out]; rfl
                  rw [e]; exact HMm.out
              case measure => simp [intOf]; omega
              --C2>
        · --<D
          obtain rfl : j = M := by omega
          have hpN : N = p := by have := HP.out; have := HMM.out; omega
          subst hpN
          have hwd := St.wds hok
          have HMNs := Lib.hid HMN.out
          go_wp2_with fail
          obtain ⟨wD, rfl⟩ : ∃ wD, wD = wr := ⟨_, rfl⟩
          refine only_use (out_loop hwd szg HMNs.out _ _ _ _ _ _ _ _ _ _ _ _ _ _ _ _ _ _ _ _ _ _ _ _ _ _ _ _ _ _ _ _ _ _ _ _ _ _ _ _ _ _ _ _ _ _ _ _ _ _ _ _ _ _ _ _ _ _ _ _ _ _ _ _ _ _ _ _ _ _ _ _ _ _ _ _ _ _ _ _ _ _ _ _ _ _ _ _ _ _ _ _ _ _ _ _ _ _ _ _ _ _ _ _ _ _ _ _ _ _ _ _ _ _ _ _ _ _ _ _ _ _ _ _ _ _ _ _ _ _ _ _ _ _ _ _ _ _ _ _ _ _ _ _ _ _ _ _ _ _ _ _ _ _ _ _ _ _ _ _ _ _ _ _ _ _ _ _ _ _ _ _ _ _ _ _ _ _ _ _ _ _ _ _ _ _ _ _ _ _ _ _ _ _ _ _ _ _ _ _ _ _ _ _ _ _ _ _ _ _ _ _ _ _ _ _ _ _ _ _ _ _ _ _ _ _ _ _ _ _ _ _ _ _ _ _ _ _ _ _ _ _ _ _ _ _ _ _ _ _ _ _ _ _ _ _ _ _ _ _ _ _ _ _ _ _ _ _ _ _ _ _ _ _ _ _ _ _ _ _ _ _ _ _ _ _ _ _ _ ?_)
          intro e258 e259 e260 e261 e262 e263 e264 e265 e266 e267 e268 e269 e270 e271 e272 e273 e274 e275 e276 e277 e278 e279 e280 e281 e282 e283 e284 e285 e286 e287 e288 e289 e290 v wr ho hbD
          have e1 : wbs S.l = sha l := by
            unfold sha shaS
            rw [HLL.out, ← List.length_append, HLL.out, HN.out, HMM.out, Nat.mul_div_cancel_left _ (by omega), HSe.out]
          rw [e1] at ho
          go_wp2_with fail
          go_ret
          exact ⟨_, rfl, ho.base (by omega), HB0.out.trans ((HB.out.trans (hbD.mono (by omega))).mono (by omega))⟩
    · have ht : ((m : Int) % 64 != 56) = true := by have := mt hft.1 hjf; simp; omega
      clear hft
      go_wp2_with (at_builtin; refine wpList_app1 _ rfl (.tmp 33) (.tmp 34) 22 rfl s 1 5 .u8 Tryz.underlying22 info8u (by omega) _ _ _ rfl (HO.out.alloc _) wr.heap.size 0 rfl (cell_one _ _ _) (by simp) (by have := HLEN.out; omega) (by simp; omega) ?_)
      rintro v3 w3 h3 g3
      have b3 := own_below (HB.out.alloc (by omega) _) (HO.out.alloc _) g3 (by simp; omega) (Nat.le_refl _)
      have ho3 : Own8 w3 s v3 (l ++ 128 :: List.replicate (j + 1) 0) := by
        rw [← fill_next]
        exact Own8.app rfl rfl (by simpa using h3)
      have HO3 := Lib.hid ho3
      have hln3 : sln v3 = m + 1 := by
        obtain ⟨A3, c3, rfl, -, -, -⟩ := ho3.rd
        show (l ++ 128 :: List.replicate (j + 1) 0).length = m + 1
        simp [HL.out]; have := HM.out; omega
      have HLN3 := Lib.hid hln3
      clear h3 g3 ho3 hln3
      go_wp2_with fail
      go_roundw
      case rel => exact ⟨j + 1, by rw [HL.out]; omega, HO3.out, b3⟩
      case measure => rw [HLN3.out]; have := HM.out; simp [sln]; omega
end Go.Proofs.YtloibmemlkfkfaaGreatDoor
