/-
  SealBack answers true: what was sealed to a secret's power is opened by that secret, in whatever group; what is handed in stays; with another Tag it isn't opened.
-/
import Derived.Test.YtjalncdllegfoaaDoorU10
import Derived.Test.YtjalncdllegfoaaDoorSgb
import Derived.BigQuiet
import Derived.Deep.QuietTactic
import Derived.Deep.CutBlock
namespace Go.Proofs.YtjalncdllegfoaaDoor
open Go.RowKit
set_option linter.unusedVariables false
/-! ### Memory that stays but for one's own slice -/
section
variable {X : Nat → Prop} {w0 w : World}
theorem Kept.cnL (h : Kept X w0 w) {A : Option Addr} {n c : Nat} {N : Int} (hc : Cn w0 A n c N) (hx : ∀ a, A = some a → a.block < w0.heap.size → ¬ X a.block) : Cn w A n c N := ⟨h.rd hc.rd hx, hc.nc, hc.c60, hc.pos⟩
theorem Kept.bzL (h : Kept X w0 w) {A : Option Addr} {n : Nat} {xs : List Int} (hc : Bz w0 A n xs) (hx : ∀ a, A = some a → a.block < w0.heap.size → ¬ X a.block) : Bz w A n xs := ⟨h.rd hc.rd hx, hc.dig_⟩
theorem Kept.setL (h : Kept X w0 w) {g : Nat} (hg : X g) (j : Nat) (u : Value) : Kept X w0 (w.setCell ⟨g, j, none⟩ u) :=
  ⟨by simp only [World.setCell, Array.size_modify]; exact h.size, fun b hb hx => (Below.heap_setCell w ⟨g, j, none⟩ u b (by rintro rfl; exact hx hg)).trans (h.block b hb hx)⟩
theorem Kept.drewNL (h : Kept X w0 w) (q : Nat) : Kept X w0 (w.drewN q) := ⟨h.size, h.block⟩
end
theorem Mn.drewNL {t : TypeId} {k : IntKind} {w : World} {base n c : Nat} {A : Option Addr} {xs : List Int} (h : Mn t k w base A n c xs) (q : Nat) : Mn t k (w.drewN q) base A n c xs := ⟨h.len, h.nc, h.new, h.lt, h.row⟩
/-- The blocks of one slice. -/
def Blk (A : Option Addr) (b : Nat) : Prop := ∃ a, A = some a ∧ a.block = b
/-- The loop: bytes up to i were as they came, and are noughts now. -/
def ZrS (bs : List Int) (n base : Nat) (A : Option Addr) (c : Nat) (w3 W : World) (i : Value) (wr : World) : Prop :=
  ∃ (k : Nat) (zs : List Int), k ≤ n ∧ i = .int .i64 k ∧ Mn 5 .u8 wr base A n c zs ∧ (∀ j, k ≤ j → dig zs j = dig bs j) ∧ Kept (Blk A) W wr ∧ B8 w3 wr
set_option maxRecDepth 100000 in
theorem eq_nerr10 : ∀ w : World, (binOp .eql 28 .nilIface (.iface 43 (.int .i64 15))).run Tryd.prog w = .ok (.bool false) w := fun _ => rfl
set_option maxHeartbeats 32000000 in
set_option maxRecDepth 100000 in
theorem sealBack_walk {w : World} (x : Int) (hx : -9223372036854775808 ≤ x ∧ x ≤ 9223372036854775807) {As Ab Ar : Option Addr} {ns cs nb' cb nr cr : Nat} {S R : Int} {bs : List Int}
    (hs : Nm w As ns cs S) (hb : Bz w Ab nb' bs) (hnb : nb' ≤ 140737488355328) (hr : Nm w Ar nr cr R) (p : Int) (hp : -9223372036854775808 ≤ p ∧ p ≤ 9223372036854775807) (y : Int) (hy : 0 ≤ y ∧ y ≤ 255) (hT : Tabs w) :
    Calls Tryd.prog 3 #[.int .i64 x, .slice As ns cs, .slice Ab nb' cb, .slice Ar nr cr, .int .i64 p, .int .u8 y] w (AnsV (.bool true) w) := by
  have HS := Lib.hid hs
  have HB := Lib.hid hb
  have HR := Lib.hid hr
  have HX := Lib.hid hx
  have HP := Lib.hid hp
  have HY := Lib.hid hy
  have HT := Lib.hid hT
  have he := ne_nil8
  have he1 := eq_nil8
  clear hs hb hr hx hp hy hT
  go_enter Tryd.func3, Tryd.ntmps3
  go_wp2_with fail
  refine (up10_any HT.out).mono ?_
  rintro e w0 ⟨rfl, b0⟩
  have B0 := Lib.hid (show B8 w w0 from b0)
  clear b0
  go_wp2_with fail
  refine (known_any x HX.out w0).mono ?_
  rintro e w1 ⟨A, n, c, A', n', c', rfl, kg, b1⟩
  have B1 := Lib.hid (B0.out.trans (show B8 w0 w1 from b1))
  have KGG := Lib.hid kg
  clear b1 kg B0
  go_wp2_with fail
  refine (kg_new (kix_lt x) KGG.out).mono ?_
  rintro e w2 ⟨b, d, rfl, gr, -, -, -, b2, -, -⟩
  have q1 := g8_eq b
  have q2 := gne8 b
  have B2 := Lib.hid (B1.out.trans (show B8 w1 w2 from b2))
  have GR := Lib.hid gr
  clear b2 gr KGG B1
  rcases Nat.lt_or_ge 60 ns with g1 | g1
  · have e1 : decide ((60 : Int) < (ns : Int)) = true := by simp; omega
    go_wp2_with fail
    go_ret
    exact ⟨rfl, B2.out⟩
  have e1 : decide ((60 : Int) < (ns : Int)) = false := by simp; omega
  rcases Nat.lt_or_ge 60 nr with g2 | g2
  · have e2 : decide ((60 : Int) < (nr : Int)) = true := by simp; omega
    go_wp2_with fail
    go_ret
    exact ⟨rfl, B2.out⟩
  have e2 : decide ((60 : Int) < (nr : Int)) = false := by simp; omega
  rcases Nat.lt_or_ge 5000 nb' with g3 | g3
  · have e3 : decide ((5000 : Int) < (nb' : Int)) = true := by simp; omega
    go_wp2_with fail
    go_ret
    exact ⟨rfl, B2.out⟩
  have e3 : decide ((5000 : Int) < (nb' : Int)) = false := by simp; omega
  have lS : dl S ≤ 64 := by have := HS.out.dl_le; omega
  have lR : dl R ≤ 64 := by have := HR.out.dl_le; omega
  have s0 := Lib.hid HS.out.pos
  have r0 := Lib.hid HR.out.pos
  have LB := Lib.hid HB.out.rd.len
  go_wp2_with fail
  clear e1 e2 e3 q2 g1 g2
  refine (gx_base GR.out (B2.out.nm HS.out) lS).mono ?_
  rintro e w3 ⟨Ay, ny, cy, rfl, ky, b3, -⟩
  have D3 := Lib.hid (show B8 w2 w3 from b3)
  have B3 := Lib.hid (B2.out.trans D3.out)
  have KY := Lib.hid ky
  have HB3 := Lib.hid (B3.out.bz HB.out)
  have hrd := ((B8.alloc w3 (.cells #[] 5)).bz HB3.out).rd
  have hown : (w3.alloc (.cells #[] 5)).ownsRow w3.heap.size 5 1 (.slice (some ⟨w3.heap.size, 0, none⟩) 0 0) 0 (([] : List Int).map (Value.int .u8)) := World.ownsRow_lit w3 #[] 0 (Nat.le_refl _) (by unfold maxLen; omega) rfl
  clear b3 ky
  go_wp2_with (at_builtin; refine wpList_cat8 _ rfl _ _ 24 rfl w3.heap.size 5 .u8 Tryd.underlying24 info8u _ _ [] rfl hown _ _ _ bs rfl hrd (by omega) ?hb8 ?_)
  case hb8 => simp
  intro v' w4 hown' hgrow
  have b4 : Below w3.heap.size w3 w4 := own_below ((Below.refl _ _).alloc (Nat.le_refl _) _) hown hgrow (by simp) (Nat.le_refl _)
  have hown2 : w4.ownsRow w3.heap.size 5 1 v' nb' (bs.map (Value.int .u8)) := by simpa using hown'
  obtain ⟨Ao, co, rfl, own⟩ := mn_own hown2
  have D4 := Lib.hid (show B8 w3 w4 from b4)
  have OW := Lib.hid own
  clear hown hgrow hown' hown2 hrd b4 own
  go_wp2_with fail
  refine (close_back (S := S) (R := R) (D4.out.gr (D3.out.gr GR.out)) (D4.out.tabs (B3.out.tabs HT.out)) (D4.out.cn KY.out).nm s0.out (OW.out.bsL HB.out.dig_) (by omega) (D4.out.nm (B3.out.nm HR.out)) lR).mono ?_
  rintro e w5 ⟨Ax, nx, cx, Ah, ch, g, ct, rfl, kr, kb, kt, far, fab, nwa, nwb, hg, b5⟩
  have D5 := Lib.hid (D4.out.trans b5)
  have px := three_box w5 (.slice Ax nx cx) (.slice Ah nb' ch) (.slice (some ⟨g, 0, none⟩) 32 ct) 38
  have bp := B8.alloc w5 (.cells #[.slice Ax nx cx, .slice Ah nb' ch, .slice (some ⟨g, 0, none⟩) 32 ct] 38)
  obtain ⟨w6, hw6⟩ : ∃ w6, w5.alloc (.cells #[.slice Ax nx cx, .slice Ah nb' ch, .slice (some ⟨g, 0, none⟩) 32 ct] 38) = w6 := ⟨_, rfl⟩
  have LT6 := Lib.hid (show w5.heap.size < w6.heap.size by rw [← hw6]; simp)
  rw [hw6] at px bp
  have PX := Lib.hid px
  have KR := Lib.hid (bp.cn kr)
  have KB := Lib.hid (bp.bz kb)
  have KT := Lib.hid (kt.below bp)
  have s45 := b5.sz
  have gl5 := kt.lt _ rfl
  have OWN := Lib.hid (fun a (ha : Ao = some a) => OW.out.lt a ha)
  have NA := Lib.hid (show ∀ a, Ax = some a → a.block < w6.heap.size → ¬ Blk Ao a.block from fun a ha _ hx => by
    obtain ⟨a', ha', e⟩ := hx
    have h1 := nwa a ha
    have h2 := OWN.out a' ha'
    omega)
  have NB := Lib.hid (show ∀ a, Ah = some a → a.block < w6.heap.size → ¬ Blk Ao a.block from fun a ha _ hx => by
    obtain ⟨a', ha', e⟩ := hx
    have h1 := nwb a ha
    have h2 := OWN.out a' ha'
    omega)
  have NT := Lib.hid (show ¬ Blk Ao g from fun hx => by
    obtain ⟨a', ha', e⟩ := hx
    have h2 := OWN.out a' ha'
    omega)
  have NG := Lib.hid (show ¬ Blk Ao w5.heap.size from fun hx => by
    obtain ⟨a', ha', e⟩ := hx
    have h2 := OWN.out a' ha'
    omega)
  have G5 := Lib.hid (show w3.heap.size ≤ g ∧ g < w5.heap.size from ⟨by have := D4.out.sz; omega, gl5⟩)
  have FR := Lib.hid far
  have FB := Lib.hid fab
  have D6 := Lib.hid (D5.out.trans bp)
  have OW6 := Lib.hid ((OW.out.below b5).below bp)
  obtain ⟨T, hTg⟩ : ∃ T, shT d.P d.Q d.G S R bs = T := ⟨_, rfl⟩
  have HTG := Lib.hid hTg
  have TD := Lib.hid (show Dig 256 T by rw [← hTg]; exact shT_dig _ _ _ _ _ _)
  rw [hTg] at KT
  clear kr kb kt far fab nwa nwb hg b5 px bp s45 gl5 hTg KY
  go_wp2_with fail
  clear hw6
  go_loopw [21] (fun i wr => ZrS bs nb' w3.heap.size Ao co w3 w6 i wr) (fun i _ => nb' - (intOf i).toNat)
  case atStart => exact ⟨0, bs, Nat.zero_le _, rfl, OW6.out, fun j _ => rfl, Kept.refl _ _, D6.out⟩
  case round =>
    obtain ⟨k, zs, hk, rfl, hmn, hz, hkp, hbw⟩ := hrel
    have MZ := Lib.hid hmn
    have HZ := Lib.hid hz
    have KP := Lib.hid hkp
    have BW := Lib.hid hbw
    clear hz hkp hbw
    rcases Nat.lt_or_ge k nb' with hlt | hge
    · have hkn : (k : Int) < (nb' : Int) := by omega
      obtain ⟨go, eA, o0, o1⟩ := hmn.plainL (by omega)
      subst eA
      have cz := hmn.cellL hlt
      have fz := hmn.frozenL hlt
      obtain ⟨ba, oa, v, rfl, hba, hbv, hcb⟩ := (BW.out.bz HB3.out).rd.at_ hlt
      have hv := dig_lt hbv
      rw [HZ.out k (Nat.le_refl _), hv] at cz
      have hne : ((v : Int) != v) = false := by simp
      clear hmn hbv hv
      go_wp2_with fail
      go_quiet (fail)
      go_wp2_with fail
      go_roundw
      case rel =>
        refine ⟨k + 1, _, by omega, by go_num, (MZ.out.drewNL _).setL hlt _, fun j hj => ?_, (KP.out.drewNL _).setL ⟨_, rfl, rfl⟩ _ _, Below.setCell (BW.out.trans (B8.drewN _ _)) o0 _⟩
        rw [dig_set_ne (by omega)]; exact HZ.out j (by omega)
      case measure => simp [intOf]; omega
    · obtain rfl : nb' = k := by omega
      have hkn : decide ((nb' : Int) < (nb' : Int)) = false := by simp
      have KRw := Lib.hid (KP.out.cnL KR.out NA.out)
      have KBw := Lib.hid (KP.out.bzL KB.out NB.out)
      have KTw := Lib.hid (KT.out.kept KP.out (fun a ha => by injection ha with ha; subst ha; exact NT.out))
      have x0 := (KP.out.cell (p := ⟨w5.heap.size, 0, none⟩) LT6.out NG.out).trans PX.out.1
      have x1 := (KP.out.cell (p := ⟨w5.heap.size, 1, none⟩) LT6.out NG.out).trans PX.out.2.1
      have x2 := (KP.out.cell (p := ⟨w5.heap.size, 2, none⟩) LT6.out NG.out).trans PX.out.2.2
      have LTw := Lib.hid (show w5.heap.size < wr.heap.size from Nat.lt_of_lt_of_le LT6.out KP.out.size)
      clear hmn
      go_wp2_with fail
      refine (open_yes (nb' := nb') (S := S) (R := R) (bs := bs) (BW.out.gr (D3.out.gr GR.out)) (BW.out.tabs (B3.out.tabs HT.out)) (BW.out.nm (B3.out.nm HS.out)) lS r0.out KRw.out.nm HB.out.dig_ LB.out (by omega) KBw.out (by rw [HTG.out]; exact KTw.out.bsL TD.out)).mono ?_
      rintro e w8 ⟨A8, c8, rfl, k8, b8⟩
      have D8 := Lib.hid (BW.out.trans b8)
      have E8 := Lib.hid b8
      have cv8 := conv_any (c := c8) k8.rd
      have cvb := conv_any (c := cb) (D8.out.bz HB3.out).rd
      have sn := str_eql (strOfNums bs)
      have z0 := (E8.out.cell (o := 0) LTw.out).trans x0
      have z1 := (E8.out.cell (o := 1) LTw.out).trans x1
      have z2 := (E8.out.cell (o := 2) LTw.out).trans x2
      have KT8 := Lib.hid (KTw.out.below E8.out)
      have LT8 := Lib.hid (show w5.heap.size < w8.heap.size from Nat.lt_of_lt_of_le LTw.out E8.out.sz)
      obtain ⟨z, hz⟩ : ∃ z : Int, (if p < 0 then -(p + 1) else p) = z := ⟨_, rfl⟩
      have zb : 0 ≤ z ∧ z ≤ 9223372036854775807 := by have := HP.out; rw [← hz]; split <;> omega
      have HZZ := Lib.hid hz
      have ZB := Lib.hid zb
      clear x0 x1 x2 k8 b8 hz zb
      go_upto_if 134 with fail
      go_cut [4] (fun v wx => v = .int .i64 z ∧ w8 = wx)
      case first =>
        rcases Int.lt_or_le p 0 with h3 | h3
        · have e3 : decide (p < 0) = true := by simp; omega
          have e4 : IntKind.i64.wrap (p + 1) = p + 1 := IntWalk.i64_in _ (by have := HP.out; omega)
          have e5 : IntKind.i64.wrap (-(p + 1)) = -(p + 1) := IntWalk.i64_in _ (by have := HP.out; omega)
          have E6 := Lib.hid (show -(p + 1) = z by rw [← HZZ.out, if_pos h3])
          go_wp2_with fail
          go_meet
          exact ⟨by rw [E6.out], rfl⟩
        · have e3 : decide (p < 0) = false := by simp; omega
          have E6 := Lib.hid (show p = z by rw [← HZZ.out, if_neg (by omega)])
          go_wp2_with fail
          go_meet
          exact ⟨by rw [E6.out], rfl⟩
      case rest =>
      obtain ⟨rfl, rfl⟩ := hcut
      obtain ⟨j, hj⟩ : ∃ j : Nat, z % 32 = (j : Int) := ⟨(z % 32).toNat, by omega⟩
      have j32 : j < 32 := by omega
      have e7 : z.tmod 32 = (j : Int) := by rw [Int.tmod_eq_emod_of_nonneg ZB.out.1]; exact hj
      have e8 : IntKind.i64.wrap (j : Int) = (j : Int) := IntWalk.i64_in _ (by omega)
      have j0 : (j : Int) < 32 := by omega
      have c0 := KT8.out.cellL j32
      have f0 := KT8.out.frozenL j32
      obtain ⟨t, ht⟩ : ∃ t, dig T j = t := ⟨_, rfl⟩
      rw [ht] at c0
      have HTJ := Lib.hid ht
      have TB := Lib.hid (show 0 ≤ t ∧ t < 256 by rw [← ht]; exact d8_bd TD.out j)
      clear ht hj cv8 cvb sn
      go_wp2_with fail
      go_region
      have YB := Lib.hid (xor8_bd t y)
      obtain ⟨y2, hy2⟩ : ∃ y2, bits .xor .u8 t y = y2 := ⟨_, rfl⟩
      have HY2 := Lib.hid hy2
      rw [hy2] at YB ⊢
      have B9 := Lib.hid (show B8 w3 (w8.setCell ⟨g, j, none⟩ (.int .u8 y2)).drew from (show B8 w3 (w8.setCell ⟨g, j, none⟩ (.int .u8 y2)) from Below.setCell D8.out G5.out.1 _).trans (B8.drew _))
      have KR9 := Lib.hid ((B8.drew (w8.setCell ⟨g, j, none⟩ (.int .u8 y2))).cn ((E8.out.cn KRw.out).far8 FR.out (i := j) (.int .u8 y2)))
      have KB9 := Lib.hid ((B8.drew (w8.setCell ⟨g, j, none⟩ (.int .u8 y2))).bz ((E8.out.bz KBw.out).setL FB.out (i := j) (.int .u8 y2)))
      have KT9 := Lib.hid ((KT8.out.setL j32 y2).drewL)
      have hoth : ∀ o, (w8.setCell ⟨g, j, none⟩ (.int .u8 y2)).drew.cell? ⟨w5.heap.size, o, none⟩ = w8.cell? ⟨w5.heap.size, o, none⟩ := fun o => World.cell?_of_block (heap_setCell_other w8 ⟨g, j, none⟩ w5.heap.size (.int .u8 y2) (by have := G5.out.2; show w5.heap.size ≠ g; omega))
      have p0 := (hoth 0).trans z0
      have p1 := (hoth 1).trans z1
      have p2 := (hoth 2).trans z2
      clear hoth z0 z1 z2 c0 f0 hy2 e7 e8
      obtain ⟨W9, hW9⟩ : ∃ W, (w8.setCell ⟨g, j, none⟩ (.int .u8 y2)).drew = W := ⟨_, rfl⟩
      rw [hW9] at B9 KR9 KB9 KT9 p0 p1 p2 ⊢
      clear hW9
      go_wp2_with fail
      refine (open_any (nb' := nb') (S := S) (R := R) (bs := bs) (B9.out.gr (D3.out.gr GR.out)) (B9.out.tabs (B3.out.tabs HT.out)) (B9.out.nm (B3.out.nm HS.out)) lS r0.out KR9.out.nm HB.out.dig_ LB.out (by omega) KB9.out (KT9.out.bsL (set_dig TD.out YB.out))).mono ?_
      rintro e w10 (⟨hT9, A9, c9, rfl, -, b10⟩ | ⟨-, rfl, b10⟩)
      · have Z10 := Lib.hid (B3.out.trans (B9.out.trans b10))
        have hy0 : y = 0 := by
          refine xor8_ne TB.out (by have := HY.out; omega) ?_
          rw [HY2.out]
          have h1 : dig (T.set j y2) j = y2 := dig_set_same (by rw [← HTG.out, shT_len]; exact j32)
          rw [hT9, HTG.out, HTJ.out] at h1
          exact h1.symm
        subst hy0
        have en := eq_nerr10
        clear hT9 b10 p0 p1 p2
        go_wp2_with fail
        go_ret
        exact ⟨rfl, Z10.out⟩
      · have Z10 := Lib.hid (B3.out.trans (B9.out.trans (show B8 _ w10 from b10)))
        have en : ∀ w : World, (binOp .eql 28 (.iface 43 (.int .i64 15)) (.iface 43 (.int .i64 15))).run Tryd.prog w = .ok (.bool true) w := fun w => eq_err8 15 w
        clear b10 p0 p1 p2
        go_wp2_with fail
        go_ret
        exact ⟨rfl, Z10.out⟩
end Go.Proofs.YtjalncdllegfoaaDoor
