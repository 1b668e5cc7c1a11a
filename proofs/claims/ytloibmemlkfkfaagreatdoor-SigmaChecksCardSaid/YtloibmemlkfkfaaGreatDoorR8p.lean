/-
  Several texts in one: R8a, R8b, R8c.
-/
import Derived.Test.YtloibmemlkfkfaaGreatDoorSga
import Derived.Test.YtloibmemlkfkfaaGreatDoorR4
import Derived.Test.YtloibmemlkfkfaaGreatDoorR4M
import Derived.Test.YtloibmemlkfkfaaGreatDoorRFrom
import Derived.Test.YtloibmemlkfkfaaGreatDoorRpa
import Derived.Test.YtloibmemlkfkfaaGreatDoorPkf
import Derived.Deep.RegionLaw
import Derived.Test.YtloibmemlkfkfaaGreatDoorM8
import Derived.Test.YtloibmemlkfkfaaGreatDoorDoc
import Derived.Laws.Tables
import Derived.Test.YtloibmemlkfkfaaGreatDoorR7b
import Derived.Test.YtloibmemlkfkfaaGreatDoorSgb
/-
  The document's layer 8: what Long, Wide, Bytes and Challenge answer.
-/
namespace Go.Proofs.YtloibmemlkfkfaaGreatDoor
open Go.RowKit
set_option linter.unusedVariables false
theorem rn_bel {w w' : World} {A : Option Addr} {n c : Nat} {N : Int} (h : Rn w A n c N) (hb : B8 w w') : Rn w' A n c N := h.below hb
theorem rlimbs8 {w : World} {A : Option Addr} {n c : Nat} {N : Int} (h : Nm w A n c N) :
    Calls Tryz.prog 38 #[.slice A n c] w fun e w' => e = .returned (.int .i64 (dl N : Nat)) ∧ w = w' := by
  obtain ⟨⟨ys, y1, y2, y3⟩, h4, h5, -⟩ := h
  refine (Limbs_any A n c ys w y1 y2 h4 h5).mono fun e w' ⟨he, hw⟩ => ⟨?_, hw⟩
  subst y3
  exact he
theorem rlong_any {w : World} {A : Option Addr} {n c : Nat} {N : Int} (h : Nm w A n c N) :
    Calls Tryz.prog 44 #[.slice A n c] w fun e w' => e = .returned (.bool (decide (64 < dl N))) ∧ w = w' := by
  go_enter Tryz.func44, Tryz.ntmps44
  go_wp2_with fail
  refine (rlimbs8 h).mono ?_
  rintro e w1 ⟨rfl, rfl⟩
  go_wp2_with fail
  go_ret
  refine ⟨congrArg (fun q => Ending.returned (.bool q)) ?_, rfl⟩
  rw [decide_eq_decide]
  omega
section
variable {w : World} {b k : Nat} {r : Rgd} {A : Option Addr} {n c : Nat} {X : Int}
theorem rwide_any (h : Rg w b r k) (lp : r.nP ≤ 300) : Calls Tryz.prog 118 #[.pointer (some ⟨b, 0, none⟩)] w fun e w' => e = .returned (.int .i64 ((nb r.P + 7) / 8 : Nat)) ∧ w = w' := by
  have q0 := h.c0
  have HP := Lib.hid h.p
  have hnb : nb r.P ≤ 100000 := by
    have h1 := h.p.len_
    have h2 := dl_dr h.p.pos
    have h3 := nb_le h.p.pos
    omega
  clear h
  go_enter Tryz.func118, Tryz.ntmps118
  go_wp2_with fail
  refine (rbits_any HP.out (by omega)).mono ?_
  rintro e w1 ⟨rfl, rfl⟩
  go_wp2_with fail
  go_ret
  exact ⟨by go_num, rfl⟩
theorem rby8_any (h : Rg w b r k) (lp : r.nP ≤ 300) {l : Nat} (hl : (nb r.P + 7) / 8 = l) (l3 : l ≤ 1024) (ha : Rn w A n c X) (hn : n ≤ 100000) :
    Calls Tryz.prog 81 #[.pointer (some ⟨b, 0, none⟩), .slice A n c] w (TobP X l w) := by
  have HL := Lib.hid hl
  have HA := Lib.hid ha
  have HG := Lib.hid h
  clear hl ha h
  go_enter Tryz.func81, Tryz.ntmps81
  go_wp2_with fail
  refine (rwide_any HG.out lp).mono ?_
  rintro e w1 ⟨rfl, rfl⟩
  rw [HL.out]
  go_wp2_with fail
  refine (rbytes_any HA.out hn l l3).mono ?_
  rintro e w2 ⟨rfl, hr, hb⟩
  have HR := Lib.hid hr
  have HB := Lib.hid hb
  clear hr hb
  go_wp2_with fail
  go_ret
  exact ⟨rfl, HR.out, HB.out⟩
end
/-! ### Lists of the document's numbers -/
structure Rs8 (w : World) (a : Option Addr) (n c : Nat) (S : Nat → Nsl) : Prop where
  c60 : n ≤ 16
  ex : 0 < n → ∃ b off, a = some ⟨b, off, none⟩ ∧ b < w.heap.size ∧ ∀ i, i < n → w.cell? ⟨b, off + i, none⟩ = some (.slice (S i).A (S i).n (S i).c)
  at_ : ∀ i, i < n → Rn w (S i).A (S i).n (S i).c (S i).N ∧ (S i).n ≤ 100000
theorem Rs8.below {w w' : World} {a : Option Addr} {n c : Nat} {S : Nat → Nsl} (h : Rs8 w a n c S) (hb : Below w.heap.size w w') : Rs8 w' a n c S :=
  ⟨h.c60, fun hn => by
    obtain ⟨b, off, e, hl, hc⟩ := h.ex hn
    exact ⟨b, off, e, Nat.lt_of_lt_of_le hl hb.size, fun i hi => (hb.cell (p := ⟨b, _, none⟩) hl).trans (hc i hi)⟩, fun i hi => ⟨(h.at_ i hi).1.below hb, (h.at_ i hi).2⟩⟩
theorem rs_lit {w : World} (L : List Nsl) (h : ∀ s ∈ L, Rn w s.A s.n s.c s.N ∧ s.n ≤ 100000) (hn : L.length ≤ 16) (t : TypeId) {g : Nat} (hg : w.heap.size = g) {n : Nat} (hL : L.length = n) :
    Rs8 (w.alloc (.cells (L.map Nsl.v).toArray t)) (some ⟨g, 0, none⟩) n n (lstN L) := by
  subst hg hL
  refine ⟨hn, fun _ => ⟨w.heap.size, 0, rfl, by simp, fun i hi => ?_⟩, fun i hi => ?_⟩
  · rw [Nat.zero_add, World.cell?_alloc_at]
    · simp [lstN, hi, Nsl.v]
    · rfl
  · have e : lstN L i = L[i] := by simp [lstN, hi]
    rw [e]
    exact ⟨(h _ (List.getElem_mem hi)).1.below (below_al _ _), (h _ (List.getElem_mem hi)).2⟩
theorem rows8 {w : World} {b k : Nat} {r : Rgd} (h : Rg w b r k) : w.cell? ⟨b, 1, none⟩ = some (.slice r.AQ r.nQ r.cQ) := h.c1
theorem size126 : (Tryz.prog.info? 126).map (·.size) = some 2 := by kernel_rfl
theorem tb_box (w : World) (x y : Value) : (w.alloc (.cells #[x, y] 126)).cell? ⟨w.heap.size, 0, none⟩ = some x ∧ (w.alloc (.cells #[x, y] 126)).cell? ⟨w.heap.size, 1, none⟩ = some y := by
  constructor <;> simp [World.cell?_alloc_at]
set_option maxHeartbeats 8000000 in
set_option maxRecDepth 100000 in
theorem rchal_any {w : World} {b k : Nat} {r : Rgd} (h : Rg w b r k) (lp : r.nP ≤ 300) (lq : r.nQ ≤ 300) (q0 : 0 < r.Q) (hnb : nb r.P ≤ 4096) (s : ByteArray) (hs : s.size ≤ 100) {Ac : Option Addr} {nc cc : Nat} {ctx : List Int} (hc : Bz w Ac nc ctx) (hnc : nc ≤ 500)
    {A : Option Addr} {n c : Nat} {E : Nat → Nsl} (hE : Rs8 w A n c E) :
    Calls Tryz.prog 45 #[.pointer (some ⟨b, 0, none⟩), .string s, .slice Ac nc cc, .slice A n c] w (AnsN (chl r.P r.Q (strB s) ctx (fun i => (E i).N) n) w) := by
  have HG := Lib.hid h
  have HC := Lib.hid hc
  have HE := Lib.hid hE
  have Q0 := Lib.hid q0
  have hn := hE.c60
  obtain ⟨l, hl⟩ : ∃ l, (nb r.P + 7) / 8 = l := ⟨_, rfl⟩
  have k1 : l ≤ 1000 := by omega
  have HK := Lib.hid hl
  have NB := Lib.hid hnb
  have LC := Lib.hid hc.rd.len
  obtain ⟨Wc, cap, hcv, hlab, bc, hsz⟩ := conv_str s w
  have B1c := Lib.hid (show B8 w Wc from bc)
  have hctx : Bz Wc Ac nc ctx := HC.out.below bc
  have hbase : w.heap.size ≤ Wc.heap.size := bc.size
  have OW := Lib.hid (owg_two (c1 := cap) (c2 := cc) hlab hctx hbase)
  rw [hsz] at OW
  have BA := Lib.hid (B1c.out.trans (B8.alloc Wc (.cells #[.slice (some ⟨w.heap.size, 0, none⟩) s.size cap, .slice Ac nc cc] 22)))
  clear h hc hE q0 hl hnb hlab bc hctx
  go_enter Tryz.func45, Tryz.ntmps45
  go_wp2_with fail
  clear hcv
  go_loopw [9, 10] (fun v i wr => ChR r.P (strB s) ctx (fun i => (E i).N) n w v i wr) (fun _ i _ => n - (intOf i).toNat)
  case atStart => exact ⟨0, _, Nat.zero_le _, rfl, OW.out, rfl, rfl, fun p hp => absurd hp (Nat.not_lt_zero p), BA.out⟩
  case round =>
    obtain ⟨j, S, hj, rfl, hown, hS0, hS1, hS2, hb⟩ := hrel
    have HO := Lib.hid hown
    have HB := Lib.hid hb
    have HS := Lib.hid (And.intro hS0 (And.intro hS1 hS2))
    clear hown hb hS0 hS1 hS2
    rcases Nat.lt_or_ge j n with hlt | hge
    · have hjn : (j : Int) < (n : Int) := by omega
      have hE2 := HE.out.below HB.out
      obtain ⟨be, off, rfl, hbe, hce⟩ := hE2.ex (by omega)
      have hcj := hce j hlt
      have HN := Lib.hid (hE2.at_ j hlt)
      clear hE2 hce
      go_wp2_with fail
      refine (rby8_any (HG.out.below HB.out) lp HK.out (by omega) HN.out.1 HN.out.2).mono ?_
      rintro e u ⟨rfl, hrow, hu⟩
      have szu := hu.size
      have szb := HB.out.size
      have hlt2 : wr.heap.size < u.heap.size := hrow.lt
      have rdu : Bz u (some ⟨wr.heap.size, 0, none⟩) l (bytesL (E j).N l) := ⟨rowAll hrow (bytesL_len _ _), bytesL_d⟩
      have lk := bytesL_len (E j).N l
      have hcell := one_at8 u (.slice (some ⟨wr.heap.size, 0, none⟩) l l) 22
      have U1 := Lib.hid (show (u.alloc (.cells #[.slice (some ⟨wr.heap.size, 0, none⟩) l l] 22)).cell? ⟨u.heap.size, 0, none⟩ = some (kBy.v ⟨some ⟨wr.heap.size, 0, none⟩, l, bytesL (E j).N l⟩) by
        rw [hcell]; show _ = some (Value.slice _ (bytesL (E j).N l).length l); rw [lk])
      have U2 := Lib.hid (show kBy.At (u.alloc (.cells #[.slice (some ⟨wr.heap.size, 0, none⟩) l l] 22)) ⟨some ⟨wr.heap.size, 0, none⟩, l, bytesL (E j).N l⟩ by
        show Bz _ _ (bytesL (E j).N l).length _; rw [lk]; exact rdu.alloc _)
      have U3 := Lib.hid (show ∀ b, kBy.Bl ⟨some ⟨wr.heap.size, 0, none⟩, l, bytesL (E j).N l⟩ b → u9.ownBlock ≠ some b from fun b hb' => by
        obtain ⟨a, ea, -, rfl⟩ := hb'
        injection ea with ea
        subst ea
        exact HO.out.far (Nat.le_refl _))
      have O1 := Lib.hid ((HO.out.below hu).below (below_al u (.cells #[.slice (some ⟨wr.heap.size, 0, none⟩) l l] 22)))
      have hb5 : w.heap.size ≤ (u.alloc (.cells #[.slice (some ⟨wr.heap.size, 0, none⟩) l l] 22)).heap.size := by simp; omega
      have BU := Lib.hid ((HB.out.trans (hu.mono HB.out.size)).trans ((below_al u (.cells #[.slice (some ⟨wr.heap.size, 0, none⟩) l l] 22)).mono (Nat.le_trans szb szu)))
      clear hrow hu rdu lk hcell
      go_wp2_with (at_builtin; refine wpList_owg rfl (.tmp 22) (.tmp 29) 119 rfl w.heap.size 22 24 (.slice none 0 0) Tryz.underlying119 info8by rfl _ (j + 2) 1 S ⟨some ⟨wr.heap.size, 0, none⟩, l, bytesL (E j).N l⟩ rfl O1.out u.heap.size rfl U1.out U2.out U3.out (by unfold maxLen; omega) (by omega) hb5 ?_)
      intro vz wz hownz hgz
      have HOZ := Lib.hid hownz
      have BZ := Lib.hid (BU.out.grown hgz hb5 (fun b e => (HO.out.lt e).1))
      clear hownz hgz hb5
      go_wp2_with fail
      go_roundw
      case rel =>
        refine ⟨j + 1, _, by omega, by go_num, HOZ.out, ?_, ?_, fun p hp => ?_, BZ.out⟩
        · rw [snocG_lt (by omega)]; exact HS.out.1
        · rw [snocG_lt (by omega)]; exact HS.out.2.1
        · rcases Nat.lt_or_ge p j with g | g
          · rw [snocG_lt (by omega)]; exact HS.out.2.2 p g
          · obtain rfl : p = j := by omega
            rw [snocG_at, HK.out]
      case measure => simp [intOf]; omega
    · obtain rfl : j = n := by omega
      have hjn : decide ((j : Int) < (j : Int)) = false := by simp
      obtain ⟨Ap, cp, rfl, -, hpts⟩ := HO.out.pts
      rw [chR_parts HS.out.1 HS.out.2.1 HS.out.2.2] at hpts
      have HP := Lib.hid hpts
      clear hpts
      go_wp2_with fail
      refine (made_walk wr).mono ?_
      rintro e u0 ⟨AK, cK, AH, cH, rfl, hK, hH, c0⟩
      have ba := B8.alloc u0 (.cells #[.slice AK 64 cK, .slice AH 8 cH] 126)
      have px := tb_box u0 (.slice AK 64 cK) (.slice AH 8 cH)
      obtain ⟨W1, hW1⟩ : ∃ W1, u0.alloc (.cells #[.slice AK 64 cK, .slice AH 8 cH] 126) = W1 := ⟨_, rfl⟩
      have sp : u0.heap.size < W1.heap.size := by rw [← hW1]; simp
      rw [hW1] at ba px
      have bd := ba.trans (B8.drew W1)
      have C0 := Lib.hid (show B8 w W1.drew from (show B8 w wr from HB.out).trans ((show B8 wr u0 from c0).trans bd))
      have HP1 := Lib.hid (HP.out.below ((show B8 wr u0 from c0).trans bd))
      have HK1 := Lib.hid (hK.below bd)
      have HH1 := Lib.hid (hH.below bd)
      have SP := Lib.hid (show u0.heap.size < W1.drew.heap.size from sp)
      have PX := Lib.hid (show W1.drew.cell? ⟨u0.heap.size, 0, none⟩ = some (.slice AK 64 cK) ∧ W1.drew.cell? ⟨u0.heap.size, 1, none⟩ = some (.slice AH 8 cH) from px)
      have G1 := Lib.hid (HG.out.below C0.out)
      have t0 := PX.out.1
      have t1 := PX.out.2
      have v1 := G1.out.c1
      have LTB := Lib.hid G1.out.lt
      clear hK hH c0 ba px sp bd HP
      go_wp2_with fail
      clear hW1
      go_region_law (first
        | (go_simp; go_at_call 85; (with_reducible refine (rparts_any HK1.out HH1.out HP1.out (by
            have := chP_len (P := r.P) (lab := strB s) (ctx := ctx) (E := fun i => (E i).N) (n := j) (by rw [strB_len]; exact hs) NB.out hn
            have := LC.out; omega) (by omega) (chP_dig (strB_dig s) HC.out.dig_)).mono ?_); rintro e u1 ⟨p1, rfl, ho1, c1⟩; obtain ⟨A1, c1', rfl, hr1, -, -⟩ := ho1.rd; rw [parts_l] at hr1 ⊢; have C1 := Lib.hid (C0.out.trans (show B8 _ u1 from c1)); have HR1 := Lib.hid hr1; have f1 := (C1.out.cell (o := 1) HG.out.lt).trans HG.out.c1; clear hr1 c1 ho1)
        | (go_simp; go_at_call 84; (with_reducible refine (rfrom_any HR1.out (parts_d _) (by omega)).mono ?_); rintro e u2 ⟨A2, m2, c2, rfl, k2, c2'⟩; have C2 := Lib.hid (C1.out.trans (show B8 _ u2 from c2')); have K2 := Lib.hid k2; have f2 := (C2.out.cell (o := 1) HG.out.lt).trans HG.out.c1; have L2 := Lib.hid (show m2 ≤ 1000 by
            have h1 := k2.len_
            have h2 := dr_pow (pv_bd (parts_d (chP r.P (strB s) ctx (fun i => (E i).N) j)) 32).1 (pv_bd (parts_d (chP r.P (strB s) ctx (fun i => (E i).N) j)) 32).2 (by omega)
            omega); clear k2 c2')
        | (go_simp; go_at_call 83; (with_reducible refine (rrest_any K2.out (rn_bel HG.out.q C2.out) L2.out (by omega) Q0.out).mono ?_); rintro e u3 ⟨A3, m3, c3, rfl, k3, c3'⟩; have C3 := Lib.hid (C2.out.trans (show B8 _ u3 from c3')); have K3 := Lib.hid k3; clear k3 c3'))
      all_goals
        go_wp2_with fail
        go_ret
        refine ⟨A3, m3, c3, rfl, ?_, C3.out⟩
        have h := K3.out
        rw [pv_all] at h
        exact h
end Go.Proofs.YtloibmemlkfkfaaGreatDoor
/-
  The document's layer 8: what answer and Know answer.
-/
namespace Go.Proofs.YtloibmemlkfkfaaGreatDoor
open Go.RowKit
set_option linter.unusedVariables false
/-! ### Codes, and answers in one form -/
open Classical in
noncomputable def knwC (lg : Prop) : Int := if lg then 2 else 0
open Classical in
noncomputable def eqlC (lg el : Prop) : Int := if lg then 2 else if el then 0 else 8
open Classical in
noncomputable def chkC (lg el ok : Prop) : Int := if lg then 2 else if el then (if ok then 0 else 7) else 8
/-- What a proof's number is, where something is amiss. -/
def okN (code N : Int) : Int := if code = 0 then N else 0
/-- A proof and an error. -/
def PrfV (code E Z : Int) (w : World) (e : Ending) (w' : World) : Prop :=
  ∃ A1 n1 c1 A2 n2 c2 v, e = .returned (.tuple #[.agg #[.slice A1 n1 c1, .slice A2 n2 c2], v]) ∧ ErV v code ∧ Cn w' A1 n1 c1 (okN code E) ∧ Cn w' A2 n2 c2 (okN code Z) ∧ B8 w w'
/-- The document's: a proof and a number. -/
def DocV (code E Z : Int) (w : World) (e : Ending) (w' : World) : Prop :=
  ∃ A1 n1 c1 A2 n2 c2, e = .returned (.tuple #[.agg #[.slice A1 n1 c1, .slice A2 n2 c2], .int .i64 code]) ∧ Cn w' A1 n1 c1 (okN code E) ∧ Cn w' A2 n2 c2 (okN code Z) ∧ B8 w w'
theorem PrfA.v {E Z : Int} {w w' : World} {e : Ending} (h : PrfA E Z w e w') : PrfV 0 E Z w e w' := by
  obtain ⟨A1, n1, c1, A2, n2, c2, rfl, h1, h2, h3, -, -⟩ := h
  exact ⟨A1, n1, c1, A2, n2, c2, _, rfl, .inl ⟨rfl, rfl⟩, h1, h2, h3⟩
theorem PrfE.v {code E Z : Int} {w w' : World} {e : Ending} (h : PrfE code w e w') (h1 : 1 ≤ code) (h2 : code ≤ 15) : PrfV code E Z w e w' := by
  obtain ⟨rfl, hb⟩ := h
  have e0 : ∀ N, okN code N = 0 := fun N => if_neg (by omega)
  refine ⟨none, 0, 0, none, 0, 0, _, rfl, .inr ⟨⟨h1, h2⟩, rfl⟩, ?_, ?_, hb⟩
  · rw [e0]; exact Cn.nil _
  · rw [e0]; exact Cn.nil _
theorem doc_no {code E Z : Int} (hc : code ≠ 0) {w w' : World} {e : Ending} (he : e = .returned (.tuple #[.agg #[.slice none 0 0, .slice none 0 0], .int .i64 code])) (hb : B8 w w') : DocV code E Z w e w' := by
  have e0 : ∀ N, okN code N = 0 := fun N => if_neg hc
  refine ⟨none, 0, 0, none, 0, 0, he, ?_, ?_, hb⟩
  · rw [e0]; exact Cn.nil _
  · rw [e0]; exact Cn.nil _
section
variable {w : World} {b k : Nat} {r : Rgd} {A A' Ak Ac Ae Az : Option Addr} {n c n' c' nk ck nc cc ne ce nz cz : Nat} {X Y E S K Z : Int} {ctx : List Int}
theorem Rg.n3 {w w' : World} {b k : Nat} {r : Rgd} (h : Rg w b r k) (lp : r.nP ≤ 300) {A : Option Addr} {n c : Nat} {X : Int} (hx : Rn w' A n c X) (hlt : X < r.P) : n ≤ 300 := by
  have h1 := hx.len_
  have h2 := h.p.len_
  have h3 := dr_mono hx.pos (Int.le_of_lt hlt)
  omega
theorem Rg.q3 {w w' : World} {b k : Nat} {r : Rgd} (h : Rg w b r k) (lq : r.nQ ≤ 300) {A : Option Addr} {n c : Nat} {X : Int} (hx : Rn w' A n c X) (hlt : X < r.Q) : n ≤ 300 := by
  have h1 := hx.len_
  have h2 := h.q.len_
  have h3 := dr_mono hx.pos (Int.le_of_lt hlt)
  omega
theorem dr_add8 {N M : Int} (h0 : 0 ≤ N) (h1 : 0 ≤ M) {m : Nat} (a : dr N ≤ m) (b : dr M ≤ m) : dr (N + M) ≤ m + 1 := by
  refine dg_len_le D_two (by omega) ?_
  have h2 := dg_lt_pow D_two h0 a
  have h3 := dg_lt_pow D_two h1 b
  have c : D ^ (m + 1) = D ^ m * D := Int.pow_succ _ _
  rw [c]
  have d : D ^ m * 2 ≤ D ^ m * D := Int.mul_le_mul_of_nonneg_left (by decide) (by omega)
  omega
/-! ### answer -/
set_option maxHeartbeats 4000000 in
set_option maxRecDepth 100000 in
theorem ranswer_new (h : Rg w b r k) (lq : r.nQ ≤ 300) (q0 : 0 < r.Q) (he : Rn w A n c E) (ne' : n ≤ 300) (hs : Rn w A' n' c' S) (ns : n' ≤ 256) (hk : Rn w Ak nk ck K) (nk' : nk ≤ 256) :
    Calls Tryz.prog 47 #[.pointer (some ⟨b, 0, none⟩), .slice A n c, .slice A' n' c', .slice Ak nk ck] w
      (fun e w' => ∃ A1 n1 c1 A2 n2 c2, e = .returned (.agg #[.slice A1 n1 c1, .slice A2 n2 c2]) ∧ Cn w' A1 n1 c1 E ∧ Cn w' A2 n2 c2 (respN r.Q E S K) ∧ (∀ a, A1 = some a → w.heap.size ≤ a.block) ∧ (∀ a, A2 = some a → w.heap.size ≤ a.block) ∧ B8 w w') := by
  have Q0 := Lib.hid q0
  have L1 := Lib.hid he.len_
  have L2 := Lib.hid hs.len_
  have L3 := Lib.hid hk.len_
  have B0 := Lib.hid (B8.alloc w (.cells #[.slice none 0 0, .slice none 0 0] 33))
  have R0 := Lib.hid (heap_alloc_new w (.cells #[.slice none 0 0, .slice none 0 0] 33))
  have LT := Lib.hid (show w.heap.size < (w.alloc (.cells #[.slice none 0 0, .slice none 0 0] 33)).heap.size by simp)
  obtain ⟨w0, hw0⟩ : ∃ w0, w.alloc (.cells #[.slice none 0 0, .slice none 0 0] 33) = w0 := ⟨_, rfl⟩
  rw [hw0] at B0 R0 LT
  have HG := Lib.hid (h.below B0.out)
  have HE := Lib.hid (he.below B0.out)
  have HS := Lib.hid (hs.below B0.out)
  have HK := Lib.hid (hk.below B0.out)
  have BD := Lib.hid (B8.drew w0)
  have v1 := (BD.out.cell (o := 1) HG.out.lt).trans HG.out.c1
  clear h he hs hk q0
  go_enter Tryz.func47, Tryz.ntmps47
  go_wp2_with fail
  go_region_law (first
    | (go_simp; go_at_call 83; (with_reducible refine (rrest_any K2.out (rn_bel HG.out.q C2.out) N2.out (by omega) Q0.out).mono ?_); rintro e u3 ⟨D3, m3, d3, rfl, k3, b3⟩; have C3 := Lib.hid (C2.out.trans (show B8 _ u3 from b3)); have K3 := Lib.hid k3; clear k3 b3)
    | (go_simp; go_at_call 28; (with_reducible refine (radd_any (rn_bel HK.out C1.out) K1.out (by omega) (by have := N1.out; omega)).mono ?_); rintro e u2 ⟨D2, m2, d2, rfl, k2, b2⟩; have C2 := Lib.hid (C1.out.trans (show B8 _ u2 from b2)); have K2 := Lib.hid k2; have N2 := Lib.hid (show m2 ≤ 1000 by
        have h1 := k2.len_
        have h4 := L3.out
        have h5 := N1.out
        have h6 := K1.out.len_
        have h2 := dr_add8 HK.out.pos K1.out.pos (m := 556) (by omega) (by omega)
        omega); have f2 := (C2.out.cell (o := 1) HG.out.lt).trans HG.out.c1; clear k2 b2)
    | (go_simp; go_at_call 74; (with_reducible refine (rmul_any (rn_bel HE.out BD.out) (rn_bel HS.out BD.out) (by omega) (by omega)).mono ?_); rintro e u1 ⟨D1, m1, d1, rfl, k1, b1⟩; have C1 := Lib.hid (BD.out.trans (show B8 _ u1 from b1)); have K1 := Lib.hid k1; have N1 := Lib.hid (show m1 ≤ 556 by
        have h1 := k1.len_
        have h3 := dr_mul HE.out.pos HS.out.pos
        have h4 := L1.out; have h5 := L2.out
        omega); have f1 := (C1.out.cell (o := 1) HG.out.lt).trans HG.out.c1; clear k1 b1))
  all_goals
    clear v1 f1 f2
    have N3 := Lib.hid (show m3 ≤ 100000 by
      have h1 := HG.out.q3 lq K3.out (Int.emod_lt_of_pos _ Q0.out)
      omega)
    go_wp2_with fail
    refine (to_new8 (rn_bel HE.out C3.out) (by omega)).mono ?_
    rintro e u4 ⟨D4, m4, d4, rfl, k4, n4, b4⟩
    have C4 := Lib.hid (C3.out.trans b4)
    have K4 := Lib.hid k4
    have K3b := Lib.hid (K3.out.below b4)
    have z3 := C3.out.sz
    have N4 := Lib.hid (show ∀ a, D4 = some a → w.heap.size < a.block from fun a ha => by
      have h1 := n4 a ha
      have h2 := LT.out
      omega)
    clear k4 n4 b4 z3 K3
    go_wp2_with fail
    refine (to_new8 K3b.out N3.out).mono ?_
    rintro e u5 ⟨D5, m5, d5, rfl, k5, n5, b5⟩
    have C5 := Lib.hid (C4.out.trans b5)
    have K4b := Lib.hid (b5.cn K4.out)
    have K5 := Lib.hid k5
    have z4 := C4.out.sz
    have N5 := Lib.hid (show ∀ a, D5 = some a → w.heap.size < a.block from fun a ha => by
      have h1 := n5 a ha
      have h2 := LT.out
      omega)
    have ROW := Lib.hid ((C5.out.row LT.out).trans R0.out)
    clear k5 n5 b5 z4
    have y0 : u5.cell? ⟨w.heap.size, 0, none⟩ = some (.slice none 0 0) := cell_of_row u5 _ 0 _ _ _ ROW.out
    have y1 : u5.cell? ⟨w.heap.size, 1, none⟩ = some (.slice none 0 0) := cell_of_row u5 _ 1 _ _ _ ROW.out
    have z0 := frozen_of_row u5 w.heap.size 0 _ _ ROW.out
    have z1 := frozen_of_row u5 w.heap.size 1 _ _ ROW.out
    go_wp2_with fail
    refine bodyPost_ret (v := .agg #[.slice D4 m4 d4, .slice D5 m5 d5]) (results_cell_row Tryz.results47 _ _ w.heap.size _ _ _ _ rfl (two_row ROW.out) Tryz.underlying33 rfl sizePf) rfl ?_
    exact ⟨D4, m4, d4, D5, m5, d5, rfl, K4b.out.set2 (fun a ha _ => Nat.ne_of_gt (N4.out a ha)) _ _, K5.out.set2 (fun a ha _ => Nat.ne_of_gt (N5.out a ha)) _ _, fun a ha => Nat.le_of_lt (N4.out a ha), fun a ha => Nat.le_of_lt (N5.out a ha), (B0.out.trans C5.out).set2 (Nat.le_refl _) _ _⟩
end
end Go.Proofs.YtloibmemlkfkfaaGreatDoor
/-
  The document's layer 8: what back answers.
-/
namespace Go.Proofs.YtloibmemlkfkfaaGreatDoor
open Go.RowKit
set_option linter.unusedVariables false
/-- A group of the document's, and how long its numbers are. -/
structure Rg8 (w : World) (b k : Nat) (r : Rgd) : Prop extends Rg7 w b r k where
  nbP : nb r.P ≤ 4096
theorem Rg8.bel {w w' : World} {b k : Nat} {r : Rgd} (h : Rg8 w b k r) (hb : B8 w w') : Rg8 w' b k r := ⟨h.toRg7.below hb, h.nbP⟩
theorem Rg8.gP {w : World} {b k : Nat} {r : Rgd} (h : Rg8 w b k r) : r.G < r.P := h.el.2.1
theorem Rg8.p0 {w : World} {b k : Nat} {r : Rgd} (h : Rg8 w b k r) : 0 < r.P := by have := h.safe.p2; omega
theorem Rg8.q0 {w : World} {b k : Nat} {r : Rgd} (h : Rg8 w b k r) : 0 < r.Q := by have := h.safe.q3; omega
section
variable {w : World} {b k : Nat} {r : Rgd} {A A' Ak Ac Ae Az : Option Addr} {n c n' c' nk ck nc cc ne ce nz cz : Nat} {X Y E S K Z : Int} {ctx : List Int}
theorem gx_ltP {P Q g s : Int} (hP : 0 < P) : gx P Q g s < P := Int.emod_lt_of_pos _ hP
theorem iv_ltP {P Q g : Int} (hP : 0 < P) : iv P Q g < P := Int.emod_lt_of_pos _ hP
theorem back_ltP {P Q a y z e : Int} (hP : 0 < P) : backE P Q a y z e < P := Int.emod_lt_of_pos _ hP
theorem dr_sc {N : Int} {m : Nat} (h0 : 0 ≤ N) (h : dl N ≤ 64) : dr N ≤ 256 := dr_nm h0 h
theorem rchal2 (h : Rg8 w b k r) (s : ByteArray) (hs : s.size ≤ 100) (hc : Bz w Ac nc ctx) (hnc : nc ≤ 500) (h1 : Rn w A n c X) (m1 : n ≤ 100000) (h2 : Rn w A' n' c' Y) (m2 : n' ≤ 100000) :
    Calls Tryz.prog 45 #[.pointer (some ⟨b, 0, none⟩), .string s, .slice Ac nc cc, .slice (some ⟨w.heap.size, 0, none⟩) 2 2] (w.alloc (.cells #[.slice A n c, .slice A' n' c'] 61))
      (AnsN (chl r.P r.Q (strB s) ctx (lsI [X, Y]) 2) (w.alloc (.cells #[.slice A n c, .slice A' n' c'] 61))) := by
  have B0 := (B8.alloc w (.cells #[.slice A n c, .slice A' n' c'] 61))
  have e : chl r.P r.Q (strB s) ctx (fun i => (lstN [⟨A, n, c, X⟩, ⟨A', n', c', Y⟩] i).N) 2 = chl r.P r.Q (strB s) ctx (lsI [X, Y]) 2 := chl_congr (fun i hi => lst_ls [⟨A, n, c, X⟩, ⟨A', n', c', Y⟩] i hi)
  rw [← e]
  exact rchal_any (cc := cc) ((h.bel B0).toRg) h.lp h.lq h.q0 h.nbP s hs (B0.bz hc) hnc (rs_lit [⟨A, n, c, X⟩, ⟨A', n', c', Y⟩] (fun s hs => by
    rcases List.mem_cons.1 hs with rfl | hs
    · exact ⟨h1, m1⟩
    · rw [List.mem_singleton] at hs; subst hs; exact ⟨h2, m2⟩) (by simp) _ rfl rfl)
theorem rchal2d (h : Rg8 w b k r) (s : ByteArray) (hs : s.size ≤ 100) (hc : Bz w Ac nc ctx) (hnc : nc ≤ 500) (h1 : Rn w A n c X) (m1 : n ≤ 100000) (h2 : Rn w A' n' c' Y) (m2 : n' ≤ 100000) :
    Calls Tryz.prog 45 #[.pointer (some ⟨b, 0, none⟩), .string s, .slice Ac nc cc, .slice (some ⟨w.heap.size, 0, none⟩) 2 2] (w.alloc (.cells #[.slice A n c, .slice A' n' c'] 61)).drew
      (AnsN (chl r.P r.Q (strB s) ctx (lsI [X, Y]) 2) (w.alloc (.cells #[.slice A n c, .slice A' n' c'] 61)).drew) := by
  have B0 := (B8.alloc w (.cells #[.slice A n c, .slice A' n' c'] 61)).trans (B8.drew _)
  have e : chl r.P r.Q (strB s) ctx (fun i => (lstN [⟨A, n, c, X⟩, ⟨A', n', c', Y⟩] i).N) 2 = chl r.P r.Q (strB s) ctx (lsI [X, Y]) 2 := chl_congr (fun i hi => lst_ls [⟨A, n, c, X⟩, ⟨A', n', c', Y⟩] i hi)
  rw [← e]
  exact rchal_any (cc := cc) ((h.bel B0).toRg) h.lp h.lq h.q0 h.nbP s hs (B0.bz hc) hnc (Rs8.below (rs_lit [⟨A, n, c, X⟩, ⟨A', n', c', Y⟩] (fun s hs => by
    rcases List.mem_cons.1 hs with rfl | hs
    · exact ⟨h1, m1⟩
    · rw [List.mem_singleton] at hs; subst hs; exact ⟨h2, m2⟩) (by simp) _ rfl rfl) (B8.drew _))
theorem rchal5 (h : Rg8 w b k r) (s : ByteArray) (hs : s.size ≤ 100) (hc : Bz w Ac nc ctx) (hnc : nc ≤ 500) {A1 A2 A3 A4 A5 : Option Addr} {n1 c1 n2 c2 n3 c3 n4 c4 n5 c5 : Nat} {X1 X2 X3 X4 X5 : Int} (h1 : Rn w A1 n1 c1 X1) (m1 : n1 ≤ 100000) (h2 : Rn w A2 n2 c2 X2) (m2 : n2 ≤ 100000) (h3 : Rn w A3 n3 c3 X3) (m3 : n3 ≤ 100000) (h4 : Rn w A4 n4 c4 X4) (m4 : n4 ≤ 100000) (h5 : Rn w A5 n5 c5 X5) (m5 : n5 ≤ 100000) :
    Calls Tryz.prog 45 #[.pointer (some ⟨b, 0, none⟩), .string s, .slice Ac nc cc, .slice (some ⟨w.heap.size, 0, none⟩) 5 5] (w.alloc (.cells #[.slice A1 n1 c1, .slice A2 n2 c2, .slice A3 n3 c3, .slice A4 n4 c4, .slice A5 n5 c5] 61))
      (AnsN (chl r.P r.Q (strB s) ctx (lsI [X1, X2, X3, X4, X5]) 5) (w.alloc (.cells #[.slice A1 n1 c1, .slice A2 n2 c2, .slice A3 n3 c3, .slice A4 n4 c4, .slice A5 n5 c5] 61))) := by
  have B0 := (B8.alloc w (.cells #[.slice A1 n1 c1, .slice A2 n2 c2, .slice A3 n3 c3, .slice A4 n4 c4, .slice A5 n5 c5] 61))
  have e : chl r.P r.Q (strB s) ctx (fun i => (lstN [⟨A1, n1, c1, X1⟩, ⟨A2, n2, c2, X2⟩, ⟨A3, n3, c3, X3⟩, ⟨A4, n4, c4, X4⟩, ⟨A5, n5, c5, X5⟩] i).N) 5 = chl r.P r.Q (strB s) ctx (lsI [X1, X2, X3, X4, X5]) 5 := chl_congr (fun i hi => lst_ls [⟨A1, n1, c1, X1⟩, ⟨A2, n2, c2, X2⟩, ⟨A3, n3, c3, X3⟩, ⟨A4, n4, c4, X4⟩, ⟨A5, n5, c5, X5⟩] i hi)
  rw [← e]
  exact rchal_any (cc := cc) ((h.bel B0).toRg) h.lp h.lq h.q0 h.nbP s hs (B0.bz hc) hnc (rs_lit [⟨A1, n1, c1, X1⟩, ⟨A2, n2, c2, X2⟩, ⟨A3, n3, c3, X3⟩, ⟨A4, n4, c4, X4⟩, ⟨A5, n5, c5, X5⟩] (fun s hs => by
    rcases List.mem_cons.1 hs with rfl | hs
    · exact ⟨h1, m1⟩
    rcases List.mem_cons.1 hs with rfl | hs
    · exact ⟨h2, m2⟩
    rcases List.mem_cons.1 hs with rfl | hs
    · exact ⟨h3, m3⟩
    rcases List.mem_cons.1 hs with rfl | hs
    · exact ⟨h4, m4⟩
    · rw [List.mem_singleton] at hs; subst hs; exact ⟨h5, m5⟩) (by simp) _ rfl rfl)
theorem rchal5d (h : Rg8 w b k r) (s : ByteArray) (hs : s.size ≤ 100) (hc : Bz w Ac nc ctx) (hnc : nc ≤ 500) {A1 A2 A3 A4 A5 : Option Addr} {n1 c1 n2 c2 n3 c3 n4 c4 n5 c5 : Nat} {X1 X2 X3 X4 X5 : Int} (h1 : Rn w A1 n1 c1 X1) (m1 : n1 ≤ 100000) (h2 : Rn w A2 n2 c2 X2) (m2 : n2 ≤ 100000) (h3 : Rn w A3 n3 c3 X3) (m3 : n3 ≤ 100000) (h4 : Rn w A4 n4 c4 X4) (m4 : n4 ≤ 100000) (h5 : Rn w A5 n5 c5 X5) (m5 : n5 ≤ 100000) :
    Calls Tryz.prog 45 #[.pointer (some ⟨b, 0, none⟩), .string s, .slice Ac nc cc, .slice (some ⟨w.heap.size, 0, none⟩) 5 5] (w.alloc (.cells #[.slice A1 n1 c1, .slice A2 n2 c2, .slice A3 n3 c3, .slice A4 n4 c4, .slice A5 n5 c5] 61)).drew
      (AnsN (chl r.P r.Q (strB s) ctx (lsI [X1, X2, X3, X4, X5]) 5) (w.alloc (.cells #[.slice A1 n1 c1, .slice A2 n2 c2, .slice A3 n3 c3, .slice A4 n4 c4, .slice A5 n5 c5] 61)).drew) := by
  have B0 := (B8.alloc w (.cells #[.slice A1 n1 c1, .slice A2 n2 c2, .slice A3 n3 c3, .slice A4 n4 c4, .slice A5 n5 c5] 61)).trans (B8.drew _)
  have e : chl r.P r.Q (strB s) ctx (fun i => (lstN [⟨A1, n1, c1, X1⟩, ⟨A2, n2, c2, X2⟩, ⟨A3, n3, c3, X3⟩, ⟨A4, n4, c4, X4⟩, ⟨A5, n5, c5, X5⟩] i).N) 5 = chl r.P r.Q (strB s) ctx (lsI [X1, X2, X3, X4, X5]) 5 := chl_congr (fun i hi => lst_ls [⟨A1, n1, c1, X1⟩, ⟨A2, n2, c2, X2⟩, ⟨A3, n3, c3, X3⟩, ⟨A4, n4, c4, X4⟩, ⟨A5, n5, c5, X5⟩] i hi)
  rw [← e]
  exact rchal_any (cc := cc) ((h.bel B0).toRg) h.lp h.lq h.q0 h.nbP s hs (B0.bz hc) hnc (Rs8.below (rs_lit [⟨A1, n1, c1, X1⟩, ⟨A2, n2, c2, X2⟩, ⟨A3, n3, c3, X3⟩, ⟨A4, n4, c4, X4⟩, ⟨A5, n5, c5, X5⟩] (fun s hs => by
    rcases List.mem_cons.1 hs with rfl | hs
    · exact ⟨h1, m1⟩
    rcases List.mem_cons.1 hs with rfl | hs
    · exact ⟨h2, m2⟩
    rcases List.mem_cons.1 hs with rfl | hs
    · exact ⟨h3, m3⟩
    rcases List.mem_cons.1 hs with rfl | hs
    · exact ⟨h4, m4⟩
    · rw [List.mem_singleton] at hs; subst hs; exact ⟨h5, m5⟩) (by simp) _ rfl rfl) (B8.drew _))
/-! ### back -/
set_option maxHeartbeats 8000000 in
set_option maxRecDepth 100000 in
theorem rback_any (h : Rg8 w b k r) (ha : Rn w A n c X) (na : n ≤ 300) (hy : Rn w A' n' c' Y) (ny : n' ≤ 300) (he : Nm w Ae ne ce E) (le : ne ≤ 300) (dE : dl E ≤ 64) (hz : Nm w Az nz cz Z) (lz : nz ≤ 300) (dZ : dl Z ≤ 64) :
    Calls Tryz.prog 53 #[.pointer (some ⟨b, 0, none⟩), .slice A n c, .slice A' n' c', .agg #[.slice Ae ne ce, .slice Az nz cz]] w (AnsN (backE r.P r.Q X Y Z E) w) := by
  have P0 := Lib.hid h.p0
  have Q0 := Lib.hid h.q0
  have B0 := Lib.hid (B8.alloc w (.cells #[.slice Ae ne ce, .slice Az nz cz] 33))
  have px := pf_box w (.slice Ae ne ce) (.slice Az nz cz)
  obtain ⟨w0, hw0⟩ : ∃ w0, w.alloc (.cells #[.slice Ae ne ce, .slice Az nz cz] 33) = w0 := ⟨_, rfl⟩
  have sp : w.heap.size < w0.heap.size := by rw [← hw0]; simp
  rw [hw0] at B0 px
  have bd := B0.out.trans (B8.drew w0)
  have HG := Lib.hid (h.bel bd)
  have HA := Lib.hid (rn_bel ha bd)
  have HY := Lib.hid (rn_bel hy bd)
  have HE := Lib.hid (bd.nm he)
  have HZ := Lib.hid (bd.nm hz)
  have BD := Lib.hid bd
  have SP := Lib.hid (show w.heap.size < w0.drew.heap.size from sp)
  have PX := Lib.hid (show w0.drew.cell? ⟨w.heap.size, 0, none⟩ = some (.slice Ae ne ce) ∧ w0.drew.cell? ⟨w.heap.size, 1, none⟩ = some (.slice Az nz cz) from px)
  have p0 := PX.out.1
  have p1 := PX.out.2
  have DE := Lib.hid (show dr E ≤ 256 from dr_nm he.pos dE)
  have DZ := Lib.hid (show dr Z ≤ 256 from dr_nm hz.pos dZ)
  clear h ha hy he hz px sp bd dE dZ
  go_enter Tryz.func53, Tryz.ntmps53
  go_wp2_with fail
  clear hw0
  go_region_law (first
    | (go_simp; go_at_call 89; (with_reducible refine (rgm_any (HG.out.bel C5.out).toRg HG.out.lp P0.out K2c.out K5.out N2.out N5.out).mono ?_); rintro e u6 ⟨D6, m6, d6, rfl, k6, b6⟩; have C6 := Lib.hid (C5.out.trans (show B8 _ u6 from b6)); have K6 := Lib.hid k6; clear k6 b6)
    | (go_simp; go_at_call 90; (with_reducible refine (rgi_any (HG.out.bel C4.out).toRg HG.out.lp HG.out.lq P0.out HG.out.safe.q1 K4.out N4.out).mono ?_); rintro e u5 ⟨D5, m5, d5, rfl, k5, b5⟩; have C5 := Lib.hid (C4.out.trans (show B8 _ u5 from b5)); have K5 := Lib.hid k5; have K2c := Lib.hid (rn_bel K2b.out (show B8 _ u5 from b5)); have N5 := Lib.hid (HG.out.toRg.n3 HG.out.lp k5 (iv_ltP P0.out)); clear k5 b5)
    | (go_simp; go_at_call 46; (with_reducible refine (rgx_any (HG.out.bel C3.out).toRg HG.out.lp HG.out.lq P0.out Q0.out (rn_bel HY.out C3.out) K3.out ny (by have := N3.out; omega)).mono ?_); rintro e u4 ⟨D4, m4, d4, rfl, k4, b4⟩; have C4 := Lib.hid (C3.out.trans (show B8 _ u4 from b4)); have K4 := Lib.hid k4; have K2b := Lib.hid (rn_bel (rn_bel K2.out E23.out) (show B8 _ u4 from b4)); have N4 := Lib.hid (HG.out.toRg.n3 HG.out.lp k4 (gx_ltP P0.out)); clear k4 b4)
    | (go_simp; go_at_call 29; (with_reducible refine (of_nm8 (C2.out.nm HE.out) (by omega)).mono ?_); rintro e u3 ⟨D3, m3, d3, rfl, k3, b3⟩; have E23 := Lib.hid (show B8 _ u3 from b3); have C3 := Lib.hid (C2.out.trans E23.out); have K3 := Lib.hid k3; have N3 := Lib.hid (show m3 ≤ 300 by have h1 := k3.len_; have h2 := DE.out; omega); clear k3 b3)
    | (go_simp; go_at_call 46; (with_reducible refine (rgx_any (HG.out.bel C1.out).toRg HG.out.lp HG.out.lq P0.out Q0.out (rn_bel HA.out C1.out) K1.out na (by have := N1.out; omega)).mono ?_); rintro e u2 ⟨D2, m2, d2, rfl, k2, b2⟩; have C2 := Lib.hid (C1.out.trans (show B8 _ u2 from b2)); have K2 := Lib.hid k2; have N2 := Lib.hid (HG.out.toRg.n3 HG.out.lp k2 (gx_ltP P0.out)); have r0 := (C2.out.cell (o := 0) SP.out).trans PX.out.1; clear k2 b2)
    | (go_simp; go_at_call 29; (with_reducible refine (of_nm8 HZ.out (by omega)).mono ?_); rintro e u1 ⟨D1, m1, d1, rfl, k1, b1⟩; have C1 := Lib.hid (show B8 _ u1 from b1); have K1 := Lib.hid k1; have N1 := Lib.hid (show m1 ≤ 300 by have h1 := k1.len_; have h2 := DZ.out; omega); have q0 := (C1.out.cell (o := 0) SP.out).trans PX.out.1; clear k1 b1))
  all_goals
    go_wp2_with fail
    go_ret
    exact ⟨D6, m6, d6, rfl, K6.out, BD.out.trans C6.out⟩
end
end Go.Proofs.YtloibmemlkfkfaaGreatDoor
