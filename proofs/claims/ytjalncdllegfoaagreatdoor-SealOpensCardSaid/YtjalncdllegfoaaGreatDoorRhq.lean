/-
  Several texts in one: Shl, Shd, Mdt.
-/
import Derived.Test.YtjalncdllegfoaaGreatDoorRhp
import Derived.Test.YtjalncdllegfoaaGreatDoorHsb
import Derived.Deep.RegionLaw
import Derived.Deep.QuietTactic
import Derived.BigQuiet
import Derived.BigRegion
import Derived.StillTailTactics
import Derived.StillTactics
import Derived.Deep.RegionHeld3
import Derived.Deep.AppendLies
/-
  The loops of the document's Sha, each by itself, over its frame.
-/
namespace Go.Proofs.YtjalncdllegfoaaGreatDoor
open Go.RowKit
set_option linter.unusedVariables false
theorem turn_q (n : Nat) {v : Int} (hv : v = n) (hn : n ≤ 32) (x : Int) (hx : Wd x) (w : World) :
    Calls Tryz.prog 120 #[.int .u32 x, .int .i64 v] w fun e w' => e = .returned (.int .u32 (rot n x)) ∧ w' = w :=
  (turn_w n hv hn x hx w).mono fun _ _ h => ⟨h.1, h.2.symm⟩
theorem quiet_add5 {P : Program} {f : FuncId} {args : Array Value} {w : World} {a n : Nat} {v : Value}
    (h : Calls P f args (w.drewN (a + n)) fun e w' => e = .returned v ∧ w' = w.drewN (a + n)) : Calls P f args (w.drewN (a + n)) fun e w'' => e = .returned v ∧ ∃ m, w'' = w.drewN (a + m) :=
  h.mono fun _ _ ⟨he, hm⟩ => ⟨he, n, hm⟩
/-- The bytes, as they are filled up. -/
def FlR (l : List Int) (s : Nat) (W0 : World) (v : Value) (wr : World) : Prop :=
  ∃ j : Nat, j ≤ fillN l.length ∧ Own8 wr s v (l ++ 128 :: List.replicate j 0) ∧ Below s W0 wr
def sln : Value → Nat
  | .slice _ n _ => n
  | _ => 0
/-- Behind j blocks. -/
def DsR (L : List Int) (M : Nat) (s : Nat) (W0 w2 : World) (g cH : Nat) (i : Value) (wr : World) : Prop :=
  ∃ j : Nat, j ≤ M ∧ i = .int .i64 ((64 * j : Nat) : Int) ∧ Mn 139 .u32 wr s (some ⟨g, 0, none⟩) 8 cH (absb H0 L j).l ∧ Kept (fun b => b = g) w2 wr ∧ Below s W0 wr
/-- The words of a block, so far. -/
def AwR (blk : List Int) (wo : World) (v i : Value) (wr : World) : Prop :=
  ∃ k : Nat, k ≤ 64 ∧ i = .int .i64 k ∧ wr.ownsRow wo.heap.size 139 1 v k (((sched blk).take k).map (Value.int .u32)) ∧ Below wo.heap.size wo wr
theorem pad_split (l : List Int) : l ++ pad l.length = (l ++ 128 :: List.replicate (fillN l.length) 0) ++ be8 (8 * (l.length : Int)) := by unfold pad; simp
theorem fill_next (l : List Int) (j : Nat) : (l ++ 128 :: List.replicate j 0) ++ [0] = l ++ 128 :: List.replicate (j + 1) 0 := by
  rw [List.append_assoc, List.cons_append, ← List.replicate_succ']
theorem Rd.blk_lt {k : IntKind} {w : World} {A : Option Addr} {n : Nat} {xs : List Int} (h : Rd k w A n xs) (hn : 0 < n) {a : Addr} (ha : A = some a) : a.block < w.heap.size := by
  obtain ⟨b, off, e, hb, -⟩ := h.cells hn
  rw [ha] at e
  injection e with e
  subst e
  exact hb
theorem Rd.cx {k : IntKind} {w : World} {b off : Nat} {n : Nat} {xs : List Int} (h : Rd k w (some ⟨b, off, none⟩) n xs) {j : Nat} (hj : j < n) : w.cell? ⟨b, off + j, none⟩ = some (.int k (dig xs j)) := by
  obtain ⟨b', off', e, hb, hc⟩ := h.cells (by omega)
  injection e with e; injection e with e e'; subst e e'
  exact hc j _ (getElem?_dig (by have := h.len; omega))
theorem Rd.c0 {k : IntKind} {w : World} {b : Nat} {n : Nat} {xs : List Int} (h : Rd k w (some ⟨b, 0, none⟩) n xs) {j : Nat} (hj : j < n) : w.cell? ⟨b, j, none⟩ = some (.int k (dig xs j)) := by
  have := h.cx hj
  rwa [Nat.zero_add] at this
theorem rd8 (W : World) (t : TypeId) (x0 x1 x2 x3 x4 x5 x6 x7 : Int) (s : St) (h0 : x0 = s.a) (h1 : x1 = s.b) (h2 : x2 = s.c) (h3 : x3 = s.d) (h4 : x4 = s.e) (h5 : x5 = s.f) (h6 : x6 = s.g) (h7 : x7 = s.h) :
    Rd .u32 (W.alloc (.cells #[.int .u32 x0, .int .u32 x1, .int .u32 x2, .int .u32 x3, .int .u32 x4, .int .u32 x5, .int .u32 x6, .int .u32 x7] t)) (some ⟨W.heap.size, 0, none⟩) 8 s.l := by
  subst h0 h1 h2 h3 h4 h5 h6 h7
  exact rowAll (Row.new W t .u32 s.l) rfl
theorem rd4 (W : World) (t : TypeId) (x0 x1 x2 x3 : Int) : Rd .u8 (W.alloc (.cells #[.int .u8 x0, .int .u8 x1, .int .u8 x2, .int .u8 x3] t)) (some ⟨W.heap.size, 0, none⟩) 4 [x0, x1, x2, x3] := rowAll (Row.new W t .u8 [x0, x1, x2, x3]) rfl
/-- A word's bytes, so far. -/
def KxR (blk : List Int) (k : Nat) (w : World) (x i : Value) (wr : World) : Prop := ∃ q : Nat, q ≤ 4 ∧ i = .int .i64 q ∧ x = .int .u32 (px blk k q) ∧ w = wr
/-- The rounds, so far. -/
def BvR (M : List Int) (S : St) (g : Nat) (wB : World) (v i : Value) (wr : World) : Prop :=
  ∃ (k b c : Nat), k ≤ 64 ∧ i = .int .i64 k ∧ v = .slice (some ⟨b, 0, none⟩) 8 c ∧ Rd .u32 wr (some ⟨b, 0, none⟩) 8 (rnds KT M S k).l ∧ g < b ∧ Below wB.heap.size wB wr
/-- The sums, so far. -/
def CcS (S R : St) (s g c7 : Nat) (W0 wC : World) (i : Value) (wr : World) : Prop :=
  ∃ k : Nat, k ≤ 8 ∧ i = .int .i64 k ∧ Mn 139 .u32 wr s (some ⟨g, 0, none⟩) 8 c7 (hmx S R k) ∧ Kept (fun b => b = g) wC wr ∧ Below s W0 wr
/-- The bytes told, so far. -/
def DoR (S : St) (wD : World) (v i : Value) (wr : World) : Prop := ∃ k : Nat, k ≤ 8 ∧ i = .int .i64 k ∧ Own8 wr wD.heap.size v (wbs (S.l.take k)) ∧ Below wD.heap.size wD wr
/-- All loops of a code, from the front. -/
def loopsIn : Code → List Code
  | .loop c => c :: loopsIn c
  | .seq a b => loopsIn a ++ loopsIn b
  | .cond _ a b => loopsIn a ++ loopsIn b
  | .block _ c => loopsIn c
  | .scope c => loopsIn c
  | _ => []
def nthCode : List Code → Nat → Code
  | [], _ => .skip
  | c :: _, 0 => c
  | _ :: l, n + 1 => nthCode l n
/-- Left by this exit alone. -/
def Only (ex : Nat) (Po : Act → World → Prop) : Exit → Act → World → Prop
  | .exit i, a, w => i = ex ∧ Po a w
  | _, _, _ => False
theorem only_use {P : Program} {c : Code} {Q : Exit → Act → World → Prop} {a : Act} {w : World} {ex : Nat} (h : Code.wp P c (Only ex fun a w => Q (.exit ex) a w) a w) : Code.wp P c Q a w :=
  wp_mono h fun e a w hh => by
    cases e with
    | exit i => obtain ⟨rfl, h⟩ := hh; exact h
    | _ => exact hh.elim
noncomputable def dshaLoop (i : Nat) : Code := nthCode ((Tryz.f92.body.map loopsIn).getD []) i
set_option maxHeartbeats 8000000 in
set_option maxRecDepth 100000 in
theorem words_loop {Po : Act → World → Prop} {bL oL N c5 p j M : Nat} {L blk : List Int} {wo : World} (hlt : j < M) (hP : 64 * j = p) (hMM : N = 64 * M) (hpN : (p : Int) < (N : Int)) (hp40 : (p : Int) ≤ 1280000) (hLD : Dig 256 L) (hBLK : (L.drop (64 * j)).take 64 = blk) (hLw : Rd .u8 wo (some ⟨bL, oL, none⟩) N L)
    (f0 f1 f2 f3 f4 f6 f10 f11 f12 f13 f14 f15 f16 f17 f18 f19 f20 f21 f22 f23 f24 f25 f26 f27 f28 f29 f30 f31 f32 f33 f34 f35 f36 f37 f38 f39 f40 f41 f42 f43 f44 f45 f46 f47 f48 f49 f50 f51 f52 f53 f54 f55 f56 f57 f58 f59 f60 f61 f62 f63 f64 f65 f66 f67 f68 f69 f70 f71 f72 f73 f74 f75 f76 f77 f78 f79 f80 f81 f82 f83 f84 f85 f86 f87 f88 f89 f90 f91 f92 f93 f94 f95 f96 f97 f98 f99 f100 f101 f102 f103 f104 f105 f106 f107 f108 f109 f110 f111 f112 f113 f114 f115 f116 f117 f118 f119 f120 f121 f122 f123 f124 f125 f126 f127 f128 f129 f130 f131 f132 f133 f134 f135 f136 f137 f138 f139 f140 f141 f142 f143 f144 f145 f146 f147 f148 f149 f150 f151 f152 f153 f154 f155 f156 f157 f158 f159 f160 f161 f162 f163 f164 f165 f166 f167 f168 f169 f170 f171 f172 f173 f174 f175 f176 f177 f178 f179 f180 f181 f182 f183 f184 f185 f186 f187 f188 f189 f190 f191 f192 f193 f194 f195 f196 f197 f198 f199 f200 f201 f202 f203 f204 f205 f206 f207 f208 f209 f210 f211 f212 f213 f214 f215 f216 f217 f218 f219 f220 f221 f222 f223 f224 f225 f226 f227 f228 f229 f230 f231 f232 f233 f234 f235 f236 f237 f238 f239 f240 f241 f242 f243 f244 f245 f246 f247 f248 f249 f250 f251 f252 f253 f254 f255 f256 f257 f258 f259 f260 f261 f262 f263 f264 f265 f266 f267 f268 f269 f270 f271 f272 f273 f274 f275 f276 f277 f278 f279 f280 f281 f282 f283 f284 f285 f286 f287 f288 f289 f290 f291 : Value)
    (hexit : ∀ (e10 e11 e12 e13 e53 e54 e55 e56 e57 e58 e59 e60 e61 e62 e63 e64 e65 e66 e67 e68 e69 e70 e71 e72 e73 e74 e75 e76 e77 e78 e79 e80 e81 e82 e83 e84 e85 e86 e87 e88 e89 e90 e91 e92 e93 e94 e95 e96 e97 e98 e99 e100 e101 e102 e103 e104 e105 e106 e107 e108 e109 e110 e111 e112 e113 e114 e115 e116 e117 e118 e119 e120 e121 e122 e123 e124 e125 e126 e127 e128 e129 e130 e131 e132 e133 e134 e135 e136 e137 : Value) (v : Value) (wr : World), wr.ownsRow wo.heap.size 139 1 v 64 ((sched blk).map (Value.int .u32)) → Below wo.heap.size wo wr → Po ⟨List.toArray (f0 :: f1 :: f2 :: f3 :: f4 :: (.slice (some ⟨bL, oL, none⟩) N c5) :: f6 :: (.int .i64 p) :: (v) :: (.int .i64 ((64 : Nat) : Int)) :: (e10) :: (e11) :: (e12) :: (e13) :: f14 :: f15 :: f16 :: f17 :: f18 :: f19 :: f20 :: f21 :: f22 :: f23 :: f24 :: f25 :: f26 :: f27 :: f28 :: f29 :: f30 :: f31 :: f32 :: f33 :: f34 :: f35 :: f36 :: f37 :: f38 :: f39 :: f40 :: f41 :: f42 :: f43 :: f44 :: f45 :: f46 :: f47 :: f48 :: f49 :: f50 :: f51 :: f52 :: (e53) :: (e54) :: (e55) :: (e56) :: (e57) :: (e58) :: (e59) :: (e60) :: (e61) :: (e62) :: (e63) :: (e64) :: (e65) :: (e66) :: (e67) :: (e68) :: (e69) :: (e70) :: (e71) :: (e72) :: (e73) :: (e74) :: (e75) :: (e76) :: (e77) :: (e78) :: (e79) :: (e80) :: (e81) :: (e82) :: (e83) :: (e84) :: (e85) :: (e86) :: (e87) :: (e88) :: (e89) :: (e90) :: (e91) :: (e92) :: (e93) :: (e94) :: (e95) :: (e96) :: (e97) :: (e98) :: (e99) :: (e100) :: (e101) :: (e102) :: (e103) :: (e104) :: (e105) :: (e106) :: (e107) :: (e108) :: (e109) :: (e110) :: (e111) :: (e112) :: (e113) :: (e114) :: (e115) :: (e116) :: (e117) :: (e118) :: (e119) :: (e120) :: (e121) :: (e122) :: (e123) :: (e124) :: (e125) :: (e126) :: (e127) :: (e128) :: (e129) :: (e130) :: (e131) :: (e132) :: (e133) :: (e134) :: (e135) :: (e136) :: (e137) :: f138 :: f139 :: f140 :: f141 :: f142 :: f143 :: f144 :: f145 :: f146 :: f147 :: f148 :: f149 :: f150 :: f151 :: f152 :: f153 :: f154 :: f155 :: f156 :: f157 :: f158 :: f159 :: f160 :: f161 :: f162 :: f163 :: f164 :: f165 :: f166 :: f167 :: f168 :: f169 :: f170 :: f171 :: f172 :: f173 :: f174 :: f175 :: f176 :: f177 :: f178 :: f179 :: f180 :: f181 :: f182 :: f183 :: f184 :: f185 :: f186 :: f187 :: f188 :: f189 :: f190 :: f191 :: f192 :: f193 :: f194 :: f195 :: f196 :: f197 :: f198 :: f199 :: f200 :: f201 :: f202 :: f203 :: f204 :: f205 :: f206 :: f207 :: f208 :: f209 :: f210 :: f211 :: f212 :: f213 :: f214 :: f215 :: f216 :: f217 :: f218 :: f219 :: f220 :: f221 :: f222 :: f223 :: f224 :: f225 :: f226 :: f227 :: f228 :: f229 :: f230 :: f231 :: f232 :: f233 :: f234 :: f235 :: f236 :: f237 :: f238 :: f239 :: f240 :: f241 :: f242 :: f243 :: f244 :: f245 :: f246 :: f247 :: f248 :: f249 :: f250 :: f251 :: f252 :: f253 :: f254 :: f255 :: f256 :: f257 :: f258 :: f259 :: f260 :: f261 :: f262 :: f263 :: f264 :: f265 :: f266 :: f267 :: f268 :: f269 :: f270 :: f271 :: f272 :: f273 :: f274 :: f275 :: f276 :: f277 :: f278 :: f279 :: f280 :: f281 :: f282 :: f283 :: f284 :: f285 :: f286 :: f287 :: f288 :: f289 :: f290 :: f291 :: []), []⟩ wr) :
    Code.wp Tryz.prog (.loop (dshaLoop 2)) (Only 4 Po) ⟨List.toArray (f0 :: f1 :: f2 :: f3 :: f4 :: (.slice (some ⟨bL, oL, none⟩) N c5) :: f6 :: (.int .i64 p) :: (.slice none 0 0) :: (.int .i64 0) :: f10 :: f11 :: f12 :: f13 :: f14 :: f15 :: f16 :: f17 :: f18 :: f19 :: f20 :: f21 :: f22 :: f23 :: f24 :: f25 :: f26 :: f27 :: f28 :: f29 :: f30 :: f31 :: f32 :: f33 :: f34 :: f35 :: f36 :: f37 :: f38 :: f39 :: f40 :: f41 :: f42 :: f43 :: f44 :: f45 :: f46 :: f47 :: f48 :: f49 :: f50 :: f51 :: f52 :: f53 :: f54 :: f55 :: f56 :: f57 :: f58 :: f59 :: f60 :: f61 :: f62 :: f63 :: f64 :: f65 :: f66 :: f67 :: f68 :: f69 :: f70 :: f71 :: f72 :: f73 :: f74 :: f75 :: f76 :: f77 :: f78 :: f79 :: f80 :: f81 :: f82 :: f83 :: f84 :: f85 :: f86 :: f87 :: f88 :: f89 :: f90 :: f91 :: f92 :: f93 :: f94 :: f95 :: f96 :: f97 :: f98 :: f99 :: f100 :: f101 :: f102 :: f103 :: f104 :: f105 :: f106 :: f107 :: f108 :: f109 :: f110 :: f111 :: f112 :: f113 :: f114 :: f115 :: f116 :: f117 :: f118 :: f119 :: f120 :: f121 :: f122 :: f123 :: f124 :: f125 :: f126 :: f127 :: f128 :: f129 :: f130 :: f131 :: f132 :: f133 :: f134 :: f135 :: f136 :: f137 :: f138 :: f139 :: f140 :: f141 :: f142 :: f143 :: f144 :: f145 :: f146 :: f147 :: f148 :: f149 :: f150 :: f151 :: f152 :: f153 :: f154 :: f155 :: f156 :: f157 :: f158 :: f159 :: f160 :: f161 :: f162 :: f163 :: f164 :: f165 :: f166 :: f167 :: f168 :: f169 :: f170 :: f171 :: f172 :: f173 :: f174 :: f175 :: f176 :: f177 :: f178 :: f179 :: f180 :: f181 :: f182 :: f183 :: f184 :: f185 :: f186 :: f187 :: f188 :: f189 :: f190 :: f191 :: f192 :: f193 :: f194 :: f195 :: f196 :: f197 :: f198 :: f199 :: f200 :: f201 :: f202 :: f203 :: f204 :: f205 :: f206 :: f207 :: f208 :: f209 :: f210 :: f211 :: f212 :: f213 :: f214 :: f215 :: f216 :: f217 :: f218 :: f219 :: f220 :: f221 :: f222 :: f223 :: f224 :: f225 :: f226 :: f227 :: f228 :: f229 :: f230 :: f231 :: f232 :: f233 :: f234 :: f235 :: f236 :: f237 :: f238 :: f239 :: f240 :: f241 :: f242 :: f243 :: f244 :: f245 :: f246 :: f247 :: f248 :: f249 :: f250 :: f251 :: f252 :: f253 :: f254 :: f255 :: f256 :: f257 :: f258 :: f259 :: f260 :: f261 :: f262 :: f263 :: f264 :: f265 :: f266 :: f267 :: f268 :: f269 :: f270 :: f271 :: f272 :: f273 :: f274 :: f275 :: f276 :: f277 :: f278 :: f279 :: f280 :: f281 :: f282 :: f283 :: f284 :: f285 :: f286 :: f287 :: f288 :: f289 :: f290 :: f291 :: []), []⟩ wo := by
  conv => arg 2; arg 1; whnf
  have HLw := Lib.hid hLw
  have HLD := Lib.hid hLD
  have HP := Lib.hid hP
  have HMM := Lib.hid hMM
  have HBLK := Lib.hid hBLK
  have HBD := Lib.hid (show Dig 256 blk by rw [← hBLK]; exact (hLD.drop _).take _)
  clear hLw hLD hP hMM hBLK
  go_loopw [8, 9] (fun v i wr => AwR blk wo v i wr) (fun _ i _ => 64 - (intOf i).toNat)
  case atStart => exact ⟨0, Nat.zero_le _, rfl, ⟨rfl, .inl ⟨rfl, rfl⟩⟩, Below.refl _ _⟩
  case round =>
    obtain ⟨k, hk, rfl, ho, hbA⟩ := hrel
    rcases Nat.lt_or_ge k 64 with hk64 | hk64
    · clear hexit
      have sbA := hbA.size
      have HO := Lib.hid ho
      have HBA := Lib.hid hbA
      have hmk := sched_take_len blk hk
      rcases Nat.lt_or_ge k 16 with k16 | k16
      · --<A1
        have hki : (k : Int) < 16 := by omega
        have HLr := Lib.hid (HLw.out.below hbA)
        clear ho hbA hmk
        go_wp2_with fail
        go_loopw [10, 11] (fun x i wr' => KxR blk k wr x i wr') (fun _ i _ => 4 - (intOf i).toNat)
        case atStart => exact ⟨0, by omega, rfl, rfl, rfl⟩
        case round =>
          obtain ⟨q, hq, rfl, rfl, rfl⟩ := hrel
          rcases Nat.lt_or_ge q 4 with hq4 | hq4
          · have hr : p + 4 * k + q < N := by have := HP.out; have := HMM.out; omega
            obtain ⟨x0, x1⟩ := px_bd3 HBD.out k hq4
            obtain ⟨d0, d1⟩ := dig_bd (b := 256) (by decide) HLD.out (p + 4 * k + q)
            have hc := HLr.out.cx hr
            have hpx : px blk k (q + 1) = 256 * px blk k q + dig L (p + 4 * k + q) := by
              show 256 * px blk k q + dig blk (4 * k + q) = _
              rw [← HBLK.out, blk_dig L j _ (by omega), HP.out, Nat.add_assoc]
            obtain ⟨X, hX⟩ : ∃ X, px blk k q = X := ⟨_, rfl⟩
            obtain ⟨D, hD⟩ : ∃ D, dig L (p + 4 * k + q) = D := ⟨_, rfl⟩
            rw [hX, hD] at hpx
            rw [hX] at x0 x1 ⊢
            rw [hD] at d0 d1 hc
            have HPX := Lib.hid hpx
            have i1 : (p : Int) + 4 * (k : Int) + (q : Int) < (N : Int) := by omega
            have hqi : (q : Int) < 4 := by omega
            clear hX hD hpx hr
            go_wp2_with fail
            go_roundw
            case rel => exact ⟨q + 1, by omega, by go_num, by rw [HPX.out], rfl⟩
            case measure => simp [intOf]; omega
          · obtain rfl : q = 4 := by omega
            rw [px_end]
            obtain ⟨Y, hY⟩ : ∃ Y, wdAt blk k = Y := ⟨_, rfl⟩
            rw [hY]
            have HY := Lib.hid hY
            clear hY
            go_wp2_with (at_builtin; refine wpList_app1 _ rfl (.tmp 76) (.tmp 78) 108 rfl wo.heap.size 4 139 .u32 Tryz.underlying108 info32 (by omega) _ k _ rfl (own_alloc1 HO.out _) wr.heap.size Y rfl (cell_one _ _ _) (by simp) (by omega) (by simp; omega) ?_)
            rintro v2 w2 h2 g2
            have b2 := own_below (HBA.out.alloc sbA _) (own_alloc1 HO.out _) g2 (by simp; omega) (Nat.le_refl _)
            have H2 := Lib.hid h2
            clear h2 g2
            go_wp2_with fail
            go_roundw
            case rel => exact ⟨k + 1, by omega, by go_num, by rw [sched_next_lo blk k16, HY.out, List.map_append]; simpa using H2.out, b2⟩
            case measure => simp [intOf]; omega
        --A1>
      · --<A2
        obtain ⟨Av, cv, rfl, hrv, -, -⟩ := own_rd ho
        obtain ⟨bv, ov, rfl, hbv, -⟩ := hrv.cells (by omega)
        obtain ⟨m, hm⟩ : ∃ m, (sched blk).take k = m := ⟨_, rfl⟩
        have hsn := sched_next_hi blk k16 hk64
        rw [hm] at hrv hmk hsn
        rw [hm] at HO
        have hwd : Wds m := by rw [← hm]; exact fun x hx => sched_wds HBD.out x (List.mem_of_mem_take hx)
        obtain ⟨p15, h15⟩ : ∃ p, p + 15 = k := ⟨k - 15, by omega⟩
        obtain ⟨p2, h2⟩ : ∃ p, p + 2 = k := ⟨k - 2, by omega⟩
        obtain ⟨p16, h16⟩ : ∃ p, p + 16 = k := ⟨k - 16, by omega⟩
        obtain ⟨p7, h7⟩ : ∃ p, p + 7 = k := ⟨k - 7, by omega⟩
        have c15 := hrv.cx (j := p15) (by omega)
        have c2 := hrv.cx (j := p2) (by omega)
        have c16 := hrv.cx (j := p16) (by omega)
        have c7' := hrv.cx (j := p7) (by omega)
        have w15 := dig_wd hwd p15
        have w2 := dig_wd hwd p2
        have hN : nxt m = ad (ad (ad (dig m p16) (sg0 (dig m p15))) (dig m p7)) (sg1 (dig m p2)) := by
          unfold nxt
          rw [hmk, show k - 16 = p16 by omega, show k - 15 = p15 by omega, show k - 7 = p7 by omega, show k - 2 = p2 by omega]
        generalize dig m p15 = y15 at *
        generalize dig m p2 = y2 at *
        generalize dig m p16 = y16 at *
        generalize dig m p7 = y7 at *
        rw [hN] at hsn
        unfold ad sg0 sg1 xo at hsn
        have HSN := Lib.hid hsn
        have y150 := w15.1
        have y151 := w15.2
        have y20 := w2.1
        have y21 := w2.2
        have q15 : y15.tdiv 8 = y15 / 8 := Int.tdiv_eq_ediv_of_nonneg y150
        have q2 : y2.tdiv 1024 = y2 / 1024 := Int.tdiv_eq_ediv_of_nonneg y20
        have g15 : (k : Int) - 15 = (p15 : Int) := by omega
        have g2 : (k : Int) - 2 = (p2 : Int) := by omega
        have g16 : (k : Int) - 16 = (p16 : Int) := by omega
        have g7 : (k : Int) - 7 = (p7 : Int) := by omega
        have l15 : (p15 : Int) < (k : Int) := by omega
        have l2 : (p2 : Int) < (k : Int) := by omega
        have l16 : (p16 : Int) < (k : Int) := by omega
        have l7 : (p7 : Int) < (k : Int) := by omega
        have v15 : IntKind.i64.wrap (p15 : Int) = (p15 : Int) := IntWalk.i64_in _ (by omega)
        have v2 : IntKind.i64.wrap (p2 : Int) = (p2 : Int) := IntWalk.i64_in _ (by omega)
        have v16 : IntKind.i64.wrap (p16 : Int) = (p16 : Int) := IntWalk.i64_in _ (by omega)
        have v7 : IntKind.i64.wrap (p7 : Int) = (p7 : Int) := IntWalk.i64_in _ (by omega)
        have t16 : decide ((k : Int) < 16) = false := by simp; omega
        have k64 : (k : Int) < 64 := by omega
        clear ho hbA hmk hm hwd hN hsn hrv h15 h2 h16 h7 hbv
        go_wp2_with fail
        go_quiet ((go_at_call 120; first | (with_reducible exact Calls.quiet_of_same (turn_q 7 rfl (by omega) y15 w15 _)) | (with_reducible exact quiet_add5 (turn_q 7 rfl (by omega) y15 w15 _)) | (with_reducible exact Calls.quiet_of_same (turn_q 18 rfl (by omega) y15 w15 _)) | (with_reducible exact quiet_add5 (turn_q 18 rfl (by omega) y15 w15 _))))
        go_wp2_with fail
        go_quiet ((go_at_call 120; first | (with_reducible exact Calls.quiet_of_same (turn_q 17 rfl (by omega) y2 w2 _)) | (with_reducible exact quiet_add5 (turn_q 17 rfl (by omega) y2 w2 _)) | (with_reducible exact Calls.quiet_of_same (turn_q 19 rfl (by omega) y2 w2 _)) | (with_reducible exact quiet_add5 (turn_q 19 rfl (by omega) y2 w2 _))))
        go_wp2_with fail
        go_region_law (refine step_app1 _ rfl (.tmp 120) (.tmp 136) 108 rfl wo.heap.size 4 139 .u32 Tryz.underlying108 info32 (by omega) _ k m rfl (own_alloc1 HO.out _) wr.heap.size _ rfl (cell_one _ _ _) (by simp) (by omega) (by simp; omega) ?_; intro vn wn hn gn; have HNn := Lib.hid hn; have GN := Lib.hid gn; clear hn gn)
        all_goals
          have b2 := own_below ((below_drewN HBA.out _).alloc sbA _) (own_alloc1 HO.out _) GN.out (by simp; omega) (Nat.le_refl _)
          have H2 := Lib.hid (show wn.ownsRow wo.heap.size 139 1 vn (k + 1) (((sched blk).take (k + 1)).map (Value.int .u32)) by rw [HSN.out]; exact HNn.out)
          clear HNn GN c15 c2 c16 c7' v15 v2 v16 v7 g15 g2 g16 g7 q15 q2
          go_wp2_with fail
          go_roundw
          case rel => exact ⟨k + 1, by omega, by go_num, H2.out, b2⟩
          case measure => simp [intOf]; omega
        --A2>
    · obtain rfl : k = 64 := by omega
      rw [List.take_of_length_le (by rw [sched_len]; exact Nat.le_refl _)] at ho
      have HO := Lib.hid ho
      have HBA := Lib.hid hbA
      have HE := Lib.hid hexit
      clear ho hbA hexit
      go_wp2_with fail
      exact ⟨rfl, HE.out _ _ _ _ _ _ _ _ _ _ _ _ _ _ _ _ _ _ _ _ _ _ _ _ _ _ _ _ _ _ _ _ _ _ _ _ _ _ _ _ _ _ _ _ _ _ _ _ _ _ _ _ _ _ _ _ _ _ _ _ _ _ _ _ _ _ _ _ _ _ _ _ _ _ _ _ _ _ _ _ _ _ _ _ _ _ _ _ _ _ _ HO.out HBA.out⟩
set_option maxHeartbeats 8000000 in
set_option maxRecDepth 100000 in
theorem rounds_loop {Po : Act → World → Prop} {tb bK oK cK bw ow cw g g2 cB : Nat} {blk : List Int} {S : St} {wB : World} (hok : S.ok) (gBs : g < wB.heap.size) (gg2 : g < g2) (szB : tb < wB.heap.size) (hKB : Rd .u32 wB (some ⟨bK, oK, none⟩) 64 KT) (cTB : wB.cell? ⟨tb, 0, none⟩ = some (.slice (some ⟨bK, oK, none⟩) 64 cK)) (hWB : Rd .u32 wB (some ⟨bw, ow, none⟩) 64 (sched blk)) (rB : Rd .u32 wB (some ⟨g2, 0, none⟩) 8 S.l)
    (f0 f1 f3 f4 f5 f6 f7 f9 f10 f11 f12 f13 f16 f17 f18 f19 f20 f21 f22 f23 f24 f25 f26 f27 f28 f29 f30 f31 f32 f33 f34 f35 f36 f37 f38 f39 f40 f41 f42 f43 f44 f45 f46 f47 f48 f49 f50 f51 f52 f53 f54 f55 f56 f57 f58 f59 f60 f61 f62 f63 f64 f65 f66 f67 f68 f69 f70 f71 f72 f73 f74 f75 f76 f77 f78 f79 f80 f81 f82 f83 f84 f85 f86 f87 f88 f89 f90 f91 f92 f93 f94 f95 f96 f97 f98 f99 f100 f101 f102 f103 f104 f105 f106 f107 f108 f109 f110 f111 f112 f113 f114 f115 f116 f117 f118 f119 f120 f121 f122 f123 f124 f125 f126 f127 f128 f129 f130 f131 f132 f133 f134 f135 f136 f137 f138 f139 f140 f141 f142 f143 f144 f145 f146 f147 f148 f149 f150 f151 f152 f153 f154 f155 f156 f157 f158 f159 f160 f161 f162 f163 f164 f165 f166 f167 f168 f169 f170 f171 f172 f173 f174 f175 f176 f177 f178 f179 f180 f181 f182 f183 f184 f185 f186 f187 f188 f189 f190 f191 f192 f193 f194 f195 f196 f197 f198 f199 f200 f201 f202 f203 f204 f205 f206 f207 f208 f209 f210 f211 f212 f213 f214 f215 f216 f217 f218 f219 f220 f221 f222 f223 f224 f225 f226 f227 f228 f229 f230 f231 f232 f233 f234 f235 f236 f237 f238 f239 f240 f241 f242 f243 f244 f245 f246 f247 f248 f249 f250 f251 f252 f253 f254 f255 f256 f257 f258 f259 f260 f261 f262 f263 f264 f265 f266 f267 f268 f269 f270 f271 f272 f273 f274 f275 f276 f277 f278 f279 f280 f281 f282 f283 f284 f285 f286 f287 f288 f289 f290 f291 : Value)
    (hexit : ∀ (e16 e17 e18 e19 e141 e142 e143 e144 e145 e146 e147 e148 e149 e150 e151 e152 e153 e154 e155 e156 e157 e158 e159 e160 e161 e162 e163 e164 e165 e166 e167 e168 e169 e170 e171 e172 e173 e174 e175 e176 e177 e178 e179 e180 e181 e182 e183 e184 e185 e186 e187 e188 e189 e190 e191 e192 e193 e194 e195 e196 e197 e198 e199 e200 e201 e202 e203 e204 e205 e206 e207 e208 e209 e210 e211 e212 e213 e214 e215 e216 e217 e218 e219 e220 e221 e222 e223 e224 e225 e226 e227 e228 e229 e230 e231 e232 e233 e234 e235 e236 e237 e238 e239 e240 e241 : Value) (b c : Nat) (wr : World), Rd .u32 wr (some ⟨b, 0, none⟩) 8 (rnds KT (sched blk) S 64).l → g < b → Below wB.heap.size wB wr → Po ⟨List.toArray (f0 :: f1 :: (.pointer (some ⟨tb, 0, none⟩)) :: f3 :: f4 :: f5 :: f6 :: f7 :: (.slice (some ⟨bw, ow, none⟩) 64 cw) :: f9 :: f10 :: f11 :: f12 :: f13 :: (.slice (some ⟨b, 0, none⟩) 8 c) :: (.int .i64 ((64 : Nat) : Int)) :: (e16) :: (e17) :: (e18) :: (e19) :: f20 :: f21 :: f22 :: f23 :: f24 :: f25 :: f26 :: f27 :: f28 :: f29 :: f30 :: f31 :: f32 :: f33 :: f34 :: f35 :: f36 :: f37 :: f38 :: f39 :: f40 :: f41 :: f42 :: f43 :: f44 :: f45 :: f46 :: f47 :: f48 :: f49 :: f50 :: f51 :: f52 :: f53 :: f54 :: f55 :: f56 :: f57 :: f58 :: f59 :: f60 :: f61 :: f62 :: f63 :: f64 :: f65 :: f66 :: f67 :: f68 :: f69 :: f70 :: f71 :: f72 :: f73 :: f74 :: f75 :: f76 :: f77 :: f78 :: f79 :: f80 :: f81 :: f82 :: f83 :: f84 :: f85 :: f86 :: f87 :: f88 :: f89 :: f90 :: f91 :: f92 :: f93 :: f94 :: f95 :: f96 :: f97 :: f98 :: f99 :: f100 :: f101 :: f102 :: f103 :: f104 :: f105 :: f106 :: f107 :: f108 :: f109 :: f110 :: f111 :: f112 :: f113 :: f114 :: f115 :: f116 :: f117 :: f118 :: f119 :: f120 :: f121 :: f122 :: f123 :: f124 :: f125 :: f126 :: f127 :: f128 :: f129 :: f130 :: f131 :: f132 :: f133 :: f134 :: f135 :: f136 :: f137 :: f138 :: f139 :: f140 :: (e141) :: (e142) :: (e143) :: (e144) :: (e145) :: (e146) :: (e147) :: (e148) :: (e149) :: (e150) :: (e151) :: (e152) :: (e153) :: (e154) :: (e155) :: (e156) :: (e157) :: (e158) :: (e159) :: (e160) :: (e161) :: (e162) :: (e163) :: (e164) :: (e165) :: (e166) :: (e167) :: (e168) :: (e169) :: (e170) :: (e171) :: (e172) :: (e173) :: (e174) :: (e175) :: (e176) :: (e177) :: (e178) :: (e179) :: (e180) :: (e181) :: (e182) :: (e183) :: (e184) :: (e185) :: (e186) :: (e187) :: (e188) :: (e189) :: (e190) :: (e191) :: (e192) :: (e193) :: (e194) :: (e195) :: (e196) :: (e197) :: (e198) :: (e199) :: (e200) :: (e201) :: (e202) :: (e203) :: (e204) :: (e205) :: (e206) :: (e207) :: (e208) :: (e209) :: (e210) :: (e211) :: (e212) :: (e213) :: (e214) :: (e215) :: (e216) :: (e217) :: (e218) :: (e219) :: (e220) :: (e221) :: (e222) :: (e223) :: (e224) :: (e225) :: (e226) :: (e227) :: (e228) :: (e229) :: (e230) :: (e231) :: (e232) :: (e233) :: (e234) :: (e235) :: (e236) :: (e237) :: (e238) :: (e239) :: (e240) :: (e241) :: f242 :: f243 :: f244 :: f245 :: f246 :: f247 :: f248 :: f249 :: f250 :: f251 :: f252 :: f253 :: f254 :: f255 :: f256 :: f257 :: f258 :: f259 :: f260 :: f261 :: f262 :: f263 :: f264 :: f265 :: f266 :: f267 :: f268 :: f269 :: f270 :: f271 :: f272 :: f273 :: f274 :: f275 :: f276 :: f277 :: f278 :: f279 :: f280 :: f281 :: f282 :: f283 :: f284 :: f285 :: f286 :: f287 :: f288 :: f289 :: f290 :: f291 :: []), []⟩ wr) :
    Code.wp Tryz.prog (.loop (dshaLoop 4)) (Only 8 Po) ⟨List.toArray (f0 :: f1 :: (.pointer (some ⟨tb, 0, none⟩)) :: f3 :: f4 :: f5 :: f6 :: f7 :: (.slice (some ⟨bw, ow, none⟩) 64 cw) :: f9 :: f10 :: f11 :: f12 :: f13 :: (.slice (some ⟨g2, 0, none⟩) 8 cB) :: (.int .i64 0) :: f16 :: f17 :: f18 :: f19 :: f20 :: f21 :: f22 :: f23 :: f24 :: f25 :: f26 :: f27 :: f28 :: f29 :: f30 :: f31 :: f32 :: f33 :: f34 :: f35 :: f36 :: f37 :: f38 :: f39 :: f40 :: f41 :: f42 :: f43 :: f44 :: f45 :: f46 :: f47 :: f48 :: f49 :: f50 :: f51 :: f52 :: f53 :: f54 :: f55 :: f56 :: f57 :: f58 :: f59 :: f60 :: f61 :: f62 :: f63 :: f64 :: f65 :: f66 :: f67 :: f68 :: f69 :: f70 :: f71 :: f72 :: f73 :: f74 :: f75 :: f76 :: f77 :: f78 :: f79 :: f80 :: f81 :: f82 :: f83 :: f84 :: f85 :: f86 :: f87 :: f88 :: f89 :: f90 :: f91 :: f92 :: f93 :: f94 :: f95 :: f96 :: f97 :: f98 :: f99 :: f100 :: f101 :: f102 :: f103 :: f104 :: f105 :: f106 :: f107 :: f108 :: f109 :: f110 :: f111 :: f112 :: f113 :: f114 :: f115 :: f116 :: f117 :: f118 :: f119 :: f120 :: f121 :: f122 :: f123 :: f124 :: f125 :: f126 :: f127 :: f128 :: f129 :: f130 :: f131 :: f132 :: f133 :: f134 :: f135 :: f136 :: f137 :: f138 :: f139 :: f140 :: f141 :: f142 :: f143 :: f144 :: f145 :: f146 :: f147 :: f148 :: f149 :: f150 :: f151 :: f152 :: f153 :: f154 :: f155 :: f156 :: f157 :: f158 :: f159 :: f160 :: f161 :: f162 :: f163 :: f164 :: f165 :: f166 :: f167 :: f168 :: f169 :: f170 :: f171 :: f172 :: f173 :: f174 :: f175 :: f176 :: f177 :: f178 :: f179 :: f180 :: f181 :: f182 :: f183 :: f184 :: f185 :: f186 :: f187 :: f188 :: f189 :: f190 :: f191 :: f192 :: f193 :: f194 :: f195 :: f196 :: f197 :: f198 :: f199 :: f200 :: f201 :: f202 :: f203 :: f204 :: f205 :: f206 :: f207 :: f208 :: f209 :: f210 :: f211 :: f212 :: f213 :: f214 :: f215 :: f216 :: f217 :: f218 :: f219 :: f220 :: f221 :: f222 :: f223 :: f224 :: f225 :: f226 :: f227 :: f228 :: f229 :: f230 :: f231 :: f232 :: f233 :: f234 :: f235 :: f236 :: f237 :: f238 :: f239 :: f240 :: f241 :: f242 :: f243 :: f244 :: f245 :: f246 :: f247 :: f248 :: f249 :: f250 :: f251 :: f252 :: f253 :: f254 :: f255 :: f256 :: f257 :: f258 :: f259 :: f260 :: f261 :: f262 :: f263 :: f264 :: f265 :: f266 :: f267 :: f268 :: f269 :: f270 :: f271 :: f272 :: f273 :: f274 :: f275 :: f276 :: f277 :: f278 :: f279 :: f280 :: f281 :: f282 :: f283 :: f284 :: f285 :: f286 :: f287 :: f288 :: f289 :: f290 :: f291 :: []), []⟩ wB := by
  conv => arg 2; arg 1; whnf
  have HKB := Lib.hid hKB
  have CTB := Lib.hid cTB
  have HWB := Lib.hid hWB
  have RB := Lib.hid rB
  clear hKB cTB hWB rB
  go_loopw [14, 15] (fun v i wr' => BvR (sched blk) S g wB v i wr') (fun _ i _ => 64 - (intOf i).toNat)
  case atStart => exact ⟨0, g2, cB, by omega, rfl, rfl, RB.out, gg2, Below.refl _ _⟩
  case round =>
    clear RB
    obtain ⟨k, b, c, hk, rfl, rfl, hr, hgb, hbB⟩ := hrel
    rcases Nat.lt_or_ge k 64 with hlt2 | hge2
    · clear hexit
      --<B1
      obtain ⟨Rr, hRr⟩ : ∃ Rr, rnds KT (sched blk) S k = Rr := ⟨_, rfl⟩
      rw [hRr] at hr
      have hokR : Rr.ok := by rw [← hRr]; exact rnds_ok hok k
      have wa := hokR.1
      have we := hokR.2.2.2.2.1
      have e0 : wr.cell? ⟨b, 0, none⟩ = some (.int .u32 Rr.a) := hr.c0 (j := 0) (by omega)
      have e1 : wr.cell? ⟨b, 1, none⟩ = some (.int .u32 Rr.b) := hr.c0 (j := 1) (by omega)
      have e2 : wr.cell? ⟨b, 2, none⟩ = some (.int .u32 Rr.c) := hr.c0 (j := 2) (by omega)
      have e3 : wr.cell? ⟨b, 3, none⟩ = some (.int .u32 Rr.d) := hr.c0 (j := 3) (by omega)
      have e4 : wr.cell? ⟨b, 4, none⟩ = some (.int .u32 Rr.e) := hr.c0 (j := 4) (by omega)
      have e5 : wr.cell? ⟨b, 5, none⟩ = some (.int .u32 Rr.f) := hr.c0 (j := 5) (by omega)
      have e6 : wr.cell? ⟨b, 6, none⟩ = some (.int .u32 Rr.g) := hr.c0 (j := 6) (by omega)
      have e7 : wr.cell? ⟨b, 7, none⟩ = some (.int .u32 Rr.h) := hr.c0 (j := 7) (by omega)
      have ck := (HKB.out.below hbB).cx hlt2
      have cw' := (HWB.out.below hbB).cx hlt2
      have cT := (hbB.cell (p := ⟨tb, 0, none⟩) szB).trans CTB.out
      obtain ⟨kk, hkk⟩ : ∃ kk, dig KT k = kk := ⟨_, rfl⟩
      obtain ⟨mm, hmm⟩ : ∃ mm, dig (sched blk) k = mm := ⟨_, rfl⟩
      rw [hkk] at ck
      rw [hmm] at cw'
      have HNX := Lib.hid (show rnds KT (sched blk) S (k + 1) = rnd kk mm Rr by rw [← hkk, ← hmm, ← hRr]; rfl)
      have hki : (k : Int) < 64 := by omega
      have HBW := Lib.hid hbB
      have sbw := hbB.size
      clear hRr hokR hr hkk hmm hbB
      go_wp2_with fail
      go_quiet ((go_at_call 120; first | (with_reducible exact Calls.quiet_of_same (turn_q 6 rfl (by omega) Rr.e we _)) | (with_reducible exact quiet_add5 (turn_q 6 rfl (by omega) Rr.e we _)) | (with_reducible exact Calls.quiet_of_same (turn_q 11 rfl (by omega) Rr.e we _)) | (with_reducible exact quiet_add5 (turn_q 11 rfl (by omega) Rr.e we _)) | (with_reducible exact Calls.quiet_of_same (turn_q 25 rfl (by omega) Rr.e we _)) | (with_reducible exact quiet_add5 (turn_q 25 rfl (by omega) Rr.e we _))))
      go_wp2_with fail
      go_quiet ((go_at_call 120; first | (with_reducible exact Calls.quiet_of_same (turn_q 2 rfl (by omega) Rr.a wa _)) | (with_reducible exact quiet_add5 (turn_q 2 rfl (by omega) Rr.a wa _)) | (with_reducible exact Calls.quiet_of_same (turn_q 13 rfl (by omega) Rr.a wa _)) | (with_reducible exact quiet_add5 (turn_q 13 rfl (by omega) Rr.a wa _)) | (with_reducible exact Calls.quiet_of_same (turn_q 22 rfl (by omega) Rr.a wa _)) | (with_reducible exact quiet_add5 (turn_q 22 rfl (by omega) Rr.a wa _))))
      go_wp2_with fail
      go_region_held3 (fun w' => w'.cell? ⟨b, 0, none⟩ = some (.int .u32 Rr.a) ∧ w'.cell? ⟨b, 1, none⟩ = some (.int .u32 Rr.b) ∧ w'.cell? ⟨b, 2, none⟩ = some (.int .u32 Rr.c) ∧ w'.cell? ⟨b, 3, none⟩ = some (.int .u32 Rr.d) ∧ w'.cell? ⟨b, 4, none⟩ = some (.int .u32 Rr.e) ∧ w'.cell? ⟨b, 5, none⟩ = some (.int .u32 Rr.f) ∧ w'.cell? ⟨b, 6, none⟩ = some (.int .u32 Rr.g)) (first | exact ⟨e0, e1, e2, e3, e4, e5, e6⟩ | go_keep | assumption) (fail)
      all_goals
        go_wp2_with fail
        go_roundw
        case rel =>
          refine ⟨k + 1, wr.heap.size, 8, by omega, by go_num, rfl, ?_, by omega, (below_drewN HBW.out _).alloc sbw _⟩
          rw [HNX.out]
          refine rd8 _ _ _ _ _ _ _ _ _ _ (rnd kk mm Rr) ?_ rfl rfl rfl ?_ rfl rfl rfl
          · show _ = ad (t1f kk mm Rr) (t2f Rr)
            rw [t1f_eq, t2f_eq]; unfold ad; rfl
          · show _ = ad Rr.d (t1f kk mm Rr)
            rw [t1f_eq]; unfold ad; rfl
        case measure => simp [intOf]; omega
      --B1>
    · obtain rfl : k = 64 := by omega
      have HR := Lib.hid hr
      have HBB := Lib.hid hbB
      have HE := Lib.hid hexit
      clear hr hbB hexit
      go_wp2_with fail
      exact ⟨rfl, HE.out _ _ _ _ _ _ _ _ _ _ _ _ _ _ _ _ _ _ _ _ _ _ _ _ _ _ _ _ _ _ _ _ _ _ _ _ _ _ _ _ _ _ _ _ _ _ _ _ _ _ _ _ _ _ _ _ _ _ _ _ _ _ _ _ _ _ _ _ _ _ _ _ _ _ _ _ _ _ _ _ _ _ _ _ _ _ _ _ _ _ _ _ _ _ _ _ _ _ _ _ _ _ _ _ _ _ _ _ HR.out hgb HBB.out⟩
set_option maxHeartbeats 8000000 in
set_option maxRecDepth 100000 in
theorem out_loop {Po : Act → World → Prop} {s g c7 : Nat} {S : St} {wD : World} (hwd : Wds S.l) (hgD0 : g < wD.heap.size) (hMN : Mn 139 .u32 wD s (some ⟨g, 0, none⟩) 8 c7 S.l)
    (f0 f1 f2 f3 f4 f5 f7 f8 f9 f10 f11 f12 f13 f14 f15 f16 f17 f18 f19 f20 f23 f24 f25 f26 f27 f28 f29 f30 f31 f32 f33 f34 f35 f36 f37 f38 f39 f40 f41 f42 f43 f44 f45 f46 f47 f48 f49 f50 f51 f52 f53 f54 f55 f56 f57 f58 f59 f60 f61 f62 f63 f64 f65 f66 f67 f68 f69 f70 f71 f72 f73 f74 f75 f76 f77 f78 f79 f80 f81 f82 f83 f84 f85 f86 f87 f88 f89 f90 f91 f92 f93 f94 f95 f96 f97 f98 f99 f100 f101 f102 f103 f104 f105 f106 f107 f108 f109 f110 f111 f112 f113 f114 f115 f116 f117 f118 f119 f120 f121 f122 f123 f124 f125 f126 f127 f128 f129 f130 f131 f132 f133 f134 f135 f136 f137 f138 f139 f140 f141 f142 f143 f144 f145 f146 f147 f148 f149 f150 f151 f152 f153 f154 f155 f156 f157 f158 f159 f160 f161 f162 f163 f164 f165 f166 f167 f168 f169 f170 f171 f172 f173 f174 f175 f176 f177 f178 f179 f180 f181 f182 f183 f184 f185 f186 f187 f188 f189 f190 f191 f192 f193 f194 f195 f196 f197 f198 f199 f200 f201 f202 f203 f204 f205 f206 f207 f208 f209 f210 f211 f212 f213 f214 f215 f216 f217 f218 f219 f220 f221 f222 f223 f224 f225 f226 f227 f228 f229 f230 f231 f232 f233 f234 f235 f236 f237 f238 f239 f240 f241 f242 f243 f244 f245 f246 f247 f248 f249 f250 f251 f252 f253 f254 f255 f256 f257 f258 f259 f260 f261 f262 f263 f264 f265 f266 f267 f268 f269 f270 f271 f272 f273 f274 f275 f276 f277 f278 f279 f280 f281 f282 f283 f284 f285 f286 f287 f288 f289 f290 f291 : Value)
    (hexit : ∀ (e258 e259 e260 e261 e262 e263 e264 e265 e266 e267 e268 e269 e270 e271 e272 e273 e274 e275 e276 e277 e278 e279 e280 e281 e282 e283 e284 e285 e286 e287 e288 e289 e290 : Value) (v : Value) (wr : World), Own8 wr wD.heap.size v (wbs S.l) → Below wD.heap.size wD wr → Po ⟨List.toArray (f0 :: f1 :: f2 :: f3 :: f4 :: f5 :: (.slice (some ⟨g, 0, none⟩) 8 c7) :: f7 :: f8 :: f9 :: f10 :: f11 :: f12 :: f13 :: f14 :: f15 :: f16 :: f17 :: f18 :: f19 :: f20 :: (v) :: (.int .i64 ((8 : Nat) : Int)) :: f23 :: f24 :: f25 :: f26 :: f27 :: f28 :: f29 :: f30 :: f31 :: f32 :: f33 :: f34 :: f35 :: f36 :: f37 :: f38 :: f39 :: f40 :: f41 :: f42 :: f43 :: f44 :: f45 :: f46 :: f47 :: f48 :: f49 :: f50 :: f51 :: f52 :: f53 :: f54 :: f55 :: f56 :: f57 :: f58 :: f59 :: f60 :: f61 :: f62 :: f63 :: f64 :: f65 :: f66 :: f67 :: f68 :: f69 :: f70 :: f71 :: f72 :: f73 :: f74 :: f75 :: f76 :: f77 :: f78 :: f79 :: f80 :: f81 :: f82 :: f83 :: f84 :: f85 :: f86 :: f87 :: f88 :: f89 :: f90 :: f91 :: f92 :: f93 :: f94 :: f95 :: f96 :: f97 :: f98 :: f99 :: f100 :: f101 :: f102 :: f103 :: f104 :: f105 :: f106 :: f107 :: f108 :: f109 :: f110 :: f111 :: f112 :: f113 :: f114 :: f115 :: f116 :: f117 :: f118 :: f119 :: f120 :: f121 :: f122 :: f123 :: f124 :: f125 :: f126 :: f127 :: f128 :: f129 :: f130 :: f131 :: f132 :: f133 :: f134 :: f135 :: f136 :: f137 :: f138 :: f139 :: f140 :: f141 :: f142 :: f143 :: f144 :: f145 :: f146 :: f147 :: f148 :: f149 :: f150 :: f151 :: f152 :: f153 :: f154 :: f155 :: f156 :: f157 :: f158 :: f159 :: f160 :: f161 :: f162 :: f163 :: f164 :: f165 :: f166 :: f167 :: f168 :: f169 :: f170 :: f171 :: f172 :: f173 :: f174 :: f175 :: f176 :: f177 :: f178 :: f179 :: f180 :: f181 :: f182 :: f183 :: f184 :: f185 :: f186 :: f187 :: f188 :: f189 :: f190 :: f191 :: f192 :: f193 :: f194 :: f195 :: f196 :: f197 :: f198 :: f199 :: f200 :: f201 :: f202 :: f203 :: f204 :: f205 :: f206 :: f207 :: f208 :: f209 :: f210 :: f211 :: f212 :: f213 :: f214 :: f215 :: f216 :: f217 :: f218 :: f219 :: f220 :: f221 :: f222 :: f223 :: f224 :: f225 :: f226 :: f227 :: f228 :: f229 :: f230 :: f231 :: f232 :: f233 :: f234 :: f235 :: f236 :: f237 :: f238 :: f239 :: f240 :: f241 :: f242 :: f243 :: f244 :: f245 :: f246 :: f247 :: f248 :: f249 :: f250 :: f251 :: f252 :: f253 :: f254 :: f255 :: f256 :: f257 :: (e258) :: (e259) :: (e260) :: (e261) :: (e262) :: (e263) :: (e264) :: (e265) :: (e266) :: (e267) :: (e268) :: (e269) :: (e270) :: (e271) :: (e272) :: (e273) :: (e274) :: (e275) :: (e276) :: (e277) :: (e278) :: (e279) :: (e280) :: (e281) :: (e282) :: (e283) :: (e284) :: (e285) :: (e286) :: (e287) :: (e288) :: (e289) :: (e290) :: f291 :: []), []⟩ wr) :
    Code.wp Tryz.prog (.loop (dshaLoop 6)) (Only 12 Po) ⟨List.toArray (f0 :: f1 :: f2 :: f3 :: f4 :: f5 :: (.slice (some ⟨g, 0, none⟩) 8 c7) :: f7 :: f8 :: f9 :: f10 :: f11 :: f12 :: f13 :: f14 :: f15 :: f16 :: f17 :: f18 :: f19 :: f20 :: (.slice none 0 0) :: (.int .i64 0) :: f23 :: f24 :: f25 :: f26 :: f27 :: f28 :: f29 :: f30 :: f31 :: f32 :: f33 :: f34 :: f35 :: f36 :: f37 :: f38 :: f39 :: f40 :: f41 :: f42 :: f43 :: f44 :: f45 :: f46 :: f47 :: f48 :: f49 :: f50 :: f51 :: f52 :: f53 :: f54 :: f55 :: f56 :: f57 :: f58 :: f59 :: f60 :: f61 :: f62 :: f63 :: f64 :: f65 :: f66 :: f67 :: f68 :: f69 :: f70 :: f71 :: f72 :: f73 :: f74 :: f75 :: f76 :: f77 :: f78 :: f79 :: f80 :: f81 :: f82 :: f83 :: f84 :: f85 :: f86 :: f87 :: f88 :: f89 :: f90 :: f91 :: f92 :: f93 :: f94 :: f95 :: f96 :: f97 :: f98 :: f99 :: f100 :: f101 :: f102 :: f103 :: f104 :: f105 :: f106 :: f107 :: f108 :: f109 :: f110 :: f111 :: f112 :: f113 :: f114 :: f115 :: f116 :: f117 :: f118 :: f119 :: f120 :: f121 :: f122 :: f123 :: f124 :: f125 :: f126 :: f127 :: f128 :: f129 :: f130 :: f131 :: f132 :: f133 :: f134 :: f135 :: f136 :: f137 :: f138 :: f139 :: f140 :: f141 :: f142 :: f143 :: f144 :: f145 :: f146 :: f147 :: f148 :: f149 :: f150 :: f151 :: f152 :: f153 :: f154 :: f155 :: f156 :: f157 :: f158 :: f159 :: f160 :: f161 :: f162 :: f163 :: f164 :: f165 :: f166 :: f167 :: f168 :: f169 :: f170 :: f171 :: f172 :: f173 :: f174 :: f175 :: f176 :: f177 :: f178 :: f179 :: f180 :: f181 :: f182 :: f183 :: f184 :: f185 :: f186 :: f187 :: f188 :: f189 :: f190 :: f191 :: f192 :: f193 :: f194 :: f195 :: f196 :: f197 :: f198 :: f199 :: f200 :: f201 :: f202 :: f203 :: f204 :: f205 :: f206 :: f207 :: f208 :: f209 :: f210 :: f211 :: f212 :: f213 :: f214 :: f215 :: f216 :: f217 :: f218 :: f219 :: f220 :: f221 :: f222 :: f223 :: f224 :: f225 :: f226 :: f227 :: f228 :: f229 :: f230 :: f231 :: f232 :: f233 :: f234 :: f235 :: f236 :: f237 :: f238 :: f239 :: f240 :: f241 :: f242 :: f243 :: f244 :: f245 :: f246 :: f247 :: f248 :: f249 :: f250 :: f251 :: f252 :: f253 :: f254 :: f255 :: f256 :: f257 :: f258 :: f259 :: f260 :: f261 :: f262 :: f263 :: f264 :: f265 :: f266 :: f267 :: f268 :: f269 :: f270 :: f271 :: f272 :: f273 :: f274 :: f275 :: f276 :: f277 :: f278 :: f279 :: f280 :: f281 :: f282 :: f283 :: f284 :: f285 :: f286 :: f287 :: f288 :: f289 :: f290 :: f291 :: []), []⟩ wD := by
  conv => arg 2; arg 1; whnf
  have HMN := Lib.hid hMN
  have hgD : g < wD.heap.size := hgD0
  clear hMN
  go_loopw [21, 22] (fun v i wr => DoR S wD v i wr) (fun _ i _ => 8 - (intOf i).toNat)
  case atStart => exact ⟨0, Nat.zero_le _, rfl, Own8.nil _ _, Below.refl _ _⟩
  case round =>
    obtain ⟨k, hk, rfl, ho, hbD⟩ := hrel
    rcases Nat.lt_or_ge k 8 with hk8 | hk8
    · clear hexit
      obtain ⟨x, hx⟩ : ∃ x, dig S.l k = x := ⟨_, rfl⟩
      have hc := (HMN.out.below hbD).cell hk8
      have wx := dig_wd hwd k
      rw [hx] at hc wx
      have wx0 := wx.1
      have wx1 := wx.2
      have HX := Lib.hid hx
      have HO := Lib.hid ho
      have HBD2 := Lib.hid hbD
      have sbD := hbD.size
      have sgr : g < wr.heap.size := by omega
      have q0 : x.tdiv 16777216 = x / 16777216 := Int.tdiv_eq_ediv_of_nonneg wx0
      have q1 : x.tdiv 65536 = x / 65536 := Int.tdiv_eq_ediv_of_nonneg wx0
      have q2 : x.tdiv 256 = x / 256 := Int.tdiv_eq_ediv_of_nonneg wx0
      have r1 : (x / 65536).tmod 256 = x / 65536 % 256 := Int.tmod_eq_emod_of_nonneg (by omega)
      have r2 : (x / 256).tmod 256 = x / 256 % 256 := Int.tmod_eq_emod_of_nonneg (by omega)
      have r3 : x.tmod 256 = x % 256 := Int.tmod_eq_emod_of_nonneg wx0
      have o0 : IntKind.u32.wrap (x / 16777216) = x / 16777216 := by rw [IntKind.wrap_u32]; omega
      have o1 : IntKind.u32.wrap (x / 65536) = x / 65536 := by rw [IntKind.wrap_u32]; omega
      have o2 : IntKind.u32.wrap (x / 256) = x / 256 := by rw [IntKind.wrap_u32]; omega
      have o3 : IntKind.u8.wrap (x / 16777216) = x / 16777216 := by rw [IntKind.wrap_u8]; omega
      have o4 : IntKind.u8.wrap (x / 65536 % 256) = x / 65536 % 256 := by rw [IntKind.wrap_u8]; omega
      have o5 : IntKind.u8.wrap (x / 256 % 256) = x / 256 % 256 := by rw [IntKind.wrap_u8]; omega
      have o6 : IntKind.u8.wrap (x % 256) = x % 256 := by rw [IntKind.wrap_u8]; omega
      have hki : (k : Int) < 8 := by omega
      have hkc : (k : Int) < (c7 : Int) := by have := HMN.out.nc; omega
      have hlen := wbs_len (S.l.take k)
      rw [List.length_take, show S.l.length = 8 from rfl, Nat.min_eq_left (by omega)] at hlen
      have HLE := Lib.hid hlen
      have ho1 := ho
      unfold Own8 at ho1
      rw [hlen] at ho1
      have HO1 := Lib.hid ho1
      have h4k : 4 * k + 4 ≤ 36 := by omega
      clear hx ho hbD wx hlen ho1
      go_wp2_with fail
      go_region_held3 (fun w' => w'.cell? ⟨g, k, none⟩ = some (.int .u32 x)) (first | exact hc | exact k2 | go_keep | assumption)
        (first | (refine step_catK _ rfl (.tmp 262) (.tmp 289) 24 rfl wD.heap.size 1 5 .u8 Tryz.underlying24 info8u (by omega) _ (4 * k) (wbs (S.l.take k)) rfl (own_alloc1 HO1.out _).drew _ 4 4 _ rfl (rd4 _ _ _ _ _ _).drew (by omega) (by simp; omega) ?_; intro vn wn hn gn; have k2 : wn.cell? ⟨g, k, none⟩ = some (.int .u32 x) := (World.cell?_of_block (gn.block g (by simp; omega) (fun e => by have := (HO1.out.lt g e.symm).1; omega))).trans ((World.cell?_alloc_lt _ _ ⟨g, k, none⟩ (by show g < wr.heap.size; omega)).trans hc); have HNn := Lib.hid hn; have GN := Lib.hid gn; clear hn gn))
      have hb2 := own_below ((HBD2.out.alloc sbD _).drew) (own_alloc1 HO1.out _).drew GN.out (by simp; omega) (Nat.le_refl _)
      have e : wbs (S.l.take (k + 1)) = wbs (S.l.take k) ++ wb4 x := by
        rw [List.take_succ_eq_append_getElem (show k < S.l.length from hk8), wbs_append]
        have e : S.l[k]'(show k < S.l.length from hk8) = x := by rw [← HX.out]; exact (dig_lt (List.getElem?_eq_getElem _)).symm
        rw [e]; simp [wbs]
      have ho2 : Own8 wn wD.heap.size vn (wbs (S.l.take (k + 1))) := by
        unfold Own8
        rw [e, List.length_append, HLE.out]
        exact HNn.out
      have HO2 := Lib.hid ho2
      clear HNn GN ho2 e k2 q0 q1 q2 r1 r2 r3 o0 o1 o2 o3 o4 o5 o6 hc
      go_wp2_with fail
      go_roundw
      case rel => exact ⟨k + 1, by omega, by go_num, HO2.out, hb2⟩
      case measure => simp [intOf]; omega
    · obtain rfl : k = 8 := by omega
      rw [show S.l.take 8 = S.l from rfl] at ho
      have HO := Lib.hid ho
      have HB8 := Lib.hid hbD
      have HE := Lib.hid hexit
      clear ho hbD hexit
      go_wp2_with fail
      exact ⟨rfl, HE.out _ _ _ _ _ _ _ _ _ _ _ _ _ _ _ _ _ _ _ _ _ _ _ _ _ _ _ _ _ _ _ _ _ _ _ HO.out HB8.out⟩
end Go.Proofs.YtjalncdllegfoaaGreatDoor
/-
  What the document's Sha answers. (Its loops: Shl.)
-/
namespace Go.Proofs.YtjalncdllegfoaaGreatDoor
open Go.RowKit
set_option linter.unusedVariables false
set_option maxHeartbeats 8000000 in
set_option maxRecDepth 100000 in
theorem dsha_any {AK AH : Option Addr} {cK cH : Nat} {A : Option Addr} {n c : Nat} {l : List Int} {w : World} (hK : Rd .u32 w AK 64 KT) (hH : Rd .u32 w AH 8 H0.l) (hb : Bs w A n c l) (hn : n ≤ 1000000) :
    Calls Tryz.prog 92 #[.agg #[.slice AK 64 cK, .slice AH 8 cH], .slice A n c] w (AnsOb (sha l) w) := by
  obtain ⟨bK, oK, rfl, -, -⟩ := hK.cells (by decide)
  have hl := hb.rd.len
  have hd := hb.dig_
  have HRD := Lib.hid hb.rd
  have HL := Lib.hid hl
  have HD := Lib.hid hd
  have HK := Lib.hid hK
  have HH := Lib.hid hH
  clear hl hd hb hK hH
  obtain ⟨W0, hW0⟩ : ∃ W0, w.alloc (.cells #[.slice (some ⟨bK, oK, none⟩) 64 cK, .slice AH 8 cH] 110) = W0 := ⟨_, rfl⟩
  have S0 : W0.heap.size = w.heap.size + 1 := by rw [← hW0]; simp
  have HBX := Lib.hid (show W0.heap[w.heap.size]? = some (.cells #[.slice (some ⟨bK, oK, none⟩) 64 cK, .slice AH 8 cH] 110 (0, 0)) by rw [← hW0]; exact heap_alloc_new w _)
  have HO0 := Lib.hid (own_none_at W0 5 .u8 (base := w.heap.size + 1) S0 (Nat.le_refl _))
  have HR0 := Lib.hid (show Rd .u8 (W0.alloc (.cells #[] 5)) A n l by rw [← hW0]; exact (HRD.out.alloc _).alloc _)
  have HB0 := Lib.hid (show Below w.heap.size w W0 by rw [← hW0]; exact (Below.refl _ w).alloc (Nat.le_refl _) _)
  have HB00 := Lib.hid (show Below (w.heap.size + 1) W0 (W0.alloc (.cells #[] 5)) from (Below.refl _ W0).alloc (by omega) _)
  have HK0 := Lib.hid (HK.out.below HB0.out)
  have HH0 := Lib.hid (HH.out.below HB0.out)
  have HW0 := Lib.hid hW0
  have HS0 := Lib.hid S0
  clear hW0
  go_enter Tryz.func92, Tryz.ntmps92
  go_wp2_with (at_builtin; rw [HW0.out]; refine wpList_cat8 _ rfl (.tmp 23) (.tmp 24) 24 rfl (w.heap.size + 1) 5 .u8 Tryz.underlying24 info8u _ 0 [] rfl HO0.out A n c l rfl HR0.out (by omega) (by simp; omega) ?_)
  rintro v1 w1 h1 g1
  have b1 := own_below HB00.out HO0.out g1 (by simp; omega) (Nat.le_refl _)
  have HO1 := Lib.hid (show Own8 w1 (w.heap.size + 1) v1 l from Own8.app (xs := []) rfl HL.out (by simpa using h1))
  have HB1 := Lib.hid b1
  have s1 := b1.size
  rw [S0] at s1
  clear h1 g1 b1
  obtain ⟨s, hs⟩ : ∃ s, w.heap.size + 1 = s := ⟨_, rfl⟩
  rw [hs] at HO1 HB1 s1
  have HS := Lib.hid hs
  clear hs
  go_wp2_with (at_builtin; refine wpList_app1 _ rfl (.tmp 26) (.tmp 27) 24 rfl s 1 5 .u8 Tryz.underlying24 info8u (by omega) v1 l.length l rfl (HO1.out.alloc _) w1.heap.size 128 rfl (cell_one _ _ _) (by simp) (by rw [HL.out]; omega) (by simp; omega) ?_)
  rintro v2 w2 h2 g2
  have b2 := own_below (HB1.out.alloc s1 _) (HO1.out.alloc _) g2 (by simp; omega) (Nat.le_refl _)
  have HO2 := Lib.hid (show Own8 w2 s v2 (l ++ 128 :: List.replicate 0 0) from Own8.app rfl rfl (by simpa using h2))
  have HB2 := Lib.hid b2
  clear h2 g2 b2 HB1 HO1 s1 HR0 HB00 HO0
  go_wp2_with fail
  go_loopw [5] (fun v wr => FlR l s W0 v wr) (fun v _ => n + 1 + fillN n - sln v)
  case atStart => exact ⟨0, Nat.zero_le _, HO2.out, HB2.out⟩
  case round =>
    clear HO2 HB2
    obtain ⟨j, hj, ho, hb⟩ := hrel
    rw [HL.out] at hj
    obtain ⟨Av, cv, rfl, hrv, hcv, hAv⟩ := ho.rd
    have hlen : (l ++ 128 :: List.replicate j 0).length = n + 1 + j := by simp [HL.out]; omega
    rw [hlen] at hrv hcv
    obtain ⟨m, hm⟩ : ∃ m, n + 1 + j = m := ⟨_, rfl⟩
    rw [hm] at hrv hcv
    rw [hlen, hm] at ho ⊢
    have hft := fill_test n j hj
    have hfl := fillN_lt n
    rw [hm] at hft
    have HM := Lib.hid hm
    have HO := Lib.hid ho
    have HB := Lib.hid hb
    have HLEN := Lib.hid hlen
    have sb := hb.size
    rw [S0, HS.out] at sb
    clear hm ho hb hlen hcv hAv
    by_cases hjf : j = fillN n
    · have ht : ((m : Int) % 64 != 56) = false := by have := hft.2 hjf; simp; omega
      have hm2 : m ≤ 1000064 := by have := HM.out; omega
      have hjl : j = fillN l.length := by rw [HL.out]; exact hjf
      subst hjl
      have hn64 : 8 * (n : Int) < 18446744073709551616 := by omega
      clear hft hjf hfl hj
      go_wp2_with fail
      refine (number_any (8 * (n : Int)) (by omega) hn64 _).mono ?_
      rintro e w4 ⟨v4, rfl, ho4, b4⟩
      obtain ⟨A4, c4, rfl, hr4, -, -⟩ := ho4.rd
      rw [be8_len] at hr4 ⊢
      have HO4 := Lib.hid (HO.out.below b4)
      have HR4 := Lib.hid hr4
      have B4 := Lib.hid (HB.out.trans (b4.mono (by omega)))
      have s4 := b4.size
      have hmm : m + 8 ≤ 8796093022208 := by omega
      clear ho4 hr4 b4 ht
      go_wp2_with (at_builtin; refine wpList_cat8 _ rfl (.tmp 36) (.tmp 41) 24 rfl s 5 .u8 Tryz.underlying24 info8u _ _ _ rfl HO4.out _ _ _ _ rfl HR4.out (by rw [HLEN.out, HM.out]; exact hmm) (by omega) ?_)
      rintro v5 w5 h5 g5
      have b5 := own_below B4.out HO4.out g5 (by omega) (Nat.le_refl _)
      obtain ⟨L, hL⟩ : ∃ L, l ++ pad l.length = L := ⟨_, rfl⟩
      have ho5 : Own8 w5 s v5 L := by
        rw [← hL, pad_split, HL.out]
        refine Own8.app rfl (be8_len _) ?_
        simpa [HL.out] using h5
      have HO5 := Lib.hid ho5
      have B5 := Lib.hid b5
      have hLd : Dig 256 L := by rw [← hL]; exact Dig.append HD.out (pad_dig _)
      have HLD := Lib.hid hLd
      have s5 := b5.size
      rw [S0] at s5
      have HLL := Lib.hid hL
      obtain ⟨M, hM⟩ : ∃ M, L.length = 64 * M := ⟨L.length / 64, by have := pad_all l.length; rw [← hL, List.length_append]; omega⟩
      have hM2 : M ≤ 20000 := by
        have h1 := hM
        rw [← hL, List.length_append, pad_len] at h1
        have h2 := fillN_lt l.length
        have := HL.out
        omega
      obtain ⟨A5, c5, rfl, hr5, hc5, ha5⟩ := ho5.rd
      obtain ⟨N, hN⟩ : ∃ N, L.length = N := ⟨_, rfl⟩
      have HNP := Lib.hid (show 0 < N by rw [← hN, ← hL, List.length_append, pad_len]; omega)
      rw [hN] at hr5 hc5 hM ⊢
      rw [hN] at HO5
      have HMM := Lib.hid hM
      have HM2 := Lib.hid hM2
      have HN := Lib.hid hN
      clear h5 g5 HO4 HR4 B4 HO HB HLEN hL hLd ho5 b5 hmm hrv hM hM2 hN
      obtain ⟨bL, oL, rfl, -, -⟩ := hr5.cells HNP.out
      have cT1 : w5.cell? ⟨w.heap.size, 1, none⟩ = some (.slice AH 8 cH) := (B5.out.cell (p := ⟨w.heap.size, 1, none⟩) (by have := HS.out; show w.heap.size < s; omega)).trans (cell_of_row W0 _ 1 _ _ _ HBX.out)
      have HR6 := Lib.hid ((HH0.out.below (B5.out.mono (by have := HS.out; omega))).alloc (.cells #[] 139))
      have HO6 := Lib.hid (own_none_at w5 139 .u32 (base := w5.heap.size) (q := w5.heap.size) rfl (Nat.le_refl _))
      have lt5 : w.heap.size < w5.heap.size := by omega
      have HS5 := Lib.hid (show s ≤ w5.heap.size by have := HS.out; omega)
      have HRL := Lib.hid hr5
      clear hc5 ha5 sb s4 s5 hn64 hm2 hn S0 hr5 HO5
      go_wp2_with (at_builtin; refine wpList_catK _ rfl (.tmp 43) (.tmp 45) 108 rfl w5.heap.size 4 139 .u32 Tryz.underlying108 info32 (by omega) _ 0 [] rfl HO6.out AH 8 cH H0.l rfl HR6.out (by omega) (by simp) ?_)
      rintro v7 w7 h7 g7
      have b57 := own_below ((Below.refl w5.heap.size w5).alloc (Nat.le_refl _) _) HO6.out g7 (by simp) (Nat.le_refl _)
      obtain ⟨A7, c7, rfl, m7⟩ := mn_own (t := 139) (k := .u32) (xs := H0.l) (n := 8) (by simpa using h7)
      obtain ⟨g, rfl, hg5, hg7⟩ := m7.at0 (by omega)
      have HM7 := Lib.hid (m7.base_ HS5.out)
      have B7 := Lib.hid (B5.out.trans (b57.mono HS5.out))
      have HL7 := Lib.hid (HRL.out.below b57)
      have hsg : s ≤ g := by have := HS5.out; omega
      have hws : w.heap.size < s := by have := HS.out; omega
      have HB0s := Lib.hid (show Below W0.heap.size W0 w7 from B7.out.mono (by have := HS0.out; have := HS.out; omega))
      have HK7 := Lib.hid (HK0.out.below HB0s.out)
      have HLg := Lib.hid (show ∀ a, some (⟨bL, oL, none⟩ : Addr) = some a → a.block < w7.heap.size → ¬ a.block = g from fun a ha _ => by have := HRL.out.blk_lt HNP.out ha; omega)
      have HKg := Lib.hid (show ∀ a, some (⟨bK, oK, none⟩ : Addr) = some a → a.block < w7.heap.size → ¬ a.block = g from fun a ha _ => by have := HK0.out.blk_lt (by omega) ha; have := HS0.out; have := HS.out; omega)
      have cT7 : w7.cell? ⟨w.heap.size, 0, none⟩ = some (.slice (some ⟨bK, oK, none⟩) 64 cK) := (B7.out.cell (p := ⟨w.heap.size, 0, none⟩) hws).trans (cell_of_row W0 _ 0 _ _ _ HBX.out)
      have CT7 := Lib.hid cT7
      clear cT7 cT1 lt5 h7 g7 b57 m7 HR6 HO6 HRL HB0s HK0 HH0
      go_wp2_with fail
      go_loopw [7] (fun i wr => DsR L M s W0 w7 g c7 i wr) (fun i _ => N - (intOf i).toNat)
      case atStart => exact ⟨0, Nat.zero_le _, rfl, HM7.out, Kept.refl _ _, B7.out⟩
      case round =>
        clear HM7 B7
        obtain ⟨j, hj, rfl, hm, hk, hb⟩ := hrel
        obtain ⟨S, hS⟩ : ∃ S, absb H0 L j = S := ⟨_, rfl⟩
        rw [hS] at hm
        have HSe := Lib.hid hS
        have hok : S.ok := by rw [← hS]; exact absb_ok H0_ok _ _
        obtain ⟨p, hp⟩ : ∃ p, 64 * j = p := ⟨_, rfl⟩
        rw [hp]
        have HP := Lib.hid hp
        have HMN := Lib.hid hm
        have HKE := Lib.hid hk
        have HB := Lib.hid hb
        have HLw := Lib.hid (hk.rd HL7.out HLg.out)
        have HKw := Lib.hid (hk.rd HK7.out HKg.out)
        have cT0 : wr.cell? ⟨w.heap.size, 0, none⟩ = some (.slice (some ⟨bK, oK, none⟩) 64 cK) := (hk.cell (p := ⟨w.heap.size, 0, none⟩) (by show w.heap.size < w7.heap.size; omega) (by show ¬ w.heap.size = g; omega)).trans CT7.out
        have CT0 := Lib.hid cT0
        have szg : g < wr.heap.size := by have := hk.size; omega
        have szw : w.heap.size < wr.heap.size := by omega
        clear hS hm hk hb cT0 hp
        rcases Nat.lt_or_ge j M with hlt | hge
        · have hpN : (p : Int) < (N : Int) := by have := HP.out; have := HMM.out; omega
          have hp40 : (p : Int) ≤ 1280000 := by have := HP.out; have := HM2.out; omega
          obtain ⟨blk, hblk⟩ : ∃ blk, (L.drop (64 * j)).take 64 = blk := ⟨_, rfl⟩
          have HBLK := Lib.hid hblk
          have HBD := Lib.hid (show Dig 256 blk by rw [← hblk]; exact (HLD.out.drop _).take _)
          obtain ⟨wo, rfl⟩ : ∃ wo, wo = wr := ⟨_, rfl⟩
          clear hblk
          go_wp2_with fail
          refine only_use (words_loop hlt HP.out HMM.out hpN hp40 HLD.out HBLK.out HLw.out _ _ _ _ _ _ _ _ _ _ _ _ _ _ _ _ _ _ _ _ _ _ _ _ _ _ _ _ _ _ _ _ _ _ _ _ _ _ _ _ _ _ _ _ _ _ _ _ _ _ _ _ _ _ _ _ _ _ _ _ _ _ _ _ _ _ _ _ _ _ _ _ _ _ _ _ _ _ _ _ _ _ _ _ _ _ _ _ _ _ _ _ _ _ _ _ _ _ _ _ _ _ _ _ _ _ _ _ _ _ _ _ _ _ _ _ _ _ _ _ _ _ _ _ _ _ _ _ _ _ _ _ _ _ _ _ _ _ _ _ _ _ _ _ _ _ _ _ _ _ _ _ _ _ _ _ _ _ _ _ _ _ _ _ _ _ _ _ _ _ _ _ _ _ _ _ _ _ _ _ _ _ _ _ _ _ _ _ _ _ _ _ _ _ _ _ _ _ _ _ _ _ _ _ _ _ _ _ _ _ _ _ _ _ _ _ _ _ _ _ _ _ _ _ _ _ _ _ _ _ _ _ _ _ _ _ _ _ _ _ _ _ _ _ _ _ _ _ _ _ _ _ _ _ _ _ _ _ _ _ _ _ _ _ _ _ _ _ _ _ _ _ _ _ _ _ _ _ _ _ _ _ _ _ _ _ _ _ ?_)
          intro e10 e11 e12 e13 e53 e54 e55 e56 e57 e58 e59 e60 e61 e62 e63 e64 e65 e66 e67 e68 e69 e70 e71 e72 e73 e74 e75 e76 e77 e78 e79 e80 e81 e82 e83 e84 e85 e86 e87 e88 e89 e90 e91 e92 e93 e94 e95 e96 e97 e98 e99 e100 e101 e102 e103 e104 e105 e106 e107 e108 e109 e110 e111 e112 e113 e114 e115 e116 e117 e118 e119 e120 e121 e122 e123 e124 e125 e126 e127 e128 e129 e130 e131 e132 e133 e134 e135 e136 e137 v wr ho hbA
          obtain ⟨Aw, cw, rfl, hrw, -, -⟩ := own_rd ho
          obtain ⟨bw, ow, rfl, hbw, -⟩ := hrw.cells (by decide)
          have sbA := hbA.size
          have mh := HMN.out.below hbA
          have HMA := Lib.hid mh
          have HRH := Lib.hid (mh.rd.alloc (.cells #[] 139))
          have HOV := Lib.hid (own_none_at wr 139 .u32 (base := wr.heap.size) (q := wr.heap.size) rfl (Nat.le_refl _))
          have HRW := Lib.hid hrw
          have HBA := Lib.hid hbA
          clear ho hbA hrw mh hbw
          go_wp2_with (at_builtin; refine wpList_catK _ rfl (.tmp 138) (.tmp 139) 108 rfl wr.heap.size 4 139 .u32 Tryz.underlying108 info32 (by omega) _ 0 [] rfl HOV.out _ 8 c7 S.l rfl HRH.out (by omega) (by simp) ?_)
          rintro vB wB hB gB
          have bB := own_below ((Below.refl wr.heap.size wr).alloc (Nat.le_refl _) _) HOV.out gB (by simp) (Nat.le_refl _)
          obtain ⟨AB, cB, rfl, mB⟩ := mn_own (t := 139) (k := .u32) (xs := S.l) (n := 8) (by simpa using hB)
          obtain ⟨g2, rfl, hg2, hg2l⟩ := mB.at0 (by omega)
          have RB := Lib.hid mB.rd
          have HKB := Lib.hid ((HKw.out.below HBA.out).below bB)
          have CTB := Lib.hid ((bB.cell (p := ⟨w.heap.size, 0, none⟩) (by show w.heap.size < wr.heap.size; omega)).trans ((HBA.out.cell (p := ⟨w.heap.size, 0, none⟩) szw).trans CT0.out))
          have HWB := Lib.hid (HRW.out.below bB)
          have HMB := Lib.hid (HMA.out.below bB)
          have HBB := Lib.hid (HBA.out.trans (bB.mono sbA))
          have gg2 : g < g2 := by omega
          have szB : w.heap.size < wB.heap.size := by have := bB.size; omega
          have sob : wo.heap.size ≤ wB.heap.size := by have := bB.size; omega
          clear hB gB bB mB HRW HMA HRH HOV hg2 hg2l
          go_wp2_with fail
          have gBs : g < wB.heap.size := by omega
          refine only_use (rounds_loop hok gBs gg2 szB HKB.out CTB.out HWB.out RB.out _ _ _ _ _ _ _ _ _ _ _ _ _ _ _ _ _ _ _ _ _ _ _ _ _ _ _ _ _ _ _ _ _ _ _ _ _ _ _ _ _ _ _ _ _ _ _ _ _ _ _ _ _ _ _ _ _ _ _ _ _ _ _ _ _ _ _ _ _ _ _ _ _ _ _ _ _ _ _ _ _ _ _ _ _ _ _ _ _ _ _ _ _ _ _ _ _ _ _ _ _ _ _ _ _ _ _ _ _ _ _ _ _ _ _ _ _ _ _ _ _ _ _ _ _ _ _ _ _ _ _ _ _ _ _ _ _ _ _ _ _ _ _ _ _ _ _ _ _ _ _ _ _ _ _ _ _ _ _ _ _ _ _ _ _ _ _ _ _ _ _ _ _ _ _ _ _ _ _ _ _ _ _ _ _ _ _ _ _ _ _ _ _ _ _ _ _ _ _ _ _ _ _ _ _ _ _ _ _ _ _ _ _ _ _ _ _ _ _ _ _ _ _ _ _ _ _ _ _ _ _ _ _ _ _ _ _ _ _ _ _ _ _ _ _ _ _ _ _ _ _ _ _ _ _ _ _ _ _ _ _ _ _ _ _ _ _ _ _ _ _ _ _ _ _ _ _ _ _ _ _ _ _ _ _ _ _ _ ?_)
          intro e16 e17 e18 e19 e141 e142 e143 e144 e145 e146 e147 e148 e149 e150 e151 e152 e153 e154 e155 e156 e157 e158 e159 e160 e161 e162 e163 e164 e165 e166 e167 e168 e169 e170 e171 e172 e173 e174 e175 e176 e177 e178 e179 e180 e181 e182 e183 e184 e185 e186 e187 e188 e189 e190 e191 e192 e193 e194 e195 e196 e197 e198 e199 e200 e201 e202 e203 e204 e205 e206 e207 e208 e209 e210 e211 e212 e213 e214 e215 e216 e217 e218 e219 e220 e221 e222 e223 e224 e225 e226 e227 e228 e229 e230 e231 e232 e233 e234 e235 e236 e237 e238 e239 e240 e241 b c wr hr hgb hbB
          obtain ⟨Rr, hRr⟩ : ∃ Rr, rnds KT (sched blk) S 64 = Rr := ⟨_, rfl⟩
          rw [hRr] at hr
          have HRR := Lib.hid hRr
          obtain ⟨wC, rfl⟩ : ∃ wC, wC = wr := ⟨_, rfl⟩
          have HMC := Lib.hid (HMB.out.below hbB)
          have HBC := Lib.hid (HB.out.trans ((HBB.out.trans (hbB.mono sob)).mono (by omega)))
          have HKC := Lib.hid ((HKE.out.below HBB.out).below hbB)
          have HRC := Lib.hid hr
          clear hRr hr hbB
          go_wp2_with fail
          go_loopw [20] (fun i wr' => CcS S Rr s g c7 W0 wC i wr') (fun i _ => 8 - (intOf i).toNat)
          case atStart => exact ⟨0, Nat.zero_le _, rfl, HMC.out, Kept.refl _ _, HBC.out⟩
          case round =>
            obtain ⟨k, hk, rfl, hm, hkp, hb⟩ := hrel
            rcases Nat.lt_or_ge k 8 with hlt3 | hge3
            · --<C1
              have ch := hm.cell hlt3
              rw [hmx_dig S Rr hlt3] at ch
              have fz := hm.frozen hlt3
              have cv := (hkp.rd HRC.out (fun a ha _ => by injection ha with ha; subst ha; show ¬ b = g; omega)).c0 hlt3
              have hst := hm.set hlt3 (ad (dig S.l k) (dig Rr.l k))
              rw [hmx_set S Rr hlt3] at hst
              obtain ⟨x, hx⟩ : ∃ x, dig S.l k = x := ⟨_, rfl⟩
              obtain ⟨y, hy⟩ : ∃ y, dig Rr.l k = y := ⟨_, rfl⟩
              rw [hx] at ch hst
              rw [hy] at cv hst
              have HST := Lib.hid hst
              have HKP := Lib.hid hkp
              have HBP := Lib.hid hb
              have hki : (k : Int) < 8 := by omega
              have hgb2 : ¬ b = g := by omega
              have hgb3 : ¬ g = b := by omega
              clear hm hkp hb hst hx hy
              go_wp2_with fail
              go_region
              all_goals
                go_wp2_with fail
                go_roundw
                case rel => exact ⟨k + 1, by omega, by go_num, HST.out.drew, (HKP.out.set rfl k (.int .u32 (ad x y))).drew, (HBP.out.setCell hsg (.int .u32 (ad x y))).drew⟩
                case measure => simp [intOf]; omega
              --C1>
            · --<C2
              obtain rfl : k = 8 := by omega
              rw [hmx_end] at hm
              have HMm := Lib.hid hm
              have HKm := Lib.hid (HKC.out.trans hkp)
              have HBm := Lib.hid hb
              clear hm hkp hb hk hge3
              go_wp2_with fail
              go_roundw
              case rel =>
                refine ⟨j + 1, hlt, ?_, ?_, HKm.out, HBm.out⟩
                · rw [← HP.out]; go_num
                · have e : absb H0 L (j + 1) = addS S Rr := by
                    show comp (absb H0 L j) ((L.drop (64 * j)).take 64) = _
                    rw [HSe.out, HBLK.out, ← HRR.out]; rfl
                  rw [e]; exact HMm.out
              case measure => simp [intOf]; omega
              --C2>
        · --<D
          obtain rfl : j = M := by omega
          have hpN : N = p := by have := HP.out; have := HMM.out; omega
          subst hpN
          have hwd := St.wds hok
          have HMNs := Lib.hid HMN.out
          go_wp2_with fail
          obtain ⟨wD, rfl⟩ : ∃ wD, wD = wr := ⟨_, rfl⟩
          refine only_use (out_loop hwd szg HMNs.out _ _ _ _ _ _ _ _ _ _ _ _ _ _ _ _ _ _ _ _ _ _ _ _ _ _ _ _ _ _ _ _ _ _ _ _ _ _ _ _ _ _ _ _ _ _ _ _ _ _ _ _ _ _ _ _ _ _ _ _ _ _ _ _ _ _ _ _ _ _ _ _ _ _ _ _ _ _ _ _ _ _ _ _ _ _ _ _ _ _ _ _ _ _ _ _ _ _ _ _ _ _ _ _ _ _ _ _ _ _ _ _ _ _ _ _ _ _ _ _ _ _ _ _ _ _ _ _ _ _ _ _ _ _ _ _ _ _ _ _ _ _ _ _ _ _ _ _ _ _ _ _ _ _ _ _ _ _ _ _ _ _ _ _ _ _ _ _ _ _ _ _ _ _ _ _ _ _ _ _ _ _ _ _ _ _ _ _ _ _ _ _ _ _ _ _ _ _ _ _ _ _ _ _ _ _ _ _ _ _ _ _ _ _ _ _ _ _ _ _ _ _ _ _ _ _ _ _ _ _ _ _ _ _ _ _ _ _ _ _ _ _ _ _ _ _ _ _ _ _ _ _ _ _ _ _ _ _ _ _ _ _ _ _ _ _ _ _ _ _ _ _ _ _ _ _ _ _ _ _ _ _ _ _ _ _ _ _ _ ?_)
          intro e258 e259 e260 e261 e262 e263 e264 e265 e266 e267 e268 e269 e270 e271 e272 e273 e274 e275 e276 e277 e278 e279 e280 e281 e282 e283 e284 e285 e286 e287 e288 e289 e290 v wr ho hbD
          have e1 : wbs S.l = sha l := by
            unfold sha shaS
            rw [HLL.out, ← List.length_append, HLL.out, HN.out, HMM.out, Nat.mul_div_cancel_left _ (by omega), HSe.out]
          rw [e1] at ho
          go_wp2_with fail
          go_ret
          exact ⟨_, rfl, ho.base (by omega), HB0.out.trans ((HB.out.trans (hbD.mono (by omega))).mono (by omega))⟩
    · have ht : ((m : Int) % 64 != 56) = true := by have := mt hft.1 hjf; simp; omega
      clear hft
      go_wp2_with (at_builtin; refine wpList_app1 _ rfl (.tmp 33) (.tmp 34) 24 rfl s 1 5 .u8 Tryz.underlying24 info8u (by omega) _ _ _ rfl (HO.out.alloc _) wr.heap.size 0 rfl (cell_one _ _ _) (by simp) (by have := HLEN.out; omega) (by simp; omega) ?_)
      rintro v3 w3 h3 g3
      have b3 := own_below (HB.out.alloc (by omega) _) (HO.out.alloc _) g3 (by simp; omega) (Nat.le_refl _)
      have ho3 : Own8 w3 s v3 (l ++ 128 :: List.replicate (j + 1) 0) := by
        rw [← fill_next]
        exact Own8.app rfl rfl (by simpa using h3)
      have HO3 := Lib.hid ho3
      have hln3 : sln v3 = m + 1 := by
        obtain ⟨A3, c3, rfl, -, -, -⟩ := ho3.rd
        show (l ++ 128 :: List.replicate (j + 1) 0).length = m + 1
        simp [HL.out]; have := HM.out; omega
      have HLN3 := Lib.hid hln3
      clear h3 g3 ho3 hln3
      go_wp2_with fail
      go_roundw
      case rel => exact ⟨j + 1, by rw [HL.out]; omega, HO3.out, b3⟩
      case measure => rw [HLN3.out]; have := HM.out; simp [sln]; omega
end Go.Proofs.YtjalncdllegfoaaGreatDoor
/-
  What the document's Made answers: the tables.
-/
namespace Go.Proofs.YtjalncdllegfoaaGreatDoor
open Go.RowKit
set_option linter.unusedVariables false
/-- The roots of the first 64 primes, the third and the second. -/
def RK : List Int := [5411319704, 6194414737, 7344290767, 8215976869, 9551921755, 10098905585, 11043570340, 11460697813, 12214315672, 13195500289, 13492127166, 14311783875, 14809980276, 15046980094, 15499789991, 16133124468, 16720292289, 16907126662, 17444216262, 17784676812, 17950125167, 18429019306, 18734950876, 19175934170, 19734090066, 20001703533, 20132865992, 20390182855, 20516441075, 20764397895, 21588763473, 21813078375, 22141143685, 22248366392, 22769593852, 22871018771, 23170020180, 23461497531, 23651862830, 23931792517, 24205322401, 24295138891, 24734567280, 24820601251, 24990902297, 25075189284, 25569408389, 26045227120, 26200031510, 26276752392, 26428864332, 26653801653, 26727943347, 27092625994, 27306805839, 27517677555, 27725365998, 27793908591, 27997534228, 28131656200, 28198240250, 28526537963, 28973835255, 29099129074]
def RH : List Int := [6074000999, 7439101573, 9603838834, 11363415354, 14244795007, 15485724812, 17708603819, 18721328409]
theorem RK_ok : ∀ i, i < 64 → CbR (dig PL i) (dig RK i) ∧ dig RK i % 4294967296 = dig KT i := by unfold CbR; decide +kernel
theorem RH_ok : ∀ i, i < 8 → SqR (dig PL i) (dig RH i) ∧ dig RH i % 4294967296 = dig H0.l i := by unfold SqR; decide +kernel
theorem PL_bd : ∀ i, i < 64 → 2 ≤ dig PL i ∧ dig PL i ≤ 311 := by decide +kernel
theorem root_k {p r kt : Int} (p0 : 0 ≤ p) (p1 : p < 65536) (h : CbR p r) (hk : r % 4294967296 = kt) (w : World) :
    Calls Tryz.prog 90 #[.int .u64 p, .bool true] w fun e w' => e = .returned (.int .u64 kt) ∧ w = w' := by
  subst hk
  exact root_cb p r p0 p1 h w
theorem root_h {p r kt : Int} (p0 : 0 ≤ p) (p1 : p < 65536) (h : SqR p r) (hk : r % 4294967296 = kt) (w : World) :
    Calls Tryz.prog 90 #[.int .u64 p, .bool false] w fun e w' => e = .returned (.int .u64 kt) ∧ w = w' := by
  subst hk
  exact root_sq p r p0 p1 h w
theorem info_u32 : (Tryz.prog.info? 139).map (fun i => (i.zero, i.size, i.bytes)) = some (some (.int .u32 0), 1, 4) := by kernel_rfl
/-- One word more, as a step of a region that draws. -/
theorem step_u32 {ops : Array Oper} {o : Oper} {a : Act} {w : World} {K : Act → World → Prop} {Q : Exit → Act → World → Prop} {E : Prop} (hgd : o.guard = none) (s x : Operand)
    (ho : o.op = .call { callee := .builtin .append, args := #[s, x], argTypes := #[108, 108] })
    (base : Nat) (v : Value) (n : Nat) (L : List Int) (hs : a.eval s = v) (hown : w.ownsRow base 139 1 v n (L.map (Value.int .u32)))
    (g0 : Nat) (y : Int) (hx : a.eval x = .slice (some ⟨g0, 0, none⟩) 1 1) (hc : w.cell? ⟨g0, 0, none⟩ = some (.int .u32 y)) (hn : n ≤ 1000) (hbase : base ≤ w.heap.size) (H : Nat) (hH : w.heap.size = H)
    (h : ∀ g cap w', w'.ownsRow base 139 1 (.slice (some ⟨g, 0, none⟩) (n + 1) cap) (n + 1) ((L ++ [y]).map (Value.int .u32)) → w.grownBy w' v.ownBlock → (v.ownBlock = some g ∨ g = H) → g < w'.heap.size → K (a.put o.dst (.slice (some ⟨g, 0, none⟩) (n + 1) cap)) w') :
    if Region.wanted o (yielded ops a.tmps) = true then Oper.wp Tryz.prog o a w K Q else E := by
  obtain ⟨i0, h1, h2, h3, h4⟩ := info_parts info_u32
  refine step_append_lies w hgd s x 108 ho base 139 i0 (.int .u32 0) 1 4 Tryz.underlying108 h1 h2 h3 h4 rfl (by decide) v n _ hs hown ⟨g0, 0, none⟩ 1 1 [.int .u32 y] hx rfl ?_ ?_ (by omega) (by unfold maxLen; omega) (by omega) hbase H hH (fun g cap w' a b c d => h g cap w' (by simpa using a) b c d)
  · intro j u hj
    match j, hj with
    | 0, hj => simp at hj; subst hj; simpa [Addr.add] using hc
  · intro u hu; simp at hu; subst hu; rfl
/-- All blocks below B but t are as they were. -/
def Kp (B t : Nat) (w w' : World) : Prop := w.heap.size ≤ w'.heap.size ∧ ∀ b, b < B → b ≠ t → w'.heap[b]? = w.heap[b]?
theorem Kp.rd {k : IntKind} {B t : Nat} {w w' : World} {A : Option Addr} {n : Nat} {xs : List Int} (h : Kp B t w w') (hr : Rd k w A n xs) (hA : ∀ a, A = some a → a.block < B ∧ a.block ≠ t) : Rd k w' A n xs :=
  ⟨hr.len, fun hn => by
    obtain ⟨b, off, e, hb, hc⟩ := hr.cells hn
    obtain ⟨h1, h2⟩ := hA _ e
    exact ⟨b, off, e, Nat.lt_of_lt_of_le hb h.1, fun j x hx => (World.cell?_of_block (h.2 b h1 h2)).trans (hc j x hx)⟩⟩
/-- The struct's two fields, and what they own. -/
structure MdS (w : World) (t base : Nat) (vK vH : Value) (i j : Nat) : Prop where
  cells : w.heap[t]? = some (.cells #[vK, vH] 110 (0, 0))
  ownK : w.ownsRow base 139 1 vK i ((KT.take i).map (Value.int .u32))
  ownH : w.ownsRow base 139 1 vH j ((H0.l.take j).map (Value.int .u32))
  apart : ∀ g, vK.ownBlock = some g → vH.ownBlock ≠ some g
theorem rd_setRow {k : IntKind} {w : World} {A : Option Addr} {n : Nat} {xs : List Int} (h : Rd k w A n xs) {g : Nat} (hne : ∀ a, A = some a → a.block ≠ g) (cs : Array Value) : Rd k (w.setRow g cs) A n xs :=
  ⟨h.len, fun hn => by
    obtain ⟨b, off, e, hb, hc⟩ := h.cells hn
    exact ⟨b, off, e, by rw [setRow_size]; exact hb, fun j x hx => (cell_setRow_other w g cs ⟨b, off + j, none⟩ (hne ⟨b, off, none⟩ e)).trans (hc j x hx)⟩⟩
theorem size28 {a b : Value} : (Tryz.prog.info? 110).map (·.size) = some (#[a, b] : Array Value).size := by kernel_rfl
theorem own_keep {w w' : World} {base : Nat} {e : TypeId} {v : Value} {n : Nat} {xs : List Value} (h : w.ownsRow base e 1 v n xs) (hk : ∀ g, v.ownBlock = some g → w'.heap[g]? = w.heap[g]?) : w'.ownsRow base e 1 v n xs := by
  refine ⟨h.1, ?_⟩
  rcases h.2 with g | ⟨g, cap, cur, rfl, h2, h3, h4⟩
  · exact .inl g
  · exact .inr ⟨g, cap, cur, rfl, h2, (hk g rfl).trans h3, h4⟩
section
variable {wr w2 : World} {t base : Nat} {vK vH : Value} {i j : Nat} {o : Obj}
theorem al_block (w : World) (o : Obj) {b : Nat} (hb : b < w.heap.size) : (w.drew.alloc o).heap[b]? = w.heap[b]? := Below.heap_alloc w.drew o b hb
theorem al_size (w : World) (o : Obj) : (w.drew.alloc o).heap.size = w.heap.size + 1 := by simp
/-- Where only v's own row may have turned, and it isn't block b. -/
theorem gr_block {v : Value} {b : Nat} (hg : (wr.drew.alloc o).grownBy w2 v.ownBlock) (hb : b < wr.heap.size) (hne : v.ownBlock ≠ some b) : w2.heap[b]? = wr.heap[b]? :=
  (hg.block b (by rw [al_size]; omega) (fun e => hne e.symm)).trans (al_block wr o hb)
theorem MdS.t2 (h : MdS wr t base vK vH i j) (ht : t < base) {v : Value} (hv : ∀ g, v.ownBlock = some g → base ≤ g) (hB : base ≤ wr.heap.size) (hg : (wr.drew.alloc o).grownBy w2 v.ownBlock) : w2.heap[t]? = some (.cells #[vK, vH] 110 (0, 0)) :=
  (gr_block hg (by omega) (fun e => by have := hv t e; omega)).trans h.cells
theorem MdS.baseK (h : MdS wr t base vK vH i j) : ∀ g, vK.ownBlock = some g → base ≤ g := fun g e => (h.ownK.lt g e).1
theorem MdS.baseH (h : MdS wr t base vK vH i j) : ∀ g, vH.ownBlock = some g → base ≤ g := fun g e => (h.ownH.lt g e).1
theorem set_block (w : World) {t b : Nat} (k : Nat) (v : Value) (h : b ≠ t) : (w.setCell ⟨t, k, none⟩ v).heap[b]? = w.heap[b]? := Below.heap_setCell w ⟨t, k, none⟩ v b h
theorem MdS.nextK (h : MdS wr t base vK vH i j) (ht : t < base) (hB : base ≤ wr.heap.size) (hi : i < 64) (hg : (wr.drew.alloc o).grownBy w2 vK.ownBlock) {g2 cap2 H : Nat}
    (ho : w2.ownsRow base 139 1 (.slice (some ⟨g2, 0, none⟩) (i + 1) cap2) (i + 1) ((KT.take i ++ [dig KT i]).map (Value.int .u32))) (hat : vK.ownBlock = some g2 ∨ g2 = H) (hH : (wr.drew.alloc o).heap.size = H) :
    MdS (w2.setCell ⟨t, 0, none⟩ (.slice (some ⟨g2, 0, none⟩) (i + 1) cap2)) t base (.slice (some ⟨g2, 0, none⟩) (i + 1) cap2) vH (i + 1) j := by
  have ht2 := h.t2 ht h.baseK hB hg
  rw [al_size] at hH
  have hg2 : base ≤ g2 := (ho.lt g2 rfl).1
  refine ⟨?_, ?_, ?_, ?_⟩
  · rw [setCell_eq_setRow w2 t 0 _ _ _ _ ht2]
    exact setRow_heap w2 t _ _ _ _ ht2
  · have e : KT.take (i + 1) = KT.take i ++ [dig KT i] := by
      rw [List.take_succ_eq_append_getElem (by rw [KT_len]; exact hi)]
      congr 2
      exact (dig_lt (List.getElem?_eq_getElem _)).symm
    rw [e]
    exact own_keep ho fun g e => set_block w2 0 _ (by have e' : g2 = g := Option.some.inj e; omega)
  · refine own_keep h.ownH fun g e => ?_
    have h1 := h.ownH.lt g e
    rw [set_block w2 0 _ (show g ≠ t by omega)]
    exact gr_block hg h1.2 (fun e2 => h.apart g e2 e)
  · intro g e
    obtain rfl : g2 = g := Option.some.inj e
    intro e2
    rcases hat with h1 | h1
    · exact h.apart _ h1 e2
    · have := (h.ownH.lt _ e2).2; omega
theorem MdS.nextH (h : MdS wr t base vK vH i j) (ht : t < base) (hB : base ≤ wr.heap.size) (hj : j < 8) (hg : (wr.drew.alloc o).grownBy w2 vH.ownBlock) {g2 cap2 H : Nat}
    (ho : w2.ownsRow base 139 1 (.slice (some ⟨g2, 0, none⟩) (j + 1) cap2) (j + 1) ((H0.l.take j ++ [dig H0.l j]).map (Value.int .u32))) (hat : vH.ownBlock = some g2 ∨ g2 = H) (hH : (wr.drew.alloc o).heap.size = H) :
    MdS (w2.setCell ⟨t, 1, none⟩ (.slice (some ⟨g2, 0, none⟩) (j + 1) cap2)) t base vK (.slice (some ⟨g2, 0, none⟩) (j + 1) cap2) i (j + 1) := by
  have ht2 := h.t2 ht h.baseH hB hg
  rw [al_size] at hH
  have hg2 : base ≤ g2 := (ho.lt g2 rfl).1
  refine ⟨?_, ?_, ?_, ?_⟩
  · rw [setCell_eq_setRow w2 t 1 _ _ _ _ ht2]
    exact setRow_heap w2 t _ _ _ _ ht2
  · refine own_keep h.ownK fun g e => ?_
    have h1 := h.ownK.lt g e
    rw [set_block w2 1 _ (show g ≠ t by omega)]
    exact gr_block hg h1.2 (fun e2 => h.apart g e e2)
  · have e : H0.l.take (j + 1) = H0.l.take j ++ [dig H0.l j] := by
      rw [List.take_succ_eq_append_getElem (show j < H0.l.length from hj)]
      congr 2
      exact (dig_lt (List.getElem?_eq_getElem _)).symm
    rw [e]
    exact own_keep ho fun g e => set_block w2 1 _ (by have e' : g2 = g := Option.some.inj e; omega)
  · intro g e e2
    obtain rfl : g2 = g := Option.some.inj e2
    rcases hat with h1 | h1
    · exact h.apart _ e h1
    · have := (h.ownK.lt _ e).2; omega
theorem Kp.next {B : Nat} {w : World} (h : Kp B t w wr) (hB : B ≤ wr.heap.size) {v : Value} (hv : ∀ g, v.ownBlock = some g → B ≤ g) (hg : (wr.drew.alloc o).grownBy w2 v.ownBlock) (k : Nat) (u : Value) : Kp B t w (w2.setCell ⟨t, k, none⟩ u) := by
  have hs := hg.size
  rw [al_size] at hs
  refine ⟨by have h1 := h.1; simp only [World.setCell, Array.size_modify]; omega, fun b hb hne => ?_⟩
  rw [set_block w2 k u hne, gr_block hg (by omega) (fun e => by have := hv b e; omega)]
  exact h.2 b hb hne
theorem below_next {B : Nat} {w : World} (h : Below B w wr) (hB : B ≤ wr.heap.size) {v : Value} (hv : ∀ g, v.ownBlock = some g → B ≤ g) (hg : (wr.drew.alloc o).grownBy w2 v.ownBlock) (ht : B ≤ t) (k : Nat) (u : Value) : Below B w (w2.setCell ⟨t, k, none⟩ u) :=
  ((h.drew.alloc (by exact hB) o).grown hg (by rw [al_size]; omega) (fun g e => hv g e)).setCell ht _
end
def MdR (w w1 : World) (t : Nat) (i : Value) (wr : World) : Prop :=
  ∃ (k : Nat) (vK vH : Value), k ≤ 64 ∧ i = .int .i64 k ∧ MdS wr t w1.heap.size vK vH k (min k 8) ∧ Kp w1.heap.size t w1 wr ∧ Below w.heap.size w wr
set_option maxHeartbeats 8000000 in
set_option maxRecDepth 100000 in
theorem made_new (w : World) :
    Calls Tryz.prog 56 #[] w fun e w' => ∃ AK cK AH cH, e = .returned (.agg #[.slice AK 64 cK, .slice AH 8 cH]) ∧ Rd .u32 w' AK 64 KT ∧ Rd .u32 w' AH 8 H0.l ∧ Below w.heap.size w w' ∧ (∀ a, AK = some a → w.heap.size ≤ a.block) ∧ (∀ a, AH = some a → w.heap.size ≤ a.block) := by
  go_enter Tryz.func56, Tryz.ntmps56
  go_wp2_with fail
  refine (primes_any _).mono ?_
  rintro e w1 ⟨vl, rfl, hol, hb1⟩
  obtain ⟨Al, cl, rfl, hrl, hcl, hAl⟩ := own_rd hol
  have hsz : ((w.alloc (.cells #[.slice none 0 0, .slice none 0 0] 110)).alloc (.cells #[.slice none 0 0, .slice none 0 0] 110)).heap.size = w.heap.size + 2 := by simp
  rw [hsz] at hAl
  have hb1' := hb1
  rw [hsz] at hb1'
  have hs1 : w.heap.size + 2 ≤ w1.heap.size := by have := hb1.size; rw [hsz] at this; exact this
  have h0 : w1.heap[w.heap.size]? = some (.cells #[.slice none 0 0, .slice none 0 0] 110 (0, 0)) :=
    (hb1.block w.heap.size (by rw [hsz]; omega)).trans ((Below.heap_alloc _ _ w.heap.size (by simp)).trans (heap_alloc_new w _))
  have ht : w1.heap[w.heap.size + 1]? = some (.cells #[.slice none 0 0, .slice none 0 0] 110 (0, 0)) := by
    have h := heap_alloc_new (w.alloc (.cells #[.slice none 0 0, .slice none 0 0] 110)) (.cells #[.slice none 0 0, .slice none 0 0] 110)
    rw [show (w.alloc (.cells #[.slice none 0 0, .slice none 0 0] 110)).heap.size = w.heap.size + 1 by simp] at h
    exact (hb1.block (w.heap.size + 1) (by rw [hsz]; omega)).trans h
  have b01 : Below w.heap.size w w1 := (((Below.refl _ _).alloc (Nat.le_refl _) _).alloc (by simp) _).trans (hb1'.mono (by omega))
  have hlb : ∀ a, Al = some a → a.block < w1.heap.size ∧ a.block ≠ w.heap.size + 1 := fun a ha => by
    obtain ⟨b, off, e, hb, -⟩ := hrl.cells (by decide)
    have := hAl a ha
    rw [ha] at e; injection e with e; subst e
    have e2 : (⟨b, off, none⟩ : Addr).block = b := rfl
    omega
  have HRL := Lib.hid hrl
  have HLB := Lib.hid hlb
  have H0' := Lib.hid h0
  have HT := Lib.hid ht
  have HB01 := Lib.hid b01
  clear hb1 hb1' hsz hol hrl hcl hAl hlb h0 ht b01
  obtain ⟨n, hn⟩ : ∃ n, PL.length = n := ⟨_, rfl⟩
  have HN := Lib.hid (show n = 64 by rw [← hn]; rfl)
  rw [hn] at HRL ⊢
  clear hn
  go_wp2_with fail
  go_loopw [3] (fun i wr => MdR w w1 (w.heap.size + 1) i wr) (fun i _ => 64 - (intOf i).toNat)
  case atStart => exact ⟨0, _, _, by omega, rfl, ⟨HT.out, ⟨rfl, .inl ⟨rfl, rfl⟩⟩, ⟨rfl, .inl ⟨rfl, rfl⟩⟩, fun g h => by cases h⟩, ⟨Nat.le_refl _, fun _ _ _ => rfl⟩, HB01.out⟩
  case round =>
    obtain ⟨k, vK, vH, hk, rfl, hS, hKp, hb⟩ := hrel
    rcases Nat.lt_or_ge k 64 with hlt | hge
    · obtain ⟨b, off, p, rfl, hbl, hp, hcp⟩ := (hKp.rd HRL.out HLB.out).at_ (j := k) (by rw [HN.out]; exact hlt)
      have hpd := dig_lt hp
      have hpb := PL_bd k hlt
      obtain ⟨hcb, hkt⟩ := RK_ok k hlt
      rw [hpd] at hcb hpb
      have hwd := dig_wd KT_wds k
      obtain ⟨kt, hkt'⟩ : ∃ kt, dig KT k = kt := ⟨_, rfl⟩
      rw [hkt'] at hkt hwd
      obtain ⟨rk, hrk⟩ : ∃ rk, dig RK k = rk := ⟨_, rfl⟩
      rw [hrk] at hkt hcb
      have HKT := Lib.hid hkt
      have HCB := Lib.hid hcb
      have HKT' := Lib.hid hkt'
      have p2 := hpb.1
      have p3 := hpb.2
      have k0 := hwd.1
      have k1 := hwd.2
      have cK := cell_of_row wr (w.heap.size + 1) 0 _ _ _ hS.cells
      have cH := cell_of_row wr (w.heap.size + 1) 1 _ _ _ hS.cells
      have cK' : wr.cell? ⟨w.heap.size + 1, 0, none⟩ = some vK := cK
      have cH' : wr.cell? ⟨w.heap.size + 1, 1, none⟩ = some vH := cH
      have cKa : (wr.alloc (.cells #[.int .u32 kt] 139)).cell? ⟨w.heap.size + 1, 0, none⟩ = some vK := (World.cell?_alloc_lt wr _ ⟨w.heap.size + 1, 0, none⟩ (by show w.heap.size + 1 < wr.heap.size; have := hKp.1; omega)).trans cK'
      have HOK := Lib.hid hS.ownK
      have HSS := Lib.hid hS
      have hkn : (k : Int) < (n : Int) := by rw [HN.out]; omega
      have hk64 : (k : Int) < 64 := by omega
      have sB := hKp.1
      have HTB : w.heap.size + 1 < w1.heap.size := by omega
      have HKP := Lib.hid hKp
      have HB := Lib.hid hb
      clear hpd hpb hcb hkt hkt' hwd cK cH hS hp hKp hb hrk
      go_wp2_with fail
      have g1 : p < 65536 := by omega
      have g0 : 0 ≤ p := by omega
      have hk1000 : k ≤ 1000 := by omega
      have hwp : IntKind.u64.wrap p = p := by rw [IntKind.wrap_u64]; omega
      have hwk : IntKind.u32.wrap kt = kt := by rw [IntKind.wrap_u32]; omega
      go_region_law (first
        | (go_simp; go_at_call 90; (with_reducible refine (root_k g0 g1 HCB.out HKT.out _).mono ?_); rintro e w' ⟨rfl, rfl⟩)
        | (refine step_u32 rfl (.tmp 10) (.tmp 18) rfl w1.heap.size vK k (KT.take k) rfl (own_alloc1 HOK.out.drew _) wr.heap.size kt rfl (by simp) hk1000 (Nat.le_trans sB (by simp)) _ rfl ?_; intro g2 cap2 w2 ho2 hg2 hat2 hlt2; have ht2 := HSS.out.t2 HTB HSS.out.baseK sB hg2; have c2 : w2.cell? ⟨w.heap.size + 1, 0, none⟩ = some vK := cell_of_row w2 _ 0 _ _ _ ht2; have f2 := frozen_of_row w2 _ 0 _ _ ht2; have HO2 := Lib.hid ho2; have HG2 := Lib.hid hg2; have HAT2 := Lib.hid hat2; clear ho2 hg2 hat2 ht2))
      all_goals
        clear hwp hwk c2 f2
        have ho2 := HO2.out
        rw [← HKT'.out] at ho2
        have hS3 := HSS.out.nextK HTB sB hlt HG2.out ho2 HAT2.out rfl
        have hK3 := HKP.out.next sB HSS.out.baseK HG2.out 0 (.slice (some ⟨g2, 0, none⟩) (k + 1) cap2)
        have hB3 := below_next HB.out (by have := HB01.out.size; omega) (fun g e => Nat.le_trans HB01.out.size (HSS.out.baseK g e)) HG2.out (show w.heap.size ≤ w.heap.size + 1 by omega) 0 (.slice (some ⟨g2, 0, none⟩) (k + 1) cap2)
        clear ho2
        generalize w2.setCell ⟨w.heap.size + 1, 0, none⟩ (.slice (some ⟨g2, 0, none⟩) (k + 1) cap2) = w3 at hS3 hK3 hB3 ⊢
        have hrl3 := hK3.rd HRL.out HLB.out
        obtain ⟨b3, off3, p3', e3, hbl3, hp3, hcp3⟩ := hrl3.at_ (j := k) (by rw [HN.out]; exact hlt)
        injection e3 with e3; injection e3 with e3 e3'
        subst e3 e3'
        have sB3 := hK3.1
        have HS3 := Lib.hid hS3
        have HK3 := Lib.hid hK3
        have HB3 := Lib.hid hB3
        have HP3 := Lib.hid hp3
        clear hS3 hK3 hB3 hrl3 cK' cH' cKa hp3
        rcases Nat.lt_or_ge k 8 with h8 | h8
        · have hpd := dig_lt HP3.out
          have hpb := PL_bd k hlt
          obtain ⟨hsq, hht⟩ := RH_ok k h8
          rw [hpd] at hsq hpb
          have hwd := dig_wd (St.wds H0_ok) k
          obtain ⟨hh, hhh⟩ : ∃ hh, dig H0.l k = hh := ⟨_, rfl⟩
          rw [hhh] at hht hwd
          obtain ⟨rh, hrh⟩ : ∃ rh, dig RH k = rh := ⟨_, rfl⟩
          rw [hrh] at hht hsq
          have HHT := Lib.hid hht
          have HSQ := Lib.hid hsq
          have HHH := Lib.hid hhh
          have hk8 : (k : Int) < 8 := by omega
          have e8 : min k 8 = k := by omega
          have hs3' : MdS w3 (w.heap.size + 1) w1.heap.size (.slice (some ⟨g2, 0, none⟩) (k + 1) cap2) vH (k + 1) k := by have h := HS3.out; rw [e8] at h; exact h
          have HS4 := Lib.hid hs3'
          have HOH := Lib.hid hs3'.ownH
          have dK : w3.cell? ⟨w.heap.size + 1, 1, none⟩ = some vH := cell_of_row w3 _ 1 _ _ _ hs3'.cells
          have dKa : (w3.alloc (.cells #[.int .u32 hh] 139)).cell? ⟨w.heap.size + 1, 1, none⟩ = some vH := (World.cell?_alloc_lt w3 _ ⟨w.heap.size + 1, 1, none⟩ (by show w.heap.size + 1 < w3.heap.size; omega)).trans dK
          have q0 := hpb.1
          have q1 := hpb.2
          have k0' := hwd.1
          have k1' := hwd.2
          have g1' : p3' < 65536 := by omega
          have g0' : 0 ≤ p3' := by omega
          clear hpd hpb hsq hht hwd hhh hrh hs3' e8
          have hwp : IntKind.u64.wrap p3' = p3' := by rw [IntKind.wrap_u64]; omega
          have hwk : IntKind.u32.wrap hh = hh := by rw [IntKind.wrap_u32]; omega
          go_wp2_with fail
          go_region_law (first
            | (go_simp; go_at_call 90; (with_reducible refine (root_h g0' g1' HSQ.out HHT.out _).mono ?_); rintro e w' ⟨rfl, rfl⟩)
            | (refine step_u32 rfl (.tmp 24) (.tmp 32) rfl w1.heap.size vH k (H0.l.take k) rfl (own_alloc1 HOH.out.drew _) w3.heap.size hh rfl (by simp) hk1000 (Nat.le_trans sB3 (by simp)) _ rfl ?_; intro g4 cap4 w4 ho4 hg4 hat4 hlt4; have ht4 := HS4.out.t2 HTB HS4.out.baseH sB3 hg4; have c4 : w4.cell? ⟨w.heap.size + 1, 1, none⟩ = some vH := cell_of_row w4 _ 1 _ _ _ ht4; have f4 := frozen_of_row w4 _ 1 _ _ ht4; have HO4 := Lib.hid ho4; have HG4 := Lib.hid hg4; have HAT4 := Lib.hid hat4; clear ho4 hg4 hat4 ht4))
          all_goals
            clear hwp hwk c4 f4
            have ho4 := HO4.out
            rw [← HHH.out] at ho4
            have hS5 := HS4.out.nextH HTB sB3 h8 HG4.out ho4 HAT4.out rfl
            have hK5 := HK3.out.next sB3 HS4.out.baseH HG4.out 1 (.slice (some ⟨g4, 0, none⟩) (k + 1) cap4)
            have hB5 := below_next HB3.out (by have := HB01.out.size; omega) (fun g e => Nat.le_trans HB01.out.size (HS4.out.baseH g e)) HG4.out (show w.heap.size ≤ w.heap.size + 1 by omega) 1 (.slice (some ⟨g4, 0, none⟩) (k + 1) cap4)
            clear ho4
            go_wp2_with fail
            go_roundw
            case rel => exact ⟨k + 1, _, _, by omega, by go_num, by rw [show min (k + 1) 8 = k + 1 by omega]; exact hS5, hK5, hB5⟩
            case measure => simp [intOf]; omega
        · have t8 : decide ((k : Int) < 8) = false := by simp; omega
          go_wp2_with fail
          go_roundw
          case rel => exact ⟨k + 1, _, _, by omega, by go_num, by rw [show min (k + 1) 8 = min k 8 by omega]; exact HS3.out, HK3.out, HB3.out⟩
          case measure => simp [intOf]; omega
    · obtain rfl : k = 64 := by omega
      rw [show min 64 8 = 8 from rfl] at hS
      obtain ⟨AK, cK, rfl, hrK, hcK, hbK⟩ := own_rd hS.ownK
      obtain ⟨AH, cH, rfl, hrH, hcH, hbH⟩ := own_rd hS.ownH
      rw [show KT.take 64 = KT from rfl] at hrK
      rw [show H0.l.take 8 = H0.l from rfl] at hrH
      have hc := hS.cells
      have h0 := (hKp.2 w.heap.size (by omega) (by omega)).trans H0'.out
      have hone : (#[.slice AK 64 cK, .slice AH 8 cH] : Array Value).all (·.oneCell') = true := by simp [Value.oneCell']
      have HC := Lib.hid hc
      have HC0 := Lib.hid h0
      have HRK := Lib.hid hrK
      have HRH := Lib.hid hrH
      clear hc h0 hrK hrH hS
      go_wp2_with (first | (refine wpList_load_row rfl 110 (.tmp 1) rfl (w.heap.size + 1) rfl _ _ _ _ HC.out Tryz.underlying110 rfl size28 ?_) | (refine wpList_store_row rfl 110 (.tmp 0) (.tmp 35) rfl w.heap.size #[.slice AK 64 cK, .slice AH 8 cH] rfl rfl _ _ HC0.out size28 rfl hone ?_))
      refine bodyPost_ret (v := .agg #[.slice AK 64 cK, .slice AH 8 cH]) (results_cell_row Tryz.results56 _ _ w.heap.size _ _ _ _ rfl (setRow_heap wr _ _ _ _ _ HC0.out) Tryz.underlying110 rfl size28) rfl ?_
      exact ⟨AK, cK, AH, cH, rfl, rd_setRow HRK.out (fun a ha => by have := hbK a ha; omega) _, rd_setRow HRH.out (fun a ha => by have := hbH a ha; omega) _, below_setRow hb (Nat.le_refl _) _, fun a ha => by have := hbK a ha; omega, fun a ha => by have := hbH a ha; omega⟩
/-- The tables. -/
theorem made_walk (w : World) :
    Calls Tryz.prog 56 #[] w fun e w' => ∃ AK cK AH cH, e = .returned (.agg #[.slice AK 64 cK, .slice AH 8 cH]) ∧ Rd .u32 w' AK 64 KT ∧ Rd .u32 w' AH 8 H0.l ∧ Below w.heap.size w w' :=
  (made_new w).mono fun e w' ⟨AK, cK, AH, cH, h1, h2, h3, h4, _⟩ => ⟨AK, cK, AH, cH, h1, h2, h3, h4⟩
end Go.Proofs.YtjalncdllegfoaaGreatDoor
