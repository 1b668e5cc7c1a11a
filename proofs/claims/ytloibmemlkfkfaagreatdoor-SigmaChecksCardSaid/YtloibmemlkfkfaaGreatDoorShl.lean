/-
  The loops of the document's Sha, each by itself, over its frame.
-/
import Derived.Test.YtloibmemlkfkfaaGreatDoorShd0
import Derived.Test.YtloibmemlkfkfaaGreatDoorFrm
import Derived.Deep.RegionLaw
import Derived.Deep.QuietTactic
import Derived.BigQuiet
import Derived.BigRegion
import Derived.StillTailTactics
import Derived.StillTactics
import Derived.Deep.RegionHeld3
namespace Go.Proofs.YtloibmemlkfkfaaGreatDoor
open Go.RowKit
set_option linter.unusedVariables false
theorem turn_q (n : Nat) {v : Int} (hv : v = n) (hn : n ≤ 32) (x : Int) (hx : Wd x) (w : World) :
    Calls Tryz.prog 144 #[.int .u32 x, .int .i64 v] w fun e w' => e = .returned (.int .u32 (rot n x)) ∧ w' = w :=
  (turn_w n hv hn x hx w).mono fun _ _ h => ⟨h.1, h.2.symm⟩
theorem quiet_add5 {P : Program} {f : FuncId} {args : Array Value} {w : World} {a n : Nat} {v : Value}
    (h : Calls P f args (w.drewN (a + n)) fun e w' => e = .returned v ∧ w' = w.drewN (a + n)) : Calls P f args (w.drewN (a + n)) fun e w'' => e = .returned v ∧ ∃ m, w'' = w.drewN (a + m) :=
  h.mono fun _ _ ⟨he, hm⟩ => ⟨he, n, hm⟩
/-- The bytes, as they are filled up. -/
def FlR (l : List Int) (s : Nat) (W0 : World) (v : Value) (wr : World) : Prop :=
  ∃ j : Nat, j ≤ fillN l.length ∧ Own8 wr s v (l ++ 128 :: List.replicate j 0) ∧ Below s W0 wr
def sln : Value → Nat
  | .slice _ n _ => n
  | _ => 0
/-- Behind j blocks. -/
def DsR (L : List Int) (M : Nat) (s : Nat) (W0 w2 : World) (g cH : Nat) (i : Value) (wr : World) : Prop :=
  ∃ j : Nat, j ≤ M ∧ i = .int .i64 ((64 * j : Nat) : Int) ∧ Mn 156 .u32 wr s (some ⟨g, 0, none⟩) 8 cH (absb H0 L j).l ∧ Kept (fun b => b = g) w2 wr ∧ Below s W0 wr
/-- The words of a block, so far. -/
def AwR (blk : List Int) (wo : World) (v i : Value) (wr : World) : Prop :=
  ∃ k : Nat, k ≤ 64 ∧ i = .int .i64 k ∧ wr.ownsRow wo.heap.size 156 1 v k (((sched blk).take k).map (Value.int .u32)) ∧ Below wo.heap.size wo wr
theorem pad_split (l : List Int) : l ++ pad l.length = (l ++ 128 :: List.replicate (fillN l.length) 0) ++ be8 (8 * (l.length : Int)) := by unfold pad; simp
theorem fill_next (l : List Int) (j : Nat) : (l ++ 128 :: List.replicate j 0) ++ [0] = l ++ 128 :: List.replicate (j + 1) 0 := by
  rw [List.append_assoc, List.cons_append, ← List.replicate_succ']
theorem Rd.blk_lt {k : IntKind} {w : World} {A : Option Addr} {n : Nat} {xs : List Int} (h : Rd k w A n xs) (hn : 0 < n) {a : Addr} (ha : A = some a) : a.block < w.heap.size := by
  obtain ⟨b, off, e, hb, -⟩ := h.cells hn
  rw [ha] at e
  injection e with e
  subst e
  exact hb
theorem Rd.cx {k : IntKind} {w : World} {b off : Nat} {n : Nat} {xs : List Int} (h : Rd k w (some ⟨b, off, none⟩) n xs) {j : Nat} (hj : j < n) : w.cell? ⟨b, off + j, none⟩ = some (.int k (dig xs j)) := by
  obtain ⟨b', off', e, hb, hc⟩ := h.cells (by omega)
  injection e with e; injection e with e e'; subst e e'
  exact hc j _ (getElem?_dig (by have := h.len; omega))
theorem Rd.c0 {k : IntKind} {w : World} {b : Nat} {n : Nat} {xs : List Int} (h : Rd k w (some ⟨b, 0, none⟩) n xs) {j : Nat} (hj : j < n) : w.cell? ⟨b, j, none⟩ = some (.int k (dig xs j)) := by
  have := h.cx hj
  rwa [Nat.zero_add] at this
theorem rd8 (W : World) (t : TypeId) (x0 x1 x2 x3 x4 x5 x6 x7 : Int) (s : St) (h0 : x0 = s.a) (h1 : x1 = s.b) (h2 : x2 = s.c) (h3 : x3 = s.d) (h4 : x4 = s.e) (h5 : x5 = s.f) (h6 : x6 = s.g) (h7 : x7 = s.h) :
    Rd .u32 (W.alloc (.cells #[.int .u32 x0, .int .u32 x1, .int .u32 x2, .int .u32 x3, .int .u32 x4, .int .u32 x5, .int .u32 x6, .int .u32 x7] t)) (some ⟨W.heap.size, 0, none⟩) 8 s.l := by
  subst h0 h1 h2 h3 h4 h5 h6 h7
  exact rowAll (Row.new W t .u32 s.l) rfl
theorem rd4 (W : World) (t : TypeId) (x0 x1 x2 x3 : Int) : Rd .u8 (W.alloc (.cells #[.int .u8 x0, .int .u8 x1, .int .u8 x2, .int .u8 x3] t)) (some ⟨W.heap.size, 0, none⟩) 4 [x0, x1, x2, x3] := rowAll (Row.new W t .u8 [x0, x1, x2, x3]) rfl
/-- A word's bytes, so far. -/
def KxR (blk : List Int) (k : Nat) (w : World) (x i : Value) (wr : World) : Prop := ∃ q : Nat, q ≤ 4 ∧ i = .int .i64 q ∧ x = .int .u32 (px blk k q) ∧ w = wr
/-- The rounds, so far. -/
def BvR (M : List Int) (S : St) (g : Nat) (wB : World) (v i : Value) (wr : World) : Prop :=
  ∃ (k b c : Nat), k ≤ 64 ∧ i = .int .i64 k ∧ v = .slice (some ⟨b, 0, none⟩) 8 c ∧ Rd .u32 wr (some ⟨b, 0, none⟩) 8 (rnds KT M S k).l ∧ g < b ∧ Below wB.heap.size wB wr
/-- The sums, so far. -/
def CcS (S R : St) (s g c7 : Nat) (W0 wC : World) (i : Value) (wr : World) : Prop :=
  ∃ k : Nat, k ≤ 8 ∧ i = .int .i64 k ∧ Mn 156 .u32 wr s (some ⟨g, 0, none⟩) 8 c7 (hmx S R k) ∧ Kept (fun b => b = g) wC wr ∧ Below s W0 wr
/-- The bytes told, so far. -/
def DoR (S : St) (wD : World) (v i : Value) (wr : World) : Prop := ∃ k : Nat, k ≤ 8 ∧ i = .int .i64 k ∧ Own8 wr wD.heap.size v (wbs (S.l.take k)) ∧ Below wD.heap.size wD wr
/-- All loops of a code, from the front. -/
def loopsIn : Code → List Code
  | .loop c => c :: loopsIn c
  | .seq a b => loopsIn a ++ loopsIn b
  | .cond _ a b => loopsIn a ++ loopsIn b
  | .block _ c => loopsIn c
  | .scope c => loopsIn c
  | _ => []
def nthCode : List Code → Nat → Code
  | [], _ => .skip
  | c :: _, 0 => c
  | _ :: l, n + 1 => nthCode l n
/-- Left by this exit alone. -/
def Only (ex : Nat) (Po : Act → World → Prop) : Exit → Act → World → Prop
  | .exit i, a, w => i = ex ∧ Po a w
  | _, _, _ => False
theorem only_use {P : Program} {c : Code} {Q : Exit → Act → World → Prop} {a : Act} {w : World} {ex : Nat} (h : Code.wp P c (Only ex fun a w => Q (.exit ex) a w) a w) : Code.wp P c Q a w :=
  wp_mono h fun e a w hh => by
    cases e with
    | exit i => obtain ⟨rfl, h⟩ := hh; exact h
    | _ => exact hh.elim
noncomputable def dshaLoop (i : Nat) : Code := nthCode ((Tryz.f122.body.map loopsIn).getD []) i
set_option maxHeartbeats 8000000 in
set_option maxRecDepth 100000 in
theorem words_loop {Po : Act → World → Prop} {bL oL N c5 p j M : Nat} {L blk : List Int} {wo : World} (hlt : j < M) (hP : 64 * j = p) (hMM : N = 64 * M) (hpN : (p : Int) < (N : Int)) (hp40 : (p : Int) ≤ 1280000) (hLD : Dig 256 L) (hBLK : (L.drop (64 * j)).take 64 = blk) (hLw : Rd .u8 wo (some ⟨bL, oL, none⟩) N L)
    (f0 f1 f2 f3 f4 f6 f10 f11 f12 f13 f14 f15 f16 f17 f18 f19 f20 f21 f22 f23 f24 f25 f26 f27 f28 f29 f30 f31 f32 f33 f34 f35 f36 f37 f38 f39 f40 f41 f42 f43 f44 f45 f46 f47 f48 f49 f50 f51 f52 f53 f54 f55 f56 f57 f58 f59 f60 f61 f62 f63 f64 f65 f66 f67 f68 f69 f70 f71 f72 f73 f74 f75 f76 f77 f78 f79 f80 f81 f82 f83 f84 f85 f86 f87 f88 f89 f90 f91 f92 f93 f94 f95 f96 f97 f98 f99 f100 f101 f102 f103 f104 f105 f106 f107 f108 f109 f110 f111 f112 f113 f114 f115 f116 f117 f118 f119 f120 f121 f122 f123 f124 f125 f126 f127 f128 f129 f130 f131 f132 f133 f134 f135 f136 f137 f138 f139 f140 f141 f142 f143 f144 f145 f146 f147 f148 f149 f150 f151 f152 f153 f154 f155 f156 f157 f158 f159 f160 f161 f162 f163 f164 f165 f166 f167 f168 f169 f170 f171 f172 f173 f174 f175 f176 f177 f178 f179 f180 f181 f182 f183 f184 f185 f186 f187 f188 f189 f190 f191 f192 f193 f194 f195 f196 f197 f198 f199 f200 f201 f202 f203 f204 f205 f206 f207 f208 f209 f210 f211 f212 f213 f214 f215 f216 f217 f218 f219 f220 f221 f222 f223 f224 f225 f226 f227 f228 f229 f230 f231 f232 f233 f234 f235 f236 f237 f238 f239 f240 f241 f242 f243 f244 f245 f246 f247 f248 f249 f250 f251 f252 f253 f254 f255 f256 f257 f258 f259 f260 f261 f262 f263 f264 f265 f266 f267 f268 f269 f270 f271 f272 f273 f274 f275 f276 f277 f278 f279 f280 f281 f282 f283 f284 f285 f286 f287 f288 f289 f290 f291 : Value)
    (hexit : ∀ (e10 e11 e12 e13 e53 e54 e55 e56 e57 e58 e59 e60 e61 e62 e63 e64 e65 e66 e67 e68 e69 e70 e71 e72 e73 e74 e75 e76 e77 e78 e79 e80 e81 e82 e83 e84 e85 e86 e87 e88 e89 e90 e91 e92 e93 e94 e95 e96 e97 e98 e99 e100 e101 e102 e103 e104 e105 e106 e107 e108 e109 e110 e111 e112 e113 e114 e115 e116 e117 e118 e119 e120 e121 e122 e123 e124 e125 e126 e127 e128 e129 e130 e131 e132 e133 e134 e135 e136 e137 : Value) (v : Value) (wr : World), wr.ownsRow wo.heap.size 156 1 v 64 ((sched blk).map (Value.int .u32)) → Below wo.heap.size wo wr → Po ⟨List.toArray (f0 :: f1 :: f2 :: f3 :: f4 :: (.slice (some ⟨bL, oL, none⟩) N c5) :: f6 :: (.int .i64 p) :: (v) :: (.int .i64 ((64 : Nat) : Int)) :: (e10) :: (e11) :: (e12) :: (e13) :: f14 :: f15 :: f16 :: f17 :: f18 :: f19 :: f20 :: f21 :: f22 :: f23 :: f24 :: f25 :: f26 :: f27 :: f28 :: f29 :: f30 :: f31 :: f32 :: f33 :: f34 :: f35 :: f36 :: f37 :: f38 :: f39 :: f40 :: f41 :: f42 :: f43 :: f44 :: f45 :: f46 :: f47 :: f48 :: f49 :: f50 :: f51 :: f52 :: (e53) :: (e54) :: (e55) :: (e56) :: (e57) :: (e58) :: (e59) :: (e60) :: (e61) :: (e62) :: (e63) :: (e64) :: (e65) :: (e66) :: (e67) :: (e68) :: (e69) :: (e70) :: (e71) :: (e72) :: (e73) :: (e74) :: (e75) :: (e76) :: (e77) :: (e78) :: (e79) :: (e80) :: (e81) :: (e82) :: (e83) :: (e84) :: (e85) :: (e86) :: (e87) :: (e88) :: (e89) :: (e90) :: (e91) :: (e92) :: (e93) :: (e94) :: (e95) :: (e96) :: (e97) :: (e98) :: (e99) :: (e100) :: (e101) :: (e102) :: (e103) :: (e104) :: (e105) :: (e106) :: (e107) :: (e108) :: (e109) :: (e110) :: (e111) :: (e112) :: (e113) :: (e114) :: (e115) :: (e116) :: (e117) :: (e118) :: (e119) :: (e120) :: (e121) :: (e122) :: (e123) :: (e124) :: (e125) :: (e126) :: (e127) :: (e128) :: (e129) :: (e130) :: (e131) :: (e132) :: (e133) :: (e134) :: (e135) :: (e136) :: (e137) :: f138 :: f139 :: f140 :: f141 :: f142 :: f143 :: f144 :: f145 :: f146 :: f147 :: f148 :: f149 :: f150 :: f151 :: f152 :: f153 :: f154 :: f155 :: f156 :: f157 :: f158 :: f159 :: f160 :: f161 :: f162 :: f163 :: f164 :: f165 :: f166 :: f167 :: f168 :: f169 :: f170 :: f171 :: f172 :: f173 :: f174 :: f175 :: f176 :: f177 :: f178 :: f179 :: f180 :: f181 :: f182 :: f183 :: f184 :: f185 :: f186 :: f187 :: f188 :: f189 :: f190 :: f191 :: f192 :: f193 :: f194 :: f195 :: f196 :: f197 :: f198 :: f199 :: f200 :: f201 :: f202 :: f203 :: f204 :: f205 :: f206 :: f207 :: f208 :: f209 :: f210 :: f211 :: f212 :: f213 :: f214 :: f215 :: f216 :: f217 :: f218 :: f219 :: f220 :: f221 :: f222 :: f223 :: f224 :: f225 :: f226 :: f227 :: f228 :: f229 :: f230 :: f231 :: f232 :: f233 :: f234 :: f235 :: f236 :: f237 :: f238 :: f239 :: f240 :: f241 :: f242 :: f243 :: f244 :: f245 :: f246 :: f247 :: f248 :: f249 :: f250 :: f251 :: f252 :: f253 :: f254 :: f255 :: f256 :: f257 :: f258 :: f259 :: f260 :: f261 :: f262 :: f263 :: f264 :: f265 :: f266 :: f267 :: f268 :: f269 :: f270 :: f271 :: f272 :: f273 :: f274 :: f275 :: f276 :: f277 :: f278 :: f279 :: f280 :: f281 :: f282 :: f283 :: f284 :: f285 :: f286 :: f287 :: f288 :: f289 :: f290 :: f291 :: []), []⟩ wr) :
    Code.wp Tryz.prog (.loop (dshaLoop 2)) (Only 4 Po) ⟨List.toArray (f0 :: f1 :: f2 :: f3 :: f4 :: (.slice (some ⟨bL, oL, none⟩) N c5) :: f6 :: (.int .i64 p) :: (.slice none 0 0) :: (.int .i64 0) :: f10 :: f11 :: f12 :: f13 :: f14 :: f15 :: f16 :: f17 :: f18 :: f19 :: f20 :: f21 :: f22 :: f23 :: f24 :: f25 :: f26 :: f27 :: f28 :: f29 :: f30 :: f31 :: f32 :: f33 :: f34 :: f35 :: f36 :: f37 :: f38 :: f39 :: f40 :: f41 :: f42 :: f43 :: f44 :: f45 :: f46 :: f47 :: f48 :: f49 :: f50 :: f51 :: f52 :: f53 :: f54 :: f55 :: f56 :: f57 :: f58 :: f59 :: f60 :: f61 :: f62 :: f63 :: f64 :: f65 :: f66 :: f67 :: f68 :: f69 :: f70 :: f71 :: f72 :: f73 :: f74 :: f75 :: f76 :: f77 :: f78 :: f79 :: f80 :: f81 :: f82 :: f83 :: f84 :: f85 :: f86 :: f87 :: f88 :: f89 :: f90 :: f91 :: f92 :: f93 :: f94 :: f95 :: f96 :: f97 :: f98 :: f99 :: f100 :: f101 :: f102 :: f103 :: f104 :: f105 :: f106 :: f107 :: f108 :: f109 :: f110 :: f111 :: f112 :: f113 :: f114 :: f115 :: f116 :: f117 :: f118 :: f119 :: f120 :: f121 :: f122 :: f123 :: f124 :: f125 :: f126 :: f127 :: f128 :: f129 :: f130 :: f131 :: f132 :: f133 :: f134 :: f135 :: f136 :: f137 :: f138 :: f139 :: f140 :: f141 :: f142 :: f143 :: f144 :: f145 :: f146 :: f147 :: f148 :: f149 :: f150 :: f151 :: f152 :: f153 :: f154 :: f155 :: f156 :: f157 :: f158 :: f159 :: f160 :: f161 :: f162 :: f163 :: f164 :: f165 :: f166 :: f167 :: f168 :: f169 :: f170 :: f171 :: f172 :: f173 :: f174 :: f175 :: f176 :: f177 :: f178 :: f179 :: f180 :: f181 :: f182 :: f183 :: f184 :: f185 :: f186 :: f187 :: f188 :: f189 :: f190 :: f191 :: f192 :: f193 :: f194 :: f195 :: f196 :: f197 :: f198 :: f199 :: f200 :: f201 :: f202 :: f203 :: f204 :: f205 :: f206 :: f207 :: f208 :: f209 :: f210 :: f211 :: f212 :: f213 :: f214 :: f215 :: f216 :: f217 :: f218 :: f219 :: f220 :: f221 :: f222 :: f223 :: f224 :: f225 :: f226 :: f227 :: f228 :: f229 :: f230 :: f231 :: f232 :: f233 :: f234 :: f235 :: f236 :: f237 :: f238 :: f239 :: f240 :: f241 :: f242 :: f243 :: f244 :: f245 :: f246 :: f247 :: f248 :: f249 :: f250 :: f251 :: f252 :: f253 :: f254 :: f255 :: f256 :: f257 :: f258 :: f259 :: f260 :: f261 :: f262 :: f263 :: f264 :: f265 :: f266 :: f267 :: f268 :: f269 :: f270 :: f271 :: f272 :: f273 :: f274 :: f275 :: f276 :: f277 :: f278 :: f279 :: f280 :: f281 :: f282 :: f283 :: f284 :: f285 :: f286 :: f287 :: f288 :: f289 :: f290 :: f291 :: []), []⟩ wo := by
  conv => arg 2; arg 1; whnf
  have HLw := Lib.hid hLw
  have HLD := Lib.hid hLD
  have HP := Lib.hid hP
  have HMM := Lib.hid hMM
  have HBLK := Lib.hid hBLK
  have HBD := Lib.hid (show Dig 256 blk by rw [← hBLK]; exact (hLD.drop _).take _)
  clear hLw hLD hP hMM hBLK
  go_loopw [8, 9] (fun v i wr => AwR blk wo v i wr) (fun _ i _ => 64 - (intOf i).toNat)
  case atStart => exact ⟨0, Nat.zero_le _, rfl, ⟨rfl, .inl ⟨rfl, rfl⟩⟩, Below.refl _ _⟩
  case round =>
    obtain ⟨k, hk, rfl, ho, hbA⟩ := hrel
    rcases Nat.lt_or_ge k 64 with hk64 | hk64
    · clear hexit
      have sbA := hbA.size
      have HO := Lib.hid ho
      have HBA := Lib.hid hbA
      have hmk := sched_take_len blk hk
      rcases Nat.lt_or_ge k 16 with k16 | k16
      · --<A1
        have hki : (k : Int) < 16 := by omega
        have HLr := Lib.hid (HLw.out.below hbA)
        clear ho hbA hmk
        go_wp2_with fail
        go_loopw [10, 11] (fun x i wr' => KxR blk k wr x i wr') (fun _ i _ => 4 - (intOf i).toNat)
        case atStart => exact ⟨0, by omega, rfl, rfl, rfl⟩
        case round =>
          obtain ⟨q, hq, rfl, rfl, rfl⟩ := hrel
          rcases Nat.lt_or_ge q 4 with hq4 | hq4
          · have hr : p + 4 * k + q < N := by have := HP.out; have := HMM.out; omega
            obtain ⟨x0, x1⟩ := px_bd3 HBD.out k hq4
            obtain ⟨d0, d1⟩ := dig_bd (b := 256) (by decide) HLD.out (p + 4 * k + q)
            have hc := HLr.out.cx hr
            have hpx : px blk k (q + 1) = 256 * px blk k q + dig L (p + 4 * k + q) := by
              show 256 * px blk k q + dig blk (4 * k + q) = _
              rw [← HBLK.out, blk_dig L j _ (by omega), HP.out, Nat.add_assoc]
            obtain ⟨X, hX⟩ : ∃ X, px blk k q = X := ⟨_, rfl⟩
            obtain ⟨D, hD⟩ : ∃ D, dig L (p + 4 * k + q) = D := ⟨_, rfl⟩
            rw [hX, hD] at hpx
            rw [hX] at x0 x1 ⊢
            rw [hD] at d0 d1 hc
            have HPX := Lib.hid hpx
            have i1 : (p : Int) + 4 * (k : Int) + (q : Int) < (N : Int) := by omega
            have hqi : (q : Int) < 4 := by omega
            clear hX hD hpx hr
            go_wp2_with fail
            go_roundw
            case rel => exact ⟨q + 1, by omega, by go_num, by rw [HPX.out], rfl⟩
            case measure => simp [intOf]; omega
          · obtain rfl : q = 4 := by omega
            rw [px_end]
            obtain ⟨Y, hY⟩ : ∃ Y, wdAt blk k = Y := ⟨_, rfl⟩
            rw [hY]
            have HY := Lib.hid hY
            clear hY
            go_wp2_with (at_builtin; refine wpList_app1 _ rfl (.tmp 76) (.tmp 78) 124 rfl wo.heap.size 4 156 .u32 Tryz.underlying124 info32 (by omega) _ k _ rfl (own_alloc1 HO.out _) wr.heap.size Y rfl (cell_one _ _ _) (by simp) (by omega) (by simp; omega) ?_)
            rintro v2 w2 h2 g2
            have b2 := own_below (HBA.out.alloc sbA _) (own_alloc1 HO.out _) g2 (by simp; omega) (Nat.le_refl _)
            have H2 := Lib.hid h2
            clear h2 g2
            go_wp2_with fail
            go_roundw
            case rel => exact ⟨k + 1, by omega, by go_num, by rw [sched_next_lo blk k16, HY.out, List.map_append]; simpa using H2.out, b2⟩
            case measure => simp [intOf]; omega
        --A1>
      · --<A2
        obtain ⟨Av, cv, rfl, hrv, -, -⟩ := own_rd ho
        obtain ⟨bv, ov, rfl, hbv, -⟩ := hrv.cells (by omega)
        obtain ⟨m, hm⟩ : ∃ m, (sched blk).take k = m := ⟨_, rfl⟩
        have hsn := sched_next_hi blk k16 hk64
        rw [hm] at hrv hmk hsn
        rw [hm] at HO
        have hwd : Wds m := by rw [← hm]; exact fun x hx => sched_wds HBD.out x (List.mem_of_mem_take hx)
        obtain ⟨p15, h15⟩ : ∃ p, p + 15 = k := ⟨k - 15, by omega⟩
        obtain ⟨p2, h2⟩ : ∃ p, p + 2 = k := ⟨k - 2, by omega⟩
        obtain ⟨p16, h16⟩ : ∃ p, p + 16 = k := ⟨k - 16, by omega⟩
        obtain ⟨p7, h7⟩ : ∃ p, p + 7 = k := ⟨k - 7, by omega⟩
        have c15 := hrv.cx (j := p15) (by omega)
        have c2 := hrv.cx (j := p2) (by omega)
        have c16 := hrv.cx (j := p16) (by omega)
        have c7' := hrv.cx (j := p7) (by omega)
        have w15 := dig_wd hwd p15
        have w2 := dig_wd hwd p2
        have hN : nxt m = ad (ad (ad (dig m p16) (sg0 (dig m p15))) (dig m p7)) (sg1 (dig m p2)) := by
          unfold nxt
          rw [hmk, show k - 16 = p16 by omega, show k - 15 = p15 by omega, show k - 7 = p7 by omega, show k - 2 = p2 by omega]
        generalize dig m p15 = y15 at *
        generalize dig m p2 = y2 at *
        generalize dig m p16 = y16 at *
        generalize dig m p7 = y7 at *
        rw [hN] at hsn
        unfold ad sg0 sg1 xo at hsn
        have HSN := Lib.hid hsn
        have y150 := w15.1
        have y151 := w15.2
        have y20 := w2.1
        have y21 := w2.2
        have q15 : y15.tdiv 8 = y15 / 8 := Int.tdiv_eq_ediv_of_nonneg y150
        have q2 : y2.tdiv 1024 = y2 / 1024 := Int.tdiv_eq_ediv_of_nonneg y20
        have g15 : (k : Int) - 15 = (p15 : Int) := by omega
        have g2 : (k : Int) - 2 = (p2 : Int) := by omega
        have g16 : (k : Int) - 16 = (p16 : Int) := by omega
        have g7 : (k : Int) - 7 = (p7 : Int) := by omega
        have l15 : (p15 : Int) < (k : Int) := by omega
        have l2 : (p2 : Int) < (k : Int) := by omega
        have l16 : (p16 : Int) < (k : Int) := by omega
        have l7 : (p7 : Int) < (k : Int) := by omega
        have v15 : IntKind.i64.wrap (p15 : Int) = (p15 : Int) := IntWalk.i64_in _ (by omega)
        have v2 : IntKind.i64.wrap (p2 : Int) = (p2 : Int) := IntWalk.i64_in _ (by omega)
        have v16 : IntKind.i64.wrap (p16 : Int) = (p16 : Int) := IntWalk.i64_in _ (by omega)
        have v7 : IntKind.i64.wrap (p7 : Int) = (p7 : Int) := IntWalk.i64_in _ (by omega)
        have t16 : decide ((k : Int) < 16) = false := by simp; omega
        have k64 : (k : Int) < 64 := by omega
        clear ho hbA hmk hm hwd hN hsn hrv h15 h2 h16 h7 hbv
        go_wp2_with fail
        go_quiet ((go_at_call 144; first | (with_reducible exact Calls.quiet_of_same (turn_q 7 rfl (by omega) y15 w15 _)) | (with_reducible exact quiet_add5 (turn_q 7 rfl (by omega) y15 w15 _)) | (with_reducible exact Calls.quiet_of_same (turn_q 18 rfl (by omega) y15 w15 _)) | (with_reducible exact quiet_add5 (turn_q 18 rfl (by omega) y15 w15 _))))
        go_wp2_with fail
        go_quiet ((go_at_call 144; first | (with_reducible exact Calls.quiet_of_same (turn_q 17 rfl (by omega) y2 w2 _)) | (with_reducible exact quiet_add5 (turn_q 17 rfl (by omega) y2 w2 _)) | (with_reducible exact Calls.quiet_of_same (turn_q 19 rfl (by omega) y2 w2 _)) | (with_reducible exact quiet_add5 (turn_q 19 rfl (by omega) y2 w2 _))))
        go_wp2_with fail
        go_region_law (refine step_app1 _ rfl (.tmp 120) (.tmp 136) 124 rfl wo.heap.size 4 156 .u32 Tryz.underlying124 info32 (by omega) _ k m rfl (own_alloc1 HO.out _) wr.heap.size _ rfl (cell_one _ _ _) (by simp) (by omega) (by simp; omega) ?_; intro vn wn hn gn; have HNn := Lib.hid hn; have GN := Lib.hid gn; clear hn gn)
        all_goals
          have b2 := own_below ((below_drewN HBA.out _).alloc sbA _) (own_alloc1 HO.out _) GN.out (by simp; omega) (Nat.le_refl _)
          have H2 := Lib.hid (show wn.ownsRow wo.heap.size 156 1 vn (k + 1) (((sched blk).take (k + 1)).map (Value.int .u32)) by rw [HSN.out]; exact HNn.out)
          clear HNn GN c15 c2 c16 c7' v15 v2 v16 v7 g15 g2 g16 g7 q15 q2
          go_wp2_with fail
          go_roundw
          case rel => exact ⟨k + 1, by omega, by go_num, H2.out, b2⟩
          case measure => simp [intOf]; omega
        --A2>
    · obtain rfl : k = 64 := by omega
      rw [List.take_of_length_le (by rw [sched_len]; exact Nat.le_refl _)] at ho
      have HO := Lib.hid ho
      have HBA := Lib.hid hbA
      have HE := Lib.hid hexit
      clear ho hbA hexit
      go_wp2_with fail
      exact ⟨rfl, HE.out _ _ _ _ _ _ _ _ _ _ _ _ _ _ _ _ _ _ _ _ _ _ _ _ _ _ _ _ _ _ _ _ _ _ _ _ _ _ _ _ _ _ _ _ _ _ _ _ _ _ _ _ _ _ _ _ _ _ _ _ _ _ _ _ _ _ _ _ _ _ _ _ _ _ _ _ _ _ _ _ _ _ _ _ _ _ _ _ _ _ _ HO.out HBA.out⟩
set_option maxHeartbeats 8000000 in
set_option maxRecDepth 100000 in
theorem rounds_loop {Po : Act → World → Prop} {tb bK oK cK bw ow cw g g2 cB : Nat} {blk : List Int} {S : St} {wB : World} (hok : S.ok) (gBs : g < wB.heap.size) (gg2 : g < g2) (szB : tb < wB.heap.size) (hKB : Rd .u32 wB (some ⟨bK, oK, none⟩) 64 KT) (cTB : wB.cell? ⟨tb, 0, none⟩ = some (.slice (some ⟨bK, oK, none⟩) 64 cK)) (hWB : Rd .u32 wB (some ⟨bw, ow, none⟩) 64 (sched blk)) (rB : Rd .u32 wB (some ⟨g2, 0, none⟩) 8 S.l)
    (f0 f1 f3 f4 f5 f6 f7 f9 f10 f11 f12 f13 f16 f17 f18 f19 f20 f21 f22 f23 f24 f25 f26 f27 f28 f29 f30 f31 f32 f33 f34 f35 f36 f37 f38 f39 f40 f41 f42 f43 f44 f45 f46 f47 f48 f49 f50 f51 f52 f53 f54 f55 f56 f57 f58 f59 f60 f61 f62 f63 f64 f65 f66 f67 f68 f69 f70 f71 f72 f73 f74 f75 f76 f77 f78 f79 f80 f81 f82 f83 f84 f85 f86 f87 f88 f89 f90 f91 f92 f93 f94 f95 f96 f97 f98 f99 f100 f101 f102 f103 f104 f105 f106 f107 f108 f109 f110 f111 f112 f113 f114 f115 f116 f117 f118 f119 f120 f121 f122 f123 f124 f125 f126 f127 f128 f129 f130 f131 f132 f133 f134 f135 f136 f137 f138 f139 f140 f141 f142 f143 f144 f145 f146 f147 f148 f149 f150 f151 f152 f153 f154 f155 f156 f157 f158 f159 f160 f161 f162 f163 f164 f165 f166 f167 f168 f169 f170 f171 f172 f173 f174 f175 f176 f177 f178 f179 f180 f181 f182 f183 f184 f185 f186 f187 f188 f189 f190 f191 f192 f193 f194 f195 f196 f197 f198 f199 f200 f201 f202 f203 f204 f205 f206 f207 f208 f209 f210 f211 f212 f213 f214 f215 f216 f217 f218 f219 f220 f221 f222 f223 f224 f225 f226 f227 f228 f229 f230 f231 f232 f233 f234 f235 f236 f237 f238 f239 f240 f241 f242 f243 f244 f245 f246 f247 f248 f249 f250 f251 f252 f253 f254 f255 f256 f257 f258 f259 f260 f261 f262 f263 f264 f265 f266 f267 f268 f269 f270 f271 f272 f273 f274 f275 f276 f277 f278 f279 f280 f281 f282 f283 f284 f285 f286 f287 f288 f289 f290 f291 : Value)
    (hexit : ∀ (e16 e17 e18 e19 e141 e142 e143 e144 e145 e146 e147 e148 e149 e150 e151 e152 e153 e154 e155 e156 e157 e158 e159 e160 e161 e162 e163 e164 e165 e166 e167 e168 e169 e170 e171 e172 e173 e174 e175 e176 e177 e178 e179 e180 e181 e182 e183 e184 e185 e186 e187 e188 e189 e190 e191 e192 e193 e194 e195 e196 e197 e198 e199 e200 e201 e202 e203 e204 e205 e206 e207 e208 e209 e210 e211 e212 e213 e214 e215 e216 e217 e218 e219 e220 e221 e222 e223 e224 e225 e226 e227 e228 e229 e230 e231 e232 e233 e234 e235 e236 e237 e238 e239 e240 e241 : Value) (b c : Nat) (wr : World), Rd .u32 wr (some ⟨b, 0, none⟩) 8 (rnds KT (sched blk) S 64).l → g < b → Below wB.heap.size wB wr → Po ⟨List.toArray (f0 :: f1 :: (.pointer (some ⟨tb, 0, none⟩)) :: f3 :: f4 :: f5 :: f6 :: f7 :: (.slice (some ⟨bw, ow, none⟩) 64 cw) :: f9 :: f10 :: f11 :: f12 :: f13 :: (.slice (some ⟨b, 0, none⟩) 8 c) :: (.int .i64 ((64 : Nat) : Int)) :: (e16) :: (e17) :: (e18) :: (e19) :: f20 :: f21 :: f22 :: f23 :: f24 :: f25 :: f26 :: f27 :: f28 :: f29 :: f30 :: f31 :: f32 :: f33 :: f34 :: f35 :: f36 :: f37 :: f38 :: f39 :: f40 :: f41 :: f42 :: f43 :: f44 :: f45 :: f46 :: f47 :: f48 :: f49 :: f50 :: f51 :: f52 :: f53 :: f54 :: f55 :: f56 :: f57 :: f58 :: f59 :: f60 :: f61 :: f62 :: f63 :: f64 :: f65 :: f66 :: f67 :: f68 :: f69 :: f70 :: f71 :: f72 :: f73 :: f74 :: f75 :: f76 :: f77 :: f78 :: f79 :: f80 :: f81 :: f82 :: f83 :: f84 :: f85 :: f86 :: f87 :: f88 :: f89 :: f90 :: f91 :: f92 :: f93 :: f94 :: f95 :: f96 :: f97 :: f98 :: f99 :: f100 :: f101 :: f102 :: f103 :: f104 :: f105 :: f106 :: f107 :: f108 :: f109 :: f110 :: f111 :: f112 :: f113 :: f114 :: f115 :: f116 :: f117 :: f118 :: f119 :: f120 :: f121 :: f122 :: f123 :: f124 :: f125 :: f126 :: f127 :: f128 :: f129 :: f130 :: f131 :: f132 :: f133 :: f134 :: f135 :: f136 :: f137 :: f138 :: f139 :: f140 :: (e141) :: (e142) :: (e143) :: (e144) :: (e145) :: (e146) :: (e147) :: (e148) :: (e149) :: (e150) :: (e151) :: (e152) :: (e153) :: (e154) :: (e155) :: (e156) :: (e157) :: (e158) :: (e159) :: (e160) :: (e161) :: (e162) :: (e163) :: (e164) :: (e165) :: (e166) :: (e167) :: (e168) :: (e169) :: (e170) :: (e171) :: (e172) :: (e173) :: (e174) :: (e175) :: (e176) :: (e177) :: (e178) :: (e179) :: (e180) :: (e181) :: (e182) :: (e183) :: (e184) :: (e185) :: (e186) :: (e187) :: (e188) :: (e189) :: (e190) :: (e191) :: (e192) :: (e193) :: (e194) :: (e195) :: (e196) :: (e197) :: (e198) :: (e199) :: (e200) :: (e201) :: (e202) :: (e203) :: (e204) :: (e205) :: (e206) :: (e207) :: (e208) :: (e209) :: (e210) :: (e211) :: (e212) :: (e213) :: (e214) :: (e215) :: (e216) :: (e217) :: (e218) :: (e219) :: (e220) :: (e221) :: (e222) :: (e223) :: (e224) :: (e225) :: (e226) :: (e227) :: (e228) :: (e229) :: (e230) :: (e231) :: (e232) :: (e233) :: (e234) :: (e235) :: (e236) :: (e237) :: (e238) :: (e239) :: (e240) :: (e241) :: f242 :: f243 :: f244 :: f245 :: f246 :: f247 :: f248 :: f249 :: f250 :: f251 :: f252 :: f253 :: f254 :: f255 :: f256 :: f257 :: f258 :: f259 :: f260 :: f261 :: f262 :: f263 :: f264 :: f265 :: f266 :: f267 :: f268 :: f269 :: f270 :: f271 :: f272 :: f273 :: f274 :: f275 :: f276 :: f277 :: f278 :: f279 :: f280 :: f281 :: f282 :: f283 :: f284 :: f285 :: f286 :: f287 :: f288 :: f289 :: f290 :: f291 :: []), []⟩ wr) :
    Code.wp Tryz.prog (.loop (dshaLoop 4)) (Only 8 Po) ⟨List.toArray (f0 :: f1 :: (.pointer (some ⟨tb, 0, none⟩)) :: f3 :: f4 :: f5 :: f6 :: f7 :: (.slice (some ⟨bw, ow, none⟩) 64 cw) :: f9 :: f10 :: f11 :: f12 :: f13 :: (.slice (some ⟨g2, 0, none⟩) 8 cB) :: (.int .i64 0) :: f16 :: f17 :: f18 :: f19 :: f20 :: f21 :: f22 :: f23 :: f24 :: f25 :: f26 :: f27 :: f28 :: f29 :: f30 :: f31 :: f32 :: f33 :: f34 :: f35 :: f36 :: f37 :: f38 :: f39 :: f40 :: f41 :: f42 :: f43 :: f44 :: f45 :: f46 :: f47 :: f48 :: f49 :: f50 :: f51 :: f52 :: f53 :: f54 :: f55 :: f56 :: f57 :: f58 :: f59 :: f60 :: f61 :: f62 :: f63 :: f64 :: f65 :: f66 :: f67 :: f68 :: f69 :: f70 :: f71 :: f72 :: f73 :: f74 :: f75 :: f76 :: f77 :: f78 :: f79 :: f80 :: f81 :: f82 :: f83 :: f84 :: f85 :: f86 :: f87 :: f88 :: f89 :: f90 :: f91 :: f92 :: f93 :: f94 :: f95 :: f96 :: f97 :: f98 :: f99 :: f100 :: f101 :: f102 :: f103 :: f104 :: f105 :: f106 :: f107 :: f108 :: f109 :: f110 :: f111 :: f112 :: f113 :: f114 :: f115 :: f116 :: f117 :: f118 :: f119 :: f120 :: f121 :: f122 :: f123 :: f124 :: f125 :: f126 :: f127 :: f128 :: f129 :: f130 :: f131 :: f132 :: f133 :: f134 :: f135 :: f136 :: f137 :: f138 :: f139 :: f140 :: f141 :: f142 :: f143 :: f144 :: f145 :: f146 :: f147 :: f148 :: f149 :: f150 :: f151 :: f152 :: f153 :: f154 :: f155 :: f156 :: f157 :: f158 :: f159 :: f160 :: f161 :: f162 :: f163 :: f164 :: f165 :: f166 :: f167 :: f168 :: f169 :: f170 :: f171 :: f172 :: f173 :: f174 :: f175 :: f176 :: f177 :: f178 :: f179 :: f180 :: f181 :: f182 :: f183 :: f184 :: f185 :: f186 :: f187 :: f188 :: f189 :: f190 :: f191 :: f192 :: f193 :: f194 :: f195 :: f196 :: f197 :: f198 :: f199 :: f200 :: f201 :: f202 :: f203 :: f204 :: f205 :: f206 :: f207 :: f208 :: f209 :: f210 :: f211 :: f212 :: f213 :: f214 :: f215 :: f216 :: f217 :: f218 :: f219 :: f220 :: f221 :: f222 :: f223 :: f224 :: f225 :: f226 :: f227 :: f228 :: f229 :: f230 :: f231 :: f232 :: f233 :: f234 :: f235 :: f236 :: f237 :: f238 :: f239 :: f240 :: f241 :: f242 :: f243 :: f244 :: f245 :: f246 :: f247 :: f248 :: f249 :: f250 :: f251 :: f252 :: f253 :: f254 :: f255 :: f256 :: f257 :: f258 :: f259 :: f260 :: f261 :: f262 :: f263 :: f264 :: f265 :: f266 :: f267 :: f268 :: f269 :: f270 :: f271 :: f272 :: f273 :: f274 :: f275 :: f276 :: f277 :: f278 :: f279 :: f280 :: f281 :: f282 :: f283 :: f284 :: f285 :: f286 :: f287 :: f288 :: f289 :: f290 :: f291 :: []), []⟩ wB := by
  conv => arg 2; arg 1; whnf
  have HKB := Lib.hid hKB
  have CTB := Lib.hid cTB
  have HWB := Lib.hid hWB
  have RB := Lib.hid rB
  clear hKB cTB hWB rB
  go_loopw [14, 15] (fun v i wr' => BvR (sched blk) S g wB v i wr') (fun _ i _ => 64 - (intOf i).toNat)
  case atStart => exact ⟨0, g2, cB, by omega, rfl, rfl, RB.out, gg2, Below.refl _ _⟩
  case round =>
    clear RB
    obtain ⟨k, b, c, hk, rfl, rfl, hr, hgb, hbB⟩ := hrel
    rcases Nat.lt_or_ge k 64 with hlt2 | hge2
    · clear hexit
      --<B1
      obtain ⟨Rr, hRr⟩ : ∃ Rr, rnds KT (sched blk) S k = Rr := ⟨_, rfl⟩
      rw [hRr] at hr
      have hokR : Rr.ok := by rw [← hRr]; exact rnds_ok hok k
      have wa := hokR.1
      have we := hokR.2.2.2.2.1
      have e0 : wr.cell? ⟨b, 0, none⟩ = some (.int .u32 Rr.a) := hr.c0 (j := 0) (by omega)
      have e1 : wr.cell? ⟨b, 1, none⟩ = some (.int .u32 Rr.b) := hr.c0 (j := 1) (by omega)
      have e2 : wr.cell? ⟨b, 2, none⟩ = some (.int .u32 Rr.c) := hr.c0 (j := 2) (by omega)
      have e3 : wr.cell? ⟨b, 3, none⟩ = some (.int .u32 Rr.d) := hr.c0 (j := 3) (by omega)
      have e4 : wr.cell? ⟨b, 4, none⟩ = some (.int .u32 Rr.e) := hr.c0 (j := 4) (by omega)
      have e5 : wr.cell? ⟨b, 5, none⟩ = some (.int .u32 Rr.f) := hr.c0 (j := 5) (by omega)
      have e6 : wr.cell? ⟨b, 6, none⟩ = some (.int .u32 Rr.g) := hr.c0 (j := 6) (by omega)
      have e7 : wr.cell? ⟨b, 7, none⟩ = some (.int .u32 Rr.h) := hr.c0 (j := 7) (by omega)
      have ck := (HKB.out.below hbB).cx hlt2
      have cw' := (HWB.out.below hbB).cx hlt2
      have cT := (hbB.cell (p := ⟨tb, 0, none⟩) szB).trans CTB.out
      obtain ⟨kk, hkk⟩ : ∃ kk, dig KT k = kk := ⟨_, rfl⟩
      obtain ⟨mm, hmm⟩ : ∃ mm, dig (sched blk) k = mm := ⟨_, rfl⟩
      rw [hkk] at ck
      rw [hmm] at cw'
      have HNX := Lib.hid (show rnds KT (sched blk) S (k + 1) = rnd kk mm Rr by rw [← hkk, ← hmm, ← hRr]; rfl)
      have hki : (k : Int) < 64 := by omega
      have HBW := Lib.hid hbB
      have sbw := hbB.size
      clear hRr hokR hr hkk hmm hbB
      go_wp2_with fail
      go_quiet ((go_at_call 144; first | (with_reducible exact Calls.quiet_of_same (turn_q 6 rfl (by omega) Rr.e we _)) | (with_reducible exact quiet_add5 (turn_q 6 rfl (by omega) Rr.e we _)) | (with_reducible exact Calls.quiet_of_same (turn_q 11 rfl (by omega) Rr.e we _)) | (with_reducible exact quiet_add5 (turn_q 11 rfl (by omega) Rr.e we _)) | (with_reducible exact Calls.quiet_of_same (turn_q 25 rfl (by omega) Rr.e we _)) | (with_reducible exact quiet_add5 (turn_q 25 rfl (by omega) Rr.e we _))))
      go_wp2_with fail
      go_quiet ((go_at_call 144; first | (with_reducible exact Calls.quiet_of_same (turn_q 2 rfl (by omega) Rr.a wa _)) | (with_reducible exact quiet_add5 (turn_q 2 rfl (by omega) Rr.a wa _)) | (with_reducible exact Calls.quiet_of_same (turn_q 13 rfl (by omega) Rr.a wa _)) | (with_reducible exact quiet_add5 (turn_q 13 rfl (by omega) Rr.a wa _)) | (with_reducible exact Calls.quiet_of_same (turn_q 22 rfl (by omega) Rr.a wa _)) | (with_reducible exact quiet_add5 (turn_q 22 rfl (by omega) Rr.a wa _))))
      go_wp2_with fail
      go_region_held3 (fun w' => w'.cell? ⟨b, 0, none⟩ = some (.int .u32 Rr.a) ∧ w'.cell? ⟨b, 1, none⟩ = some (.int .u32 Rr.b) ∧ w'.cell? ⟨b, 2, none⟩ = some (.int .u32 Rr.c) ∧ w'.cell? ⟨b, 3, none⟩ = some (.int .u32 Rr.d) ∧ w'.cell? ⟨b, 4, none⟩ = some (.int .u32 Rr.e) ∧ w'.cell? ⟨b, 5, none⟩ = some (.int .u32 Rr.f) ∧ w'.cell? ⟨b, 6, none⟩ = some (.int .u32 Rr.g)) (first | exact ⟨e0, e1, e2, e3, e4, e5, e6⟩ | go_keep | assumption) (fail)
      all_goals
        go_wp2_with fail
        go_roundw
        case rel =>
          refine ⟨k + 1, wr.heap.size, 8, by omega, by go_num, rfl, ?_, by omega, (below_drewN HBW.out _).alloc sbw _⟩
          rw [HNX.out]
          refine rd8 _ _ _ _ _ _ _ _ _ _ (rnd kk mm Rr) ?_ rfl rfl rfl ?_ rfl rfl rfl
          · show _ = ad (t1f kk mm Rr) (t2f Rr)
            rw [t1f_eq, t2f_eq]; unfold ad; rfl
          · show _ = ad Rr.d (t1f kk mm Rr)
            rw [t1f_eq]; unfold ad; rfl
        case measure => simp [intOf]; omega
      --B1>
    · obtain rfl : k = 64 := by omega
      have HR := Lib.hid hr
      have HBB := Lib.hid hbB
      have HE := Lib.hid hexit
      clear hr hbB hexit
      go_wp2_with fail
      exact ⟨rfl, HE.out _ _ _ _ _ _ _ _ _ _ _ _ _ _ _ _ _ _ _ _ _ _ _ _ _ _ _ _ _ _ _ _ _ _ _ _ _ _ _ _ _ _ _ _ _ _ _ _ _ _ _ _ _ _ _ _ _ _ _ _ _ _ _ _ _ _ _ _ _ _ _ _ _ _ _ _ _ _ _ _ _ _ _ _ _ _ _ _ _ _ _ _ _ _ _ _ _ _ _ _ _ _ _ _ _ _ _ _ HR.out hgb HBB.out⟩
set_option maxHeartbeats 8000000 in
set_option maxRecDepth 100000 in
theorem out_loop {Po : Act → World → Prop} {s g c7 : Nat} {S : St} {wD : World} (hwd : Wds S.l) (hgD0 : g < wD.heap.size) (hMN : Mn 156 .u32 wD s (some ⟨g, 0, none⟩) 8 c7 S.l)
    (f0 f1 f2 f3 f4 f5 f7 f8 f9 f10 f11 f12 f13 f14 f15 f16 f17 f18 f19 f20 f23 f24 f25 f26 f27 f28 f29 f30 f31 f32 f33 f34 f35 f36 f37 f38 f39 f40 f41 f42 f43 f44 f45 f46 f47 f48 f49 f50 f51 f52 f53 f54 f55 f56 f57 f58 f59 f60 f61 f62 f63 f64 f65 f66 f67 f68 f69 f70 f71 f72 f73 f74 f75 f76 f77 f78 f79 f80 f81 f82 f83 f84 f85 f86 f87 f88 f89 f90 f91 f92 f93 f94 f95 f96 f97 f98 f99 f100 f101 f102 f103 f104 f105 f106 f107 f108 f109 f110 f111 f112 f113 f114 f115 f116 f117 f118 f119 f120 f121 f122 f123 f124 f125 f126 f127 f128 f129 f130 f131 f132 f133 f134 f135 f136 f137 f138 f139 f140 f141 f142 f143 f144 f145 f146 f147 f148 f149 f150 f151 f152 f153 f154 f155 f156 f157 f158 f159 f160 f161 f162 f163 f164 f165 f166 f167 f168 f169 f170 f171 f172 f173 f174 f175 f176 f177 f178 f179 f180 f181 f182 f183 f184 f185 f186 f187 f188 f189 f190 f191 f192 f193 f194 f195 f196 f197 f198 f199 f200 f201 f202 f203 f204 f205 f206 f207 f208 f209 f210 f211 f212 f213 f214 f215 f216 f217 f218 f219 f220 f221 f222 f223 f224 f225 f226 f227 f228 f229 f230 f231 f232 f233 f234 f235 f236 f237 f238 f239 f240 f241 f242 f243 f244 f245 f246 f247 f248 f249 f250 f251 f252 f253 f254 f255 f256 f257 f258 f259 f260 f261 f262 f263 f264 f265 f266 f267 f268 f269 f270 f271 f272 f273 f274 f275 f276 f277 f278 f279 f280 f281 f282 f283 f284 f285 f286 f287 f288 f289 f290 f291 : Value)
    (hexit : ∀ (e258 e259 e260 e261 e262 e263 e264 e265 e266 e267 e268 e269 e270 e271 e272 e273 e274 e275 e276 e277 e278 e279 e280 e281 e282 e283 e284 e285 e286 e287 e288 e289 e290 : Value) (v : Value) (wr : World), Own8 wr wD.heap.size v (wbs S.l) → Below wD.heap.size wD wr → Po ⟨List.toArray (f0 :: f1 :: f2 :: f3 :: f4 :: f5 :: (.slice (some ⟨g, 0, none⟩) 8 c7) :: f7 :: f8 :: f9 :: f10 :: f11 :: f12 :: f13 :: f14 :: f15 :: f16 :: f17 :: f18 :: f19 :: f20 :: (v) :: (.int .i64 ((8 : Nat) : Int)) :: f23 :: f24 :: f25 :: f26 :: f27 :: f28 :: f29 :: f30 :: f31 :: f32 :: f33 :: f34 :: f35 :: f36 :: f37 :: f38 :: f39 :: f40 :: f41 :: f42 :: f43 :: f44 :: f45 :: f46 :: f47 :: f48 :: f49 :: f50 :: f51 :: f52 :: f53 :: f54 :: f55 :: f56 :: f57 :: f58 :: f59 :: f60 :: f61 :: f62 :: f63 :: f64 :: f65 :: f66 :: f67 :: f68 :: f69 :: f70 :: f71 :: f72 :: f73 :: f74 :: f75 :: f76 :: f77 :: f78 :: f79 :: f80 :: f81 :: f82 :: f83 :: f84 :: f85 :: f86 :: f87 :: f88 :: f89 :: f90 :: f91 :: f92 :: f93 :: f94 :: f95 :: f96 :: f97 :: f98 :: f99 :: f100 :: f101 :: f102 :: f103 :: f104 :: f105 :: f106 :: f107 :: f108 :: f109 :: f110 :: f111 :: f112 :: f113 :: f114 :: f115 :: f116 :: f117 :: f118 :: f119 :: f120 :: f121 :: f122 :: f123 :: f124 :: f125 :: f126 :: f127 :: f128 :: f129 :: f130 :: f131 :: f132 :: f133 :: f134 :: f135 :: f136 :: f137 :: f138 :: f139 :: f140 :: f141 :: f142 :: f143 :: f144 :: f145 :: f146 :: f147 :: f148 :: f149 :: f150 :: f151 :: f152 :: f153 :: f154 :: f155 :: f156 :: f157 :: f158 :: f159 :: f160 :: f161 :: f162 :: f163 :: f164 :: f165 :: f166 :: f167 :: f168 :: f169 :: f170 :: f171 :: f172 :: f173 :: f174 :: f175 :: f176 :: f177 :: f178 :: f179 :: f180 :: f181 :: f182 :: f183 :: f184 :: f185 :: f186 :: f187 :: f188 :: f189 :: f190 :: f191 :: f192 :: f193 :: f194 :: f195 :: f196 :: f197 :: f198 :: f199 :: f200 :: f201 :: f202 :: f203 :: f204 :: f205 :: f206 :: f207 :: f208 :: f209 :: f210 :: f211 :: f212 :: f213 :: f214 :: f215 :: f216 :: f217 :: f218 :: f219 :: f220 :: f221 :: f222 :: f223 :: f224 :: f225 :: f226 :: f227 :: f228 :: f229 :: f230 :: f231 :: f232 :: f233 :: f234 :: f235 :: f236 :: f237 :: f238 :: f239 :: f240 :: f241 :: f242 :: f243 :: f244 :: f245 :: f246 :: f247 :: f248 :: f249 :: f250 :: f251 :: f252 :: f253 :: f254 :: f255 :: f256 :: f257 :: (e258) :: (e259) :: (e260) :: (e261) :: (e262) :: (e263) :: (e264) :: (e265) :: (e266) :: (e267) :: (e268) :: (e269) :: (e270) :: (e271) :: (e272) :: (e273) :: (e274) :: (e275) :: (e276) :: (e277) :: (e278) :: (e279) :: (e280) :: (e281) :: (e282) :: (e283) :: (e284) :: (e285) :: (e286) :: (e287) :: (e288) :: (e289) :: (e290) :: f291 :: []), []⟩ wr) :
    Code.wp Tryz.prog (.loop (dshaLoop 6)) (Only 12 Po) ⟨List.toArray (f0 :: f1 :: f2 :: f3 :: f4 :: f5 :: (.slice (some ⟨g, 0, none⟩) 8 c7) :: f7 :: f8 :: f9 :: f10 :: f11 :: f12 :: f13 :: f14 :: f15 :: f16 :: f17 :: f18 :: f19 :: f20 :: (.slice none 0 0) :: (.int .i64 0) :: f23 :: f24 :: f25 :: f26 :: f27 :: f28 :: f29 :: f30 :: f31 :: f32 :: f33 :: f34 :: f35 :: f36 :: f37 :: f38 :: f39 :: f40 :: f41 :: f42 :: f43 :: f44 :: f45 :: f46 :: f47 :: f48 :: f49 :: f50 :: f51 :: f52 :: f53 :: f54 :: f55 :: f56 :: f57 :: f58 :: f59 :: f60 :: f61 :: f62 :: f63 :: f64 :: f65 :: f66 :: f67 :: f68 :: f69 :: f70 :: f71 :: f72 :: f73 :: f74 :: f75 :: f76 :: f77 :: f78 :: f79 :: f80 :: f81 :: f82 :: f83 :: f84 :: f85 :: f86 :: f87 :: f88 :: f89 :: f90 :: f91 :: f92 :: f93 :: f94 :: f95 :: f96 :: f97 :: f98 :: f99 :: f100 :: f101 :: f102 :: f103 :: f104 :: f105 :: f106 :: f107 :: f108 :: f109 :: f110 :: f111 :: f112 :: f113 :: f114 :: f115 :: f116 :: f117 :: f118 :: f119 :: f120 :: f121 :: f122 :: f123 :: f124 :: f125 :: f126 :: f127 :: f128 :: f129 :: f130 :: f131 :: f132 :: f133 :: f134 :: f135 :: f136 :: f137 :: f138 :: f139 :: f140 :: f141 :: f142 :: f143 :: f144 :: f145 :: f146 :: f147 :: f148 :: f149 :: f150 :: f151 :: f152 :: f153 :: f154 :: f155 :: f156 :: f157 :: f158 :: f159 :: f160 :: f161 :: f162 :: f163 :: f164 :: f165 :: f166 :: f167 :: f168 :: f169 :: f170 :: f171 :: f172 :: f173 :: f174 :: f175 :: f176 :: f177 :: f178 :: f179 :: f180 :: f181 :: f182 :: f183 :: f184 :: f185 :: f186 :: f187 :: f188 :: f189 :: f190 :: f191 :: f192 :: f193 :: f194 :: f195 :: f196 :: f197 :: f198 :: f199 :: f200 :: f201 :: f202 :: f203 :: f204 :: f205 :: f206 :: f207 :: f208 :: f209 :: f210 :: f211 :: f212 :: f213 :: f214 :: f215 :: f216 :: f217 :: f218 :: f219 :: f220 :: f221 :: f222 :: f223 :: f224 :: f225 :: f226 :: f227 :: f228 :: f229 :: f230 :: f231 :: f232 :: f233 :: f234 :: f235 :: f236 :: f237 :: f238 :: f239 :: f240 :: f241 :: f242 :: f243 :: f244 :: f245 :: f246 :: f247 :: f248 :: f249 :: f250 :: f251 :: f252 :: f253 :: f254 :: f255 :: f256 :: f257 :: f258 :: f259 :: f260 :: f261 :: f262 :: f263 :: f264 :: f265 :: f266 :: f267 :: f268 :: f269 :: f270 :: f271 :: f272 :: f273 :: f274 :: f275 :: f276 :: f277 :: f278 :: f279 :: f280 :: f281 :: f282 :: f283 :: f284 :: f285 :: f286 :: f287 :: f288 :: f289 :: f290 :: f291 :: []), []⟩ wD := by
  conv => arg 2; arg 1; whnf
  have HMN := Lib.hid hMN
  have hgD : g < wD.heap.size := hgD0
  clear hMN
  go_loopw [21, 22] (fun v i wr => DoR S wD v i wr) (fun _ i _ => 8 - (intOf i).toNat)
  case atStart => exact ⟨0, Nat.zero_le _, rfl, Own8.nil _ _, Below.refl _ _⟩
  case round =>
    obtain ⟨k, hk, rfl, ho, hbD⟩ := hrel
    rcases Nat.lt_or_ge k 8 with hk8 | hk8
    · clear hexit
      obtain ⟨x, hx⟩ : ∃ x, dig S.l k = x := ⟨_, rfl⟩
      have hc := (HMN.out.below hbD).cell hk8
      have wx := dig_wd hwd k
      rw [hx] at hc wx
      have wx0 := wx.1
      have wx1 := wx.2
      have HX := Lib.hid hx
      have HO := Lib.hid ho
      have HBD2 := Lib.hid hbD
      have sbD := hbD.size
      have sgr : g < wr.heap.size := by omega
      have q0 : x.tdiv 16777216 = x / 16777216 := Int.tdiv_eq_ediv_of_nonneg wx0
      have q1 : x.tdiv 65536 = x / 65536 := Int.tdiv_eq_ediv_of_nonneg wx0
      have q2 : x.tdiv 256 = x / 256 := Int.tdiv_eq_ediv_of_nonneg wx0
      have r1 : (x / 65536).tmod 256 = x / 65536 % 256 := Int.tmod_eq_emod_of_nonneg (by omega)
      have r2 : (x / 256).tmod 256 = x / 256 % 256 := Int.tmod_eq_emod_of_nonneg (by omega)
      have r3 : x.tmod 256 = x % 256 := Int.tmod_eq_emod_of_nonneg wx0
      have o0 : IntKind.u32.wrap (x / 16777216) = x / 16777216 := by rw [IntKind.wrap_u32]; omega
      have o1 : IntKind.u32.wrap (x / 65536) = x / 65536 := by rw [IntKind.wrap_u32]; omega
      have o2 : IntKind.u32.wrap (x / 256) = x / 256 := by rw [IntKind.wrap_u32]; omega
      have o3 : IntKind.u8.wrap (x / 16777216) = x / 16777216 := by rw [IntKind.wrap_u8]; omega
      have o4 : IntKind.u8.wrap (x / 65536 % 256) = x / 65536 % 256 := by rw [IntKind.wrap_u8]; omega
      have o5 : IntKind.u8.wrap (x / 256 % 256) = x / 256 % 256 := by rw [IntKind.wrap_u8]; omega
      have o6 : IntKind.u8.wrap (x % 256) = x % 256 := by rw [IntKind.wrap_u8]; omega
      have hki : (k : Int) < 8 := by omega
      have hkc : (k : Int) < (c7 : Int) := by have := HMN.out.nc; omega
      have hlen := wbs_len (S.l.take k)
      rw [List.length_take, show S.l.length = 8 from rfl, Nat.min_eq_left (by omega)] at hlen
      have HLE := Lib.hid hlen
      have ho1 := ho
      unfold Own8 at ho1
      rw [hlen] at ho1
      have HO1 := Lib.hid ho1
      have h4k : 4 * k + 4 ≤ 36 := by omega
      clear hx ho hbD wx hlen ho1
      go_wp2_with fail
      go_region_held3 (fun w' => w'.cell? ⟨g, k, none⟩ = some (.int .u32 x)) (first | exact hc | exact k2 | go_keep | assumption)
        (first | (refine step_catK _ rfl (.tmp 262) (.tmp 289) 22 rfl wD.heap.size 1 5 .u8 Tryz.underlying22 info8u (by omega) _ (4 * k) (wbs (S.l.take k)) rfl (own_alloc1 HO1.out _).drew _ 4 4 _ rfl (rd4 _ _ _ _ _ _).drew (by omega) (by simp; omega) ?_; intro vn wn hn gn; have k2 : wn.cell? ⟨g, k, none⟩ = some (.int .u32 x) := (World.cell?_of_block (gn.block g (by simp; omega) (fun e => by have := (HO1.out.lt g e.symm).1; omega))).trans ((World.cell?_alloc_lt _ _ ⟨g, k, none⟩ (by show g < wr.heap.size; omega)).trans hc); have HNn := Lib.hid hn; have GN := Lib.hid gn; clear hn gn))
      have hb2 := own_below ((HBD2.out.alloc sbD _).drew) (own_alloc1 HO1.out _).drew GN.out (by simp; omega) (Nat.le_refl _)
      have e : wbs (S.l.take (k + 1)) = wbs (S.l.take k) ++ wb4 x := by
        rw [List.take_succ_eq_append_getElem (show k < S.l.length from hk8), wbs_append]
        have e : S.l[k]'(show k < S.l.length from hk8) = x := by rw [← HX.out]; exact (dig_lt (List.getElem?_eq_getElem _)).symm
        rw [e]; simp [wbs]
      have ho2 : Own8 wn wD.heap.size vn (wbs (S.l.take (k + 1))) := by
        unfold Own8
        rw [e, List.length_append, HLE.out]
        exact HNn.out
      have HO2 := Lib.hid ho2
      clear HNn GN ho2 e k2 q0 q1 q2 r1 r2 r3 o0 o1 o2 o3 o4 o5 o6 hc
      go_wp2_with fail
      go_roundw
      case rel => exact ⟨k + 1, by omega, by go_num, HO2.out, hb2⟩
      case measure => simp [intOf]; omega
    · obtain rfl : k = 8 := by omega
      rw [show S.l.take 8 = S.l from rfl] at ho
      have HO := Lib.hid ho
      have HB8 := Lib.hid hbD
      have HE := Lib.hid hexit
      clear ho hbD hexit
      go_wp2_with fail
      exact ⟨rfl, HE.out _ _ _ _ _ _ _ _ _ _ _ _ _ _ _ _ _ _ _ _ _ _ _ _ _ _ _ _ _ _ _ _ _ _ _ HO.out HB8.out⟩
end Go.Proofs.YtloibmemlkfkfaaGreatDoor
