/-
  The walk of NatBytes: the number of any bytes, and the bytes of any number.
-/
import Derived.Test.YtejggejpafpahaaRFrom
import Derived.Test.YtejggejpafpahaaWSums
namespace Go
section
variable {P : Program} (w : World)
theorem run_neq_iface_int {ti tn : TypeId} {ms : Array (String × TypeId)} {i : TypeInfo} {k : IntKind} (a b : Int)
    (hi : P.underlying ti = some (.interface ms)) (hn : P.underlying tn = some (.int k)) (hinfo : P.info? tn = some i) (hcomp : i.comparable = true) :
    (binOp .neq ti (.iface tn (.int k a)) (.iface tn (.int k b))).run P w = .ok (.bool (!(a == b))) w := by
  simp only [binOp]
  simp [Op.equal, Op.maxDepth, run_equalIn_iface_int w 9998 a b hi hn hinfo hcomp]
end
end Go
namespace Go.Proofs.Ytejggejpafpahaa
open Go.RowKit
set_option linter.unusedVariables false
theorem neq_code (a b : Int) (w : World) : (binOp .neq 27 (.iface 32 (.int .i64 a)) (.iface 32 (.int .i64 b))).run Try.prog w = .ok (.bool (!(a == b))) w := by
  have h := comp32
  cases hi : Try.prog.info? 32 with
  | none => rw [hi] at h; cases h
  | some i =>
    rw [hi] at h
    exact run_neq_iface_int w a b Try.underlying27 Try.underlying32 hi (by simpa using h)
/-- string(b), whatever slice of bytes b is. -/
theorem conv_any {w : World} {A : Option Addr} {n c : Nat} {bs : List Int} (h : Rd .u8 w A n bs) : (convert 52 9 (.slice A n c)).run Try.prog w = .ok (.string (strOfNums bs)) w := by
  rcases Nat.eq_zero_or_pos n with g | g
  · subst g
    obtain rfl : bs = [] := List.eq_nil_of_length_eq_zero h.len
    cases A with
    | none => exact run_convert_bytes_nil (P := Try.prog) w 52 5 Try.underlying52 Try.underlying5 0 c 9 Try.underlying9
    | some ad =>
      rw [run_convert_bytes_string w 52 9 5 _ 0 c Try.underlying52 Try.underlying5 Try.underlying9]
      have hl : (loadCells ad 0).run Try.prog w = .ok (([] : List Int).map (Value.int .u8)).toArray w := by
        have := run_loadCells_list (P := Try.prog) w ad [] (fun j v hj => by simp at hj)
        simpa using this
      rw [run_bytesToString w ad 0 c [] hl]
      rfl
  · obtain ⟨b, off, rfl, hb, hc⟩ := h.cells g
    exact run_convert_bytes_arg w 52 5 Try.underlying52 Try.underlying5 b off n c bs h.len (fun i hi => hc i _ (by rw [List.getD_eq_getElem?_getD, getElem?_dig (by rw [h.len]; exact hi)]; rfl)) 9 Try.underlying9
theorem low_lt {bs : List Int} (hd : Dig 256 bs) (n k : Nat) : 0 ≤ low bs n k ∧ low bs n k < 256 ^ k := vf_bd (by decide) (fun j => dig_bd (by decide) hd _) k
theorem bytes_back {bs : List Int} {n : Nat} (hd : Dig 256 bs) (hl : bs.length = n) : bytesL (low bs n n) n = bs := by
  refine ext_dig (by rw [bytesL_len, hl]) (fun j hj => ?_)
  rw [bytesL_len] at hj
  rw [bytesL_dig hj]
  -- byte n - 1 - j of the number
  have h1 : low bs n n = low bs n (n - 1 - j) + 256 ^ (n - 1 - j) * (dig bs j + 256 * vf 256 (fun i => dig bs (n - 1 - (n - 1 - j + 1 + i))) j) := by
    have a := vf_split 256 (fun i => dig bs (n - 1 - i)) (n - 1 - j + 1) j
    rw [show n - 1 - j + 1 + j = n by omega] at a
    have b : vf 256 (fun i => dig bs (n - 1 - i)) (n - 1 - j + 1) = low bs n (n - 1 - j) + dig bs j * 256 ^ (n - 1 - j) := by
      show low bs n (n - 1 - j) + dig bs (n - 1 - (n - 1 - j)) * 256 ^ (n - 1 - j) = _
      rw [show n - 1 - (n - 1 - j) = j by omega]
    rw [b, Int.pow_succ] at a
    show vf 256 (fun i => dig bs (n - 1 - i)) n = _
    rw [a]
    generalize (256 : Int) ^ (n - 1 - j) = p
    grind
  have h2 := low_lt hd n (n - 1 - j)
  have hp : (0 : Int) < 256 ^ (n - 1 - j) := Int.pow_pos (by decide)
  have d := dig_bd (b := 256) (by decide) hd j
  rw [h1, Int.add_mul_ediv_left _ _ (Int.ne_of_gt hp), Int.ediv_eq_zero_of_lt h2.1 h2.2, Int.zero_add, Int.add_mul_emod_self_left, Int.emod_eq_of_lt d.1 d.2]
theorem nb_bytes {bs : List Int} {n : Nat} (hd : Dig 256 bs) : nb (low bs n n) ≤ 8 * n := by
  refine dg_len_le (by decide) (low_lt hd n n).1 ?_
  have h := (low_lt hd n n).2
  have e : (256 : Int) ^ n = 2 ^ (8 * n) := by
    have : (256 : Int) = 2 ^ 8 := by decide
    rw [this, ← Int.pow_mul]
  rw [← e]; exact h
theorem dr_bytes {bs : List Int} {n : Nat} (hd : Dig 256 bs) (hn : n ≤ 512) : dr (low bs n n) ≤ 256 := dr_pow (low_lt hd n n).1 (low_lt hd n n).2 hn
theorem str_neq (s : ByteArray) : (s.toList != s.toList) = false := by simp
theorem str_eql (s : ByteArray) : (s.toList == s.toList) = true := by simp
theorem rowAll {w : World} {g : Nat} {t : TypeId} {k : IntKind} {bs : List Int} {n : Nat} (h : Row w g t k bs) (hl : bs.length = n) : Rd k w (some ⟨g, 0, none⟩) n bs := h.rd hl (fun j x hx => by rwa [Nat.zero_add])

set_option maxHeartbeats 16000000 in
set_option maxRecDepth 100000 in
theorem natBytes_walk0 {A A' : Option Addr} {n c n' c' : Nat} {bs ys : List Int} {M : Int} {w : World} (hA : Rd .u8 w A n bs) (hd : Dig 256 bs) (hnn : n ≤ 140737488351232) (hb : Ar w A' n' c' ys M) (i : Int) (hi : -9223372036854775808 ≤ i ∧ i ≤ 9223372036854775807) :
    Calls Try.prog 7 #[.slice A n c, .slice A' n' c', .int .i64 i] w fun e w' => e = .returned (.bool true) ∧ Below w.heap.size w w' := by
  have q1 := neq_code 2 2
  have q2 := eql_code 2 2
  have q3 : ((1 : Int) == 1) = true := rfl
  have n0 := hb.told.c60
  have m0 := hb.nm.pos
  have HI := Lib.hid hi
  have i0 := hi.1
  have i1 := hi.2
  clear hi
  by_cases hn : 512 < n
  · go_enter Try.func7, Try.ntmps7
    go_wp2_with fail
    refine (up_v _).mono ?_
    rintro e w1 ⟨rfl, b1⟩
    go_wp2_with fail
    refine (from_long hn).mono ?_
    rintro e w2 ⟨rfl, bn2⟩
    have b2 := b1.trans (bn2.mono b1.size)
    by_cases h300 : 300 < n'
    · have BB := Lib.hid b2
      go_wp2
      go_ret
      exact ⟨rfl, BB.out⟩
    · have h300' : n' ≤ 300 := by omega
      clear h300
      by_cases hr : i < 0 ∨ 1024 < i
      · have HR := Lib.hid hr
        go_wp2_with fail
        refine (bytes_arg i HR.out).mono ?_
        rintro e w3 ⟨rfl, bn3⟩
        have b3 := b2.trans (bn3.mono b2.size)
        have BB := Lib.hid b3
        rcases HR.out with g | g
        · clear hr
          go_wp2_with fail
          refine (code_one _).mono ?_
          rintro e w4 ⟨rfl, rfl⟩
          go_wp2
          go_ret
          exact ⟨rfl, BB.out⟩
        · clear hr
          have g0 : 0 ≤ i := by omega
          go_wp2_with fail
          refine (code_one _).mono ?_
          rintro e w4 ⟨rfl, rfl⟩
          go_wp2
          go_ret
          exact ⟨rfl, BB.out⟩
      · obtain ⟨l, rfl⟩ := Int.eq_ofNat_of_zero_le (show 0 ≤ i by omega)
        have hl : l ≤ 1024 := by omega
        have hrm := dr_le m0 (show dl M ≤ 300 by have := hb.nm.dl_le; omega)
        clear hr
        by_cases hf : nb M ≤ 8 * l
        · have hf2 : decide ((nb M : Int) ≤ 8 * (l : Int)) = true := by simp; omega
          have HF := Lib.hid hf
          clear hf
          go_wp2_with fail
          refine (bytes_any (hb.below b2).nm l hl HF.out).mono ?_
          rintro e w3 ⟨rfl, r1, bn3⟩
          have b3 := b2.trans (bn3.mono b2.size)
          have r1 := rowAll r1 (bytesL_len M l)
          go_wp2_with fail
          refine (of_ar (hb.below b3) (by omega)).mono ?_
          rintro e w4 ⟨Bq, mq, cq, rfl, vq, bn4⟩
          have b4 := b3.trans (bn4.mono b3.size)
          have r1 := r1.below bn4
          have zq : mq ≤ 100000 := by have := vq.len_; omega
          go_wp2_with fail
          refine (rbytes_any vq zq l hl).mono ?_
          rintro e w5 ⟨rfl, r2, bn5⟩
          have b5 := b4.trans (bn5.mono b4.size)
          have c1 := conv_any (c := l) (r1.below bn5)
          have c2 := conv_any (c := l) (rowAll r2 (bytesL_len M l))
          have s1 := str_eql (strOfNums (bytesL M l))
          have BB := Lib.hid b5
          clear r1 r2 bn3 bn4 bn5 b3 b4 b5
          go_wp2
          go_ret
          exact ⟨by first | rfl | (simp; done), BB.out⟩
        · have hf2 : decide ((nb M : Int) ≤ 8 * (l : Int)) = false := by simp; omega
          have hf3 : 8 * l < nb M := by omega
          have HF := Lib.hid hf3
          clear hf hf3
          go_wp2_with fail
          refine (bytes_long (hb.below b2).nm l hl HF.out).mono ?_
          rintro e w3 ⟨rfl, bn3⟩
          have b3 := b2.trans (bn3.mono b2.size)
          go_wp2_with fail
          refine (of_ar (hb.below b3) (by omega)).mono ?_
          rintro e w4 ⟨Bq, mq, cq, rfl, vq, bn4⟩
          have b4 := b3.trans (bn4.mono b3.size)
          have zq : mq ≤ 100000 := by have := vq.len_; omega
          go_wp2_with fail
          refine (rbytes_any vq zq l hl).mono ?_
          rintro e w5 ⟨rfl, r2, bn5⟩
          have b5 := b4.trans (bn5.mono b4.size)
          have BB := Lib.hid b5
          clear r2 bn3 bn4 bn5 b3 b4 b5
          go_wp2
          go_ret
          exact ⟨by first | rfl | (simp; done), BB.out⟩
  · have hn' : n ≤ 512 := by omega
    clear hn
    have hdb := dr_bytes (n := n) hd hn'
    have hnb := nb_bytes (n := n) hd
    have HNB := Lib.hid hnb
    have epv := pv_all bs n
    have hback := bytes_back hd hA.len
    have hrf := fun W' (hh : Rd .u8 W' A n bs) => rfrom_any (c := c) hh hd hn'
    rw [epv] at hrf
    have HRF := Lib.hid hrf
    have HBACK := Lib.hid hback
    clear hnb epv hback hrf
    go_enter Try.func7, Try.ntmps7
    go_wp2_with fail
    refine (up_v _).mono ?_
    rintro e w1 ⟨rfl, b1⟩
    go_wp2_with fail
    refine (from_any (hA.below b1) hd hn').mono ?_
    rintro e w2 ⟨Bx, mx, cx, rfl, vx, bn2, -⟩
    have b2 := b1.trans (bn2.mono b1.size)
    go_wp2_with fail
    refine (HRF.out _ (hA.below b2)).mono ?_
    rintro e w3 ⟨Bp, mp, cp, rfl, vp, bn3⟩
    have b3 := b2.trans (bn3.mono b2.size)
    have vx := vx.below bn3
    have zp : mp ≤ 100000 := by have := vp.len_; omega
    go_wp2_with fail
    refine (to_any vp zp).mono ?_
    rintro e w4 ⟨Bt, mt, ct, rfl, vt, bn4⟩
    have b4 := b3.trans (bn4.mono b3.size)
    have vx := vx.below bn4
    go_wp2_with fail
    refine (same_rd vx.rd vt vx.c60).mono ?_
    rintro e w5 ⟨rfl, bn5⟩
    have b5 := b4.trans (bn5.mono b4.size)
    have vx := vx.below bn5
    go_wp2_with fail
    refine (bytes_any vx.nm n (by omega) HNB.out).mono ?_
    rintro e w6 ⟨rfl, r1, bn6⟩
    have b6 := b5.trans (bn6.mono b5.size)
    rw [HBACK.out] at r1
    have c1 := conv_any (c := n) (rowAll r1 hA.len)
    have c2 := conv_any (c := c) (hA.below b6)
    have s1 := str_neq (strOfNums bs)
    clear r1 vx vp vt bn2 bn3 bn4 bn5 bn6 b1 b2 b3 b4 b5
    by_cases h300 : 300 < n'
    · have BB := Lib.hid b6
      go_wp2
      go_ret
      exact ⟨rfl, BB.out⟩
    · have h300' : n' ≤ 300 := by omega
      clear h300
      by_cases hr : i < 0 ∨ 1024 < i
      · have HR := Lib.hid hr
        go_wp2_with fail
        refine (bytes_arg i HR.out).mono ?_
        rintro e w7 ⟨rfl, bn7⟩
        have b7 := b6.trans (bn7.mono b6.size)
        have BB := Lib.hid b7
        rcases HR.out with g | g
        · clear hr
          go_wp2_with fail
          refine (code_one _).mono ?_
          rintro e w8 ⟨rfl, rfl⟩
          go_wp2
          go_ret
          exact ⟨rfl, BB.out⟩
        · clear hr
          have g0 : 0 ≤ i := by omega
          go_wp2_with fail
          refine (code_one _).mono ?_
          rintro e w8 ⟨rfl, rfl⟩
          go_wp2
          go_ret
          exact ⟨rfl, BB.out⟩
      · obtain ⟨l, rfl⟩ := Int.eq_ofNat_of_zero_le (show 0 ≤ i by omega)
        have hl : l ≤ 1024 := by omega
        have hrm := dr_le m0 (show dl M ≤ 300 by have := hb.nm.dl_le; omega)
        clear hr
        by_cases hf : nb M ≤ 8 * l
        · have hf2 : decide ((nb M : Int) ≤ 8 * (l : Int)) = true := by simp; omega
          have HF := Lib.hid hf
          clear hf
          go_wp2_with fail
          refine (bytes_any (hb.below b6).nm l hl HF.out).mono ?_
          rintro e w7 ⟨rfl, r1, bn7⟩
          have b7 := b6.trans (bn7.mono b6.size)
          have r1 := rowAll r1 (bytesL_len M l)
          go_wp2_with fail
          refine (of_ar (hb.below b7) (by omega)).mono ?_
          rintro e w8 ⟨Bq, mq, cq, rfl, vq, bn8⟩
          have b8 := b7.trans (bn8.mono b7.size)
          have r1 := r1.below bn8
          have zq : mq ≤ 100000 := by have := vq.len_; omega
          go_wp2_with fail
          refine (rbytes_any vq zq l hl).mono ?_
          rintro e w9 ⟨rfl, r2, bn9⟩
          have b9 := b8.trans (bn9.mono b8.size)
          have c1 := conv_any (c := l) (r1.below bn9)
          have c2 := conv_any (c := l) (rowAll r2 (bytesL_len M l))
          have s1 := str_eql (strOfNums (bytesL M l))
          have BB := Lib.hid b9
          clear r1 r2 bn7 bn8 bn9 b7 b8 b9
          go_wp2
          go_ret
          exact ⟨by first | rfl | (simp; done), BB.out⟩
        · have hf2 : decide ((nb M : Int) ≤ 8 * (l : Int)) = false := by simp; omega
          have hf3 : 8 * l < nb M := by omega
          have HF := Lib.hid hf3
          clear hf hf3
          go_wp2_with fail
          refine (bytes_long (hb.below b6).nm l hl HF.out).mono ?_
          rintro e w7 ⟨rfl, bn7⟩
          have b7 := b6.trans (bn7.mono b6.size)
          go_wp2_with fail
          refine (of_ar (hb.below b7) (by omega)).mono ?_
          rintro e w8 ⟨Bq, mq, cq, rfl, vq, bn8⟩
          have b8 := b7.trans (bn8.mono b7.size)
          have zq : mq ≤ 100000 := by have := vq.len_; omega
          go_wp2_with fail
          refine (rbytes_any vq zq l hl).mono ?_
          rintro e w9 ⟨rfl, r2, bn9⟩
          have b9 := b8.trans (bn9.mono b8.size)
          have BB := Lib.hid b9
          clear r2 bn7 bn8 bn9 b7 b8 b9
          go_wp2
          go_ret
          exact ⟨by first | rfl | (simp; done), BB.out⟩
theorem natBytes_walk {A A' : Option Addr} {n c n' c' : Nat} {zs ys : List Int} {w : World} (ha : IsRow .u8 1 w A n c zs) (hb : Told w A' n' c' ys) (i : Int) (hi : -9223372036854775808 ≤ i ∧ i ≤ 9223372036854775807) :
    Calls Try.prog 7 #[.slice A n c, .slice A' n' c', .int .i64 i] w fun e w' => e = .returned (.bool true) ∧ Below w.heap.size w w' :=
  natBytes_walk0 ha.rd (fun x hx => by have := bounds_u8 (ha.wf x hx); omega) (by have := ha.nc; omega) ⟨hb, rfl⟩ i hi
end Go.Proofs.Ytejggejpafpahaa
