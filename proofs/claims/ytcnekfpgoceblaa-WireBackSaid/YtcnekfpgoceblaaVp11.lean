/-
  Packets: the program's calls and the document's in one form.
-/
import Derived.Test.YtcnekfpgoceblaaPcl
import Derived.Test.YtcnekfpgoceblaaPck
import Derived.Test.YtcnekfpgoceblaaIrp
import Derived.Test.YtcnekfpgoceblaaMxy
namespace Go.Proofs.Ytcnekfpgoceblaa
open Go.RowKit
set_option linter.unusedVariables false
theorem erv_nil : ErV .nilIface 0 := .inl ⟨rfl, rfl⟩
theorem erv_one {c : Int} (h : 1 ≤ c ∧ c ≤ 15) : ErV (.iface 57 (.int .i64 c)) c := .inr ⟨h, rfl⟩
/-- The bytes of a packet whose numbers are counts. -/
theorem pkt_enc {m : Pkd} (h : m.Cn) (hl : m.xs.length ≤ 4611686018427387904) : pktO m = ⟨pktC.enc (pv m), 0⟩ := by
  have c : ∀ {n : Int} (s : OuS), Cnt n → s.cnt n = s.put (cntE n.toNat) := fun {n} s hn => if_neg (by have := hn.1; have := hn.2; omega)
  unfold pktO
  rw [c _ h.f, c _ h.t, c _ h.q, OuS.cnt_ok (n := m.xs.length) (by unfold topC; omega)]
  have e : pktC.enc (pv m) = cntE m.f.toNat ++ (cntE m.t.toNat ++ (cntE m.q.toNat ++ (truC.enc m.a ++ bytesC.enc m.xs))) := rfl
  rw [e, bytesC_enc]
  unfold OuS.tru OuS.put
  simp only [List.append_assoc, List.nil_append]
  rfl
theorem pkt_ok {m : Pkd} (h : m.Cn) (hl : m.xs.length ≤ 4611686018427387904) (hd : Dig 256 m.xs) : pktC.ok (pv m) := by
  have t : ∀ {n : Int}, Cnt n → n.toNat ≤ topC := fun {n} hn => by unfold topC; have := hn.2; omega
  exact ⟨t h.f, t h.t, t h.q, trivial, by unfold topC; exact hl, fun v hv => hd v hv⟩
theorem bad_keeps {s : OuS} (h : s.bad = 1) : (∀ l, (s.put l).bad = 1) ∧ (∀ n, (s.cnt n).bad = 1) ∧ (∀ q, (s.tru q).bad = 1) ∧ ∀ M, (s.done M).bad = 1 := by
  have hf : ∀ k, (s.fail k).bad = 1 := fun k => by
    show (if s.bad = 0 ∨ k = 1 then k else s.bad) = 1
    split
    · rename_i g
      rcases g with g | g
      · rw [h] at g; cases g
      · exact g
    · exact h
  refine ⟨fun l => h, fun n => ?_, fun q => h, fun M => ?_⟩
  · unfold OuS.cnt; split
    · exact hf 1
    · exact h
  · unfold OuS.done; split
    · exact hf 2
    · exact h
theorem cnt_bad {s : OuS} {n : Int} (h : ¬ Cnt n) : (s.cnt n).bad = 1 := by
  have e : s.cnt n = s.fail 1 := if_pos (by
    rcases Int.lt_or_le n 0 with g | g
    · exact .inl g
    · exact .inr (by
        rcases Int.lt_or_le 4611686018427387904 n with g2 | g2
        · exact g2
        · exact absurd ⟨g, g2⟩ h))
  rw [e]
  show (if s.bad = 0 ∨ (1 : Int) = 1 then (1 : Int) else s.bad) = 1
  rw [if_pos (.inr rfl)]
theorem pkt_bad {m : Pkd} (h : ¬ m.Cn) (M : Nat) : ((pktO m).done M).bad = 1 := by
  refine (bad_keeps ?_).2.2.2 M
  unfold pktO
  refine (bad_keeps ?_).1 _
  refine (bad_keeps ?_).2.1 _
  refine (bad_keeps ?_).2.2.1 _
  by_cases hf : Cnt m.f
  · by_cases ht : Cnt m.t
    · have hq : ¬ Cnt m.q := fun hq => h ⟨hf, ht, hq⟩
      exact cnt_bad hq
    · exact (bad_keeps (cnt_bad ht)).2.1 _
  · exact (bad_keeps ((bad_keeps (cnt_bad hf)).2.1 _)).2.1 _
/-- What a call that writes answers, by its code and its bytes. -/
def WcP (code : Int) (bs : List Int) (w : World) (e : Ending) (w' : World) : Prop :=
  ∃ A c E, e = .returned (.tuple #[.slice A bs.length c, E]) ∧ ErV E code ∧ Rd .u8 w' A bs.length bs ∧ bs.length ≤ c ∧ Below w.heap.size w w'
/-- The document's. -/
def WdP (code : Int) (bs : List Int) (w : World) (e : Ending) (w' : World) : Prop :=
  ∃ A c, e = .returned (.tuple #[.slice A bs.length c, .int .i64 code]) ∧ Rd .u8 w' A bs.length bs ∧ Below w.heap.size w w'
theorem wo_wc {cn : Prop} {M : Nat} {s : OuS} {w w' : World} {e : Ending} {code : Int} {bs : List Int} (h : WoP cn M s w e w') (h1 : ¬ cn → code = 1 ∧ bs = []) (h2 : cn → s.over M → code = 2 ∧ bs = []) (h3 : cn → ¬ s.over M → code = 0 ∧ bs = s.b) : WcP code bs w e w' := by
  rcases h with ⟨a, rfl, b⟩ | ⟨a, a2, rfl, b⟩ | ⟨a, a2, v, rfl, ho, b⟩
  · obtain ⟨rfl, rfl⟩ := h1 a
    exact ⟨none, 0, _, rfl, erv_one (by decide), Rd.nil _ _ _, Nat.le_refl _, b⟩
  · obtain ⟨rfl, rfl⟩ := h2 a a2
    exact ⟨none, 0, _, rfl, erv_one (by decide), Rd.nil _ _ _, Nat.le_refl _, b⟩
  · obtain ⟨rfl, rfl⟩ := h3 a a2
    obtain ⟨A, c, rfl, rd, hc, -⟩ := own_rd ho
    exact ⟨A, c, _, rfl, erv_nil, rd, hc, b⟩
/-- Packet, by the program and by the document: one code, the same bytes. -/
theorem pkt_two (m : Pkd) (hf : I64 m.f) (ht : I64 m.t) (hq : 0 ≤ m.q ∧ m.q < 18446744073709551616) (hl : m.xs.length ≤ 140737488355328) (hd : Dig 256 m.xs) :
    ∃ (code : Int) (bs : List Int), (0 ≤ code ∧ code ≤ 15) ∧ bs.length ≤ 2097152 ∧ Dig 256 bs ∧ (code = 0 → m.Cn ∧ bs = pktC.enc (pv m)) ∧
      (∀ w, Rd .u8 w m.A m.xs.length m.xs → Calls Try.prog 14 #[.agg #[.int .i64 m.f, .int .i64 m.t, .int .u64 m.q, .bool m.a, .slice m.A m.xs.length m.c]] w (WcP code bs w)) ∧
      ∀ w, Rd .u8 w m.A m.xs.length m.xs → Calls Try.prog 15 #[.agg #[.int .i64 m.f, .int .i64 m.t, .int .u64 m.q, .bool m.a, .slice m.A m.xs.length m.c]] w (WdP code bs w) := by
  by_cases hc : m.Cn
  · have he := pkt_enc hc (by omega)
    have hde : Dig 256 (pktC.enc (pv m)) := fun x hx => by
      have e : pktC.enc (pv m) = cntE m.f.toNat ++ (cntE m.t.toNat ++ (cntE m.q.toNat ++ (truC.enc m.a ++ bytesC.enc m.xs))) := rfl
      rw [e, bytesC_enc] at hx
      rcases List.mem_append.1 hx with hx | hx
      · exact cntE_dig _ x hx
      rcases List.mem_append.1 hx with hx | hx
      · exact cntE_dig _ x hx
      rcases List.mem_append.1 hx with hx | hx
      · exact cntE_dig _ x hx
      rcases List.mem_append.1 hx with hx | hx
      · have : x ∈ [if m.a = true then (1 : Int) else 0] := hx
        rw [List.mem_singleton] at this
        rw [this]; split <;> omega
      rcases List.mem_append.1 hx with hx | hx
      · exact cntE_dig _ x hx
      · exact hd x hx
    by_cases hov : (pktO m).over 2097152
    · have hb : ((pktO m).done 2097152).bad = 2 := by
        have h1 : 2097152 < (pktO m).b.length := by
          rcases hov with h | h
          · rw [he] at h; exact absurd rfl h
          · exact h
        unfold OuS.done
        rw [if_pos h1, he]
        rfl
      refine ⟨2, [], by decide, by decide, fun x hx => (by cases hx), fun h => (by cases h), fun w hr => (pPacket_any hr hf ht hq (by omega)).mono fun e w' h => wo_wc h (fun g => absurd hc g) (fun _ _ => ⟨rfl, rfl⟩) (fun _ g => absurd hov g), fun w hr => (ropkt_any hr hq hl).mono fun e w' h => ?_⟩
      rcases h with ⟨a, -⟩ | ⟨a, rfl, b⟩
      · rw [hb] at a; cases a
      · rw [hb]; exact ⟨none, 0, rfl, Rd.nil _ _ _, b⟩
    · have hb : (pktO m).done 2097152 = pktO m := by
        unfold OuS.done
        rw [if_neg fun h => hov (.inr h)]
      refine ⟨0, (pktO m).b, by decide, ?_, by rw [he]; exact hde, fun _ => ⟨hc, by rw [he]⟩, fun w hr => (pPacket_any hr hf ht hq (by omega)).mono fun e w' h => wo_wc h (fun g => absurd hc g) (fun _ g => absurd g hov) (fun _ _ => ⟨rfl, rfl⟩), fun w hr => (ropkt_any hr hq hl).mono fun e w' h => ?_⟩
      · rcases Nat.lt_or_ge 2097152 (pktO m).b.length with g | g
        · exact absurd (.inr g) hov
        · exact g
      · rw [hb] at h
        rcases h with ⟨a, v, rfl, ho, b⟩ | ⟨a, -⟩
        · obtain ⟨A, c, rfl, rd, -⟩ := own_rd ho
          exact ⟨A, c, rfl, rd, b⟩
        · rw [he] at a; exact absurd rfl a
  · have hb := pkt_bad hc 2097152
    refine ⟨1, [], by decide, by decide, fun x hx => (by cases hx), fun h => (by cases h), fun w hr => (pPacket_any hr hf ht hq (by omega)).mono fun e w' h => wo_wc h (fun g => ⟨rfl, rfl⟩) (fun g _ => absurd g hc) (fun g _ => absurd g hc), fun w hr => (ropkt_any hr hq hl).mono fun e w' h => ?_⟩
    rcases h with ⟨a, -⟩ | ⟨a, rfl, b⟩
    · rw [hb] at a; cases a
    · rw [hb]; exact ⟨none, 0, rfl, Rd.nil _ _ _, b⟩
/-! ### reading -/
/-- What was read, nothing told as noughts. -/
def pkOf (o : Option PktT) : PktT := o.getD (0, (0, (0, (false, []))))
abbrev pkV (V : PktT) (A : Option Addr) (c : Nat) : Value := .agg #[.int .i64 (V.1 : Nat), .int .i64 (V.2.1 : Nat), .int .u64 (V.2.2.1 : Nat), .bool V.2.2.2.1, .slice A V.2.2.2.2.length c]
def RcV (xs : List Int) (w : World) (e : Ending) (w' : World) : Prop :=
  ∃ A c E, e = .returned (.tuple #[pkV (pkOf (rdC pktC 2097152 xs).2) A c, E]) ∧ ErV E (rdC pktC 2097152 xs).1 ∧ Rd .u8 w' A (pkOf (rdC pktC 2097152 xs).2).2.2.2.2.length (pkOf (rdC pktC 2097152 xs).2).2.2.2.2 ∧ Below w.heap.size w w'
def RdV (xs : List Int) (w : World) (e : Ending) (w' : World) : Prop :=
  ∃ A c, e = .returned (.tuple #[pkV (pkOf (rdC pktC 2097152 xs).2) A c, .int .i64 (rdC pktC 2097152 xs).1]) ∧ Rd .u8 w' A (pkOf (rdC pktC 2097152 xs).2).2.2.2.2.length (pkOf (rdC pktC 2097152 xs).2).2.2.2.2 ∧ Below w.heap.size w w'
theorem pv_back {m : Pkd} (h : m.Cn) : m.f = ((pv m).1 : Int) ∧ m.t = ((pv m).2.1 : Int) ∧ m.q = ((pv m).2.2.1 : Int) :=
  ⟨(Int.toNat_of_nonneg h.f.1).symm, (Int.toNat_of_nonneg h.t.1).symm, (Int.toNat_of_nonneg h.q.1).symm⟩
theorem pread_v {w : World} {A : Option Addr} {n c : Nat} {xs : List Int} (hr : Rd .u8 w A n xs) (hd : Dig 256 xs) (hnc : n ≤ c) (hn47 : n ≤ 140737488355328) :
    Calls Try.prog 16 #[.slice A n c] w (RcV xs w) := by
  refine (pReadPacket_any hr hd hnc hn47).mono ?_
  rintro e w' (⟨m, h1, rfl, h2, -, h3⟩ | ⟨code, h1, h2, rfl, h3⟩)
  · obtain ⟨e1, e2, e3⟩ := pv_back h2.cn
    refine ⟨m.A, m.c, .nilIface, ?_, by rw [h1]; exact erv_nil, by rw [h1]; exact h2.rd, h3⟩
    rw [h1]
    show Ending.returned (.tuple #[.agg #[.int .i64 m.f, .int .i64 m.t, .int .u64 m.q, .bool m.a, .slice m.A m.xs.length m.c], .nilIface]) = _
    rw [e1, e2, e3]
    rfl
  · refine ⟨none, 0, _, by rw [h1]; rfl, by rw [h1]; exact erv_one (by omega), by rw [h1]; exact Rd.nil _ _ _, h3⟩
theorem rread_v {w : World} {A : Option Addr} {n c : Nat} {xs : List Int} (hr : Rd .u8 w A n xs) (hd : Dig 256 xs) (hnc : n ≤ c) (hn47 : n ≤ 140737488355328) :
    Calls Try.prog 17 #[.slice A n c] w (RdV xs w) := by
  refine (rrpkt_any hr hd hnc hn47).mono ?_
  rintro e w' (⟨m, h1, rfl, h2, h4, h3⟩ | ⟨code, h1, h2, rfl, h3⟩)
  · obtain ⟨e1, e2, e3⟩ := pv_back h4
    refine ⟨m.A, m.c, ?_, by rw [h1]; exact h2, h3⟩
    rw [h1]
    show Ending.returned (.tuple #[.agg #[.int .i64 m.f, .int .i64 m.t, .int .u64 m.q, .bool m.a, .slice m.A m.xs.length m.c], .int .i64 0]) = _
    rw [e1, e2, e3]
    rfl
  · refine ⟨none, 0, by rw [h1]; rfl, by rw [h1]; exact Rd.nil _ _ _, h3⟩
end Go.Proofs.Ytcnekfpgoceblaa
