/-
  What Write, Snapshot, Cut, Recover come to, one by one.
-/
import Derived.Test.YtfbponiiejanfaaStRecover
namespace Go.Proofs.Ytfbponiiejanfaa
open Go.RowKit Go.Shelf
attribute [local go_sem] Oper.semAt_some
set_option linter.unusedVariables false
set_option linter.unusedSimpArgs false

theorem Turns.below {S0 S : St} {B n : Nat} {v : Value} {w0 w1 : World} (hI : Is S0 B v w0) (h : Turns S B v w0 w1) (hn : n ≤ B) : ∃ v', Is S B v' w1 ∧ Below n w0 w1 := by
  obtain ⟨v', h1, h2, h3⟩ := h
  have hB := hI.lt
  exact ⟨v', h1, h3.below (by omega) hn (fun g hg => by have := (owns_base hI.own g hg).1; omega)⟩
/-- A record more. -/
def St.wrote (S : St) (d : List UInt8) : St := { S with ds := S.ds ++ [d] }
theorem wrote_held (S : St) (d : List UInt8) (ht : S.torn = none) : (S.wrote d).held = S.held + (d.length + 9) := by
  have e : (S.wrote d).pieces = S.pieces ++ [J.rec d] := by simp [St.wrote, St.pieces, ht]
  rw [St.held, St.held, e, St.sum_append]
  simp [St.wrote, St.mark, St.sum, J.rec_length]
  omega
theorem laid_wrote {S : St} {d : List UInt8} (h : S.Ok) (ht : S.torn = none) (hd : d.length ≤ 4096) (hc : S.held + d.length + 9 ≤ S.cap) : S.Laid (S.wrote d) (J.rec d) := by
  have hh := wrote_held S d ht
  refine ⟨by simp [St.wrote, St.pieces, ht], rfl, by rw [hh, J.rec_length], rfl, rfl, rfl, ⟨fun x hx => ?_, h.snap, h.torn, by rw [hh]; show _ ≤ S.cap; omega, h.most⟩⟩
  simp only [St.wrote, List.mem_append, List.mem_singleton] at hx
  rcases hx with hx | rfl
  · exact h.recs x hx
  · exact hd
/-- A part of a record more. -/
def St.tore (S : St) (l : List UInt8) : St := { S with torn := some l }
theorem tore_held (S : St) (l : List UInt8) (ht : S.torn = none) : (S.tore l).held = S.held + l.length := by
  have e : (S.tore l).pieces = S.pieces ++ [l] := by simp [St.tore, St.pieces, ht]
  rw [St.held, St.held, e, St.sum_append]
  simp [St.tore, St.mark, St.sum]
  omega
theorem laid_tore {S : St} {l : List UInt8} (h : S.Ok) (ht : S.torn = none) (hl : St.Torn l) (hc : S.held + l.length ≤ S.cap) : S.Laid (S.tore l) l := by
  have hh := tore_held S l ht
  exact ⟨by simp [St.tore, St.pieces, ht], rfl, hh, rfl, rfl, rfl, ⟨h.recs, h.snap, (fun t e => by cases e; exact hl), by rw [hh]; exact hc, h.most⟩⟩
theorem torn_take (d : List UInt8) (K : Nat) (hd : d.length ≤ 4096) (hK : K < d.length + 9) : St.Torn ((J.rec d).take K) := by
  obtain ⟨h1, h2⟩ := J.read_torn d K hd hK
  exact ⟨by rw [List.length_take, J.rec_length]; omega, h1, h2⟩
theorem dlen (d : ByteArray) : d.data.toList.length = d.size := by simp
/-- A write. -/
theorem writeYes (S : St) (B : Nat) (v : Value) (d : ByteArray) (w : World) (h : Is S B v w) (hs : S.state = 0) (ht : S.torn = none) (hd : d.size ≤ 4096) (hc : S.held + d.size + 9 ≤ S.cap) :
    Calls Try.prog 9 #[.pointer (some ⟨B, 0, none⟩), .string d] w fun e w' => e = .returned (.int .i64 0) ∧ Turns (S.wrote d.data.toList) B v w w' := by
  have hl := laid_wrote h.ok ht (by rw [dlen]; exact hd) (by rw [dlen]; exact hc)
  refine stWrite S _ B v d 0 w h fun W hW => soundLay S _ B v d S.held W hW hs hd hc ?_
  intro W' hW' g c hg hh
  exact mLay S _ B v v _ W' hW' hl g c hg hh (by rw [J.rec_length, dlen]; omega)
theorem writeWhole (S : St) (B : Nat) (v : Value) (d : ByteArray) (K : Nat) (w : World) (h : Is S B v w) (hs : S.state = 1) (hk : S.keep = (K : Int)) (ht : S.torn = none) (hd : d.size ≤ 4096) (hc : S.held + d.size + 9 ≤ S.cap) (hK : d.size + 9 ≤ K) :
    Calls Try.prog 9 #[.pointer (some ⟨B, 0, none⟩), .string d] w fun e w' => e = .returned (.int .i64 31) ∧ Turns { S.wrote d.data.toList with state := 2, keep := 0 } B v w w' := by
  have hl := laid_wrote h.ok ht (by rw [dlen]; exact hd) (by rw [dlen]; exact hc)
  refine stWrite S _ B v d 31 w h fun W hW => aimedLay S (S.wrote d.data.toList) B v d S.held K W hW hs hk hd hc ?_
  rw [List.take_of_length_le (by rw [J.rec_length, dlen]; exact hK)]
  intro W' hW' g c hg hh
  exact mLay S _ B v v _ W' hW' hl g c hg hh (by rw [J.rec_length, dlen]; omega)
theorem writeTorn (S : St) (B : Nat) (v : Value) (d : ByteArray) (K : Nat) (w : World) (h : Is S B v w) (hs : S.state = 1) (hk : S.keep = (K : Int)) (ht : S.torn = none) (hd : d.size ≤ 4096) (hc : S.held + d.size + 9 ≤ S.cap) (hK : K < d.size + 9) :
    Calls Try.prog 9 #[.pointer (some ⟨B, 0, none⟩), .string d] w fun e w' => e = .returned (.int .i64 31) ∧ Turns { S.tore ((J.rec d.data.toList).take K) with state := 2, keep := 0 } B v w w' := by
  have htl := torn_take d.data.toList K (by rw [dlen]; exact hd) (by rw [dlen]; exact hK)
  have hl := laid_tore h.ok ht htl (by rw [List.length_take, J.rec_length, dlen]; omega)
  refine stWrite S _ B v d 31 w h fun W hW => aimedLay S (S.tore ((J.rec d.data.toList).take K)) B v d S.held K W hW hs hk hd hc ?_
  intro W' hW' g c hg hh
  exact mLay S _ B v v _ W' hW' hl g c hg hh htl.1
theorem writeDown (S : St) (B : Nat) (v : Value) (d : ByteArray) (w : World) (h : Is S B v w) (hs : S.state = 2) :
    Calls Try.prog 9 #[.pointer (some ⟨B, 0, none⟩), .string d] w fun e w' => e = .returned (.int .i64 31) ∧ Turns S B v w w' :=
  stWrite S _ B v d 31 w h fun W hW => (crashedLay S B v d S.held W hW hs).mono fun e w' ⟨h1, h2⟩ => ⟨h1, by subst h2; exact Turns.of_below hW (Below.refl _ _)⟩
theorem writeLong (S : St) (B : Nat) (v : Value) (d : ByteArray) (w : World) (h : Is S B v w) (hs : S.state = 0) (hd : 4096 < d.size) (hdm : d.size ≤ 100000) :
    Calls Try.prog 9 #[.pointer (some ⟨B, 0, none⟩), .string d] w fun e w' => e = .returned (.int .i64 30) ∧ Turns S B v w w' :=
  stWrite S _ B v d 30 w h fun W hW => (longLay S B v d S.held W hW (by omega) hd hdm).mono fun e w' ⟨h1, h2⟩ => ⟨h1, Turns.of_below hW h2⟩
/-- A snapshot. -/
theorem snapYes (S : St) (B : Nat) (v : Value) (d : ByteArray) (w : World) (h : Is S B v w) (hs : S.state = 0) (hd : d.size ≤ 4096) (hc : d.size + 9 ≤ S.cap) :
    Calls Try.prog 10 #[.pointer (some ⟨B, 0, none⟩), .string d] w fun e w' => e = .returned (.int .i64 0) ∧ Turns (S.snapped d.data.toList) B v w w' := by
  refine stSnapshot S _ B v d 0 w h fun W hW => soundReplace S _ B v d 0 W hW hs hd (by omega) ?_
  intro W' hW' g c hg hh
  exact mReplace S B v _ W' hW' (by rw [dlen]; exact hd) (by rw [dlen]; exact hc) g c hh
theorem snapDown (S : St) (B : Nat) (v : Value) (d : ByteArray) (w : World) (h : Is S B v w) (hs : S.state = 2) :
    Calls Try.prog 10 #[.pointer (some ⟨B, 0, none⟩), .string d] w fun e w' => e = .returned (.int .i64 31) ∧ Turns S B v w w' :=
  stSnapshot S _ B v d 31 w h fun W hW => (crashedReplace S B v d 0 W hW hs).mono fun e w' ⟨h1, h2⟩ => ⟨h1, by subst h2; exact Turns.of_below hW (Below.refl _ _)⟩
theorem snapLong (S : St) (B : Nat) (v : Value) (d : ByteArray) (w : World) (h : Is S B v w) (hs : S.state = 0) (hd : 4096 < d.size) (hdm : d.size ≤ 100000) :
    Calls Try.prog 10 #[.pointer (some ⟨B, 0, none⟩), .string d] w fun e w' => e = .returned (.int .i64 30) ∧ Turns S B v w w' :=
  stSnapshot S _ B v d 30 w h fun W hW => (longReplace S B v d 0 W hW (by omega) hd hdm).mono fun e w' ⟨h1, h2⟩ => ⟨h1, Turns.of_below hW h2⟩
end Go.Proofs.Ytfbponiiejanfaa
