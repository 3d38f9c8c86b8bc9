/- frame.Decode; with it frame's three calls. -/
import Derived.Test.YtbmdgoljjffjdaaFrameEnc
import Derived.Test.YtbmdgoljjffjdaaFrameCheck
import Derived.Test.YtbmdgoljjffjdaaFrameSec
import Derived.Deep.LoopGhost
import Derived.Outline
namespace Go.Proofs.Ytbmdgoljjffjdaa
open Go.RowKit

theorem U8At.kept {w w' : World} {A : Option Addr} (h : U8At w A) (hb : Below w.heap.size w w') : U8At w' A := by
  intro a ha
  obtain ⟨cs, fz, h1⟩ := h a ha
  exact ⟨cs, fz, (hb.block a.block (Array.getElem?_eq_some_iff.1 h1).1).trans h1⟩
/-- The row that grew holds sections; so bytes stay. -/
def SecRow (w : World) (row : Option Nat) : Prop := ∀ g, row = some g → ∃ cs fz, w.heap[g]? = some (.cells cs 33 fz)
theorem U8At.ne {w : World} {a : Addr} {row : Option Nat} (h : U8At w (some a)) (hr : SecRow w row) : some a.block ≠ row := by
  intro e
  obtain ⟨cs, fz, h1⟩ := h a rfl
  obtain ⟨cs', fz', h2⟩ := hr a.block e.symm
  rw [h1] at h2
  simp at h2
theorem U8At.grown {w w' : World} {A : Option Addr} {row : Option Nat} (h : U8At w A) (hg : w.grownBy w' row) (hr : SecRow w row) : U8At w' A := by
  intro a ha
  subst ha
  obtain ⟨cs, fz, h1⟩ := h a rfl
  exact ⟨cs, fz, (hg.block a.block (Array.getElem?_eq_some_iff.1 h1).1 (U8At.ne h hr)).trans h1⟩
theorem Has.grown {w w' : World} {A : Option Addr} {n c : Nat} {xs : List Value} {row : Option Nat} (h : Has w A n c xs) (hu : U8At w A) (hg : w.grownBy w' row) (hr : SecRow w row) : Has w' A n c xs :=
  ⟨h.len, h.cap, h.bare, fun hn => by
    obtain ⟨b, off, hA, hlt, hc⟩ := h.spot hn
    subst hA
    exact ⟨b, off, rfl, Nat.lt_of_lt_of_le hlt hg.size, fun j u hu' => hg.cell (hc j u hu') (U8At.ne (U8At.off hu) hr)⟩⟩
/-- The sections so far: a row of the call's own; their bytes lie elsewhere. -/
def SecsU (w : World) (base : Nat) (v : Value) (l : List Sec) : Prop := ∃ vs, OwnK 2 w base 33 v l.length (secCells vs) ∧ SecVs w vs l ∧ ∀ k A n c, (k, Value.slice A n c) ∈ vs → U8At w A
theorem SecsU.nil (w : World) (base : Nat) : SecsU w base (.slice none 0 0) [] := ⟨[], OwnK.nil _ _ _ _, ⟨rfl, fun i hi => absurd hi (by simp)⟩, fun _ _ _ _ h => by cases h⟩
theorem SecsU.keep {w w' : World} {base : Nat} {v : Value} {l : List Sec} (h : SecsU w base v l) (hb : Below w.heap.size w w') : SecsU w' base v l := by
  obtain ⟨vs, h1, h2, h3⟩ := h
  exact ⟨vs, h1.keep hb, h2.kept hb, fun k A n c hm => (h3 k A n c hm).kept hb⟩
theorem SecsU.has {w : World} {base : Nat} {v : Value} {l : List Sec} (h : SecsU w base v l) : ∃ A c, v = .slice A l.length c ∧ Secs w A l.length c l := by
  obtain ⟨vs, h1, h2, _⟩ := h
  exact OwnSecs.has ⟨vs, h1, h2⟩
theorem ownK_row {w : World} {base n : Nat} {v : Value} {xs : List Value} (h : OwnK 2 w base 33 v n xs) : SecRow w v.ownBlock := by
  intro g hg
  rcases h.2 with ⟨rfl, _⟩ | ⟨g', cap, cur, rfl, _, h3, _⟩
  · cases hg
  · cases hg; exact ⟨cur, _, h3⟩
/-- One more. -/
theorem SecsU.snoc {w w' : World} {base : Nat} {v v' : Value} {vs : List (Int × Value)} {l : List Sec} {k : Int} {A : Option Addr} {n c : Nat} {p : List Nat} (h1 : OwnK 2 w base 33 v l.length (secCells vs)) (h2 : SecVs w vs l)
    (h3 : ∀ k A n c, (k, Value.slice A n c) ∈ vs → U8At w A) (hp : Has w A n c (u8s p)) (hu : U8At w A) (hg : w.grownBy w' v.ownBlock) (ho : OwnK 2 w' base 33 v' (l.length + 1) (secCells vs ++ secCells [(k, .slice A n c)])) : SecsU w' base v' (l ++ [(k, p)]) := by
  have hr := ownK_row h1
  refine ⟨vs ++ [(k, .slice A n c)], ?_, SecVs.app ⟨h2.1, fun i hi => ?_⟩ (SecVs.single (hp.grown hu hg hr)), ?_⟩
  · rw [secCells_app, List.length_append]; exact ho
  · obtain ⟨A', n', c', e, hh⟩ := h2.2 i hi
    exact ⟨A', n', c', e, hh.grown (h3 _ _ _ _ (List.mem_of_getElem? e)) hg hr⟩
  · intro k' A' n' c' hm
    rcases List.mem_append.1 hm with hm | hm
    · exact (h3 _ _ _ _ hm).grown hg hr
    · simp at hm; obtain ⟨_, rfl, _, _⟩ := hm; exact hu.grown hg hr

set_option maxRecDepth 100000 in
set_option maxHeartbeats 1000000 in
theorem frameDec_any (A : Option Addr) (n c : Nat) (bs : List Nat) (w : World) (h : Has w A n c (u8s bs)) (hb : ∀ x ∈ bs, x < 256) (hn : n ≤ 90000) :
    Calls Try.prog 15 #[.slice A n c] w (Secd w (decN bs)) := by
  have HL : Hid (bs.length = n) := by have := h.len; rw [u8s_len] at this; exact this
  have HH := Lib.hid h
  have HBy := Lib.hid hb
  have HCk := Lib.hid (checkHead_any A n c bs w h hb (by omega))
  clear h hb
  go_enter Try.func15, Try.ntmps15
  go_wp2
  go_step3
  go_wp2_with fail
  refine HCk.out.mono ?_
  rintro e w1 ⟨E, rfl, hE, hb1⟩
  have HB1 := Lib.hid hb1
  clear hb1 HCk
  rcases hE with ⟨rfl, h5, hD⟩ | ⟨hE, hD⟩
  · have HD := Lib.hid hD
    rw [HL.out] at h5
    clear hD
    go_wp2
    go_step3
    go_wp2
    go_loopg [5, 6, 7] (n - 5) (fun g s5 s6 s7 wx => ∃ (k last : Nat) (l : List Sec), k + g = n ∧ 5 ≤ k ∧ l.length ≤ k ∧ s7 = .int .i64 (k : Int) ∧ s6 = .int .i64 (last : Int) ∧ Hid (decN bs = closeN ((bs.drop k).foldl stepN ⟨[], last, false, k, l, 0⟩)) ∧ Hid (SecsU wx w.heap.size s5 l) ∧ Hid (Below w.heap.size w wx))
    case atStart => exact ⟨5, 0, [], by omega, by omega, by simp, rfl, rfl, HD, SecsU.nil _ _, HB1⟩
    case round =>
      obtain ⟨k, last, l, hkg, hk5, hlk, rfl, rfl, HDk, HO, HB⟩ := hrel
      clear HD HB1
      by_cases hkn : k = n
      · have HE : Hid (decN bs = ([], 10)) := by
          show _ = _
          rw [HDk.out, sec_close _ _ _ _ hk5, List.drop_eq_nil_of_le (by rw [HL.out]; omega)]
        have te : ((k : Int) == (n : Int)) = true := by rw [hkn]; simp
        clear HDk
        go_wp2
        rw [Exit.noGoto_ret]
        go_ret2
        rw [HE.out]
        exact ⟨none, 0, rfl, Secs.none _, HB.out⟩
      · have te : ((k : Int) == (n : Int)) = false := by rw [beq_eq_false_iff_ne]; omega
        have hlt : k < bs.length := by rw [HL.out]; omega
        obtain ⟨b, off, rfl, _, hc⟩ := (HH.out.kept HB.out).spot (by omega)
        have hcell := hc k _ (u8s_at hlt)
        have hx8 := HBy.out _ (List.getElem_mem hlt)
        have hdr : bs.drop k = bs[k] :: bs.drop (k + 1) := List.drop_eq_getElem_cons hlt
        have hsc := sec_close (bs.drop k) last k l hk5
        rw [hdr] at hsc
        simp only at hsc
        rw [← hdr] at hsc
        have hhd : (bs.drop k).headD 0 = bs[k] := by rw [hdr]; rfl
        have HHd := Lib.hid hhd
        have HT : Hid (bs.drop (k + 1) ≠ [] ↔ k + 1 < n) := by
          show _ ↔ _
          rw [ne_eq, List.drop_eq_nil_iff, HL.out]; omega
        clear hc hdr hhd
        generalize bs[k] = x at *
        by_cases h0 : x = 0
        · subst h0
          rw [if_pos rfl] at hsc
          by_cases hmore : k + 1 < n
          · have HE : Hid (decN bs = ([], 11)) := by show _ = _; rw [HDk.out, hsc, if_pos (HT.out.2 hmore)]
            have tm : decide ((k : Int) + 1 < (n : Int)) = true := decide_eq_true (by omega)
            clear hsc HDk HT
            go_wp2
            rw [Exit.noGoto_ret]
            go_ret2
            rw [HE.out]
            exact ⟨none, 0, rfl, Secs.none _, HB.out⟩
          · have HE : Hid (decN bs = (l, 0)) := by show _ = _; rw [HDk.out, hsc, if_neg (fun h => hmore (HT.out.1 h)), if_neg (by omega)]
            have tm : decide ((k : Int) + 1 < (n : Int)) = false := decide_eq_false (by omega)
            have tl : decide ((1048576 : Int) < (k : Int) + 1) = false := decide_eq_false (by omega)
            obtain ⟨A5, c5, rfl, hh5⟩ := HO.out.has
            have HH5 := Lib.hid hh5
            clear hsc HDk HT hh5
            go_wp2
            rw [Exit.noGoto_ret]
            go_ret2
            rw [HE.out]
            exact ⟨A5, c5, rfl, HH5.out, HB.out⟩
        · rw [if_neg h0] at hsc
          have t0 : ((x : Int) == 0) = false := by rw [beq_eq_false_iff_ne]; omega
          have HRK := Lib.hid (rightKind_any (x : Int))
          by_cases h9 : 9 < x
          · have HE : Hid (decN bs = ([], 11)) := by show _ = _; rw [HDk.out, hsc, if_pos (Or.inr h9)]
            have hr : (!decide ((x : Int) < 1 ∨ 9 < (x : Int))) = false := by rw [decide_eq_true (by omega)]; rfl
            rw [hr] at HRK
            clear hsc HDk HT hr
            go_wp2_with (go_at_call 26; refine (HRK.out _).mono ?_; rintro e w' ⟨rfl, rfl⟩)
            rw [Exit.noGoto_ret]
            go_ret2
            rw [HE.out]
            exact ⟨none, 0, rfl, Secs.none _, HB.out⟩
          · have hr : (!decide ((x : Int) < 1 ∨ 9 < (x : Int))) = true := by rw [decide_eq_false (by omega)]; rfl
            rw [hr] at HRK
            by_cases hla : x ≤ last
            · have HE : Hid (decN bs = ([], 11)) := by show _ = _; rw [HDk.out, hsc, if_pos (Or.inl hla)]
              have tla : decide (x ≤ last) = true := decide_eq_true hla
              clear hsc HDk HT hr
              go_wp2_with (go_at_call 26; refine (HRK.out _).mono ?_; rintro e w' ⟨rfl, rfl⟩)
              rw [Exit.noGoto_ret]
              go_ret2
              rw [HE.out]
              exact ⟨none, 0, rfl, Secs.none _, HB.out⟩
            · have tla : decide (x ≤ last) = false := decide_eq_false hla
              rw [if_neg (by omega)] at hsc
              have HRs : Hid (decN bs = restN (bs.drop k) k l) := HDk.out.trans hsc
              have HSe := Lib.hid (section_any _ n c bs k wr (HH.out.kept HB.out) HBy.out hn (by omega))
              clear hsc HDk HT hr
              go_wp2_with (first
                | (go_at_call 26; refine (HRK.out _).mono ?_; rintro e w' ⟨rfl, rfl⟩)
                | fail)
              refine HSe.out.mono ?_
              rintro e w2 ⟨hb2, hcase⟩
              have HB2 := Lib.hid (new_call HB.out hb2)
              have HO2 := Lib.hid (HO.out.keep hb2)
              clear hb2 HSe
              rcases hcase with ⟨E, hE, rfl, hR⟩ | ⟨A3, n3, c3, m, p, rfl, hh3, hu3, hm1, hm2, hR⟩
              · have HE : Hid (decN bs = ([], E)) := HRs.out.trans (hR _ _)
                have te : ((E : Int) != 0) = true := by rw [bne_iff_ne]; omega
                clear hR hE
                go_wp2
                rw [Exit.noGoto_ret]
                go_ret2
                rw [HE.out]
                exact ⟨none, 0, rfl, Secs.none _, new_alloc HB2.out _⟩
              · have hD3 := HRs.out.trans (hR _ _)
                rw [HHd.out] at hD3
                have HD3 := Lib.hid hD3
                rw [HL.out] at hm2
                rw [HHd.out]
                have HH3 := Lib.hid hh3
                have HU3 := Lib.hid hu3
                obtain ⟨vs, hv1, hv2, hv3⟩ := HO2.out
                have HV3 := Lib.hid hv3
                have HV1 := Lib.hid hv1
                have HV2 := Lib.hid hv2
                have hz := HB2.out.size
                clear hR hD3 hh3 hu3 hv1 hv2 hv3 HRs HO2 HO
                go_wp2_with (at_builtin
                             refine wpList_joinK rfl _ _ 22 rfl elemSec (by decide) w.heap.size _ l.length (secCells vs) rfl ((HV1.out.alloc _).alloc _) _ 1 1 (secCells [((x : Int), .slice A3 n3 c3)]) rfl (HasK.new_at 2 _ #[_, _] _ _ 1 (by simp) rfl) ?_ (by omega) (by decide) (by simp; omega) ?_
                             · intro u hu; simp [secCells] at hu; rcases hu with rfl | rfl <;> rfl
                             intro v4 w4 hown4 hbel4 hgr4
                             have hb3 : Below w2.heap.size w2 ((w2.alloc (.cells #[.int .i64 (x : Int), .slice A3 n3 c3] 33)).alloc (.cells #[.int .i64 (x : Int), .slice A3 n3 c3] 33)) := new_alloc (new_alloc (Below.refl _ _) _) _
                             have HO4 : Hid (SecsU w4 w.heap.size v4 (l ++ [((x : Int), p)])) := SecsU.snoc ((HV1.out.alloc _).alloc _) (HV2.out.kept hb3) (fun k A n c hm => (HV3.out k A n c hm).kept hb3) (HH3.out.kept hb3) (HU3.out.kept hb3) hgr4 hown4
                             have HB4 : Hid (Below w.heap.size w w4) := (new_call HB2.out hb3).trans hbel4
                             clear hown4 hbel4 hgr4 hb3)
                go_roundg (gk - m)
                case measure => omega
                case rel => exact ⟨k + m, x, l ++ [((x : Int), p)], by omega, by omega, by rw [List.length_append, List.length_singleton]; omega, by go_num, rfl, HD3, HO4, HB4⟩
  · have HD := Lib.hid hD
    have te : ((E : Int) != 0) = true := by rw [bne_iff_ne]; omega
    clear hD hE
    go_wp2
    rw [Exit.noGoto_ret]
    go_ret2
    rw [HD.out]
    exact ⟨none, 0, rfl, Secs.none _, HB1.out⟩
end Go.Proofs.Ytbmdgoljjffjdaa
