/- Of any sections and any cut FeedHolds answers true: no more is held than was taken, nothing of a head, and at the end the sections' bytes. Conditions: none. -/
import Derived.Test.YtdheppfooapneaaKnown04
import Derived.Test.YtdheppfooapneaaFrameGo
import Derived.Test.YtdheppfooapneaaLawMore
import Derived.Test.YtdheppfooapneaaFeedRef
namespace Go.Proofs.Ytdheppfooapneaa.feedHolds
open Go.ChangeShapes Go.WideShapes Go.ChangeAt Go.RowKit

theorem one_holds {s : Sec} (h : (oneN s).2 = 0) : s.2.length ≤ (oneN s).1.length := by
  by_cases h1 : s.1 < 1 ∨ 9 < s.1
  · rw [oneN_arg h1] at h; cases h
  · by_cases h2 : 1048576 < s.2.length
    · rw [oneN_long h1 h2] at h; cases h
    · rw [oneN_ok h1 h2, sealN_len]
      simp only [oneBody, List.length_cons, List.length_append]; omega
theorem ones_holds {l : List Sec} (h : (onesN l).2 = 0) : (l.map fun s => s.2.length).sum ≤ (onesN l).1.length := by
  induction l with
  | nil => simp
  | cons s l ih =>
    by_cases h1 : (oneN s).2 = 0
    · by_cases h2 : (onesN l).2 = 0
      · have a := one_holds h1
        have b := ih h2
        simp only [onesN, h1, h2, ne_eq, not_true_eq_false, if_false, List.map_cons, List.sum_cons, List.length_append]
        omega
      · simp [onesN, h1, h2] at h
    · simp [onesN, h1] at h
theorem enc_holds {l : List Sec} (h : (encN l).2 = 0) : (l.map fun s => s.2.length).sum ≤ (encN l).1.length ∧ 6 ≤ (encN l).1.length ∧ l.length ≤ 9 := by
  by_cases h1 : (onesN l).2 = 0
  · have h3 := ones_holds h1
    cases h2 : risesB l with
    | false => unfold encN at h; rw [if_neg (by simp [h1]), if_pos h2] at h; cases h
    | true =>
      have h4 := (few h1 h2).1
      refine ⟨?_, ?_, h4⟩
      all_goals
        unfold encN at h ⊢
        rw [if_neg (by simp [h1]), if_neg (by simp [h2])] at h ⊢
        split at h
        · cases h
        · rename_i hx
          rw [if_neg hx]
          simp only [List.length_append, headN, List.length_cons, List.length_nil]; omega
  · unfold encN at h; rw [if_pos h1] at h; exact absurd h h1
set_option maxRecDepth 100000 in
set_option maxHeartbeats 2000000 in
theorem walk (A : Option Addr) (n c : Nat) (l : List Sec) (cu : Int) (w : World) (hh : Secs w A n c l) (hb : ∀ s ∈ l, ∀ x ∈ s.2, x < 256) (_hk : ∀ s ∈ l, -9223372036854775808 ≤ s.1 ∧ s.1 ≤ 9223372036854775807) (hn : n ≤ 9223372036854775807) (hs : ∀ s ∈ l, s.2.length ≤ 9223372036854775807) (hcu : 0 ≤ cu ∧ cu ≤ 65535) :
    Calls Try.prog 6 #[.slice A n c, .int .u16 cu] w fun e w' => e = .returned (.bool true) ∧ Below w.heap.size w w' := by
  obtain ⟨q, rfl⟩ := Int.eq_ofNat_of_zero_le hcu.1
  have HE := Lib.hid (frameEnc_all A n c l w hh hb hn hs)
  have HXb := Lib.hid (encN_byte hb)
  have HH := Lib.hid hh
  have HL := Lib.hid hh.len
  have HEs := Lib.hid (enc_state (l := l))
  have HEp := Lib.hid (enc_part (l := l))
  have HEh := Lib.hid (enc_holds (l := l))
  clear hh hb hs
  by_cases he : (encN l).2 = 0
  · have hE1 := HEs.out he
    have HEp := Lib.hid (HEp.out he)
    obtain ⟨hE2, hE3, hE4⟩ := HEh.out he
    rw [show encN l = ((encN l).1, 0) by rw [← he]] at HE
    clear HEs HEh he
    generalize (encN l).1 = X at *
    go_enter Try.func6, Try.ntmps6
    go_wp2_with fail
    refine HE.out.mono ?_
    rintro e w1 ⟨v1, rfl, ho1, hb1⟩
    obtain ⟨A1, c1, rfl, hh1⟩ := ho1.has
    simp only [u8s_len] at hh1 ⊢
    obtain ⟨g1, o1, rfl, _, _⟩ := hh1.spot (by omega)
    have HX1 := Lib.hid hh1
    have hcap := hh1.cap
    have HB1 := Lib.hid hb1
    clear ho1 hh1 hb1 HE
    by_cases hlo : 1500 < X.length
    · have tl : decide ((1500 : Int) < (X.length : Int)) = true := by simp; omega
      go_wp2_with (go_at_call 7; refine (known04 _).mono ?_; rintro e w' ⟨rfl, hb⟩)
      go_ret
      exact ⟨rfl, new_call HB1.out hb⟩
    have tl : decide ((1500 : Int) < (X.length : Int)) = false := by simp; omega
    obtain ⟨k, hk⟩ : ∃ k, q % (X.length + 1) = k := ⟨_, rfl⟩
    have qk : (q : Int) % ((X.length : Int) + 1) = (k : Int) := by rw [← hk]; simp
    have hkl : k ≤ X.length := by have := Nat.mod_lt q (show 0 < X.length + 1 by omega); omega
    have hkc : k ≤ c1 := by omega
    clear hk
    have he1 := HEp.out k
    have ha1 := (fold_zero _ he1).1
    simp only [st0, List.length_take, Nat.zero_add] at ha1
    have hh1 := fold_hold (X.take k) st0_hold
    have hh2 := hh1.le
    have hh3 := hh1.none
    have hma : min k X.length = k := by omega
    change ((X.take k).foldl stepN st0).all = _ at ha1
    rw [hma] at ha1
    rw [ha1] at hh2 hh3
    have hfd : ((X.drop k).foldl stepN ((X.take k).foldl stepN st0)) = X.foldl stepN st0 := by rw [← List.foldl_append, List.take_append_drop]
    have HFd := Lib.hid hfd
    obtain ⟨he2, hf2, hl2⟩ := hE1
    have ha2 := (fold_zero _ he2).1
    simp only [st0, Nat.zero_add] at ha2
    change (X.foldl stepN st0).all = _ at ha2
    have HHe : Hid (heldN (X.foldl stepN st0) = (l.map fun s => s.2.length).sum) := by show _ = _; unfold heldN; rw [hf2, hl2]; simp
    have HE1 := Lib.hid he1
    have HA1 := Lib.hid ha1
    have HE2 := Lib.hid he2
    have HA2 := Lib.hid ha2
    have HXk : Hid (∀ x ∈ X.take k, x < 256) := fun x hx => HXb.out x (List.mem_of_mem_take hx)
    have HXd : Hid (∀ x ∈ X.drop k, x < 256) := fun x hx => HXb.out x (List.mem_of_mem_drop hx)
    clear hh1 hma hfd hf2 hl2 he1 ha1 he2 ha2 HEp
    go_wp2_with fail
    refine (feedNew_any _).mono ?_
    rintro e w2 ⟨p, S2, rfl, hf2, hS2, hb2⟩
    have HF2 := Lib.hid hf2
    have HB2 := Lib.hid (new_call HB1.out hb2)
    have hz1 := HB1.out.size
    have HS2 : Hid (∀ k, S2 k → w.heap.size ≤ k) := fun k hk => by have := hS2 k hk; omega
    have HX2 := Lib.hid (Rob.old (D := S2) Has.stays HX1.out hb2 hS2)
    clear hf2 hS2 hb2 HX1 HB1
    have hz2 := HB2.out.size
    have HP2 : Hid (Rob S2 w2 fun W => Has W (some ⟨g1, o1, none⟩) k c1 (u8s (X.take k))) := HX2.out.map fun W h => by
      have := h.head (m := k) hkl
      rw [show (u8s X).take k = u8s (X.take k) by simp [u8s]] at this
      exact this
    have HP3 := Lib.hid (Rob.parts1 HP2.out HF2.out.sit 22 _ rfl)
    have HF3 := Lib.hid (HF2.out.chg (w' := w2.alloc (.cells #[.slice (some ⟨g1, o1, none⟩) k c1] 22)) (D := fun _ => False) (Chg.of_below (new_alloc (Below.refl _ _) _)) (fun _ _ h => h))
    go_wp2_with fail
    refine (feedFeed_any p S2 _ _ 1 1 [X.take k] _ HF3.out HP3.out (by simpa using HXk.out) (by decide) (by simp [st0]; omega)).mono ?_
    rintro e w4 ⟨S4, rfl, hf4, hc4, hs4⟩
    simp only [List.flatten_cons, List.flatten_nil, List.append_nil] at hf4 ⊢
    rw [HE1.out]
    have hA : Below w2.heap.size w2 (w2.alloc (.cells #[.slice (some ⟨g1, o1, none⟩) k c1] 22)) := new_alloc (Below.refl _ _) _
    have hcc : Chg S2 w2 w4 := (Chg.of_below hA).then_ hc4 fun _ _ h => h
    have hs4' : ∀ k, S4 k → S2 k ∨ w2.heap.size ≤ k := fun k hk => by
      rcases hs4 k hk with h | h
      · exact Or.inl h
      · exact Or.inr (Nat.le_trans hA.size h)
    have HF4 := Lib.hid hf4
    have HS4 : Hid (∀ k, S4 k → w.heap.size ≤ k) := fun k hk => by
      rcases hs4' k hk with h | h
      · exact HS2.out k h
      · omega
    have HX4 := Lib.hid (Rob.chg (G' := S4) Has.stays HX2.out hcc fun k hk h => by
      rcases hs4' k h with h | h
      · exact h
      · omega)
    have HB4 : Hid (Below w.heap.size w w4) := HB2.out.trans (hcc.below HS2.out hz2)
    clear hf4 hc4 hs4 hA hcc hs4' HP2 HP3 HF2 HF3 HX2
    generalize (X.take k).foldl stepN st0 = s1 at *
    go_wp2_with fail
    refine (feedTaken_any p S4 _ false w4 HF4.out).mono ?_
    rintro e w5 ⟨rfl, hb5⟩
    rw [HA1.out]
    have HF5 := Lib.hid (HF4.out.chg (D := fun _ => False) (Chg.of_below hb5) (fun _ _ h => h))
    have HX5 := Lib.hid (Rob.kept Has.stays HX4.out HF4.out.sit hb5)
    have HB5 := Lib.hid (new_call HB4.out hb5)
    clear hb5 HF4 HX4 HB4
    have th : decide ((k : Int) < (heldN s1 : Int)) = false := by simp; omega
    go_wp2_with fail
    refine (feedHeld_any p S4 _ w5 HF5.out HE1.out).mono ?_
    rintro e w6 ⟨rfl, hb6⟩
    have HF6 := Lib.hid (HF5.out.chg (D := fun _ => False) (Chg.of_below hb6) (fun _ _ h => h))
    have HX6 := Lib.hid (Rob.kept Has.stays HX5.out HF5.out.sit hb6)
    have HB6 := Lib.hid (new_call HB5.out hb6)
    clear hb6 HF5 HX5 HB5
    by_cases hk5 : k ≤ 5
    · have t5 : decide ((k : Int) ≤ 5) = true := by simp; omega
      have hh0 := hh3 hk5
      go_wp2_with fail
      refine (feedHeld_any p S4 _ w6 HF6.out HE1.out).mono ?_
      rintro e w7 ⟨rfl, hb7⟩
      rw [hh0]
      have HF7 := Lib.hid (HF6.out.chg (D := fun _ => False) (Chg.of_below hb7) (fun _ _ h => h))
      have HX7 := Lib.hid (Rob.kept Has.stays HX6.out HF6.out.sit hb7)
      have HB7 := Lib.hid (new_call HB6.out hb7)
      clear hb7 HF6 HX6 HB6 hh0
      have hz7 := HB7.out.size
      have HQ : Hid (Rob S4 w7 fun W => Has W (if c1 = k then some ⟨g1, o1, none⟩ else (some ⟨g1, o1, none⟩ : Option Addr).map (·.add k)) (X.length - k) (c1 - k) (u8s (X.drop k))) := HX7.out.map fun W h => h.tail hkl
      clear HX7
      by_cases hck : c1 = k
      · exfalso; omega
      · rw [if_neg hck] at HQ
        have e : (⟨g1, o1, none⟩ : Addr).add k = ⟨g1, o1 + k, none⟩ := Addr.add_mid _ _ _
        simp only [Option.map_some, e] at HQ
        clear e
        have HP3 := Lib.hid (Rob.parts1 HQ.out HF7.out.sit 22 _ rfl)
        have HF3 := Lib.hid (HF7.out.chg (w' := w7.alloc (.cells #[.slice (some ⟨g1, o1 + k, none⟩) (X.length - k) (c1 - k)] 22)) (D := fun _ => False) (Chg.of_below (new_alloc (Below.refl _ _) _)) (fun _ _ h => h))
        go_wp2_with fail
        refine (feedFeed_any p S4 _ _ 1 1 [X.drop k] _ HF3.out HP3.out (by simpa using HXd.out) (by decide) (by rw [HA1.out]; simp; omega)).mono ?_
        rintro e w8 ⟨S8, rfl, hf8, hc8, _⟩
        simp only [List.flatten_cons, List.flatten_nil, List.append_nil] at hf8 ⊢
        rw [HFd.out] at hf8 ⊢
        rw [HE2.out]
        have HF8 := Lib.hid hf8
        have HB8 : Hid (Below w.heap.size w w8) := (new_alloc HB7.out _).trans (hc8.below HS4.out (by simp; omega))
        clear hf8 hc8 HP3 HF3 HQ HF7 HB7 HE1 HA1 HFd hh2 hh3 th
        generalize X.foldl stepN st0 = s2 at *
        go_wp2
        go_loopg [11, 12] n (fun g s11 s12 wx => ∃ i : Nat, i + g = n ∧ s12 = .int .i64 i ∧ s11 = .int .i64 (((l.take i).map fun s => s.2.length).sum : Nat) ∧ w8 = wx)
        case atStart => exact ⟨0, by omega, rfl, rfl, rfl⟩
        case round =>
          obtain ⟨i, hig, rfl, rfl, rfl⟩ := hrel
          have hst := sum_part l i
          by_cases hi : i < n
          · have hil : i < l.length := by rw [HL.out]; exact hi
            obtain ⟨b, off, A', n', c', rfl, _, hl', hrow⟩ := HH.out.at_ hil
            obtain ⟨hy1, hc2, hy3⟩ := hrow _ HB8.out
            have HX := Lib.hid (sum_next hil)
            rw [hl'] at HX
            have hst2 := sum_part l (i + 1)
            rw [HX.out] at hst2
            have ti : decide ((i : Int) < (n : Int)) = true := by simp; omega
            clear hrow hl' hy1 hy3 hil
            generalize ((l.take i).map fun s => s.2.length).sum = z at *
            generalize (l.map fun s => s.2.length).sum = Z at *
            go_wp2
            go_roundg (gk - 1)
            case measure => omega
            case rel => exact ⟨i + 1, by omega, by go_num, by rw [HX.out]; congr 1, rfl⟩
          · have ti : decide ((i : Int) < (n : Int)) = false := by simp; omega
            rw [List.take_of_length_le (by rw [HL.out]; omega)]
            have HHx := HHe.out
            generalize (l.map fun s => s.2.length).sum = Z at *
            go_wp2_with fail
            refine (feedHeld_any p S8 _ w8 HF8.out HE2.out).mono ?_
            rintro e w9 ⟨rfl, hb9⟩
            rw [HHx]
            have HF9 := Lib.hid (HF8.out.chg (D := fun _ => False) (Chg.of_below hb9) (fun _ _ h => h))
            have HB9 := Lib.hid (new_call HB8.out hb9)
            clear hb9 HF8 HB8 HHx
            go_wp2_with fail
            refine (feedTaken_any p S8 _ false w9 HF9.out).mono ?_
            rintro e w10 ⟨rfl, hb10⟩
            rw [HA2.out]
            have HB10 := Lib.hid (new_call HB9.out hb10)
            clear hb10 HF9 HB9
            go_wp2_with (go_at_call 7; refine (known04 _).mono ?_; rintro e w' ⟨rfl, hb⟩)
            go_ret
            exact ⟨rfl, new_call HB10.out hb⟩
    · have t5 : decide ((k : Int) ≤ 5) = false := by simp; omega
      have hz6 := HB6.out.size
      have HQ : Hid (Rob S4 w6 fun W => Has W (if c1 = k then some ⟨g1, o1, none⟩ else (some ⟨g1, o1, none⟩ : Option Addr).map (·.add k)) (X.length - k) (c1 - k) (u8s (X.drop k))) := HX6.out.map fun W h => h.tail hkl
      clear HX6
      by_cases hck : c1 = k
      · rw [if_pos hck] at HQ
        obtain rfl : k = c1 := hck.symm
        rw [Nat.sub_self, show X.length - k = 0 by omega] at HQ
        have HP3 := Lib.hid (Rob.parts1 HQ.out HF6.out.sit 22 _ rfl)
        have HF3 := Lib.hid (HF6.out.chg (w' := w6.alloc (.cells #[.slice (some ⟨g1, o1, none⟩) 0 0] 22)) (D := fun _ => False) (Chg.of_below (new_alloc (Below.refl _ _) _)) (fun _ _ h => h))
        go_wp2_with fail
        refine (feedFeed_any p S4 _ _ 1 1 [X.drop k] _ HF3.out HP3.out (by simpa using HXd.out) (by decide) (by rw [HA1.out]; simp; omega)).mono ?_
        rintro e w8 ⟨S8, rfl, hf8, hc8, _⟩
        simp only [List.flatten_cons, List.flatten_nil, List.append_nil] at hf8 ⊢
        rw [HFd.out] at hf8 ⊢
        rw [HE2.out]
        have HF8 := Lib.hid hf8
        have HB8 : Hid (Below w.heap.size w w8) := (new_alloc HB6.out _).trans (hc8.below HS4.out (by simp; omega))
        clear hf8 hc8 HP3 HF3 HQ HF6 HB6 HE1 HA1 HFd hh2 hh3 th
        generalize X.foldl stepN st0 = s2 at *
        go_wp2
        go_loopg [11, 12] n (fun g s11 s12 wx => ∃ i : Nat, i + g = n ∧ s12 = .int .i64 i ∧ s11 = .int .i64 (((l.take i).map fun s => s.2.length).sum : Nat) ∧ w8 = wx)
        case atStart => exact ⟨0, by omega, rfl, rfl, rfl⟩
        case round =>
          obtain ⟨i, hig, rfl, rfl, rfl⟩ := hrel
          have hst := sum_part l i
          by_cases hi : i < n
          · have hil : i < l.length := by rw [HL.out]; exact hi
            obtain ⟨b, off, A', n', c', rfl, _, hl', hrow⟩ := HH.out.at_ hil
            obtain ⟨hy1, hc2, hy3⟩ := hrow _ HB8.out
            have HX := Lib.hid (sum_next hil)
            rw [hl'] at HX
            have hst2 := sum_part l (i + 1)
            rw [HX.out] at hst2
            have ti : decide ((i : Int) < (n : Int)) = true := by simp; omega
            clear hrow hl' hy1 hy3 hil
            generalize ((l.take i).map fun s => s.2.length).sum = z at *
            generalize (l.map fun s => s.2.length).sum = Z at *
            go_wp2
            go_roundg (gk - 1)
            case measure => omega
            case rel => exact ⟨i + 1, by omega, by go_num, by rw [HX.out]; congr 1, rfl⟩
          · have ti : decide ((i : Int) < (n : Int)) = false := by simp; omega
            rw [List.take_of_length_le (by rw [HL.out]; omega)]
            have HHx := HHe.out
            generalize (l.map fun s => s.2.length).sum = Z at *
            go_wp2_with fail
            refine (feedHeld_any p S8 _ w8 HF8.out HE2.out).mono ?_
            rintro e w9 ⟨rfl, hb9⟩
            rw [HHx]
            have HF9 := Lib.hid (HF8.out.chg (D := fun _ => False) (Chg.of_below hb9) (fun _ _ h => h))
            have HB9 := Lib.hid (new_call HB8.out hb9)
            clear hb9 HF8 HB8 HHx
            go_wp2_with fail
            refine (feedTaken_any p S8 _ false w9 HF9.out).mono ?_
            rintro e w10 ⟨rfl, hb10⟩
            rw [HA2.out]
            have HB10 := Lib.hid (new_call HB9.out hb10)
            clear hb10 HF9 HB9
            go_wp2_with (go_at_call 7; refine (known04 _).mono ?_; rintro e w' ⟨rfl, hb⟩)
            go_ret
            exact ⟨rfl, new_call HB10.out hb⟩
      · rw [if_neg hck] at HQ
        have e : (⟨g1, o1, none⟩ : Addr).add k = ⟨g1, o1 + k, none⟩ := Addr.add_mid _ _ _
        simp only [Option.map_some, e] at HQ
        clear e
        have HP3 := Lib.hid (Rob.parts1 HQ.out HF6.out.sit 22 _ rfl)
        have HF3 := Lib.hid (HF6.out.chg (w' := w6.alloc (.cells #[.slice (some ⟨g1, o1 + k, none⟩) (X.length - k) (c1 - k)] 22)) (D := fun _ => False) (Chg.of_below (new_alloc (Below.refl _ _) _)) (fun _ _ h => h))
        go_wp2_with fail
        refine (feedFeed_any p S4 _ _ 1 1 [X.drop k] _ HF3.out HP3.out (by simpa using HXd.out) (by decide) (by rw [HA1.out]; simp; omega)).mono ?_
        rintro e w8 ⟨S8, rfl, hf8, hc8, _⟩
        simp only [List.flatten_cons, List.flatten_nil, List.append_nil] at hf8 ⊢
        rw [HFd.out] at hf8 ⊢
        rw [HE2.out]
        have HF8 := Lib.hid hf8
        have HB8 : Hid (Below w.heap.size w w8) := (new_alloc HB6.out _).trans (hc8.below HS4.out (by simp; omega))
        clear hf8 hc8 HP3 HF3 HQ HF6 HB6 HE1 HA1 HFd hh2 hh3 th
        generalize X.foldl stepN st0 = s2 at *
        go_wp2
        go_loopg [11, 12] n (fun g s11 s12 wx => ∃ i : Nat, i + g = n ∧ s12 = .int .i64 i ∧ s11 = .int .i64 (((l.take i).map fun s => s.2.length).sum : Nat) ∧ w8 = wx)
        case atStart => exact ⟨0, by omega, rfl, rfl, rfl⟩
        case round =>
          obtain ⟨i, hig, rfl, rfl, rfl⟩ := hrel
          have hst := sum_part l i
          by_cases hi : i < n
          · have hil : i < l.length := by rw [HL.out]; exact hi
            obtain ⟨b, off, A', n', c', rfl, _, hl', hrow⟩ := HH.out.at_ hil
            obtain ⟨hy1, hc2, hy3⟩ := hrow _ HB8.out
            have HX := Lib.hid (sum_next hil)
            rw [hl'] at HX
            have hst2 := sum_part l (i + 1)
            rw [HX.out] at hst2
            have ti : decide ((i : Int) < (n : Int)) = true := by simp; omega
            clear hrow hl' hy1 hy3 hil
            generalize ((l.take i).map fun s => s.2.length).sum = z at *
            generalize (l.map fun s => s.2.length).sum = Z at *
            go_wp2
            go_roundg (gk - 1)
            case measure => omega
            case rel => exact ⟨i + 1, by omega, by go_num, by rw [HX.out]; congr 1, rfl⟩
          · have ti : decide ((i : Int) < (n : Int)) = false := by simp; omega
            rw [List.take_of_length_le (by rw [HL.out]; omega)]
            have HHx := HHe.out
            generalize (l.map fun s => s.2.length).sum = Z at *
            go_wp2_with fail
            refine (feedHeld_any p S8 _ w8 HF8.out HE2.out).mono ?_
            rintro e w9 ⟨rfl, hb9⟩
            rw [HHx]
            have HF9 := Lib.hid (HF8.out.chg (D := fun _ => False) (Chg.of_below hb9) (fun _ _ h => h))
            have HB9 := Lib.hid (new_call HB8.out hb9)
            clear hb9 HF8 HB8 HHx
            go_wp2_with fail
            refine (feedTaken_any p S8 _ false w9 HF9.out).mono ?_
            rintro e w10 ⟨rfl, hb10⟩
            rw [HA2.out]
            have HB10 := Lib.hid (new_call HB9.out hb10)
            clear hb10 HF9 HB9
            go_wp2_with (go_at_call 7; refine (known04 _).mono ?_; rintro e w' ⟨rfl, hb⟩)
            go_ret
            exact ⟨rfl, new_call HB10.out hb⟩
  · have te : (((encN l).2 : Int) != 0) = true := by rw [bne_iff_ne]; omega
    clear HEs HEp HEh he HXb
    generalize encN l = X at *
    go_enter Try.func6, Try.ntmps6
    go_wp2_with fail
    refine HE.out.mono ?_
    rintro e w1 ⟨v1, rfl, ho1, hb1⟩
    have HB1 := Lib.hid hb1
    clear ho1 hb1
    go_wp2_with (go_at_call 7; refine (known04 _).mono ?_; rintro e w' ⟨rfl, hb⟩)
    go_ret
    exact ⟨rfl, new_call HB1.out hb⟩

set_option maxRecDepth 100000 in
theorem lifted (os : Os) (started : os.Started) (H : Type) (enc : TypeId × Value → H) :
    ReturnsInHanded {} Try.checked os 6 .any (Rows.feedHoldsSpec.pre6 enc Try.prog Try.f6 Rows.feedHoldsRow.domain false) (Rows.feedHoldsSpec.post enc Try.prog Try.f6 false true false false) := by
  refine returnsInHanded_of_change (C := Try.checked) Try.own started (by kernel_rfl) Try.func6
    (ChangeSpec.witness6 (enc := enc) (C := Try.checked) false ⟨#[], #[.slice none 0 0, .int .u16 0], []⟩ 8 (by kernel_rfl) (by kernel_rfl) (by kernel_rfl) (by kernel_rfl)) ?_
  intro W base args ds gs before hval0 hW _ _
  have hval : ∀ (j : Nat) t v, Try.f6.params[j]? = some t → args[j]? = some v → Value.okWide Try.prog W .any base t v := hval0
  have hW' := hW
  obtain ⟨p, q, hA0, hV, rfl, _, _⟩ := hW
  have hA : DataW.TrodAll enc Try.prog W 0 (fun _ => true) true Try.f6.params.toList args.toList ds p := hA0
  rw [Try.params6] at hA hval
  obtain ⟨v0, v1, d0, d1, p0, p1, rfl, rfl, rfl, h0, h1⟩ := trodAll_two hA
  obtain ⟨rfl, rfl⟩ := trodVars_none hV
  obtain ⟨A0, n0, c0, ls0, rfl, hh0, hb0, hk0, hu0, hn0, hl0⟩ := open_secs (hval 0 26 v0 rfl rfl) h0
  obtain ⟨a1, rfl, rfl, rfl, w1⟩ := open_int Try.underlying44 (hval 1 44 v1 rfl rfl) h1
  exact (walk A0 n0 c0 ls0 a1 W hh0 hb0 hk0 hn0 hl0 (wf_u16 w1)).mono fun e W' he =>
    law_post rfl rfl (by rw [Try.params6]; intro t ht; simp at ht; rcases ht with rfl | rfl <;> exact ⟨by kernel_rfl, of_decide_eq_true (by kernel_rfl)⟩) hW' rfl he

theorem proved : Rows.FeedHoldsSaid :=
  OpenClaim.holds_of_wide 6 Try.f6 rfl rfl rfl rfl rfl rfl rfl ⟨rfl, rfl, rfl, rfl, rfl⟩ rfl rfl rfl rfl rfl (by kernel_rfl) Try.func6 (by kernel_rfl)
    (of_decide_eq_true (by kernel_rfl)) (by unfold Func.isWrapper; first | (rw [if_pos (by decide +kernel)]; kernel_rfl) | (rw [if_neg (by decide +kernel)]; exact ⟨rfl, rfl⟩))
    (fun os started H enc _ => lifted os started H enc)
end Go.Proofs.Ytdheppfooapneaa.feedHolds
