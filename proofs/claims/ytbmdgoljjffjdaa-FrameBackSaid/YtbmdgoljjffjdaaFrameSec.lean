/- frame.section: one section, from its kind on. -/
import Derived.Test.YtbmdgoljjffjdaaFrameHead
import Derived.Test.YtbmdgoljjffjdaaFrameParse
import Derived.Test.YtbmdgoljjffjdaaGet
import Derived.Test.YtbmdgoljjffjdaaSeal
import Derived.Test.YtbmdgoljjffjdaaRefDec
import Derived.RegionTactic
import Derived.Outline
namespace Go.Proofs.Ytbmdgoljjffjdaa
open Go.RowKit

theorem get_drop {bs : List Nat} {k : Nat} (hk : k < bs.length) : ((get (bs.drop k) 1).2.2 = 0 ∧ get bs ((k : Int) + 1) = ((get (bs.drop k) 1).1, k + (get (bs.drop k) 1).2.1, 0)) ∨ ((get (bs.drop k) 1).2.2 ≠ 0 ∧ get bs ((k : Int) + 1) = get (bs.drop k) 1) := by
  have e1 : get bs ((k : Int) + 1) = getAt bs (k + 1) := by
    unfold get
    rw [if_neg (by omega), show ((k : Int) + 1).toNat = k + 1 by omega]
  have e2 : get (bs.drop k) 1 = getAt (bs.drop k) 1 := get_one (by rw [List.length_drop]; omega)
  rw [e1, e2]
  unfold getAt
  rw [List.drop_drop]
  generalize scan 0 0 (bs.drop (k + 1)) = r
  by_cases h : r.2.2 = 0
  · left; simp [h]; omega
  · right; simp [h]

theorem set2 {W : World} {g : Nat} {t : TypeId} {z0 z1 c0 c1 : Value} (h : Blk W g t #[z0, z1]) : Blk ((W.setCell ⟨g, 0, none⟩ c0).setCell ⟨g, 1, none⟩ c1) g t #[c0, c1] := by
  have := (h.set_ 0 c0).set_ 1 c1
  simpa using this
theorem results_three {fn : Func} {p u x : Tmp} {ty : TypeId} (h : fn.results = #[.cell p ty, .tmp u, .tmp x]) {tmps : Array Value} {P : Program} {w : World} {a : Addr} {v : Value} (hp : tmps.getD p undef = .pointer (some a))
    (hl : (loadVar ty a).run P w = .ok v w) : (results fn tmps).run P w = .ok (.tuple #[v, tmps.getD u undef, tmps.getD x undef]) w := by
  have hp' : tmps[p]?.getD undef = .pointer (some a) := by rw [← hp]; simp
  simp only [results, h]
  simp [hp', asAddr, hl]
theorem ownForm {w : World} {base : Nat} {e : TypeId} {a : Addr} {n c : Nat} {xs : List Value} (h : Own w base e (.slice (some a) n c) xs) : ∃ g cp, some a = some ⟨g, 0, none⟩ ∧ cp = c := by
  rcases h.2 with ⟨h1, _⟩ | ⟨g', cap, cur, h1, _⟩
  · cases h1
  · cases h1; exact ⟨g', c, rfl, rfl⟩
theorem own_part {W : World} {base : Nat} {e : TypeId} {A : Option Addr} {c T : Nat} {cb : List Nat} (h : Own W base e (.slice A cb.length c) (u8s cb)) (hT : T ≤ cb.length) : Has W (if c = T then A else A.map (·.add T)) (cb.length - T) (c - T) (u8s (cb.drop T)) := by
  obtain ⟨A', c', e', h'⟩ := h.has
  rw [u8s_len] at e' h'
  cases e'
  have hp := h'.part (k := T) (m := cb.length) hT (Nat.le_refl _)
  rw [List.take_of_length_le (by rw [List.length_drop, u8s_len]; omega), show (u8s cb).drop T = u8s (cb.drop T) by simp [u8s]] at hp
  exact hp
/-- The place lies in a block of bytes. -/
def U8At (w : World) (A : Option Addr) : Prop := ∀ a, A = some a → ∃ cs fz, w.heap[a.block]? = some (.cells cs 5 fz)
theorem own_u8 {W : World} {base : Nat} {A : Option Addr} {n c : Nat} {xs : List Value} (h : Own W base 5 (.slice A n c) xs) : U8At W A := by
  intro a ha
  subst ha
  rcases h.2 with ⟨h1, _⟩ | ⟨g', cap, cur, h1, _, h3, _⟩
  · cases h1
  · cases h1; exact ⟨cur, _, h3⟩
theorem U8At.off {W : World} {b o o' : Nat} (h : U8At W (some ⟨b, o, none⟩)) : U8At W (some ⟨b, o', none⟩) := by
  intro a ha
  cases ha
  exact h ⟨b, o, none⟩ rfl
theorem sec_info : (Try.prog.info? 33).map (·.size) = some 2 := by kernel_rfl
theorem sec_load {W : World} {g : Nat} {c0 c1 : Value} (h : Blk W g 33 #[c0, c1]) : (loadVar 33 ⟨g, 0, none⟩).run Try.prog W = .ok (.agg #[c0, c1]) W :=
  run_loadVar_row _ _ _ _ _ _ _ h Try.underlying33 rfl (by rw [sec_info]; rfl)
/-- What section answers: an error; or the section and the place behind it. -/
def Secn (w : World) (bs : List Nat) (k : Nat) (e : Ending) (w' : World) : Prop := Below w.heap.size w w' ∧
  ((∃ E : Nat, E ≠ 0 ∧ e = .returned (.tuple #[.agg #[.int .i64 0, .slice none 0 0], .int .i64 0, .int .i64 (E : Int)]) ∧ ∀ all l, restN (bs.drop k) all l = ([], E)) ∨
   (∃ A n c, ∃ m : Nat, ∃ p, e = .returned (.tuple #[.agg #[.int .i64 (((bs.drop k).headD 0 : Nat) : Int), .slice A n c], .int .i64 ((k + m : Nat) : Int), .int .i64 0]) ∧ Has w' A n c (u8s p) ∧ U8At w' A ∧ 1 ≤ m ∧ k + m ≤ bs.length ∧
     ∀ all l, restN (bs.drop k) all l = closeN ((bs.drop (k + m)).foldl stepN ⟨[], (bs.drop k).headD 0, false, all + m, l ++ [(((bs.drop k).headD 0 : Int), p)], 0⟩)))
theorem sec_end {w W : World} {a : Act} {g : Nat} {c0 c1 x y : Value} {bs : List Nat} {k : Nat} (hb : Blk W g 33 #[c0, c1]) (hp : a.tmps.getD 4 undef = .pointer (some ⟨g, 0, none⟩)) (h5 : a.tmps.getD 5 undef = x) (h6 : a.tmps.getD 6 undef = y) (hd : a.defers = [])
    (hv : Secn w bs k (.returned (.tuple #[.agg #[c0, c1], x, y])) W) : bodyPost Try.prog Try.f27 (Secn w bs k) Exit.ret a W := by
  subst h5 h6
  exact bodyPost_ret (results_three Try.results27 hp (sec_load hb)) hd hv

set_option maxRecDepth 100000 in
set_option maxHeartbeats 1000000 in
theorem section_err (A : Option Addr) (n c : Nat) (bs : List Nat) (k : Nat) (w : World) (h : Has w A n c (u8s bs)) (hb : ∀ x ∈ bs, x < 256) (hn : n ≤ 90000) (hk : k < n) (he : (get (bs.drop k) 1).2.2 ≠ 0) :
    Calls Try.prog 27 #[.slice A n c, .int .i64 (k : Int)] w (Secn w bs k) := by
  have hl : bs.length = n := by have := h.len; rw [u8s_len] at this; exact this
  have HG := Lib.hid (fun W (hW : Below w.heap.size w W) => get_any A n c bs ((k : Int) + 1) W (h.kept hW) hb (by omega))
  have HR : Hid (∀ all l, restN (bs.drop k) all l = ([], (get (bs.drop k) 1).2.2)) := fun all l => by unfold restN; rw [if_pos he]
  rcases get_drop (bs := bs) (k := k) (by omega) with ⟨h0, _⟩ | ⟨_, h1⟩
  · exact absurd h0 he
  rw [h1] at HG
  obtain ⟨hz1, hz2⟩ := get_zero _ _ he
  rw [hz1, hz2] at HG
  have te : (((get (bs.drop k) 1).2.2 : Int) != 0) = true := by rw [bne_iff_ne]; omega
  have HNe := Lib.hid he
  clear h hb hl h1 hz1 hz2 he
  generalize (get (bs.drop k) 1).2.2 = E at *
  go_enter Try.func27, Try.ntmps27
  go_wp2_with (go_at_call 34; refine (HG.out _ (new_alloc (Below.refl _ _) _)).mono ?_; rintro e w' ⟨rfl, rfl⟩)
  exact sec_end (Blk.new _ _ _) rfl rfl rfl rfl ⟨new_alloc (Below.refl _ _) _, Or.inl ⟨_, HNe.out, rfl, HR.out⟩⟩

set_option maxRecDepth 100000 in
set_option maxHeartbeats 1000000 in
theorem section_long (A : Option Addr) (n c : Nat) (bs : List Nat) (k : Nat) (w : World) (h : Has w A n c (u8s bs)) (hb : ∀ x ∈ bs, x < 256) (hn : n ≤ 90000) (hk : k < n) (he : (get (bs.drop k) 1).2.2 = 0) (hN : 1048576 < (get (bs.drop k) 1).1) :
    Calls Try.prog 27 #[.slice A n c, .int .i64 (k : Int)] w (Secn w bs k) := by
  have hl : bs.length = n := by have := h.len; rw [u8s_len] at this; exact this
  have HG := Lib.hid (fun W (hW : Below w.heap.size w W) => get_any A n c bs ((k : Int) + 1) W (h.kept hW) hb (by omega))
  have HR : Hid (∀ all l, restN (bs.drop k) all l = ([], 3)) := fun all l => by unfold restN; rw [if_neg (by simp [he]), if_pos hN]
  rcases get_drop (bs := bs) (k := k) (by omega) with ⟨_, h1⟩ | ⟨h0, _⟩
  · rw [h1] at HG
    have tN : decide ((1048576 : Int) < ((get (bs.drop k) 1).1 : Int)) = true := decide_eq_true (by omega)
    clear h hb hl h1 he hN
    generalize (get (bs.drop k) 1).1 = N at *
    generalize k + (get (bs.drop k) 1).2.1 = F at *
    go_enter Try.func27, Try.ntmps27
    go_wp2_with (go_at_call 34; refine (HG.out _ (new_alloc (Below.refl _ _) _)).mono ?_; rintro e w' ⟨rfl, rfl⟩)
    exact sec_end (Blk.new _ _ _) rfl rfl rfl rfl ⟨new_alloc (Below.refl _ _) _, Or.inl ⟨3, by decide, rfl, HR.out⟩⟩
  · exact absurd he h0

set_option maxRecDepth 100000 in
set_option maxHeartbeats 1000000 in
theorem section_short (A : Option Addr) (n c : Nat) (bs : List Nat) (k : Nat) (w : World) (h : Has w A n c (u8s bs)) (hb : ∀ x ∈ bs, x < 256) (hn : n ≤ 90000) (hk : k < n) (he : (get (bs.drop k) 1).2.2 = 0) (hN : ¬ 1048576 < (get (bs.drop k) 1).1)
    (hm : (bs.drop k).length < (get (bs.drop k) 1).2.1 + (get (bs.drop k) 1).1 + 4) :
    Calls Try.prog 27 #[.slice A n c, .int .i64 (k : Int)] w (Secn w bs k) := by
  have hl : bs.length = n := by have := h.len; rw [u8s_len] at this; exact this
  have HG := Lib.hid (fun W (hW : Below w.heap.size w W) => get_any A n c bs ((k : Int) + 1) W (h.kept hW) hb (by omega))
  have HR : Hid (∀ all l, restN (bs.drop k) all l = ([], 10)) := fun all l => by unfold restN; rw [if_neg (by simp [he]), if_neg hN, if_pos hm]
  have hT : (get (bs.drop k) 1).2.1 ≤ (bs.drop k).length := (get_moves (bs := bs.drop k) (k := 1) he).2
  rw [List.length_drop, hl] at hm hT
  rcases get_drop (bs := bs) (k := k) (by omega) with ⟨_, h1⟩ | ⟨h0, _⟩
  · rw [h1] at HG
    have tN : decide ((1048576 : Int) < ((get (bs.drop k) 1).1 : Int)) = false := decide_eq_false (by omega)
    clear h hb hl h1 he
    generalize (get (bs.drop k) 1).1 = N at *
    generalize (get (bs.drop k) 1).2.1 = T at *
    obtain ⟨F, hF⟩ : ∃ F, k + T = F := ⟨_, rfl⟩
    rw [hF] at HG
    have tm : decide ((n : Int) < (F : Int) + (N : Int) + 4) = true := decide_eq_true (by omega)
    have hFn : F ≤ 90001 := by omega
    clear hF hm hT
    go_enter Try.func27, Try.ntmps27
    go_wp2_with (go_at_call 34; refine (HG.out _ (new_alloc (Below.refl _ _) _)).mono ?_; rintro e w' ⟨rfl, rfl⟩)
    exact sec_end (Blk.new _ _ _) rfl rfl rfl rfl ⟨new_alloc (Below.refl _ _) _, Or.inl ⟨10, by decide, rfl, HR.out⟩⟩
  · exact absurd he h0

set_option maxRecDepth 100000 in
set_option maxHeartbeats 1000000 in
theorem section_sum (A : Option Addr) (n c : Nat) (bs : List Nat) (k : Nat) (w : World) (h : Has w A n c (u8s bs)) (hb : ∀ x ∈ bs, x < 256) (hn : n ≤ 90000) (hk : k < n) (he : (get (bs.drop k) 1).2.2 = 0) (hN : ¬ 1048576 < (get (bs.drop k) 1).1)
    (hm : ¬ (bs.drop k).length < (get (bs.drop k) 1).2.1 + (get (bs.drop k) 1).1 + 4) :
    Calls Try.prog 27 #[.slice A n c, .int .i64 (k : Int)] w (Secn w bs k) := by
  have hl : bs.length = n := by have := h.len; rw [u8s_len] at this; exact this
  have HG := Lib.hid (fun W (hW : Below w.heap.size w W) => get_any A n c bs ((k : Int) + 1) W (h.kept hW) hb (by omega))
  have hT : 1 < (get (bs.drop k) 1).2.1 := (get_moves (bs := bs.drop k) (k := 1) he).1
  rcases get_drop (bs := bs) (k := k) (by omega) with ⟨_, h1⟩ | ⟨h0, _⟩
  · rw [h1] at HG
    have tN : decide ((1048576 : Int) < ((get (bs.drop k) 1).1 : Int)) = false := decide_eq_false (by omega)
    have HR : Hid (∀ all l, restN (bs.drop k) all l = if (checkN ((bs.drop k).take ((get (bs.drop k) 1).2.1 + (get (bs.drop k) 1).1 + 4))).2 ≠ 0 then ([], (checkN ((bs.drop k).take ((get (bs.drop k) 1).2.1 + (get (bs.drop k) 1).1 + 4))).2)
      else closeN ((bs.drop (k + ((get (bs.drop k) 1).2.1 + (get (bs.drop k) 1).1 + 4))).foldl stepN ⟨[], (bs.drop k).headD 0, false, all + ((get (bs.drop k) 1).2.1 + (get (bs.drop k) 1).1 + 4), l ++ [(((bs.drop k).headD 0 : Int), (checkN ((bs.drop k).take ((get (bs.drop k) 1).2.1 + (get (bs.drop k) 1).1 + 4))).1.drop (get (bs.drop k) 1).2.1)], 0⟩)) := fun all l => by
        unfold restN; rw [if_neg (by simp [he]), if_neg hN, if_neg hm, List.drop_drop]
    rw [List.length_drop, hl] at hm
    obtain ⟨b, off, rfl, hlt, hc⟩ := h.spot (by omega)
    have hcap := h.cap
    have hcell := hc k _ (u8s_at (l := bs) (j := k) (by omega))
    have hk0 : bs[k]'(by omega) = (bs.drop k).headD 0 := by rw [List.drop_eq_getElem_cons (by omega)]; rfl
    have hk8 := hb _ (List.getElem_mem (show k < bs.length by omega))
    rw [hk0] at hcell hk8
    clear h1 he hk0 hc
    generalize (get (bs.drop k) 1).1 = N at *
    generalize (get (bs.drop k) 1).2.1 = T at *
    obtain ⟨F, hF⟩ : ∃ F, k + T = F := ⟨_, rfl⟩
    rw [hF] at HG
    have tm : decide ((n : Int) < (F : Int) + (N : Int) + 4) = false := decide_eq_false (by omega)
    have hFn : F ≤ 90001 := by omega
    have hpt := h.part (k := k) (m := F + N + 4) (by omega) (by omega)
    rw [if_neg (by omega), show (((u8s bs).drop k).take (F + N + 4 - k)) = u8s ((bs.drop k).take (T + N + 4)) by
      rw [show F + N + 4 - k = T + N + 4 by omega]; simp [u8s]] at hpt
    have e : (⟨b, off, none⟩ : Addr).add k = ⟨b, off + k, none⟩ := Addr.add_mid _ _ _
    simp only [Option.map_some, e] at hpt
    have HC := Lib.hid (fun W (hW : Below w.heap.size w W) => check_any (some ⟨b, off + k, none⟩) (F + N + 4 - k) (c - k) ((bs.drop k).take (T + N + 4)) W (hpt.kept hW) (fun x hx => hb x (List.mem_of_mem_drop (List.mem_of_mem_take hx))) (by omega))
    have hrl : ((bs.drop k).take (T + N + 4)).length = T + N + 4 := by rw [List.length_take, List.length_drop]; omega
    have hle : k + (T + N + 4) ≤ bs.length := by omega
    have HLe := Lib.hid hle
    have hcl := check_len (bs := (bs.drop k).take (T + N + 4))
    rw [hrl] at hcl
    clear h hb hl hpt e hrl hle
    generalize hk0 : (bs.drop k).headD 0 = k0 at *
    have HK0 := Lib.hid hk0
    clear hk0
    generalize hck : checkN ((bs.drop k).take (T + N + 4)) = ck at *
    obtain ⟨cb, ce⟩ := ck
    simp only at HR hcl
    by_cases h0 : ce = 0
    · subst h0
      have HR2 : Hid (∀ all l, restN (bs.drop k) all l = closeN ((bs.drop (k + (T + N + 4))).foldl stepN ⟨[], k0, false, all + (T + N + 4), l ++ [((k0 : Int), cb.drop T)], 0⟩)) := fun all l => by rw [HR.out, if_neg (by simp)]
      have hcl := hcl rfl
      have hto : ((F : Int) + (N : Int) + 4) = ((k + (T + N + 4) : Nat) : Int) := by omega
      have HTo := Lib.hid hto
      have hft : (F : Int) - (k : Int) = (T : Int) := by omega
      have hwr : IntKind.i64.wrap (k0 : Int) = (k0 : Int) := by rw [IntKind.wrap_i64]; omega
      clear HR hck hto
      go_enter Try.func27, Try.ntmps27
      go_wp2_with (go_at_call 34; refine (HG.out _ (new_alloc (Below.refl _ _) _)).mono ?_; rintro e w' ⟨rfl, rfl⟩)
      refine (HC.out _ (new_alloc (Below.refl _ _) _)).mono ?_
      rintro e w2 ⟨v2, rfl, ho2, hb2⟩
      obtain ⟨A4, c4, rfl, hh4⟩ := ho2.has
      simp only [u8s_len] at ho2 hh4 ⊢
      have HO2 := Lib.hid ho2
      have hc4 := hh4.cap
      have HB2 := Lib.hid (new_call (new_alloc (Below.refl _ _) _) hb2)
      have HX2 : Hid (Blk w2 w.heap.size 33 #[.int .i64 0, .slice none 0 0]) := Blk.below (Blk.new _ _ _) hb2 (Blk.new _ _ _).lt
      have y0 : w2.cell? ⟨w.heap.size, 0, none⟩ = some (.int .i64 0) := HX2.out.cell 0
      have y1 : w2.cell? ⟨w.heap.size, 1, none⟩ = some (.slice none 0 0) := HX2.out.cell 1
      have f0 := HX2.out.frozen 0
      have f1 := HX2.out.frozen 1
      have hc2 : w2.cell? ⟨b, off + k, none⟩ = some (.int .u8 (k0 : Int)) := (HB2.out.cell (p := ⟨b, off + k, none⟩) hlt).trans hcell
      clear ho2 hb2 hcell
      rcases Nat.lt_or_ge T c4 with hq | hq
      · obtain ⟨b4, o4, rfl⟩ : ∃ b4 o4, A4 = some ⟨b4, o4, none⟩ := by
          rcases A4 with _ | a
          · have := hh4.bare rfl
            omega
          · obtain ⟨g4, cp4, e4, _⟩ := ownForm HO2.out
            exact ⟨g4, 0, e4⟩
        have hq1 : ¬ c4 = T := by omega
        clear hh4
        go_wp2
        go_region
        go_wp2
        have hfar : Far1 w.heap.size w2 ((w2.setCell ⟨w.heap.size, 0, none⟩ (.int .i64 (k0 : Int))).setCell ⟨w.heap.size, 1, none⟩ (.slice (some ⟨b4, o4 + T, none⟩) (cb.length - T) (c4 - T))) := ((Far1.refl _ _).set 0 _).set 1 _
        refine sec_end (x := .int .i64 ((F : Int) + (N : Int) + 4)) (y := .int .i64 0) (set2 HX2.out) rfl rfl rfl rfl ⟨(hfar.below HB2.out).drew, Or.inr ⟨_, _, _, T + N + 4, cb.drop T, by rw [HK0.out, HTo.out], ?_, U8At.off (own_u8 (hfar.row HO2.out (by simp))), by omega, HLe.out, by rw [HK0.out]; exact HR2.out⟩⟩
        have hp := own_part (T := T) (hfar.row HO2.out (by simp)) (by omega)
        rw [if_neg hq1] at hp
        have e : (⟨b4, o4, none⟩ : Addr).add T = ⟨b4, o4 + T, none⟩ := Addr.add_mid _ _ _
        simp only [Option.map_some, e] at hp
        exact hp.drew
      · have hq1 : c4 = T := by omega
        have hq2 : cb.length = T := by omega
        clear hh4
        go_wp2
        go_region
        go_wp2
        have hfar : Far1 w.heap.size w2 ((w2.setCell ⟨w.heap.size, 0, none⟩ (.int .i64 (k0 : Int))).setCell ⟨w.heap.size, 1, none⟩ (.slice A4 0 0)) := ((Far1.refl _ _).set 0 _).set 1 _
        refine sec_end (x := .int .i64 ((F : Int) + (N : Int) + 4)) (y := .int .i64 0) (set2 HX2.out) rfl rfl rfl rfl ⟨(hfar.below HB2.out).drew, Or.inr ⟨_, _, _, T + N + 4, cb.drop T, by rw [HK0.out, HTo.out], ?_, own_u8 (hfar.row HO2.out (by simp)), by omega, HLe.out, by rw [HK0.out]; exact HR2.out⟩⟩
        have hp := own_part (T := T) (hfar.row HO2.out (by simp)) (by omega)
        rw [if_pos hq1, show cb.length - T = 0 by omega, show c4 - T = 0 by omega] at hp
        exact hp.drew
    · have HR2 : Hid (∀ all l, restN (bs.drop k) all l = ([], ce)) := fun all l => by rw [HR.out, if_pos h0]
      have te : ((ce : Int) != 0) = true := by rw [bne_iff_ne]; omega
      have HNe := Lib.hid h0
      clear HR hck h0 hcl
      go_enter Try.func27, Try.ntmps27
      go_wp2_with (go_at_call 34; refine (HG.out _ (new_alloc (Below.refl _ _) _)).mono ?_; rintro e w' ⟨rfl, rfl⟩)
      refine (HC.out _ (new_alloc (Below.refl _ _) _)).mono ?_
      rintro e w2 ⟨v2, rfl, ho2, hb2⟩
      have HB2 := Lib.hid (new_call (new_alloc (Below.refl _ _) _) hb2)
      have HX2 : Hid (Blk w2 w.heap.size 33 #[.int .i64 0, .slice none 0 0]) := Blk.below (Blk.new _ _ _) hb2 (Blk.new _ _ _).lt
      have y0 : w2.cell? ⟨w.heap.size, 0, none⟩ = some (.int .i64 0) := HX2.out.cell 0
      have y1 : w2.cell? ⟨w.heap.size, 1, none⟩ = some (.slice none 0 0) := HX2.out.cell 1
      have f0 := HX2.out.frozen 0
      have f1 := HX2.out.frozen 1
      clear ho2 hb2
      go_wp2
      exact sec_end (set2 HX2.out) rfl rfl rfl rfl ⟨(((Far1.refl _ _).set 0 _).set 1 _).below HB2.out, Or.inl ⟨_, HNe.out, rfl, HR2.out⟩⟩
  · exact absurd he h0

theorem section_any (A : Option Addr) (n c : Nat) (bs : List Nat) (k : Nat) (w : World) (h : Has w A n c (u8s bs)) (hb : ∀ x ∈ bs, x < 256) (hn : n ≤ 90000) (hk : k < n) :
    Calls Try.prog 27 #[.slice A n c, .int .i64 (k : Int)] w (Secn w bs k) := by
  by_cases he : (get (bs.drop k) 1).2.2 = 0
  · by_cases hN : 1048576 < (get (bs.drop k) 1).1
    · exact section_long A n c bs k w h hb hn hk he hN
    · by_cases hm : (bs.drop k).length < (get (bs.drop k) 1).2.1 + (get (bs.drop k) 1).1 + 4
      · exact section_short A n c bs k w h hb hn hk he hN hm
      · exact section_sum A n c bs k w h hb hn hk he hN hm
  · exact section_err A n c bs k w h hb hn hk he
end Go.Proofs.Ytbmdgoljjffjdaa
