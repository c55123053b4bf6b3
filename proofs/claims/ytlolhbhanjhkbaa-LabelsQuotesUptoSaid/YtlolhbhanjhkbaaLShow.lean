/-
  The text of a set: contracts of strings.Join, Show. Own text.
-/
import Derived.Test.YtlolhbhanjhkbaaLQuo
import Derived.Shelf.Strings.OnBuilder
namespace Go.Proofs
open Go.Shelf
shelf_lay Lays.n156 Nm 156 at Try as Try.lJoin
theorem Try.lJoinX : Builder.Extra Try.prog Try.lJoin_ren where
  sizeBuilder := by kernel_rfl
  liesBuilder := by kernel_rfl
  t5 := Try.underlying5
  a5 := Try.isAgg5
  z5 := Try.sizeOf5
  v5 := Try.zeroValue5
  infoByte := by kernel_rfl
  cellsByte := by kernel_rfl
  sizeByte := by kernel_rfl
  neB5 := by decide
end Go.Proofs
namespace Go.Proofs.Ytlolhbhanjhkbaa.Lab
open Go.RowKit Go Go.Proofs.Ytlolhbhanjhkbaa.Base Go.Shelf Go.Sort

/-- the text of a label -/
def part (x : Lab) : ByteArray := x.n ++ ⟨#[61]⟩ ++ quoteS x.v
/-- texts, with commas between them -/
def joinN : List (List Nat) → List Nat
  | [] => []
  | x :: r => x ++ (r.map (44 :: ·)).flatten
def partN (x : Lab) : List Nat := nums (part x)
def showN (l : List Lab) : List Nat := joinN (l.map partN)
def showS (l : List Lab) : ByteArray := if validB l = true then strN (showN l) else ByteArray.empty

theorem join_eq (ss : List ByteArray) : (⟨(Lib.join (ss.map (·.data.toList)) [44]).toArray⟩ : ByteArray) = strN (joinN (ss.map nums)) := by
  apply nums_inj
  cases ss with
  | nil => rfl
  | cons s r =>
    rw [List.map_cons, Lib.join_cons, List.map_cons, joinN]
    unfold Lib.joinTail
    have hlt : ∀ x ∈ nums s ++ ((r.map nums).map (44 :: ·)).flatten, x < 256 := by
      intro x hx
      rcases List.mem_append.1 hx with h | h
      · exact nums_lt _ _ h
      · simp only [List.mem_flatten, List.mem_map] at h
        obtain ⟨_, ⟨_, ⟨t, _, rfl⟩, rfl⟩, h⟩ := h
        rcases List.mem_cons.1 h with rfl | h
        · decide
        · exact nums_lt _ _ h
    rw [strN_nums _ hlt]
    unfold nums
    simp only [List.map_append, List.map_flatten, List.map_map]
    congr 2

theorem join_any (w : World) (v : Value) (ss : List ByteArray) (h : w.ownsRow 0 9 1 v ss.length (ss.map Value.string)) (hlen : (joinN (ss.map nums)).length ≤ 140737488351232) (hn : ss.length ≤ 1024) :
    Calls Try.prog 54 #[v, .string ⟨#[44]⟩] w fun e w' => e = .returned (.string (strN (joinN (ss.map nums)))) ∧ Below w.heap.size w w' := by
  rcases h.2 with ⟨rfl, h0⟩ | ⟨g, cap, cur, rfl, hb0, h2, h3, h4, h5, h6⟩
  · have hc := Any.strings_Join_none Try.lJoin Try.lJoinX none 0 ⟨#[44]⟩ w
    change Calls Try.prog 54 _ _ _ at hc
    refine hc.mono fun e w' ⟨e1, e2⟩ => ?_
    subst e2
    have hs : ss = [] := List.eq_nil_of_length_eq_zero h0
    subst hs
    exact ⟨e1, Below.refl _ _⟩
  · have hle : (Lib.join (ss.map (·.data.toList)) [44]).length = (joinN (ss.map nums)).length := by
      have := congrArg ByteArray.size (join_eq ss)
      rw [strN_size] at this
      simpa [ByteArray.size] using this
    have hc := Any.strings_Join Try.lJoin Try.lJoinX g 0 cap ss ⟨#[44]⟩ w (fun j x hj => by
      have hjl : j < ss.length := by
        rcases Nat.lt_or_ge j ss.length with hh | hh
        · exact hh
        · rw [List.getElem?_eq_none (by omega)] at hj; cases hj
      have h7 : (ss.map Value.string)[j]? = some (.string x) := by rw [List.getElem?_map, hj]; rfl
      rw [← h6, List.getElem?_take_of_lt (by omega), Array.getElem?_toList] at h7
      simp only [World.cell?, h2, Nat.zero_add]
      simp only [Option.isSome_none, Bool.false_eq_true, if_false]
      exact h7) (Array.getElem?_eq_some_iff.1 h2).1 (by omega) h3 (by show (Lib.join _ [44]).length ≤ _; omega)
    change Calls Try.prog 54 _ _ _ at hc
    refine hc.mono fun e w' ⟨e1, e2⟩ => ⟨?_, e2⟩
    rw [e1]
    exact ret_str (join_eq ss)

theorem str_info : (Try.prog.info? 9).map (fun i => (i.zero, i.size, i.bytes)) = some (some (.string ⟨#[]⟩), 1, 16) := by kernel_rfl

/-- texts in a row of the call's own -/
structure Strs (w wr : World) (v : Value) (ss : List ByteArray) : Prop where
  below : Below w.heap.size w wr
  row : wr.ownsRow 0 9 1 v ss.length (ss.map Value.string)
  new : ∀ k, v.ownBlock = some k → w.heap.size ≤ k

theorem Strs.append {w wr : World} {v : Value} {ss : List ByteArray} (h : Strs w wr v ss) (s : ByteArray) (hl : ss.length < 1048576) :
    ∃ ao cap w', (Builtin.append_ #[80, 80] 80 #[v, .slice (some ⟨wr.heap.size, 0, none⟩) 1 1]).run Try.prog (wr.alloc (.cells #[.string s] 9)) = .ok (.slice ao (ss.length + 1) cap) w' ∧ Strs w w' (.slice ao (ss.length + 1) cap) (ss ++ [s]) := by
  obtain ⟨i0, hi, hz0, hz1, hz2⟩ := info_parts str_info
  have hsrc : Src Try.prog 1 80 (.slice (some ⟨wr.heap.size, 0, none⟩) 1 1) 1 [.string s] (wr.alloc (.cells #[.string s] 9)) := by
    refine Src.ofSlice _ Try.underlying80 _ 1 1 _ rfl ?_ ?_
    · intro j u hu
      rw [Go.WideShapes.add_plain, Nat.zero_add]
      exact cell_new rfl (by simpa using hu)
    · intro u hu
      simp at hu
      rw [hu]
      rfl
  obtain ⟨v', w', h1, h2, h3, h4⟩ := Row.append_src (P := Try.prog) (wr.alloc (.cells #[.string s] 9)) 80 80 80 9 i0 _ 1 16 Try.underlying80 hi hz0 hz1 hz2 rfl (by decide) v ss.length _ (h.row.alloc _) _ 1 _ hsrc (by unfold maxLen; omega) (by omega)
  have hb : Below w.heap.size w w' := (h.below.alloc h.below.size _).grown h3 (by simp; have := h.below.size; omega) h.new
  have hnew : ∀ k, v'.ownBlock = some k → w.heap.size ≤ k := fun k hk => by
    rcases h4 with e | e
    · exact h.new k (by rw [← e]; exact hk)
    · rw [hk] at e
      injection e with e
      have := h.below.size
      rw [World.size_alloc] at e
      omega
  have h2' : w'.ownsRow 0 9 1 v' (ss ++ [s]).length ((ss ++ [s]).map Value.string) := by rw [List.length_append, List.map_append]; exact h2
  rcases h2'.2 with ⟨e, h0⟩ | ⟨g, cap, cur, e, h5⟩
  · simp at h0
  · rw [List.length_append] at e
    simp only [List.length_cons, List.length_nil] at e
    subst e
    exact ⟨_, cap, w', h1, hb, h2', hnew⟩
theorem Strs.drewN {w wr : World} {v : Value} {l : List ByteArray} (h : Strs w wr v l) (n : Nat) : Strs w (wr.drewN n) v l := ⟨below_drewN h.below n, ⟨h.row.1, h.row.2⟩, h.new⟩
theorem Strs.kept {w wr w2 : World} {v : Value} {l : List ByteArray} (h : Strs w wr v l) (hb : Below wr.heap.size wr w2) : Strs w w2 v l := by
  refine ⟨le_below h.below hb, ?_, h.new⟩
  refine ⟨h.row.1, ?_⟩
  rcases h.row.2 with h0 | ⟨g, cap, cur, h1, h2, h3, h4⟩
  · exact .inl h0
  · exact .inr ⟨g, cap, cur, h1, h2, by rw [hb.block g (Array.getElem?_eq_some_iff.1 h3).1]; exact h3, h4⟩
theorem Strs.made (w : World) (n : Nat) (hn : n ≤ 1024) :
    ∃ w', (Instr.makeSlice 80 (.int .i64 0) (.int .i64 (n : Int))).run Try.prog w = .ok (.slice (some ⟨w.heap.size, 0, none⟩) 0 n) w' ∧ Strs w w' (.slice (some ⟨w.heap.size, 0, none⟩) 0 n) [] := by
  obtain ⟨i0, hi, hz0, hz1, hz2⟩ := info_parts str_info
  obtain ⟨w', h1, h2, h3⟩ := run_make_own (P := Try.prog) w 0 80 9 i0 (.string ⟨#[]⟩) 1 Try.underlying80 hi hz0 hz1 .i64 .i64 n (by rw [hz2]; omega) (by unfold maxLen; omega) (Nat.zero_le _)
  exact ⟨w', h1, (Below.refl _ _).grown h3 (Nat.le_refl _) (fun k hk => by cases hk), h2, fun k hk => by (simp only [Value.ownBlock, Option.some.injEq] at hk; omega)⟩


theorem chkAux_labs : ∀ (r seen : List Lab), chkAux seen r = 0 → ∀ x ∈ r, labE x = 0
  | [], _, _ => fun x hx => by cases hx
  | y :: r, seen, h => by
    rw [chkAux] at h
    by_cases h1 : labE y = 0
    · rw [if_neg (by omega)] at h
      split at h
      · cases h
      · intro x hx
        rcases List.mem_cons.1 hx with rfl | hx
        · exact h1
        · exact chkAux_labs r _ h x hx
    · rw [if_pos h1] at h
      exact absurd h h1
theorem labE_fit {x : Lab} (h : labE x = 0) : fitN x.n = true ∧ fitV x.v = true := by
  unfold labE at h
  cases h1 : fitN x.n
  · rw [h1] at h; simp at h
  · cases h2 : fitV x.v
    · rw [h1, h2] at h; simp at h
    · exact ⟨rfl, rfl⟩
theorem chk_labs {l : List Lab} (h : chk l = 0) : ∀ x ∈ l, labE x = 0 := by
  unfold chk at h
  split at h
  · rename_i h1; exact absurd h h1
  · exact chkAux_labs _ _ h
theorem valid_chk {l : List Lab} (h : validB l = true) : chk l = 0 := by
  unfold validB setE at h
  simp only [decide_eq_true_eq] at h
  split at h
  · rename_i h1; exact absurd h h1
  · rename_i h1; omega
theorem fit_sizes {l : List Lab} (h : chk l = 0) {k : Nat} (hk : k < l.length) : l[k]!.n.size ≤ 32 ∧ 1 ≤ l[k]!.n.size ∧ l[k]!.v.size ≤ 64 := by
  have hm : l[k]! ∈ l := by rw [getElem!_pos l k hk]; exact List.getElem_mem hk
  obtain ⟨h1, h2⟩ := labE_fit (chk_labs h _ hm)
  have := fitN_size h1
  have := fitV_size h2
  omega
theorem quoteS_size (s : ByteArray) : (quoteS s).size ≤ 4 * s.size + 2 := by
  unfold quoteS quoteN
  rw [strN_size, List.length_cons, List.length_append]
  have := flat_length (nums s)
  rw [nums_length] at this
  simp only [List.length_cons, List.length_nil]
  omega
theorem part_take (l : List Lab) (k : Nat) (h : k < l.length) : (l.take (k + 1)).map part = (l.take k).map part ++ [part l[k]!] := by
  rw [take_nth l k h, List.map_append]; rfl
theorem part_size {x : Lab} (h1 : x.n.size ≤ 32) (h2 : x.v.size ≤ 64) : (part x).size ≤ 291 := by
  unfold part
  have := quoteS_size x.v
  rw [ByteArray.size_append, ByteArray.size_append]
  have e : (⟨#[61]⟩ : ByteArray).size = 1 := rfl
  omega
theorem joinN_length (ls : List (List Nat)) (M : Nat) (h : ∀ x ∈ ls, x.length ≤ M) : (joinN ls).length ≤ ls.length * (M + 1) := by
  have key : ∀ r : List (List Nat), (∀ x ∈ r, x.length ≤ M) → ((r.map (44 :: ·)).flatten).length ≤ r.length * (M + 1) := by
    intro r
    induction r with
    | nil => intro _; simp
    | cons y r ih =>
      intro h
      have h1 := h y (by simp)
      have h2 := ih (fun x hx => h x (by simp [hx]))
      rw [List.map_cons, List.flatten_cons, List.length_append, List.length_cons, List.length_cons, Nat.add_mul]
      omega
  cases ls with
  | nil => simp [joinN]
  | cons y r =>
    have h1 := h y (by simp)
    have h2 := key r (fun x hx => h x (by simp [hx]))
    rw [joinN, List.length_append, List.length_cons, Nat.add_mul]
    omega

set_option maxRecDepth 100000 in
set_option maxHeartbeats 4000000 in
theorem show_any (ao : Option Addr) (cap : Nat) (l : List Lab) (w : World) (hl : l.length < 4611686018427387904) (hcap : l.length ≤ cap) (hL : LabsAt w ao l) :
    Calls Try.prog 31 #[.slice ao l.length cap] w fun e w' => e = .returned (.string (showS l)) ∧ Below w.heap.size w w' := by
  have hv := valid_any ao cap l w hl hcap hL
  unfold showS
  cases hb : validB l
  · rw [hb] at hv
    rw [if_neg (by decide)]
    have HV := Lib.hid hv
    clear hv hL hl hcap hb
    go_enter Try.func31, Try.ntmps31
    go_wp2_with (go_at_call 19; refine HV.out.mono ?_; rintro e w1 ⟨rfl, hb1⟩)
    go_ret
    exact ⟨rfl, hb1⟩
  · rw [hb] at hv
    rw [if_pos rfl]
    have hc0 := valid_chk hb
    obtain ⟨hl1, hl8⟩ := chk_zero_len hc0
    have hfs := fun k hk => fit_sizes (l := l) hc0 (k := k) hk
    have HV := Lib.hid hv
    have HL := Lib.hid hL
    have HF := Lib.hid hfs
    have HN8 := Lib.hid hl8
    clear hv hL hl hcap hb hc0 hl1 hfs hl8
    go_enter Try.func31, Try.ntmps31
    go_wp2_with (go_at_call 19; refine HV.out.mono ?_; rintro e w1 ⟨rfl, hb1⟩; obtain ⟨wm, hrun, hS0⟩ := Strs.made w1 l.length (by have := HN8.out; omega); have HS0 := Lib.hid hS0; have HB1 := Lib.hid hb1; clear hS0 hb1)
    clear hrun
    go_loopg [3, 14] l.length (fun r q i wr => ∃ (k : Nat) (ao : Option Addr) (n cap : Nat), Hid (k + r = l.length) ∧ k ≤ l.length ∧ i = .int .i64 (k : Int) ∧ q = .slice ao n cap ∧ Hid (n = k) ∧ Hid (Strs w1 wr q ((l.take k).map part)))
    case atStart => exact ⟨0, _, 0, l.length, Nat.zero_add _, Nat.zero_le _, rfl, rfl, rfl, HS0.out⟩
    case round =>
      obtain ⟨k, ao2, n, cap2, hE, hk, rfl, rfl, HN, HS⟩ := hrel
      have hk2 := HN8.out
      by_cases hlt : k < l.length
      · have hLk := HL.out.below (le_below HB1.out HS.out.below) (Nat.le_refl _)
        obtain ⟨b, off, rfl, hb, q0, q1⟩ := hLk k hlt
        obtain ⟨f1, f2, f3⟩ := HF.out k hlt
        have hpt := part_take l k hlt
        obtain ⟨x, hx⟩ : ∃ x, x = l[k]! := ⟨_, rfl⟩
        rw [← hx] at q0 q1 f1 f2 f3 hpt
        obtain ⟨xn, xv⟩ := x
        simp only at q0 q1 f1 f2 f3
        have hq := fun W => quote_any xv (by omega) W
        have hqs := quoteS_size xv
        have HPT := Lib.hid hpt
        obtain ⟨Q, hQ⟩ : ∃ Q, Q = quoteS xv := ⟨_, rfl⟩
        rw [← hQ] at hq hqs
        have hqs2 : Q.size ≤ 258 := by omega
        have HQ := Lib.hid hQ
        have HQC := Lib.hid hq
        clear hx hLk hpt hQ hq hqs f2
        go_wp2_with fail
        obtain ⟨wa, hwa⟩ : ∃ wa, wa = wr.alloc (.cells #[.string xn, .string xv] 62) := ⟨_, rfl⟩
        rw [← hwa]
        have hba : Below wr.heap.size wr wa := by rw [hwa]; exact below_alloc _ _
        have c0 : wa.cell? ⟨wr.heap.size, 0, none⟩ = some (.string xn) := by rw [hwa]; exact cell_new rfl rfl
        have c1 : wa.cell? ⟨wr.heap.size, 1, none⟩ = some (.string xv) := by rw [hwa]; exact cell_new rfl rfl
        have hz : wr.heap.size < wa.heap.size := by rw [hwa, World.size_alloc]; omega
        have HBA := Lib.hid hba
        clear hwa hba q0 q1
        have g1 : ¬ 9223372036854775807 < xn.size + 1 := by omega
        have g2 : ¬ 9223372036854775807 < xn.size + 1 + Q.size := by omega
        have hap : ∀ W, Below wa.drew.heap.size wa.drew W → ∃ ao' cap' w3, (Builtin.append_ #[80, 80] 80 #[.slice ao2 n cap2, .slice (some ⟨W.heap.size, 0, none⟩) 1 1]).run Try.prog (W.alloc (.cells #[.string (xn ++ ⟨#[61]⟩ ++ Q)] 9)) = .ok (.slice ao' (n + 1) cap') w3 ∧ Strs w1 w3 (.slice ao' (n + 1) cap') ((l.take (k + 1)).map part) := fun W hW => by
          have hlen : ((l.take k).map part).length = n := by rw [List.length_map, List.length_take, HN.out]; omega
          obtain ⟨ao', cap', w3, h1, h2⟩ := (HS.out.kept (le_below HBA.out.drew hW)).append (xn ++ ⟨#[61]⟩ ++ Q) (by rw [hlen, HN.out]; omega)
          rw [hlen] at h1 h2
          refine ⟨ao', cap', w3, h1, ?_⟩
          rw [HPT.out]
          have : part ⟨xn, xv⟩ = xn ++ ⟨#[61]⟩ ++ Q := by rw [HQ.out]; rfl
          rw [this]
          exact h2
        have HAP := Lib.hid hap
        clear hap
        go_region_law (first
          | (obtain ⟨ao', cap', w3, hrun, hS3⟩ := HAP.out _ hb2; refine Row.step_by rfl (.tmp 18) (.tmp 26) _ rfl _ _ rfl rfl hrun ?_; have HS3 := Lib.hid hS3; clear hrun hS3)
          | (go_simp; go_at_call 35; refine (HQC.out _).mono ?_; rintro e w2 ⟨rfl, hb2⟩; have d0 := (hb2.cell (p := ⟨wr.heap.size, 0, none⟩) hz).trans c0; have d1 := (hb2.cell (p := ⟨wr.heap.size, 1, none⟩) hz).trans c1))
        all_goals
          go_wp2_with fail
          go_roundg (l.length - (k + 1))
          case measure => have := hE.out; omega
          case rel => exact ⟨k + 1, ao', n + 1, cap', by show _ = _; omega, by omega, by go_num, rfl, by show _ = _; have := HN.out; omega, HS3.out⟩
      · obtain rfl : k = l.length := by omega
        have htk : l.take l.length = l := List.take_length
        have hS := HS.out
        rw [htk] at hS
        have hlp : (l.map part).length = n := by rw [List.length_map, HN.out]
        have hll := joinN_length ((l.map part).map nums) 291 (fun x hx => by
          simp only [List.mem_map] at hx
          obtain ⟨_, ⟨y, hy, rfl⟩, rfl⟩ := hx
          rw [nums_length]
          obtain ⟨t, ht, he⟩ := List.mem_iff_getElem.1 hy
          have := HF.out t ht
          rw [getElem!_pos l t ht, he] at this
          exact part_size this.1 this.2.2)
        have hj := join_any wr _ (l.map part) hS.row (by
          refine Nat.le_trans hll ?_
          rw [List.length_map, List.length_map]
          omega) (by rw [List.length_map]; omega)
        have hmm : (l.map part).map nums = l.map partN := by rw [List.map_map]; rfl
        rw [hmm] at hj
        obtain ⟨T, hT⟩ : ∃ T, T = strN (showN l) := ⟨_, rfl⟩
        rw [show strN (joinN (l.map partN)) = T from hT.symm] at hj
        have HJ := Lib.hid hj
        have HT := Lib.hid hT
        have HBB := Lib.hid (le_below HB1.out hS.below)
        clear hj hT hll hlp hmm hS htk
        go_wp2_with (go_at_call 54; refine HJ.out.mono ?_; rintro e w2 ⟨rfl, hb2⟩)
        go_ret
        exact ⟨ret_str HT.out, le_below HBB.out hb2⟩
end Go.Proofs.Ytlolhbhanjhkbaa.Lab
