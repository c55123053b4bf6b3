/-
The walk of SymbolsBack. Own text.
  The walk of SymbolsBack: the law itself. Own text.
-/
import Derived.Test.YtcpkogboaniehaaSWalk4
import Derived.Test.YtcpkogboaniehaaSDec
import Derived.Test.YtcpkogboaniehaaSUnp3
namespace Go.Proofs.Ytcpkogboaniehaa.Sym
open Go.RowKit Go Go.Proofs.Ytcpkogboaniehaa.Base Go.Proofs.Ytcpkogboaniehaa.Lab Go.Shelf Go.Sort Go.Proofs.Ytcpkogboaniehaa.Enc

theorem labs_info : (Try.prog.info? 38).map (fun i => (i.zero, i.size, i.bytes)) = some (some (.slice none 0 0), 1, 24) := by kernel_rfl

/-- a row of one's own of lists that came in -/
structure Fit (w wr : World) (so : Option Addr) (n cap : Nat) (vs : List Value) (sets : List (List Lab)) : Prop where
  below : Below w.heap.size w wr
  row : wr.ownsRow 0 38 1 (.slice so n cap) n vs
  new : ∀ k, (Value.slice so n cap).ownBlock = some k → w.heap.size ≤ k
  len : sets.length = n
  each : ∀ i, i < n → ∃ lo cl, vs[i]? = some (.slice lo sets[i]!.length cl) ∧ sets[i]!.length ≤ cl ∧ LabsAt w lo sets[i]!
theorem Fit.sets {w wr : World} {so : Option Addr} {n cap : Nat} {vs : List Value} {sets : List (List Lab)} (h : Fit w wr so n cap vs sets) : SetsAt wr so sets := fun k hk => by
  have hlen := h.len
  obtain ⟨lo, cl, h1, h2, h3⟩ := h.each k (by omega)
  rcases h.row.2 with ⟨e, h0⟩ | ⟨g, c, cur, e, _, k2, k3, k4, k5, k6⟩
  · omega
  · injection e with e1 _ e2
    subst e1 e2
    refine ⟨g, 0, rfl, (Array.getElem?_eq_some_iff.1 k2).1, lo, cl, ?_, h2, h3.below h.below (Nat.le_refl _)⟩
    rw [← k6, Nat.mul_one, List.getElem?_take_of_lt (by omega), Array.getElem?_toList] at h1
    simp only [World.cell?, k2, Nat.zero_add]
    simp only [Option.isSome_none, Bool.false_eq_true, if_false]
    exact h1
theorem Fit.kept {w wr W : World} {so : Option Addr} {n cap : Nat} {vs : List Value} {sets : List (List Lab)} (h : Fit w wr so n cap vs sets) (hb : Below wr.heap.size wr W) : Fit w W so n cap vs sets :=
  ⟨le_below h.below hb, own_kept h.row hb, h.new, h.len, h.each⟩
theorem Fit.add {w wr : World} {so : Option Addr} {n cap : Nat} {vs : List Value} {sets : List (List Lab)} (h : Fit w wr so n cap vs sets) {lo : Option Addr} {cl : Nat} {l : List Lab}
    (hcl : l.length ≤ cl) (hL : LabsAt w lo l) (hn : (n + 1) * 24 ≤ 140737488355328) :
    ∃ so' cap' w' vs', (Builtin.append_ #[36, 36] 36 #[.slice so n cap, .slice (some ⟨wr.heap.size, 0, none⟩) 1 1]).run Try.prog (wr.alloc (.cells #[.slice lo l.length cl] 38)) = .ok (.slice so' (n + 1) cap') w' ∧ Fit w w' so' (n + 1) cap' vs' (sets ++ [l]) := by
  obtain ⟨so', cap', w', h1, h2, h3, h4⟩ := row_add Try.underlying36 labs_info h.row (.slice lo l.length cl) rfl hn
  have hlen := h.len
  have hbW : Below w.heap.size w (wr.alloc (.cells #[.slice lo l.length cl] 38)) := le_below h.below (below_alloc _ _)
  refine ⟨so', cap', w', vs ++ [.slice lo l.length cl], h1, hbW.grown h3 hbW.size h.new, h2, fun k hk => ?_, by rw [List.length_append, hlen]; rfl, fun i hi => ?_⟩
  · rcases h4 with e | e
    · exact h.new k (by rw [← e]; exact hk)
    · rw [hk] at e
      injection e with e
      have := h.below.size
      omega
  · have hvl : vs.length = n := by have := h.row.1; omega
    rcases Nat.lt_or_ge i n with hlt | hge
    · obtain ⟨lo3, cl3, p1, p2, p3⟩ := h.each i hlt
      have e : (sets ++ [l])[i]! = sets[i]! := by
        rw [getElem!_pos (sets ++ [l]) i (by rw [List.length_append]; omega), getElem!_pos sets i (by omega), List.getElem_append_left (by omega)]
      rw [e]
      exact ⟨lo3, cl3, by rw [List.getElem?_append_left (by omega)]; exact p1, p2, p3⟩
    · obtain rfl : i = n := by omega
      have e : (sets ++ [l])[i]! = l := by
        rw [getElem!_pos (sets ++ [l]) i (by rw [List.length_append, hlen]; simp), List.getElem_append_right (by omega)]
        simp [hlen]
      rw [e]
      exact ⟨lo, cl, by rw [List.getElem?_append_right (by omega), hvl, Nat.sub_self]; rfl, hcl, hL⟩

/-! ### what is packed one behind the other -/

def allK (T : List ByteArray) (F : List (List Lab)) : Nat → ByteArray
  | 0 => ByteArray.empty
  | k + 1 => allK T F k ++ (pkS T F[k]!).1
theorem allK_more (T : List ByteArray) (F : List (List Lab)) (k : Nat) : ∀ n, k ≤ n → ∃ X, nums (allK T F n) = nums (allK T F k) ++ X
  | 0, h => by obtain rfl : k = 0 := by omega
               exact ⟨[], by simp⟩
  | n + 1, h => by
    rcases Nat.lt_or_ge k (n + 1) with h1 | h1
    · obtain ⟨X, hX⟩ := allK_more T F k n (by omega)
      exact ⟨X ++ nums (pkS T F[n]!).1, by rw [allK, nums_append, hX, List.append_assoc]⟩
    · obtain rfl : k = n + 1 := by omega
      exact ⟨[], by simp⟩
theorem allK_piece (T : List ByteArray) (F : List (List Lab)) (k : Nat) (h : k < F.length) : ∃ R, Piece (allK T F F.length) (allK T F k).size (nums (pkS T F[k]!).1) R := by
  obtain ⟨X, hX⟩ := allK_more T F (k + 1) F.length h
  rw [allK, nums_append, List.append_assoc] at hX
  refine ⟨X, ?_, ?_⟩
  · rw [← nums_length, ← nums_length, hX, List.length_append]; omega
  · rw [hX, ← nums_length, List.drop_left]
theorem pkAux_size (T : List ByteArray) : ∀ (r : List Lab) (acc : ByteArray), (pkAux T r acc).1.size ≤ acc.size + 20 * r.length
  | [], acc => by simp [pkAux]
  | x :: r, acc => by
    rw [pkAux]
    split
    · show 0 ≤ _; omega
    · have h1 := pkAux_size T r (acc ++ uintS (numS T x.n) ++ uintS (numS T x.v))
      have h2 := uintS_size (numS T x.n)
      have h3 := uintS_size (numS T x.v)
      rw [ByteArray.size_append, ByteArray.size_append] at h1
      simp only [List.length_cons]
      omega
theorem pkS_size (T : List ByteArray) (l : List Lab) : (pkS T l).1.size ≤ 170 := by
  unfold pkS
  split
  · show 0 ≤ _; omega
  · rename_i h
    have h8 := (chk_zero_len (set_chk (l := l) (by omega))).2
    have h1 := pkAux_size T l (uintS l.length)
    have h2 := uintS_size l.length
    omega
theorem allK_size (T : List ByteArray) (F : List (List Lab)) : ∀ k, (allK T F k).size ≤ 170 * k
  | 0 => Nat.le_refl _
  | k + 1 => by
    have := allK_size T F k
    have := pkS_size T F[k]!
    rw [allK, ByteArray.size_append]
    omega
theorem tabK_size (T : List ByteArray) (h : ∀ x ∈ T, x.size ≤ 64) : ∀ k, k ≤ T.length → (tabK T k).size ≤ 10 + 74 * k
  | 0, _ => by have := uintS_size T.length; unfold tabK; omega
  | k + 1, hk => by
    have h1 := tabK_size T h k (by omega)
    have h2 := h T[k]! (by rw [getElem!_pos T k (by omega)]; exact List.getElem_mem _)
    have h3 := textS_size T[k]!
    rw [tabK_succ, ByteArray.size_append]
    omega

/-! ### the sets among the lists -/

def fitS (sets : List (List Lab)) : List (List Lab) := sets.filter validB
theorem fit_step (sets : List (List Lab)) (k : Nat) (h : k < sets.length) : fitS (sets.take (k + 1)) = if validB sets[k]! = true then fitS (sets.take k) ++ [sets[k]!] else fitS (sets.take k) := by
  rw [List.take_succ_eq_append_getElem h, getElem!_pos sets k h]
  unfold fitS
  rw [List.filter_append, List.filter_cons, List.filter_nil]
  split <;> simp
theorem fit_wt : ∀ sets : List (List Lab), wtS (fitS sets) ≤ wtS sets
  | [] => Nat.le_refl _
  | l :: r => by
    have := fit_wt r
    unfold fitS at *
    rw [List.filter_cons]
    split <;> simp only [wtS] <;> omega
theorem fit_set {sets : List (List Lab)} {l : List Lab} (h : l ∈ fitS sets) : setE l = 0 := by
  have := (List.mem_filter.1 h).2
  exact of_decide_eq_true this
theorem flat_mem {F : List (List Lab)} {l : List Lab} {x : Lab} (hl : l ∈ F) (hx : x ∈ l) : x.n ∈ flat F ∧ x.v ∈ flat F := by
  unfold flat flatL
  constructor
  · exact List.mem_flatMap.2 ⟨l, hl, List.mem_flatMap.2 ⟨x, hx, by simp⟩⟩
  · exact List.mem_flatMap.2 ⟨l, hl, List.mem_flatMap.2 ⟨x, hx, by simp⟩⟩
theorem flat_sizes {F : List (List Lab)} (h : ∀ l ∈ F, setE l = 0) : ∀ y ∈ flat F, y.size ≤ 64 := by
  intro y hy
  unfold flat flatL at hy
  obtain ⟨l, hl, hy⟩ := List.mem_flatMap.1 hy
  obtain ⟨x, hx, hy⟩ := List.mem_flatMap.1 hy
  have hf := ((chk_zero l).1 (set_chk (h l hl))).2.2.1 x hx
  obtain ⟨n1, n2⟩ := labE_fit hf
  have s1 := fitN_size n1
  have s2 := fitV_size n2
  simp at hy
  rcases hy with rfl | rfl <;> omega

end Go.Proofs.Ytcpkogboaniehaa.Sym
namespace Go.Proofs.Ytcpkogboaniehaa.Sym
open Go.RowKit Go Go.Proofs.Ytcpkogboaniehaa.Base Go.Proofs.Ytcpkogboaniehaa.Lab Go.Shelf Go.Sort Go.Proofs.Ytcpkogboaniehaa.Enc

set_option maxRecDepth 100000 in
set_option maxHeartbeats 8000000 in
theorem back_walk (ao : Option Addr) (cap : Nat) (sets : List (List Lab)) (w : World) (hS : SetsAt w ao sets) (hwt : wtS sets ≤ 1048576) :
    Calls Try.prog 6 #[.slice ao sets.length cap] w fun e w' => e = .returned (.bool true) ∧ Below w.heap.size w w' := by
  have hn := (by have := wtS_flat sets; omega : sets.length ≤ 1048576)
  have hml : ∀ k, k < sets.length → sets[k]!.length ≤ 1048576 := fun k hk => by
    have hm : sets[k]! ∈ sets := by rw [getElem!_pos sets k hk]; exact List.getElem_mem _
    have := wtS_mem hm
    have := wtL_length sets[k]!
    omega
  obtain ⟨F, hF⟩ : ∃ F, fitS sets = F := ⟨_, rfl⟩
  have hset : ∀ l ∈ F, setE l = 0 := fun l hl => fit_set (by rw [hF]; exact hl)
  have hwF : wtS F ≤ 1048576 := by rw [← hF]; have := fit_wt sets; omega
  have hfl := wtS_flat F
  obtain ⟨T, hT⟩ : ∃ T, tab (flat F) = T := ⟨_, rfl⟩
  have hr : Ris T := by rw [← hT]; exact ris_tab _
  have hTl : T.length ≤ 1048576 := by rw [← hT]; have := tab_length (flat F); omega
  have hTz : ∀ x ∈ T, x.size ≤ 64 := fun x hx => flat_sizes hset x ((mem_tab x _).1 (by rw [hT]; exact hx))
  have hin : ∀ l ∈ F, ∀ x ∈ l, numE T x.n = 0 ∧ numE T x.v = 0 := fun l hl x hx => by
    obtain ⟨m1, m2⟩ := flat_mem hl hx
    exact ⟨(numE_mem hr (by rw [← hT]; exact (mem_tab _ _).2 m1)).1, (numE_mem hr (by rw [← hT]; exact (mem_tab _ _).2 m2)).1⟩
  have hes : (encT T).size ≤ 10 + 74 * T.length := tabK_size T hTz T.length (Nat.le_refl _)
  have hdt := dtS_back hr (fun x hx => by have := hTz x hx; omega) (by omega)
  have hF8 : ∀ k, k < F.length → F[k]!.length ≤ 8 ∧ setE F[k]! = 0 := fun k hk => by
    have hm : F[k]! ∈ F := by rw [getElem!_pos F k hk]; exact List.getElem_mem _
    have h0 := hset _ hm
    exact ⟨(chk_zero_len (set_chk h0)).2, h0⟩
  have hback : ∀ k, k < F.length → (pkS T F[k]!).2 = 0 ∧ upS T (allK T F F.length) ((allK T F k).size : Int) = (F[k]!, (allK T F k).size + (pkS T F[k]!).1.size, 0) := fun k hk => by
    have hm : F[k]! ∈ F := by rw [getElem!_pos F k hk]; exact List.getElem_mem _
    obtain ⟨R, hR⟩ := allK_piece T F k hk
    exact upS_back (by omega) (hset _ hm) (hin _ hm) hR
  have haz := allK_size T F
  have h1 := fun (W : World) (x : Option Addr) (cx : Nat) (h : SetsAt W x F) => collect_any x cx F W (by omega) (by omega) h
  rw [hT] at h1
  have h2 := fun (W : World) (p : Value) (x : Option Addr) (cx : Nat) (h : TabAt W p T x cx) => encode_any W h (fun k hk => by have := hTz T[k]! (by rw [getElem!_pos T k hk]; exact List.getElem_mem _); omega) (by omega)
  have h3 := fun (W : World) => decode_any (encT T) 0 (by omega) W
  rw [hdt] at h3
  have h4 := fun (W : World) (p : Value) (x : Option Addr) (cx : Nat) (h : TabAt W p T x cx) => len_any W h
  have h5 := fun (W : World) (p : Value) (x : Option Addr) (cx : Nat) (h : TabAt W p T x cx) (k : Nat) (hk : k < F.length) (lo : Option Addr) (cl : Nat) (hc : F[k]!.length ≤ cl) (hL : LabsAt W lo F[k]!) => pack_any W h lo cl F[k]! (by have := (hF8 k hk).1; omega) hc hL
  have h6 := fun (W : World) (p : Value) (x : Option Addr) (cx : Nat) (h : TabAt W p T x cx) (a : Int) => unpack_any W h (allK T F F.length) a (by have := haz F.length; omega)
  have h7 := fun (W : World) (k : Nat) (hk : k < F.length) (x y : Option Addr) (cx cy : Nat) (hx : LabsAt W x F[k]!) (hy : LabsAt W y F[k]!) => Go.Proofs.Ytcpkogboaniehaa.Lab.compare_any x y cx cy F[k]! F[k]! W (by have := (hF8 k hk).1; omega) (by have := (hF8 k hk).1; omega) hx hy
  simp only [cmpL_ord.refl] at h7
  have hst := fun k hk => fit_step sets k hk
  have hfl2 : F.length ≤ 1048576 := by omega
  have HS := Lib.hid hS
  have H1 := Lib.hid h1
  have H2 := Lib.hid h2
  have H3 := Lib.hid h3
  have H4 := Lib.hid h4
  have H5 := Lib.hid h5
  have H6 := Lib.hid h6
  have H7 := Lib.hid h7
  have HW := Lib.hid wakes_any
  have HML := Lib.hid hml
  have HN := Lib.hid hn
  have HST := Lib.hid hst
  have HF := Lib.hid hF
  have HF8 := Lib.hid hF8
  have HBACK := Lib.hid hback
  have HAZ := Lib.hid haz
  have HFL := Lib.hid hfl2
  have HTL := Lib.hid hTl
  clear hS h1 h2 h3 h4 h5 h6 h7 hml hn hst hF hset hwF hfl hr hTl hTz hin hes hdt hF8 hback haz hwt hfl2 hT
  go_enter Try.func6, Try.ntmps6
  go_wp2_with (go_at_call 14; ((with_reducible refine (HW.out _).mono ?_); rintro e w1 ⟨rfl, hb⟩; have B1 := Lib.hid hb; clear hb))
  go_loopg [3, 25] sets.length (fun r q i wr => ∃ (k n cap : Nat) (so : Option Addr) (vs : List Value), Hid (k + r = sets.length) ∧ k ≤ sets.length ∧ i = .int .i64 (k : Int) ∧ q = .slice so n cap ∧ Hid (n ≤ k) ∧ Hid (Fit w wr so n cap vs (fitS (sets.take k))))
  case atStart => exact ⟨0, 0, 0, none, [], Nat.zero_add _, Nat.zero_le _, rfl, rfl, Nat.le_refl _, by show Fit _ _ _ _ _ _ _; exact ⟨B1.out, World.ownsRow_nil _ _ _ _, fun k hk => (by cases hk), by simp [fitS], fun i hi => (by omega)⟩⟩
  case round =>
    obtain ⟨k, n, cap2, so, vs, hE, hk, rfl, rfl, HNK, HG⟩ := hrel
    have hG := HG.out
    have hn2 := HN.out
    by_cases hlt : k < sets.length
    · obtain ⟨b, off, rfl, hbw, lo, cl, q0, hcl, hLk⟩ := HS.out k hlt
      replace q0 := (hG.below.cell (p := ⟨b, off + k, none⟩) hbw).trans q0
      have hmk := HML.out k hlt
      have hv := Go.Proofs.Ytcpkogboaniehaa.Lab.valid_any lo cl sets[k]! wr (by omega) hcl (hLk.below hG.below (Nat.le_refl _))
      have hstk := HST.out k hlt
      have hadd := fun (W : World) (hb : Below wr.heap.size wr W) => (hG.kept hb).add hcl hLk (by have := HN.out; have := HNK.out; omega)
      have hkeep := fun (W : World) (hb : Below wr.heap.size wr W) => hG.kept hb
      generalize sets[k]! = M at *
      cases hval : validB M
      · rw [hval] at hv hstk
        rw [if_neg (by decide)] at hstk
        have HV := Lib.hid hv
        have HSTK := Lib.hid hstk
        have HKEEP := Lib.hid hkeep
        clear hv hstk hkeep hadd hG hLk hval
        go_wp2_with (go_at_call 24; ((with_reducible refine HV.out.mono ?_); rintro e w2 ⟨rfl, hb⟩; have HG2 := Lib.hid (HKEEP.out _ hb); clear hb))
        go_roundg (sets.length - (k + 1))
        case measure => have := hE.out; omega
        case rel => exact ⟨k + 1, n, cap2, so, vs, by show _ = _; omega, by omega, by go_num, rfl, by show _ ≤ _; have := HNK.out; omega, by show Fit _ _ _ _ _ _ _; rw [HSTK.out]; exact HG2.out⟩
      · rw [hval] at hv hstk
        rw [if_pos rfl] at hstk
        have HV := Lib.hid hv
        have HADD := Lib.hid hadd
        have HSTK := Lib.hid hstk
        clear hv hstk hkeep hadd hG hLk hval
        go_wp2_with (first
          | (go_at_call 24; ((with_reducible refine HV.out.mono ?_); rintro e w2 ⟨rfl, hb⟩; obtain ⟨so', cap', w', vs', hrun, hg⟩ := HADD.out _ hb; have HRun := Lib.hid hrun; have HG2 := Lib.hid hg; clear hrun hg hb))
          | (at_builtin; refine Row.append_by rfl (.tmp 31) (.tmp 33) _ rfl _ _ rfl rfl HRun.out ?_))
        go_roundg (sets.length - (k + 1))
        case measure => have := hE.out; omega
        case rel => exact ⟨k + 1, n + 1, cap', so', vs', by show _ = _; omega, by omega, by go_num, rfl, by show _ ≤ _; have := HNK.out; omega, by show Fit _ _ _ _ _ _ _; rw [HSTK.out]; exact HG2.out⟩
    · obtain rfl : k = sets.length := by omega
      rw [List.take_length, HF.out] at hG
      obtain rfl : n = F.length := hG.len.symm
      have HSR := Lib.hid hG.sets
      have B0 := Lib.hid hG.below
      have hFN := HFL.out
      have hTN := HTL.out
      clear hG hlt
      go_wp2_with (go_at_call 17; ((with_reducible refine (H1.out _ _ _ HSR.out).mono ?_); rintro e w2 ⟨p, rfl, hN⟩; obtain ⟨a2, c2, ht⟩ := hN.tab; have P2 := Lib.hid ht; have B2 := Lib.hid (le_below B0.out hN.below); have S2 := Lib.hid (HSR.out.below hN.below (Nat.le_refl _)); clear hN ht))
      go_wp2_with (go_at_call 25; ((with_reducible refine (H2.out _ _ _ _ P2.out).mono ?_); rintro e w3 ⟨rfl, hb⟩; have P3 := Lib.hid (P2.out.below hb (Nat.le_refl _)); have B3 := Lib.hid (le_below B2.out hb); have S3 := Lib.hid (S2.out.below hb (Nat.le_refl _)); clear hb))
      go_wp2_with (go_at_call 26; ((with_reducible refine (H3.out _).mono ?_); rintro e w4 ⟨pt, rfl, hd⟩; obtain ⟨a4, c4, ht⟩ := (hd.1 rfl).tab; have Q4 := Lib.hid ht; have P4 := Lib.hid (P3.out.below hd.2.2 (Nat.le_refl _)); have B4 := Lib.hid (le_below B3.out hd.2.2); have S4 := Lib.hid (S3.out.below hd.2.2 (Nat.le_refl _)); clear hd ht))
      go_wp2_with (first
        | (go_at_call 27; ((with_reducible refine (H4.out _ _ _ _ Q4.out).mono ?_); rintro e w5 ⟨rfl, rfl⟩))
        | (go_at_call 27; ((with_reducible refine (H4.out _ _ _ _ P4.out).mono ?_); rintro e w5 ⟨rfl, rfl⟩)))
      go_loopg [11, 63] F.length (fun r q i wr => ∃ (k : Nat) (A : ByteArray), Hid (k + r = F.length) ∧ k ≤ F.length ∧ i = .int .i64 (k : Int) ∧ q = .string A ∧ Hid (A = allK T F k) ∧ Hid (Below w4.heap.size w4 wr))
      case atStart => exact ⟨0, ByteArray.empty, Nat.zero_add _, Nat.zero_le _, rfl, rfl, rfl, Below.refl _ _⟩
      case round =>
        obtain ⟨k, A, hE2, hk2, rfl, rfl, HA, HB⟩ := hrel
        by_cases hlt2 : k < F.length
        · obtain ⟨b, off, rfl, hbw, lo, cl, q0, hcl, hLk⟩ := (S4.out.below HB.out (Nat.le_refl _)) k hlt2
          have h5 := H5.out wr pt a4 c4 (Q4.out.below HB.out (Nat.le_refl _)) k hlt2 lo cl hcl hLk
          rw [(HBACK.out k hlt2).1] at h5
          have hz1 := HAZ.out k
          rw [← HA.out] at hz1
          have hz2 := pkS_size T F[k]!
          have hnx : allK T F (k + 1) = allK T F k ++ (pkS T F[k]!).1 := rfl
          rw [← HA.out] at hnx
          generalize F[k]! = M at *
          generalize (pkS T M).1 = Pk at *
          have g1 : ¬ 9223372036854775807 < A.size + Pk.size := by omega
          have G5 := Lib.hid h5
          have HNX := Lib.hid hnx
          clear h5 hnx hLk hz1 hz2
          go_wp2_with (go_at_call 19; ((with_reducible refine G5.out.mono ?_); rintro e w6 ⟨rfl, hb⟩; have B6 := Lib.hid (le_below HB.out hb); clear hb))
          go_roundg (F.length - (k + 1))
          case measure => have := hE2.out; omega
          case rel => exact ⟨k + 1, A ++ Pk, by show _ = _; omega, by omega, by go_num, rfl, HNX.out.symm, B6.out⟩
        · obtain rfl : k = F.length := by omega
          have hA := HA.out
          subst hA
          clear hlt2 hk2
          have haz := HAZ.out F.length
          obtain ⟨ALL, hALL⟩ : ∃ ALL, allK T F F.length = ALL := ⟨_, rfl⟩
          rw [hALL] at haz ⊢
          have B7 := Lib.hid (le_below B4.out HB.out)
          have Q7 := Lib.hid (Q4.out.below HB.out (Nat.le_refl _))
          have S7 := Lib.hid (S4.out.below HB.out (Nat.le_refl _))
          have HALL := Lib.hid hALL
          have H62 := Lib.hid H6.out
          rw [hALL] at H62
          have HBK := Lib.hid HBACK.out
          rw [hALL] at HBK
          clear hALL HA HBACK H6
          go_wp2_with fail
          obtain ⟨wo, hwo⟩ : ∃ wo : World, wo = wr := ⟨_, rfl⟩
          subst hwo
          go_loopg [9, 81] F.length (fun r q i wr => ∃ (k a : Nat), Hid (k + r = F.length) ∧ k ≤ F.length ∧ i = .int .i64 (k : Int) ∧ q = .int .i64 (a : Int) ∧ Hid (a = (allK T F k).size) ∧ Hid (Below wo.heap.size wo wr))
          case atStart => exact ⟨0, 0, Nat.zero_add _, Nat.zero_le _, rfl, rfl, rfl, Below.refl _ _⟩
          case round =>
            obtain ⟨k, a, hE3, hk3, rfl, rfl, HAT, HB8⟩ := hrel
            by_cases hlt3 : k < F.length
            · obtain ⟨b, off, rfl, hbw, lo, cl, q0, hcl, hLk⟩ := (S7.out.below HB8.out (Nat.le_refl _)) k hlt3
              have h6 := H62.out wr pt a4 c4 (Q7.out.below HB8.out (Nat.le_refl _)) (a : Int)
              have hbk := (HBK.out k hlt3).2
              rw [← HAT.out] at hbk
              rw [hbk] at h6
              have hnx : (allK T F (k + 1)).size = a + (pkS T F[k]!).1.size := by rw [HAT.out, allK, ByteArray.size_append]
              have h7 := fun (W : World) x y cx cy hx hy => H7.out W k hlt3 x y cx cy hx hy
              generalize F[k]! = M at *
              generalize (pkS T M).1.size = d at *
              simp only at h6
              have G6 := Lib.hid h6
              have G7 := Lib.hid h7
              have HNX := Lib.hid hnx
              have HLK := Lib.hid hLk
              clear h6 h7 hnx hLk hbk
              go_wp2_with (first
                | (go_at_call 21; ((with_reducible refine G6.out.mono ?_); rintro e w9 ⟨v9, rfl, hrow⟩; obtain ⟨a9, c9, rfl, _, ht⟩ := hrow.labs; have L9 := Lib.hid ht; have M9 := Lib.hid (HLK.out.below hrow.below (Nat.le_refl _)); have B9 := Lib.hid (le_below HB8.out hrow.below); clear hrow ht))
                | (go_at_call 28; ((with_reducible refine (G7.out _ _ _ _ _ L9.out M9.out).mono ?_); rintro e w10 ⟨rfl, hb⟩; have B10 := Lib.hid (le_below B9.out hb); clear hb)))
              go_roundg (F.length - (k + 1))
              case measure => have := hE3.out; omega
              case rel => exact ⟨k + 1, a + d, by show _ = _; omega, by omega, by go_num, rfl, HNX.out.symm, B10.out⟩
            · obtain rfl : k = F.length := by omega
              have hat := HAT.out
              rw [HALL.out] at hat
              subst hat
              have B11 := Lib.hid (le_below B7.out HB8.out)
              go_wp2_with fail
              go_ret
              exact ⟨by first | rfl | exact ret_bool (by simp), B11.out⟩

end Go.Proofs.Ytcpkogboaniehaa.Sym
