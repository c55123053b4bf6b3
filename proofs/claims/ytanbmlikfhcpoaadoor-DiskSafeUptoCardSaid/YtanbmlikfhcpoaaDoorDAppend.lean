/-
  Append. Own text.
-/
import Derived.Test.YtanbmlikfhcpoaaDoorDSync
namespace Go.Proofs.YtanbmlikfhcpoaaDoor.Disk
open Go.RowKit Go Go.Proofs.YtanbmlikfhcpoaaDoor.Base Go.Proofs.YtanbmlikfhcpoaaDoor.Map

def appendCode (G : DiskG) (p : ByteArray) (n : Nat) : Nat :=
  if openCode G p ≠ 0 then openCode G p else if G.cap < G.used + n then 7 else if G.crash = 1 then 1 else 0
def Appended (G : DiskG) (p : ByteArray) (t : List Nat) (c : Nat) (G' : DiskG) : Prop :=
  (c ≠ 0 ∧ (G' = G ∨ (G.crash = 1 ∧ G' = { G with off := true }))) ∨
  (c = 0 ∧ ∃ i bv sv, fileOf G.gc p = some i ∧ G' = { DiskG.file { G with crash := G.crash - 1 } i ((pfAt G i).add t) bv sv with used := G.used + t.length })

set_option maxRecDepth 100000 in
set_option maxHeartbeats 4000000 in
theorem extend_any {w : World} {D : Nat} {G : DiskG} {E : Nat → Addr} (h : DiskAt w D G) (he : Env w E) (hn : NumsOk G) (hc : G.crash < 4611686018427387904) (p : ByteArray) (hp : p.size < 4294967281)
    (ao : Option Addr) (len cap : Nat) (ps : Nat → ByteArray) (hP : PartsAt w ao len ps) (hpo : ∀ b off, ao = some ⟨b, off, none⟩ → ¬ G.own D b) (hll : len < 1099511627776) (hT : (cat ps len).length < 1099511627776)
    (hcap : G.cap < 1099511627776) (hused : G.used < 1152921504606846976) (hfs : ∀ i, i < G.pfs.length → (pfAt G i).bytes.length < 549755813888 ∧ (pfAt G i).steps.length < 1099511627776 ∧ ∀ k r, (pfAt G i).steps.reverse = .add k :: r → k < 1099511627776) (hT2 : (cat ps len).length < 549755813888) :
    Calls Tryd.prog 19 #[.pointer (some ⟨D, 0, none⟩), .string p, .slice ao len cap] w fun r w' =>
      r = .returned (errV E (appendCode G p (cat ps len).length)) ∧ ∃ G', DiskAt w' D G' ∧ Turn (G.own D) w w' ∧ Appended G p (cat ps len) (appendCode G p (cat ps len).length) G' ∧ (∀ k, G'.own D k → G.own D k ∨ w.heap.size ≤ k) := by
  have ho := open_any h he p hp
  unfold appendCode
  by_cases hz : openCode G p = 0
  · obtain ⟨i, hfo, hv⟩ := open_file hz
    have hi := fileOf_lt hn hfo
    rw [hz, hv] at ho
    rw [if_neg (by omega)]
    have hst : ∀ n, Calls Tryd.prog 41 #[.pointer (some ⟨D, 0, none⟩)] (w.drewN n) fun e w' => e = .returned (errV E (stepCode G)) ∧ DiskAt w' D (ticked G) ∧ Turn (fun k => k = D) (w.drewN n) w' := fun n =>
      step_any (h.below ((Below.refl _ _).drewN n)) (he.turn (Turn.of_drew (S := fun _ => False) n) (fun _ _ h => h)) hc
    have c3 : ∀ n, (w.drewN n).cell? ⟨D, 3, none⟩ = some (.int .i64 (G.cap : Int)) := fun n => h.cell 3
    have c4 : ∀ n, (w.drewN n).cell? ⟨D, 4, none⟩ = some (.int .i64 (G.used : Int)) := fun n => h.cell 4
    have g7 : ∀ n, (w.drewN n).cell? ⟨5, 0, none⟩ = some (errV E 7) := fun n => he.space
    unfold errV at g7
    obtain ⟨T, hTT⟩ : ∃ T, (cat ps len).length = T := ⟨_, rfl⟩
    rw [hTT] at hT hT2 ⊢
    have HTT := Lib.hid hTT
    have HN := Lib.hid hn
    have Hi := Lib.hid hi
    have Hfo := Lib.hid hfo
    have HS := Lib.hid hst
    have HP := Lib.hid hP
    have HPO := Lib.hid hpo
    have HFS := Lib.hid hfs
    have HD := Lib.hid h
    have hsubi : IntKind.i64.wrap ((G.cap : Int) - (G.used : Int)) = (G.cap : Int) - (G.used : Int) := IntWalk.i64_in _ (by omega)
    unfold ptrV at ho
    obtain ⟨R, hR⟩ : ∃ R, (if G.cap < G.used + T then 7 else if G.crash = 1 then 1 else 0) = R := ⟨_, rfl⟩
    rw [hR]
    have HR := Lib.hid hR
    unfold errV at ho
    clear h he hn hp hfo hv hi hst hc hz hP hpo hfs hTT hR
    go_enter Tryd.func19, Tryd.ntmps19
    go_wp2_with (go_at_call 29; refine ho.mono ?_; rintro r w2 ⟨rfl, n, rfl⟩)
    go_loopg [24, 9] len (fun r i s wr => ∃ (j S : Nat), Hid (j + r = len) ∧ j ≤ len ∧ i = .int .i64 (j : Int) ∧ s = .int .i64 (S : Int) ∧ Hid (S = (cat ps j).length) ∧ wr = w.drewN n)
    case atStart => exact ⟨0, 0, Nat.zero_add _, Nat.zero_le _, rfl, rfl, rfl, rfl⟩
    case round =>
      obtain ⟨j, S, hE, hj, rfl, rfl, HSS, rfl⟩ := hrel
      by_cases hlt : j < len
      · obtain ⟨pb, off, rfl, hpb, hcell⟩ := HP.out j hlt
        have hcell' : (w.drewN n).cell? ⟨pb, off + j, none⟩ = some (.string (ps j)) := hcell
        have h3 : S + (ps j).size = (cat ps (j + 1)).length := by rw [HSS.out]; simp [cat, nums_length]
        have h4 := cat_len_le ps (j + 1) len hlt
        have h5 : S + (ps j).size ≤ T := by rw [h3, ← HTT.out]; exact h4
        obtain ⟨q, hq⟩ : ∃ q, q = ps j := ⟨_, rfl⟩
        rw [← hq] at hcell' h3 h5
        have H3 := Lib.hid h3
        clear hcell hq h3 h4
        go_wp2_with fail
        go_roundg (len - (j + 1))
        case measure => have := hE.out; omega
        case rel => exact ⟨j + 1, S + q.size, by show _ = _; omega, by omega, by go_num, by go_num, H3.out, rfl⟩
      · obtain rfl : j = len := by omega
        have hST : S = T := by rw [HSS.out, HTT.out]
        subst hST
        clear hlt hE hj HSS
        go_wp2_with fail
        go_quiet (fail)
        by_cases hsp : G.cap < G.used + S
        · have hspi : ((G.cap : Int) - (G.used : Int) < (S : Int)) := by omega
          have hr7 : R = 7 := by rw [← HR.out, if_pos hsp]
          subst hr7
          go_wp2
          go_ret
          exact ⟨rfl, G, HD.out.below ((Below.refl _ _).drewN (n + nq)), Turn.of_drew (n + nq), .inl ⟨by decide, .inl rfl⟩, fun k hk => .inl hk⟩
        · have hspi : ¬ ((G.cap : Int) - (G.used : Int) < (S : Int)) := by omega
          by_cases h1 : G.crash = 1
          · have hr1 : R = 1 := by rw [← HR.out, if_neg hsp, if_pos h1]
            have e1 : stepCode G = 1 := by unfold stepCode; rw [if_pos h1]
            have e2 : ticked G = { G with off := true } := by unfold ticked; rw [if_pos h1]
            rw [e1, e2] at HS
            subst hr1
            have H1 := Lib.hid h1
            unfold errV at HS
            clear h1 e1 e2
            go_wp2_with (go_at_call 41; ((refine (HS.out (n + nq)).mono ?_); rintro r w3 ⟨rfl, hd3, ht3⟩))
            go_ret
            exact ⟨rfl, _, hd3, (Turn.of_drew (n + nq)).trans ht3 (fun i _ hh => .inl hh), .inl ⟨by decide, .inr ⟨H1.out, rfl⟩⟩, fun k hk => .inl hk⟩
          · have hr0 : R = 0 := by rw [← HR.out, if_neg hsp, if_neg h1]
            have e1 : stepCode G = 0 := by unfold stepCode; rw [if_neg h1]
            have e2 : ticked G = { G with crash := G.crash - 1 } := by unfold ticked; rw [if_neg h1]
            rw [e1, e2] at HS
            subst hr0
            unfold errV at HS
            clear h1 e1 e2
            have hext : ∀ w3, DiskAt w3 D { G with crash := G.crash - 1 } → Turn (fun k => k = D) (w.drewN (n + nq)) w3 → Calls Tryd.prog 42 #[.pointer (some ⟨G.ptr i, 0, none⟩), .slice ao j cap] w3 fun r w4 => r = .returned (.tuple #[]) ∧ ∃ bv sv, ∃ G', G' = DiskG.file { G with crash := G.crash - 1 } i ((pfAt G i).add (cat ps j)) bv sv ∧ DiskAt w4 D G' ∧ Turn (fileOwn (G.ptr i) (G.bvs i) (G.svs i)) w3 w4 ∧ (∀ k, G'.own D k → G.own D k ∨ w.heap.size ≤ k) := fun w3 hd3 ht3 => by
              have hf3 := hd3.parts.files i Hi.out
              have hpf : G.pfs[i]'Hi.out = pfAt G i := pfAt_eq Hi.out
              simp only [hpf] at hf3
              obtain ⟨q1, q2, q3⟩ := HFS.out i Hi.out
              have hown3 : ∀ b off, ao = some ⟨b, off, none⟩ → ¬ fileOwn (G.ptr i) (G.bvs i) (G.svs i) b := fun b off hb hh => HPO.out b off hb (.inr (.inr (.inr (.inr (.inr ⟨i, Hi.out, hh⟩)))))
              have hP3 : PartsAt w3 ao j ps := fun q hq => by
                obtain ⟨pb, off, h1, h2, h3⟩ := HP.out q hq
                exact ⟨pb, off, h1, Nat.lt_of_lt_of_le h2 ht3.size, ht3.cell (w := w.drewN (n + nq)) h3 (fun hh => HPO.out pb off h1 (.inl hh))⟩
              refine (fileExtend_any (pfAt G i) (G.ptr i) (G.bvs i) (G.svs i) w3 hf3 ao j cap ps hP3 hown3 (by rw [HTT.out]; omega) q2 hll q3).mono fun r w4 hh => ?_
              obtain ⟨hr, bv, sv, hf4, ht4, hb, hs⟩ := hh
              have lb : locOk w3 (G.bvs i) bv := by rcases hb with hb | hb; exact .inl hb; exact .inr (.inr hb)
              have ls : locOk w3 (G.svs i) sv := by rcases hs with hs | hs; exact .inl hs; exact .inr (.inr hs)
              refine ⟨hr, bv, sv, _, rfl, hd3.filed Hi.out hf4 ht4 lb ls, ht4, fun k hk => ?_⟩
              rcases own_file Hi.out lb ls hk with h1 | h1
              · exact .inl h1
              · have := ht3.size; exact .inr (by simp at this; omega)
            have HX := Lib.hid hext
            clear hext
            have husum : wrap64 ((G.used : Int) + (S : Int)) = (G.used : Int) + (S : Int) := by simp only [wrap64]; omega
            go_wp2_with (first
              | (go_at_call 41; ((refine (HS.out (n + nq)).mono ?_); rintro r w3 ⟨rfl, hd3, ht3⟩))
              | (go_at_call 42; ((with_reducible refine (HX.out _ hd3 ht3).mono ?_); rintro r w4 ⟨rfl, bv, sv, G', hG', hd4, ht4, hnew⟩; have k4 : w4.cell? ⟨D, 4, none⟩ = some (.int .i64 (G.used : Int)) := (by (have := hd4.cell 4; subst hG'; exact this)); have f4 := hd4.fro 4; have HD4 := Lib.hid hd4; have HG' := Lib.hid hG'; clear hd4 hG')))
            go_ret
            have hset := HD4.out.set 4 (.int .i64 ((G.used : Int) + (S : Int))) { G' with used := G.used + S } (by have := HG'.out; subst this; simp [DiskG.cells, DiskG.file, topV]) (fun hp => hp.with rfl rfl rfl rfl rfl rfl rfl rfl)
            refine ⟨rfl, _, hset, ?_, .inr ⟨rfl, i, bv, sv, Hfo.out, by rw [HG'.out, HTT.out]⟩, fun k hk => hnew k hk⟩
            have t1 : Turn (G.own D) w w3 := (Turn.of_drew (n + nq)).trans ht3 (fun i _ hh => .inl hh)
            exact (t1.trans ht4 (fun k _ hh => .inr (.inr (.inr (.inr (.inr ⟨i, Hi.out, hh⟩)))))).set _ _ (fun _ => .inl rfl)
  · rw [if_pos hz]
    rw [open_none hz] at ho
    obtain ⟨c, hcc⟩ : ∃ c, openCode G p = c + 1 := ⟨openCode G p - 1, by omega⟩
    rw [hcc] at ho ⊢
    have HD := Lib.hid h
    unfold errV at ho ⊢
    clear h he hn hp hc hcc hz hP hpo hfs
    go_enter Tryd.func19, Tryd.ntmps19
    go_wp2_with (go_at_call 29; refine ho.mono ?_; rintro r w2 ⟨rfl, n, rfl⟩)
    go_ret
    exact ⟨rfl, G, HD.out.below ((Below.refl _ _).drewN n), Turn.of_drew n, .inl ⟨by omega, .inl rfl⟩, fun k hk => .inl hk⟩

theorem Append_any {w : World} {D : Nat} {G : DiskG} {E : Nat → Addr} (h : DiskAt w D G) (he : Env w E) (hn : NumsOk G) (hc : G.crash < 4611686018427387904) (p : ByteArray) (hp : p.size < 4294967281)
    (ao : Option Addr) (len cap : Nat) (ps : Nat → ByteArray) (hP : PartsAt w ao len ps) (hpo : ∀ b off, ao = some ⟨b, off, none⟩ → ¬ G.own D b) (hll : len < 1099511627776) (hT : (cat ps len).length < 549755813888)
    (hcap : G.cap < 1099511627776) (hused : G.used < 1152921504606846976) (hfs : ∀ i, i < G.pfs.length → (pfAt G i).bytes.length < 549755813888 ∧ (pfAt G i).steps.length < 1099511627776 ∧ ∀ k r, (pfAt G i).steps.reverse = .add k :: r → k < 1099511627776) :
    Calls Tryd.prog 8 #[.pointer (some ⟨D, 0, none⟩), .string p, .slice ao len cap] w fun r w' =>
      ∃ v G', r = .returned v ∧ ErrAt w' E v (appendCode G p (cat ps len).length) "append".toUTF8 p ∧ DiskAt w' D G' ∧ Turn (G.own D) w w' ∧ Appended G p (cat ps len) (appendCode G p (cat ps len).length) G' ∧ (∀ k, G'.own D k → G.own D k ∨ w.heap.size ≤ k) := by
  have h1 := extend_any h he hn hc p hp ao len cap ps hP hpo hll (by omega) hcap hused hfs hT
  have h2 := fun W => refused_err ⟨#[97, 112, 112, 101, 110, 100]⟩ p E (appendCode G p (cat ps len).length) W
  have H1 := Lib.hid h1
  have H2 := Lib.hid h2
  clear h he hn hc hp h1 h2 hP hpo hll hT hcap hused hfs
  go_enter Tryd.func8, Tryd.ntmps8
  go_wp2_with (first
    | (go_at_call 19; ((with_reducible refine H1.out.mono ?_); rintro r w2 ⟨rfl, G', hd, ht, hcr, hnew⟩))
    | (go_at_call 16; ((with_reducible refine (H2.out _).mono ?_); rintro r w3 ⟨v, rfl, hv, hb⟩)))
  go_ret
  exact ⟨_, G', rfl, hv, hd.below hb, ht.trans (Turn.of_below hb : Turn (fun _ => False) _ _) (fun _ _ h => h.elim), hcr, hnew⟩

end Go.Proofs.YtanbmlikfhcpoaaDoor.Disk
