/-
  The walk of DiskSafe. Own text.
-/
import Derived.Test.YtanbmlikfhcpoaaDoorDSafeN
namespace Go.Proofs.YtanbmlikfhcpoaaDoor.Disk
open Go.RowKit Go Go.Proofs.YtanbmlikfhcpoaaDoor.Base Go.Proofs.YtanbmlikfhcpoaaDoor.Map

set_option maxRecDepth 100000 in
set_option maxHeartbeats 4000000 in
theorem safe_walk (w : World) (E : Nat → Addr) (he : Env w E) (h8 : 8 ≤ w.heap.size) (ao bo co : Option Addr) (ca cb cc : Nat) (texts more : List ByteArray) (data : List Int) (hT : TxAt w ao texts) (hM : TxAt w bo more) (hD : IntsAt w co data) (hdi : ∀ x ∈ data, inI x)
    (hwt : wtX texts + wtX more ≤ 1048576) (hdl : data.length ≤ 1048576) :
    Calls Tryd.prog 3 #[.slice ao texts.length ca, .slice bo more.length cb, .slice co data.length cc] w fun e w' => e = .returned (.bool true) ∧ Below w.heap.size w w' := by
  have l1 := wtX_length texts
  have l2 := wtX_length more
  have s1 := totX_le texts
  have s2 := totX_le more
  have hml : more.length ≤ 1048576 := by omega
  have hN : texts.length + more.length ≤ 1048576 := by omega
  have HSZ := Lib.hid fun (j : Nat) (hj : j < texts.length) => (show texts[j]!.size ≤ 1048576 by
    have hm : texts[j]! ∈ texts := by rw [getElem!_pos texts j hj]; exact List.getElem_mem _
    have := wtX_mem hm
    omega)
  have HSZ2 := Lib.hid (show wtX texts ≤ 1048576 by omega)
  have HE := Lib.hid he
  have H8 := Lib.hid h8
  have HT := Lib.hid hT
  have HM := Lib.hid hM
  have HD := Lib.hid hD
  have HDI := Lib.hid hdi
  have HTOT := Lib.hid (show totX (texts ++ more) ≤ 1048576 by rw [totX_append]; omega)
  have HTT2 := Lib.hid (show totX texts + totX more ≤ 1048576 by omega)
  have HW := Lib.hid (wakes_any w E he h8)
  have HNEW := Lib.hid fun W => new_any 67108864 W
  have hboth := fun (W : World) (hb : Below w.heap.size w W) => both (ca := ca) (cb := cb) hb (hT.below hb) (hM.below hb) hN
  have HL : Hid ((texts ++ more).length = texts.length + more.length) := List.length_append
  generalize texts ++ more = L at *
  generalize texts.length + more.length = N at *
  have HBOTH := Lib.hid hboth
  clear he h8 hT hM hD hdi l1 l2 s1 s2 hboth
  go_enter Tryd.func3, Tryd.ntmps3
  go_wp2_with (first
    | (go_at_call 4; ((with_reducible refine HW.out.mono ?_); rintro r w0 ⟨rfl, hb⟩; have B0 := Lib.hid hb; clear hb))
    | (go_at_call 5; ((with_reducible refine (HNEW.out _).mono ?_); rintro r w1 ⟨rfl, hd, hb⟩; obtain ⟨v1, wa, a2, c2, wb, p1, p2, p3, p4, p5⟩ := HBOTH.out _ (B0.out.trans (hb.mono B0.out.size)); have P1 := Lib.hid p1; have P2 := Lib.hid p2; have P5 := Lib.hid p5; have O1 := Lib.hid (((sf_new hd hb).below_trans p4).back B0.out); have B2 := Lib.hid p3; clear hd hb p1 p2 p3 p4 p5))
    | (at_builtin; refine Row.append_by rfl (.const (.slice none 0 0)) (.tmp 24) _ rfl _ _ rfl rfl P1.out ?_)
    | (at_builtin; refine Row.append_by rfl (.tmp 25) (.tmp 26) _ rfl _ _ rfl rfl P2.out ?_))
  go_loopg [8, 29] N (fun r q i wr => ∃ (k : Nat), Hid (k + r = N) ∧ k ≤ N ∧ i = .int .i64 (k : Int) ∧ q = .int .i64 ((totX (L.take k) : Nat) : Int) ∧ wr = wb)
  case atStart => exact ⟨0, Nat.zero_add _, Nat.zero_le _, rfl, rfl, rfl⟩
  case round =>
    obtain ⟨k, hE, hk, rfl, rfl, rfl⟩ := hrel
    by_cases hlt : k < N
    · obtain ⟨b, off, rfl, hbw, q0⟩ := P5.out k (by have := HL.out; omega)
      have e1 := totX_take (l := L) (k := k) (by have := HL.out; omega)
      have e2 := totX_part L (k + 1)
      have e3 := HTOT.out
      have E1 := Lib.hid e1
      generalize L[k]! = x at *
      generalize totX (L.take k) = t at *
      have hb1 : t + x.size ≤ 1048576 := by omega
      clear e1 e2 e3
      go_wp2_with fail
      go_roundg (N - (k + 1))
      case measure => have := hE.out; omega
      case rel => exact ⟨k + 1, by show _ = _; omega, by omega, by go_num, by rw [E1.out]; go_num, rfl⟩
    · obtain rfl : k = N := by omega
      have HMK := Lib.hid (sf_mkdir (P := madeP texts) (by decide) HE.out H8.out O1.out)
      go_wp2_with (go_at_call 6; refine HMK.out.mono ?_; rintro r w2 ⟨rfl, G2, hO, hV, hF⟩; have A2 : Hid (Making w w2 w0.heap.size texts 0 G2) := ⟨hO, hV, hF⟩; clear hO hV hF)
      clear hlt hk hE
      obtain ⟨n, hn, hn26, hnt⟩ : ∃ n : Nat, (min (texts.length : Int) 26) = (n : Int) ∧ n ≤ 26 ∧ n ≤ texts.length := ⟨min texts.length 26, by omega, by omega, by omega⟩
      rw [hn]
      clear hn
      go_loopg [51] n (fun r i wr => ∃ (k : Nat) (G : DiskG), Hid (k + r = n) ∧ k ≤ n ∧ i = .int .i64 (k : Int) ∧ Hid (Making w wr w0.heap.size texts k G))
      case atStart => exact ⟨0, G2, Nat.zero_add _, Nat.zero_le _, rfl, A2.out⟩
      case round =>
        clear P1 P2 P5 O1 B2 HBOTH HMK A2
        obtain ⟨k, G, hE, hk, rfl, A3⟩ := hrel
        by_cases hlt : k < n
        · have hk26 : k < 26 := by omega
          have hc := nm_conv wr k
          rw [show ((97 + k : Nat) : Int) = 97 + (k : Int) by omega] at hc
          obtain ⟨b, off, rfl, hbw, q0⟩ := HT.out k (by omega)
          have hx := HSZ.out k (by omega)
          have H1 := Lib.hid fun (W : World) (hb : Below wr.heap.size wr W) => mk_create HE.out H8.out A3.out hb hk26
          have H2 := Lib.hid fun (W : World) (G : DiskG) (A : Empty1 w W w0.heap.size texts k G) => mk_append HE.out A hk26 (by omega) HSZ2.out
          have H3 := Lib.hid fun (W : World) (G : DiskG) (A : Full1 w W w0.heap.size texts k G) => mk_sync HE.out A hk26
          have Q0 := Lib.hid q0
          generalize texts[k]! = x at *
          clear q0
          go_wp2_with (first
            | (go_at_call 7; ((with_reducible refine (H1.out _ (below_alloc _ _)).mono ?_); rintro r w3 ⟨rfl, G3, hA⟩; have q3 := (hA.own.below.cell (p := ⟨b, off + k, none⟩) hbw).trans Q0.out; have A4 := Lib.hid hA; clear hA))
            | (go_at_call 8; ((with_reducible refine (H2.out _ _ A4.out).mono ?_); rintro r w4 ⟨rfl, G4, hA⟩; have A5 := Lib.hid hA; clear hA))
            | (go_at_call 9; ((with_reducible refine (H3.out _ _ A5.out).mono ?_); rintro r w5 ⟨rfl, G5, hA⟩; have A6 := Lib.hid hA; clear hA)))
          go_roundg (n - (k + 1))
          case measure => have := hE.out; omega
          case rel => exact ⟨k + 1, G5, by show _ = _; omega, by omega, by go_num, A6.out⟩
        · obtain rfl : n = k := by omega
          clear hlt hk hE
          have HNM := Lib.hid (mk_names HE.out H8.out A3.out hn26 hnt)
          go_wp2_with (go_at_call 10; ((with_reducible refine HNM.out.mono ?_); rintro r w3 ⟨rfl, G3, hA⟩; have A4 := Lib.hid hA; clear hA))
          go_loopg [87] more.length (fun r i wr => ∃ (k t : Nat) (G : DiskG), Hid (k + r = more.length) ∧ k ≤ more.length ∧ i = .int .i64 (k : Int) ∧ Hid (t ≤ totX (texts.take n) + totX (more.take k)) ∧ Hid (Adding w wr w0.heap.size texts n t G))
          case atStart => exact ⟨0, _, G3, Nat.zero_add _, Nat.zero_le _, rfl, Nat.le_add_right _ _, A4.out⟩
          case round =>
            clear HNM A4 A3
            obtain ⟨k, t, G, hE, hk, rfl, HTT, A5⟩ := hrel
            by_cases hlt : k < more.length
            · obtain ⟨b, off, rfl, hbw, q0⟩ := HM.out k hlt
              have e1 := totX_take hlt
              have e2 := totX_part more (k + 1)
              have e3 := totX_part texts n
              have e4 := HTT2.out
              have e5 := HTT.out
              have E1 := Lib.hid e1
              have HB1 := Lib.hid (show t + more[k]!.size ≤ 1048576 by omega)
              have Q0 := Lib.hid ((A5.out.own.below.cell (p := ⟨b, off + k, none⟩) hbw).trans q0)
              generalize more[k]! = x at *
              clear e1 e2 e3 e4 e5 q0
              have q1 := Q0.out
              by_cases hz : n = 0
              · subst hz
                go_wp2_with fail
                go_roundg (more.length - (k + 1))
                case measure => have := hE.out; omega
                case rel => exact ⟨k + 1, t, G, by show _ = _; omega, by omega, by go_num, by show _ ≤ _; have := HTT.out; rw [E1.out]; omega, A5.out⟩
              · have hn0 : 0 < n := by omega
                obtain ⟨q, hq, hqn⟩ : ∃ q : Nat, (k : Int) % (n : Int) = (q : Int) ∧ q < n := ⟨k % n, by omega, Nat.mod_lt _ hn0⟩
                have hc := nm_conv wr q
                rw [show ((97 + q : Nat) : Int) = 97 + (q : Int) by omega] at hc
                have h1 := ad_append HE.out (A5.out.kept (below_alloc wr (.cells #[.int .u8 (97 + (q : Int))] 5))) hn26 hqn x HB1.out
                rw [World.size_alloc] at h1
                have H1 := Lib.hid h1
                clear h1
                go_wp2_with (go_at_call 8; ((with_reducible refine H1.out.mono ?_); rintro r w4 ⟨rfl, G4, hA⟩; have A6 := Lib.hid hA; clear hA))
                go_roundg (more.length - (k + 1))
                case measure => have := hE.out; omega
                case rel => exact ⟨k + 1, t + x.size, G4, by show _ = _; omega, by omega, by go_num, by show _ ≤ _; have := HTT.out; rw [E1.out]; omega, A6.out⟩
            · obtain ⟨MN, hMN⟩ : ∃ q : Nat, k = q := ⟨k, rfl⟩
              have hkm : k = more.length := by omega
              have hle : t ≤ 1048576 := by
                have e2 := totX_part more k
                have e3 := totX_part texts n
                have e4 := HTT2.out
                have e5 := HTT.out
                omega
              obtain ⟨v1, wa, p1, p2, p3⟩ := copied (ca := cc) (HD.out.below A5.out.own.below) hdl
              have H1 := Lib.hid fun (z : Bool) => ad_restart HE.out H8.out (A5.out.kept p3) hn26 hle data v1 p2 hdl HDI.out z
              have P1 := Lib.hid p1
              clear p1 p2 p3 MN hMN
              go_wp2_with (first
                | (at_builtin; refine Row.append_by rfl (.const (.slice none 0 0)) (.tmp 111) _ rfl _ _ rfl rfl P1.out ?_)
                | (go_at_call 11; ((with_reducible refine (H1.out _).mono ?_); rintro r w4 ⟨rfl, G4, hA⟩; have A6 := Lib.hid hA; clear hA)))
              clear P1 H1 A5 HTT hlt hk hE hle hkm
              go_loopg [119] n (fun r i wr => ∃ (k : Nat), Hid (k + r = n) ∧ k ≤ n ∧ i = .int .i64 (k : Int) ∧ Hid (Reading w wr w0.heap.size texts n G4))
              case atStart => exact ⟨0, Nat.zero_add _, Nat.zero_le _, rfl, A6.out⟩
              case round =>
                clear A6
                obtain ⟨k, hE, hk, rfl, A7⟩ := hrel
                by_cases hlt : k < n
                · obtain ⟨b, off, rfl, hbw, q0⟩ := HT.out k (by omega)
                  have hc := nm_conv wr k
                  rw [show ((97 + k : Nat) : Int) = 97 + (k : Int) by omega] at hc
                  have hx := HSZ.out k (by omega)
                  have hkt : k < texts.length := by omega
                  have H1 := Lib.hid fun (W : World) (hb : Below wr.heap.size wr W) => rd_all HE.out (A7.out.kept hb) hn26 hlt
                  have Q0 := Lib.hid q0
                  generalize texts[k]! = x at *
                  clear q0
                  go_wp2_with (go_at_call 12; ((with_reducible refine (H1.out _ (below_alloc _ _)).mono ?_); rintro r w5 ⟨s, rfl, hA, hs1, hs2⟩; have q3 := (hA.own.below.cell (p := ⟨b, off + k, none⟩) hbw).trans Q0.out; have A8 := Lib.hid hA; clear hA))
                  have e1 := Go.Proofs.YtanbmlikfhcpoaaDoor.Lab.str_eq (a := x) rfl
                  go_quiet (fail)
                  go_wp2_with fail
                  go_roundg (n - (k + 1))
                  case measure => have := hE.out; omega
                  case rel => exact ⟨k + 1, by show _ = _; omega, by omega, by go_num, A8.out.kept ((Below.refl _ _).drewN _)⟩
                · obtain rfl : n = k := by omega
                  clear hlt hk hE
                  have H1 := Lib.hid (rd_list HE.out A7.out hn26)
                  go_wp2_with (first
                    | (go_at_call 13; ((with_reducible refine H1.out.mono ?_); rintro r w5 ⟨la, lc, rfl, hA⟩; have A8 := Lib.hid hA; have O8 := Lib.hid (rd_off hA); clear hA))
                    | (go_at_call 14; ((with_reducible refine O8.out.mono ?_); rintro r w6 ⟨rfl, rfl⟩)))
                  go_ret
                  exact ⟨by first | rfl | exact ret_bool (by simp), A8.out.own.below⟩

end Go.Proofs.YtanbmlikfhcpoaaDoor.Disk
