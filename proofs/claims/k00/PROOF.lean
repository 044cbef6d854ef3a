import PyProof.Rows.All
import Wide.All
import OpenK.AllK
import Wide.FinOn
import KE.KExcIs
import HandS.ForMost
import HandS.Codes
import HandS.IsInst
import HandS.Zip
import HandS.Walk
import HandS.DictComp
import HandS.TupAny
import HandS.TupMul
import HandS.Exc
import HandS.TryOnly
import HandS.ExcOwn
import HandS.ExcInit
import HandS.ExcValue
import HandS.ExcIs
import HandS.OwnEq
import HandS.Style
import HandS.SetKeys
import HandS.SortKw
import HandS.Flow
import PySem.Challenge.RW_struckpieces_k00_errors_and_their_fields
set_option Elab.async false
set_option linter.all false
set_option maxRecDepth 100000
set_option maxHeartbeats 4000000
namespace Zq
open PySem PySem.Spec PyProof.Rows L2
def topS (i : Nat) : Stmt := PySem.Challenge.pw_struckpieces_k00_errors_and_their_fields.main.body.getD i (.Pass ⟨0, 0, 0, 0⟩)
/-! ### an own def, bundled -/
structure Own (P : Program) (w : World) (K : PySem.W.Frag) (mg : Str → Option Value) (base : Heap) (CX : CXT) (k : Nat) (x : Str) (ps : List Str) (sp : Sp) : Prop where
  ex : ∃ (f : Addr) (fd : FuncData), mg x = some (.ref f) ∧ PySem.W.keepIn K (.ref f) = true ∧ FnOk P w K mg base CX k f fd ps sp ∧ Binds K fd ps []
section
variable {X : Cx} {k k' : Nat} {x : Str} {ps : List Str} {sp : Sp} {e : Expr} {es : List Expr} {t : TA} {p pos : Pos}
theorem pe_own (C : Own X.prog X.w X.K X.mg X.base CX0 k x ps sp) (hr : Room k' X.A) (ha : PA X (e :: es) t) (hk : k ≤ k' := by first | decide | omega) (hg : Gl X x := by rfl)
    (hdb : (x == ("__debug__" : Str)) = false := by decide) (he : starEach (e :: es) X.env = (false, eval e X.env) :: starEach es X.env := by rfl) (hpl : (backTo pos (starEach es X.env)).any (·.1) = false := by rfl) :
    PE X (.Call (.Name x p) (e :: es) [] pos) (tCall sp [] E0 t) := by
  obtain ⟨f, fd, hm, kp, G, b⟩ := C.ex
  exact pe_call G (hr.mono hk) hg hm kp b .nil pass0 ha hdb he hpl
theorem pe_own0 (C : Own X.prog X.w X.K X.mg X.base CX0 k x ps sp) (hr : Room k' X.A) (hk : k ≤ k' := by first | decide | omega) (hg : Gl X x := by rfl)
    (hdb : (x == ("__debug__" : Str)) = false := by decide) :
    PE X (.Call (.Name x p) [] [] pos) (tCall sp [] E0 tNil) := by
  obtain ⟨f, fd, hm, kp, G, b⟩ := C.ex
  exact pe_call0 G (hr.mono hk) hg hm kp b .nil pass0 hdb
end
/-! ### the hand that draws -/
def IsHand (H : Hp) (h : Addr) : Prop := ∃ (c : Addr) (cells : List Int) (i d s k : Int),
  H h = some (.lst [.ref c, .int i, .int d, .int s, .int k]) ∧ H c = some (.lst (cells.map V.int)) ∧ 0 ≤ i
structure Go (h : Addr) (H H' : Hp) : Prop where
  hand : IsHand H' h
  keep : ∀ b o, b ≠ h → H b = some o → H' b = some o
theorem IsHand.ne0 {H : Hp} {h : Addr} (x : IsHand H h) : H h ≠ none := by
  obtain ⟨c, cells, i, d, s, k, e, _⟩ := x
  rw [e]
  exact fun z => nomatch z
theorem IsHand.nt {H : Hp} {h p : Addr} {xs : List V} (x : IsHand H h) (e : H p = some (.tup xs)) : p ≠ h := fun z => by
  obtain ⟨c, cells, i, d, s, k, e', _⟩ := x
  rw [← z, e] at e'
  cases e'
theorem Go.refl {h : Addr} {H : Hp} (x : IsHand H h) : Go h H H := ⟨x, fun _ _ _ e => e⟩
theorem Go.trans {h : Addr} {H H1 H2 : Hp} (a : Go h H H1) (b : Go h H1 H2) : Go h H H2 := ⟨b.hand, fun c o n e => b.keep c o n (a.keep c o n e)⟩
theorem Go.free {h p : Addr} {H H' : Hp} (a : Go h H H') (e : H' p = none) : H p = none := by
  cases q : H p with
  | none => rfl
  | some o =>
    by_cases z : p = h
    · subst z
      exact absurd e a.hand.ne0
    · rw [a.keep p o z q] at e
      cases e
theorem IsHand.ne {H : Hp} {h p : Addr} (x : IsHand H h) (e : H p = none) : p ≠ h := fun z => x.ne0 (z ▸ e)
theorem IsHand.upd {H : Hp} {h p : Addr} {o : HO} (x : IsHand H h) (e : H p = none) : IsHand (upd H p o) h := by
  obtain ⟨c, cells, i, d, s, k, e1, e2, e3⟩ := x
  exact ⟨c, cells, i, d, s, k, by rw [upd_ne (ne_of_none e1 e)]; exact e1, by rw [upd_ne (ne_of_none e2 e)]; exact e2, e3⟩
theorem Go.new {h p : Addr} {H : Hp} {o : HO} (x : IsHand H h) (e : H p = none) : Go h H (upd H p o) :=
  ⟨x.upd e, fun b u _ z => by rw [upd_ne (ne_of_none z e)]; exact z⟩
theorem Go.then_new {h p : Addr} {H H' : Hp} {o : HO} (a : Go h H H') (e : H' p = none) : Go h H (upd H' p o) := a.trans (Go.new a.hand e)
theorem Go.rd {h p : Addr} {H H' : Hp} {u : HO} (a : Go h H H') (n : p ≠ h) (e : Rd H p u) : Rd H' p u := by
  rcases e with e | ⟨o, e⟩
  · exact .inl (a.keep _ _ n e)
  · exact .inr ⟨o, a.keep _ _ n e⟩
section
variable {K : PySem.W.Frag}
theorem Go.sqL {h p : Addr} {H H' : Hp} {xs : List V} (a : Go h H H') (n : p ≠ h) (e : SqL K H p xs) : SqL K H' p xs := by
  rcases e with e | e
  · exact .inl (a.rd n e)
  · exact .inr e
theorem Go.sqT {h p : Addr} {H H' : Hp} {xs : List V} (a : Go h H H') (x : IsHand H h) (e : SqT K H p xs) : SqT K H' p xs := by
  rcases e with e | e
  · refine .inl (a.rd (fun z => ?_) e)
    obtain ⟨c, cells, i, d, s, k, e1, _⟩ := x
    rcases e with e | ⟨o, e⟩
    · rw [z, e1] at e
      cases e
    · rw [z, e1] at e
      cases e
  · exact .inr e
end
/-! ### the promises -/
def spHand (K : PySem.W.Frag) : Sp := fun vs H Q _ => ∃ (a : Addr) (ns : List Int), vs = [.ref a] ∧ SqL K H a (ns.map V.int) ∧ ns.length ≤ 100 ∧
  ∀ H' p, Same H H' → H p = none → IsHand H' p → Q (.ref p) H'
def spDraw : Sp := fun vs H Q _ => ∃ (h : Addr) (many : Int), vs = [.ref h, .int many] ∧ IsHand H h ∧ 0 < many ∧ many < 1073741824 ∧
  ∀ r H', 0 ≤ r → r < many → Go h H H' → Q (.int r) H'
structure Txt (mg : Str → Option Value) : Prop where
  nabs : mg "abs" = none
  nint : mg "int" = none
  nlen : mg "len" = none
  nrange : mg "range" = none
  nzip : mg "zip" = none
  nall : mg "all" = none
  nany : mg "any" = none
  nisinstance : mg "isinstance" = none
  ntuple : mg "tuple" = none
  nlist : mg "list" = none
  nstr : mg "str" = none
  nbool : mg "bool" = none
  ndict : mg "dict" = none
  nenumerate : mg "enumerate" = none
  nsorted : mg "sorted" = none
  nset : mg "set" = none
  nmax : mg "max" = none
  nmin : mg "min" = none
  nsum : mg "sum" = none
  nValueError : mg "ValueError" = none
section
variable {P : Program} {w : World} {K : PySem.W.Frag} {mg : Str → Option Value} {base : Heap}
abbrev sHand : Stmt := topS 33
abbrev NscHand : List Str := ["_law_script", "_law_cells", "_law_cell"]
theorem scHand : FnScope ["_law_script", "_law_cells", "_law_cell"] ["_law_script"] (defScope sHand) := ⟨rfl, rfl, rfl, by decide +kernel, rfl, by decide +kernel, by decide +kernel⟩
abbrev sDraw : Stmt := topS 34
abbrev NscDraw : List Str := ["_law_hand_here", "_law_many", "_law_number", "_law_cell", "_law_digit"]
theorem scDraw : FnScope ["_law_hand_here", "_law_many", "_law_number", "_law_cell", "_law_digit"] ["_law_hand_here", "_law_many"] (defScope sDraw) := ⟨rfl, rfl, rfl, by decide +kernel, rfl, by decide +kernel, by decide +kernel⟩
theorem int_at {ns : List Int} {i : Nat} {y : V} (h : (ns.map V.int)[i]? = some y) : ∃ z, y = V.int z := by
  rw [List.getElem?_map] at h
  cases e : ns[i]? with
  | none =>
    rw [e] at h
    cases h
  | some z =>
    rw [e] at h
    exact ⟨z, (Option.some.inj h).symm⟩
theorem cut63 (ns : List Int) : ∃ ms : List Int, cutV (ns.map V.int) none (some 63) = ms.map V.int ∧ ms.length ≤ ns.length := by
  unfold cutV
  rw [← List.map_drop, ← List.map_take]
  refine ⟨_, rfl, ?_⟩
  rw [List.length_take, List.length_drop]
  omega
theorem ok_hand {f : Addr} {fd : FuncData} (F : Fun K "_law_hand" "_law_hand" sHand f fd) (T : Txt mg) : FnOk P w K mg base CX0 1 f fd ["_law_script"] (spHand K) := by
  refine F.ok scHand (fun vs H Q E h => ?_) (fun cdv A outer s H vs Q E hr h => ?_)
  · obtain ⟨a, ns, rfl, _⟩ := h
    rfl
  · obtain ⟨a, ns, rfl, hS, hl, q⟩ := h
    refine ⟨_, (pss_cons (ps_setLc (i := 1) (own := [("_law_cell", 2)]) (by rfl) scHand.nd rfl rfl (sw_true rfl rfl rfl (by decide +kernel)) (pi_list (pe_slice sl_list (pv 0) po_none (po_some pe_int))) (blkOk_by (own := [("_law_cell", 2)]) (N := NscHand) (sc := defScope sHand) (by decide +kernel)) (fun _ _ _ _ _ => (pg_name (i := 2) scHand.nd rfl (Or.inl rfl))) (fun _ _ _ _ _ => pts_nil) (fun _ _ _ _ _ => (pe_callB call_abs (by rfl) T.nabs (by decide +kernel) (pa_cons (pe_callTy call_int1 (by rfl) T.nint (by decide +kernel) (pa_cons (pv 2) pa_nil)) pa_nil))))
      (pss_one (ps_ret (pe_lst (pa_cons (pv 1) (pa_cons pe_int (pa_cons pe_int (pa_cons (pe_op op_add pe_int (pe_callB call_len_seq (by rfl) T.nlen (by decide +kernel) (pa_cons (pv 1) pa_nil))) (pa_cons pe_int pa_nil))))))))), ?_⟩
    refine ⟨.ref a, rfl, 63, rfl, a, ns.map V.int, rfl, hS, fun c nc => ?_⟩
    obtain ⟨ms, ec, hm⟩ := cut63 ns
    rw [ec]
    refine ⟨c, rfl, ⟨_, .inl (.inl upd_same)⟩, fun D nD => lc_list (K := K) (a := c) (xs := ms.map V.int)
      (fun i H' => Same H H' ∧ H' c = some (.lst (ms.map V.int)) ∧ ∃ acc : List Int, H' D = some (.lst (acc.map V.int)) ∧ acc.length ≤ i) ?_ (fun i H' _ p => .inl (.inl p.2.1)) ?_ ?_⟩
    · have nDc : c ≠ D := fun z => by
        rw [← z, upd_same] at nD
        cases nD
      have nH : H D = none := by
        rw [upd_ne (Ne.symm nDc)] at nD
        exact nD
      refine ⟨fun b o e => ?_, by rw [upd_ne nDc, upd_same], [], upd_same, Nat.zero_le _⟩
      rw [upd_ne (ne_of_none e nH), upd_ne (ne_of_none e nc)]
      exact e
    · rintro i x H' hi ⟨sm, hc, acc, hD, ha⟩
      have hil : i < (ms.map V.int).length := (List.getElem?_eq_some_iff.mp hi).1
      rw [List.length_map] at hil
      obtain ⟨z, rfl⟩ := int_at hi
      refine ⟨rfl, ?_⟩
      refine ⟨.int z, rfl, .inl ⟨z, rfl, z, rfl, acc.map V.int, hD, ?_, ?_⟩⟩
      · rw [List.length_map]
        exact small1000 (by omega)
      · have nDc : c ≠ D := fun z => by
          rw [← z, upd_same] at nD
          cases nD
        have nH : H D = none := by
          rw [upd_ne (Ne.symm nDc)] at nD
          exact nD
        refine ⟨fun b o e => ?_, by rw [upd_ne nDc]; exact hc, acc ++ [if z < 0 then -z else z], by rw [upd_same, List.map_append]; rfl, ?_⟩
        · rw [upd_ne (ne_of_none e nH)]
          exact sm b o e
        · rw [List.length_append]
          show acc.length + 1 ≤ i + 1
          omega
    · rintro H' ⟨sm, hc, acc, hD, ha⟩
      have nH : H D = none := by
        have nDc : c ≠ D := fun z => by
          rw [← z, upd_same] at nD
          cases nD
        rw [upd_ne (Ne.symm nDc)] at nD
        exact nD
      refine ⟨.ref D, rfl, .ref D, rfl, D, _, rfl, .inl (.inl (.inl hD)), ?_⟩
      refine ⟨1, ((acc.map V.int).length : Int), rfl, rfl, ?_⟩
      refine ⟨(by show 5 ≤ sizeLine; decide), fun p np => ?_⟩
      refine q _ p (fun b o e => ?_) (sm.free np) ⟨D, acc, 0, 0, _, 0, upd_same, ?_, Int.le_refl 0⟩
      · rw [upd_ne (ne_of_none (sm b o e) np)]
        exact sm b o e
      · rw [upd_ne (ne_of_none hD np)]
        exact hD
/-! ### a list of five by its places -/
theorem at0 {a b c d e : V} : atI [a, b, c, d, e] 0 = some a := rfl
theorem at1 {a b c d e : V} : atI [a, b, c, d, e] 1 = some b := rfl
theorem at2 {a b c d e : V} : atI [a, b, c, d, e] 2 = some c := rfl
theorem at3 {a b c d e : V} : atI [a, b, c, d, e] 3 = some d := rfl
theorem at4 {a b c d e : V} : atI [a, b, c, d, e] 4 = some e := rfl
theorem ok_draw {f : Addr} {fd : FuncData} (F : Fun K "_law_draw" "_law_draw" sDraw f fd) (T : Txt mg) : FnOk P w K mg base CX0 1 f fd ["_law_hand_here", "_law_many"] spDraw := by
  refine F.ok scDraw (fun vs H Q E h => ?_) (fun cdv A outer s H vs Q E hr h => ?_)
  · obtain ⟨a, ns, rfl, _⟩ := h
    rfl
  · obtain ⟨h, many, rfl, ⟨c, cells, i, d, s, k, eh, ec, hi⟩, hm0, hm1, q⟩ := h
    refine ⟨_, (C8.pss_cut (ps_if (PW.pt (pw_and (pt_cmpR op_eq (pe_ix ix_list (pv 0) pe_int (fun _ _ => rfl)) pe_int (nomark _)) (pw_and1 (pt_cmpR op_lt (pe_ix ix_list (pv 0) pe_int (fun _ _ => rfl)) (pe_callB call_len_seq (by rfl) T.nlen (by decide +kernel) (pa_cons (pe_ix ix_list (pv 0) pe_int (fun _ _ => rfl)) pa_nil)) (nomark _))))) (pss_cons (ps_set (i := 3) scDraw.nd rfl (Or.inl rfl) (pe_ix ix_list (pe_ix ix_list (pv 0) pe_int (fun _ _ => rfl)) (pe_ix ix_list (pv 0) pe_int (fun _ _ => rfl)) (fun _ _ => rfl)))
        (pss_cons (ps_asg (pe_op op_add (pe_ix ix_list (pv 0) pe_int (fun _ _ => rfl)) pe_int) (pg_sub (pv 0) pe_int set_list))
        (pss_cons (ps_asg (pe_op op_modN (pe_callTy call_int1 (by rfl) T.nint (by decide +kernel) (pa_cons (pe_op op_add (pe_op op_add (pe_op op_mul (pe_ix ix_list (pv 0) pe_int (fun _ _ => rfl)) pe_int) (pv 3)) pe_int) pa_nil)) pe_int) (pg_sub (pv 0) pe_int set_list))
        (pss_one (ps_if (pt_cmpR op_ge (pv 3) (pe_op op_pow pe_int pe_int) (nomark _)) (pss_one (ps_asg (pv 3) (pg_sub (pv 0) pe_int set_list))) pss_nil))))) pss_nil)
      (pss_cons (ps_if (pt_cmpR op_gt (pe_ix ix_list (pv 0) pe_int (fun _ _ => rfl)) pe_int (nomark _)) (pss_cons (ps_set (i := 4) scDraw.nd rfl (Or.inl rfl) (pe_op op_modN (pe_callTy call_int1 (by rfl) T.nint (by decide +kernel) (pa_cons (pe_ix ix_list (pv 0) pe_int (fun _ _ => rfl)) pa_nil)) (pv 1)))
        (pss_cons (ps_asg (pe_op op_fdivN (pe_ix ix_list (pv 0) pe_int (fun _ _ => rfl)) (pv 1)) (pg_sub (pv 0) pe_int set_list))
        (pss_one (ps_ret (pv 4))))) pss_nil)
      (pss_cons (ps_asg (pe_op op_add (pe_ix ix_list (pv 0) pe_int (fun _ _ => rfl)) pe_int) (pg_sub (pv 0) pe_int set_list))
      (pss_cons (ps_set (i := 2) scDraw.nd rfl (Or.inl rfl) (pe_op op_modN (pe_callTy call_int1 (by rfl) T.nint (by decide +kernel) (pa_cons (pe_op op_mul (pe_callTy call_int1 (by rfl) T.nint (by decide +kernel) (pa_cons (pe_op op_add (pe_ix ix_list (pv 0) pe_int (fun _ _ => rfl)) (pe_op op_mul pe_int (pe_ix ix_list (pv 0) pe_int (fun _ _ => rfl)))) pa_nil)) pe_int) pa_nil)) pe_int))
      (pss_cons (ps_set (i := 2) scDraw.nd rfl (Or.inl rfl) (pe_op op_modN (pe_callTy call_int1 (by rfl) T.nint (by decide +kernel) (pa_cons (pe_op op_mul (pv 2) (pe_op op_add (pe_op op_fdivN (pv 2) pe_int) pe_int)) pa_nil)) pe_int))
      (pss_cons (ps_set (i := 2) scDraw.nd rfl (Or.inl rfl) (pe_op op_modN (pe_callTy call_int1 (by rfl) T.nint (by decide +kernel) (pa_cons (pe_op op_mul (pv 2) (pe_op op_add (pe_op op_fdivN (pv 2) pe_int) pe_int)) pa_nil)) pe_int))
      (pss_one (ps_ret (pe_op op_modN (pe_callTy call_int1 (by rfl) T.nint (by decide +kernel) (pa_cons (pe_op op_fdivN (pv 2) pe_int) pa_nil)) (pv 1)))))))))), ?_⟩
    have nch : c ≠ h := fun z => by
      rw [z, eh] at ec
      have := congrArg (fun o => match o with | some (HO.lst (.ref _ :: _)) => true | _ => false) ec
      cases cells <;> simp at this
    refine ⟨fun σ' H' => ∃ (i d s k : Int) (v3 : Option V), σ' = [some (.ref h), some (.int many), none, v3, none] ∧ H' h = some (.lst [.ref c, .int i, .int d, .int s, .int k]) ∧ 0 ≤ i ∧ (∀ b o, b ≠ h → H b = some o → H' b = some o), ?_, ?_⟩
    · refine ⟨.ref h, rfl, h, _, 2, _, rfl, rfl, .inl (.inl eh), at2, rfl, _, rfl, ?_⟩
      refine ite2 (fun hd => ?_) (fun hd => ?_)
      · refine ⟨.ref h, rfl, h, _, 1, _, rfl, rfl, .inl (.inl eh), at1, .ref h, rfl, h, _, 0, _, rfl, rfl, .inl (.inl eh), at0, c, _, rfl, .inl (.inl (.inl ec)), i, _, rfl, rfl, _, rfl, ?_⟩
        refine ite2 (fun hlt => ?_) (fun hlt => ?_)
        · have hlt := of_decide_eq_true hlt
          rw [List.length_map] at hlt
          obtain ⟨z, hz⟩ : ∃ z, atI (cells.map V.int) i = some (V.int z) := by
            obtain ⟨n, rfl⟩ := Int.eq_ofNat_of_zero_le hi
            have hn : n < cells.length := by omega
            refine ⟨cells[n], ?_⟩
            exact atI_nat (by rw [List.getElem?_map, List.getElem?_eq_getElem hn]; rfl)
          refine ⟨.ref h, rfl, h, _, 0, _, rfl, rfl, .inl (.inl eh), at0, .ref h, rfl, h, _, 1, _, rfl, rfl, .inl (.inl eh), at1, c, _, _, _, rfl, rfl, .inl (.inl ec), hz, ?_⟩
          -- hand[1] = hand[1] + 1
          refine ⟨.ref h, rfl, h, _, 1, _, rfl, rfl, .inl (.inl eh), at1, _, _, rfl, rfl, .ref h, rfl, h, _, 1, 1, rfl, rfl, eh, rfl, ?_⟩
          -- hand[3] = ..
          refine ⟨.ref h, rfl, h, _, 3, _, rfl, rfl, .inl (.inl upd_same), at3, _, _, rfl, rfl, .inr ⟨by decide, by decide⟩, .int z, rfl, _, _, rfl, rfl, _, _, rfl, rfl, .inl ⟨_, rfl, _, _, rfl, rfl, (by show (2147483629 : Int) ≠ 0; decide), .ref h, rfl, h, _, 3, 3, rfl, rfl, upd_same, rfl, ?_⟩⟩
          refine ⟨.int z, rfl, _, _, rfl, rfl, ⟨by decide, by decide, by decide⟩, _, _, rfl, rfl, _, rfl, ?_⟩
          refine ite2 (fun _ => ?_) (fun _ => ?_)
          · refine ⟨.int z, rfl, .ref h, rfl, h, _, 2, 2, rfl, rfl, upd_same, rfl, ?_⟩
            exact ⟨_, _, _, _, _, rfl, upd_same, Int.add_nonneg hi (by decide), fun b o nb e => by simp only [upd_ne nb]; exact e⟩
          · exact ⟨_, _, _, _, _, rfl, upd_same, Int.add_nonneg hi (by decide), fun b o nb e => by simp only [upd_ne nb]; exact e⟩
        · exact ⟨_, _, _, _, _, rfl, eh, hi, fun b o nb e => e⟩
      · exact ⟨_, _, _, _, _, rfl, eh, hi, fun b o nb e => e⟩
    · rintro σ' H' ⟨i, d, s, k, v3, rfl, e, hi, kp⟩
      have hmz : many ≠ 0 := by omega
      have hma : many.natAbs < 1073741824 := by omega
      have ec' := kp _ _ nch ec
      refine ⟨.ref h, rfl, h, _, 2, _, rfl, rfl, .inl (.inl e), at2, _, _, rfl, rfl, _, rfl, ?_⟩
      refine ite2 (fun _ => ?_) (fun _ => ?_)
      · refine ⟨.ref h, rfl, h, _, 2, _, rfl, rfl, .inl (.inl e), at2, .inl ⟨_, rfl, .int many, rfl, _, _, rfl, rfl, hmz, ?_⟩⟩
        refine ⟨.ref h, rfl, h, _, 2, _, rfl, rfl, .inl (.inl e), at2, .int many, rfl, _, _, rfl, rfl, ⟨hmz, hma⟩, .ref h, rfl, h, _, 2, 2, rfl, rfl, e, rfl, ?_⟩
        refine ⟨_, rfl, q _ _ (Int.fmod_nonneg_of_pos _ hm0) (Int.fmod_lt_of_pos _ hm0) ⟨⟨c, cells, _, _, _, _, upd_same, by rw [upd_ne nch]; exact ec', hi⟩, fun b o nb z => by rw [upd_ne nb]; exact kp b o nb z⟩⟩
      · refine ⟨.ref h, rfl, h, _, 4, _, rfl, rfl, .inl (.inl e), at4, _, _, rfl, rfl, .ref h, rfl, h, _, 4, 4, rfl, rfl, e, rfl, ?_⟩
        refine ⟨.ref h, rfl, h, _, 3, _, rfl, rfl, .inl (.inl upd_same), at3, .ref h, rfl, h, _, 4, _, rfl, rfl, .inl (.inl upd_same), at4, _, _, rfl, rfl, .inl ⟨by decide, by decide⟩, _, _, rfl, rfl, .inl ⟨_, rfl, _, _, rfl, rfl, .inr ⟨by decide, by decide⟩, .inl ⟨_, rfl, _, _, rfl, rfl, (by show (2147483647 : Int) ≠ 0; decide), ?_⟩⟩⟩
        obtain ⟨n1, hn1⟩ : ∃ n : Int, n = Int.fmod ((s + 7919 * (k + 1)) * 48271) 2147483647 := ⟨_, rfl⟩
        have b1 : 0 ≤ n1 := by rw [hn1]; exact Int.fmod_nonneg_of_pos _ (by decide)
        have b2 : n1 < 2147483647 := by rw [hn1]; exact Int.fmod_lt_of_pos _ (by decide)
        show gName 2 (V.int (Int.fmod ((s + 7919 * (k + 1)) * 48271) 2147483647)) _ _ _
        rw [← hn1]
        refine ⟨.int n1, rfl, .int n1, rfl, _, _, rfl, rfl, ⟨by decide, by decide⟩, _, _, rfl, rfl, _, _, rfl, rfl, .inl ⟨by omega, by omega⟩, .inl ⟨_, rfl, _, _, rfl, rfl, (by show (2147483647 : Int) ≠ 0; decide), ?_⟩⟩
        obtain ⟨n2, hn2⟩ : ∃ n : Int, n = Int.fmod (n1 * (n1.fdiv 1009 + 69621)) 2147483647 := ⟨_, rfl⟩
        have c1 : 0 ≤ n2 := by rw [hn2]; exact Int.fmod_nonneg_of_pos _ (by decide)
        have c2 : n2 < 2147483647 := by rw [hn2]; exact Int.fmod_lt_of_pos _ (by decide)
        show gName 2 (V.int (Int.fmod (n1 * (n1.fdiv 1009 + 69621)) 2147483647)) _ _ _
        rw [← hn2]
        refine ⟨.int n2, rfl, .int n2, rfl, _, _, rfl, rfl, ⟨by decide, by decide⟩, _, _, rfl, rfl, _, _, rfl, rfl, .inl ⟨by omega, by omega⟩, .inl ⟨_, rfl, _, _, rfl, rfl, (by show (2147483399 : Int) ≠ 0; decide), ?_⟩⟩
        refine ⟨_, rfl, _, _, rfl, rfl, ⟨by decide, by decide⟩, .inl ⟨_, rfl, .int many, rfl, _, _, rfl, rfl, hmz, ?_⟩⟩
        exact q _ _ (Int.fmod_nonneg_of_pos _ hm0) (Int.fmod_lt_of_pos _ hm0) ⟨⟨c, cells, _, _, _, _, upd_same, by rw [upd_ne nch]; exact ec', hi⟩, fun b o nb z => by rw [upd_ne nb]; exact kp b o nb z⟩
end
end Zq
namespace Zq
open PySem PySem.Spec PyProof.Rows L2 RZ
/-! ### what an item may be drawn from -/
inductive Items (K : PySem.W.Frag) (H : Hp) : V → List V → Prop
  | l {p : Addr} {xs : List V} : SqL K H p xs → xs.length < 1000000 → Items K H (.ref p) xs
  | t {p : Addr} {xs : List V} : SqT K H p xs → xs.length < 1000000 → Items K H (.ref p) xs
  | s {z : Str} : z.length < 1000000 → Items K H (.str z) (z.cps.toList.map fun c => .str ⟨#[c]⟩)
def spAny (K : PySem.W.Frag) : Sp := fun vs H Q _ => ∃ (h : Addr) (x : V) (xs : List V), vs = [.ref h, x] ∧ IsHand H h ∧ x ≠ .ref h ∧ Items K H x xs ∧ 0 < xs.length ∧
  ∀ v H', v ∈ xs → Go h H H' → Q v H'
theorem at_some {α : Type} {xs : List α} {r : Int} (h0 : 0 ≤ r) (h1 : r < xs.length) : ∃ v, atI xs r = some v ∧ v ∈ xs := by
  obtain ⟨n, rfl⟩ := Int.eq_ofNat_of_zero_le h0
  have hn : n < xs.length := by omega
  exact ⟨xs[n], atI_nat (List.getElem?_eq_getElem hn), List.getElem_mem hn⟩
section
variable {P : Program} {w : World} {K : PySem.W.Frag} {mg : Str → Option Value} {base : Heap}
abbrev sAny : Stmt := topS 35
abbrev NscAny : List Str := ["_law_hand_here", "_law_items"]
theorem scAny : FnScope ["_law_hand_here", "_law_items"] ["_law_hand_here", "_law_items"] (defScope sAny) := ⟨rfl, rfl, rfl, by decide +kernel, rfl, by decide +kernel, by decide +kernel⟩
theorem ok_any {f : Addr} {fd : FuncData} (F : Fun K "_law_any" "_law_any" sAny f fd) (T : Txt mg) (C__law_draw : Own P w K mg base CX0 1 "_law_draw" ["_law_hand_here", "_law_many"] spDraw) :
    FnOk P w K mg base CX0 2 f fd ["_law_hand_here", "_law_items"] (spAny K) := by
  refine F.ok scAny (fun vs H Q E h => ?_) (fun cdv A outer s H vs Q E hr h => ?_)
  · obtain ⟨h, x, xs, rfl, _⟩ := h
    rfl
  · obtain ⟨h, x, xs, rfl, hh, nx, hx, hp, q⟩ := h
    refine ⟨_, (pss_one (ps_ret (pe_ix ix_seq (pv 1) (pe_own C__law_draw hr (pa_cons (pv 0) (pa_cons (pe_callB call_len (by rfl) T.nlen (by decide +kernel) (pa_cons (pv 1) pa_nil)) pa_nil))) (fun _ _ => rfl)))), ?_⟩
    cases hx with
    | @l p xs hs hl =>
      have np : p ≠ h := fun z => nx (by rw [z])
      refine ⟨.ref p, rfl, .ref h, rfl, .ref p, rfl, _, _, rfl, .inl ⟨_, hs, rfl⟩, h, _, rfl, hh, by omega, by omega, fun r H' r0 r1 g => ?_⟩
      obtain ⟨v, hv, hm⟩ := at_some r0 r1
      exact .inl ⟨p, xs, r, v, rfl, rfl, g.sqL np hs, hv, q v H' hm g⟩
    | @t p xs hs hl =>
      refine ⟨.ref p, rfl, .ref h, rfl, .ref p, rfl, _, _, rfl, .inr ⟨_, hs, rfl⟩, h, _, rfl, hh, by omega, by omega, fun r H' r0 r1 g => ?_⟩
      obtain ⟨v, hv, hm⟩ := at_some r0 r1
      exact .inr (.inl ⟨p, xs, r, v, rfl, rfl, g.sqT hh hs, hv, q v H' hm g⟩)
    | @s z hl =>
      have hzl : z.length = z.cps.toList.length := by
        show z.cps.size = _
        rw [Array.length_toList]
      have hp' : 0 < z.length := by
        rw [List.length_map, ← hzl] at hp
        exact hp
      have hsl : z.length ≤ sizeLine := by
        rw [sizeLine_eq]
        omega
      refine ⟨.str z, rfl, .ref h, rfl, .str z, rfl, _, _, rfl, ⟨hsl, rfl⟩, h, _, rfl, hh, by omega, by omega, fun r H' r0 r1 g => ?_⟩
      obtain ⟨c, hv, hm⟩ := at_some (xs := z.cps.toList) r0 (by rw [← hzl]; exact r1)
      exact .inr (.inr ⟨z, r, c, rfl, rfl, hsl, hv, q _ H' (List.mem_map.mpr ⟨c, hm, rfl⟩) g⟩)
theorem sz_lt {n : Nat} (h : n < 100000) : n < sizeLine := Nat.lt_of_lt_of_le h (by decide)
theorem same_new {H : Hp} {p : Addr} {o : HO} (h : H p = none) : Same H (upd H p o) := fun b u e => by
  rw [upd_ne (ne_of_none e h)]
  exact e
theorem same_seqT {H H' : Hp} {a : Addr} {xs : List V} (e : Same H H') (h : SqT K H a xs) : SqT K H' a xs := by
  rcases h with (h | ⟨o, h⟩) | h
  · exact .inl (.inl (e _ _ h))
  · exact .inl (.inr ⟨o, e _ _ h⟩)
  · exact .inr h
/-! ### told and due alike -/
def isB : PyData → Bool
  | .bool _ => true
  | _ => false
mutual
def isv : PyData → PyData → Bool
  | .tuple ds, .tuple es => isvAll ds es
  | .list ds, .list es => isvAll ds es
  | _, .tuple _ => false
  | _, .list _ => false
  | d, e => (isB d == isB e) && PyData.eqv d e
def isvAll : List PyData → List PyData → Bool
  | [], [] => true
  | d :: ds, e :: es => isv d e && isvAll ds es
  | _, _ => false
end
/-- the type's name -/
def tyD : PyData → String
  | .none => "NoneType"
  | .bool _ => "bool"
  | .int _ => "int"
  | .str _ => "str"
  | .list _ => "list"
  | .tuple _ => "tuple"
  | .dict _ => "dict"
theorem tyX_of {H : Hp} {x : V} {d : PyData} (h : Dp K H x d) : TyX K H x (.type (tyD d)) := by
  cases h with
  | non => exact .base .non
  | bl b => exact .base (.bl b)
  | int i => exact .base (.int i)
  | str s => exact .base (.str s)
  | lst h _ =>
    rcases h with (h | ⟨o, h⟩) | ⟨o, its, n, h, hc, _⟩
    · exact .base (.lst h)
    · exact .base (.frz h)
    · exact .kList h hc
  | tup h _ =>
    rcases h with (h | ⟨o, h⟩) | ⟨o, its, n, h, hc, _⟩
    · exact .base (.tup h)
    · exact .fTuple h
    · exact .kTuple h hc
mutual
theorem dp_same {H H' : Hp} (sm : Same H H') : ∀ {x : V} {d : PyData}, Dp K H x d → Dp K H' x d
  | _, _, .non => .non
  | _, _, .bl b => .bl b
  | _, _, .int i => .int i
  | _, _, .str s => .str s
  | _, _, .lst h a => .lst (sm.seq h) (dpAll_same sm a)
  | _, _, .tup h a => .tup (same_seqT sm h) (dpAll_same sm a)
theorem dpAll_same {H H' : Hp} (sm : Same H H') : ∀ {xs : List V} {ds : List PyData}, DpAll K H xs ds → DpAll K H' xs ds
  | _, _, .nil => .nil
  | _, _, .cons h a => .cons (dp_same sm h) (dpAll_same sm a)
end
theorem dpAll_get {H : Hp} : ∀ {xs : List V} {ds : List PyData} {i : Nat} {x : V}, DpAll K H xs ds → xs[i]? = some x → ∃ d, ds[i]? = some d ∧ Dp K H x d
  | _, _, 0, _, .cons h _, e => by
    simp at e
    subst e
    exact ⟨_, rfl, h⟩
  | _, _, i + 1, x, .cons _ a, e => by
    obtain ⟨d, h1, h2⟩ := dpAll_get (i := i) (x := x) a (by simpa using e)
    exact ⟨d, by simpa using h1, h2⟩
theorem dpAll_len {H : Hp} : ∀ {xs : List V} {ds : List PyData}, DpAll K H xs ds → xs.length = ds.length
  | _, _, .nil => rfl
  | _, _, .cons _ a => congrArg (· + 1) (dpAll_len a)
theorem walk_zipT {a b : Addr} {xs ys : List V} {n : Nat} (hn : n = min xs.length ys.length) : Walk (ItzT K a b) n (fun H => SqT K H a xs ∧ SqT K H b ys) (YPair (fun i => xs[i]?) (fun i => ys[i]?)) := by
  subst hn
  refine ⟨fun i _ hi q => ?_, fun _ q => ⟨xs, ys, q.1, q.2, by omega⟩, fun i H v H' _ q y => ?_⟩
  · have h1 : i < xs.length := by omega
    have h2 : i < ys.length := by omega
    exact ⟨xs, ys, xs[i], ys[i], q.1, q.2, by simp [h1], by simp [h2]⟩
  · obtain ⟨T, x, z, e1, e2, e3, e4, e5⟩ := y
    exact ⟨T, x, z, e1, e2, e3, e4 xs q.1, e5 ys q.2⟩
theorem depth_get : ∀ {ds : List PyData} {i : Nat} {d : PyData}, ds[i]? = some d → d.depth ≤ PyData.depthAll ds
  | [], _, _, e => by simp at e
  | d :: ds, 0, _, e => by
    simp at e
    subst e
    unfold PyData.depthAll
    exact Nat.le_max_left _ _
  | _ :: ds, i + 1, d, e => by
    have := depth_get (ds := ds) (i := i) (d := d) (by simpa using e)
    unfold PyData.depthAll
    exact Nat.le_trans this (Nat.le_max_right _ _)
theorem isvAll_zip : ∀ {ds es : List PyData}, ds.length = es.length → isvAll ds es = ((ds.zip es).map fun p => isv p.1 p.2).all id
  | [], [], _ => by simp [isvAll]
  | d :: ds, e :: es, h => by
    have ih := isvAll_zip (ds := ds) (es := es) (by simpa using h)
    simp [isvAll, ih]
  | [], _ :: _, h => by simp at h
  | _ :: _, [], h => by simp at h
theorem isvAll_len : ∀ {ds es : List PyData}, ds.length ≠ es.length → isvAll ds es = false
  | [], [], h => absurd rfl h
  | d :: ds, e :: es, h => by
    have ih := isvAll_len (ds := ds) (es := es) (by simpa using h)
    simp [isvAll, ih]
  | [], _ :: _, _ => by simp [isvAll]
  | _ :: _, [], _ => by simp [isvAll]
def isSeq : PyData → Bool
  | .list _ => true
  | .tuple _ => true
  | _ => false
theorem kit_seq (d : PyData) : PySem.W.kitAny K (.type (tyD d)) [.type "tuple", .type "list"] = some (isSeq d) := by
  have no : ∀ {t : String}, kitB t "tuple" = some false → kitB t "list" = some false → PySem.W.kitAny K (.type t) [.type "tuple", .type "list"] = some false := fun h1 h2 =>
    kitAny_cons (b := false) (kit_ty h1) (fun _ => kitAny_cons (b := false) (kit_ty h2) (fun _ => kitAny_nil) (fun z => nomatch z)) (fun z => nomatch z)
  cases d with
  | tuple _ => exact kitAny_cons (b := true) (kit_ty (show kitB "tuple" "tuple" = some true by decide +kernel)) (fun z => nomatch z) (fun _ => rfl)
  | list _ => exact kitAny_cons (b := false) (kit_ty (show kitB "list" "tuple" = some false by decide +kernel)) (fun _ => kitAny_cons (b := true) (kit_ty (show kitB "list" "list" = some true by decide +kernel)) (fun z => nomatch z) (fun _ => rfl)) (fun z => nomatch z)
  | none => exact no (t := "NoneType") (by decide +kernel) (by decide +kernel)
  | bool _ => exact no (t := "bool") (by decide +kernel) (by decide +kernel)
  | int _ => exact no (t := "int") (by decide +kernel) (by decide +kernel)
  | str _ => exact no (t := "str") (by decide +kernel) (by decide +kernel)
  | dict _ => exact no (t := "dict") (by decide +kernel) (by decide +kernel)
def isTupD : PyData → Bool
  | .tuple _ => true
  | _ => false
theorem kit_tup (d : PyData) : PySem.W.kitOne K (.type (tyD d)) (.type "tuple") = some (isTupD d) := by
  cases d with
  | tuple _ => exact kit_ty (show kitB "tuple" "tuple" = some true by decide +kernel)
  | list _ => exact kit_ty (show kitB "list" "tuple" = some false by decide +kernel)
  | none => exact kit_ty (show kitB "NoneType" "tuple" = some false by decide +kernel)
  | bool _ => exact kit_ty (show kitB "bool" "tuple" = some false by decide +kernel)
  | int _ => exact kit_ty (show kitB "int" "tuple" = some false by decide +kernel)
  | str _ => exact kit_ty (show kitB "str" "tuple" = some false by decide +kernel)
  | dict _ => exact kit_ty (show kitB "dict" "tuple" = some false by decide +kernel)
theorem kit_bool (d : PyData) : PySem.W.kitOne K (.type (tyD d)) (.type "bool") = some (isB d) := by
  cases d with
  | tuple _ => exact kit_ty (show kitB "tuple" "bool" = some false by decide +kernel)
  | list _ => exact kit_ty (show kitB "list" "bool" = some false by decide +kernel)
  | none => exact kit_ty (show kitB "NoneType" "bool" = some false by decide +kernel)
  | bool _ => exact kit_ty (show kitB "bool" "bool" = some true by decide +kernel)
  | int _ => exact kit_ty (show kitB "int" "bool" = some false by decide +kernel)
  | str _ => exact kit_ty (show kitB "str" "bool" = some false by decide +kernel)
  | dict _ => exact kit_ty (show kitB "dict" "bool" = some false by decide +kernel)
mutual
/-- no list or tuple within has more than 50000 items -/
def narrow : PyData → Bool
  | .list xs => decide (xs.length ≤ 50000) && narrowAll xs
  | .tuple xs => decide (xs.length ≤ 50000) && narrowAll xs
  | _ => true
def narrowAll : List PyData → Bool
  | [] => true
  | x :: xs => narrow x && narrowAll xs
end
def itemsD : PyData → List PyData
  | .list xs => xs
  | .tuple xs => xs
  | _ => []
theorem narrow_len {e : PyData} (h : narrow e = true) : (itemsD e).length ≤ 50000 := by
  cases e with
  | list xs => rw [narrow, Bool.and_eq_true, decide_eq_true_eq] at h; exact h.1
  | tuple xs => rw [narrow, Bool.and_eq_true, decide_eq_true_eq] at h; exact h.1
  | _ => exact Nat.zero_le _
theorem narrowAll_get : ∀ {ds : List PyData} {i : Nat} {d : PyData}, narrowAll ds = true → ds[i]? = some d → narrow d = true
  | [], _, _, _, e => by simp at e
  | d :: ds, 0, _, h, e => by
    simp at e
    subst e
    rw [narrowAll, Bool.and_eq_true] at h
    exact h.1
  | _ :: ds, i + 1, d, h, e => by
    rw [narrowAll, Bool.and_eq_true] at h
    exact narrowAll_get (ds := ds) (i := i) (d := d) h.2 (by simpa using e)
theorem narrow_get {e d : PyData} {i : Nat} (h : narrow e = true) (hi : (itemsD e)[i]? = some d) : narrow d = true := by
  cases e with
  | list xs => rw [narrow, Bool.and_eq_true] at h; exact narrowAll_get h.2 hi
  | tuple xs => rw [narrow, Bool.and_eq_true] at h; exact narrowAll_get h.2 hi
  | _ => exact absurd hi (by simp [itemsD])
/-- depth n at most: the due one's -/
def spIs (K : PySem.W.Frag) : Nat → Sp
  | 0 => fun _ _ _ _ => False
  | n + 1 => fun vs H Q _ => ∃ (x y : V) (d e : PyData), vs = [x, y] ∧ Dp K H x d ∧ Dp K H y e ∧ SeqAt.shaped d = true ∧ SeqAt.shaped e = true ∧ narrow e = true ∧ e.depth ≤ n ∧
    ∀ H', Same H H' → Q (.bl (isv d e)) H'
abbrev sIs : Stmt := topS 36
abbrev NscIs : List Str := ["_law_told", "_law_due", "_law_one", "_law_two"]
theorem scIs : FnScope ["_law_told", "_law_due", "_law_one", "_law_two"] ["_law_told", "_law_due"] (defScope sIs) := ⟨rfl, rfl, rfl, by decide +kernel, rfl, by decide +kernel, by decide +kernel⟩
theorem isv_leaf {d e : PyData} (h : isSeq e = false) : isv d e = ((isB d == isB e) && PyData.eqv d e) := by
  cases e with
  | list _ => cases h
  | tuple _ => cases h
  | _ => cases d <;> rw [isv] <;> simp
theorem isv_other {d e : PyData} (h : isSeq e = true) (h2 : isTupD d ≠ isTupD e ∨ isSeq d = false) : isv d e = false := by
  cases e with
  | list es =>
    cases d with
    | list ds => rcases h2 with h2 | h2
                 · exact absurd rfl h2
                 · cases h2
    | _ => rw [isv]
           all_goals simp
  | tuple es =>
    cases d with
    | tuple ds => rcases h2 with h2 | h2
                  · exact absurd rfl h2
                  · cases h2
    | _ => rw [isv]
           all_goals simp
  | _ => cases h
theorem canLay_get : ∀ {ds : List PyData} {i : Nat} {d : PyData}, PyData.canLayAll0 ds = true → ds[i]? = some d → d.canLay0 = true
  | [], _, _, _, e => by simp at e
  | d :: ds, 0, _, h, e => by
    simp at e
    subst e
    rw [PyData.canLayAll0, Bool.and_eq_true] at h
    exact h.1
  | _ :: ds, i + 1, d, h, e => by
    rw [PyData.canLayAll0, Bool.and_eq_true] at h
    exact canLay_get (ds := ds) (i := i) (d := d) h.2 (by simpa using e)
theorem shaped_in {ds : List PyData} {i : Nat} {d : PyData} (h : PyData.canLayAll0 ds = true) (e : ds[i]? = some d) (z : d.depth ≤ 64) : SeqAt.shaped d = true := by
  unfold SeqAt.shaped
  rw [canLay_get h e, decide_eq_true z]
  rfl
theorem ok_is (n : Nat) {f : Addr} {fd : FuncData} (F : Fun K "_law_is" "_law_is" sIs f fd) (T : Txt mg) (C__law_is : Own P w K mg base CX0 n "_law_is" ["_law_told", "_law_due"] (spIs K n)) :
    FnOk P w K mg base CX0 (n + 1) f fd ["_law_told", "_law_due"] (spIs K (n + 1)) := by
  refine F.ok scIs (fun vs H Q E h => ?_) (fun cdv A outer s H vs Q E hr h => ?_)
  · obtain ⟨x, y, d, e, rfl, _⟩ := h
    rfl
  · obtain ⟨x, y, d, e, rfl, hx, hy, sd, se, nw, hn, q⟩ := h
    refine ⟨_, (pss_cons (ps_if (pt_val (pe_callB call_isiT (by rfl) T.nisinstance (by decide +kernel) (pa_cons (pv 1) (pa_cons (pe_tup (pa_cons (pe_bltn (v := .ty "tuple") (by rfl) T.ntuple (by decide +kernel) rfl) (pa_cons (pe_bltn (v := .ty "list") (by rfl) T.nlist (by decide +kernel) rfl) pa_nil))) pa_nil)))) (pss_cons (ps_if (PW.pt (pw_or (pt_cmpR op_ne (pe_callB call_isi (by rfl) T.nisinstance (by decide +kernel) (pa_cons (pv 0) (pa_cons (pe_bltn (v := .ty "tuple") (by rfl) T.ntuple (by decide +kernel) rfl) pa_nil))) (pe_callB call_isi (by rfl) T.nisinstance (by decide +kernel) (pa_cons (pv 1) (pa_cons (pe_bltn (v := .ty "tuple") (by rfl) T.ntuple (by decide +kernel) rfl) pa_nil))) (nomark _)) (pw_or1 (pt_not (pt_val (pe_callB call_isiT (by rfl) T.nisinstance (by decide +kernel) (pa_cons (pv 0) (pa_cons (pe_tup (pa_cons (pe_bltn (v := .ty "tuple") (by rfl) T.ntuple (by decide +kernel) rfl) (pa_cons (pe_bltn (v := .ty "list") (by rfl) T.nlist (by decide +kernel) rfl) pa_nil))) pa_nil)))))))) (pss_one (ps_ret pe_bl)) pss_nil)
        (pss_one (ps_ret (pe_and (pe_cmpR op_eq (pe_callB call_len_seq (by rfl) T.nlen (by decide +kernel) (pa_cons (pv 0) pa_nil)) (pe_callB call_len_seq (by rfl) T.nlen (by decide +kernel) (pa_cons (pv 1) pa_nil)) (nomark _)) (pe_one (pe_callB (cr_all rfl) (by rfl) T.nall (by decide +kernel) (pa_cons (pe_lc (g := gTup K 2 (gCons (gName 2) (gCons (gName 3) gNil))) (own := [("_law_one", 2), ("_law_two", 3)]) (by rfl) scIs.nd (pi_zipA (by rfl) T.nzip (pa_cons (pv 0) (pa_cons (pv 1) pa_nil))) (blkOk_by (own := [("_law_one", 2), ("_law_two", 3)]) (N := NscIs) (sc := defScope sIs) (by decide +kernel)) (fun _ _ _ _ _ => (by exact (pg_tup rfl (pgs_cons (pg_name (i := 2) scIs.nd rfl (Or.inl rfl)) (pgs_cons (pg_name (i := 3) scIs.nd rfl (Or.inl rfl)) pgs_nil))))) (fun _ _ _ _ _ => pts_nil) (fun _ _ _ _ _ => (pe_own C__law_is hr (pa_cons (pv 2) (pa_cons (pv 3) pa_nil))))) pa_nil))))))) pss_nil)
      (pss_one (ps_ret (pe_and (pe_cmpR op_eq (pe_callB call_isi (by rfl) T.nisinstance (by decide +kernel) (pa_cons (pv 0) (pa_cons (pe_bltn (v := .ty "bool") (by rfl) T.nbool (by decide +kernel) rfl) pa_nil))) (pe_callB call_isi (by rfl) T.nisinstance (by decide +kernel) (pa_cons (pv 1) (pa_cons (pe_bltn (v := .ty "bool") (by rfl) T.nbool (by decide +kernel) rfl) pa_nil))) (nomark _)) (pe_one (pe_cmpR (op_eqD hr.units) (pv 0) (pv 1) (nomark _))))))), ?_⟩
    refine ⟨y, rfl, (by show 2 ≤ sizeLine; decide), fun tp htp => ⟨y, tp, [.ty "tuple", .ty "list"], _, _, _, rfl, upd_same, .cons (.ty _) (.cons (.ty _) .nil), tyX_of (dp_same (same_new htp) hy), kit_seq e, _, rfl, ?_⟩⟩
    have s0 := same_new (o := .tup [.ty "tuple", .ty "list"]) htp
    refine ite2 (fun he => ?_) (fun he => ?_)
    · refine ⟨x, rfl, ⟨x, .ty "tuple", _, _, _, rfl, .ty _, tyX_of (dp_same s0 hx), kit_tup d, y, rfl, ⟨y, .ty "tuple", _, _, _, rfl, .ty _, tyX_of (dp_same s0 hy), kit_tup e, rfl, _, rfl, ?_⟩⟩⟩
      refine ite2 (fun hd => ?_) (fun hd => ?_)
      · have q' := q _ s0
        rw [isv_other he (.inl fun z => by rw [z, decide_eq_true rfl] at hd; cases hd)] at q'
        exact q'
      · have hd : isTupD d = isTupD e := by
          cases h1 : isTupD d <;> cases h2 : isTupD e <;> first | rfl | (rw [h1, h2] at hd; exact absurd (by decide) hd)
        refine ⟨x, rfl, (by show 2 ≤ sizeLine; decide), fun tp2 htp2 => ⟨x, tp2, [.ty "tuple", .ty "list"], _, _, _, rfl, upd_same, .cons (.ty _) (.cons (.ty _) .nil), tyX_of (dp_same (s0.trans (same_new htp2)) hx), kit_seq d, _, rfl, ?_⟩⟩
        have s1 := s0.trans (same_new (o := .tup [.ty "tuple", .ty "list"]) htp2)
        generalize upd (upd H tp (.tup [.ty "tuple", .ty "list"])) tp2 (.tup [.ty "tuple", .ty "list"]) = H0 at s1
        cases hsd : isSeq d with
        | false =>
          have q' := q _ s1
          rw [isv_other he (.inr hsd)] at q'
          exact q'
        | true =>
          have sd' := SeqAt.canLay_of_shaped sd
          have se' := SeqAt.canLay_of_shaped se
          have dd' := SeqAt.depth_of_shaped sd
          have de' := SeqAt.depth_of_shaped se
          cases n with
          | zero =>
            cases hy with
            | lst _ _ => exact absurd hn (by rw [PyData.depth]; omega)
            | tup _ _ => exact absurd hn (by rw [PyData.depth]; omega)
            | _ => cases he
          | succ n =>
            cases hx with
            | @lst a xs ds ha aa =>
              cases hy with
              | @lst b ys es hb bb =>
                have wa := Same.seq s1 ha
                have wb := Same.seq s1 hb
                -- two lists
                refine ⟨.ref a, rfl, a, _, rfl, .inl wa, .ref b, rfl, b, _, rfl, .inl wb, rfl, _, rfl, ?_⟩
                refine ite2 (fun hle => ?_) (fun hle => ?_)
                · have hle : (xs.length : Int) = ys.length := V.int.inj (of_decide_eq_true hle)
                  have hle : xs.length = ys.length := by omega
                  refine ⟨.ref a, rfl, .ref b, rfl, a, b, xs, ys, rfl, .inl ⟨wa, wb, fun D hD => lc_it (walk_zip rfl)
                    (fun i H' => Same H0 H' ∧ H' D = some (.lst (((ds.zip es).take i).map fun p => V.bl (isv p.1 p.2))))
                    ⟨same_new hD, upd_same⟩ (fun i H' _ pv => ⟨Same.seq pv.1 wa, Same.seq pv.1 wb⟩) ?_ ?_⟩⟩
                  · rintro i v H1 H2 hi ⟨sm, hDD⟩ ⟨t2, u, v, rfl, hT, rfl, eu, ev⟩
                    obtain ⟨du, hdu, pu⟩ := dpAll_get aa eu
                    obtain ⟨dv, hdv, pv⟩ := dpAll_get bb ev
                    have nDT : D ≠ t2 := ne_of_none hDD hT
                    have s2 : Same H0 (upd H1 t2 (.tup [u, v])) := sm.trans (same_new hT)
                    refine ⟨t2, [u, v], rfl, .inl (.inl upd_same), rfl, u, [v], rfl, v, [], rfl, rfl, rfl, ?_⟩
                    refine ⟨u, rfl, v, rfl, u, v, du, dv, rfl, dp_same (s1.trans s2) pu, dp_same (s1.trans s2) pv, shaped_in (by rw [PyData.canLay0] at sd'; exact sd') hdu (Nat.le_trans (depth_get hdu) (by rw [PyData.depth] at dd'; omega)), shaped_in (by rw [PyData.canLay0] at se'; exact se') hdv (Nat.le_trans (depth_get hdv) (by rw [PyData.depth] at de'; omega)), narrow_get nw hdv, ?_, fun H3 s3 => ?_⟩
                    · have := depth_get hdv
                      rw [PyData.depth] at hn
                      omega
                    · have e3 : H3 D = _ := s3 D _ (by rw [upd_ne nDT]; exact hDD)
                      refine ⟨_, e3, ?_, fun c o e => ?_, ?_⟩
                      · rw [List.length_map, List.length_take]
                        have hz : (ds.zip es).length ≤ es.length := by
                          rw [List.length_zip]
                          exact Nat.min_le_right _ _
                        have hw : es.length ≤ 50000 := narrow_len nw
                        exact sz_lt (by omega)
                      · rw [upd_ne (ne_of_none e hD)]
                        exact s3 c o (s2 c o e)
                      · rw [upd_same, List.take_add_one]
                        have : (ds.zip es)[i]? = some (du, dv) := by
                          rw [List.getElem?_zip_eq_some]
                          exact ⟨hdu, hdv⟩
                        rw [this, List.map_append]
                        rfl
                  · rintro H1 ⟨sm, hDD⟩
                    have : (ds.zip es).take (min xs.length ys.length) = ds.zip es := by
                      refine List.take_of_length_le ?_
                      rw [List.length_zip, dpAll_len aa, dpAll_len bb]
                      exact Nat.le_refl _
                    rw [this] at hDD
                    refine ⟨D, (ds.zip es).map fun p => isv p.1 p.2, rfl, .inl (.inl (by rw [hDD, List.map_map]; rfl)), ?_⟩
                    have q' := q H1 (s1.trans sm)
                    rw [show isv (.list ds) (.list es) = isvAll ds es by rw [isv], isvAll_zip (by rw [← dpAll_len aa, ← dpAll_len bb]; exact hle)] at q'
                    exact q'
                · have hle : ¬ (xs.length = ys.length) := fun z => hle (by rw [z]; exact decide_eq_true rfl)
                  have q' := q H0 s1
                  rw [show isv (.list ds) (.list es) = isvAll ds es by rw [isv], isvAll_len (by rw [← dpAll_len aa, ← dpAll_len bb]; exact hle)] at q'
                  exact q'
              | _ => first | (cases he; done) | cases hd
            | @tup a xs ds ha aa =>
              cases hy with
              | @tup b ys es hb bb =>
                have wa := same_seqT s1 ha
                have wb := same_seqT s1 hb
                -- two tuples
                refine ⟨.ref a, rfl, a, _, rfl, .inr wa, .ref b, rfl, b, _, rfl, .inr wb, rfl, _, rfl, ?_⟩
                refine ite2 (fun hle => ?_) (fun hle => ?_)
                · have hle : (xs.length : Int) = ys.length := V.int.inj (of_decide_eq_true hle)
                  have hle : xs.length = ys.length := by omega
                  refine ⟨.ref a, rfl, .ref b, rfl, a, b, xs, ys, rfl, .inr ⟨wa, wb, fun D hD => lc_it (walk_zipT rfl)
                    (fun i H' => Same H0 H' ∧ H' D = some (.lst (((ds.zip es).take i).map fun p => V.bl (isv p.1 p.2))))
                    ⟨same_new hD, upd_same⟩ (fun i H' _ pv => ⟨same_seqT pv.1 wa, same_seqT pv.1 wb⟩) ?_ ?_⟩⟩
                  · rintro i v H1 H2 hi ⟨sm, hDD⟩ ⟨t2, u, v, rfl, hT, rfl, eu, ev⟩
                    obtain ⟨du, hdu, pu⟩ := dpAll_get aa eu
                    obtain ⟨dv, hdv, pv⟩ := dpAll_get bb ev
                    have nDT : D ≠ t2 := ne_of_none hDD hT
                    have s2 : Same H0 (upd H1 t2 (.tup [u, v])) := sm.trans (same_new hT)
                    refine ⟨t2, [u, v], rfl, .inl (.inl upd_same), rfl, u, [v], rfl, v, [], rfl, rfl, rfl, ?_⟩
                    refine ⟨u, rfl, v, rfl, u, v, du, dv, rfl, dp_same (s1.trans s2) pu, dp_same (s1.trans s2) pv, shaped_in (by rw [PyData.canLay0] at sd'; exact sd') hdu (Nat.le_trans (depth_get hdu) (by rw [PyData.depth] at dd'; omega)), shaped_in (by rw [PyData.canLay0] at se'; exact se') hdv (Nat.le_trans (depth_get hdv) (by rw [PyData.depth] at de'; omega)), narrow_get nw hdv, ?_, fun H3 s3 => ?_⟩
                    · have := depth_get hdv
                      rw [PyData.depth] at hn
                      omega
                    · have e3 : H3 D = _ := s3 D _ (by rw [upd_ne nDT]; exact hDD)
                      refine ⟨_, e3, ?_, fun c o e => ?_, ?_⟩
                      · rw [List.length_map, List.length_take]
                        have hz : (ds.zip es).length ≤ es.length := by
                          rw [List.length_zip]
                          exact Nat.min_le_right _ _
                        have hw : es.length ≤ 50000 := narrow_len nw
                        exact sz_lt (by omega)
                      · rw [upd_ne (ne_of_none e hD)]
                        exact s3 c o (s2 c o e)
                      · rw [upd_same, List.take_add_one]
                        have : (ds.zip es)[i]? = some (du, dv) := by
                          rw [List.getElem?_zip_eq_some]
                          exact ⟨hdu, hdv⟩
                        rw [this, List.map_append]
                        rfl
                  · rintro H1 ⟨sm, hDD⟩
                    have : (ds.zip es).take (min xs.length ys.length) = ds.zip es := by
                      refine List.take_of_length_le ?_
                      rw [List.length_zip, dpAll_len aa, dpAll_len bb]
                      exact Nat.le_refl _
                    rw [this] at hDD
                    refine ⟨D, (ds.zip es).map fun p => isv p.1 p.2, rfl, .inl (.inl (by rw [hDD, List.map_map]; rfl)), ?_⟩
                    have q' := q H1 (s1.trans sm)
                    rw [show isv (.tuple ds) (.tuple es) = isvAll ds es by rw [isv], isvAll_zip (by rw [← dpAll_len aa, ← dpAll_len bb]; exact hle)] at q'
                    exact q'
                · have hle : ¬ (xs.length = ys.length) := fun z => hle (by rw [z]; exact decide_eq_true rfl)
                  have q' := q H0 s1
                  rw [show isv (.tuple ds) (.tuple es) = isvAll ds es by rw [isv], isvAll_len (by rw [← dpAll_len aa, ← dpAll_len bb]; exact hle)] at q'
                  exact q'
              | _ => first | (cases he; done) | cases hd
            | _ => cases hsd
    · have he : isSeq e = false := by
        cases z : isSeq e with
        | false => rfl
        | true => exact absurd z he
      refine ⟨x, rfl, ⟨x, .ty "bool", _, _, _, rfl, .ty _, tyX_of (dp_same s0 hx), kit_bool d, y, rfl, ⟨y, .ty "bool", _, _, _, rfl, .ty _, tyX_of (dp_same s0 hy), kit_bool e, rfl, _, rfl, ?_⟩⟩⟩
      have q' := q _ s0
      rw [isv_leaf he] at q'
      refine ite2 (fun hb => ?_) (fun hb => ?_)
      · have hb : isB d = isB e := V.bl.inj (of_decide_eq_true hb)
        rw [hb, beq_self_eq_true, Bool.true_and] at q'
        exact ⟨x, rfl, y, rfl, d, e, dp_same s0 hx, dp_same s0 hy, sd, se, q'⟩
      · have hb : (isB d == isB e) = false := by
          cases h1 : isB d <;> cases h2 : isB e <;> first | rfl | (rw [h1, h2] at hb; exact absurd (by decide) hb)
        rw [hb, Bool.false_and] at q'
        exact q'
end
end Zq
namespace Zq
open PySem PySem.Spec PyProof.Rows L2
/-! ### the heap without the hand -/
def cut (h : Addr) (H : Hp) : Hp := fun b => if b = h then none else H b
theorem cut_ne {h b : Addr} {H : Hp} (n : b ≠ h) : cut h H b = H b := if_neg n
theorem cut_some {h b : Addr} {H : Hp} {o : HO} (e : cut h H b = some o) : b ≠ h ∧ H b = some o := by
  by_cases z : b = h
  · unfold cut at e
    rw [if_pos z] at e
    cases e
  · rw [cut_ne z] at e
    exact ⟨z, e⟩
theorem cut_same {h : Addr} {H : Hp} : Same (cut h H) H := fun _ _ e => (cut_some e).2
theorem go_cut {h : Addr} {H H' : Hp} (g : Go h H H') : Same (cut h H) (cut h H') := fun b o e => by
  obtain ⟨n, e⟩ := cut_some e
  rw [cut_ne n]
  exact g.keep b o n e
theorem same_cut {h : Addr} {H H' : Hp} (x : IsHand H h) (s : Same H H') : Same (cut h H) (cut h H') := fun b o e => by
  obtain ⟨n, e⟩ := cut_some e
  rw [cut_ne n]
  exact s b o e
/-- what only grows keeps the hand, too -/
theorem go_same {h : Addr} {H H' : Hp} (x : IsHand H h) (s : Same H H') : Go h H H' := by
  obtain ⟨c, cells, i, d, s0, k, e1, e2, e3⟩ := x
  exact ⟨⟨c, cells, i, d, s0, k, s _ _ e1, s _ _ e2, e3⟩, fun b o _ e => s b o e⟩
section
variable {K : PySem.W.Frag}
/-! ### plain things: data of told depth -/
def Pl (K : PySem.W.Frag) (G : Hp) (n : Nat) (v : V) : Prop := ∃ d, Dp K G v d ∧ d.canLay0 = true ∧ narrow d = true ∧ d.depth ≤ n
theorem Pl.same {G G' : Hp} {n : Nat} {v : V} (s : Same G G') (x : Pl K G n v) : Pl K G' n v := by
  obtain ⟨d, a, b, c, e⟩ := x
  exact ⟨d, dp_same s a, b, c, e⟩
theorem Pl.mono {G : Hp} {n m : Nat} {v : V} (h : n ≤ m) (x : Pl K G n v) : Pl K G m v := by
  obtain ⟨d, a, b, c, e⟩ := x
  exact ⟨d, a, b, c, Nat.le_trans e h⟩
theorem pls {G : Hp} {n : Nat} : ∀ {vs : List V}, (∀ v ∈ vs, Pl K G n v) → ∃ ds, DpAll K G vs ds ∧ PyData.canLayAll0 ds = true ∧ narrowAll ds = true ∧ PyData.depthAll ds ≤ n ∧ ds.length = vs.length
  | [], _ => ⟨[], .nil, rfl, rfl, Nat.zero_le _, rfl⟩
  | v :: vs, h => by
    obtain ⟨d, a, b, c, e⟩ := h v (List.mem_cons_self ..)
    obtain ⟨ds, a', b', c', e', l⟩ := pls (vs := vs) fun y hy => h y (List.mem_cons_of_mem _ hy)
    refine ⟨d :: ds, .cons a a', ?_, ?_, ?_, ?_⟩
    · rw [PyData.canLayAll0, b, b']
      rfl
    · rw [narrowAll, c, c']
      rfl
    · rw [PyData.depthAll]
      omega
    · rw [List.length_cons, List.length_cons, l]
theorem Pl.tup {G : Hp} {n : Nat} {p : Addr} {vs : List V} (e : SqT K G p vs) (hl : vs.length ≤ 50000) (h : ∀ v ∈ vs, Pl K G n v) : Pl K G (n + 1) (.ref p) := by
  obtain ⟨ds, a, b, c, d, l⟩ := pls h
  refine ⟨.tuple ds, .tup e a, ?_, ?_, ?_⟩
  · rw [PyData.canLay0]
    exact b
  · rw [narrow, c, l, decide_eq_true hl]
    rfl
  · rw [PyData.depth]
    omega
theorem Pl.lst {G : Hp} {n : Nat} {p : Addr} {vs : List V} (e : SqL K G p vs) (hl : vs.length ≤ 50000) (h : ∀ v ∈ vs, Pl K G n v) : Pl K G (n + 1) (.ref p) := by
  obtain ⟨ds, a, b, c, d, l⟩ := pls h
  refine ⟨.list ds, .lst e a, ?_, ?_, ?_⟩
  · rw [PyData.canLay0]
    exact b
  · rw [narrow, c, l, decide_eq_true hl]
    rfl
  · rw [PyData.depth]
    omega
theorem pl_non {G : Hp} : Pl K G 0 .non := ⟨.none, .non, rfl, rfl, Nat.le_refl _⟩
theorem pl_bl {G : Hp} {b : Bool} : Pl K G 0 (.bl b) := ⟨.bool b, .bl b, rfl, rfl, Nat.le_refl _⟩
theorem pl_int {G : Hp} {i : Int} : Pl K G 0 (.int i) := ⟨.int i, .int i, rfl, rfl, Nat.le_refl _⟩
theorem pl_str {G : Hp} {x : Str} (h : PyData.strOk x = true) : Pl K G 0 (.str x) := ⟨.str x, .str x, by rw [PyData.canLay0]; exact h, rfl, Nat.le_refl _⟩
/-- a plain thing, or a dict of flat values -/
def Odd (K : PySem.W.Frag) (G : Hp) (v : V) : Prop := Pl K G 25 v ∨ ∃ (p : Addr) (kvs : List (Key × V)), v = .ref p ∧ G p = some (.dK kvs) ∧ ∀ kv ∈ kvs, valV kvs kv.1 = some kv.2 ∧ flatB kv.2 = true
theorem Odd.same {G G' : Hp} {v : V} (s : Same G G') (x : Odd K G v) : Odd K G' v := by
  rcases x with x | ⟨p, kvs, e, g, c⟩
  · exact .inl (x.same s)
  · exact .inr ⟨p, kvs, e, s _ _ g, c⟩
/-! ### expressions that make such -/
def Mk (h : Addr) (σ : L2.St) (P : Hp → V → Prop) (t : TE) : Prop := ∀ H Q, IsHand H h → (∀ v H', Go h H H' → P H' v → Q v H') → t σ H Q
def MkA (h : Addr) (σ : L2.St) (P : Hp → V → Prop) (t : TA) (n : Nat) : Prop := ∀ H Q, IsHand H h → (∀ vs H', Go h H H' → vs.length = n → (∀ v ∈ vs, P H' v) → Q vs H') → t σ H Q
def Stays (h : Addr) (P : Hp → V → Prop) : Prop := ∀ H H' v, Go h H H' → P H v → P H' v
section
variable {h : Addr} {σ : L2.St} {P P' : Hp → V → Prop} {te : TE} {ta : TA} {n m : Nat}
theorem MkA.nil : MkA h σ P tNil 0 := fun H Q x q => q [] H (Go.refl x) rfl (fun _ z => nomatch z)
theorem MkA.cons (st : Stays h P) (a : Mk h σ P te) (b : MkA h σ P ta n) : MkA h σ P (tCons te ta) (n + 1) := fun H Q x q =>
  a H _ x fun v H1 g1 p1 => b H1 _ g1.hand fun vs H2 g2 e p2 => q (v :: vs) H2 (g1.trans g2) (by rw [List.length_cons, e]) fun y hy => by
    rcases List.mem_cons.mp hy with rfl | hy
    · exact st _ _ _ g2 p1
    · exact p2 y hy
theorem Mk.c {v : V} (p : ∀ H, P H v) : Mk h σ P (tC v) := fun H Q x q => q v H (Go.refl x) (p H)
theorem Mk.imp (a : Mk h σ P te) (i : ∀ H v, P H v → P' H v) : Mk h σ P' te := fun H Q x q => a H Q x fun v H' g p => q v H' g (i _ _ p)
theorem Mk.tup (st : Stays h P) (a : MkA h σ P ta n) (hn : n ≤ 50000) (pp : ∀ H p vs, H p = some (.tup vs) → p ≠ h → vs.length = n → (∀ v ∈ vs, P H v) → P' H (.ref p)) : Mk h σ P' (tTup ta) := fun H Q x q =>
  a H _ x fun vs H1 g1 e p1 => ⟨Nat.le_of_lt (sz_lt (by omega)), fun p np => q _ _ (g1.then_new np) (pp _ p vs upd_same (g1.hand.ne np) e fun v hv => st _ _ _ (Go.new g1.hand np) (p1 v hv))⟩
theorem Mk.lst (st : Stays h P) (a : MkA h σ P ta n) (hn : n ≤ 50000) (pp : ∀ H p vs, H p = some (.lst vs) → p ≠ h → vs.length = n → (∀ v ∈ vs, P H v) → P' H (.ref p)) : Mk h σ P' (tLst ta) := fun H Q x q =>
  a H _ x fun vs H1 g1 e p1 => ⟨Nat.le_of_lt (sz_lt (by omega)), fun p np => q _ _ (g1.then_new np) (pp _ p vs upd_same (g1.hand.ne np) e fun v hv => st _ _ _ (Go.new g1.hand np) (p1 v hv))⟩
end
/-- a plain thing off the hand -/
def PPl (K : PySem.W.Frag) (h : Addr) (n : Nat) : Hp → V → Prop := fun H v => v ≠ .ref h ∧ Pl K (cut h H) n v
def POdd (K : PySem.W.Frag) (h : Addr) : Hp → V → Prop := fun H v => v ≠ .ref h ∧ Odd K (cut h H) v
theorem st_pl {h : Addr} {n : Nat} : Stays h (PPl K h n) := fun _ _ _ g p => ⟨p.1, p.2.same (go_cut g)⟩
theorem st_odd {h : Addr} : Stays h (POdd K h) := fun _ _ _ g p => ⟨p.1, p.2.same (go_cut g)⟩
section
variable {h : Addr} {σ : L2.St} {te : TE} {ta : TA} {n m : Nat}
theorem mk_tup (a : MkA h σ (PPl K h n) ta m) (hm : m ≤ 50000 := by decide) : Mk h σ (PPl K h (n + 1)) (tTup ta) :=
  Mk.tup st_pl a hm fun H p vs e np l ps => ⟨fun z => np (V.ref.inj z), Pl.tup (.inl (.inl (by rw [cut_ne np]; exact e))) (by omega) fun v hv => (ps v hv).2⟩
theorem mk_lst (a : MkA h σ (PPl K h n) ta m) (hm : m ≤ 50000 := by decide) : Mk h σ (PPl K h (n + 1)) (tLst ta) :=
  Mk.lst st_pl a hm fun H p vs e np l ps => ⟨fun z => np (V.ref.inj z), Pl.lst (.inl (.inl (by rw [cut_ne np]; exact e))) (by omega) fun v hv => (ps v hv).2⟩
theorem mk_non : Mk h σ (PPl K h n) (tC .non) := Mk.c fun _ => ⟨(fun z => nomatch z), pl_non.mono (Nat.zero_le _)⟩
theorem mk_bl {b : Bool} : Mk h σ (PPl K h n) (tC (.bl b)) := Mk.c fun _ => ⟨(fun z => nomatch z), pl_bl.mono (Nat.zero_le _)⟩
theorem mk_int {i : Int} : Mk h σ (PPl K h n) (tC (.int i)) := Mk.c fun _ => ⟨(fun z => nomatch z), pl_int.mono (Nat.zero_le _)⟩
theorem mk_str {x : Str} (ok : PyData.strOk x = true) : Mk h σ (PPl K h n) (tC (.str x)) := Mk.c fun _ => ⟨(fun z => nomatch z), (pl_str ok).mono (Nat.zero_le _)⟩
theorem mk_odd (a : Mk h σ (PPl K h n) te) (hn : n ≤ 25) : Mk h σ (POdd K h) te := a.imp fun _ _ p => ⟨p.1, .inl (p.2.mono hn)⟩
theorem mk_neg1 {i : Int} : Mk h σ (PPl K h n) (tUn (rU fun i => .int (-i)) (tC (.int i))) := fun H Q x q => ⟨i, rfl, q _ H (Go.refl x) ⟨(fun z => nomatch z), pl_int.mono (Nat.zero_le _)⟩⟩
theorem mk_pow : Mk h σ (PPl K h n) (tOp (rI CPow fun i j => .int (i ^ j.toNat)) (tC (.int 10)) (tC (.int 39))) := fun H Q x q => ⟨10, 39, rfl, rfl, ⟨by decide, by decide, by decide⟩, q _ H (Go.refl x) ⟨(fun z => nomatch z), pl_int.mono (Nat.zero_le _)⟩⟩
theorem mk_npow : Mk h σ (PPl K h n) (tUn (rU fun i => .int (-i)) (tOp (rI CPow fun i j => .int (i ^ j.toNat)) (tC (.int 10)) (tC (.int 39)))) := fun H Q x q => ⟨10, 39, rfl, rfl, ⟨by decide, by decide, by decide⟩, _, rfl, q _ H (Go.refl x) ⟨(fun z => nomatch z), pl_int.mono (Nat.zero_le _)⟩⟩
theorem mk_dict0 : Mk h σ (POdd K h) tDNewK := fun H Q x q p np =>
  q _ _ (Go.new x np) ⟨(fun z => x.ne np (V.ref.inj z)), .inr ⟨p, [], rfl, by rw [cut_ne (x.ne np)]; exact upd_same, fun kv z => nomatch z⟩⟩
theorem mk_dict1 {y : Str} {i : Int} : Mk h σ (POdd K h) (tDisp [(tC (.str y), tC (.int i))]) := fun H Q x q p np =>
  ⟨upd_same, [(.inr y, .int i)], rfl, (by show 1 ≤ 15; decide), by
    rw [upd_upd]
    exact q _ _ (Go.new x np) ⟨(fun z => x.ne np (V.ref.inj z)), .inr ⟨p, [(.inr y, .int i)], rfl, by rw [cut_ne (x.ne np)]; exact upd_same, fun kv z => by
      rw [List.mem_singleton] at z
      subst z
      simp [valV, flatB]⟩⟩⟩
end
end
/-! ### a nested thing, an odd one -/
def spNested (K : PySem.W.Frag) : Sp := fun vs H Q _ => ∃ h : Addr, vs = [.ref h] ∧ IsHand H h ∧ ∀ v H', Go h H H' → PPl K h 25 H' v → Q v H'
def spOdd (K : PySem.W.Frag) : Sp := fun vs H Q _ => ∃ h : Addr, vs = [.ref h] ∧ IsHand H h ∧ ∀ v H', Go h H H' → POdd K h H' v → Q v H'
section
variable {P : Program} {w : World} {K : PySem.W.Frag} {mg : Str → Option Value} {base : Heap}
abbrev sNested : Stmt := topS 37
abbrev NscNested : List Str := ["_law_hand_here", "_law_thing", "_law_turn"]
theorem scNested : FnScope ["_law_hand_here", "_law_thing", "_law_turn"] ["_law_hand_here"] (defScope sNested) := ⟨rfl, rfl, rfl, by decide +kernel, rfl, by decide +kernel, by decide +kernel⟩
theorem ok_nested {f : Addr} {fd : FuncData} (F : Fun K "_law_nested" "_law_nested" sNested f fd) (T : Txt mg) (C__law_any : Own P w K mg base CX0 2 "_law_any" ["_law_hand_here", "_law_items"] (spAny K)) :
    FnOk P w K mg base CX0 3 f fd ["_law_hand_here"] (spNested K) := by
  refine F.ok scNested (fun vs H Q E h => ?_) (fun cdv A outer s H vs Q E hr h => ?_)
  · obtain ⟨h, rfl, _⟩ := h
    rfl
  · obtain ⟨h, rfl, hh, q⟩ := h
    refine ⟨_, (pss_cons (ps_set (i := 1) scNested.nd rfl (Or.inl rfl) (pe_own C__law_any hr (pa_cons (pv 0) (pa_cons (pe_lst (pa_cons (pe_tup pa_nil) (pa_cons pe_int (pa_cons pe_str (pa_cons pe_non pa_nil))))) pa_nil))))
      (pss_cons (ps_for PassesOwn.never rfl (pi_range1 (by rfl) T.nrange (pa_cons pe_int pa_nil)) (pg_name (i := 2) scNested.nd rfl (Or.inl rfl))
        (pss_one (ps_set (i := 1) scNested.nd rfl (Or.inl rfl) (pe_ifExp (pt_cmpR op_eq (pe_op op_modN (pe_callTy call_int1 (by rfl) T.nint (by decide +kernel) (pa_cons (pv 2) pa_nil)) pe_int) pe_int (nomark _)) (pe_lst (pa_cons (pv 1) pa_nil)) (pe_tup (pa_cons (pv 1) pa_nil))))))
      (pss_one (ps_ret (pv 1))))), ?_⟩
    refine ⟨.ref h, rfl, ?_⟩
    refine Mk.lst (P' := fun H' v => ∃ p vs, v = .ref p ∧ H' p = some (.lst vs) ∧ p ≠ h ∧ vs.length = 4 ∧ ∀ v ∈ vs, PPl K h 1 H' v) st_pl
      (MkA.cons st_pl (mk_tup MkA.nil) (MkA.cons st_pl mk_int (MkA.cons st_pl (mk_str (by decide +kernel)) (MkA.cons st_pl mk_non MkA.nil)))) (by decide)
      (fun H p vs e np l ps => ⟨p, vs, rfl, e, np, l, ps⟩) H _ hh ?_
    rintro v H1 g1 ⟨p, vs, rfl, ep, np, hl, ps⟩
    refine ⟨h, .ref p, vs, rfl, g1.hand, fun z => np (V.ref.inj z), .l (.inl (.inl ep)) (by omega), by omega, fun v H2 hv g2 => ?_⟩
    have p2 := st_pl _ _ _ g2 (ps v hv)
    refine ⟨24, rfl, by decide, by decide, for_range (lo := 0) (n := 24) (fun i σ' H' => Go h H H' ∧ ∃ (v : V) (t : Option V), σ' = [some (.ref h), some v, t] ∧ PPl K h (1 + i) H' v) ⟨g1.trans g2, v, none, rfl, p2⟩ ?_ ?_⟩
    · rintro i σ' H' hi ⟨g, v, t, rfl, p⟩
      refine ⟨.int (0 + (i : Int)), rfl, .inl ⟨_, rfl, _, _, rfl, rfl, (by show (5 : Int) ≠ 0; decide), rfl, _, rfl, ?_⟩⟩
      refine ite2 (fun _ => ?_) (fun _ => ?_)
      · refine ⟨v, rfl, (by show 1 ≤ sizeLine; decide), fun q nq => ⟨g.then_new nq, .ref q, _, rfl, (fun z => g.hand.ne nq (V.ref.inj z)), ?_⟩⟩
        rw [show 1 + (i + 1) = (1 + i) + 1 by omega]
        refine Pl.lst (vs := [v]) (.inl (.inl (by rw [cut_ne (g.hand.ne nq)]; exact upd_same))) (by show 1 ≤ 50000; decide) fun u hu => ?_
        rw [List.mem_singleton] at hu
        subst hu
        exact p.2.same (go_cut (Go.new g.hand nq))
      · refine ⟨v, rfl, (by show 1 ≤ sizeLine; decide), fun q nq => ⟨g.then_new nq, .ref q, _, rfl, (fun z => g.hand.ne nq (V.ref.inj z)), ?_⟩⟩
        rw [show 1 + (i + 1) = (1 + i) + 1 by omega]
        refine Pl.tup (vs := [v]) (.inl (.inl (by rw [cut_ne (g.hand.ne nq)]; exact upd_same))) (by show 1 ≤ 50000; decide) fun u hu => ?_
        rw [List.mem_singleton] at hu
        subst hu
        exact p.2.same (go_cut (Go.new g.hand nq))
    · rintro σ' H' ⟨g, v, t, rfl, p⟩
      exact ⟨v, rfl, q v H' g p⟩
abbrev sOdd : Stmt := topS 38
abbrev NscOdd : List Str := ["_law_hand_here", "_law_menu"]
theorem scOdd : FnScope ["_law_hand_here", "_law_menu"] ["_law_hand_here"] (defScope sOdd) := ⟨rfl, rfl, rfl, by decide +kernel, rfl, by decide +kernel, by decide +kernel⟩
theorem ok_odd {f : Addr} {fd : FuncData} (F : Fun K "_law_odd" "_law_odd" sOdd f fd) (T : Txt mg) (C__law_any : Own P w K mg base CX0 2 "_law_any" ["_law_hand_here", "_law_items"] (spAny K))
    (C__law_nested : Own P w K mg base CX0 3 "_law_nested" ["_law_hand_here"] (spNested K)) : FnOk P w K mg base CX0 4 f fd ["_law_hand_here"] (spOdd K) := by
  refine F.ok scOdd (fun vs H Q E h => ?_) (fun cdv A outer s H vs Q E hr h => ?_)
  · obtain ⟨h, rfl, _⟩ := h
    rfl
  · obtain ⟨h, rfl, hh, q⟩ := h
    refine ⟨_, (pss_cons (ps_set (i := 1) scOdd.nd rfl (Or.inl rfl) (pe_lst (pa_cons pe_non (pa_cons pe_bl (pa_cons pe_bl (pa_cons (pe_un un_neg pe_int) (pa_cons pe_int (pa_cons pe_int (pa_cons pe_str (pa_cons pe_str (pa_cons pe_str (pa_cons pe_str (pa_cons pe_str (pa_cons pe_str (pa_cons (pe_tup pa_nil) (pa_cons (pe_tup (pa_cons pe_str pa_nil)) (pa_cons (pe_lst pa_nil) (pa_cons (pe_lst (pa_cons pe_str pa_nil)) (pa_cons pe_dnewK (pa_cons (pe_disp (pps_cons pe_str pe_int pps_nil) (by rfl) (by rfl) (fun z => by cases z) (by decide)) (pa_cons (pe_op op_pow pe_int pe_int) pa_nil)))))))))))))))))))))
      (pss_cons (ps_set (i := 1) scOdd.nd rfl (Or.inl rfl) (pe_op op_cat (pv 1) (pe_lst (pa_cons (pe_un un_neg (pe_op op_pow pe_int pe_int)) (pa_cons (pe_tup (pa_cons pe_int (pa_cons pe_int pa_nil))) (pa_cons (pe_tup (pa_cons pe_bl (pa_cons pe_int pa_nil))) (pa_cons (pe_lst (pa_cons pe_int (pa_cons pe_int pa_nil))) (pa_cons (pe_tup (pa_cons pe_int pa_nil)) (pa_cons (pe_tup (pa_cons pe_int (pa_cons pe_str pa_nil))) (pa_cons pe_str (pa_cons pe_str (pa_cons pe_int pa_nil))))))))))))
      (pss_one (ps_ret (pe_own C__law_any hr (pa_cons (pv 0) (pa_cons (pe_op op_cat (pv 1) (pe_lst (pa_cons (pe_own C__law_nested hr (pa_cons (pv 0) pa_nil)) pa_nil))) pa_nil))))))), ?_⟩
    have lst : ∀ {ta : TA} {n : Nat} {σ : L2.St} {H : Hp} {Q : VK}, MkA h σ (POdd K h) ta n → n ≤ 50000 → IsHand H h → (∀ p vs H', Go h H H' → H' p = some (.lst vs) → p ≠ h → vs.length = n → (∀ v ∈ vs, POdd K h H' v) → Q (.ref p) H') → tLst ta σ H Q :=
      fun a hn x q => Mk.lst (P' := fun H' v => ∃ p vs, v = .ref p ∧ H' p = some (.lst vs) ∧ p ≠ h ∧ vs.length = _ ∧ ∀ v ∈ vs, POdd K h H' v) st_odd a hn (fun H p vs e np l ps => ⟨p, vs, rfl, e, np, l, ps⟩) _ _ x
        fun v H' g ⟨p, vs, e, ep, np, hl, ps⟩ => e ▸ q p vs H' g ep np hl ps
    unfold tSeq tAsg
    refine lst (n := 19) ?_ (by decide) hh fun p vs H1 g1 ep np hl ps => ?_
    · repeat' (first | exact MkA.nil | refine MkA.cons st_odd ?_ ?_)
      all_goals first
        | exact mk_odd (n := 0) mk_non (by decide)
        | exact mk_odd (n := 0) mk_bl (by decide)
        | exact mk_odd (n := 0) mk_int (by decide)
        | exact mk_odd (n := 0) (mk_str (by decide +kernel)) (by decide)
        | exact mk_odd (n := 0) mk_neg1 (by decide)
        | exact mk_odd (n := 0) mk_pow (by decide)
        | exact mk_odd (n := 0) mk_npow (by decide)
        | exact mk_odd (n := 1) (mk_tup MkA.nil) (by decide)
        | exact mk_odd (n := 1) (mk_lst MkA.nil) (by decide)
        | exact mk_odd (n := 1) (mk_tup (MkA.cons st_pl (mk_str (by decide +kernel)) MkA.nil)) (by decide)
        | exact mk_odd (n := 1) (mk_lst (MkA.cons st_pl (mk_str (by decide +kernel)) MkA.nil)) (by decide)
        | exact mk_dict0
        | exact mk_dict1
    · refine ⟨.ref p, rfl, ?_⟩
      refine lst (n := 9) ?_ (by decide) g1.hand fun p2 vs2 H2 g2 ep2 np2 hl2 ps2 => ?_
      · repeat' (first | exact MkA.nil | refine MkA.cons st_odd ?_ ?_)
        all_goals first
          | exact mk_odd (n := 0) mk_int (by decide)
          | exact mk_odd (n := 0) (mk_str (by decide +kernel)) (by decide)
          | exact mk_odd (n := 0) mk_npow (by decide)
          | exact mk_odd (n := 1) (mk_tup (MkA.cons st_pl mk_int (MkA.cons st_pl mk_int MkA.nil))) (by decide)
          | exact mk_odd (n := 1) (mk_tup (MkA.cons st_pl mk_bl (MkA.cons st_pl mk_int MkA.nil))) (by decide)
          | exact mk_odd (n := 1) (mk_lst (MkA.cons st_pl mk_int (MkA.cons st_pl mk_int MkA.nil))) (by decide)
          | exact mk_odd (n := 1) (mk_tup (MkA.cons st_pl mk_int MkA.nil)) (by decide)
          | exact mk_odd (n := 1) (mk_tup (MkA.cons st_pl mk_int (MkA.cons st_pl (mk_str (by decide +kernel)) MkA.nil))) (by decide)
      · refine ⟨p, p2, vs, vs2, rfl, rfl, g2.keep _ _ np ep, ep2, Nat.le_of_lt (sz_lt (by omega)), fun p3 np3 => ?_⟩
        have g3 := (g1.trans g2).then_new (o := .lst (vs ++ vs2)) np3
        have ep3 : upd H2 p3 (.lst (vs ++ vs2)) p3 = some (.lst (vs ++ vs2)) := upd_same
        have ps3 : ∀ v ∈ vs ++ vs2, POdd K h (upd H2 p3 (.lst (vs ++ vs2))) v := fun v hv => by
          rcases List.mem_append.mp hv with hv | hv
          · exact st_odd _ _ _ (g2.then_new np3) (ps v hv)
          · exact st_odd _ _ _ (Go.new g2.hand np3) (ps2 v hv)
        have n3 : p3 ≠ h := g2.hand.ne np3
        generalize upd H2 p3 (.lst (vs ++ vs2)) = H3 at g3 ep3 ps3 ⊢
        refine ⟨.ref h, rfl, .ref p3, rfl, ?_⟩
        refine lst (n := 1) (MkA.cons st_odd (fun H Q x q => ⟨.ref h, rfl, h, rfl, x, fun v H' g pv => q v H' g ⟨pv.1, .inl pv.2⟩⟩) MkA.nil) (by decide) g3.hand fun p4 vs4 H4 g4 ep4 np4 hl4 ps4 => ?_
        refine ⟨p3, p4, vs ++ vs2, vs4, rfl, rfl, g4.keep _ _ n3 ep3, ep4, Nat.le_of_lt (sz_lt (by rw [List.length_append]; omega)), fun p5 np5 => ?_⟩
        refine ⟨h, .ref p5, (vs ++ vs2) ++ vs4, rfl, (g4.then_new np5).hand, (fun z => g4.hand.ne np5 (V.ref.inj z)), .l (.inl (.inl upd_same)) (by rw [List.length_append, List.length_append]; omega), (by rw [List.length_append, List.length_append]; omega), fun v H' hv g5 => ?_⟩
        refine q v H' (g3.trans ((g4.then_new np5).trans g5)) (st_odd _ _ _ ((Go.new g4.hand np5).trans g5) ?_)
        rcases List.mem_append.mp hv with hv | hv
        · exact st_odd _ _ _ g4 (ps3 v hv)
        · exact ps4 v hv
end
end Zq
namespace Zq
open PySem PySem.Spec PyProof.Rows L2 RZ
/-! ### a thing is like itself -/
mutual
theorem isv_refl : ∀ d : PyData, d.canLay0 = true → isv d d = true
  | .tuple ds, h => by
    rw [PyData.canLay0] at h
    rw [isv]
    exact isvAll_refl ds h
  | .list ds, h => by
    rw [PyData.canLay0] at h
    rw [isv]
    exact isvAll_refl ds h
  | .none, h => by rw [isv_leaf rfl, PySem.SeqAt.eqv_refl _ h]; rfl
  | .bool b, h => by rw [isv_leaf rfl, PySem.SeqAt.eqv_refl _ h]; rfl
  | .int i, h => by rw [isv_leaf rfl, PySem.SeqAt.eqv_refl _ h]; rfl
  | .str x, h => by rw [isv_leaf rfl, PySem.SeqAt.eqv_refl _ h]; rfl
  | .dict kvs, h => by
    rw [PyData.canLay0] at h
    cases h
theorem isvAll_refl : ∀ ds : List PyData, PyData.canLayAll0 ds = true → isvAll ds ds = true
  | [], _ => rfl
  | d :: ds, h => by
    rw [PyData.canLayAll0, Bool.and_eq_true] at h
    rw [isvAll, isv_refl d h.1, isvAll_refl ds h.2]
    rfl
end
section
variable {P : Program} {w : World} {K : PySem.W.Frag} {mg : Str → Option Value} {base : Heap}
theorem fn_or {k : Nat} {f : Addr} {fd : FuncData} {ps : List Str} {sp sp' : Sp} {CX : CXT} (F : FnOk P w K mg base CX k f fd ps sp) (G : FnOk P w K mg base CX k f fd ps sp') : FnOk P w K mg base CX k f fd ps (fun vs H Q E => sp vs H Q E ∨ sp' vs H Q E) :=
  ⟨fun vs H Q E h => h.elim (F.len vs H Q E) (G.len vs H Q E), fun A outer s H args us vs Q E hr he hb hv h => h.elim (F.run A outer s H args us vs Q E hr he hb hv) (G.run A outer s H args us vs Q E hr he hb hv)⟩
/-- one and the same dict -/
def spDS : Sp := fun vs H Q _ => ∃ (p : Addr) (kvs : List (Key × V)), vs = [.ref p, .ref p] ∧ H p = some (.dK kvs) ∧ (∀ kv ∈ kvs, valV kvs kv.1 = some kv.2 ∧ flatB kv.2 = true) ∧ ∀ H', Same H H' → Q (.bl true) H'
abbrev sIsd : Stmt := topS 36
abbrev NscIsd : List Str := ["_law_told", "_law_due", "_law_one", "_law_two"]
theorem scIsd : FnScope ["_law_told", "_law_due", "_law_one", "_law_two"] ["_law_told", "_law_due"] (defScope sIsd) := ⟨rfl, rfl, rfl, by decide +kernel, rfl, by decide +kernel, by decide +kernel⟩
theorem kitD_seq : PySem.W.kitAny K (.type "dict") [.type "tuple", .type "list"] = some false :=
  kitAny_cons (b := false) (kit_ty (by decide +kernel)) (fun _ => kitAny_cons (b := false) (kit_ty (by decide +kernel)) (fun _ => kitAny_nil) (fun z => nomatch z)) (fun z => nomatch z)
theorem ok_isd {n : Nat} {f : Addr} {fd : FuncData} (F : Fun K "_law_is" "_law_is" sIsd f fd) (T : Txt mg) (C__law_is : Own P w K mg base CX0 n "_law_is" ["_law_told", "_law_due"] (spIs K n)) :
    FnOk P w K mg base CX0 (n + 1) f fd ["_law_told", "_law_due"] spDS := by
  refine F.ok scIsd (fun vs H Q E h => ?_) (fun cdv A outer s H vs Q E hr h => ?_)
  · obtain ⟨p, kvs, rfl, _⟩ := h
    rfl
  · obtain ⟨p, kvs, rfl, hp, hv, q⟩ := h
    refine ⟨_, (pss_cons (ps_if (pt_val (pe_callB call_isiT (by rfl) T.nisinstance (by decide +kernel) (pa_cons (pv 1) (pa_cons (pe_tup (pa_cons (pe_bltn (v := .ty "tuple") (by rfl) T.ntuple (by decide +kernel) rfl) (pa_cons (pe_bltn (v := .ty "list") (by rfl) T.nlist (by decide +kernel) rfl) pa_nil))) pa_nil)))) (pss_cons (ps_if (PW.pt (pw_or (pt_cmpR op_ne (pe_callB call_isi (by rfl) T.nisinstance (by decide +kernel) (pa_cons (pv 0) (pa_cons (pe_bltn (v := .ty "tuple") (by rfl) T.ntuple (by decide +kernel) rfl) pa_nil))) (pe_callB call_isi (by rfl) T.nisinstance (by decide +kernel) (pa_cons (pv 1) (pa_cons (pe_bltn (v := .ty "tuple") (by rfl) T.ntuple (by decide +kernel) rfl) pa_nil))) (nomark _)) (pw_or1 (pt_not (pt_val (pe_callB call_isiT (by rfl) T.nisinstance (by decide +kernel) (pa_cons (pv 0) (pa_cons (pe_tup (pa_cons (pe_bltn (v := .ty "tuple") (by rfl) T.ntuple (by decide +kernel) rfl) (pa_cons (pe_bltn (v := .ty "list") (by rfl) T.nlist (by decide +kernel) rfl) pa_nil))) pa_nil)))))))) (pss_one (ps_ret pe_bl)) pss_nil)
        (pss_one (ps_ret (pe_and (pe_cmpR op_eq (pe_callB call_len_seq (by rfl) T.nlen (by decide +kernel) (pa_cons (pv 0) pa_nil)) (pe_callB call_len_seq (by rfl) T.nlen (by decide +kernel) (pa_cons (pv 1) pa_nil)) (nomark _)) (pe_one (pe_callB (cr_all rfl) (by rfl) T.nall (by decide +kernel) (pa_cons (pe_lc (g := gTup K 2 (gCons (gName 2) (gCons (gName 3) gNil))) (own := [("_law_one", 2), ("_law_two", 3)]) (by rfl) scIsd.nd (pi_zipA (by rfl) T.nzip (pa_cons (pv 0) (pa_cons (pv 1) pa_nil))) (blkOk_by (own := [("_law_one", 2), ("_law_two", 3)]) (N := NscIsd) (sc := defScope sIsd) (by decide +kernel)) (fun _ _ _ _ _ => (by exact (pg_tup rfl (pgs_cons (pg_name (i := 2) scIsd.nd rfl (Or.inl rfl)) (pgs_cons (pg_name (i := 3) scIsd.nd rfl (Or.inl rfl)) pgs_nil))))) (fun _ _ _ _ _ => pts_nil) (fun _ _ _ _ _ => (pe_own C__law_is hr (pa_cons (pv 2) (pa_cons (pv 3) pa_nil))))) pa_nil))))))) pss_nil)
      (pss_one (ps_ret (pe_and (pe_cmpR op_eq (pe_callB call_isi (by rfl) T.nisinstance (by decide +kernel) (pa_cons (pv 0) (pa_cons (pe_bltn (v := .ty "bool") (by rfl) T.nbool (by decide +kernel) rfl) pa_nil))) (pe_callB call_isi (by rfl) T.nisinstance (by decide +kernel) (pa_cons (pv 1) (pa_cons (pe_bltn (v := .ty "bool") (by rfl) T.nbool (by decide +kernel) rfl) pa_nil))) (nomark _)) (pe_one (pe_cmpR (op_eq_dictA (Nat.lt_of_le_of_lt (Nat.le_add_right _ _) hr.units)) (pv 0) (pv 1) (nomark _))))))), ?_⟩
    refine ⟨.ref p, rfl, (by show 2 ≤ sizeLine; decide), fun tp htp => ⟨.ref p, tp, [.ty "tuple", .ty "list"], _, _, _, rfl, upd_same, .cons (.ty _) (.cons (.ty _) .nil), .base (.dK (by rw [upd_ne (ne_of_none hp htp)]; exact hp)), kitD_seq, _, rfl, ?_⟩⟩
    refine ite2 (fun he => nomatch he) (fun he => ?_)
    have hp' : upd H tp (.tup [.ty "tuple", .ty "list"]) p = some (.dK kvs) := by rw [upd_ne (ne_of_none hp htp)]; exact hp
    refine ⟨.ref p, rfl, ⟨.ref p, .ty "bool", _, _, _, rfl, .ty _, .base (.dK hp'), kit_ty (r := false) (by decide +kernel), .ref p, rfl, ⟨.ref p, .ty "bool", _, _, _, rfl, .ty _, .base (.dK hp'), kit_ty (r := false) (by decide +kernel), rfl, _, rfl, ?_⟩⟩⟩
    refine ite2 (fun hb => ?_) (fun hb => absurd (by decide) hb)
    exact ⟨.ref p, rfl, .ref p, rfl, p, p, kvs, kvs, rfl, rfl, hp', hp', rfl, hv, q _ (same_new htp)⟩
/-- the defs' facts by name -/
structure Raw (K : PySem.W.Frag) (mg : Str → Option Value) (x : Str) (ps : List Str) (f : Addr) (fd : FuncData) : Prop where
  hm : mg x = some (.ref f)
  kp : PySem.W.keepIn K (.ref f) = true
  bs : Binds K fd ps []
theorem Raw.own {k : Nat} {x : Str} {ps : List Str} {f : Addr} {fd : FuncData} {sp : Sp} {CX : CXT} (R : Raw K mg x ps f fd) (G : FnOk P w K mg base CX k f fd ps sp) : Own P w K mg base CX k x ps sp :=
  ⟨⟨f, fd, R.hm, R.kp, G, R.bs⟩⟩
theorem own_is {f : Addr} {fd : FuncData} (R : Raw K mg "_law_is" ["_law_told", "_law_due"] f fd) (F : Fun K "_law_is" "_law_is" sIs f fd) (T : Txt mg) : ∀ n, Own P w K mg base CX0 n "_law_is" ["_law_told", "_law_due"] (spIs K n)
  | 0 => R.own ⟨fun _ _ _ _ h => h.elim, fun _ _ _ _ _ _ _ _ _ _ _ _ _ h => h.elim⟩
  | n + 1 => R.own (ok_is n F T (own_is R F T n))
/-- told and due are one and the same odd thing -/
def spIsS (K : PySem.W.Frag) : Sp := fun vs H Q _ => ∃ v : V, vs = [v, v] ∧ Odd K H v ∧ ∀ H', Same H H' → Q (.bl true) H'
theorem own_isS {f : Addr} {fd : FuncData} (R : Raw K mg "_law_is" ["_law_told", "_law_due"] f fd) (F : Fun K "_law_is" "_law_is" sIs f fd) (T : Txt mg) : Own P w K mg base CX0 27 "_law_is" ["_law_told", "_law_due"] (spIsS K) := by
  refine R.own ((fn_or (ok_is 26 F T (own_is R F T 26)) (ok_isd (n := 26) F T (own_is R F T 26))).imp fun vs H Q E h => ?_)
  obtain ⟨v, rfl, o, q⟩ := h
  rcases o with ⟨d, a, b, c, e⟩ | ⟨p, kvs, rfl, g, c⟩
  · have sh : SeqAt.shaped d = true := by
      unfold SeqAt.shaped
      rw [b, decide_eq_true (show d.depth ≤ 64 by omega)]
      rfl
    refine .inl ⟨v, v, d, d, rfl, a, a, sh, sh, c, (by show d.depth ≤ 26; omega), fun H' s => ?_⟩
    rw [isv_refl d b]
    exact q H' s
  · exact .inr ⟨p, kvs, rfl, g, c, q⟩
end
end Zq
namespace Zq
open PySem PySem.Spec PyProof.Rows L2
/-! ### exceptions as values -/
/-- what the module tells of an error class -/
structure ErrC (K : PySem.W.Frag) (C : Addr) : Prop where
  oex : OexC K C
  exc : ExcC K C
/-- an error of this class: bare, or with its dict -/
def ErrAt (H : Hp) (a C : Addr) : Prop := H a = some (exo a C none) ∨ ∃ (dx : Addr) (fs : List (Str × V)), H a = some (exo a C (some dx)) ∧ H dx = some (exd dx fs)
theorem ErrAt.same {H H' : Hp} {a C : Addr} (s : Same H H') (x : ErrAt H a C) : ErrAt H' a C := by
  rcases x with x | ⟨dx, fs, e1, e2⟩
  · exact .inl (s _ _ x)
  · exact .inr ⟨dx, fs, s _ _ e1, s _ _ e2⟩
section
variable {X : Cx} {pins : List (Addr × Obj)} {σ : L2.St} {H : Hp} {s : Shared}
theorem err_inst {a C : Addr} (hok : HOk X.prog X.w H s.heap) (x : ErrAt H a C) : ∃ (ox : Obj) (od : Option Obj), PySem.W.InstAt s.heap a ox C od := by
  rcases x with x | ⟨dx, fs, e1, e2⟩
  · obtain ⟨t1, h⟩ := exo_at hok x
    exact ⟨_, none, h, rfl, rfl, True.intro⟩
  · obtain ⟨t1, h⟩ := exo_at hok e1
    obtain ⟨mA, ⟨o, es, ep, ho, hr⟩, _⟩ := exd_at hok e2
    exact ⟨_, some o, h, rfl, rfl, ho⟩
/-- isinstance(e, c) -/
def rIsErr (K : PySem.W.Frag) : List V → Hp → VK → Prop := fun xs H Q => ∃ (a C : Addr) (c : V) (u : Value) (b : Bool), xs = [.ref a, c] ∧ ErrC K C ∧ ErrAt H a C ∧ ClsV c u ∧ PySem.W.kitOne K (.ref C) u = some b ∧ Q (.bl b) H
theorem call_isErr : CallR X (.builtin "isinstance") (rIsErr X.K) := by
  intro pins s σ H xs us Q I r h
  obtain ⟨a, C, c, u, b, rfl, T, ea, k, e, q⟩ := h
  obtain ⟨u1, u2, rfl, r1, r2⟩ := vals2 r
  have e2 := k.eq r2
  subst e2
  cases (show u1 = Value.ref a from r1)
  obtain ⟨ox, od, J⟩ := err_inst I.hok ea
  have hcl : (PySem.W.clsIn X.K C).isSome = true := by
    obtain ⟨cd, hc, _⟩ := PySem.W.any_some T.exc.hd
    rw [hc]
    rfl
  exact PySem.W.kia_one (PySem.W.kitx_exc hcl T.exc.hg T.exc.hk T.exc.hs T.exc.ha T.exc.hn T.exc.ht T.exc.hm) I.kIn J e (fun z => nomatch z) fun tk => ⟨.bl b, H, I.tok tk, rfl, q⟩
/-- e.f -/
def tErrF (K : PySem.W.Frag) (f : Str) (te : TE) : TE := fun σ H Q => te σ H fun x H1 => ∃ (a C dx : Addr) (fs : List (Str × V)) (v : V), x = .ref a ∧ ErrC K C ∧ PySem.W.findIn K (.ref C) f = some none ∧ H1 a = some (exo a C (some dx)) ∧ H1 dx = some (exd dx fs) ∧ fs.lookup f = some v ∧ Q v H1
theorem pe_errF {e : Expr} {te : TE} {pos : Pos} {n : Str} (he : PE X e te) (hb : attributeBase e n X.env (eval e X.env) = eval e X.env := by rfl) : PE X (.Attribute e n pos) (tErrF X.K n te) := by
  refine ⟨fun pins s σ H Q I h => ?_⟩
  refine attr_of hb (thn (he.run pins s σ H _ I h) fun u s1 hh => ?_)
  obtain ⟨x, H1, I1, rx, a, C, dx, fs, v, ex, T, hno, ea, ed, l, q⟩ := hh
  subst ex
  obtain rfl : u = Value.ref a := rx
  obtain ⟨t1, ho⟩ := exo_at I1.hok ea
  obtain ⟨mA, hns, hr⟩ := exd_at I1.hok ed
  obtain ⟨od, hod, hl⟩ := lookIn_ns hns
  obtain ⟨u, hu, ru⟩ := RelO.some_of (v := v) (o := mA n) (by rw [← l]; exact hr n)
  have J : PySem.W.InstAt s1.heap a _ C (some od) := ⟨ho, rfl, rfl, hod⟩
  exact HandSPX.exc_get I1.kIn J T.exc.hg T.exc.hk T.exc.hs (PySem.W.findObj_own T.exc.hd hno rfl (by rw [hl, hu])) (handed_of ru) ⟨v, H1, I1.tok _, ru, q⟩
/-- a class by its name -/
theorem pe_cls {x : Str} {C : Addr} {pos : Pos} (hm : X.mg x = some (.ref C)) (hg : Gl X x := by rfl) (hdb : (x == ("__debug__" : Str)) = false := by decide) : PE X (.Name x pos) (tC (.ref C)) :=
  ⟨fun pins s σ H Q I h => ld_glob I hg hm ⟨.ref C, H, I, rfl, h⟩ hdb⟩
end
/-- C(..), its __init__ keeping sp -/
structure MkE (P : Program) (w : World) (K : PySem.W.Frag) (mg : Str → Option Value) (base : Heap) (k : Nat) (x : Str) (C : Addr) (ps : List Str) (sp : Sp) : Prop where
  gC : mg x = some (.ref C)
  err : ErrC K C
  ex : ∃ (fI : Addr) (fd : FuncData), PySem.W.findIn K (.ref C) "__init__" = some (some (.ref fI)) ∧ PySem.W.typeIn K (.ref fI) = some (.type "function") ∧ FnOk P w K mg base CX0 k fI fd ps sp ∧ Binds K fd ps []
def tMkE (C : Addr) (sp : Sp) (ta : TA) : TE := fun σ H Q => ta σ H fun vs H1 => vs.length ≤ 1000 ∧ ∀ a, H1 a = none → sp (.ref a :: vs) (upd H1 a (exo a C none)) (fun v H2 => v = .non ∧ Q (.ref a) H2) E0
section
variable {X : Cx} {k k' : Nat} {x : Str} {C : Addr} {ps : List Str} {sp : Sp} {e : Expr} {es : List Expr} {ta : TA} {p pos : Pos}
theorem mke_run (M : MkE X.prog X.w X.K X.mg X.base k x C ps sp) (hr : Room k' X.A) (hk : k + 1 ≤ k') {pins : List (Addr × Obj)} {s1 : Shared} {σ : L2.St} {H1 : Hp} {vs : List V} {us : List Value} {Q : VK} (I1 : Inv X pins σ H1 s1) (r1 : Vals vs us) (hz : vs.length ≤ 1000)
    (q1 : ∀ a, H1 a = none → sp (.ref a :: vs) (upd H1 a (exo a C none)) (fun v H2 => v = .non ∧ Q (.ref a) H2) E0) : wpAny (model X.prog X.w) X.A (call (.ref C) us) (EP X pins σ Q) X.xe s1 := by
  obtain ⟨fI, fd, iC, tI, F1, hb⟩ := M.ex
  have T := M.err.oex
  have hr := hr.mono hk
  obtain ⟨nm, q, N, bs, bm, sn, sub, ab, col, dd, k0, k1, k2, k3, k5, hC, hbm⟩ := T.cls
  obtain ⟨hp, g, dr, tk, os⟩ := s1
  have hsz : hp.objs.size ≤ hp.objs.size + 1 := Nat.le_succ _
  have hn : H1 (hp.objs.size + 1) = none := I1.hok.fresh hsz
  have hq := q1 (hp.objs.size + 1) hn
  have kk : ∀ b o, hp.get? b = some o → ((hp.push (PySem.W.kdv_tup us)).push (PySem.HandSPX.excO C hp.objs.size)).get? b = some o := fun b o e => Heap.get?_push_of_some _ (Heap.get?_push_of_some _ e)
  have hget : ((hp.push (PySem.W.kdv_tup us)).push (PySem.HandSPX.excO C hp.objs.size)).get? (hp.objs.size + 1) = some (PySem.HandSPX.excO C hp.objs.size) := by heap_get
  have I2 : Inv X pins σ (upd H1 (hp.objs.size + 1) (exo (hp.objs.size + 1) C none)) ⟨(hp.push (PySem.W.kdv_tup us)).push (PySem.HandSPX.excO C hp.objs.size), g, dr, tk, os⟩ :=
    I1.laid (t' := tk) (a := hp.objs.size + 1) (o := exo (hp.objs.size + 1) C none) (h' := (hp.push (PySem.W.kdv_tup us)).push (PySem.HandSPX.excO C hp.objs.size)) kk hsz (exo_ok hget)
  have r2 : Vals (V.ref (hp.objs.size + 1) :: vs) (Value.ref (hp.objs.size + 1) :: us) := .cons rfl r1
  have hl : (Value.ref (hp.objs.size + 1) :: us).length = ps.length := by
    have e := r2.length
    rw [F1.len _ _ _ _ hq] at e
    exact e.symm
  have hus : us.length ≤ sizeLine := by
    rw [← Paired.length r1, sizeLine_eq]
    omega
  have hbb := hb _ (Value.ref (hp.objs.size + 1) :: us) I2.kIn (by rw [List.append_nil]; exact hl)
  rw [List.append_nil] at hbb
  refine wpAny_call (PySem.HandSPX.call_own F.excBase_ValueError (fun Y => PySem.HandSPX.refsVE_contains Y bm hbm) (I1.kIn _ _ hC) (PySem.W.looks_findIn I1.kIn iC) (fun self => PySem.W.bind_fn I1.kIn self tI) hus
    (codeAny_mono (F1.run _ X.stack _ _ ⟨Value.ref (hp.objs.size + 1) :: us, []⟩ (Value.ref (hp.objs.size + 1) :: us) _ _ E0 (hr.make C us []) (I2.env0.make C us []) hbb r2 hq) fun r s' hq' => ?_))
  cases r with
  | error er => exact pass0 pins σ _ _ er s' I2 hq'
  | ok fl =>
    cases fl with
    | ret u =>
      obtain ⟨v, H2, os2, bare2, un2, hok2, rv, ev, q2⟩ := hq'
      subst ev
      obtain ⟨h2, g2, d2, t2, os'⟩ := s'
      obtain rfl : os' = os := os2
      exact ⟨rv, .ref (hp.objs.size + 1), H2, I2.call (h' := h2) (g' := g2) (d' := d2) (t' := t2) (ch := []) un2 hok2 bare2 (fun b z => absurd z (by simp)), rfl, q2⟩
    | next => exact False.elim hq'
    | brk => exact False.elim hq'
    | cont => exact False.elim hq'
theorem pe_mke (M : MkE X.prog X.w X.K X.mg X.base k x C ps sp) (hr : Room k' X.A) (ha : PA X (e :: es) ta) (hk : k + 1 ≤ k' := by first | decide | omega) (hg : Gl X x := by rfl)
    (hdb : (x == ("__debug__" : Str)) = false := by decide) (he : starEach (e :: es) X.env = (false, eval e X.env) :: starEach es X.env := by rfl) (hpl : (backTo pos (starEach es X.env)).any (·.1) = false := by rfl) :
    PE X (.Call (.Name x p) (e :: es) [] pos) (tMkE C sp ta) := by
  refine ⟨fun pins s σ H Q I h => ?_⟩
  refine wpAny_Call_Name_kw (ld_glob I hg M.gC ?_ hdb)
  exact PySem.W.callWith_K (h₀ := X.base) I.ok.mod.kin M.err.oex.kC (thn (ha.run pos pins s σ H _ I h) fun us s1 ⟨vs, H1, I1, r1, hz, q1⟩ => ⟨I1.kIn, mke_run M hr hk I1 r1 hz q1⟩) he hpl
theorem pe_mke0 (M : MkE X.prog X.w X.K X.mg X.base k x C ps sp) (hr : Room k' X.A) (hk : k + 1 ≤ k' := by first | decide | omega) (hg : Gl X x := by rfl)
    (hdb : (x == ("__debug__" : Str)) = false := by decide) : PE X (.Call (.Name x p) [] [] pos) (tMkE C sp tNil) := by
  refine ⟨fun pins s σ H Q I h => ?_⟩
  refine wpAny_Call_Name_kw (ld_glob I hg M.gC ?_ hdb)
  exact PySem.W.callWith_K0 I.kIn M.err.oex.kC (mke_run M hr hk I .nil h.1 h.2)
end
end Zq
namespace Zq
open PySem PySem.Spec PyProof.Rows L2
/-! ### error classes, by one look at what is written -/
/-- the class at C: LogError itself (at L), or one that derives from it -/
def oexB (K : PySem.W.Frag) (L C : Addr) : Bool := match K.lookup C with
  | some ⟨.type "type", _, .cls cd, sl⟩ => (match cd.mro, sl.toList with
    | .ref C' :: bm, [_, _, _, _, some (.builtin n), _] => C' == C && (n == "ValueError.__new__" && (cd.hasDict && (!cd.hasDel && (bm == if C = L then PySem.HandSPX.veTail else .ref L :: PySem.HandSPX.veTail))))
    | _, _ => false)
  | _ => false
theorem oexB_ok {K : PySem.W.Frag} {L C : Addr} (h : oexB K L C = true) : ∃ nm q N bs bm sn sub ab col dd k0 k1 k2 k3 k5,
    K.lookup C = some (excClassObj nm q C N bs bm true sn sub ab col dd k0 k1 k2 k3 k5 "ValueError.__new__") ∧ bm = if C = L then PySem.HandSPX.veTail else .ref L :: PySem.HandSPX.veTail := by
  unfold oexB at h
  split at h
  · rename_i dd cd sl e
    split at h
    · rename_i C' bm k0 k1 k2 k3 n k5 em es
      obtain ⟨h1, h⟩ := Bool.and_eq_true_iff.mp h
      obtain ⟨h2, h⟩ := Bool.and_eq_true_iff.mp h
      obtain ⟨h3, h⟩ := Bool.and_eq_true_iff.mp h
      obtain ⟨h4, h5⟩ := Bool.and_eq_true_iff.mp h
      have h1 := eq_of_beq h1
      have h2 := eq_of_beq h2
      have h5 := eq_of_beq h5
      obtain ⟨nm, bs, mro, ns, qn, hd, sn, sub, ab, col, dl⟩ := cd
      obtain ⟨l⟩ := sl
      dsimp only at em es h3 h4
      subst h1 h2 em es h3
      have h4 : dl = false := by cases dl <;> first | rfl | cases h4
      subst h4
      exact ⟨nm, qn, ns, bs, bm, sn, sub, ab, col, dd, k0, k1, k2, k3, k5, e, h5⟩
    · cases h
  · cases h
/-- all that is asked of one class -/
def errB (K : PySem.W.Frag) (L C : Addr) : Bool := oexB K L C && (decide (PySem.W.findIn K (.ref C) "__setattr__" = some (some (.builtin "object.__setattr__"))) && (decide (PySem.W.typeIn K (.ref C) = some (.type "type")) && (PySem.W.keepIn K (.ref C) &&
  (decide (PySem.W.findIn K (.ref C) "__getattribute__" = some (some (.builtin "BaseException.__getattribute__"))) && (decide (PySem.W.findIn K (.ref C) "__getattr__" = some none) && decide (PySem.W.findIn K (.ref C) "__class__" = some (some (.builtin "object.__class__"))))))))
/-- what it says of the built-in things -/
def bltB (K : PySem.W.Frag) : Bool := decide (PySem.W.specialIn K (.builtin "object.__class__") "__get__" = some (some (.builtin "getset_descriptor.__get__"))) && decide (PySem.W.takesIn K (.builtin "object.__class__") = some true)
theorem errB_ok {K : PySem.W.Frag} {L C : Addr} (h : errB K L C = true) (b : bltB K = true) : ErrC K C ∧ ∃ cd, PySem.W.clsIn K C = some cd ∧ cd.mro = .ref C :: if C = L then PySem.HandSPX.veTail else .ref L :: PySem.HandSPX.veTail := by
  obtain ⟨h1, h⟩ := Bool.and_eq_true_iff.mp h
  obtain ⟨h2, h⟩ := Bool.and_eq_true_iff.mp h
  obtain ⟨h3, h⟩ := Bool.and_eq_true_iff.mp h
  obtain ⟨h4, h⟩ := Bool.and_eq_true_iff.mp h
  obtain ⟨h5, h⟩ := Bool.and_eq_true_iff.mp h
  obtain ⟨h6, h7⟩ := Bool.and_eq_true_iff.mp h
  obtain ⟨b1, b2⟩ := Bool.and_eq_true_iff.mp b
  obtain ⟨nm, q, N, bs, bm, sn, sub, ab, col, dd, k0, k1, k2, k3, k5, e, hb⟩ := oexB_ok h1
  have hc : PySem.W.clsIn K C = some { name := nm, bases := bs, mro := .ref C :: bm, ns := N, qualname := q, hasDict := true, slotNames := sn, subclasses := sub, abstract := ab, collection := col, hasDel := false } := by
    unfold PySem.W.clsIn
    rw [e]
  have hr : PySem.HandSPX.refsVE bm = true := by
    rw [hb]
    split <;> (show PySem.HandSPX.refsVE PySem.HandSPX.veTail = true; decide +kernel)
  have mro : ∀ T : String, PySem.HandSPX.veTail.contains (.type T) = true → PySem.W.mroIn K C (.type T) = some true := fun T hT => by
    unfold PySem.W.mroIn
    rw [hc, Option.bind_some]
    show some ((Value.ref C :: bm).contains (.type T)) = some true
    rw [PySem.HandSPX.refsVE_contains T (.ref C :: bm) hr, hT]
  have sub : PySem.W.subIn K (.ref C) (.type "BaseException") = some true := mro "BaseException" (by decide +kernel)
  exact ⟨⟨⟨⟨nm, q, N, bs, bm, sn, _, ab, col, dd, k0, k1, k2, k3, k5, e, hr⟩, of_decide_eq_true h2, sub, of_decide_eq_true h3, h4⟩,
    ⟨of_decide_eq_true h5, of_decide_eq_true h6, sub, by unfold PySem.W.hasDictIn; rw [hc]; rfl, of_decide_eq_true h7, of_decide_eq_true b1, of_decide_eq_true b2, mro "object" (by decide +kernel)⟩⟩, _, hc, by rw [hb]⟩
/-- isinstance of one class's error, another class asked -/
theorem kit_err {K : PySem.W.Frag} {L C D : Addr} (hC : errB K L C = true) (hD : errB K L D = true) (b : bltB K = true) : PySem.W.kitOne K (.ref C) (.ref D) = some (decide (C = D ∨ D = L)) := by
  obtain ⟨⟨oC, eC⟩, cd, hc, hm⟩ := errB_ok hC b
  obtain ⟨⟨oD, eD⟩, cd2, hc2, hm2⟩ := errB_ok hD b
  unfold PySem.W.kitOne PySem.W.kitCls
  by_cases h : C = D
  · subst h
    rw [if_pos (by exact beq_self_eq_true _), decide_eq_true (.inl rfl)]
  · rw [if_neg (fun z => h (Value.ref.inj (eq_of_beq z)))]
    dsimp only
    rw [if_pos (by rw [hc2, oD.tyC]; rfl)]
    show PySem.W.mroIn K C (.ref D) = _
    unfold PySem.W.mroIn
    rw [hc, Option.bind_some, hm, if_neg (by simp)]
    have hx : (Value.ref C :: if C = L then PySem.HandSPX.veTail else .ref L :: PySem.HandSPX.veTail).contains (.ref D) = decide (C = D ∨ D = L) := by
      rw [Bool.eq_iff_iff, List.contains_iff_mem, decide_eq_true_iff]
      by_cases hl : C = L
      · rw [if_pos hl]
        simp [PySem.HandSPX.veTail, h]
        constructor
        · intro z; exact absurd z.symm h
        · intro z; exact absurd (hl.trans z.symm) h
      · rw [if_neg hl]
        simp [PySem.HandSPX.veTail, h]
        intro z
        exact absurd z.symm h
    rw [hx]
theorem kit_errV {K : PySem.W.Frag} {L C : Addr} (hC : errB K L C = true) (b : bltB K = true) : PySem.W.kitOne K (.ref C) (.type "ValueError") = some true := by
  obtain ⟨_, cd, hc, hm⟩ := errB_ok hC b
  unfold PySem.W.kitOne PySem.W.kitCls
  rw [if_neg (by intro z; exact nomatch eq_of_beq z)]
  dsimp only
  rw [if_pos (by decide +kernel)]
  show PySem.W.mroIn K C (.type "ValueError") = _
  unfold PySem.W.mroIn
  rw [hc, Option.bind_some, hm, if_neg (by simp)]
  have hx : (Value.ref C :: if C = L then PySem.HandSPX.veTail else .ref L :: PySem.HandSPX.veTail).contains (.type "ValueError") = true := by
    rw [List.contains_iff_mem]
    split <;> simp [PySem.HandSPX.veTail]
  rw [hx]
/-- the built-in names that no def of ours hides -/
def bltNames : List Str := ["abs", "int", "len", "range", "zip", "all", "any", "isinstance", "tuple", "list", "str", "bool", "dict", "enumerate", "sorted", "set", "max", "min", "sum", "ValueError"]
def txtB (K : PySem.W.Frag) : Bool := bltNames.all fun x => decide (PySem.W.nsIn K mainGlobals x = some none)
theorem txt_of {K : PySem.W.Frag} {h : Heap} {mg : Str → Option Value} (X : K.In h) (G : h.Ns mainGlobals mg) (t : txtB K = true) : Txt mg := by
  have one : ∀ x ∈ bltNames, mg x = none := fun x hx => PySem.W.mg_none_of X G (of_decide_eq_true (List.all_eq_true.mp t x hx))
  exact ⟨one _ (by simp [bltNames]), one _ (by simp [bltNames]), one _ (by simp [bltNames]), one _ (by simp [bltNames]), one _ (by simp [bltNames]), one _ (by simp [bltNames]), one _ (by simp [bltNames]), one _ (by simp [bltNames]), one _ (by simp [bltNames]), one _ (by simp [bltNames]),
    one _ (by simp [bltNames]), one _ (by simp [bltNames]), one _ (by simp [bltNames]), one _ (by simp [bltNames]), one _ (by simp [bltNames]), one _ (by simp [bltNames]), one _ (by simp [bltNames]), one _ (by simp [bltNames]), one _ (by simp [bltNames]), one _ (by simp [bltNames])⟩
end Zq
namespace Zq
open PySem PySem.Spec PyProof.Rows L2
/-- __init__ of one field -/
def spIni (K : PySem.W.Frag) (f : Str) : Sp := fun vs H Q _ => ∃ (a C : Addr) (v : V), vs = [.ref a, v] ∧ OexC K C ∧ PySem.W.findIn K (.ref C) f = some none ∧ H a = some (exo a C none) ∧
  ∀ dx, H dx = none → dx ≠ a → Q .non (upd (upd H dx (exd dx [(f, v)])) a (exo a C (some dx)))
/-- __init__ of none -/
def spNo : Sp := fun vs H Q _ => ∃ a : Addr, vs = [.ref a] ∧ Q .non H
section
variable {P : Program} {w : World} {K : PySem.W.Frag} {mg : Str → Option Value} {base : Heap}
abbrev sI_LogError : Stmt := inClass (topS 1) 0
abbrev NscI_LogError : List Str := ["self"]
theorem scI_LogError : FnScope ["self"] ["self"] (defScope sI_LogError) := ⟨rfl, rfl, rfl, by decide +kernel, rfl, by decide +kernel, by decide +kernel⟩
theorem ok_i_LogError {f : Addr} {fd : FuncData} (F : Fun K "__init__" "LogError.__init__" sI_LogError f fd) : FnOk P w K mg base CX0 1 f fd ["self"] spNo := by
  refine F.ok scI_LogError (fun vs H Q E h => ?_) (fun cdv A outer s H vs Q E hr h => ?_)
  · obtain ⟨a, rfl, _⟩ := h
    rfl
  · obtain ⟨a, rfl, q⟩ := h
    exact ⟨_, (pss_one ps_pass), q⟩
abbrev sI_BadBook : Stmt := inClass (topS 2) 0
abbrev NscI_BadBook : List Str := ["self", "part"]
theorem scI_BadBook : FnScope ["self", "part"] ["self", "part"] (defScope sI_BadBook) := ⟨rfl, rfl, rfl, by decide +kernel, rfl, by decide +kernel, by decide +kernel⟩
theorem ok_i_BadBook {f : Addr} {fd : FuncData} (F : Fun K "__init__" "BadBook.__init__" sI_BadBook f fd) : FnOk P w K mg base CX0 1 f fd ["self", "part"] (spIni K "part") := by
  refine F.ok scI_BadBook (fun vs H Q E h => ?_) (fun cdv A outer s H vs Q E hr h => ?_)
  · obtain ⟨a, C, v, rfl, _⟩ := h
    rfl
  · obtain ⟨a, C, v, rfl, T, hno, ea, q⟩ := h
    exact ⟨_, (pss_one (ps_ost (pv 0) (pv 1))), ⟨v, rfl, .ref a, rfl, a, C, rfl, T, hno, .inl ⟨ea, fun dx n ne => q dx n ne⟩⟩⟩
abbrev sI_NoStriking : Stmt := inClass (topS 5) 0
abbrev NscI_NoStriking : List Str := ["self", "at"]
theorem scI_NoStriking : FnScope ["self", "at"] ["self", "at"] (defScope sI_NoStriking) := ⟨rfl, rfl, rfl, by decide +kernel, rfl, by decide +kernel, by decide +kernel⟩
theorem ok_i_NoStriking {f : Addr} {fd : FuncData} (F : Fun K "__init__" "NoStriking.__init__" sI_NoStriking f fd) : FnOk P w K mg base CX0 1 f fd ["self", "at"] (spIni K "at") := by
  refine F.ok scI_NoStriking (fun vs H Q E h => ?_) (fun cdv A outer s H vs Q E hr h => ?_)
  · obtain ⟨a, C, v, rfl, _⟩ := h
    rfl
  · obtain ⟨a, C, v, rfl, T, hno, ea, q⟩ := h
    exact ⟨_, (pss_one (ps_ost (pv 0) (pv 1))), ⟨v, rfl, .ref a, rfl, a, C, rfl, T, hno, .inl ⟨ea, fun dx n ne => q dx n ne⟩⟩⟩
abbrev sI_TooMany : Stmt := inClass (topS 9) 0
abbrev NscI_TooMany : List Str := ["self", "most"]
theorem scI_TooMany : FnScope ["self", "most"] ["self", "most"] (defScope sI_TooMany) := ⟨rfl, rfl, rfl, by decide +kernel, rfl, by decide +kernel, by decide +kernel⟩
theorem ok_i_TooMany {f : Addr} {fd : FuncData} (F : Fun K "__init__" "TooMany.__init__" sI_TooMany f fd) : FnOk P w K mg base CX0 1 f fd ["self", "most"] (spIni K "most") := by
  refine F.ok scI_TooMany (fun vs H Q E h => ?_) (fun cdv A outer s H vs Q E hr h => ?_)
  · obtain ⟨a, C, v, rfl, _⟩ := h
    rfl
  · obtain ⟨a, C, v, rfl, T, hno, ea, q⟩ := h
    exact ⟨_, (pss_one (ps_ost (pv 0) (pv 1))), ⟨v, rfl, .ref a, rfl, a, C, rfl, T, hno, .inl ⟨ea, fun dx n ne => q dx n ne⟩⟩⟩
abbrev sI_BadMachine : Stmt := inClass (topS 16) 0
abbrev NscI_BadMachine : List Str := ["self", "part"]
theorem scI_BadMachine : FnScope ["self", "part"] ["self", "part"] (defScope sI_BadMachine) := ⟨rfl, rfl, rfl, by decide +kernel, rfl, by decide +kernel, by decide +kernel⟩
theorem ok_i_BadMachine {f : Addr} {fd : FuncData} (F : Fun K "__init__" "BadMachine.__init__" sI_BadMachine f fd) : FnOk P w K mg base CX0 1 f fd ["self", "part"] (spIni K "part") := by
  refine F.ok scI_BadMachine (fun vs H Q E h => ?_) (fun cdv A outer s H vs Q E hr h => ?_)
  · obtain ⟨a, C, v, rfl, _⟩ := h
    rfl
  · obtain ⟨a, C, v, rfl, T, hno, ea, q⟩ := h
    exact ⟨_, (pss_one (ps_ost (pv 0) (pv 1))), ⟨v, rfl, .ref a, rfl, a, C, rfl, T, hno, .inl ⟨ea, fun dx n ne => q dx n ne⟩⟩⟩
abbrev sI_Gone : Stmt := inClass (topS 26) 0
abbrev NscI_Gone : List Str := ["self", "number"]
theorem scI_Gone : FnScope ["self", "number"] ["self", "number"] (defScope sI_Gone) := ⟨rfl, rfl, rfl, by decide +kernel, rfl, by decide +kernel, by decide +kernel⟩
theorem ok_i_Gone {f : Addr} {fd : FuncData} (F : Fun K "__init__" "Gone.__init__" sI_Gone f fd) : FnOk P w K mg base CX0 1 f fd ["self", "number"] (spIni K "number") := by
  refine F.ok scI_Gone (fun vs H Q E h => ?_) (fun cdv A outer s H vs Q E hr h => ?_)
  · obtain ⟨a, C, v, rfl, _⟩ := h
    rfl
  · obtain ⟨a, C, v, rfl, T, hno, ea, q⟩ := h
    exact ⟨_, (pss_one (ps_ost (pv 0) (pv 1))), ⟨v, rfl, .ref a, rfl, a, C, rfl, T, hno, .inl ⟨ea, fun dx n ne => q dx n ne⟩⟩⟩
abbrev sI_BadText : Stmt := inClass (topS 31) 0
abbrev NscI_BadText : List Str := ["self", "line"]
theorem scI_BadText : FnScope ["self", "line"] ["self", "line"] (defScope sI_BadText) := ⟨rfl, rfl, rfl, by decide +kernel, rfl, by decide +kernel, by decide +kernel⟩
theorem ok_i_BadText {f : Addr} {fd : FuncData} (F : Fun K "__init__" "BadText.__init__" sI_BadText f fd) : FnOk P w K mg base CX0 1 f fd ["self", "line"] (spIni K "line") := by
  refine F.ok scI_BadText (fun vs H Q E h => ?_) (fun cdv A outer s H vs Q E hr h => ?_)
  · obtain ⟨a, C, v, rfl, _⟩ := h
    rfl
  · obtain ⟨a, C, v, rfl, T, hno, ea, q⟩ := h
    exact ⟨_, (pss_one (ps_ost (pv 0) (pv 1))), ⟨v, rfl, .ref a, rfl, a, C, rfl, T, hno, .inl ⟨ea, fun dx n ne => q dx n ne⟩⟩⟩
/-- the classes, by their numbers; LogError is number 30 -/
structure Errs (P : Program) (w : World) (K : PySem.W.Frag) (mg : Str → Option Value) (base : Heap) (c : Nat → Addr) : Prop where
  mBadBook : MkE P w K mg base 1 "BadBook" (c 0) ["self", "part"] (spIni K "part")
  fBadBook : PySem.W.findIn K (.ref (c 0)) "part" = some none
  mNoStriking : MkE P w K mg base 1 "NoStriking" (c 1) ["self", "at"] (spIni K "at")
  fNoStriking : PySem.W.findIn K (.ref (c 1)) "at" = some none
  mTooMany : MkE P w K mg base 1 "TooMany" (c 2) ["self", "most"] (spIni K "most")
  fTooMany : PySem.W.findIn K (.ref (c 2)) "most" = some none
  mBadMachine : MkE P w K mg base 1 "BadMachine" (c 3) ["self", "part"] (spIni K "part")
  fBadMachine : PySem.W.findIn K (.ref (c 3)) "part" = some none
  mGone : MkE P w K mg base 1 "Gone" (c 4) ["self", "number"] (spIni K "number")
  fGone : PySem.W.findIn K (.ref (c 4)) "number" = some none
  mBadText : MkE P w K mg base 1 "BadText" (c 5) ["self", "line"] (spIni K "line")
  fBadText : PySem.W.findIn K (.ref (c 5)) "line" = some none
  mNoLog : MkE P w K mg base 1 "NoLog" (c 6) ["self"] spNo
  mNoStrike : MkE P w K mg base 1 "NoStrike" (c 7) ["self"] spNo
  mNoPlace : MkE P w K mg base 1 "NoPlace" (c 8) ["self"] spNo
  mNoPiece : MkE P w K mg base 1 "NoPiece" (c 9) ["self"] spNo
  mNoNumber : MkE P w K mg base 1 "NoNumber" (c 10) ["self"] spNo
  mNoPrices : MkE P w K mg base 1 "NoPrices" (c 11) ["self"] spNo
  mNotEnough : MkE P w K mg base 1 "NotEnough" (c 12) ["self"] spNo
  mEnough : MkE P w K mg base 1 "Enough" (c 13) ["self"] spNo
  mNoWeights : MkE P w K mg base 1 "NoWeights" (c 14) ["self"] spNo
  mNoLetter : MkE P w K mg base 1 "NoLetter" (c 15) ["self"] spNo
  mNoFraction : MkE P w K mg base 1 "NoFraction" (c 16) ["self"] spNo
  mNoText : MkE P w K mg base 1 "NoText" (c 17) ["self"] spNo
  mNotAlike : MkE P w K mg base 1 "NotAlike" (c 18) ["self"] spNo
  mNotOwn : MkE P w K mg base 1 "NotOwn" (c 19) ["self"] spNo
  mNotClosed : MkE P w K mg base 1 "NotClosed" (c 20) ["self"] spNo
  mNoTexts : MkE P w K mg base 1 "NoTexts" (c 21) ["self"] spNo
  mNoIndex : MkE P w K mg base 1 "NoIndex" (c 22) ["self"] spNo
  mNotLet : MkE P w K mg base 1 "NotLet" (c 23) ["self"] spNo
  mNoFlag : MkE P w K mg base 1 "NoFlag" (c 24) ["self"] spNo
  mNoEntry : MkE P w K mg base 1 "NoEntry" (c 25) ["self"] spNo
  mNoReader : MkE P w K mg base 1 "NoReader" (c 26) ["self"] spNo
  mReaderThere : MkE P w K mg base 1 "ReaderThere" (c 27) ["self"] spNo
  mNothingDone : MkE P w K mg base 1 "NothingDone" (c 28) ["self"] spNo
  mNoValues : MkE P w K mg base 1 "NoValues" (c 29) ["self"] spNo
  mLogError : MkE P w K mg base 1 "LogError" (c 30) ["self"] spNo
  er : ∀ i, i ≤ 30 → ErrC K (c i)
  hk : ∀ i j, i ≤ 30 → j ≤ 29 → PySem.W.kitOne K (.ref (c i)) (.ref (c j)) = some (decide (i = j))
  hL : ∀ i, i ≤ 30 → PySem.W.kitOne K (.ref (c i)) (.ref (c 30)) = some true
  hV : ∀ i, i ≤ 30 → PySem.W.kitOne K (.ref (c i)) (.type "ValueError") = some true
/-! ### _law_classes -/
/-- a reading that tells v and leaves the heap, whatever it is (as long as it keeps I) -/
def Tell (σ : L2.St) (I : Hp → Prop) (v : V) (t : TE) : Prop := ∀ H Q, I H → Q v H → t σ H Q
def TellA (σ : L2.St) (I : Hp → Prop) (vs : List V) (t : TA) : Prop := ∀ H Q, I H → Q vs H → t σ H Q
theorem TellA.nil {σ : L2.St} {I : Hp → Prop} : TellA σ I [] tNil := fun _ _ _ q => q
theorem TellA.cons {σ : L2.St} {I : Hp → Prop} {v : V} {vs : List V} {te : TE} {ta : TA} (a : Tell σ I v te) (b : TellA σ I vs ta) : TellA σ I (v :: vs) (tCons te ta) := fun H Q i q => a H _ i (b H _ i q)
/-- the flags from number lo on, n of them -/
theorem tell_lst {σ : L2.St} {I : Hp → Prop} {vs : List V} {ta : TA} {i : Nat} {D : Ends} {u : TS} {H : Hp} (t : TellA σ I vs ta) (x : I H) (hl : vs.length ≤ 50000) (hd : ∀ p, H p = none → u D (σ.set i (some (.ref p))) (upd H p (.lst vs))) :
    tSeq (tAsg (tLst ta) (gName i)) u D σ H := t H _ x ⟨Nat.le_of_lt (sz_lt (by omega)), fun p np => hd p np⟩
/-- the flags of one error, by the classes' numbers -/
def fl (i lo n : Nat) : List V := (List.range' lo n).map fun j => V.bl (decide (i = j))
theorem fl_app (i lo n : Nat) : fl i 0 lo ++ fl i lo n = fl i 0 (lo + n) := by
  unfold fl
  have e := @List.range'_append_1 0 lo n
  rw [Nat.zero_add] at e
  rw [← List.map_append, e]
theorem fl_len (i lo n : Nat) : (fl i lo n).length = n := by simp [fl]
theorem fl_get {i n k : Nat} (h : k < n) : (fl i 0 n)[k]? = some (.bl (decide (i = k))) := by
  unfold fl
  rw [List.getElem?_map, List.getElem?_range' h]
  simp
def PCls (H0 : Hp) (a C : Addr) (i lo : Nat) (σ : L2.St) (H : Hp) : Prop := ∃ p, σ = [some (.ref a), some (.ref p), none, none] ∧ H p = some (.lst (fl i 0 lo)) ∧ Same H0 H ∧ ErrAt H a C
theorem cls_step {H0 : Hp} {a C : Addr} {i lo n : Nat} {σ : L2.St} {H : Hp} {ta : TA} {D : Ends} (x : PCls H0 a C i lo σ H) (t : TellA σ (fun H => ErrAt H a C) (fl i lo n) ta) (hl : lo + n ≤ 50000) (hd : ∀ σ' H', PCls H0 a C i (lo + n) σ' H' → D.nx σ' H') :
    tAsg (tOp rCat (tVar 1) (tLst ta)) (gName 1) D σ H := by
  obtain ⟨p, rfl, hp, sm, ea⟩ := x
  refine ⟨.ref p, rfl, t H _ ea ⟨by rw [fl_len]; exact Nat.le_of_lt (sz_lt (by omega)), fun q nq => ?_⟩⟩
  have s1 : Same H (upd H q (.lst (fl i lo n))) := same_new nq
  refine ⟨p, q, _, _, rfl, rfl, s1 _ _ hp, upd_same, by rw [fl_len, fl_len]; exact Nat.le_of_lt (sz_lt (by omega)), fun r nr => ?_⟩
  have s2 := s1.trans (same_new (o := .lst (fl i 0 lo ++ fl i lo n)) nr)
  refine hd _ _ ⟨r, rfl, ?_, sm.trans s2, ea.same s2⟩
  rw [fl_app, upd_same]
theorem cls_next {H0 : Hp} {a C : Addr} {i lo n : Nat} {σ : L2.St} {H : Hp} {ta : TA} {D : Ends} {u : TS} (x : PCls H0 a C i lo σ H) (t : TellA σ (fun H => ErrAt H a C) (fl i lo n) ta) (hl : lo + n ≤ 50000) (hd : ∀ σ' H', PCls H0 a C i (lo + n) σ' H' → u D σ' H') :
    tSeq (tAsg (tOp rCat (tVar 1) (tLst ta)) (gName 1)) u D σ H := cls_step (D := { D with nx := u D }) x t hl hd
theorem cls_first {a C : Addr} {i n : Nat} {H : Hp} {ta : TA} {D : Ends} {u : TS} (ea : ErrAt H a C) (t : TellA [some (.ref a), none, none, none] (fun H => ErrAt H a C) (fl i 0 n) ta) (hl : n ≤ 50000) (hd : ∀ σ' H', PCls H a C i n σ' H' → u D σ' H') :
    tSeq (tAsg (tLst ta) (gName 1)) u D [some (.ref a), none, none, none] H :=
  t H _ ea ⟨by rw [fl_len]; exact Nat.le_of_lt (sz_lt (by omega)), fun q nq => hd _ _ ⟨q, rfl, upd_same, same_new nq, ea.same (same_new nq)⟩⟩
def spClasses (c : Nat → Addr) : Sp := fun vs H Q _ => ∃ (a : Addr) (i : Nat), vs = [.ref a] ∧ i ≤ 30 ∧ ErrAt H a (c i) ∧ ∀ H' p, Same H H' → H p = none → H' p = some (.lst (if i < 30 then [.int (i : Nat)] else [])) → Q (.ref p) H'
abbrev sCls : Stmt := topS 39
abbrev NscCls : List Str := ["_law_e", "_law_found", "_law_at", "_law_flag"]
theorem scCls : FnScope ["_law_e", "_law_found", "_law_at", "_law_flag"] ["_law_e"] (defScope sCls) := ⟨rfl, rfl, rfl, by decide +kernel, rfl, by decide +kernel, by decide +kernel⟩
theorem ok_cls {c : Nat → Addr} {f : Addr} {fd : FuncData} (F : Fun K "_law_classes" "_law_classes" sCls f fd) (T : Txt mg) (ER : Errs P w K mg base c) : FnOk P w K mg base CX0 1 f fd ["_law_e"] (spClasses c) := by
  refine F.ok scCls (fun vs H Q E h => ?_) (fun cdv A outer s H vs Q E hr h => ?_)
  · obtain ⟨a, i, rfl, _⟩ := h
    rfl
  · obtain ⟨a, i, rfl, hi, ea, q⟩ := h
    have M_BadBook := ER.mBadBook
    have M_NoStriking := ER.mNoStriking
    have M_TooMany := ER.mTooMany
    have M_BadMachine := ER.mBadMachine
    have M_Gone := ER.mGone
    have M_BadText := ER.mBadText
    have M_NoLog := ER.mNoLog
    have M_NoStrike := ER.mNoStrike
    have M_NoPlace := ER.mNoPlace
    have M_NoPiece := ER.mNoPiece
    have M_NoNumber := ER.mNoNumber
    have M_NoPrices := ER.mNoPrices
    have M_NotEnough := ER.mNotEnough
    have M_Enough := ER.mEnough
    have M_NoWeights := ER.mNoWeights
    have M_NoLetter := ER.mNoLetter
    have M_NoFraction := ER.mNoFraction
    have M_NoText := ER.mNoText
    have M_NotAlike := ER.mNotAlike
    have M_NotOwn := ER.mNotOwn
    have M_NotClosed := ER.mNotClosed
    have M_NoTexts := ER.mNoTexts
    have M_NoIndex := ER.mNoIndex
    have M_NotLet := ER.mNotLet
    have M_NoFlag := ER.mNoFlag
    have M_NoEntry := ER.mNoEntry
    have M_NoReader := ER.mNoReader
    have M_ReaderThere := ER.mReaderThere
    have M_NothingDone := ER.mNothingDone
    have M_NoValues := ER.mNoValues
    refine ⟨_, (pss_cons (ps_set (i := 1) scCls.nd rfl (Or.inl rfl) (pe_lst (pa_cons (pe_callB call_isErr (by rfl) T.nisinstance (by decide +kernel) (pa_cons (pv 0) (pa_cons (pe_cls M_BadBook.gC) pa_nil))) (pa_cons (pe_callB call_isErr (by rfl) T.nisinstance (by decide +kernel) (pa_cons (pv 0) (pa_cons (pe_cls M_NoStriking.gC) pa_nil))) (pa_cons (pe_callB call_isErr (by rfl) T.nisinstance (by decide +kernel) (pa_cons (pv 0) (pa_cons (pe_cls M_TooMany.gC) pa_nil))) (pa_cons (pe_callB call_isErr (by rfl) T.nisinstance (by decide +kernel) (pa_cons (pv 0) (pa_cons (pe_cls M_BadMachine.gC) pa_nil))) pa_nil))))))
      (pss_cons (ps_set (i := 1) scCls.nd rfl (Or.inl rfl) (pe_op op_cat (pv 1) (pe_lst (pa_cons (pe_callB call_isErr (by rfl) T.nisinstance (by decide +kernel) (pa_cons (pv 0) (pa_cons (pe_cls M_Gone.gC) pa_nil))) (pa_cons (pe_callB call_isErr (by rfl) T.nisinstance (by decide +kernel) (pa_cons (pv 0) (pa_cons (pe_cls M_BadText.gC) pa_nil))) (pa_cons (pe_callB call_isErr (by rfl) T.nisinstance (by decide +kernel) (pa_cons (pv 0) (pa_cons (pe_cls M_NoLog.gC) pa_nil))) (pa_cons (pe_callB call_isErr (by rfl) T.nisinstance (by decide +kernel) (pa_cons (pv 0) (pa_cons (pe_cls M_NoStrike.gC) pa_nil))) pa_nil)))))))
      (pss_cons (ps_set (i := 1) scCls.nd rfl (Or.inl rfl) (pe_op op_cat (pv 1) (pe_lst (pa_cons (pe_callB call_isErr (by rfl) T.nisinstance (by decide +kernel) (pa_cons (pv 0) (pa_cons (pe_cls M_NoPlace.gC) pa_nil))) (pa_cons (pe_callB call_isErr (by rfl) T.nisinstance (by decide +kernel) (pa_cons (pv 0) (pa_cons (pe_cls M_NoPiece.gC) pa_nil))) (pa_cons (pe_callB call_isErr (by rfl) T.nisinstance (by decide +kernel) (pa_cons (pv 0) (pa_cons (pe_cls M_NoNumber.gC) pa_nil))) (pa_cons (pe_callB call_isErr (by rfl) T.nisinstance (by decide +kernel) (pa_cons (pv 0) (pa_cons (pe_cls M_NoPrices.gC) pa_nil))) pa_nil)))))))
      (pss_cons (ps_set (i := 1) scCls.nd rfl (Or.inl rfl) (pe_op op_cat (pv 1) (pe_lst (pa_cons (pe_callB call_isErr (by rfl) T.nisinstance (by decide +kernel) (pa_cons (pv 0) (pa_cons (pe_cls M_NotEnough.gC) pa_nil))) (pa_cons (pe_callB call_isErr (by rfl) T.nisinstance (by decide +kernel) (pa_cons (pv 0) (pa_cons (pe_cls M_Enough.gC) pa_nil))) (pa_cons (pe_callB call_isErr (by rfl) T.nisinstance (by decide +kernel) (pa_cons (pv 0) (pa_cons (pe_cls M_NoWeights.gC) pa_nil))) pa_nil))))))
      (pss_cons (ps_set (i := 1) scCls.nd rfl (Or.inl rfl) (pe_op op_cat (pv 1) (pe_lst (pa_cons (pe_callB call_isErr (by rfl) T.nisinstance (by decide +kernel) (pa_cons (pv 0) (pa_cons (pe_cls M_NoLetter.gC) pa_nil))) (pa_cons (pe_callB call_isErr (by rfl) T.nisinstance (by decide +kernel) (pa_cons (pv 0) (pa_cons (pe_cls M_NoFraction.gC) pa_nil))) (pa_cons (pe_callB call_isErr (by rfl) T.nisinstance (by decide +kernel) (pa_cons (pv 0) (pa_cons (pe_cls M_NoText.gC) pa_nil))) pa_nil))))))
      (pss_cons (ps_set (i := 1) scCls.nd rfl (Or.inl rfl) (pe_op op_cat (pv 1) (pe_lst (pa_cons (pe_callB call_isErr (by rfl) T.nisinstance (by decide +kernel) (pa_cons (pv 0) (pa_cons (pe_cls M_NotAlike.gC) pa_nil))) (pa_cons (pe_callB call_isErr (by rfl) T.nisinstance (by decide +kernel) (pa_cons (pv 0) (pa_cons (pe_cls M_NotOwn.gC) pa_nil))) (pa_cons (pe_callB call_isErr (by rfl) T.nisinstance (by decide +kernel) (pa_cons (pv 0) (pa_cons (pe_cls M_NotClosed.gC) pa_nil))) pa_nil))))))
      (pss_cons (ps_set (i := 1) scCls.nd rfl (Or.inl rfl) (pe_op op_cat (pv 1) (pe_lst (pa_cons (pe_callB call_isErr (by rfl) T.nisinstance (by decide +kernel) (pa_cons (pv 0) (pa_cons (pe_cls M_NoTexts.gC) pa_nil))) (pa_cons (pe_callB call_isErr (by rfl) T.nisinstance (by decide +kernel) (pa_cons (pv 0) (pa_cons (pe_cls M_NoIndex.gC) pa_nil))) (pa_cons (pe_callB call_isErr (by rfl) T.nisinstance (by decide +kernel) (pa_cons (pv 0) (pa_cons (pe_cls M_NotLet.gC) pa_nil))) (pa_cons (pe_callB call_isErr (by rfl) T.nisinstance (by decide +kernel) (pa_cons (pv 0) (pa_cons (pe_cls M_NoFlag.gC) pa_nil))) pa_nil)))))))
      (pss_cons (ps_set (i := 1) scCls.nd rfl (Or.inl rfl) (pe_op op_cat (pv 1) (pe_lst (pa_cons (pe_callB call_isErr (by rfl) T.nisinstance (by decide +kernel) (pa_cons (pv 0) (pa_cons (pe_cls M_NoEntry.gC) pa_nil))) (pa_cons (pe_callB call_isErr (by rfl) T.nisinstance (by decide +kernel) (pa_cons (pv 0) (pa_cons (pe_cls M_NoReader.gC) pa_nil))) (pa_cons (pe_callB call_isErr (by rfl) T.nisinstance (by decide +kernel) (pa_cons (pv 0) (pa_cons (pe_cls M_ReaderThere.gC) pa_nil))) pa_nil))))))
      (pss_cons (ps_set (i := 1) scCls.nd rfl (Or.inl rfl) (pe_op op_cat (pv 1) (pe_lst (pa_cons (pe_callB call_isErr (by rfl) T.nisinstance (by decide +kernel) (pa_cons (pv 0) (pa_cons (pe_cls M_NothingDone.gC) pa_nil))) (pa_cons (pe_callB call_isErr (by rfl) T.nisinstance (by decide +kernel) (pa_cons (pv 0) (pa_cons (pe_cls M_NoValues.gC) pa_nil))) pa_nil)))))
      (pss_one (ps_ret (pe_lc (g := gTup K 2 (gCons (gName 2) (gCons (gName 3) gNil))) (own := [("_law_at", 2), ("_law_flag", 3)]) (by rfl) scCls.nd (pi_enum (by rfl) T.nenumerate (pa_cons (pv 1) pa_nil)) (blkOk_by (own := [("_law_at", 2), ("_law_flag", 3)]) (N := NscCls) (sc := defScope sCls) (by decide +kernel)) (fun _ _ _ _ _ => (by exact (pg_tup rfl (pgs_cons (pg_name (i := 2) scCls.nd rfl (Or.inl rfl)) (pgs_cons (pg_name (i := 3) scCls.nd rfl (Or.inl rfl)) pgs_nil))))) (fun _ _ _ _ _ => (pts_one (pt_val (pv 3)))) (fun _ _ _ _ _ => (pv 2)))))))))))))), ?_⟩
    have one : ∀ (σ : L2.St), σ[0]? = some (some (.ref a)) → ∀ (j : Nat), j ≤ 29 → Tell σ (fun H => ErrAt H a (c i)) (.bl (decide (i = j))) (tCB (rIsErr K) (tCons (tVar 0) (tCons (tC (.ref (c j))) tNil))) := fun σ e j hj H Q ea q =>
      ⟨.ref a, by simpa using e, ⟨a, c i, .ref (c j), .ref (c j), decide (i = j), rfl, ER.er i hi, ea, .own _, ER.hk i j hi hj, q⟩⟩
    have cons : ∀ {σ : L2.St} {lo n : Nat} {ta : TA}, σ[0]? = some (some (.ref a)) → lo ≤ 29 → TellA σ (fun H => ErrAt H a (c i)) (fl i (lo + 1) n) ta →
        TellA σ (fun H => ErrAt H a (c i)) (fl i lo (n + 1)) (tCons (tCB (rIsErr K) (tCons (tVar 0) (tCons (tC (.ref (c lo))) tNil))) ta) := fun e hj t => TellA.cons (one _ e _ hj) t
    have nil : ∀ {σ : L2.St} {lo : Nat}, TellA σ (fun H => ErrAt H a (c i)) (fl i lo 0) tNil := TellA.nil
    refine cls_first (n := 4) ea (by repeat' (first | exact nil | refine cons rfl (by decide) ?_)) (by decide) fun σ1 H1 x => ?_
    refine cls_next (n := 4) x (by obtain ⟨p, rfl, _⟩ := x; repeat' (first | exact nil | refine cons rfl (by decide) ?_)) (by decide) fun σ1 H1 x => ?_
    refine cls_next (n := 4) x (by obtain ⟨p, rfl, _⟩ := x; repeat' (first | exact nil | refine cons rfl (by decide) ?_)) (by decide) fun σ1 H1 x => ?_
    refine cls_next (n := 3) x (by obtain ⟨p, rfl, _⟩ := x; repeat' (first | exact nil | refine cons rfl (by decide) ?_)) (by decide) fun σ1 H1 x => ?_
    refine cls_next (n := 3) x (by obtain ⟨p, rfl, _⟩ := x; repeat' (first | exact nil | refine cons rfl (by decide) ?_)) (by decide) fun σ1 H1 x => ?_
    refine cls_next (n := 3) x (by obtain ⟨p, rfl, _⟩ := x; repeat' (first | exact nil | refine cons rfl (by decide) ?_)) (by decide) fun σ1 H1 x => ?_
    refine cls_next (n := 4) x (by obtain ⟨p, rfl, _⟩ := x; repeat' (first | exact nil | refine cons rfl (by decide) ?_)) (by decide) fun σ1 H1 x => ?_
    refine cls_next (n := 3) x (by obtain ⟨p, rfl, _⟩ := x; repeat' (first | exact nil | refine cons rfl (by decide) ?_)) (by decide) fun σ1 H1 x => ?_
    refine cls_next (n := 2) x (by obtain ⟨p, rfl, _⟩ := x; repeat' (first | exact nil | refine cons rfl (by decide) ?_)) (by decide) fun σ1 H1 x => ?_
    obtain ⟨p, rfl, hp, sm, ea1⟩ := x
    refine ⟨.ref p, rfl, p, _, rfl, .inl (.inl hp), fun D hD => lc_it walk_enum (fun k H' => Same H1 H' ∧ H' D = some (.lst (if i < k then [.int (i : Nat)] else []))) ⟨same_new hD, upd_same⟩ (fun k H' _ pv => .inl (.inl (pv.1 _ _ hp))) ?_ ?_⟩
    · rintro k v H2 H3 hk ⟨s2, hDD⟩ ⟨t2, u, v, rfl, hT, rfl, eu, ev⟩
      obtain rfl : V.int (k : Nat) = u := Option.some.inj eu
      rw [fl_len] at hk
      obtain rfl : V.bl (decide (i = k)) = v := Option.some.inj ((fl_get hk).symm.trans ev)
      have nDT : D ≠ t2 := ne_of_none hDD hT
      refine ⟨t2, [.int (k : Nat), .bl (decide (i = k))], rfl, .inl (.inl upd_same), rfl, _, _, rfl, _, _, rfl, rfl, rfl, .bl (decide (i = k)), rfl, _, rfl, ?_⟩
      refine ite2 (fun he => ?_) (fun he => ?_)
      · have he : i = k := of_decide_eq_true he
        subst he
        rw [if_neg (Nat.lt_irrefl i)] at hDD
        refine ⟨.int (i : Nat), rfl, [], by rw [upd_ne nDT]; exact hDD, (by show 0 < sizeLine; decide), fun b o e => ?_, ?_⟩
        · rw [upd_ne (ne_of_none e hD), upd_ne (ne_of_none (s2 _ _ e) hT)]
          exact s2 _ _ e
        · rw [if_pos (Nat.lt_succ_self i), upd_same]
          rfl
      · have he : i ≠ k := fun z => he (decide_eq_true z)
        refine ⟨s2.trans (same_new hT), ?_⟩
        rw [upd_ne nDT, hDD]
        by_cases z : i < k
        · rw [if_pos z, if_pos (by omega)]
        · rw [if_neg z, if_neg (by omega)]
    · rintro H2 ⟨s2, hDD⟩
      rw [fl_len] at hDD
      refine q H2 D (sm.trans s2) ?_ hDD
      cases z : H D with
      | none => rfl
      | some o =>
        have := sm _ _ z
        rw [hD] at this
        cases this
/-! ### _law_errors -/
def fld : Nat → Str
  | 0 => "part"
  | 1 => "at"
  | 2 => "most"
  | 3 => "part"
  | 4 => "number"
  | _ => "line"
/-- error number j, made with v -/
def PEr (c : Nat → Addr) (v : V) (j : Nat) (H : Hp) (u : V) : Prop := ∃ a, u = .ref a ∧ ((j < 6 ∧ ∃ dx, H a = some (exo a (c j) (some dx)) ∧ H dx = some (exd dx [(fld j, v)])) ∨ (6 ≤ j ∧ H a = some (exo a (c j) none)))
theorem PEr.same {c : Nat → Addr} {v : V} {j : Nat} {H H' : Hp} {u : V} (s : Same H H') (x : PEr c v j H u) : PEr c v j H' u := by
  obtain ⟨a, e, x⟩ := x
  rcases x with ⟨l, dx, e1, e2⟩ | ⟨l, e1⟩
  · exact ⟨a, e, .inl ⟨l, dx, s _ _ e1, s _ _ e2⟩⟩
  · exact ⟨a, e, .inr ⟨l, s _ _ e1⟩⟩
theorem PEr.err {c : Nat → Addr} {v : V} {j : Nat} {H : Hp} {u : V} (x : PEr c v j H u) : ∃ a, u = .ref a ∧ ErrAt H a (c j) := by
  obtain ⟨a, e, x⟩ := x
  rcases x with ⟨l, dx, e1, e2⟩ | ⟨l, e1⟩
  · exact ⟨a, e, .inr ⟨dx, _, e1, e2⟩⟩
  · exact ⟨a, e, .inl e1⟩
/-- those from number lo on, n of them -/
def EA (c : Nat → Addr) (v : V) (lo n : Nat) (vs : List V) (H : Hp) : Prop := vs.length = n ∧ ∀ k u, vs[k]? = some u → PEr c v (lo + k) H u
theorem EA.nil {c : Nat → Addr} {v : V} {lo : Nat} {H : Hp} : EA c v lo 0 [] H := ⟨rfl, fun k u e => by simp at e⟩
theorem EA.cons {c : Nat → Addr} {v : V} {lo n : Nat} {u : V} {vs : List V} {H : Hp} (a : PEr c v lo H u) (b : EA c v (lo + 1) n vs H) : EA c v lo (n + 1) (u :: vs) H :=
  ⟨congrArg (· + 1) b.1, fun k w e => by
    cases k with
    | zero =>
      simp at e
      subst e
      exact a
    | succ k =>
      have := b.2 k w (by simpa using e)
      rw [show lo + (k + 1) = lo + 1 + k by omega]
      exact this⟩
theorem EA.same {c : Nat → Addr} {v : V} {lo n : Nat} {vs : List V} {H H' : Hp} (s : Same H H') (x : EA c v lo n vs H) : EA c v lo n vs H' := ⟨x.1, fun k u e => (x.2 k u e).same s⟩
theorem EA.app {c : Nat → Addr} {v : V} {lo n : Nat} {xs ys : List V} {H : Hp} (a : EA c v 0 lo xs H) (b : EA c v lo n ys H) : EA c v 0 (lo + n) (xs ++ ys) H :=
  ⟨by rw [List.length_append, a.1, b.1], fun k u e => by
    by_cases z : k < xs.length
    · rw [List.getElem?_append_left z] at e
      exact a.2 k u e
    · rw [List.getElem?_append_right (by omega)] at e
      have := b.2 _ u e
      rw [show 0 + k = lo + (k - xs.length) by have := a.1; omega]
      exact this⟩
def MSE (c : Nat → Addr) (v : V) (σ : L2.St) (lo n : Nat) (ta : TA) : Prop := ∀ H Q, (∀ vs H', Same H H' → EA c v lo n vs H' → Q vs H') → ta σ H Q
theorem MSE.nil {c : Nat → Addr} {v : V} {σ : L2.St} {lo : Nat} : MSE c v σ lo 0 tNil := fun H Q q => q [] H (fun _ _ e => e) EA.nil
theorem MSE.cons {c : Nat → Addr} {v : V} {σ : L2.St} {lo n : Nat} {te : TE} {ta : TA} (a : ∀ H Q, (∀ u H', Same H H' → PEr c v lo H' u → Q u H') → te σ H Q) (b : MSE c v σ (lo + 1) n ta) : MSE c v σ lo (n + 1) (tCons te ta) := fun H Q q =>
  a H _ fun u H1 s1 p1 => b H1 _ fun vs H2 s2 e => q _ H2 (s1.trans s2) (EA.cons (p1.same s2) e)
def PErs (H0 : Hp) (c : Nat → Addr) (v : V) (lo : Nat) (v2 : Option V) (σ : L2.St) (H : Hp) : Prop := ∃ (m : Addr) (vs : List V), σ = [some v, some (.ref m), v2] ∧ H m = some (.lst vs) ∧ EA c v 0 lo vs H ∧ Same H0 H
theorem ers_first {c : Nat → Addr} {v : V} {n : Nat} {H : Hp} {ta : TA} {D : Ends} {u : TS} (t : MSE c v [some v, none, none] 0 n ta) (hl : n ≤ 50000) (hd : ∀ σ' H', PErs H c v n none σ' H' → u D σ' H') :
    tSeq (tAsg (tLst ta) (gName 1)) u D [some v, none, none] H :=
  t H _ fun vs H1 s1 e => ⟨by rw [e.1]; exact Nat.le_of_lt (sz_lt (by omega)), fun q nq => hd _ _ ⟨q, vs, rfl, upd_same, e.same (same_new nq), s1.trans (same_new nq)⟩⟩
theorem ers_next {H0 : Hp} {c : Nat → Addr} {v : V} {lo n : Nat} {v2 : Option V} {σ : L2.St} {H : Hp} {ta : TA} {D : Ends} {u : TS} (x : PErs H0 c v lo v2 σ H) (t : ∀ m, MSE c v [some v, some (.ref m), v2] lo n ta) (hl : lo + n ≤ 50000)
    (hd : ∀ σ' H', PErs H c v (lo + n) v2 σ' H' → u D σ' H') : tSeq (tAsg (tOp rCat (tVar 1) (tLst ta)) (gName 1)) u D σ H := by
  obtain ⟨m, vs, rfl, hm, ea, sm⟩ := x
  refine ⟨.ref m, rfl, t m H _ fun ws H1 s1 e => ⟨by rw [e.1]; exact Nat.le_of_lt (sz_lt (by omega)), fun q nq => ?_⟩⟩
  have s2 := s1.trans (same_new (o := .lst ws) nq)
  refine ⟨m, q, _, _, rfl, rfl, s2 _ _ hm, upd_same, by rw [e.1, ea.1]; exact Nat.le_of_lt (sz_lt (by omega)), fun r nr => ?_⟩
  have s3 := s2.trans (same_new (o := .lst (vs ++ ws)) nr)
  exact hd _ _ ⟨r, _, rfl, upd_same, EA.app (ea.same s3) (e.same ((same_new nq).trans (same_new nr))), s3⟩
theorem mk_f {c : Nat → Addr} {v : V} {j : Nat} {f : Str} {σ : L2.St} (T : OexC K (c j)) (hno : PySem.W.findIn K (.ref (c j)) f = some none) (hf : fld j = f) (hj : j < 6) (e : σ[0]? = some (some v)) :
    ∀ H Q, (∀ u H', Same H H' → PEr c v j H' u → Q u H') → tMkE (c j) (spIni K f) (tCons (tVar 0) tNil) σ H Q := fun H Q q => by
  refine ⟨v, by simpa using e, (by show 1 ≤ 1000; decide), fun a na => ⟨a, c j, v, rfl, T, hno, upd_same, fun dx nd da => ⟨rfl, ?_⟩⟩⟩
  rw [upd_ne da] at nd
  refine q _ _ (fun b o eb => ?_) ⟨a, rfl, .inl ⟨hj, dx, upd_same, ?_⟩⟩
  · rw [upd_ne (ne_of_none eb na), upd_ne (ne_of_none eb nd), upd_ne (ne_of_none eb na)]
    exact eb
  · rw [upd_ne da, upd_same, hf]
theorem mk_o {c : Nat → Addr} {v : V} {j : Nat} {σ : L2.St} (hj : 6 ≤ j) : ∀ H Q, (∀ u H', Same H H' → PEr c v j H' u → Q u H') → tMkE (c j) spNo tNil σ H Q := fun H Q q =>
  ⟨(by show 0 ≤ 1000; decide), fun a na => ⟨a, rfl, rfl, q _ _ (same_new na) ⟨a, rfl, .inr ⟨hj, upd_same⟩⟩⟩⟩
def spErrors (c : Nat → Addr) : Sp := fun vs H Q _ => ∃ v : V, vs = [v] ∧ ∀ (H' : Hp) (t m k : Addr) (us : List V), Same H H' → H' t = some (.tup [.ref m, .ref k]) → H' m = some (.lst us) → EA c v 0 30 us H' → H' k = some (.lst [v, v, v, v, v, v]) → Q (.ref t) H'
abbrev sErrs : Stmt := topS 40
abbrev NscErrs : List Str := ["_law_thing", "_law_made", "_law_kept"]
theorem scErrs : FnScope ["_law_thing", "_law_made", "_law_kept"] ["_law_thing"] (defScope sErrs) := ⟨rfl, rfl, rfl, by decide +kernel, rfl, by decide +kernel, by decide +kernel⟩
theorem ok_errs {c : Nat → Addr} {f : Addr} {fd : FuncData} (F : Fun K "_law_errors" "_law_errors" sErrs f fd) (T : Txt mg) (ER : Errs P w K mg base c) : FnOk P w K mg base CX0 3 f fd ["_law_thing"] (spErrors c) := by
  refine F.ok scErrs (fun vs H Q E h => ?_) (fun cdv A outer s H vs Q E hr h => ?_)
  · obtain ⟨v, rfl, _⟩ := h
    rfl
  · obtain ⟨v, rfl, q⟩ := h
    have M_BadBook := ER.mBadBook
    have M_NoStriking := ER.mNoStriking
    have M_TooMany := ER.mTooMany
    have M_BadMachine := ER.mBadMachine
    have M_Gone := ER.mGone
    have M_BadText := ER.mBadText
    have M_NoLog := ER.mNoLog
    have M_NoStrike := ER.mNoStrike
    have M_NoPlace := ER.mNoPlace
    have M_NoPiece := ER.mNoPiece
    have M_NoNumber := ER.mNoNumber
    have M_NoPrices := ER.mNoPrices
    have M_NotEnough := ER.mNotEnough
    have M_Enough := ER.mEnough
    have M_NoWeights := ER.mNoWeights
    have M_NoLetter := ER.mNoLetter
    have M_NoFraction := ER.mNoFraction
    have M_NoText := ER.mNoText
    have M_NotAlike := ER.mNotAlike
    have M_NotOwn := ER.mNotOwn
    have M_NotClosed := ER.mNotClosed
    have M_NoTexts := ER.mNoTexts
    have M_NoIndex := ER.mNoIndex
    have M_NotLet := ER.mNotLet
    have M_NoFlag := ER.mNoFlag
    have M_NoEntry := ER.mNoEntry
    have M_NoReader := ER.mNoReader
    have M_ReaderThere := ER.mReaderThere
    have M_NothingDone := ER.mNothingDone
    have M_NoValues := ER.mNoValues
    refine ⟨_, (pss_cons (ps_set (i := 1) scErrs.nd rfl (Or.inl rfl) (pe_lst (pa_cons (pe_mke M_BadBook hr (pa_cons (pv 0) pa_nil)) (pa_cons (pe_mke M_NoStriking hr (pa_cons (pv 0) pa_nil)) (pa_cons (pe_mke M_TooMany hr (pa_cons (pv 0) pa_nil)) (pa_cons (pe_mke M_BadMachine hr (pa_cons (pv 0) pa_nil)) (pa_cons (pe_mke M_Gone hr (pa_cons (pv 0) pa_nil)) (pa_cons (pe_mke M_BadText hr (pa_cons (pv 0) pa_nil)) pa_nil))))))))
      (pss_cons (ps_set (i := 2) scErrs.nd rfl (Or.inl rfl) (pe_lst (pa_cons (pe_errF (pe_ix ix_list (pv 1) pe_int (fun _ _ => rfl))) (pa_cons (pe_errF (pe_ix ix_list (pv 1) pe_int (fun _ _ => rfl))) (pa_cons (pe_errF (pe_ix ix_list (pv 1) pe_int (fun _ _ => rfl))) (pa_cons (pe_errF (pe_ix ix_list (pv 1) pe_int (fun _ _ => rfl))) (pa_cons (pe_errF (pe_ix ix_list (pv 1) pe_int (fun _ _ => rfl))) (pa_cons (pe_errF (pe_ix ix_list (pv 1) pe_int (fun _ _ => rfl))) pa_nil))))))))
      (pss_cons (ps_set (i := 1) scErrs.nd rfl (Or.inl rfl) (pe_op op_cat (pv 1) (pe_lst (pa_cons (pe_mke0 M_NoLog hr) (pa_cons (pe_mke0 M_NoStrike hr) (pa_cons (pe_mke0 M_NoPlace hr) (pa_cons (pe_mke0 M_NoPiece hr) (pa_cons (pe_mke0 M_NoNumber hr) (pa_cons (pe_mke0 M_NoPrices hr) (pa_cons (pe_mke0 M_NotEnough hr) (pa_cons (pe_mke0 M_Enough hr) pa_nil)))))))))))
      (pss_cons (ps_set (i := 1) scErrs.nd rfl (Or.inl rfl) (pe_op op_cat (pv 1) (pe_lst (pa_cons (pe_mke0 M_NoWeights hr) (pa_cons (pe_mke0 M_NoLetter hr) (pa_cons (pe_mke0 M_NoFraction hr) (pa_cons (pe_mke0 M_NoText hr) (pa_cons (pe_mke0 M_NotAlike hr) (pa_cons (pe_mke0 M_NotOwn hr) (pa_cons (pe_mke0 M_NotClosed hr) (pa_cons (pe_mke0 M_NoTexts hr) pa_nil)))))))))))
      (pss_cons (ps_set (i := 1) scErrs.nd rfl (Or.inl rfl) (pe_op op_cat (pv 1) (pe_lst (pa_cons (pe_mke0 M_NoIndex hr) (pa_cons (pe_mke0 M_NotLet hr) (pa_cons (pe_mke0 M_NoFlag hr) (pa_cons (pe_mke0 M_NoEntry hr) (pa_cons (pe_mke0 M_NoReader hr) (pa_cons (pe_mke0 M_ReaderThere hr) (pa_cons (pe_mke0 M_NothingDone hr) (pa_cons (pe_mke0 M_NoValues hr) pa_nil)))))))))))
      (pss_one (ps_ret (pe_tup (pa_cons (pv 1) (pa_cons (pv 2) pa_nil)))))))))), ?_⟩
    refine ers_first (c := c) (n := 6) ?_ (by decide) fun σ1 H1 x => ?_
    · exact MSE.cons (mk_f (ER.er 0 (by decide)).oex ER.fBadBook rfl (by decide) rfl) (MSE.cons (mk_f (ER.er 1 (by decide)).oex ER.fNoStriking rfl (by decide) rfl) (MSE.cons (mk_f (ER.er 2 (by decide)).oex ER.fTooMany rfl (by decide) rfl)
        (MSE.cons (mk_f (ER.er 3 (by decide)).oex ER.fBadMachine rfl (by decide) rfl) (MSE.cons (mk_f (ER.er 4 (by decide)).oex ER.fGone rfl (by decide) rfl) (MSE.cons (mk_f (ER.er 5 (by decide)).oex ER.fBadText rfl (by decide) rfl) MSE.nil)))))
    · obtain ⟨m, vs, rfl, hm, e6, s1⟩ := x
      have one : ∀ {f : Str} (j : Nat), j < 6 → fld j = f → PySem.W.findIn K (.ref (c j)) f = some none → Tell [some v, some (.ref m), none] (fun H => H m = some (.lst vs) ∧ EA c v 0 6 vs H) v (tErrF K f (tOp (rIxL K) (tVar 1) (tC (.int (j : Nat))))) := by
        intro f j hj hf hno H Q i q
        have hjl : j < vs.length := by rw [i.2.1]; exact hj
        have p := i.2.2 j _ (List.getElem?_eq_getElem hjl)
        rw [Nat.zero_add] at p
        obtain ⟨a, e, p⟩ := p
        rcases p with ⟨_, dx, e1, e2⟩ | ⟨l, _⟩
        · refine ⟨.ref m, rfl, m, vs, j, .ref a, rfl, rfl, .inl (.inl i.1), atI_nat (by rw [List.getElem?_eq_getElem hjl, e]), ?_⟩
          exact ⟨a, c j, dx, _, v, rfl, ER.er j (by omega), hno, e1, e2, by rw [hf]; simp [List.lookup], q⟩
        · omega
      have six : TellA [some v, some (.ref m), none] (fun H => H m = some (.lst vs) ∧ EA c v 0 6 vs H) [v, v, v, v, v, v] _ := TellA.cons (one 0 (by decide) rfl ER.fBadBook) (TellA.cons (one 1 (by decide) rfl ER.fNoStriking) (TellA.cons (one 2 (by decide) rfl ER.fTooMany)
        (TellA.cons (one 3 (by decide) rfl ER.fBadMachine) (TellA.cons (one 4 (by decide) rfl ER.fGone) (TellA.cons (one 5 (by decide) rfl ER.fBadText) TellA.nil)))))
      refine tell_lst six ⟨hm, e6⟩ (by show 6 ≤ 50000; decide) fun k nk => ?_
      have s2 := same_new (o := .lst [v, v, v, v, v, v]) nk
      have ek : upd H1 k (.lst [v, v, v, v, v, v]) k = some (.lst [v, v, v, v, v, v]) := upd_same
      have x : PErs H c v 6 (some (.ref k)) [some v, some (.ref m), some (.ref k)] (upd H1 k (.lst [v, v, v, v, v, v])) := ⟨m, vs, rfl, s2 _ _ hm, e6.same s2, s1.trans s2⟩
      show tSeq _ _ _ [some v, some (.ref m), some (.ref k)] _
      generalize upd H1 k (.lst [v, v, v, v, v, v]) = H2 at x ek ⊢
      have s0 : Same H H2 := by
        obtain ⟨_, _, _, _, _, s⟩ := x
        exact s
      refine ers_next x (n := 8) (fun m => MSE.cons (mk_o (by decide)) (MSE.cons (mk_o (by decide)) (MSE.cons (mk_o (by decide)) (MSE.cons (mk_o (by decide)) (MSE.cons (mk_o (by decide)) (MSE.cons (mk_o (by decide)) (MSE.cons (mk_o (by decide)) (MSE.cons (mk_o (by decide)) (MSE.nil))))))))) (by decide) fun σ3 H3 x => ?_
      refine ers_next x (n := 8) (fun m => MSE.cons (mk_o (by decide)) (MSE.cons (mk_o (by decide)) (MSE.cons (mk_o (by decide)) (MSE.cons (mk_o (by decide)) (MSE.cons (mk_o (by decide)) (MSE.cons (mk_o (by decide)) (MSE.cons (mk_o (by decide)) (MSE.cons (mk_o (by decide)) (MSE.nil))))))))) (by decide) fun σ4 H4 y => ?_
      refine ers_next y (n := 8) (fun m => MSE.cons (mk_o (by decide)) (MSE.cons (mk_o (by decide)) (MSE.cons (mk_o (by decide)) (MSE.cons (mk_o (by decide)) (MSE.cons (mk_o (by decide)) (MSE.cons (mk_o (by decide)) (MSE.cons (mk_o (by decide)) (MSE.cons (mk_o (by decide)) (MSE.nil))))))))) (by decide) fun σ5 H5 z => ?_
      obtain ⟨_, _, _, _, _, sx⟩ := x
      obtain ⟨_, _, _, _, _, sy⟩ := y
      obtain ⟨m, us, rfl, hm, e30, sz⟩ := z
      have s3 := sx.trans (sy.trans sz)
      refine ⟨.ref m, rfl, .ref k, rfl, (by show 2 ≤ sizeLine; decide), fun t nt => ?_⟩
      have s4 := same_new (o := .tup [.ref m, .ref k]) nt
      exact q _ t m k us (s0.trans (s3.trans s4)) upd_same (s4 _ _ hm) (e30.same s4) (s4 _ _ (s3 _ _ ek))
end
end Zq
namespace Zq
open PySem PySem.Spec PyProof.Rows L2 RZ
section
variable {P : Program} {w : World} {K : PySem.W.Frag} {mg : Str → Option Value} {base : Heap}
def spLaw (K : PySem.W.Frag) : Sp := fun vs H Q _ => ∃ (a : Addr) (ns : List Int), vs = [.ref a] ∧ SqL K H a (ns.map V.int) ∧ ns.length ≤ 63 ∧ ∀ H', Q (.bl true) H'
abbrev sLaw : Stmt := topS 41
abbrev NscLaw : List Str := ["_law_script", "_law_hand_here", "_law_thing", "_law_made", "_law_kept", "_law_at", "_law_error", "_law_one"]
theorem scLaw : FnScope ["_law_script", "_law_hand_here", "_law_thing", "_law_made", "_law_kept", "_law_at", "_law_error", "_law_one"] ["_law_script"] (defScope sLaw) := ⟨rfl, rfl, rfl, by decide +kernel, rfl, by decide +kernel, by decide +kernel⟩
theorem ok_law {c : Nat → Addr} {f : Addr} {fd : FuncData} (F : Fun K "law" "law" sLaw f fd) (T : Txt mg) (ER : Errs P w K mg base c)
    (C__law_hand : Own P w K mg base CX0 1 "_law_hand" ["_law_script"] (spHand K))
    (C__law_odd : Own P w K mg base CX0 4 "_law_odd" ["_law_hand_here"] (spOdd K))
    (C__law_errors : Own P w K mg base CX0 3 "_law_errors" ["_law_thing"] (spErrors c))
    (C__law_is : Own P w K mg base CX0 27 "_law_is" ["_law_told", "_law_due"] (spIsS K))
    (C__law_classes : Own P w K mg base CX0 1 "_law_classes" ["_law_e"] (spClasses c)) : FnOk P w K mg base CX0 28 f fd ["_law_script"] (spLaw K) := by
  refine F.ok scLaw (fun vs H Q E h => ?_) (fun cdv A outer s H vs Q E hr h => ?_)
  · obtain ⟨a, ns, rfl, _⟩ := h
    rfl
  · obtain ⟨a, ns, rfl, hS, hl, q⟩ := h
    have M_LogError := ER.mLogError
    refine ⟨_, (pss_cons (ps_set (i := 1) scLaw.nd rfl (Or.inl rfl) (pe_own C__law_hand hr (pa_cons (pv 0) pa_nil)))
      (pss_cons (ps_set (i := 2) scLaw.nd rfl (Or.inr rfl) (pe_own C__law_odd hr (pa_cons (pv 1) pa_nil)))
      (pss_cons (ps_asg (pe_own C__law_errors hr (pa_cons (pv 2) pa_nil)) (pg_tup rfl (pgs_cons (pg_name (i := 3) scLaw.nd rfl (Or.inl rfl)) (pgs_cons (pg_name (i := 4) scLaw.nd rfl (Or.inl rfl)) pgs_nil))))
      (pss_cons (ps_if (pt_not (pt_val (pe_callB (cr_all rfl) (by rfl) T.nall (by decide +kernel) (pa_cons (pe_lc (own := [("_law_one", 7)]) (by rfl) scLaw.nd (pi_list (pv 4)) (blkOk_by (own := [("_law_one", 7)]) (N := NscLaw) (sc := defScope sLaw) (by decide +kernel)) (fun _ _ _ _ _ => (pg_name (i := 7) scLaw.nd rfl (Or.inl rfl))) (fun _ _ _ _ _ => pts_nil) (fun _ _ _ _ _ => (pe_own C__law_is hr (pa_cons (pv 7) (pa_cons (pv 2) pa_nil))))) pa_nil)))) (pss_one (ps_ret pe_bl)) pss_nil)
      (pss_cons (ps_for PassesOwn.never rfl (pi_enum (by rfl) T.nenumerate (pa_cons (pv 3) pa_nil)) (pg_tup rfl (pgs_cons (pg_name (i := 5) scLaw.nd rfl (Or.inl rfl)) (pgs_cons (pg_name (i := 6) scLaw.nd rfl (Or.inl rfl)) pgs_nil)))
        (pss_one (ps_if (PW.pt (pw_or (pt_cmpR (op_neD hr.units) (pe_own C__law_classes hr (pa_cons (pv 6) pa_nil)) (pe_lst (pa_cons (pv 5) pa_nil)) (nomark _)) (pw_or (pt_not (pt_val (pe_callB call_isErr (by rfl) T.nisinstance (by decide +kernel) (pa_cons (pv 6) (pa_cons (pe_cls M_LogError.gC) pa_nil))))) (pw_or1 (pt_not (pt_val (pe_callB call_isErr (by rfl) T.nisinstance (by decide +kernel) (pa_cons (pv 6) (pa_cons (pe_bltn (v := .ty "ValueError") (by rfl) T.nValueError (by decide +kernel) rfl) pa_nil))))))))) (pss_one (ps_ret pe_bl)) pss_nil)))
      (pss_one (ps_ret (pe_and (pe_cmpR (op_eqD hr.units) (pe_own C__law_classes hr (pa_cons (pe_mke0 M_LogError hr) pa_nil)) (pe_lst pa_nil) (nomark _)) (pe_one (pe_callB call_isErr (by rfl) T.nisinstance (by decide +kernel) (pa_cons (pe_mke0 M_LogError hr) (pa_cons (pe_bltn (v := .ty "ValueError") (by rfl) T.nValueError (by decide +kernel) rfl) pa_nil)))))))))))), ?_⟩
    refine ⟨.ref a, rfl, a, ns, rfl, hS, by omega, fun H1 p s1 np hh => ?_⟩
    refine ⟨.ref p, rfl, p, rfl, hh, fun v H2 g2 od => ?_⟩
    refine ⟨v, rfl, v, rfl, fun H3 t m k us s3 ht hm he hk => ?_⟩
    have ov : Odd K H3 v := (od.2.same cut_same).same s3
    refine ⟨t, [.ref m, .ref k], rfl, .inl (.inl ht), rfl, _, _, rfl, _, _, rfl, rfl, ?_⟩
    refine ⟨.ref k, rfl, k, rfl, ⟨_, .inl (.inl hk)⟩, fun D hD => lc_list (K := K) (a := k) (xs := [v, v, v, v, v, v])
      (fun i H' => Same H3 H' ∧ H' D = some (.lst ((List.replicate i true).map V.bl))) ⟨same_new hD, upd_same⟩ (fun i H' _ pv => .inl (.inl (pv.1 _ _ hk))) ?_ ?_⟩
    · rintro i x H' hi ⟨sm, hDD⟩
      have hx : x = v := by
        have := List.mem_of_getElem? hi
        simpa using this
      subst hx
      have hi6 : i < 6 := (List.getElem?_eq_some_iff.mp hi).1
      refine ⟨rfl, ?_⟩
      refine ⟨x, rfl, x, rfl, x, rfl, ov.same sm, fun H4 s4 => ⟨_, s4 _ _ hDD, ?_, fun b o e => ?_, ?_⟩⟩
      · rw [List.length_map, List.length_replicate]
        exact sz_lt (by omega)
      · rw [upd_ne (ne_of_none e hD)]
        exact s4 _ _ (sm _ _ e)
      · rw [upd_same, List.replicate_succ', List.map_append]
        rfl
    · rintro H4 ⟨s4, hDD⟩
      refine ⟨D, _, rfl, .inl (.inl hDD), _, rfl, ?_⟩
      refine ite2 (fun he => by simp at he) (fun _ => ?_)
      have hm4 := s4 _ _ hm
      have he4 := he.same s4
      refine ⟨.ref m, rfl, m, us, rfl, .inl (.inl hm4), for_it walk_enum (fun i σ' H' => Same H4 H' ∧ ∃ v5 v6, σ' = [some (.ref a), some (.ref p), some v, some (.ref m), some (.ref k), v5, v6, none])
        ⟨fun _ _ e => e, none, none, rfl⟩ (fun i σ' H' _ pv => .inl (.inl (pv.1 _ _ hm4))) ?_ ?_⟩
      · rintro i x σ' H5 H6 hi ⟨s5, v5, v6, rfl⟩ ⟨t2, u, z, rfl, hT, rfl, eu, ez⟩
        obtain rfl : V.int (i : Nat) = u := Option.some.inj eu
        have hi30 : i < 30 := by rw [← he4.1]; exact hi
        obtain ⟨e, rfl, ea⟩ := ((he4.2 i z ez).same s5).err
        rw [Nat.zero_add] at ea
        have s6 := s5.trans (same_new (o := .tup [V.int (i : Nat), .ref e]) hT)
        have ea := ea.same (same_new (o := .tup [V.int (i : Nat), .ref e]) hT)
        refine ⟨t2, _, rfl, .inl (.inl upd_same), rfl, _, _, rfl, _, _, rfl, rfl, ?_⟩
        show tIfS _ _ _ _ [some (.ref a), some (.ref p), some v, some (.ref m), some (.ref k), some (.int (i : Nat)), some (.ref e), none] _
        generalize upd H5 t2 (.tup [V.int (i : Nat), .ref e]) = H7 at s6 ea ⊢
        refine ⟨.ref e, rfl, e, i, rfl, by omega, ea, fun H8 q8 s8 nq8 h8 => ⟨.int (i : Nat), rfl, (by show 1 ≤ sizeLine; decide), fun q9 n9 => ?_⟩⟩
        have s9 := s8.trans (same_new (o := .lst [.int (i : Nat)]) n9)
        rw [if_pos hi30] at h8
        refine ⟨.list [.int (i : Nat)], .list [.int (i : Nat)], .lst (.inl (.inl (same_new n9 _ _ h8))) (.cons (.int _) .nil), .lst (.inl (.inl upd_same)) (.cons (.int _) .nil), rfl, rfl, _, rfl, ?_⟩
        have er := SeqAt.eqv_refl (.list [.int (i : Nat)]) rfl
        refine ite2 (fun z => absurd z (by rw [er]; decide)) (fun _ => ?_)
        have ea9 := ea.same s9
        refine ⟨.ref e, rfl, e, c i, .ref (c 30), .ref (c 30), true, rfl, ER.er i (by omega), ea9, .own _, ER.hL i (by omega), _, rfl, ?_⟩
        refine ite2 (fun z => absurd z (by decide)) (fun _ => ?_)
        refine ⟨.ref e, rfl, e, c i, .ty "ValueError", .type "ValueError", true, rfl, ER.er i (by omega), ea9, .ty _, ER.hV i (by omega), _, rfl, ?_⟩
        refine iteF ?_
        exact ⟨s6.trans s9, _, _, rfl⟩
      · rintro σ' H5 ⟨s5, v5, v6, rfl⟩
        refine ⟨(by show 0 ≤ 1000; decide), fun e1 n1 => ⟨e1, rfl, rfl, ?_⟩⟩
        refine ⟨e1, 30, rfl, by decide, .inl upd_same, fun H6 q6 s6 n6 h6 => ?_⟩
        refine ⟨(by show 0 ≤ sizeLine; decide), fun q7 n7 => ?_⟩
        rw [if_neg (by decide)] at h6
        refine ⟨.list [], .list [], .lst (.inl (.inl (same_new n7 _ _ h6))) .nil, .lst (.inl (.inl upd_same)) .nil, rfl, rfl, ?_⟩
        have er := SeqAt.eqv_refl (.list []) rfl
        rw [er]
        refine ⟨true, rfl, iteT ?_⟩
        refine ⟨(by show 0 ≤ 1000; decide), fun e2 n2 => ⟨e2, rfl, rfl, ?_⟩⟩
        refine ⟨e2, c 30, .ty "ValueError", .type "ValueError", true, rfl, ER.er 30 (by decide), .inl upd_same, .ty _, ER.hV 30 (by decide), ?_⟩
        exact q _
end
end Zq
namespace Zq
open PySem PySem.Spec PyProof.Rows L2
/-! ### the end -/
theorem getD_mem {l : List Addr} {i : Nat} (h : i < l.length) : l.getD i 0 ∈ l := by
  rw [List.getD_eq_getElem?_getD, List.getElem?_eq_getElem h]
  exact List.getElem_mem h
theorem getD_inj {l : List Addr} {i j : Nat} (nd : l.Nodup) (hi : i < l.length) (hj : j < l.length) (e : l.getD i 0 = l.getD j 0) : i = j := by
  rw [List.getD_eq_getElem?_getD, List.getD_eq_getElem?_getD, List.getElem?_eq_getElem hi, List.getElem?_eq_getElem hj] at e
  have e : l[i] = l[j] := e
  rcases Nat.lt_trichotomy i j with z | z | z
  · exact absurd e (List.pairwise_iff_getElem.mp nd i j hi hj z)
  · exact z
  · exact absurd e.symm (List.pairwise_iff_getElem.mp nd j i hj hi z)
theorem tab {K : PySem.W.Frag} {L : Addr} {cs : List Addr} (len : cs.length = 31) (hL : cs.getD 30 0 = L) (al : cs.all (errB K L) = true) (b : bltB K = true) (nd : cs.Nodup) :
    (∀ i, i ≤ 30 → errB K L (cs.getD i 0) = true) ∧ ∀ i j, i ≤ 30 → j ≤ 29 → PySem.W.kitOne K (.ref (cs.getD i 0)) (.ref (cs.getD j 0)) = some (decide (i = j)) := by
  have h1 : ∀ i, i ≤ 30 → errB K L (cs.getD i 0) = true := fun i hi => List.all_eq_true.mp al _ (getD_mem (by omega))
  refine ⟨h1, fun i j hi hj => ?_⟩
  rw [kit_err (h1 i hi) (h1 j (by omega)) b]
  congr 1
  rw [Bool.eq_iff_iff, decide_eq_true_iff, decide_eq_true_iff]
  constructor
  · rintro (z | z)
    · exact getD_inj nd (by omega) (by omega) z
    · have := getD_inj nd (by omega) (by omega) (z.trans hL.symm)
      omega
  · intro z
    exact .inl (by rw [z])
/-- one look at the written part -/
def endB (K : PySem.W.Frag) (L fL : Addr) (cs is : List Addr) : Bool := txtB K && (bltB K && (cs.all (errB K L) && (decide cs.Nodup && (((cs.take 30).drop 6).all (fun C => decide (PySem.W.findIn K (.ref C) "__init__" = some (some (.ref fL)))) &&
  (is.all (fun f => decide (PySem.W.typeIn K (.ref f) = some (.type "function"))) && ((cs.take 6).zip (["part", "at", "most", "part", "number", "line"] : List Str)).all fun p => decide (PySem.W.findIn K (.ref p.1) p.2 = some none))))))
theorem all_mk {l : PySem.W.OpenLaw} {w : World} {K : PySem.W.Frag} {h : Heap} {mg : Str → Option Value} {fa C0 C1 C2 C3 C4 C5 C6 C7 C8 C9 C10 C11 C12 C13 C14 C15 C16 C17 C18 C19 C20 C21 C22 C23 C24 C25 C26 C27 C28 C29 C30 g0 g1 g2 g3 g4 g5 g6 f0 f1 f2 f3 f4 f5 f6 f7 f8 : Addr} (X : K.In h) (G : h.Ns mainGlobals mg) (hfa : mg "law" = some (.ref fa))
    {odi0 ani0 odi1 ani1 odi2 ani2 odi3 ani3 odi4 ani4 odi5 ani5 odi6 ani6 od0 an0 od1 an1 od2 an2 od3 an3 od4 an4 od5 an5 od6 an6 od7 an7 od8 an8 : Option Addr} {sli0 sli1 sli2 sli3 sli4 sli5 sli6 sl0 sl1 sl2 sl3 sl4 sl5 sl6 sl7 sl8 : Array (Option Value)} {oi0 kVi0 dci0 pmi0 cdi0 cti0 oi1 kVi1 dci1 pmi1 cdi1 cti1 oi2 kVi2 dci2 pmi2 cdi2 cti2 oi3 kVi3 dci3 pmi3 cdi3 cti3 oi4 kVi4 dci4 pmi4 cdi4 cti4 oi5 kVi5 dci5 pmi5 cdi5 cti5 oi6 kVi6 dci6 pmi6 cdi6 cti6 oc0 kV0 dc0 pm0 cd0 ct0 oc1 kV1 dc1 pm1 cd1 ct1 oc2 kV2 dc2 pm2 cd2 ct2 oc3 kV3 dc3 pm3 cd3 ct3 oc4 kV4 dc4 pm4 cd4 ct4 oc5 kV5 dc5 pm5 cd5 ct5 oc6 kV6 dc6 pm6 cd6 ct6 oc7 kV7 dc7 pm7 cd7 ct7 oc8 kV8 dc8 pm8 cd8 ct8 : Value}
    (a0 : PySem.W.nsIn K mainGlobals "BadBook" = some (some (.ref C0)))
    (a1 : PySem.W.nsIn K mainGlobals "NoStriking" = some (some (.ref C1)))
    (a2 : PySem.W.nsIn K mainGlobals "TooMany" = some (some (.ref C2)))
    (a3 : PySem.W.nsIn K mainGlobals "BadMachine" = some (some (.ref C3)))
    (a4 : PySem.W.nsIn K mainGlobals "Gone" = some (some (.ref C4)))
    (a5 : PySem.W.nsIn K mainGlobals "BadText" = some (some (.ref C5)))
    (a6 : PySem.W.nsIn K mainGlobals "NoLog" = some (some (.ref C6)))
    (a7 : PySem.W.nsIn K mainGlobals "NoStrike" = some (some (.ref C7)))
    (a8 : PySem.W.nsIn K mainGlobals "NoPlace" = some (some (.ref C8)))
    (a9 : PySem.W.nsIn K mainGlobals "NoPiece" = some (some (.ref C9)))
    (a10 : PySem.W.nsIn K mainGlobals "NoNumber" = some (some (.ref C10)))
    (a11 : PySem.W.nsIn K mainGlobals "NoPrices" = some (some (.ref C11)))
    (a12 : PySem.W.nsIn K mainGlobals "NotEnough" = some (some (.ref C12)))
    (a13 : PySem.W.nsIn K mainGlobals "Enough" = some (some (.ref C13)))
    (a14 : PySem.W.nsIn K mainGlobals "NoWeights" = some (some (.ref C14)))
    (a15 : PySem.W.nsIn K mainGlobals "NoLetter" = some (some (.ref C15)))
    (a16 : PySem.W.nsIn K mainGlobals "NoFraction" = some (some (.ref C16)))
    (a17 : PySem.W.nsIn K mainGlobals "NoText" = some (some (.ref C17)))
    (a18 : PySem.W.nsIn K mainGlobals "NotAlike" = some (some (.ref C18)))
    (a19 : PySem.W.nsIn K mainGlobals "NotOwn" = some (some (.ref C19)))
    (a20 : PySem.W.nsIn K mainGlobals "NotClosed" = some (some (.ref C20)))
    (a21 : PySem.W.nsIn K mainGlobals "NoTexts" = some (some (.ref C21)))
    (a22 : PySem.W.nsIn K mainGlobals "NoIndex" = some (some (.ref C22)))
    (a23 : PySem.W.nsIn K mainGlobals "NotLet" = some (some (.ref C23)))
    (a24 : PySem.W.nsIn K mainGlobals "NoFlag" = some (some (.ref C24)))
    (a25 : PySem.W.nsIn K mainGlobals "NoEntry" = some (some (.ref C25)))
    (a26 : PySem.W.nsIn K mainGlobals "NoReader" = some (some (.ref C26)))
    (a27 : PySem.W.nsIn K mainGlobals "ReaderThere" = some (some (.ref C27)))
    (a28 : PySem.W.nsIn K mainGlobals "NothingDone" = some (some (.ref C28)))
    (a29 : PySem.W.nsIn K mainGlobals "NoValues" = some (some (.ref C29)))
    (a30 : PySem.W.nsIn K mainGlobals "LogError" = some (some (.ref C30)))
    (bi0 : PySem.W.findIn K (.ref C30) "__init__" = some (some (.ref g0))) (bl0 : K.lookup g0 = some ⟨oi0, odi0, .func (PySem.W.fnOf "__init__" "LogError.__init__" (defArgs sI_LogError) (defBody sI_LogError) (defScope sI_LogError) .none kVi0 dci0 pmi0 ani0 cdi0 cti0), sli0⟩) (bc0 : PySem.W.codeIn K cdi0 "LogError.__init__" = true) (bk0 : PySem.W.keepIn K (.ref g0) = true)
    (bi1 : PySem.W.findIn K (.ref C0) "__init__" = some (some (.ref g1))) (bl1 : K.lookup g1 = some ⟨oi1, odi1, .func (PySem.W.fnOf "__init__" "BadBook.__init__" (defArgs sI_BadBook) (defBody sI_BadBook) (defScope sI_BadBook) .none kVi1 dci1 pmi1 ani1 cdi1 cti1), sli1⟩) (bc1 : PySem.W.codeIn K cdi1 "BadBook.__init__" = true) (bk1 : PySem.W.keepIn K (.ref g1) = true)
    (bi2 : PySem.W.findIn K (.ref C1) "__init__" = some (some (.ref g2))) (bl2 : K.lookup g2 = some ⟨oi2, odi2, .func (PySem.W.fnOf "__init__" "NoStriking.__init__" (defArgs sI_NoStriking) (defBody sI_NoStriking) (defScope sI_NoStriking) .none kVi2 dci2 pmi2 ani2 cdi2 cti2), sli2⟩) (bc2 : PySem.W.codeIn K cdi2 "NoStriking.__init__" = true) (bk2 : PySem.W.keepIn K (.ref g2) = true)
    (bi3 : PySem.W.findIn K (.ref C2) "__init__" = some (some (.ref g3))) (bl3 : K.lookup g3 = some ⟨oi3, odi3, .func (PySem.W.fnOf "__init__" "TooMany.__init__" (defArgs sI_TooMany) (defBody sI_TooMany) (defScope sI_TooMany) .none kVi3 dci3 pmi3 ani3 cdi3 cti3), sli3⟩) (bc3 : PySem.W.codeIn K cdi3 "TooMany.__init__" = true) (bk3 : PySem.W.keepIn K (.ref g3) = true)
    (bi4 : PySem.W.findIn K (.ref C3) "__init__" = some (some (.ref g4))) (bl4 : K.lookup g4 = some ⟨oi4, odi4, .func (PySem.W.fnOf "__init__" "BadMachine.__init__" (defArgs sI_BadMachine) (defBody sI_BadMachine) (defScope sI_BadMachine) .none kVi4 dci4 pmi4 ani4 cdi4 cti4), sli4⟩) (bc4 : PySem.W.codeIn K cdi4 "BadMachine.__init__" = true) (bk4 : PySem.W.keepIn K (.ref g4) = true)
    (bi5 : PySem.W.findIn K (.ref C4) "__init__" = some (some (.ref g5))) (bl5 : K.lookup g5 = some ⟨oi5, odi5, .func (PySem.W.fnOf "__init__" "Gone.__init__" (defArgs sI_Gone) (defBody sI_Gone) (defScope sI_Gone) .none kVi5 dci5 pmi5 ani5 cdi5 cti5), sli5⟩) (bc5 : PySem.W.codeIn K cdi5 "Gone.__init__" = true) (bk5 : PySem.W.keepIn K (.ref g5) = true)
    (bi6 : PySem.W.findIn K (.ref C5) "__init__" = some (some (.ref g6))) (bl6 : K.lookup g6 = some ⟨oi6, odi6, .func (PySem.W.fnOf "__init__" "BadText.__init__" (defArgs sI_BadText) (defBody sI_BadText) (defScope sI_BadText) .none kVi6 dci6 pmi6 ani6 cdi6 cti6), sli6⟩) (bc6 : PySem.W.codeIn K cdi6 "BadText.__init__" = true) (bk6 : PySem.W.keepIn K (.ref g6) = true)
    (da0 : PySem.W.nsIn K mainGlobals "_law_hand" = some (some (.ref f0))) (dl0 : K.lookup f0 = some ⟨oc0, od0, .func (PySem.W.fnOf "_law_hand" "_law_hand" (defArgs sHand) (defBody sHand) (defScope sHand) .none kV0 dc0 pm0 an0 cd0 ct0), sl0⟩) (dc_0 : PySem.W.codeIn K cd0 "_law_hand" = true) (dk0 : PySem.W.keepIn K (.ref f0) = true)
    (da1 : PySem.W.nsIn K mainGlobals "_law_draw" = some (some (.ref f1))) (dl1 : K.lookup f1 = some ⟨oc1, od1, .func (PySem.W.fnOf "_law_draw" "_law_draw" (defArgs sDraw) (defBody sDraw) (defScope sDraw) .none kV1 dc1 pm1 an1 cd1 ct1), sl1⟩) (dc_1 : PySem.W.codeIn K cd1 "_law_draw" = true) (dk1 : PySem.W.keepIn K (.ref f1) = true)
    (da2 : PySem.W.nsIn K mainGlobals "_law_any" = some (some (.ref f2))) (dl2 : K.lookup f2 = some ⟨oc2, od2, .func (PySem.W.fnOf "_law_any" "_law_any" (defArgs sAny) (defBody sAny) (defScope sAny) .none kV2 dc2 pm2 an2 cd2 ct2), sl2⟩) (dc_2 : PySem.W.codeIn K cd2 "_law_any" = true) (dk2 : PySem.W.keepIn K (.ref f2) = true)
    (da3 : PySem.W.nsIn K mainGlobals "_law_is" = some (some (.ref f3))) (dl3 : K.lookup f3 = some ⟨oc3, od3, .func (PySem.W.fnOf "_law_is" "_law_is" (defArgs sIs) (defBody sIs) (defScope sIs) .none kV3 dc3 pm3 an3 cd3 ct3), sl3⟩) (dc_3 : PySem.W.codeIn K cd3 "_law_is" = true) (dk3 : PySem.W.keepIn K (.ref f3) = true)
    (da4 : PySem.W.nsIn K mainGlobals "_law_nested" = some (some (.ref f4))) (dl4 : K.lookup f4 = some ⟨oc4, od4, .func (PySem.W.fnOf "_law_nested" "_law_nested" (defArgs sNested) (defBody sNested) (defScope sNested) .none kV4 dc4 pm4 an4 cd4 ct4), sl4⟩) (dc_4 : PySem.W.codeIn K cd4 "_law_nested" = true) (dk4 : PySem.W.keepIn K (.ref f4) = true)
    (da5 : PySem.W.nsIn K mainGlobals "_law_odd" = some (some (.ref f5))) (dl5 : K.lookup f5 = some ⟨oc5, od5, .func (PySem.W.fnOf "_law_odd" "_law_odd" (defArgs sOdd) (defBody sOdd) (defScope sOdd) .none kV5 dc5 pm5 an5 cd5 ct5), sl5⟩) (dc_5 : PySem.W.codeIn K cd5 "_law_odd" = true) (dk5 : PySem.W.keepIn K (.ref f5) = true)
    (da6 : PySem.W.nsIn K mainGlobals "_law_classes" = some (some (.ref f6))) (dl6 : K.lookup f6 = some ⟨oc6, od6, .func (PySem.W.fnOf "_law_classes" "_law_classes" (defArgs sCls) (defBody sCls) (defScope sCls) .none kV6 dc6 pm6 an6 cd6 ct6), sl6⟩) (dc_6 : PySem.W.codeIn K cd6 "_law_classes" = true) (dk6 : PySem.W.keepIn K (.ref f6) = true)
    (da7 : PySem.W.nsIn K mainGlobals "_law_errors" = some (some (.ref f7))) (dl7 : K.lookup f7 = some ⟨oc7, od7, .func (PySem.W.fnOf "_law_errors" "_law_errors" (defArgs sErrs) (defBody sErrs) (defScope sErrs) .none kV7 dc7 pm7 an7 cd7 ct7), sl7⟩) (dc_7 : PySem.W.codeIn K cd7 "_law_errors" = true) (dk7 : PySem.W.keepIn K (.ref f7) = true)
    (da8 : PySem.W.nsIn K mainGlobals "law" = some (some (.ref f8))) (dl8 : K.lookup f8 = some ⟨oc8, od8, .func (PySem.W.fnOf "law" "law" (defArgs sLaw) (defBody sLaw) (defScope sLaw) .none kV8 dc8 pm8 an8 cd8 ct8), sl8⟩) (dc_8 : PySem.W.codeIn K cd8 "law" = true) (dk8 : PySem.W.keepIn K (.ref f8) = true)
    (chk : endB K C30 g0 [C0, C1, C2, C3, C4, C5, C6, C7, C8, C9, C10, C11, C12, C13, C14, C15, C16, C17, C18, C19, C20, C21, C22, C23, C24, C25, C26, C27, C28, C29, C30] [g0, g1, g2, g3, g4, g5, g6] = true) :
    ∃ fd : FuncData, (∀ (s : Shared) (v : Value), BindsTo s fd ⟨[v], []⟩ [("_law_script", v)]) ∧ ∀ base : Heap, K.In base → base.Ns mainGlobals mg → FnOk l.prog w K mg base CX0 28 fa fd ["_law_script"] (spLaw K) := by
  have e := hfa.symm.trans (PySem.W.mg_of X G da8)
  cases e
  obtain ⟨t, chk⟩ := Bool.and_eq_true_iff.mp chk
  obtain ⟨b, chk⟩ := Bool.and_eq_true_iff.mp chk
  obtain ⟨al, chk⟩ := Bool.and_eq_true_iff.mp chk
  obtain ⟨nd, chk⟩ := Bool.and_eq_true_iff.mp chk
  obtain ⟨ini, chk⟩ := Bool.and_eq_true_iff.mp chk
  obtain ⟨fns, flds⟩ := Bool.and_eq_true_iff.mp chk
  have T : Txt mg := txt_of X G t
  obtain ⟨er, kit⟩ := tab (cs := [C0, C1, C2, C3, C4, C5, C6, C7, C8, C9, C10, C11, C12, C13, C14, C15, C16, C17, C18, C19, C20, C21, C22, C23, C24, C25, C26, C27, C28, C29, C30]) rfl rfl al b (of_decide_eq_true nd)
  have erc : ∀ i, i ≤ 30 → ErrC K (([C0, C1, C2, C3, C4, C5, C6, C7, C8, C9, C10, C11, C12, C13, C14, C15, C16, C17, C18, C19, C20, C21, C22, C23, C24, C25, C26, C27, C28, C29, C30] : List Addr).getD i 0) := fun i hi => (errB_ok (er i hi) b).1
  have fn : ∀ f ∈ ([g0, g1, g2, g3, g4, g5, g6] : List Addr), PySem.W.typeIn K (.ref f) = some (.type "function") := fun f hf => of_decide_eq_true (List.all_eq_true.mp fns f hf)
  have no : ∀ C ∈ ([C6, C7, C8, C9, C10, C11, C12, C13, C14, C15, C16, C17, C18, C19, C20, C21, C22, C23, C24, C25, C26, C27, C28, C29] : List Addr), PySem.W.findIn K (.ref C) "__init__" = some (some (.ref g0)) := fun C hC => of_decide_eq_true (List.all_eq_true.mp ini C hC)
  have fl : ∀ p ∈ ([(C0, "part"), (C1, "at"), (C2, "most"), (C3, "part"), (C4, "number"), (C5, "line")] : List (Addr × Str)), PySem.W.findIn K (.ref p.1) p.2 = some none := fun p hp => of_decide_eq_true (List.all_eq_true.mp flds p hp)
  have I0 := fun_mk (st := sI_LogError) bl0 bc0 bk0
  have I1 := fun_mk (st := sI_BadBook) bl1 bc1 bk1
  have I2 := fun_mk (st := sI_NoStriking) bl2 bc2 bk2
  have I3 := fun_mk (st := sI_TooMany) bl3 bc3 bk3
  have I4 := fun_mk (st := sI_BadMachine) bl4 bc4 bk4
  have I5 := fun_mk (st := sI_Gone) bl5 bc5 bk5
  have I6 := fun_mk (st := sI_BadText) bl6 bc6 bk6
  have F0 := fun_mk (st := sHand) dl0 dc_0 dk0
  have F1 := fun_mk (st := sDraw) dl1 dc_1 dk1
  have F2 := fun_mk (st := sAny) dl2 dc_2 dk2
  have F3 := fun_mk (st := sIs) dl3 dc_3 dk3
  have F4 := fun_mk (st := sNested) dl4 dc_4 dk4
  have F5 := fun_mk (st := sOdd) dl5 dc_5 dk5
  have F6 := fun_mk (st := sCls) dl6 dc_6 dk6
  have F7 := fun_mk (st := sErrs) dl7 dc_7 dk7
  have F8 := fun_mk (st := sLaw) dl8 dc_8 dk8
  have Ib0 := I0.binds (ps := ["self"]) fun _ _ _ _ _ _ us hl => match us, hl with | [_], _ => rfl
  have Ib1 := I1.binds (ps := ["self", "part"]) fun _ _ _ _ _ _ us hl => match us, hl with | [_, _], _ => rfl
  have Ib2 := I2.binds (ps := ["self", "at"]) fun _ _ _ _ _ _ us hl => match us, hl with | [_, _], _ => rfl
  have Ib3 := I3.binds (ps := ["self", "most"]) fun _ _ _ _ _ _ us hl => match us, hl with | [_, _], _ => rfl
  have Ib4 := I4.binds (ps := ["self", "part"]) fun _ _ _ _ _ _ us hl => match us, hl with | [_, _], _ => rfl
  have Ib5 := I5.binds (ps := ["self", "number"]) fun _ _ _ _ _ _ us hl => match us, hl with | [_, _], _ => rfl
  have Ib6 := I6.binds (ps := ["self", "line"]) fun _ _ _ _ _ _ us hl => match us, hl with | [_, _], _ => rfl
  have R0 : Raw K mg "_law_hand" ["_law_script"] f0 _ := ⟨PySem.W.mg_of X G da0, dk0, F0.binds fun _ _ _ _ _ _ us hl => match us, hl with | [_], _ => rfl⟩
  have R1 : Raw K mg "_law_draw" ["_law_hand_here", "_law_many"] f1 _ := ⟨PySem.W.mg_of X G da1, dk1, F1.binds fun _ _ _ _ _ _ us hl => match us, hl with | [_, _], _ => rfl⟩
  have R2 : Raw K mg "_law_any" ["_law_hand_here", "_law_items"] f2 _ := ⟨PySem.W.mg_of X G da2, dk2, F2.binds fun _ _ _ _ _ _ us hl => match us, hl with | [_, _], _ => rfl⟩
  have R3 : Raw K mg "_law_is" ["_law_told", "_law_due"] f3 _ := ⟨PySem.W.mg_of X G da3, dk3, F3.binds fun _ _ _ _ _ _ us hl => match us, hl with | [_, _], _ => rfl⟩
  have R4 : Raw K mg "_law_nested" ["_law_hand_here"] f4 _ := ⟨PySem.W.mg_of X G da4, dk4, F4.binds fun _ _ _ _ _ _ us hl => match us, hl with | [_], _ => rfl⟩
  have R5 : Raw K mg "_law_odd" ["_law_hand_here"] f5 _ := ⟨PySem.W.mg_of X G da5, dk5, F5.binds fun _ _ _ _ _ _ us hl => match us, hl with | [_], _ => rfl⟩
  have R6 : Raw K mg "_law_classes" ["_law_e"] f6 _ := ⟨PySem.W.mg_of X G da6, dk6, F6.binds fun _ _ _ _ _ _ us hl => match us, hl with | [_], _ => rfl⟩
  have R7 : Raw K mg "_law_errors" ["_law_thing"] f7 _ := ⟨PySem.W.mg_of X G da7, dk7, F7.binds fun _ _ _ _ _ _ us hl => match us, hl with | [_], _ => rfl⟩
  refine ⟨PySem.W.fnOf "law" "law" (defArgs sLaw) (defBody sLaw) (defScope sLaw) .none kV8 dc8 pm8 an8 cd8 ct8, fun s v => .of_eq rfl, fun base _ _ => ?_⟩
  have ER : Errs l.prog w K mg base (fun i => ([C0, C1, C2, C3, C4, C5, C6, C7, C8, C9, C10, C11, C12, C13, C14, C15, C16, C17, C18, C19, C20, C21, C22, C23, C24, C25, C26, C27, C28, C29, C30] : List Addr).getD i 0) :=
    { mBadBook := ⟨PySem.W.mg_of X G a0, erc 0 (by decide), ⟨g1, _, bi1, fn _ (by simp), ok_i_BadBook I1, Ib1⟩⟩,
      mNoStriking := ⟨PySem.W.mg_of X G a1, erc 1 (by decide), ⟨g2, _, bi2, fn _ (by simp), ok_i_NoStriking I2, Ib2⟩⟩,
      mTooMany := ⟨PySem.W.mg_of X G a2, erc 2 (by decide), ⟨g3, _, bi3, fn _ (by simp), ok_i_TooMany I3, Ib3⟩⟩,
      mBadMachine := ⟨PySem.W.mg_of X G a3, erc 3 (by decide), ⟨g4, _, bi4, fn _ (by simp), ok_i_BadMachine I4, Ib4⟩⟩,
      mGone := ⟨PySem.W.mg_of X G a4, erc 4 (by decide), ⟨g5, _, bi5, fn _ (by simp), ok_i_Gone I5, Ib5⟩⟩,
      mBadText := ⟨PySem.W.mg_of X G a5, erc 5 (by decide), ⟨g6, _, bi6, fn _ (by simp), ok_i_BadText I6, Ib6⟩⟩,
      mNoLog := ⟨PySem.W.mg_of X G a6, erc 6 (by decide), ⟨g0, _, no _ (by simp), fn _ (by simp), ok_i_LogError I0, Ib0⟩⟩,
      mNoStrike := ⟨PySem.W.mg_of X G a7, erc 7 (by decide), ⟨g0, _, no _ (by simp), fn _ (by simp), ok_i_LogError I0, Ib0⟩⟩,
      mNoPlace := ⟨PySem.W.mg_of X G a8, erc 8 (by decide), ⟨g0, _, no _ (by simp), fn _ (by simp), ok_i_LogError I0, Ib0⟩⟩,
      mNoPiece := ⟨PySem.W.mg_of X G a9, erc 9 (by decide), ⟨g0, _, no _ (by simp), fn _ (by simp), ok_i_LogError I0, Ib0⟩⟩,
      mNoNumber := ⟨PySem.W.mg_of X G a10, erc 10 (by decide), ⟨g0, _, no _ (by simp), fn _ (by simp), ok_i_LogError I0, Ib0⟩⟩,
      mNoPrices := ⟨PySem.W.mg_of X G a11, erc 11 (by decide), ⟨g0, _, no _ (by simp), fn _ (by simp), ok_i_LogError I0, Ib0⟩⟩,
      mNotEnough := ⟨PySem.W.mg_of X G a12, erc 12 (by decide), ⟨g0, _, no _ (by simp), fn _ (by simp), ok_i_LogError I0, Ib0⟩⟩,
      mEnough := ⟨PySem.W.mg_of X G a13, erc 13 (by decide), ⟨g0, _, no _ (by simp), fn _ (by simp), ok_i_LogError I0, Ib0⟩⟩,
      mNoWeights := ⟨PySem.W.mg_of X G a14, erc 14 (by decide), ⟨g0, _, no _ (by simp), fn _ (by simp), ok_i_LogError I0, Ib0⟩⟩,
      mNoLetter := ⟨PySem.W.mg_of X G a15, erc 15 (by decide), ⟨g0, _, no _ (by simp), fn _ (by simp), ok_i_LogError I0, Ib0⟩⟩,
      mNoFraction := ⟨PySem.W.mg_of X G a16, erc 16 (by decide), ⟨g0, _, no _ (by simp), fn _ (by simp), ok_i_LogError I0, Ib0⟩⟩,
      mNoText := ⟨PySem.W.mg_of X G a17, erc 17 (by decide), ⟨g0, _, no _ (by simp), fn _ (by simp), ok_i_LogError I0, Ib0⟩⟩,
      mNotAlike := ⟨PySem.W.mg_of X G a18, erc 18 (by decide), ⟨g0, _, no _ (by simp), fn _ (by simp), ok_i_LogError I0, Ib0⟩⟩,
      mNotOwn := ⟨PySem.W.mg_of X G a19, erc 19 (by decide), ⟨g0, _, no _ (by simp), fn _ (by simp), ok_i_LogError I0, Ib0⟩⟩,
      mNotClosed := ⟨PySem.W.mg_of X G a20, erc 20 (by decide), ⟨g0, _, no _ (by simp), fn _ (by simp), ok_i_LogError I0, Ib0⟩⟩,
      mNoTexts := ⟨PySem.W.mg_of X G a21, erc 21 (by decide), ⟨g0, _, no _ (by simp), fn _ (by simp), ok_i_LogError I0, Ib0⟩⟩,
      mNoIndex := ⟨PySem.W.mg_of X G a22, erc 22 (by decide), ⟨g0, _, no _ (by simp), fn _ (by simp), ok_i_LogError I0, Ib0⟩⟩,
      mNotLet := ⟨PySem.W.mg_of X G a23, erc 23 (by decide), ⟨g0, _, no _ (by simp), fn _ (by simp), ok_i_LogError I0, Ib0⟩⟩,
      mNoFlag := ⟨PySem.W.mg_of X G a24, erc 24 (by decide), ⟨g0, _, no _ (by simp), fn _ (by simp), ok_i_LogError I0, Ib0⟩⟩,
      mNoEntry := ⟨PySem.W.mg_of X G a25, erc 25 (by decide), ⟨g0, _, no _ (by simp), fn _ (by simp), ok_i_LogError I0, Ib0⟩⟩,
      mNoReader := ⟨PySem.W.mg_of X G a26, erc 26 (by decide), ⟨g0, _, no _ (by simp), fn _ (by simp), ok_i_LogError I0, Ib0⟩⟩,
      mReaderThere := ⟨PySem.W.mg_of X G a27, erc 27 (by decide), ⟨g0, _, no _ (by simp), fn _ (by simp), ok_i_LogError I0, Ib0⟩⟩,
      mNothingDone := ⟨PySem.W.mg_of X G a28, erc 28 (by decide), ⟨g0, _, no _ (by simp), fn _ (by simp), ok_i_LogError I0, Ib0⟩⟩,
      mNoValues := ⟨PySem.W.mg_of X G a29, erc 29 (by decide), ⟨g0, _, no _ (by simp), fn _ (by simp), ok_i_LogError I0, Ib0⟩⟩,
      fBadBook := fl (C0, "part") (by simp),
      fNoStriking := fl (C1, "at") (by simp),
      fTooMany := fl (C2, "most") (by simp),
      fBadMachine := fl (C3, "part") (by simp),
      fGone := fl (C4, "number") (by simp),
      fBadText := fl (C5, "line") (by simp),
      mLogError := ⟨PySem.W.mg_of X G a30, erc 30 (by decide), ⟨g0, _, bi0, fn _ (by simp), ok_i_LogError I0, Ib0⟩⟩,
      er := erc,
      hk := kit,
      hL := fun i hi => by rw [kit_err (er i hi) (er 30 (by decide)) b, decide_eq_true (.inr rfl)],
      hV := fun i hi => kit_errV (er i hi) b }
  have o_draw := R1.own (P := l.prog) (w := w) (base := base) (ok_draw F1 T)
  have o_any := R2.own (ok_any F2 T o_draw)
  have o_nested := R4.own (ok_nested F4 T o_any)
  exact ok_law F8 T ER (R0.own (ok_hand F0 T)) (R5.own (ok_odd F5 T o_any o_nested)) (R7.own (ok_errs F7 T ER)) (own_isS R3 F3 T) (R6.own (ok_cls F6 T ER))
theorem walk {l : PySem.W.OpenLaw} {q : Program} {loose : List Str} {XP : (Str → Option Value) → Heap → Prop} {YP : World → Heap → Prop} {d : DefRec} {K : Params → PySem.W.Frag} (hn : l.most = some 63) (hdf : d.params.defaults = [])
    (hY : ∀ (w : World) (h : Heap), YP w h → (K w.params).In h)
    (F : ∀ (w : World) (mg : Str → Option Value) (fa : Addr) (h : Heap), (K w.params).In h → h.Ns mainGlobals mg → mg d.name = some (.ref fa) →
      ∃ fd : FuncData, (∀ (s : Shared) (u : Value), BindsTo s fd ⟨[u], []⟩ [("_law_script", u)]) ∧ ∀ base : Heap, (K w.params).In base → base.Ns mainGlobals mg → FnOk l.prog w (K w.params) mg base CX0 28 fa fd ["_law_script"] (spLaw (K w.params))) :
    PySem.W.WalkO q loose XP YP l.row.toRowW d [] (fun f vs => PySem.call f vs) :=
  L2.walk_of (n := 63) (k := 28) (x := "_law_script") (CX := fun _ => CX0) (sp := fun w => spLaw (K w.params)) hn (by decide) hdf ⟨rfl, by decide, by decide⟩ hY F (fun _ _ a ns hl _ hS => ⟨a, ns, rfl, hS, hl, fun _ => rfl⟩) fun _ _ _ _ _ z => z
end Zq
open PySem PySem.W PyProof.Rows
set_option maxRecDepth 100000 in
set_option maxHeartbeats 0 in
theorem PySem.Challenge.cw_struckpieces_k00_errors_and_their_fields_holds : PySem.Challenge.rw_struckpieces_k00_errors_and_their_fields.Holds := by
  w_on; o_law; k_head; (case hw => w_witness2)
  k_fill
  refine Zq.walk (l := PySem.Challenge.rw_struckpieces_k00_errors_and_their_fields) rfl rfl (fun w h Y => PySem.W.kIn_of Y) ?F
  case F =>
    intro w mg fa h KX G hmg
    refine' Zq.all_mk KX G hmg ?a0 ?a1 ?a2 ?a3 ?a4 ?a5 ?a6 ?a7 ?a8 ?a9 ?a10 ?a11 ?a12 ?a13 ?a14 ?a15 ?a16 ?a17 ?a18 ?a19 ?a20 ?a21 ?a22 ?a23 ?a24 ?a25 ?a26 ?a27 ?a28 ?a29 ?a30 ?bi0 ?bl0 ?bc0 ?bk0 ?bi1 ?bl1 ?bc1 ?bk1 ?bi2 ?bl2 ?bc2 ?bk2 ?bi3 ?bl3 ?bc3 ?bk3 ?bi4 ?bl4 ?bc4 ?bk4 ?bi5 ?bl5 ?bc5 ?bk5 ?bi6 ?bl6 ?bc6 ?bk6 ?da0 ?dl0 ?dc_0 ?dk0 ?da1 ?dl1 ?dc_1 ?dk1 ?da2 ?dl2 ?dc_2 ?dk2 ?da3 ?dl3 ?dc_3 ?dk3 ?da4 ?dl4 ?dc_4 ?dk4 ?da5 ?dl5 ?dc_5 ?dk5 ?da6 ?dl6 ?dc_6 ?dk6 ?da7 ?dl7 ?dc_7 ?dk7 ?da8 ?dl8 ?dc_8 ?dk8 ?chk
    (case a0 => k_is)
    (case a1 => k_is)
    (case a2 => k_is)
    (case a3 => k_is)
    (case a4 => k_is)
    (case a5 => k_is)
    (case a6 => k_is)
    (case a7 => k_is)
    (case a8 => k_is)
    (case a9 => k_is)
    (case a10 => k_is)
    (case a11 => k_is)
    (case a12 => k_is)
    (case a13 => k_is)
    (case a14 => k_is)
    (case a15 => k_is)
    (case a16 => k_is)
    (case a17 => k_is)
    (case a18 => k_is)
    (case a19 => k_is)
    (case a20 => k_is)
    (case a21 => k_is)
    (case a22 => k_is)
    (case a23 => k_is)
    (case a24 => k_is)
    (case a25 => k_is)
    (case a26 => k_is)
    (case a27 => k_is)
    (case a28 => k_is)
    (case a29 => k_is)
    (case a30 => k_is)
    (case bi0 => k_is)
    (case bl0 => k_is)
    (case bc0 => k_is)
    (case bk0 => k_is)
    (case bi1 => k_is)
    (case bl1 => k_is)
    (case bc1 => k_is)
    (case bk1 => k_is)
    (case bi2 => k_is)
    (case bl2 => k_is)
    (case bc2 => k_is)
    (case bk2 => k_is)
    (case bi3 => k_is)
    (case bl3 => k_is)
    (case bc3 => k_is)
    (case bk3 => k_is)
    (case bi4 => k_is)
    (case bl4 => k_is)
    (case bc4 => k_is)
    (case bk4 => k_is)
    (case bi5 => k_is)
    (case bl5 => k_is)
    (case bc5 => k_is)
    (case bk5 => k_is)
    (case bi6 => k_is)
    (case bl6 => k_is)
    (case bc6 => k_is)
    (case bk6 => k_is)
    (case da0 => k_is)
    (case dl0 => k_is)
    (case dc_0 => k_is)
    (case dk0 => k_is)
    (case da1 => k_is)
    (case dl1 => k_is)
    (case dc_1 => k_is)
    (case dk1 => k_is)
    (case da2 => k_is)
    (case dl2 => k_is)
    (case dc_2 => k_is)
    (case dk2 => k_is)
    (case da3 => k_is)
    (case dl3 => k_is)
    (case dc_3 => k_is)
    (case dk3 => k_is)
    (case da4 => k_is)
    (case dl4 => k_is)
    (case dc_4 => k_is)
    (case dk4 => k_is)
    (case da5 => k_is)
    (case dl5 => k_is)
    (case dc_5 => k_is)
    (case dk5 => k_is)
    (case da6 => k_is)
    (case dl6 => k_is)
    (case dc_6 => k_is)
    (case dk6 => k_is)
    (case da7 => k_is)
    (case dl7 => k_is)
    (case dc_7 => k_is)
    (case dk7 => k_is)
    (case da8 => k_is)
    (case dl8 => k_is)
    (case dc_8 => k_is)
    (case dk8 => k_is)
    (case chk => kernel_rfl)
