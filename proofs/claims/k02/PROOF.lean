import PyProof.Rows.All
import Wide.All
import OpenK.AllK
import Wide.FinOn
import KE.KExcIs
import HandS.ForMost
import HandS.Codes
import HandS.IsInst
import HandS.Zip
import HandS.Walk
import HandS.DictComp
import HandS.TupAny
import HandS.TupMul
import HandS.Exc
import HandS.TryOnly
import HandS.ExcOwn
import HandS.ExcInit
import HandS.ExcValue
import HandS.ExcIs
import HandS.OwnEq
import HandS.Style
import HandS.SetKeys
import HandS.SortKw
import HandS.Flow
import HandS.Set
import HandS.SetTxt0
import HandS.SetFor
import HandS.More
import HandS.Rev
import HandS.SetTxtIn
import HandS.WordsExc
import HandS.ExcField
import HandS.StrMore
import HandS.Deep
import PySem.Challenge.RW_struckpieces_k02_whole_strikings_there_a
set_option Elab.async false
set_option linter.all false
set_option maxRecDepth 100000
set_option maxHeartbeats 400000
namespace Zq
open PySem PySem.Spec PyProof.Rows L2
def topS (i : Nat) : Stmt := PySem.Challenge.pw_struckpieces_k02_whole_strikings_there_a.main.body.getD i (.Pass ⟨0, 0, 0, 0⟩)
/-! ### an own def, bundled -/
structure Own (P : Program) (w : World) (K : PySem.W.Frag) (mg : Str → Option Value) (base : Heap) (CX : CXT) (k : Nat) (x : Str) (ps : List Str) (sp : Sp) : Prop where
  ex : ∃ (f : Addr) (fd : FuncData), mg x = some (.ref f) ∧ PySem.W.keepIn K (.ref f) = true ∧ FnOk P w K mg base CX k f fd ps sp ∧ Binds K fd ps []
section
variable {X : Cx} {k k' : Nat} {x : Str} {ps : List Str} {sp : Sp} {e : Expr} {es : List Expr} {t : TA} {p pos : Pos}
theorem pe_own (C : Own X.prog X.w X.K X.mg X.base CX0 k x ps sp) (hr : Room k' X.A) (ha : PA X (e :: es) t) (hk : k ≤ k' := by first | decide | omega) (hg : Gl X x := by rfl)
    (hdb : (x == ("__debug__" : Str)) = false := by decide) (he : starEach (e :: es) X.env = (false, eval e X.env) :: starEach es X.env := by rfl) (hpl : (backTo pos (starEach es X.env)).any (·.1) = false := by rfl) :
    PE X (.Call (.Name x p) (e :: es) [] pos) (tCall sp [] E0 t) := by
  obtain ⟨f, fd, hm, kp, G, b⟩ := C.ex
  exact pe_call G (hr.mono hk) hg hm kp b .nil pass0 ha hdb he hpl
theorem pe_own0 (C : Own X.prog X.w X.K X.mg X.base CX0 k x ps sp) (hr : Room k' X.A) (hk : k ≤ k' := by first | decide | omega) (hg : Gl X x := by rfl)
    (hdb : (x == ("__debug__" : Str)) = false := by decide) :
    PE X (.Call (.Name x p) [] [] pos) (tCall sp [] E0 tNil) := by
  obtain ⟨f, fd, hm, kp, G, b⟩ := C.ex
  exact pe_call0 G (hr.mono hk) hg hm kp b .nil pass0 hdb
end
/-! ### the hand that draws -/
def IsHand (H : Hp) (h : Addr) : Prop := ∃ (c : Addr) (cells : List Int) (i d s k : Int),
  H h = some (.lst [.ref c, .int i, .int d, .int s, .int k]) ∧ H c = some (.lst (cells.map V.int)) ∧ 0 ≤ i
structure Go (h : Addr) (H H' : Hp) : Prop where
  hand : IsHand H' h
  keep : ∀ b o, b ≠ h → H b = some o → H' b = some o
  cell : ∀ c xs, H h = some (.lst (.ref c :: xs)) → ∃ ys, H' h = some (.lst (.ref c :: ys))
theorem IsHand.ne0 {H : Hp} {h : Addr} (x : IsHand H h) : H h ≠ none := by
  obtain ⟨c, cells, i, d, s, k, e, _⟩ := x
  rw [e]
  exact fun z => nomatch z
theorem IsHand.nt {H : Hp} {h p : Addr} {xs : List V} (x : IsHand H h) (e : H p = some (.tup xs)) : p ≠ h := fun z => by
  obtain ⟨c, cells, i, d, s, k, e', _⟩ := x
  rw [← z, e] at e'
  cases e'
theorem Go.refl {h : Addr} {H : Hp} (x : IsHand H h) : Go h H H := ⟨x, fun _ _ _ e => e, fun _ xs e => ⟨xs, e⟩⟩
theorem Go.trans {h : Addr} {H H1 H2 : Hp} (a : Go h H H1) (b : Go h H1 H2) : Go h H H2 := ⟨b.hand, fun c o n e => b.keep c o n (a.keep c o n e), fun c xs e => let ⟨ys, e'⟩ := a.cell c xs e; b.cell c ys e'⟩
theorem Go.free {h p : Addr} {H H' : Hp} (a : Go h H H') (e : H' p = none) : H p = none := by
  cases q : H p with
  | none => rfl
  | some o =>
    by_cases z : p = h
    · subst z
      exact absurd e a.hand.ne0
    · rw [a.keep p o z q] at e
      cases e
theorem IsHand.ne {H : Hp} {h p : Addr} (x : IsHand H h) (e : H p = none) : p ≠ h := fun z => x.ne0 (z ▸ e)
theorem IsHand.upd {H : Hp} {h p : Addr} {o : HO} (x : IsHand H h) (e : H p = none) : IsHand (upd H p o) h := by
  obtain ⟨c, cells, i, d, s, k, e1, e2, e3⟩ := x
  exact ⟨c, cells, i, d, s, k, by rw [upd_ne (ne_of_none e1 e)]; exact e1, by rw [upd_ne (ne_of_none e2 e)]; exact e2, e3⟩
theorem Go.new {h p : Addr} {H : Hp} {o : HO} (x : IsHand H h) (e : H p = none) : Go h H (upd H p o) :=
  ⟨x.upd e, fun b u _ z => by rw [upd_ne (ne_of_none z e)]; exact z, fun c xs z => ⟨xs, by rw [upd_ne (ne_of_none z e)]; exact z⟩⟩
/-- F is not the hand's list of cells -/
def Off (h F : Addr) (H : Hp) : Prop := ∀ c xs, H h = some (.lst (.ref c :: xs)) → c ≠ F
theorem IsHand.off {h F : Addr} {H : Hp} (x : IsHand H h) (e : H F = none) : Off h F H := fun c xs z w => by
  obtain ⟨c', cells, i, d, s, k, e1, e2, _⟩ := x
  rw [z] at e1
  have e3 : c = c' := by
    have := congrArg (fun o => match o with | some (HO.lst (.ref a :: _)) => some a | _ => none) e1
    exact Option.some.inj this
  rw [← e3, w, e] at e2
  cases e2
theorem Go.off {h F : Addr} {H H' : Hp} (g : Go h H H') (x : IsHand H h) (o : Off h F H) : Off h F H' := fun c xs z => by
  obtain ⟨c', cells, i, d, s, k, e1, _⟩ := x
  obtain ⟨ys, e2⟩ := g.cell _ _ e1
  have e3 : c = c' := by
    rw [z] at e2
    have := congrArg (fun o => match o with | some (HO.lst (.ref a :: _)) => some a | _ => none) e2
    exact Option.some.inj this
  rw [e3]
  exact o _ _ e1
theorem Go.set {h F : Addr} {H H' : Hp} {o : HO} (g : Go h H H') (n : H F = none) (ne : F ≠ h) (f : Off h F H') : Go h H (upd H' F o) := by
  obtain ⟨c, cells, i, d, s, k, e1, e2, e3⟩ := g.hand
  refine ⟨⟨c, cells, i, d, s, k, by rw [upd_ne (Ne.symm ne)]; exact e1, by rw [upd_ne (f _ _ e1)]; exact e2, e3⟩, fun b u nb z => ?_, fun c xs z => ?_⟩
  · rw [upd_ne (ne_of_none z n)]
    exact g.keep b u nb z
  · obtain ⟨ys, z⟩ := g.cell c xs z
    exact ⟨ys, by rw [upd_ne (Ne.symm ne)]; exact z⟩
theorem Off.upd {h F : Addr} {H : Hp} {o : HO} (ne : F ≠ h) (f : Off h F H) : Off h F (upd H F o) := fun c xs z => by
  rw [upd_ne (Ne.symm ne)] at z
  exact f c xs z
theorem Go.then_new {h p : Addr} {H H' : Hp} {o : HO} (a : Go h H H') (e : H' p = none) : Go h H (upd H' p o) := a.trans (Go.new a.hand e)
theorem Go.rd {h p : Addr} {H H' : Hp} {u : HO} (a : Go h H H') (n : p ≠ h) (e : Rd H p u) : Rd H' p u := by
  rcases e with e | ⟨o, e⟩
  · exact .inl (a.keep _ _ n e)
  · exact .inr ⟨o, a.keep _ _ n e⟩
section
variable {K : PySem.W.Frag}
theorem Go.sqL {h p : Addr} {H H' : Hp} {xs : List V} (a : Go h H H') (n : p ≠ h) (e : SqL K H p xs) : SqL K H' p xs := by
  rcases e with e | e
  · exact .inl (a.rd n e)
  · exact .inr e
theorem Go.sqT {h p : Addr} {H H' : Hp} {xs : List V} (a : Go h H H') (x : IsHand H h) (e : SqT K H p xs) : SqT K H' p xs := by
  rcases e with e | e
  · refine .inl (a.rd (fun z => ?_) e)
    obtain ⟨c, cells, i, d, s, k, e1, _⟩ := x
    rcases e with e | ⟨o, e⟩
    · rw [z, e1] at e
      cases e
    · rw [z, e1] at e
      cases e
  · exact .inr e
end
/-! ### the promises -/
def spHand (K : PySem.W.Frag) : Sp := fun vs H Q _ => ∃ (a : Addr) (ns : List Int), vs = [.ref a] ∧ SqL K H a (ns.map V.int) ∧ ns.length ≤ 100 ∧
  ∀ H' p, Same H H' → H p = none → IsHand H' p → Q (.ref p) H'
def spDraw : Sp := fun vs H Q _ => ∃ (h : Addr) (many : Int), vs = [.ref h, .int many] ∧ IsHand H h ∧ 0 < many ∧ many < 1073741824 ∧
  ∀ r H', 0 ≤ r → r < many → Go h H H' → Q (.int r) H'
structure Txt (mg : Str → Option Value) : Prop where
  nabs : mg "abs" = none
  nint : mg "int" = none
  nlen : mg "len" = none
  nrange : mg "range" = none
  nzip : mg "zip" = none
  nall : mg "all" = none
  nany : mg "any" = none
  nisinstance : mg "isinstance" = none
  ntuple : mg "tuple" = none
  nlist : mg "list" = none
  nstr : mg "str" = none
  nbool : mg "bool" = none
  ndict : mg "dict" = none
  nenumerate : mg "enumerate" = none
  nsorted : mg "sorted" = none
  nset : mg "set" = none
  nmax : mg "max" = none
  nmin : mg "min" = none
  nsum : mg "sum" = none
  nValueError : mg "ValueError" = none
section
variable {P : Program} {w : World} {K : PySem.W.Frag} {mg : Str → Option Value} {base : Heap}
abbrev sHand : Stmt := topS 28
abbrev NscHand : List Str := ["_law_script", "_law_cells", "_law_cell"]
theorem scHand : FnScope ["_law_script", "_law_cells", "_law_cell"] ["_law_script"] (defScope sHand) := ⟨rfl, rfl, rfl, by decide +kernel, rfl, by decide +kernel, by decide +kernel⟩
abbrev sDraw : Stmt := topS 29
abbrev NscDraw : List Str := ["_law_hand_here", "_law_many", "_law_number", "_law_cell", "_law_digit"]
theorem scDraw : FnScope ["_law_hand_here", "_law_many", "_law_number", "_law_cell", "_law_digit"] ["_law_hand_here", "_law_many"] (defScope sDraw) := ⟨rfl, rfl, rfl, by decide +kernel, rfl, by decide +kernel, by decide +kernel⟩
theorem int_at {ns : List Int} {i : Nat} {y : V} (h : (ns.map V.int)[i]? = some y) : ∃ z, y = V.int z := by
  rw [List.getElem?_map] at h
  cases e : ns[i]? with
  | none =>
    rw [e] at h
    cases h
  | some z =>
    rw [e] at h
    exact ⟨z, (Option.some.inj h).symm⟩
theorem cut63 (ns : List Int) : ∃ ms : List Int, cutV (ns.map V.int) none (some 63) = ms.map V.int ∧ ms.length ≤ ns.length := by
  unfold cutV
  rw [← List.map_drop, ← List.map_take]
  refine ⟨_, rfl, ?_⟩
  rw [List.length_take, List.length_drop]
  omega
theorem ok_hand {f : Addr} {fd : FuncData} (F : Fun K "_law_hand" "_law_hand" sHand f fd) (T : Txt mg) : FnOk P w K mg base CX0 1 f fd ["_law_script"] (spHand K) := by
  refine F.ok scHand (fun vs H Q E h => ?_) (fun cdv A outer s H vs Q E hr h => ?_)
  · obtain ⟨a, ns, rfl, _⟩ := h
    rfl
  · obtain ⟨a, ns, rfl, hS, hl, q⟩ := h
    refine ⟨_, (pss_cons (ps_setLc (i := 1) (own := [("_law_cell", 2)]) (by rfl) scHand.nd rfl rfl (sw_true rfl rfl rfl (by decide +kernel)) (pi_list (pe_slice sl_list (pv 0) po_none (po_some pe_int))) (blkOk_by (own := [("_law_cell", 2)]) (N := NscHand) (sc := defScope sHand) (by decide +kernel)) (fun _ _ _ _ _ => (pg_name (i := 2) scHand.nd rfl (Or.inl rfl))) (fun _ _ _ _ _ => pts_nil) (fun _ _ _ _ _ => (pe_callB call_abs (by rfl) T.nabs (by decide +kernel) (pa_cons (pe_callTy call_int1 (by rfl) T.nint (by decide +kernel) (pa_cons (pv 2) pa_nil)) pa_nil))))
      (pss_one (ps_ret (pe_lst (pa_cons (pv 1) (pa_cons pe_int (pa_cons pe_int (pa_cons (pe_op op_add pe_int (pe_callB call_len_seq (by rfl) T.nlen (by decide +kernel) (pa_cons (pv 1) pa_nil))) (pa_cons pe_int pa_nil))))))))), ?_⟩
    refine ⟨.ref a, rfl, 63, rfl, a, ns.map V.int, rfl, hS, fun c nc => ?_⟩
    obtain ⟨ms, ec, hm⟩ := cut63 ns
    rw [ec]
    refine ⟨c, rfl, ⟨_, .inl (.inl upd_same)⟩, fun D nD => lc_list (K := K) (a := c) (xs := ms.map V.int)
      (fun i H' => Same H H' ∧ H' c = some (.lst (ms.map V.int)) ∧ ∃ acc : List Int, H' D = some (.lst (acc.map V.int)) ∧ acc.length ≤ i) ?_ (fun i H' _ p => .inl (.inl p.2.1)) ?_ ?_⟩
    · have nDc : c ≠ D := fun z => by
        rw [← z, upd_same] at nD
        cases nD
      have nH : H D = none := by
        rw [upd_ne (Ne.symm nDc)] at nD
        exact nD
      refine ⟨fun b o e => ?_, by rw [upd_ne nDc, upd_same], [], upd_same, Nat.zero_le _⟩
      rw [upd_ne (ne_of_none e nH), upd_ne (ne_of_none e nc)]
      exact e
    · rintro i x H' hi ⟨sm, hc, acc, hD, ha⟩
      have hil : i < (ms.map V.int).length := (List.getElem?_eq_some_iff.mp hi).1
      rw [List.length_map] at hil
      obtain ⟨z, rfl⟩ := int_at hi
      refine ⟨rfl, ?_⟩
      refine ⟨.int z, rfl, .inl ⟨z, rfl, z, rfl, acc.map V.int, hD, ?_, ?_⟩⟩
      · rw [List.length_map]
        exact small1000 (by omega)
      · have nDc : c ≠ D := fun z => by
          rw [← z, upd_same] at nD
          cases nD
        have nH : H D = none := by
          rw [upd_ne (Ne.symm nDc)] at nD
          exact nD
        refine ⟨fun b o e => ?_, by rw [upd_ne nDc]; exact hc, acc ++ [if z < 0 then -z else z], by rw [upd_same, List.map_append]; rfl, ?_⟩
        · rw [upd_ne (ne_of_none e nH)]
          exact sm b o e
        · rw [List.length_append]
          show acc.length + 1 ≤ i + 1
          omega
    · rintro H' ⟨sm, hc, acc, hD, ha⟩
      have nH : H D = none := by
        have nDc : c ≠ D := fun z => by
          rw [← z, upd_same] at nD
          cases nD
        rw [upd_ne (Ne.symm nDc)] at nD
        exact nD
      refine ⟨.ref D, rfl, .ref D, rfl, D, _, rfl, .inl (.inl (.inl hD)), ?_⟩
      refine ⟨1, ((acc.map V.int).length : Int), rfl, rfl, ?_⟩
      refine ⟨(by show 5 ≤ sizeLine; decide), fun p np => ?_⟩
      refine q _ p (fun b o e => ?_) (sm.free np) ⟨D, acc, 0, 0, _, 0, upd_same, ?_, Int.le_refl 0⟩
      · rw [upd_ne (ne_of_none (sm b o e) np)]
        exact sm b o e
      · rw [upd_ne (ne_of_none hD np)]
        exact hD
/-! ### a list of five by its places -/
theorem at0 {a b c d e : V} : atI [a, b, c, d, e] 0 = some a := rfl
theorem at1 {a b c d e : V} : atI [a, b, c, d, e] 1 = some b := rfl
theorem at2 {a b c d e : V} : atI [a, b, c, d, e] 2 = some c := rfl
theorem at3 {a b c d e : V} : atI [a, b, c, d, e] 3 = some d := rfl
theorem at4 {a b c d e : V} : atI [a, b, c, d, e] 4 = some e := rfl
theorem ok_draw {f : Addr} {fd : FuncData} (F : Fun K "_law_draw" "_law_draw" sDraw f fd) (T : Txt mg) : FnOk P w K mg base CX0 1 f fd ["_law_hand_here", "_law_many"] spDraw := by
  refine F.ok scDraw (fun vs H Q E h => ?_) (fun cdv A outer s H vs Q E hr h => ?_)
  · obtain ⟨a, ns, rfl, _⟩ := h
    rfl
  · obtain ⟨h, many, rfl, ⟨c, cells, i, d, s, k, eh, ec, hi⟩, hm0, hm1, q⟩ := h
    refine ⟨_, (C8.pss_cut (ps_if (PW.pt (pw_and (pt_cmpR op_eq (pe_ix ix_list (pv 0) pe_int (fun _ _ => rfl)) pe_int (nomark _)) (pw_and1 (pt_cmpR op_lt (pe_ix ix_list (pv 0) pe_int (fun _ _ => rfl)) (pe_callB call_len_seq (by rfl) T.nlen (by decide +kernel) (pa_cons (pe_ix ix_list (pv 0) pe_int (fun _ _ => rfl)) pa_nil)) (nomark _))))) (pss_cons (ps_set (i := 3) scDraw.nd rfl (Or.inl rfl) (pe_ix ix_list (pe_ix ix_list (pv 0) pe_int (fun _ _ => rfl)) (pe_ix ix_list (pv 0) pe_int (fun _ _ => rfl)) (fun _ _ => rfl)))
        (pss_cons (ps_asg (pe_op op_add (pe_ix ix_list (pv 0) pe_int (fun _ _ => rfl)) pe_int) (pg_sub (pv 0) pe_int set_list))
        (pss_cons (ps_asg (pe_op op_modN (pe_callTy call_int1 (by rfl) T.nint (by decide +kernel) (pa_cons (pe_op op_add (pe_op op_add (pe_op op_mul (pe_ix ix_list (pv 0) pe_int (fun _ _ => rfl)) pe_int) (pv 3)) pe_int) pa_nil)) pe_int) (pg_sub (pv 0) pe_int set_list))
        (pss_one (ps_if (pt_cmpR op_ge (pv 3) (pe_op op_pow pe_int pe_int) (nomark _)) (pss_one (ps_asg (pv 3) (pg_sub (pv 0) pe_int set_list))) pss_nil))))) pss_nil)
      (pss_cons (ps_if (pt_cmpR op_gt (pe_ix ix_list (pv 0) pe_int (fun _ _ => rfl)) pe_int (nomark _)) (pss_cons (ps_set (i := 4) scDraw.nd rfl (Or.inl rfl) (pe_op op_modN (pe_callTy call_int1 (by rfl) T.nint (by decide +kernel) (pa_cons (pe_ix ix_list (pv 0) pe_int (fun _ _ => rfl)) pa_nil)) (pv 1)))
        (pss_cons (ps_asg (pe_op op_fdivN (pe_ix ix_list (pv 0) pe_int (fun _ _ => rfl)) (pv 1)) (pg_sub (pv 0) pe_int set_list))
        (pss_one (ps_ret (pv 4))))) pss_nil)
      (pss_cons (ps_asg (pe_op op_add (pe_ix ix_list (pv 0) pe_int (fun _ _ => rfl)) pe_int) (pg_sub (pv 0) pe_int set_list))
      (pss_cons (ps_set (i := 2) scDraw.nd rfl (Or.inl rfl) (pe_op op_modN (pe_callTy call_int1 (by rfl) T.nint (by decide +kernel) (pa_cons (pe_op op_mul (pe_callTy call_int1 (by rfl) T.nint (by decide +kernel) (pa_cons (pe_op op_add (pe_ix ix_list (pv 0) pe_int (fun _ _ => rfl)) (pe_op op_mul pe_int (pe_ix ix_list (pv 0) pe_int (fun _ _ => rfl)))) pa_nil)) pe_int) pa_nil)) pe_int))
      (pss_cons (ps_set (i := 2) scDraw.nd rfl (Or.inl rfl) (pe_op op_modN (pe_callTy call_int1 (by rfl) T.nint (by decide +kernel) (pa_cons (pe_op op_mul (pv 2) (pe_op op_add (pe_op op_fdivN (pv 2) pe_int) pe_int)) pa_nil)) pe_int))
      (pss_cons (ps_set (i := 2) scDraw.nd rfl (Or.inl rfl) (pe_op op_modN (pe_callTy call_int1 (by rfl) T.nint (by decide +kernel) (pa_cons (pe_op op_mul (pv 2) (pe_op op_add (pe_op op_fdivN (pv 2) pe_int) pe_int)) pa_nil)) pe_int))
      (pss_one (ps_ret (pe_op op_modN (pe_callTy call_int1 (by rfl) T.nint (by decide +kernel) (pa_cons (pe_op op_fdivN (pv 2) pe_int) pa_nil)) (pv 1)))))))))), ?_⟩
    have nch : c ≠ h := fun z => by
      rw [z, eh] at ec
      have := congrArg (fun o => match o with | some (HO.lst (.ref _ :: _)) => true | _ => false) ec
      cases cells <;> simp at this
    have cl : ∀ {H' : Hp} {zs : List V}, (∃ ys, zs = .ref c :: ys) → ∀ (c' : Addr) (xs : List V), H h = some (.lst (.ref c' :: xs)) → ∃ ys, upd H' h (.lst zs) h = some (.lst (.ref c' :: ys)) := fun {H' zs} ⟨ys, ez⟩ c' xs z => by
      rw [eh] at z
      have e3 : c = c' := by
        have := congrArg (fun o => match o with | some (HO.lst (.ref a :: _)) => some a | _ => none) z
        exact Option.some.inj this
      exact ⟨ys, by rw [upd_same, ez, e3]⟩
    refine ⟨fun σ' H' => ∃ (i d s k : Int) (v3 : Option V), σ' = [some (.ref h), some (.int many), none, v3, none] ∧ H' h = some (.lst [.ref c, .int i, .int d, .int s, .int k]) ∧ 0 ≤ i ∧ (∀ b o, b ≠ h → H b = some o → H' b = some o), ?_, ?_⟩
    · refine ⟨.ref h, rfl, h, _, 2, _, rfl, rfl, .inl (.inl eh), at2, rfl, _, rfl, ?_⟩
      refine ite2 (fun hd => ?_) (fun hd => ?_)
      · refine ⟨.ref h, rfl, h, _, 1, _, rfl, rfl, .inl (.inl eh), at1, .ref h, rfl, h, _, 0, _, rfl, rfl, .inl (.inl eh), at0, c, _, rfl, .inl (.inl (.inl ec)), i, _, rfl, rfl, _, rfl, ?_⟩
        refine ite2 (fun hlt => ?_) (fun hlt => ?_)
        · have hlt := of_decide_eq_true hlt
          rw [List.length_map] at hlt
          obtain ⟨z, hz⟩ : ∃ z, atI (cells.map V.int) i = some (V.int z) := by
            obtain ⟨n, rfl⟩ := Int.eq_ofNat_of_zero_le hi
            have hn : n < cells.length := by omega
            refine ⟨cells[n], ?_⟩
            exact atI_nat (by rw [List.getElem?_map, List.getElem?_eq_getElem hn]; rfl)
          refine ⟨.ref h, rfl, h, _, 0, _, rfl, rfl, .inl (.inl eh), at0, .ref h, rfl, h, _, 1, _, rfl, rfl, .inl (.inl eh), at1, c, _, _, _, rfl, rfl, .inl (.inl ec), hz, ?_⟩
          -- hand[1] = hand[1] + 1
          refine ⟨.ref h, rfl, h, _, 1, _, rfl, rfl, .inl (.inl eh), at1, _, _, rfl, rfl, .ref h, rfl, h, _, 1, 1, rfl, rfl, eh, rfl, ?_⟩
          -- hand[3] = ..
          refine ⟨.ref h, rfl, h, _, 3, _, rfl, rfl, .inl (.inl upd_same), at3, _, _, rfl, rfl, .inr ⟨by decide, by decide⟩, .int z, rfl, _, _, rfl, rfl, _, _, rfl, rfl, .inl ⟨_, rfl, _, _, rfl, rfl, (by show (2147483629 : Int) ≠ 0; decide), .ref h, rfl, h, _, 3, 3, rfl, rfl, upd_same, rfl, ?_⟩⟩
          refine ⟨.int z, rfl, _, _, rfl, rfl, ⟨by decide, by decide, by decide⟩, _, _, rfl, rfl, _, rfl, ?_⟩
          refine ite2 (fun _ => ?_) (fun _ => ?_)
          · refine ⟨.int z, rfl, .ref h, rfl, h, _, 2, 2, rfl, rfl, upd_same, rfl, ?_⟩
            exact ⟨_, _, _, _, _, rfl, upd_same, Int.add_nonneg hi (by decide), fun b o nb e => by simp only [upd_ne nb]; exact e⟩
          · exact ⟨_, _, _, _, _, rfl, upd_same, Int.add_nonneg hi (by decide), fun b o nb e => by simp only [upd_ne nb]; exact e⟩
        · exact ⟨_, _, _, _, _, rfl, eh, hi, fun b o nb e => e⟩
      · exact ⟨_, _, _, _, _, rfl, eh, hi, fun b o nb e => e⟩
    · rintro σ' H' ⟨i, d, s, k, v3, rfl, e, hi, kp⟩
      have hmz : many ≠ 0 := by omega
      have hma : many.natAbs < 1073741824 := by omega
      have ec' := kp _ _ nch ec
      refine ⟨.ref h, rfl, h, _, 2, _, rfl, rfl, .inl (.inl e), at2, _, _, rfl, rfl, _, rfl, ?_⟩
      refine ite2 (fun _ => ?_) (fun _ => ?_)
      · refine ⟨.ref h, rfl, h, _, 2, _, rfl, rfl, .inl (.inl e), at2, .inl ⟨_, rfl, .int many, rfl, _, _, rfl, rfl, hmz, ?_⟩⟩
        refine ⟨.ref h, rfl, h, _, 2, _, rfl, rfl, .inl (.inl e), at2, .int many, rfl, _, _, rfl, rfl, ⟨hmz, hma⟩, .ref h, rfl, h, _, 2, 2, rfl, rfl, e, rfl, ?_⟩
        refine ⟨_, rfl, q _ _ (Int.fmod_nonneg_of_pos _ hm0) (Int.fmod_lt_of_pos _ hm0) ⟨⟨c, cells, _, _, _, _, upd_same, by rw [upd_ne nch]; exact ec', hi⟩, fun b o nb z => by rw [upd_ne nb]; exact kp b o nb z, cl ⟨_, rfl⟩⟩⟩
      · refine ⟨.ref h, rfl, h, _, 4, _, rfl, rfl, .inl (.inl e), at4, _, _, rfl, rfl, .ref h, rfl, h, _, 4, 4, rfl, rfl, e, rfl, ?_⟩
        refine ⟨.ref h, rfl, h, _, 3, _, rfl, rfl, .inl (.inl upd_same), at3, .ref h, rfl, h, _, 4, _, rfl, rfl, .inl (.inl upd_same), at4, _, _, rfl, rfl, .inl ⟨by decide, by decide⟩, _, _, rfl, rfl, .inl ⟨_, rfl, _, _, rfl, rfl, .inr ⟨by decide, by decide⟩, .inl ⟨_, rfl, _, _, rfl, rfl, (by show (2147483647 : Int) ≠ 0; decide), ?_⟩⟩⟩
        obtain ⟨n1, hn1⟩ : ∃ n : Int, n = Int.fmod ((s + 7919 * (k + 1)) * 48271) 2147483647 := ⟨_, rfl⟩
        have b1 : 0 ≤ n1 := by rw [hn1]; exact Int.fmod_nonneg_of_pos _ (by decide)
        have b2 : n1 < 2147483647 := by rw [hn1]; exact Int.fmod_lt_of_pos _ (by decide)
        show gName 2 (V.int (Int.fmod ((s + 7919 * (k + 1)) * 48271) 2147483647)) _ _ _
        rw [← hn1]
        refine ⟨.int n1, rfl, .int n1, rfl, _, _, rfl, rfl, ⟨by decide, by decide⟩, _, _, rfl, rfl, _, _, rfl, rfl, .inl ⟨by omega, by omega⟩, .inl ⟨_, rfl, _, _, rfl, rfl, (by show (2147483647 : Int) ≠ 0; decide), ?_⟩⟩
        obtain ⟨n2, hn2⟩ : ∃ n : Int, n = Int.fmod (n1 * (n1.fdiv 1009 + 69621)) 2147483647 := ⟨_, rfl⟩
        have c1 : 0 ≤ n2 := by rw [hn2]; exact Int.fmod_nonneg_of_pos _ (by decide)
        have c2 : n2 < 2147483647 := by rw [hn2]; exact Int.fmod_lt_of_pos _ (by decide)
        show gName 2 (V.int (Int.fmod (n1 * (n1.fdiv 1009 + 69621)) 2147483647)) _ _ _
        rw [← hn2]
        refine ⟨.int n2, rfl, .int n2, rfl, _, _, rfl, rfl, ⟨by decide, by decide⟩, _, _, rfl, rfl, _, _, rfl, rfl, .inl ⟨by omega, by omega⟩, .inl ⟨_, rfl, _, _, rfl, rfl, (by show (2147483399 : Int) ≠ 0; decide), ?_⟩⟩
        refine ⟨_, rfl, _, _, rfl, rfl, ⟨by decide, by decide⟩, .inl ⟨_, rfl, .int many, rfl, _, _, rfl, rfl, hmz, ?_⟩⟩
        exact q _ _ (Int.fmod_nonneg_of_pos _ hm0) (Int.fmod_lt_of_pos _ hm0) ⟨⟨c, cells, _, _, _, _, upd_same, by rw [upd_ne nch]; exact ec', hi⟩, fun b o nb z => by rw [upd_ne nb]; exact kp b o nb z, cl ⟨_, rfl⟩⟩
end
end Zq
namespace Zq
open PySem PySem.Spec PyProof.Rows L2 RZ
/-! ### what an item may be drawn from -/
inductive Items (K : PySem.W.Frag) (H : Hp) : V → List V → Prop
  | l {p : Addr} {xs : List V} : SqL K H p xs → xs.length < 1000000 → Items K H (.ref p) xs
  | t {p : Addr} {xs : List V} : SqT K H p xs → xs.length < 1000000 → Items K H (.ref p) xs
  | s {z : Str} : z.length < 1000000 → Items K H (.str z) (z.cps.toList.map fun c => .str ⟨#[c]⟩)
def spAny (K : PySem.W.Frag) : Sp := fun vs H Q _ => ∃ (h : Addr) (x : V) (xs : List V), vs = [.ref h, x] ∧ IsHand H h ∧ x ≠ .ref h ∧ Items K H x xs ∧ 0 < xs.length ∧
  ∀ v H', v ∈ xs → Go h H H' → Q v H'
theorem at_some {α : Type} {xs : List α} {r : Int} (h0 : 0 ≤ r) (h1 : r < xs.length) : ∃ v, atI xs r = some v ∧ v ∈ xs := by
  obtain ⟨n, rfl⟩ := Int.eq_ofNat_of_zero_le h0
  have hn : n < xs.length := by omega
  exact ⟨xs[n], atI_nat (List.getElem?_eq_getElem hn), List.getElem_mem hn⟩
section
variable {P : Program} {w : World} {K : PySem.W.Frag} {mg : Str → Option Value} {base : Heap}
abbrev sAny : Stmt := topS 30
abbrev NscAny : List Str := ["_law_hand_here", "_law_items"]
theorem scAny : FnScope ["_law_hand_here", "_law_items"] ["_law_hand_here", "_law_items"] (defScope sAny) := ⟨rfl, rfl, rfl, by decide +kernel, rfl, by decide +kernel, by decide +kernel⟩
theorem ok_any {f : Addr} {fd : FuncData} (F : Fun K "_law_any" "_law_any" sAny f fd) (T : Txt mg) (C__law_draw : Own P w K mg base CX0 1 "_law_draw" ["_law_hand_here", "_law_many"] spDraw) :
    FnOk P w K mg base CX0 2 f fd ["_law_hand_here", "_law_items"] (spAny K) := by
  refine F.ok scAny (fun vs H Q E h => ?_) (fun cdv A outer s H vs Q E hr h => ?_)
  · obtain ⟨h, x, xs, rfl, _⟩ := h
    rfl
  · obtain ⟨h, x, xs, rfl, hh, nx, hx, hp, q⟩ := h
    refine ⟨_, (pss_one (ps_ret (pe_ix ix_seq (pv 1) (pe_own C__law_draw hr (pa_cons (pv 0) (pa_cons (pe_callB call_len (by rfl) T.nlen (by decide +kernel) (pa_cons (pv 1) pa_nil)) pa_nil))) (fun _ _ => rfl)))), ?_⟩
    cases hx with
    | @l p xs hs hl =>
      have np : p ≠ h := fun z => nx (by rw [z])
      refine ⟨.ref p, rfl, .ref h, rfl, .ref p, rfl, _, _, rfl, .inl ⟨_, hs, rfl⟩, h, _, rfl, hh, by omega, by omega, fun r H' r0 r1 g => ?_⟩
      obtain ⟨v, hv, hm⟩ := at_some r0 r1
      exact .inl ⟨p, xs, r, v, rfl, rfl, g.sqL np hs, hv, q v H' hm g⟩
    | @t p xs hs hl =>
      refine ⟨.ref p, rfl, .ref h, rfl, .ref p, rfl, _, _, rfl, .inr ⟨_, hs, rfl⟩, h, _, rfl, hh, by omega, by omega, fun r H' r0 r1 g => ?_⟩
      obtain ⟨v, hv, hm⟩ := at_some r0 r1
      exact .inr (.inl ⟨p, xs, r, v, rfl, rfl, g.sqT hh hs, hv, q v H' hm g⟩)
    | @s z hl =>
      have hzl : z.length = z.cps.toList.length := by
        show z.cps.size = _
        rw [Array.length_toList]
      have hp' : 0 < z.length := by
        rw [List.length_map, ← hzl] at hp
        exact hp
      have hsl : z.length ≤ sizeLine := by
        rw [sizeLine_eq]
        omega
      refine ⟨.str z, rfl, .ref h, rfl, .str z, rfl, _, _, rfl, ⟨hsl, rfl⟩, h, _, rfl, hh, by omega, by omega, fun r H' r0 r1 g => ?_⟩
      obtain ⟨c, hv, hm⟩ := at_some (xs := z.cps.toList) r0 (by rw [← hzl]; exact r1)
      exact .inr (.inr ⟨z, r, c, rfl, rfl, hsl, hv, q _ H' (List.mem_map.mpr ⟨c, hm, rfl⟩) g⟩)
theorem sz_lt {n : Nat} (h : n < 100000) : n < sizeLine := Nat.lt_of_lt_of_le h (by decide)
theorem same_new {H : Hp} {p : Addr} {o : HO} (h : H p = none) : Same H (upd H p o) := fun b u e => by
  rw [upd_ne (ne_of_none e h)]
  exact e
theorem same_seqT {H H' : Hp} {a : Addr} {xs : List V} (e : Same H H') (h : SqT K H a xs) : SqT K H' a xs := by
  rcases h with (h | ⟨o, h⟩) | h
  · exact .inl (.inl (e _ _ h))
  · exact .inl (.inr ⟨o, e _ _ h⟩)
  · exact .inr h
/-! ### told and due alike -/
def isB : PyData → Bool
  | .bool _ => true
  | _ => false
mutual
def isv : PyData → PyData → Bool
  | .tuple ds, .tuple es => isvAll ds es
  | .list ds, .list es => isvAll ds es
  | _, .tuple _ => false
  | _, .list _ => false
  | d, e => (isB d == isB e) && PyData.eqv d e
def isvAll : List PyData → List PyData → Bool
  | [], [] => true
  | d :: ds, e :: es => isv d e && isvAll ds es
  | _, _ => false
end
/-- the type's name -/
def tyD : PyData → String
  | .none => "NoneType"
  | .bool _ => "bool"
  | .int _ => "int"
  | .str _ => "str"
  | .list _ => "list"
  | .tuple _ => "tuple"
  | .dict _ => "dict"
theorem tyX_of {H : Hp} {x : V} {d : PyData} (h : Dp K H x d) : TyX K H x (.type (tyD d)) := by
  cases h with
  | non => exact .base .non
  | bl b => exact .base (.bl b)
  | int i => exact .base (.int i)
  | str s => exact .base (.str s)
  | lst h _ =>
    rcases h with (h | ⟨o, h⟩) | ⟨o, its, n, h, hc, _⟩
    · exact .base (.lst h)
    · exact .base (.frz h)
    · exact .kList h hc
  | tup h _ =>
    rcases h with (h | ⟨o, h⟩) | ⟨o, its, n, h, hc, _⟩
    · exact .base (.tup h)
    · exact .fTuple h
    · exact .kTuple h hc
mutual
theorem dp_same {H H' : Hp} (sm : Same H H') : ∀ {x : V} {d : PyData}, Dp K H x d → Dp K H' x d
  | _, _, .non => .non
  | _, _, .bl b => .bl b
  | _, _, .int i => .int i
  | _, _, .str s => .str s
  | _, _, .lst h a => .lst (sm.seq h) (dpAll_same sm a)
  | _, _, .tup h a => .tup (same_seqT sm h) (dpAll_same sm a)
theorem dpAll_same {H H' : Hp} (sm : Same H H') : ∀ {xs : List V} {ds : List PyData}, DpAll K H xs ds → DpAll K H' xs ds
  | _, _, .nil => .nil
  | _, _, .cons h a => .cons (dp_same sm h) (dpAll_same sm a)
end
theorem dpAll_get {H : Hp} : ∀ {xs : List V} {ds : List PyData} {i : Nat} {x : V}, DpAll K H xs ds → xs[i]? = some x → ∃ d, ds[i]? = some d ∧ Dp K H x d
  | _, _, 0, _, .cons h _, e => by
    simp at e
    subst e
    exact ⟨_, rfl, h⟩
  | _, _, i + 1, x, .cons _ a, e => by
    obtain ⟨d, h1, h2⟩ := dpAll_get (i := i) (x := x) a (by simpa using e)
    exact ⟨d, by simpa using h1, h2⟩
theorem dpAll_len {H : Hp} : ∀ {xs : List V} {ds : List PyData}, DpAll K H xs ds → xs.length = ds.length
  | _, _, .nil => rfl
  | _, _, .cons _ a => congrArg (· + 1) (dpAll_len a)
theorem walk_zipT {a b : Addr} {xs ys : List V} {n : Nat} (hn : n = min xs.length ys.length) : Walk (ItzT K a b) n (fun H => SqT K H a xs ∧ SqT K H b ys) (YPair (fun i => xs[i]?) (fun i => ys[i]?)) := by
  subst hn
  refine ⟨fun i _ hi q => ?_, fun _ q => ⟨xs, ys, q.1, q.2, by omega⟩, fun i H v H' _ q y => ?_⟩
  · have h1 : i < xs.length := by omega
    have h2 : i < ys.length := by omega
    exact ⟨xs, ys, xs[i], ys[i], q.1, q.2, by simp [h1], by simp [h2]⟩
  · obtain ⟨T, x, z, e1, e2, e3, e4, e5⟩ := y
    exact ⟨T, x, z, e1, e2, e3, e4 xs q.1, e5 ys q.2⟩
theorem depth_get : ∀ {ds : List PyData} {i : Nat} {d : PyData}, ds[i]? = some d → d.depth ≤ PyData.depthAll ds
  | [], _, _, e => by simp at e
  | d :: ds, 0, _, e => by
    simp at e
    subst e
    unfold PyData.depthAll
    exact Nat.le_max_left _ _
  | _ :: ds, i + 1, d, e => by
    have := depth_get (ds := ds) (i := i) (d := d) (by simpa using e)
    unfold PyData.depthAll
    exact Nat.le_trans this (Nat.le_max_right _ _)
theorem isvAll_zip : ∀ {ds es : List PyData}, ds.length = es.length → isvAll ds es = ((ds.zip es).map fun p => isv p.1 p.2).all id
  | [], [], _ => by simp [isvAll]
  | d :: ds, e :: es, h => by
    have ih := isvAll_zip (ds := ds) (es := es) (by simpa using h)
    simp [isvAll, ih]
  | [], _ :: _, h => by simp at h
  | _ :: _, [], h => by simp at h
theorem isvAll_len : ∀ {ds es : List PyData}, ds.length ≠ es.length → isvAll ds es = false
  | [], [], h => absurd rfl h
  | d :: ds, e :: es, h => by
    have ih := isvAll_len (ds := ds) (es := es) (by simpa using h)
    simp [isvAll, ih]
  | [], _ :: _, _ => by simp [isvAll]
  | _ :: _, [], _ => by simp [isvAll]
def isSeq : PyData → Bool
  | .list _ => true
  | .tuple _ => true
  | _ => false
theorem kit_seq (d : PyData) : PySem.W.kitAny K (.type (tyD d)) [.type "tuple", .type "list"] = some (isSeq d) := by
  have no : ∀ {t : String}, kitB t "tuple" = some false → kitB t "list" = some false → PySem.W.kitAny K (.type t) [.type "tuple", .type "list"] = some false := fun h1 h2 =>
    kitAny_cons (b := false) (kit_ty h1) (fun _ => kitAny_cons (b := false) (kit_ty h2) (fun _ => kitAny_nil) (fun z => nomatch z)) (fun z => nomatch z)
  cases d with
  | tuple _ => exact kitAny_cons (b := true) (kit_ty (show kitB "tuple" "tuple" = some true by decide +kernel)) (fun z => nomatch z) (fun _ => rfl)
  | list _ => exact kitAny_cons (b := false) (kit_ty (show kitB "list" "tuple" = some false by decide +kernel)) (fun _ => kitAny_cons (b := true) (kit_ty (show kitB "list" "list" = some true by decide +kernel)) (fun z => nomatch z) (fun _ => rfl)) (fun z => nomatch z)
  | none => exact no (t := "NoneType") (by decide +kernel) (by decide +kernel)
  | bool _ => exact no (t := "bool") (by decide +kernel) (by decide +kernel)
  | int _ => exact no (t := "int") (by decide +kernel) (by decide +kernel)
  | str _ => exact no (t := "str") (by decide +kernel) (by decide +kernel)
  | dict _ => exact no (t := "dict") (by decide +kernel) (by decide +kernel)
def isTupD : PyData → Bool
  | .tuple _ => true
  | _ => false
theorem kit_tup (d : PyData) : PySem.W.kitOne K (.type (tyD d)) (.type "tuple") = some (isTupD d) := by
  cases d with
  | tuple _ => exact kit_ty (show kitB "tuple" "tuple" = some true by decide +kernel)
  | list _ => exact kit_ty (show kitB "list" "tuple" = some false by decide +kernel)
  | none => exact kit_ty (show kitB "NoneType" "tuple" = some false by decide +kernel)
  | bool _ => exact kit_ty (show kitB "bool" "tuple" = some false by decide +kernel)
  | int _ => exact kit_ty (show kitB "int" "tuple" = some false by decide +kernel)
  | str _ => exact kit_ty (show kitB "str" "tuple" = some false by decide +kernel)
  | dict _ => exact kit_ty (show kitB "dict" "tuple" = some false by decide +kernel)
theorem kit_bool (d : PyData) : PySem.W.kitOne K (.type (tyD d)) (.type "bool") = some (isB d) := by
  cases d with
  | tuple _ => exact kit_ty (show kitB "tuple" "bool" = some false by decide +kernel)
  | list _ => exact kit_ty (show kitB "list" "bool" = some false by decide +kernel)
  | none => exact kit_ty (show kitB "NoneType" "bool" = some false by decide +kernel)
  | bool _ => exact kit_ty (show kitB "bool" "bool" = some true by decide +kernel)
  | int _ => exact kit_ty (show kitB "int" "bool" = some false by decide +kernel)
  | str _ => exact kit_ty (show kitB "str" "bool" = some false by decide +kernel)
  | dict _ => exact kit_ty (show kitB "dict" "bool" = some false by decide +kernel)
mutual
/-- no list, tuple or string within has more than 50000 items -/
def narrow : PyData → Bool
  | .list xs => decide (xs.length ≤ 50000) && narrowAll xs
  | .tuple xs => decide (xs.length ≤ 50000) && narrowAll xs
  | .str x => decide (x.cps.size ≤ 50000)
  | _ => true
def narrowAll : List PyData → Bool
  | [] => true
  | x :: xs => narrow x && narrowAll xs
end
def itemsD : PyData → List PyData
  | .list xs => xs
  | .tuple xs => xs
  | _ => []
theorem narrow_len {e : PyData} (h : narrow e = true) : (itemsD e).length ≤ 50000 := by
  cases e with
  | list xs => rw [narrow, Bool.and_eq_true, decide_eq_true_eq] at h; exact h.1
  | tuple xs => rw [narrow, Bool.and_eq_true, decide_eq_true_eq] at h; exact h.1
  | _ => exact Nat.zero_le _
theorem narrowAll_get : ∀ {ds : List PyData} {i : Nat} {d : PyData}, narrowAll ds = true → ds[i]? = some d → narrow d = true
  | [], _, _, _, e => by simp at e
  | d :: ds, 0, _, h, e => by
    simp at e
    subst e
    rw [narrowAll, Bool.and_eq_true] at h
    exact h.1
  | _ :: ds, i + 1, d, h, e => by
    rw [narrowAll, Bool.and_eq_true] at h
    exact narrowAll_get (ds := ds) (i := i) (d := d) h.2 (by simpa using e)
theorem narrow_get {e d : PyData} {i : Nat} (h : narrow e = true) (hi : (itemsD e)[i]? = some d) : narrow d = true := by
  cases e with
  | list xs => rw [narrow, Bool.and_eq_true] at h; exact narrowAll_get h.2 hi
  | tuple xs => rw [narrow, Bool.and_eq_true] at h; exact narrowAll_get h.2 hi
  | _ => exact absurd hi (by simp [itemsD])
/-- depth n at most: the due one's -/
def spIs (K : PySem.W.Frag) : Nat → Sp
  | 0 => fun _ _ _ _ => False
  | n + 1 => fun vs H Q _ => ∃ (x y : V) (d e : PyData), vs = [x, y] ∧ Dp K H x d ∧ Dp K H y e ∧ SeqAt.shaped d = true ∧ SeqAt.shaped e = true ∧ narrow e = true ∧ e.depth ≤ n ∧
    ∀ H', Same H H' → Q (.bl (isv d e)) H'
abbrev sIs : Stmt := topS 31
abbrev NscIs : List Str := ["_law_told", "_law_due", "_law_one", "_law_two"]
theorem scIs : FnScope ["_law_told", "_law_due", "_law_one", "_law_two"] ["_law_told", "_law_due"] (defScope sIs) := ⟨rfl, rfl, rfl, by decide +kernel, rfl, by decide +kernel, by decide +kernel⟩
theorem isv_leaf {d e : PyData} (h : isSeq e = false) : isv d e = ((isB d == isB e) && PyData.eqv d e) := by
  cases e with
  | list _ => cases h
  | tuple _ => cases h
  | _ => cases d <;> rw [isv] <;> simp
theorem isv_other {d e : PyData} (h : isSeq e = true) (h2 : isTupD d ≠ isTupD e ∨ isSeq d = false) : isv d e = false := by
  cases e with
  | list es =>
    cases d with
    | list ds => rcases h2 with h2 | h2
                 · exact absurd rfl h2
                 · cases h2
    | _ => rw [isv]
           all_goals simp
  | tuple es =>
    cases d with
    | tuple ds => rcases h2 with h2 | h2
                  · exact absurd rfl h2
                  · cases h2
    | _ => rw [isv]
           all_goals simp
  | _ => cases h
theorem canLay_get : ∀ {ds : List PyData} {i : Nat} {d : PyData}, PyData.canLayAll0 ds = true → ds[i]? = some d → d.canLay0 = true
  | [], _, _, _, e => by simp at e
  | d :: ds, 0, _, h, e => by
    simp at e
    subst e
    rw [PyData.canLayAll0, Bool.and_eq_true] at h
    exact h.1
  | _ :: ds, i + 1, d, h, e => by
    rw [PyData.canLayAll0, Bool.and_eq_true] at h
    exact canLay_get (ds := ds) (i := i) (d := d) h.2 (by simpa using e)
theorem shaped_in {ds : List PyData} {i : Nat} {d : PyData} (h : PyData.canLayAll0 ds = true) (e : ds[i]? = some d) (z : d.depth ≤ 64) : SeqAt.shaped d = true := by
  unfold SeqAt.shaped
  rw [canLay_get h e, decide_eq_true z]
  rfl
theorem ok_is (n : Nat) {f : Addr} {fd : FuncData} (F : Fun K "_law_is" "_law_is" sIs f fd) (T : Txt mg) (C__law_is : Own P w K mg base CX0 n "_law_is" ["_law_told", "_law_due"] (spIs K n)) :
    FnOk P w K mg base CX0 (n + 1) f fd ["_law_told", "_law_due"] (spIs K (n + 1)) := by
  refine F.ok scIs (fun vs H Q E h => ?_) (fun cdv A outer s H vs Q E hr h => ?_)
  · obtain ⟨x, y, d, e, rfl, _⟩ := h
    rfl
  · obtain ⟨x, y, d, e, rfl, hx, hy, sd, se, nw, hn, q⟩ := h
    refine ⟨_, (pss_cons (ps_if (pt_val (pe_callB call_isiT (by rfl) T.nisinstance (by decide +kernel) (pa_cons (pv 1) (pa_cons (pe_tup (pa_cons (pe_bltn (v := .ty "tuple") (by rfl) T.ntuple (by decide +kernel) rfl) (pa_cons (pe_bltn (v := .ty "list") (by rfl) T.nlist (by decide +kernel) rfl) pa_nil))) pa_nil)))) (pss_cons (ps_if (PW.pt (pw_or (pt_cmpR op_ne (pe_callB call_isi (by rfl) T.nisinstance (by decide +kernel) (pa_cons (pv 0) (pa_cons (pe_bltn (v := .ty "tuple") (by rfl) T.ntuple (by decide +kernel) rfl) pa_nil))) (pe_callB call_isi (by rfl) T.nisinstance (by decide +kernel) (pa_cons (pv 1) (pa_cons (pe_bltn (v := .ty "tuple") (by rfl) T.ntuple (by decide +kernel) rfl) pa_nil))) (nomark _)) (pw_or1 (pt_not (pt_val (pe_callB call_isiT (by rfl) T.nisinstance (by decide +kernel) (pa_cons (pv 0) (pa_cons (pe_tup (pa_cons (pe_bltn (v := .ty "tuple") (by rfl) T.ntuple (by decide +kernel) rfl) (pa_cons (pe_bltn (v := .ty "list") (by rfl) T.nlist (by decide +kernel) rfl) pa_nil))) pa_nil)))))))) (pss_one (ps_ret pe_bl)) pss_nil)
        (pss_one (ps_ret (pe_and (pe_cmpR op_eq (pe_callB call_len_seq (by rfl) T.nlen (by decide +kernel) (pa_cons (pv 0) pa_nil)) (pe_callB call_len_seq (by rfl) T.nlen (by decide +kernel) (pa_cons (pv 1) pa_nil)) (nomark _)) (pe_one (pe_callB (cr_all rfl) (by rfl) T.nall (by decide +kernel) (pa_cons (pe_lc (g := gTup K 2 (gCons (gName 2) (gCons (gName 3) gNil))) (own := [("_law_one", 2), ("_law_two", 3)]) (by rfl) scIs.nd (pi_zipA (by rfl) T.nzip (pa_cons (pv 0) (pa_cons (pv 1) pa_nil))) (blkOk_by (own := [("_law_one", 2), ("_law_two", 3)]) (N := NscIs) (sc := defScope sIs) (by decide +kernel)) (fun _ _ _ _ _ => (by exact (pg_tup rfl (pgs_cons (pg_name (i := 2) scIs.nd rfl (Or.inl rfl)) (pgs_cons (pg_name (i := 3) scIs.nd rfl (Or.inl rfl)) pgs_nil))))) (fun _ _ _ _ _ => pts_nil) (fun _ _ _ _ _ => (pe_own C__law_is hr (pa_cons (pv 2) (pa_cons (pv 3) pa_nil))))) pa_nil))))))) pss_nil)
      (pss_one (ps_ret (pe_and (pe_cmpR op_eq (pe_callB call_isi (by rfl) T.nisinstance (by decide +kernel) (pa_cons (pv 0) (pa_cons (pe_bltn (v := .ty "bool") (by rfl) T.nbool (by decide +kernel) rfl) pa_nil))) (pe_callB call_isi (by rfl) T.nisinstance (by decide +kernel) (pa_cons (pv 1) (pa_cons (pe_bltn (v := .ty "bool") (by rfl) T.nbool (by decide +kernel) rfl) pa_nil))) (nomark _)) (pe_one (pe_cmpR (op_eqD hr.units) (pv 0) (pv 1) (nomark _))))))), ?_⟩
    refine ⟨y, rfl, (by show 2 ≤ sizeLine; decide), fun tp htp => ⟨y, tp, [.ty "tuple", .ty "list"], _, _, _, rfl, upd_same, .cons (.ty _) (.cons (.ty _) .nil), tyX_of (dp_same (same_new htp) hy), kit_seq e, _, rfl, ?_⟩⟩
    have s0 := same_new (o := .tup [.ty "tuple", .ty "list"]) htp
    refine ite2 (fun he => ?_) (fun he => ?_)
    · refine ⟨x, rfl, ⟨x, .ty "tuple", _, _, _, rfl, .ty _, tyX_of (dp_same s0 hx), kit_tup d, y, rfl, ⟨y, .ty "tuple", _, _, _, rfl, .ty _, tyX_of (dp_same s0 hy), kit_tup e, rfl, _, rfl, ?_⟩⟩⟩
      refine ite2 (fun hd => ?_) (fun hd => ?_)
      · have q' := q _ s0
        rw [isv_other he (.inl fun z => by rw [z, decide_eq_true rfl] at hd; cases hd)] at q'
        exact q'
      · have hd : isTupD d = isTupD e := by
          cases h1 : isTupD d <;> cases h2 : isTupD e <;> first | rfl | (rw [h1, h2] at hd; exact absurd (by decide) hd)
        refine ⟨x, rfl, (by show 2 ≤ sizeLine; decide), fun tp2 htp2 => ⟨x, tp2, [.ty "tuple", .ty "list"], _, _, _, rfl, upd_same, .cons (.ty _) (.cons (.ty _) .nil), tyX_of (dp_same (s0.trans (same_new htp2)) hx), kit_seq d, _, rfl, ?_⟩⟩
        have s1 := s0.trans (same_new (o := .tup [.ty "tuple", .ty "list"]) htp2)
        generalize upd (upd H tp (.tup [.ty "tuple", .ty "list"])) tp2 (.tup [.ty "tuple", .ty "list"]) = H0 at s1
        cases hsd : isSeq d with
        | false =>
          have q' := q _ s1
          rw [isv_other he (.inr hsd)] at q'
          exact q'
        | true =>
          have sd' := SeqAt.canLay_of_shaped sd
          have se' := SeqAt.canLay_of_shaped se
          have dd' := SeqAt.depth_of_shaped sd
          have de' := SeqAt.depth_of_shaped se
          cases n with
          | zero =>
            cases hy with
            | lst _ _ => exact absurd hn (by rw [PyData.depth]; omega)
            | tup _ _ => exact absurd hn (by rw [PyData.depth]; omega)
            | _ => cases he
          | succ n =>
            cases hx with
            | @lst a xs ds ha aa =>
              cases hy with
              | @lst b ys es hb bb =>
                have wa := Same.seq s1 ha
                have wb := Same.seq s1 hb
                -- two lists
                refine ⟨.ref a, rfl, a, _, rfl, .inl wa, .ref b, rfl, b, _, rfl, .inl wb, rfl, _, rfl, ?_⟩
                refine ite2 (fun hle => ?_) (fun hle => ?_)
                · have hle : (xs.length : Int) = ys.length := V.int.inj (of_decide_eq_true hle)
                  have hle : xs.length = ys.length := by omega
                  refine ⟨.ref a, rfl, .ref b, rfl, a, b, xs, ys, rfl, .inl ⟨wa, wb, fun D hD => lc_it (walk_zip rfl)
                    (fun i H' => Same H0 H' ∧ H' D = some (.lst (((ds.zip es).take i).map fun p => V.bl (isv p.1 p.2))))
                    ⟨same_new hD, upd_same⟩ (fun i H' _ pv => ⟨Same.seq pv.1 wa, Same.seq pv.1 wb⟩) ?_ ?_⟩⟩
                  · rintro i v H1 H2 hi ⟨sm, hDD⟩ ⟨t2, u, v, rfl, hT, rfl, eu, ev⟩
                    obtain ⟨du, hdu, pu⟩ := dpAll_get aa eu
                    obtain ⟨dv, hdv, pv⟩ := dpAll_get bb ev
                    have nDT : D ≠ t2 := ne_of_none hDD hT
                    have s2 : Same H0 (upd H1 t2 (.tup [u, v])) := sm.trans (same_new hT)
                    refine ⟨t2, [u, v], rfl, .inl (.inl upd_same), rfl, u, [v], rfl, v, [], rfl, rfl, rfl, ?_⟩
                    refine ⟨u, rfl, v, rfl, u, v, du, dv, rfl, dp_same (s1.trans s2) pu, dp_same (s1.trans s2) pv, shaped_in (by rw [PyData.canLay0] at sd'; exact sd') hdu (Nat.le_trans (depth_get hdu) (by rw [PyData.depth] at dd'; omega)), shaped_in (by rw [PyData.canLay0] at se'; exact se') hdv (Nat.le_trans (depth_get hdv) (by rw [PyData.depth] at de'; omega)), narrow_get nw hdv, ?_, fun H3 s3 => ?_⟩
                    · have := depth_get hdv
                      rw [PyData.depth] at hn
                      omega
                    · have e3 : H3 D = _ := s3 D _ (by rw [upd_ne nDT]; exact hDD)
                      refine ⟨_, e3, ?_, fun c o e => ?_, ?_⟩
                      · rw [List.length_map, List.length_take]
                        have hz : (ds.zip es).length ≤ es.length := by
                          rw [List.length_zip]
                          exact Nat.min_le_right _ _
                        have hw : es.length ≤ 50000 := narrow_len nw
                        exact sz_lt (by omega)
                      · rw [upd_ne (ne_of_none e hD)]
                        exact s3 c o (s2 c o e)
                      · rw [upd_same, List.take_add_one]
                        have : (ds.zip es)[i]? = some (du, dv) := by
                          rw [List.getElem?_zip_eq_some]
                          exact ⟨hdu, hdv⟩
                        rw [this, List.map_append]
                        rfl
                  · rintro H1 ⟨sm, hDD⟩
                    have : (ds.zip es).take (min xs.length ys.length) = ds.zip es := by
                      refine List.take_of_length_le ?_
                      rw [List.length_zip, dpAll_len aa, dpAll_len bb]
                      exact Nat.le_refl _
                    rw [this] at hDD
                    refine ⟨D, (ds.zip es).map fun p => isv p.1 p.2, rfl, .inl (.inl (by rw [hDD, List.map_map]; rfl)), ?_⟩
                    have q' := q H1 (s1.trans sm)
                    rw [show isv (.list ds) (.list es) = isvAll ds es by rw [isv], isvAll_zip (by rw [← dpAll_len aa, ← dpAll_len bb]; exact hle)] at q'
                    exact q'
                · have hle : ¬ (xs.length = ys.length) := fun z => hle (by rw [z]; exact decide_eq_true rfl)
                  have q' := q H0 s1
                  rw [show isv (.list ds) (.list es) = isvAll ds es by rw [isv], isvAll_len (by rw [← dpAll_len aa, ← dpAll_len bb]; exact hle)] at q'
                  exact q'
              | _ => first | (cases he; done) | cases hd
            | @tup a xs ds ha aa =>
              cases hy with
              | @tup b ys es hb bb =>
                have wa := same_seqT s1 ha
                have wb := same_seqT s1 hb
                -- two tuples
                refine ⟨.ref a, rfl, a, _, rfl, .inr wa, .ref b, rfl, b, _, rfl, .inr wb, rfl, _, rfl, ?_⟩
                refine ite2 (fun hle => ?_) (fun hle => ?_)
                · have hle : (xs.length : Int) = ys.length := V.int.inj (of_decide_eq_true hle)
                  have hle : xs.length = ys.length := by omega
                  refine ⟨.ref a, rfl, .ref b, rfl, a, b, xs, ys, rfl, .inr ⟨wa, wb, fun D hD => lc_it (walk_zipT rfl)
                    (fun i H' => Same H0 H' ∧ H' D = some (.lst (((ds.zip es).take i).map fun p => V.bl (isv p.1 p.2))))
                    ⟨same_new hD, upd_same⟩ (fun i H' _ pv => ⟨same_seqT pv.1 wa, same_seqT pv.1 wb⟩) ?_ ?_⟩⟩
                  · rintro i v H1 H2 hi ⟨sm, hDD⟩ ⟨t2, u, v, rfl, hT, rfl, eu, ev⟩
                    obtain ⟨du, hdu, pu⟩ := dpAll_get aa eu
                    obtain ⟨dv, hdv, pv⟩ := dpAll_get bb ev
                    have nDT : D ≠ t2 := ne_of_none hDD hT
                    have s2 : Same H0 (upd H1 t2 (.tup [u, v])) := sm.trans (same_new hT)
                    refine ⟨t2, [u, v], rfl, .inl (.inl upd_same), rfl, u, [v], rfl, v, [], rfl, rfl, rfl, ?_⟩
                    refine ⟨u, rfl, v, rfl, u, v, du, dv, rfl, dp_same (s1.trans s2) pu, dp_same (s1.trans s2) pv, shaped_in (by rw [PyData.canLay0] at sd'; exact sd') hdu (Nat.le_trans (depth_get hdu) (by rw [PyData.depth] at dd'; omega)), shaped_in (by rw [PyData.canLay0] at se'; exact se') hdv (Nat.le_trans (depth_get hdv) (by rw [PyData.depth] at de'; omega)), narrow_get nw hdv, ?_, fun H3 s3 => ?_⟩
                    · have := depth_get hdv
                      rw [PyData.depth] at hn
                      omega
                    · have e3 : H3 D = _ := s3 D _ (by rw [upd_ne nDT]; exact hDD)
                      refine ⟨_, e3, ?_, fun c o e => ?_, ?_⟩
                      · rw [List.length_map, List.length_take]
                        have hz : (ds.zip es).length ≤ es.length := by
                          rw [List.length_zip]
                          exact Nat.min_le_right _ _
                        have hw : es.length ≤ 50000 := narrow_len nw
                        exact sz_lt (by omega)
                      · rw [upd_ne (ne_of_none e hD)]
                        exact s3 c o (s2 c o e)
                      · rw [upd_same, List.take_add_one]
                        have : (ds.zip es)[i]? = some (du, dv) := by
                          rw [List.getElem?_zip_eq_some]
                          exact ⟨hdu, hdv⟩
                        rw [this, List.map_append]
                        rfl
                  · rintro H1 ⟨sm, hDD⟩
                    have : (ds.zip es).take (min xs.length ys.length) = ds.zip es := by
                      refine List.take_of_length_le ?_
                      rw [List.length_zip, dpAll_len aa, dpAll_len bb]
                      exact Nat.le_refl _
                    rw [this] at hDD
                    refine ⟨D, (ds.zip es).map fun p => isv p.1 p.2, rfl, .inl (.inl (by rw [hDD, List.map_map]; rfl)), ?_⟩
                    have q' := q H1 (s1.trans sm)
                    rw [show isv (.tuple ds) (.tuple es) = isvAll ds es by rw [isv], isvAll_zip (by rw [← dpAll_len aa, ← dpAll_len bb]; exact hle)] at q'
                    exact q'
                · have hle : ¬ (xs.length = ys.length) := fun z => hle (by rw [z]; exact decide_eq_true rfl)
                  have q' := q H0 s1
                  rw [show isv (.tuple ds) (.tuple es) = isvAll ds es by rw [isv], isvAll_len (by rw [← dpAll_len aa, ← dpAll_len bb]; exact hle)] at q'
                  exact q'
              | _ => first | (cases he; done) | cases hd
            | _ => cases hsd
    · have he : isSeq e = false := by
        cases z : isSeq e with
        | false => rfl
        | true => exact absurd z he
      refine ⟨x, rfl, ⟨x, .ty "bool", _, _, _, rfl, .ty _, tyX_of (dp_same s0 hx), kit_bool d, y, rfl, ⟨y, .ty "bool", _, _, _, rfl, .ty _, tyX_of (dp_same s0 hy), kit_bool e, rfl, _, rfl, ?_⟩⟩⟩
      have q' := q _ s0
      rw [isv_leaf he] at q'
      refine ite2 (fun hb => ?_) (fun hb => ?_)
      · have hb : isB d = isB e := V.bl.inj (of_decide_eq_true hb)
        rw [hb, beq_self_eq_true, Bool.true_and] at q'
        exact ⟨x, rfl, y, rfl, d, e, dp_same s0 hx, dp_same s0 hy, sd, se, q'⟩
      · have hb : (isB d == isB e) = false := by
          cases h1 : isB d <;> cases h2 : isB e <;> first | rfl | (rw [h1, h2] at hb; exact absurd (by decide) hb)
        rw [hb, Bool.false_and] at q'
        exact q'
end
end Zq
namespace Zq
open PySem PySem.Spec PyProof.Rows L2
/-! ### the heap without the hand -/
def cut (h : Addr) (H : Hp) : Hp := fun b => if b = h then none else H b
theorem cut_ne {h b : Addr} {H : Hp} (n : b ≠ h) : cut h H b = H b := if_neg n
theorem cut_some {h b : Addr} {H : Hp} {o : HO} (e : cut h H b = some o) : b ≠ h ∧ H b = some o := by
  by_cases z : b = h
  · unfold cut at e
    rw [if_pos z] at e
    cases e
  · rw [cut_ne z] at e
    exact ⟨z, e⟩
theorem cut_same {h : Addr} {H : Hp} : Same (cut h H) H := fun _ _ e => (cut_some e).2
theorem go_cut {h : Addr} {H H' : Hp} (g : Go h H H') : Same (cut h H) (cut h H') := fun b o e => by
  obtain ⟨n, e⟩ := cut_some e
  rw [cut_ne n]
  exact g.keep b o n e
theorem same_cut {h : Addr} {H H' : Hp} (x : IsHand H h) (s : Same H H') : Same (cut h H) (cut h H') := fun b o e => by
  obtain ⟨n, e⟩ := cut_some e
  rw [cut_ne n]
  exact s b o e
/-- what only grows keeps the hand, too -/
theorem go_same {h : Addr} {H H' : Hp} (x : IsHand H h) (s : Same H H') : Go h H H' := by
  obtain ⟨c, cells, i, d, s0, k, e1, e2, e3⟩ := x
  exact ⟨⟨c, cells, i, d, s0, k, s _ _ e1, s _ _ e2, e3⟩, fun b o _ e => s b o e, fun c xs e => ⟨xs, s _ _ e⟩⟩
section
variable {K : PySem.W.Frag}
/-! ### plain things: data of told depth -/
def Pl (K : PySem.W.Frag) (G : Hp) (n : Nat) (v : V) : Prop := ∃ d, Dp K G v d ∧ d.canLay0 = true ∧ narrow d = true ∧ d.depth ≤ n
theorem Pl.same {G G' : Hp} {n : Nat} {v : V} (s : Same G G') (x : Pl K G n v) : Pl K G' n v := by
  obtain ⟨d, a, b, c, e⟩ := x
  exact ⟨d, dp_same s a, b, c, e⟩
theorem Pl.mono {G : Hp} {n m : Nat} {v : V} (h : n ≤ m) (x : Pl K G n v) : Pl K G m v := by
  obtain ⟨d, a, b, c, e⟩ := x
  exact ⟨d, a, b, c, Nat.le_trans e h⟩
theorem pls {G : Hp} {n : Nat} : ∀ {vs : List V}, (∀ v ∈ vs, Pl K G n v) → ∃ ds, DpAll K G vs ds ∧ PyData.canLayAll0 ds = true ∧ narrowAll ds = true ∧ PyData.depthAll ds ≤ n ∧ ds.length = vs.length
  | [], _ => ⟨[], .nil, rfl, rfl, Nat.zero_le _, rfl⟩
  | v :: vs, h => by
    obtain ⟨d, a, b, c, e⟩ := h v (List.mem_cons_self ..)
    obtain ⟨ds, a', b', c', e', l⟩ := pls (vs := vs) fun y hy => h y (List.mem_cons_of_mem _ hy)
    refine ⟨d :: ds, .cons a a', ?_, ?_, ?_, ?_⟩
    · rw [PyData.canLayAll0, b, b']
      rfl
    · rw [narrowAll, c, c']
      rfl
    · rw [PyData.depthAll]
      omega
    · rw [List.length_cons, List.length_cons, l]
theorem Pl.tup {G : Hp} {n : Nat} {p : Addr} {vs : List V} (e : SqT K G p vs) (hl : vs.length ≤ 50000) (h : ∀ v ∈ vs, Pl K G n v) : Pl K G (n + 1) (.ref p) := by
  obtain ⟨ds, a, b, c, d, l⟩ := pls h
  refine ⟨.tuple ds, .tup e a, ?_, ?_, ?_⟩
  · rw [PyData.canLay0]
    exact b
  · rw [narrow, c, l, decide_eq_true hl]
    rfl
  · rw [PyData.depth]
    omega
theorem Pl.lst {G : Hp} {n : Nat} {p : Addr} {vs : List V} (e : SqL K G p vs) (hl : vs.length ≤ 50000) (h : ∀ v ∈ vs, Pl K G n v) : Pl K G (n + 1) (.ref p) := by
  obtain ⟨ds, a, b, c, d, l⟩ := pls h
  refine ⟨.list ds, .lst e a, ?_, ?_, ?_⟩
  · rw [PyData.canLay0]
    exact b
  · rw [narrow, c, l, decide_eq_true hl]
    rfl
  · rw [PyData.depth]
    omega
theorem pl_non {G : Hp} : Pl K G 0 .non := ⟨.none, .non, rfl, rfl, Nat.le_refl _⟩
theorem pl_bl {G : Hp} {b : Bool} : Pl K G 0 (.bl b) := ⟨.bool b, .bl b, rfl, rfl, Nat.le_refl _⟩
theorem pl_int {G : Hp} {i : Int} : Pl K G 0 (.int i) := ⟨.int i, .int i, rfl, rfl, Nat.le_refl _⟩
theorem pl_str {G : Hp} {x : Str} (h : (PyData.strOk x && decide (x.cps.size ≤ 50000)) = true) : Pl K G 0 (.str x) :=
  ⟨.str x, .str x, by rw [PyData.canLay0]; exact (Bool.and_eq_true_iff.mp h).1, (Bool.and_eq_true_iff.mp h).2, Nat.le_refl _⟩
/-- a plain thing, or a dict of flat values -/
def Odd (K : PySem.W.Frag) (G : Hp) (v : V) : Prop := Pl K G 25 v ∨ ∃ (p : Addr) (kvs : List (Key × V)), v = .ref p ∧ G p = some (.dK kvs) ∧ ∀ kv ∈ kvs, valV kvs kv.1 = some kv.2 ∧ flatB kv.2 = true
theorem Odd.same {G G' : Hp} {v : V} (s : Same G G') (x : Odd K G v) : Odd K G' v := by
  rcases x with x | ⟨p, kvs, e, g, c⟩
  · exact .inl (x.same s)
  · exact .inr ⟨p, kvs, e, s _ _ g, c⟩
/-! ### expressions that make such -/
def Mk (h : Addr) (σ : L2.St) (P : Hp → V → Prop) (t : TE) : Prop := ∀ H Q, IsHand H h → (∀ v H', Go h H H' → P H' v → Q v H') → t σ H Q
def MkA (h : Addr) (σ : L2.St) (P : Hp → V → Prop) (t : TA) (n : Nat) : Prop := ∀ H Q, IsHand H h → (∀ vs H', Go h H H' → vs.length = n → (∀ v ∈ vs, P H' v) → Q vs H') → t σ H Q
def Stays (h : Addr) (P : Hp → V → Prop) : Prop := ∀ H H' v, Go h H H' → P H v → P H' v
section
variable {h : Addr} {σ : L2.St} {P P' : Hp → V → Prop} {te : TE} {ta : TA} {n m : Nat}
theorem MkA.nil : MkA h σ P tNil 0 := fun H Q x q => q [] H (Go.refl x) rfl (fun _ z => nomatch z)
theorem MkA.cons (st : Stays h P) (a : Mk h σ P te) (b : MkA h σ P ta n) : MkA h σ P (tCons te ta) (n + 1) := fun H Q x q =>
  a H _ x fun v H1 g1 p1 => b H1 _ g1.hand fun vs H2 g2 e p2 => q (v :: vs) H2 (g1.trans g2) (by rw [List.length_cons, e]) fun y hy => by
    rcases List.mem_cons.mp hy with rfl | hy
    · exact st _ _ _ g2 p1
    · exact p2 y hy
theorem Mk.c {v : V} (p : ∀ H, P H v) : Mk h σ P (tC v) := fun H Q x q => q v H (Go.refl x) (p H)
theorem Mk.imp (a : Mk h σ P te) (i : ∀ H v, P H v → P' H v) : Mk h σ P' te := fun H Q x q => a H Q x fun v H' g p => q v H' g (i _ _ p)
theorem Mk.tup (st : Stays h P) (a : MkA h σ P ta n) (hn : n ≤ 50000) (pp : ∀ H p vs, H p = some (.tup vs) → p ≠ h → vs.length = n → (∀ v ∈ vs, P H v) → P' H (.ref p)) : Mk h σ P' (tTup ta) := fun H Q x q =>
  a H _ x fun vs H1 g1 e p1 => ⟨Nat.le_of_lt (sz_lt (by omega)), fun p np => q _ _ (g1.then_new np) (pp _ p vs upd_same (g1.hand.ne np) e fun v hv => st _ _ _ (Go.new g1.hand np) (p1 v hv))⟩
theorem Mk.lst (st : Stays h P) (a : MkA h σ P ta n) (hn : n ≤ 50000) (pp : ∀ H p vs, H p = some (.lst vs) → p ≠ h → vs.length = n → (∀ v ∈ vs, P H v) → P' H (.ref p)) : Mk h σ P' (tLst ta) := fun H Q x q =>
  a H _ x fun vs H1 g1 e p1 => ⟨Nat.le_of_lt (sz_lt (by omega)), fun p np => q _ _ (g1.then_new np) (pp _ p vs upd_same (g1.hand.ne np) e fun v hv => st _ _ _ (Go.new g1.hand np) (p1 v hv))⟩
end
/-- a plain thing off the hand -/
def PPl (K : PySem.W.Frag) (h : Addr) (n : Nat) : Hp → V → Prop := fun H v => v ≠ .ref h ∧ Pl K (cut h H) n v
def POdd (K : PySem.W.Frag) (h : Addr) : Hp → V → Prop := fun H v => v ≠ .ref h ∧ Odd K (cut h H) v
theorem st_pl {h : Addr} {n : Nat} : Stays h (PPl K h n) := fun _ _ _ g p => ⟨p.1, p.2.same (go_cut g)⟩
theorem st_odd {h : Addr} : Stays h (POdd K h) := fun _ _ _ g p => ⟨p.1, p.2.same (go_cut g)⟩
section
variable {h : Addr} {σ : L2.St} {te : TE} {ta : TA} {n m : Nat}
theorem mk_tup (a : MkA h σ (PPl K h n) ta m) (hm : m ≤ 50000 := by decide) : Mk h σ (PPl K h (n + 1)) (tTup ta) :=
  Mk.tup st_pl a hm fun H p vs e np l ps => ⟨fun z => np (V.ref.inj z), Pl.tup (.inl (.inl (by rw [cut_ne np]; exact e))) (by omega) fun v hv => (ps v hv).2⟩
theorem mk_lst (a : MkA h σ (PPl K h n) ta m) (hm : m ≤ 50000 := by decide) : Mk h σ (PPl K h (n + 1)) (tLst ta) :=
  Mk.lst st_pl a hm fun H p vs e np l ps => ⟨fun z => np (V.ref.inj z), Pl.lst (.inl (.inl (by rw [cut_ne np]; exact e))) (by omega) fun v hv => (ps v hv).2⟩
theorem mk_non : Mk h σ (PPl K h n) (tC .non) := Mk.c fun _ => ⟨(fun z => nomatch z), pl_non.mono (Nat.zero_le _)⟩
theorem mk_bl {b : Bool} : Mk h σ (PPl K h n) (tC (.bl b)) := Mk.c fun _ => ⟨(fun z => nomatch z), pl_bl.mono (Nat.zero_le _)⟩
theorem mk_int {i : Int} : Mk h σ (PPl K h n) (tC (.int i)) := Mk.c fun _ => ⟨(fun z => nomatch z), pl_int.mono (Nat.zero_le _)⟩
theorem mk_str {x : Str} (ok : (PyData.strOk x && decide (x.cps.size ≤ 50000)) = true) : Mk h σ (PPl K h n) (tC (.str x)) := Mk.c fun _ => ⟨(fun z => nomatch z), (pl_str ok).mono (Nat.zero_le _)⟩
theorem mk_odd (a : Mk h σ (PPl K h n) te) (hn : n ≤ 25) : Mk h σ (POdd K h) te := a.imp fun _ _ p => ⟨p.1, .inl (p.2.mono hn)⟩
theorem mk_neg1 {i : Int} : Mk h σ (PPl K h n) (tUn (rU fun i => .int (-i)) (tC (.int i))) := fun H Q x q => ⟨i, rfl, q _ H (Go.refl x) ⟨(fun z => nomatch z), pl_int.mono (Nat.zero_le _)⟩⟩
theorem mk_pow : Mk h σ (PPl K h n) (tOp (rI CPow fun i j => .int (i ^ j.toNat)) (tC (.int 10)) (tC (.int 39))) := fun H Q x q => ⟨10, 39, rfl, rfl, ⟨by decide, by decide, by decide⟩, q _ H (Go.refl x) ⟨(fun z => nomatch z), pl_int.mono (Nat.zero_le _)⟩⟩
theorem mk_npow : Mk h σ (PPl K h n) (tUn (rU fun i => .int (-i)) (tOp (rI CPow fun i j => .int (i ^ j.toNat)) (tC (.int 10)) (tC (.int 39)))) := fun H Q x q => ⟨10, 39, rfl, rfl, ⟨by decide, by decide, by decide⟩, _, rfl, q _ H (Go.refl x) ⟨(fun z => nomatch z), pl_int.mono (Nat.zero_le _)⟩⟩
theorem mk_dict0 : Mk h σ (POdd K h) tDNewK := fun H Q x q p np =>
  q _ _ (Go.new x np) ⟨(fun z => x.ne np (V.ref.inj z)), .inr ⟨p, [], rfl, by rw [cut_ne (x.ne np)]; exact upd_same, fun kv z => nomatch z⟩⟩
theorem mk_dict1 {y : Str} {i : Int} : Mk h σ (POdd K h) (tDisp [(tC (.str y), tC (.int i))]) := fun H Q x q p np =>
  ⟨upd_same, [(.inr y, .int i)], rfl, (by show 1 ≤ 15; decide), by
    rw [upd_upd]
    exact q _ _ (Go.new x np) ⟨(fun z => x.ne np (V.ref.inj z)), .inr ⟨p, [(.inr y, .int i)], rfl, by rw [cut_ne (x.ne np)]; exact upd_same, fun kv z => by
      rw [List.mem_singleton] at z
      subst z
      simp [valV, flatB]⟩⟩⟩
end
end
/-! ### a nested thing, an odd one -/
def spNested (K : PySem.W.Frag) : Sp := fun vs H Q _ => ∃ h : Addr, vs = [.ref h] ∧ IsHand H h ∧ ∀ v H', Go h H H' → PPl K h 25 H' v → Q v H'
def spOdd (K : PySem.W.Frag) : Sp := fun vs H Q _ => ∃ h : Addr, vs = [.ref h] ∧ IsHand H h ∧ ∀ v H', Go h H H' → POdd K h H' v → Q v H'
section
variable {P : Program} {w : World} {K : PySem.W.Frag} {mg : Str → Option Value} {base : Heap}
abbrev sNested : Stmt := topS 32
abbrev NscNested : List Str := ["_law_hand_here", "_law_thing", "_law_turn"]
theorem scNested : FnScope ["_law_hand_here", "_law_thing", "_law_turn"] ["_law_hand_here"] (defScope sNested) := ⟨rfl, rfl, rfl, by decide +kernel, rfl, by decide +kernel, by decide +kernel⟩
theorem ok_nested {f : Addr} {fd : FuncData} (F : Fun K "_law_nested" "_law_nested" sNested f fd) (T : Txt mg) (C__law_any : Own P w K mg base CX0 2 "_law_any" ["_law_hand_here", "_law_items"] (spAny K)) :
    FnOk P w K mg base CX0 3 f fd ["_law_hand_here"] (spNested K) := by
  refine F.ok scNested (fun vs H Q E h => ?_) (fun cdv A outer s H vs Q E hr h => ?_)
  · obtain ⟨h, rfl, _⟩ := h
    rfl
  · obtain ⟨h, rfl, hh, q⟩ := h
    refine ⟨_, (pss_cons (ps_set (i := 1) scNested.nd rfl (Or.inl rfl) (pe_own C__law_any hr (pa_cons (pv 0) (pa_cons (pe_lst (pa_cons (pe_tup pa_nil) (pa_cons pe_int (pa_cons pe_str (pa_cons pe_non pa_nil))))) pa_nil))))
      (pss_cons (ps_for PassesOwn.never rfl (pi_range1 (by rfl) T.nrange (pa_cons pe_int pa_nil)) (pg_name (i := 2) scNested.nd rfl (Or.inl rfl))
        (pss_one (ps_set (i := 1) scNested.nd rfl (Or.inl rfl) (pe_ifExp (pt_cmpR op_eq (pe_op op_modN (pe_callTy call_int1 (by rfl) T.nint (by decide +kernel) (pa_cons (pv 2) pa_nil)) pe_int) pe_int (nomark _)) (pe_lst (pa_cons (pv 1) pa_nil)) (pe_tup (pa_cons (pv 1) pa_nil))))))
      (pss_one (ps_ret (pv 1))))), ?_⟩
    refine ⟨.ref h, rfl, ?_⟩
    refine Mk.lst (P' := fun H' v => ∃ p vs, v = .ref p ∧ H' p = some (.lst vs) ∧ p ≠ h ∧ vs.length = 4 ∧ ∀ v ∈ vs, PPl K h 1 H' v) st_pl
      (MkA.cons st_pl (mk_tup MkA.nil) (MkA.cons st_pl mk_int (MkA.cons st_pl (mk_str (by decide +kernel)) (MkA.cons st_pl mk_non MkA.nil)))) (by decide)
      (fun H p vs e np l ps => ⟨p, vs, rfl, e, np, l, ps⟩) H _ hh ?_
    rintro v H1 g1 ⟨p, vs, rfl, ep, np, hl, ps⟩
    refine ⟨h, .ref p, vs, rfl, g1.hand, fun z => np (V.ref.inj z), .l (.inl (.inl ep)) (by omega), by omega, fun v H2 hv g2 => ?_⟩
    have p2 := st_pl _ _ _ g2 (ps v hv)
    refine ⟨24, rfl, by decide, by decide, for_range (lo := 0) (n := 24) (fun i σ' H' => Go h H H' ∧ ∃ (v : V) (t : Option V), σ' = [some (.ref h), some v, t] ∧ PPl K h (1 + i) H' v) ⟨g1.trans g2, v, none, rfl, p2⟩ ?_ ?_⟩
    · rintro i σ' H' hi ⟨g, v, t, rfl, p⟩
      refine ⟨.int (0 + (i : Int)), rfl, .inl ⟨_, rfl, _, _, rfl, rfl, (by show (5 : Int) ≠ 0; decide), rfl, _, rfl, ?_⟩⟩
      refine ite2 (fun _ => ?_) (fun _ => ?_)
      · refine ⟨v, rfl, (by show 1 ≤ sizeLine; decide), fun q nq => ⟨g.then_new nq, .ref q, _, rfl, (fun z => g.hand.ne nq (V.ref.inj z)), ?_⟩⟩
        rw [show 1 + (i + 1) = (1 + i) + 1 by omega]
        refine Pl.lst (vs := [v]) (.inl (.inl (by rw [cut_ne (g.hand.ne nq)]; exact upd_same))) (by show 1 ≤ 50000; decide) fun u hu => ?_
        rw [List.mem_singleton] at hu
        subst hu
        exact p.2.same (go_cut (Go.new g.hand nq))
      · refine ⟨v, rfl, (by show 1 ≤ sizeLine; decide), fun q nq => ⟨g.then_new nq, .ref q, _, rfl, (fun z => g.hand.ne nq (V.ref.inj z)), ?_⟩⟩
        rw [show 1 + (i + 1) = (1 + i) + 1 by omega]
        refine Pl.tup (vs := [v]) (.inl (.inl (by rw [cut_ne (g.hand.ne nq)]; exact upd_same))) (by show 1 ≤ 50000; decide) fun u hu => ?_
        rw [List.mem_singleton] at hu
        subst hu
        exact p.2.same (go_cut (Go.new g.hand nq))
    · rintro σ' H' ⟨g, v, t, rfl, p⟩
      exact ⟨v, rfl, q v H' g p⟩
abbrev sOdd : Stmt := topS 34
abbrev NscOdd : List Str := ["_law_hand_here", "_law_menu"]
theorem scOdd : FnScope ["_law_hand_here", "_law_menu"] ["_law_hand_here"] (defScope sOdd) := ⟨rfl, rfl, rfl, by decide +kernel, rfl, by decide +kernel, by decide +kernel⟩
theorem ok_odd {f : Addr} {fd : FuncData} (F : Fun K "_law_odd" "_law_odd" sOdd f fd) (T : Txt mg) (C__law_any : Own P w K mg base CX0 2 "_law_any" ["_law_hand_here", "_law_items"] (spAny K))
    (C__law_nested : Own P w K mg base CX0 3 "_law_nested" ["_law_hand_here"] (spNested K)) : FnOk P w K mg base CX0 4 f fd ["_law_hand_here"] (spOdd K) := by
  refine F.ok scOdd (fun vs H Q E h => ?_) (fun cdv A outer s H vs Q E hr h => ?_)
  · obtain ⟨h, rfl, _⟩ := h
    rfl
  · obtain ⟨h, rfl, hh, q⟩ := h
    refine ⟨_, (pss_cons (ps_set (i := 1) scOdd.nd rfl (Or.inl rfl) (pe_lst (pa_cons pe_non (pa_cons pe_bl (pa_cons pe_bl (pa_cons (pe_un un_neg pe_int) (pa_cons pe_int (pa_cons pe_int (pa_cons pe_str (pa_cons pe_str (pa_cons pe_str (pa_cons pe_str (pa_cons pe_str (pa_cons pe_str (pa_cons (pe_tup pa_nil) (pa_cons (pe_tup (pa_cons pe_str pa_nil)) (pa_cons (pe_lst pa_nil) (pa_cons (pe_lst (pa_cons pe_str pa_nil)) (pa_cons pe_dnewK (pa_cons (pe_disp (pps_cons pe_str pe_int pps_nil) (by rfl) (by rfl) (fun z => by cases z) (by decide)) (pa_cons (pe_op op_pow pe_int pe_int) pa_nil)))))))))))))))))))))
      (pss_cons (ps_set (i := 1) scOdd.nd rfl (Or.inl rfl) (pe_op op_cat (pv 1) (pe_lst (pa_cons (pe_un un_neg (pe_op op_pow pe_int pe_int)) (pa_cons (pe_tup (pa_cons pe_int (pa_cons pe_int pa_nil))) (pa_cons (pe_tup (pa_cons pe_bl (pa_cons pe_int pa_nil))) (pa_cons (pe_lst (pa_cons pe_int (pa_cons pe_int pa_nil))) (pa_cons (pe_tup (pa_cons pe_int pa_nil)) (pa_cons (pe_tup (pa_cons pe_int (pa_cons pe_str pa_nil))) (pa_cons pe_str (pa_cons pe_str (pa_cons pe_int pa_nil))))))))))))
      (pss_one (ps_ret (pe_own C__law_any hr (pa_cons (pv 0) (pa_cons (pe_op op_cat (pv 1) (pe_lst (pa_cons (pe_own C__law_nested hr (pa_cons (pv 0) pa_nil)) pa_nil))) pa_nil))))))), ?_⟩
    have lst : ∀ {ta : TA} {n : Nat} {σ : L2.St} {H : Hp} {Q : VK}, MkA h σ (POdd K h) ta n → n ≤ 50000 → IsHand H h → (∀ p vs H', Go h H H' → H' p = some (.lst vs) → p ≠ h → vs.length = n → (∀ v ∈ vs, POdd K h H' v) → Q (.ref p) H') → tLst ta σ H Q :=
      fun a hn x q => Mk.lst (P' := fun H' v => ∃ p vs, v = .ref p ∧ H' p = some (.lst vs) ∧ p ≠ h ∧ vs.length = _ ∧ ∀ v ∈ vs, POdd K h H' v) st_odd a hn (fun H p vs e np l ps => ⟨p, vs, rfl, e, np, l, ps⟩) _ _ x
        fun v H' g ⟨p, vs, e, ep, np, hl, ps⟩ => e ▸ q p vs H' g ep np hl ps
    unfold tSeq tAsg
    refine lst (n := 19) ?_ (by decide) hh fun p vs H1 g1 ep np hl ps => ?_
    · repeat' (first | exact MkA.nil | refine MkA.cons st_odd ?_ ?_)
      all_goals first
        | exact mk_odd (n := 0) mk_non (by decide)
        | exact mk_odd (n := 0) mk_bl (by decide)
        | exact mk_odd (n := 0) mk_int (by decide)
        | exact mk_odd (n := 0) (mk_str (by decide +kernel)) (by decide)
        | exact mk_odd (n := 0) mk_neg1 (by decide)
        | exact mk_odd (n := 0) mk_pow (by decide)
        | exact mk_odd (n := 0) mk_npow (by decide)
        | exact mk_odd (n := 1) (mk_tup MkA.nil) (by decide)
        | exact mk_odd (n := 1) (mk_lst MkA.nil) (by decide)
        | exact mk_odd (n := 1) (mk_tup (MkA.cons st_pl (mk_str (by decide +kernel)) MkA.nil)) (by decide)
        | exact mk_odd (n := 1) (mk_lst (MkA.cons st_pl (mk_str (by decide +kernel)) MkA.nil)) (by decide)
        | exact mk_dict0
        | exact mk_dict1
    · refine ⟨.ref p, rfl, ?_⟩
      refine lst (n := 9) ?_ (by decide) g1.hand fun p2 vs2 H2 g2 ep2 np2 hl2 ps2 => ?_
      · repeat' (first | exact MkA.nil | refine MkA.cons st_odd ?_ ?_)
        all_goals first
          | exact mk_odd (n := 0) mk_int (by decide)
          | exact mk_odd (n := 0) (mk_str (by decide +kernel)) (by decide)
          | exact mk_odd (n := 0) mk_npow (by decide)
          | exact mk_odd (n := 1) (mk_tup (MkA.cons st_pl mk_int (MkA.cons st_pl mk_int MkA.nil))) (by decide)
          | exact mk_odd (n := 1) (mk_tup (MkA.cons st_pl mk_bl (MkA.cons st_pl mk_int MkA.nil))) (by decide)
          | exact mk_odd (n := 1) (mk_lst (MkA.cons st_pl mk_int (MkA.cons st_pl mk_int MkA.nil))) (by decide)
          | exact mk_odd (n := 1) (mk_tup (MkA.cons st_pl mk_int MkA.nil)) (by decide)
          | exact mk_odd (n := 1) (mk_tup (MkA.cons st_pl mk_int (MkA.cons st_pl (mk_str (by decide +kernel)) MkA.nil))) (by decide)
      · refine ⟨p, p2, vs, vs2, rfl, rfl, g2.keep _ _ np ep, ep2, Nat.le_of_lt (sz_lt (by omega)), fun p3 np3 => ?_⟩
        have g3 := (g1.trans g2).then_new (o := .lst (vs ++ vs2)) np3
        have ep3 : upd H2 p3 (.lst (vs ++ vs2)) p3 = some (.lst (vs ++ vs2)) := upd_same
        have ps3 : ∀ v ∈ vs ++ vs2, POdd K h (upd H2 p3 (.lst (vs ++ vs2))) v := fun v hv => by
          rcases List.mem_append.mp hv with hv | hv
          · exact st_odd _ _ _ (g2.then_new np3) (ps v hv)
          · exact st_odd _ _ _ (Go.new g2.hand np3) (ps2 v hv)
        have n3 : p3 ≠ h := g2.hand.ne np3
        generalize upd H2 p3 (.lst (vs ++ vs2)) = H3 at g3 ep3 ps3 ⊢
        refine ⟨.ref h, rfl, .ref p3, rfl, ?_⟩
        refine lst (n := 1) (MkA.cons st_odd (fun H Q x q => ⟨.ref h, rfl, h, rfl, x, fun v H' g pv => q v H' g ⟨pv.1, .inl pv.2⟩⟩) MkA.nil) (by decide) g3.hand fun p4 vs4 H4 g4 ep4 np4 hl4 ps4 => ?_
        refine ⟨p3, p4, vs ++ vs2, vs4, rfl, rfl, g4.keep _ _ n3 ep3, ep4, Nat.le_of_lt (sz_lt (by rw [List.length_append]; omega)), fun p5 np5 => ?_⟩
        refine ⟨h, .ref p5, (vs ++ vs2) ++ vs4, rfl, (g4.then_new np5).hand, (fun z => g4.hand.ne np5 (V.ref.inj z)), .l (.inl (.inl upd_same)) (by rw [List.length_append, List.length_append]; omega), (by rw [List.length_append, List.length_append]; omega), fun v H' hv g5 => ?_⟩
        refine q v H' (g3.trans ((g4.then_new np5).trans g5)) (st_odd _ _ _ ((Go.new g4.hand np5).trans g5) ?_)
        rcases List.mem_append.mp hv with hv | hv
        · exact st_odd _ _ _ g4 (ps3 v hv)
        · exact ps4 v hv
end
end Zq
namespace Zq
open PySem PySem.Spec PyProof.Rows L2
/-! ### exceptions as values -/
/-- what the module tells of an error class -/
structure ErrC (K : PySem.W.Frag) (C : Addr) : Prop where
  oex : OexC K C
  exc : ExcC K C
/-- an error of this class: bare, or with its dict -/
def ErrAt (H : Hp) (a C : Addr) : Prop := H a = some (exo a C none) ∨ ∃ (dx : Addr) (fs : List (Str × V)), H a = some (exo a C (some dx)) ∧ H dx = some (exd dx fs)
theorem ErrAt.same {H H' : Hp} {a C : Addr} (s : Same H H') (x : ErrAt H a C) : ErrAt H' a C := by
  rcases x with x | ⟨dx, fs, e1, e2⟩
  · exact .inl (s _ _ x)
  · exact .inr ⟨dx, fs, s _ _ e1, s _ _ e2⟩
section
variable {X : Cx} {pins : List (Addr × Obj)} {σ : L2.St} {H : Hp} {s : Shared}
theorem err_inst {a C : Addr} (hok : HOk X.prog X.w H s.heap) (x : ErrAt H a C) : ∃ (ox : Obj) (od : Option Obj), PySem.W.InstAt s.heap a ox C od := by
  rcases x with x | ⟨dx, fs, e1, e2⟩
  · obtain ⟨t1, h⟩ := exo_at hok x
    exact ⟨_, none, h, rfl, rfl, True.intro⟩
  · obtain ⟨t1, h⟩ := exo_at hok e1
    obtain ⟨mA, ⟨o, es, ep, ho, hr⟩, _⟩ := exd_at hok e2
    exact ⟨_, some o, h, rfl, rfl, ho⟩
/-- isinstance(e, c) -/
def rIsErr (K : PySem.W.Frag) : List V → Hp → VK → Prop := fun xs H Q => ∃ (a C : Addr) (c : V) (u : Value) (b : Bool), xs = [.ref a, c] ∧ ErrC K C ∧ ErrAt H a C ∧ ClsV c u ∧ PySem.W.kitOne K (.ref C) u = some b ∧ Q (.bl b) H
theorem call_isErr : CallR X (.builtin "isinstance") (rIsErr X.K) := by
  intro pins s σ H xs us Q I r h
  obtain ⟨a, C, c, u, b, rfl, T, ea, k, e, q⟩ := h
  obtain ⟨u1, u2, rfl, r1, r2⟩ := vals2 r
  have e2 := k.eq r2
  subst e2
  cases (show u1 = Value.ref a from r1)
  obtain ⟨ox, od, J⟩ := err_inst I.hok ea
  have hcl : (PySem.W.clsIn X.K C).isSome = true := by
    obtain ⟨cd, hc, _⟩ := PySem.W.any_some T.exc.hd
    rw [hc]
    rfl
  exact PySem.W.kia_one (PySem.W.kitx_exc hcl T.exc.hg T.exc.hk T.exc.hs T.exc.ha T.exc.hn T.exc.ht T.exc.hm) I.kIn J e (fun z => nomatch z) fun tk => ⟨.bl b, H, I.tok tk, rfl, q⟩
/-- e.f -/
def tErrF (K : PySem.W.Frag) (f : Str) (te : TE) : TE := fun σ H Q => te σ H fun x H1 => ∃ (a C dx : Addr) (fs : List (Str × V)) (v : V), x = .ref a ∧ ErrC K C ∧ PySem.W.findIn K (.ref C) f = some none ∧ H1 a = some (exo a C (some dx)) ∧ H1 dx = some (exd dx fs) ∧ fs.lookup f = some v ∧ Q v H1
theorem pe_errF {e : Expr} {te : TE} {pos : Pos} {n : Str} (he : PE X e te) (hb : attributeBase e n X.env (eval e X.env) = eval e X.env := by rfl) : PE X (.Attribute e n pos) (tErrF X.K n te) := by
  refine ⟨fun pins s σ H Q I h => ?_⟩
  refine attr_of hb (thn (he.run pins s σ H _ I h) fun u s1 hh => ?_)
  obtain ⟨x, H1, I1, rx, a, C, dx, fs, v, ex, T, hno, ea, ed, l, q⟩ := hh
  subst ex
  obtain rfl : u = Value.ref a := rx
  obtain ⟨t1, ho⟩ := exo_at I1.hok ea
  obtain ⟨mA, hns, hr⟩ := exd_at I1.hok ed
  obtain ⟨od, hod, hl⟩ := lookIn_ns hns
  obtain ⟨u, hu, ru⟩ := RelO.some_of (v := v) (o := mA n) (by rw [← l]; exact hr n)
  have J : PySem.W.InstAt s1.heap a _ C (some od) := ⟨ho, rfl, rfl, hod⟩
  exact HandSPX.exc_get I1.kIn J T.exc.hg T.exc.hk T.exc.hs (PySem.W.findObj_own T.exc.hd hno rfl (by rw [hl, hu])) (handed_of ru) ⟨v, H1, I1.tok _, ru, q⟩
/-- a class by its name -/
theorem pe_cls {x : Str} {C : Addr} {pos : Pos} (hm : X.mg x = some (.ref C)) (hg : Gl X x := by rfl) (hdb : (x == ("__debug__" : Str)) = false := by decide) : PE X (.Name x pos) (tC (.ref C)) :=
  ⟨fun pins s σ H Q I h => ld_glob I hg hm ⟨.ref C, H, I, rfl, h⟩ hdb⟩
end
/-- C(..), its __init__ keeping sp -/
structure MkE (P : Program) (w : World) (K : PySem.W.Frag) (mg : Str → Option Value) (base : Heap) (k : Nat) (x : Str) (C : Addr) (ps : List Str) (sp : Sp) : Prop where
  gC : mg x = some (.ref C)
  err : ErrC K C
  ex : ∃ (fI : Addr) (fd : FuncData), PySem.W.findIn K (.ref C) "__init__" = some (some (.ref fI)) ∧ PySem.W.typeIn K (.ref fI) = some (.type "function") ∧ FnOk P w K mg base CX0 k fI fd ps sp ∧ Binds K fd ps []
def tMkE (C : Addr) (sp : Sp) (ta : TA) : TE := fun σ H Q => ta σ H fun vs H1 => vs.length ≤ 1000 ∧ ∀ a, H1 a = none → sp (.ref a :: vs) (upd H1 a (exo a C none)) (fun v H2 => v = .non ∧ Q (.ref a) H2) E0
section
variable {X : Cx} {k k' : Nat} {x : Str} {C : Addr} {ps : List Str} {sp : Sp} {e : Expr} {es : List Expr} {ta : TA} {p pos : Pos}
theorem mke_run (M : MkE X.prog X.w X.K X.mg X.base k x C ps sp) (hr : Room k' X.A) (hk : k + 1 ≤ k') {pins : List (Addr × Obj)} {s1 : Shared} {σ : L2.St} {H1 : Hp} {vs : List V} {us : List Value} {Q : VK} (I1 : Inv X pins σ H1 s1) (r1 : Vals vs us) (hz : vs.length ≤ 1000)
    (q1 : ∀ a, H1 a = none → sp (.ref a :: vs) (upd H1 a (exo a C none)) (fun v H2 => v = .non ∧ Q (.ref a) H2) E0) : wpAny (model X.prog X.w) X.A (call (.ref C) us) (EP X pins σ Q) X.xe s1 := by
  obtain ⟨fI, fd, iC, tI, F1, hb⟩ := M.ex
  have T := M.err.oex
  have hr := hr.mono hk
  obtain ⟨nm, q, N, bs, bm, sn, sub, ab, col, dd, k0, k1, k2, k3, k5, hC, hbm⟩ := T.cls
  obtain ⟨hp, g, dr, tk, os⟩ := s1
  have hsz : hp.objs.size ≤ hp.objs.size + 1 := Nat.le_succ _
  have hn : H1 (hp.objs.size + 1) = none := I1.hok.fresh hsz
  have hq := q1 (hp.objs.size + 1) hn
  have kk : ∀ b o, hp.get? b = some o → ((hp.push (PySem.W.kdv_tup us)).push (PySem.HandSPX.excO C hp.objs.size)).get? b = some o := fun b o e => Heap.get?_push_of_some _ (Heap.get?_push_of_some _ e)
  have hget : ((hp.push (PySem.W.kdv_tup us)).push (PySem.HandSPX.excO C hp.objs.size)).get? (hp.objs.size + 1) = some (PySem.HandSPX.excO C hp.objs.size) := by heap_get
  have I2 : Inv X pins σ (upd H1 (hp.objs.size + 1) (exo (hp.objs.size + 1) C none)) ⟨(hp.push (PySem.W.kdv_tup us)).push (PySem.HandSPX.excO C hp.objs.size), g, dr, tk, os⟩ :=
    I1.laid (t' := tk) (a := hp.objs.size + 1) (o := exo (hp.objs.size + 1) C none) (h' := (hp.push (PySem.W.kdv_tup us)).push (PySem.HandSPX.excO C hp.objs.size)) kk hsz (exo_ok hget)
  have r2 : Vals (V.ref (hp.objs.size + 1) :: vs) (Value.ref (hp.objs.size + 1) :: us) := .cons rfl r1
  have hl : (Value.ref (hp.objs.size + 1) :: us).length = ps.length := by
    have e := r2.length
    rw [F1.len _ _ _ _ hq] at e
    exact e.symm
  have hus : us.length ≤ sizeLine := by
    rw [← Paired.length r1, sizeLine_eq]
    omega
  have hbb := hb _ (Value.ref (hp.objs.size + 1) :: us) I2.kIn (by rw [List.append_nil]; exact hl)
  rw [List.append_nil] at hbb
  refine wpAny_call (PySem.HandSPX.call_own F.excBase_ValueError (fun Y => PySem.HandSPX.refsVE_contains Y bm hbm) (I1.kIn _ _ hC) (PySem.W.looks_findIn I1.kIn iC) (fun self => PySem.W.bind_fn I1.kIn self tI) hus
    (codeAny_mono (F1.run _ X.stack _ _ ⟨Value.ref (hp.objs.size + 1) :: us, []⟩ (Value.ref (hp.objs.size + 1) :: us) _ _ E0 (hr.make C us []) (I2.env0.make C us []) hbb r2 hq) fun r s' hq' => ?_))
  cases r with
  | error er => exact pass0 pins σ _ _ er s' I2 hq'
  | ok fl =>
    cases fl with
    | ret u =>
      obtain ⟨v, H2, os2, bare2, un2, hok2, rv, ev, q2⟩ := hq'
      subst ev
      obtain ⟨h2, g2, d2, t2, os'⟩ := s'
      obtain rfl : os' = os := os2
      exact ⟨rv, .ref (hp.objs.size + 1), H2, I2.call (h' := h2) (g' := g2) (d' := d2) (t' := t2) (ch := []) un2 hok2 bare2 (fun b z => absurd z (by simp)), rfl, q2⟩
    | next => exact False.elim hq'
    | brk => exact False.elim hq'
    | cont => exact False.elim hq'
theorem pe_mke (M : MkE X.prog X.w X.K X.mg X.base k x C ps sp) (hr : Room k' X.A) (ha : PA X (e :: es) ta) (hk : k + 1 ≤ k' := by first | decide | omega) (hg : Gl X x := by rfl)
    (hdb : (x == ("__debug__" : Str)) = false := by decide) (he : starEach (e :: es) X.env = (false, eval e X.env) :: starEach es X.env := by rfl) (hpl : (backTo pos (starEach es X.env)).any (·.1) = false := by rfl) :
    PE X (.Call (.Name x p) (e :: es) [] pos) (tMkE C sp ta) := by
  refine ⟨fun pins s σ H Q I h => ?_⟩
  refine wpAny_Call_Name_kw (ld_glob I hg M.gC ?_ hdb)
  exact PySem.W.callWith_K (h₀ := X.base) I.ok.mod.kin M.err.oex.kC (thn (ha.run pos pins s σ H _ I h) fun us s1 ⟨vs, H1, I1, r1, hz, q1⟩ => ⟨I1.kIn, mke_run M hr hk I1 r1 hz q1⟩) he hpl
theorem pe_mke0 (M : MkE X.prog X.w X.K X.mg X.base k x C ps sp) (hr : Room k' X.A) (hk : k + 1 ≤ k' := by first | decide | omega) (hg : Gl X x := by rfl)
    (hdb : (x == ("__debug__" : Str)) = false := by decide) : PE X (.Call (.Name x p) [] [] pos) (tMkE C sp tNil) := by
  refine ⟨fun pins s σ H Q I h => ?_⟩
  refine wpAny_Call_Name_kw (ld_glob I hg M.gC ?_ hdb)
  exact PySem.W.callWith_K0 I.kIn M.err.oex.kC (mke_run M hr hk I .nil h.1 h.2)
end
end Zq
namespace Zq
open PySem PySem.Spec PyProof.Rows L2
/-! ### error classes, by one look at what is written -/
/-- the class at C: LogError itself (at L), or one that derives from it -/
def oexB (K : PySem.W.Frag) (L C : Addr) : Bool := match K.lookup C with
  | some ⟨.type "type", _, .cls cd, sl⟩ => (match cd.mro, sl.toList with
    | .ref C' :: bm, [_, _, _, _, some (.builtin n), _] => C' == C && (n == "ValueError.__new__" && (cd.hasDict && (!cd.hasDel && (bm == if C = L then PySem.HandSPX.veTail else .ref L :: PySem.HandSPX.veTail))))
    | _, _ => false)
  | _ => false
theorem oexB_ok {K : PySem.W.Frag} {L C : Addr} (h : oexB K L C = true) : ∃ nm q N bs bm sn sub ab col dd k0 k1 k2 k3 k5,
    K.lookup C = some (excClassObj nm q C N bs bm true sn sub ab col dd k0 k1 k2 k3 k5 "ValueError.__new__") ∧ bm = if C = L then PySem.HandSPX.veTail else .ref L :: PySem.HandSPX.veTail := by
  unfold oexB at h
  split at h
  · rename_i dd cd sl e
    split at h
    · rename_i C' bm k0 k1 k2 k3 n k5 em es
      obtain ⟨h1, h⟩ := Bool.and_eq_true_iff.mp h
      obtain ⟨h2, h⟩ := Bool.and_eq_true_iff.mp h
      obtain ⟨h3, h⟩ := Bool.and_eq_true_iff.mp h
      obtain ⟨h4, h5⟩ := Bool.and_eq_true_iff.mp h
      have h1 := eq_of_beq h1
      have h2 := eq_of_beq h2
      have h5 := eq_of_beq h5
      obtain ⟨nm, bs, mro, ns, qn, hd, sn, sub, ab, col, dl⟩ := cd
      obtain ⟨l⟩ := sl
      dsimp only at em es h3 h4
      subst h1 h2 em es h3
      have h4 : dl = false := by cases dl <;> first | rfl | cases h4
      subst h4
      exact ⟨nm, qn, ns, bs, bm, sn, sub, ab, col, dd, k0, k1, k2, k3, k5, e, h5⟩
    · cases h
  · cases h
/-- all that is asked of one class -/
def errB (K : PySem.W.Frag) (L C : Addr) : Bool := oexB K L C && (decide (PySem.W.findIn K (.ref C) "__setattr__" = some (some (.builtin "object.__setattr__"))) && (decide (PySem.W.typeIn K (.ref C) = some (.type "type")) && (PySem.W.keepIn K (.ref C) &&
  (decide (PySem.W.findIn K (.ref C) "__getattribute__" = some (some (.builtin "BaseException.__getattribute__"))) && (decide (PySem.W.findIn K (.ref C) "__getattr__" = some none) && decide (PySem.W.findIn K (.ref C) "__class__" = some (some (.builtin "object.__class__"))))))))
/-- what it says of the built-in things -/
def bltB (K : PySem.W.Frag) : Bool := decide (PySem.W.specialIn K (.builtin "object.__class__") "__get__" = some (some (.builtin "getset_descriptor.__get__"))) && decide (PySem.W.takesIn K (.builtin "object.__class__") = some true)
theorem errB_ok {K : PySem.W.Frag} {L C : Addr} (h : errB K L C = true) (b : bltB K = true) : ErrC K C ∧ ∃ cd, PySem.W.clsIn K C = some cd ∧ cd.mro = .ref C :: if C = L then PySem.HandSPX.veTail else .ref L :: PySem.HandSPX.veTail := by
  obtain ⟨h1, h⟩ := Bool.and_eq_true_iff.mp h
  obtain ⟨h2, h⟩ := Bool.and_eq_true_iff.mp h
  obtain ⟨h3, h⟩ := Bool.and_eq_true_iff.mp h
  obtain ⟨h4, h⟩ := Bool.and_eq_true_iff.mp h
  obtain ⟨h5, h⟩ := Bool.and_eq_true_iff.mp h
  obtain ⟨h6, h7⟩ := Bool.and_eq_true_iff.mp h
  obtain ⟨b1, b2⟩ := Bool.and_eq_true_iff.mp b
  obtain ⟨nm, q, N, bs, bm, sn, sub, ab, col, dd, k0, k1, k2, k3, k5, e, hb⟩ := oexB_ok h1
  have hc : PySem.W.clsIn K C = some { name := nm, bases := bs, mro := .ref C :: bm, ns := N, qualname := q, hasDict := true, slotNames := sn, subclasses := sub, abstract := ab, collection := col, hasDel := false } := by
    unfold PySem.W.clsIn
    rw [e]
  have hr : PySem.HandSPX.refsVE bm = true := by
    rw [hb]
    split <;> (show PySem.HandSPX.refsVE PySem.HandSPX.veTail = true; decide +kernel)
  have mro : ∀ T : String, PySem.HandSPX.veTail.contains (.type T) = true → PySem.W.mroIn K C (.type T) = some true := fun T hT => by
    unfold PySem.W.mroIn
    rw [hc, Option.bind_some]
    show some ((Value.ref C :: bm).contains (.type T)) = some true
    rw [PySem.HandSPX.refsVE_contains T (.ref C :: bm) hr, hT]
  have sub : PySem.W.subIn K (.ref C) (.type "BaseException") = some true := mro "BaseException" (by decide +kernel)
  exact ⟨⟨⟨⟨nm, q, N, bs, bm, sn, _, ab, col, dd, k0, k1, k2, k3, k5, e, hr⟩, of_decide_eq_true h2, sub, of_decide_eq_true h3, h4⟩,
    ⟨of_decide_eq_true h5, of_decide_eq_true h6, sub, by unfold PySem.W.hasDictIn; rw [hc]; rfl, of_decide_eq_true h7, of_decide_eq_true b1, of_decide_eq_true b2, mro "object" (by decide +kernel)⟩⟩, _, hc, by rw [hb]⟩
/-- isinstance of one class's error, another class asked -/
theorem kit_err {K : PySem.W.Frag} {L C D : Addr} (hC : errB K L C = true) (hD : errB K L D = true) (b : bltB K = true) : PySem.W.kitOne K (.ref C) (.ref D) = some (decide (C = D ∨ D = L)) := by
  obtain ⟨⟨oC, eC⟩, cd, hc, hm⟩ := errB_ok hC b
  obtain ⟨⟨oD, eD⟩, cd2, hc2, hm2⟩ := errB_ok hD b
  unfold PySem.W.kitOne PySem.W.kitCls
  by_cases h : C = D
  · subst h
    rw [if_pos (by exact beq_self_eq_true _), decide_eq_true (.inl rfl)]
  · rw [if_neg (fun z => h (Value.ref.inj (eq_of_beq z)))]
    dsimp only
    rw [if_pos (by rw [hc2, oD.tyC]; rfl)]
    show PySem.W.mroIn K C (.ref D) = _
    unfold PySem.W.mroIn
    rw [hc, Option.bind_some, hm, if_neg (by simp)]
    have hx : (Value.ref C :: if C = L then PySem.HandSPX.veTail else .ref L :: PySem.HandSPX.veTail).contains (.ref D) = decide (C = D ∨ D = L) := by
      rw [Bool.eq_iff_iff, List.contains_iff_mem, decide_eq_true_iff]
      by_cases hl : C = L
      · rw [if_pos hl]
        simp [PySem.HandSPX.veTail, h]
        constructor
        · intro z; exact absurd z.symm h
        · intro z; exact absurd (hl.trans z.symm) h
      · rw [if_neg hl]
        simp [PySem.HandSPX.veTail, h]
        intro z
        exact absurd z.symm h
    rw [hx]
theorem kit_errV {K : PySem.W.Frag} {L C : Addr} (hC : errB K L C = true) (b : bltB K = true) : PySem.W.kitOne K (.ref C) (.type "ValueError") = some true := by
  obtain ⟨_, cd, hc, hm⟩ := errB_ok hC b
  unfold PySem.W.kitOne PySem.W.kitCls
  rw [if_neg (by intro z; exact nomatch eq_of_beq z)]
  dsimp only
  rw [if_pos (by decide +kernel)]
  show PySem.W.mroIn K C (.type "ValueError") = _
  unfold PySem.W.mroIn
  rw [hc, Option.bind_some, hm, if_neg (by simp)]
  have hx : (Value.ref C :: if C = L then PySem.HandSPX.veTail else .ref L :: PySem.HandSPX.veTail).contains (.type "ValueError") = true := by
    rw [List.contains_iff_mem]
    split <;> simp [PySem.HandSPX.veTail]
  rw [hx]
/-- the built-in names that no def of ours hides -/
def bltNames : List Str := ["abs", "int", "len", "range", "zip", "all", "any", "isinstance", "tuple", "list", "str", "bool", "dict", "enumerate", "sorted", "set", "max", "min", "sum", "ValueError"]
def txtB (K : PySem.W.Frag) : Bool := bltNames.all fun x => decide (PySem.W.nsIn K mainGlobals x = some none)
theorem txt_of {K : PySem.W.Frag} {h : Heap} {mg : Str → Option Value} (X : K.In h) (G : h.Ns mainGlobals mg) (t : txtB K = true) : Txt mg := by
  have one : ∀ x ∈ bltNames, mg x = none := fun x hx => PySem.W.mg_none_of X G (of_decide_eq_true (List.all_eq_true.mp t x hx))
  exact ⟨one _ (by simp [bltNames]), one _ (by simp [bltNames]), one _ (by simp [bltNames]), one _ (by simp [bltNames]), one _ (by simp [bltNames]), one _ (by simp [bltNames]), one _ (by simp [bltNames]), one _ (by simp [bltNames]), one _ (by simp [bltNames]), one _ (by simp [bltNames]),
    one _ (by simp [bltNames]), one _ (by simp [bltNames]), one _ (by simp [bltNames]), one _ (by simp [bltNames]), one _ (by simp [bltNames]), one _ (by simp [bltNames]), one _ (by simp [bltNames]), one _ (by simp [bltNames]), one _ (by simp [bltNames]), one _ (by simp [bltNames])⟩
end Zq
namespace Zq
open PySem PySem.Spec PyProof.Rows L2
/-! ### enumerate(a tuple) -/
section
variable {prog : Program} {w : World} {A : Around} {E : Value → Shared → Prop} {s : Shared}
theorem meets_enT (l : Addr) (items : Array Value) (n : Nat) (dct : Option Addr) (sl : Array (Option Value)) :
    Meets (Builtin.«enumerate.__new__» ⟨[.type "enumerate", .ref l], []⟩) (fun _ R s => s.heap.get? l = some { cls := .type "tuple", dict := dct, data := .seq items n, slots := sl } ∧
      R (.ok (.ret (.ref (s.heap.push { cls := .type "tuple_iterator", data := .fields #[.ref l, .int 0 0] }).objs.size)))
        { s with heap := (s.heap.push { cls := .type "tuple_iterator", data := .fields #[.ref l, .int 0 0] }).push { cls := .type "enumerate", data := .fields #[.none, .bool false, .ref s.heap.objs.size, rawInt 0, .none, .none] } }) :=
  .of_wp fun prog w A R st hyp => by
    obtain ⟨hp, g, d, tk, os⟩ := st; obtain ⟨hl, hyp⟩ := hyp
    have hsub := sub_enumerate
    have hL : Heap.IsTuple (Shared.heap ⟨hp, g, d, tk, os⟩) l items := ⟨_, hl, rfl, n, rfl⟩
    wp_walk using AutoSeq1.wpAny_loadPart' hl
    refine wpAny_stack_any fun zs => wpAny_pure ?_
    split
    · rename_i c _ _ _ _ _
      cases (c == Value.type "enumerate")
      · wp_walk using AutoSeq1.wpAny_loadPart' hl, wpAny_pyIter_tuple hL
        exact ⟨_, rfl, hyp⟩
      · wp_walk using AutoSeq1.wpAny_loadPart' hl, wpAny_pyIter_tuple hL
        exact ⟨_, rfl, hyp⟩
    · wp_walk using AutoSeq1.wpAny_loadPart' hl, wpAny_pyIter_tuple hL
      exact ⟨_, rfl, hyp⟩
theorem call_enT {l : Addr} {items : Array Value} {Q : Value → Shared → Prop} (hL : s.heap.IsTuple l items)
    (h : ∀ h', IsEnum h' (s.heap.objs.size + 1) s.heap.objs.size 0 .none → h'.IsTupleIter s.heap.objs.size l 0 → h'.objs.size = s.heap.objs.size + 2 →
      (∀ b o, s.heap.get? b = some o → h'.get? b = some o) → Q (.ref (s.heap.objs.size + 1)) { s with heap := h' }) :
    wpAny (model prog w) A (call (.type "enumerate") [.ref l]) Q E s := by
  obtain ⟨⟨c, dct, dt, sl⟩, hl, hc, n, hd⟩ := hL
  have hc : c = .type "tuple" := hc
  have hd : dt = .seq items n := hd
  subst hc hd
  refine callType_new F.called_enumerate (by decide) (F.typeCall_enumerate_1 _) (F.newCall_enumerate_1 _) (fun obj => F.args_object_init_2 obj _) F.entry_enumerate_new
    (meets_enT l items n dct sl) ⟨hl, ?_⟩
  have hz : (s.heap.push { cls := .type "tuple_iterator", data := .fields #[.ref l, .int 0 0] }).objs.size = s.heap.objs.size + 1 := Heap.size_push ..
  show _ ∧ _
  rw [hz]
  have he : IsEnum ((s.heap.push { cls := .type "tuple_iterator", data := .fields #[.ref l, .int 0 0] }).push
      { cls := .type "enumerate", data := .fields #[.none, .bool false, .ref s.heap.objs.size, rawInt 0, .none, .none] }) (s.heap.objs.size + 1) s.heap.objs.size 0 .none := by
    have := Heap.get?_push_size (s.heap.push { cls := .type "tuple_iterator", data := .fields #[.ref l, .int 0 0] })
      (o := { cls := .type "enumerate", data := .fields #[.none, .bool false, .ref s.heap.objs.size, rawInt 0, .none, .none] }) rfl
    rw [hz] at this; exact this
  exact ⟨⟨_, he, rfl⟩, h _ he ⟨_, Heap.get?_push_of_some _ (Heap.get?_push_size _ rfl), rfl, rfl⟩ (by rw [Heap.size_push, hz]) fun b o x => Heap.get?_push_of_some _ (Heap.get?_push_of_some _ x)⟩
/-- a tuple's iterator, drawn -/
theorem drawsT {it t : Addr} {items : Array Value} (hne : t ≠ it) (hh : A.handled = none) : Draws prog w A it [it, t] items.size (fun i x => items[i]? = some x) (fun i h => h.IsTupleIter it t i ∧ h.IsTuple t items) where
  live := fun i h st => by
    obtain ⟨⟨o, e, _⟩, _⟩ := st
    exact ⟨o, e⟩
  frame := fun i h h' st k => by
    obtain ⟨⟨o, e, r⟩, ⟨o2, e2, r2⟩⟩ := st
    exact ⟨⟨o, k it (by simp) o e, r⟩, ⟨o2, k t (by simp) o2 e2, r2⟩⟩
  item := fun i s Q E hi st hQ => by
    refine RZ.nextOf_tuple_item st.1 st.2 (x := items[i]) (by simp [hi]) fun h' a b => ?_
    exact hQ _ h' s.toks (by simp [hi]) ⟨a, st.2.extBut b.extBut hne⟩ b
  done := fun s Q E st hE => RZ.nextOf_tuple_end hh st.1 st.2 (by simp) hE
end
/-- the tuple at a, each item in a new pair -/
def IteT (K : PySem.W.Frag) (a : Addr) : It :=
  ⟨fun i H => ∃ (xs : List V) (x : V), SqT K H a xs ∧ xs[i]? = some x, fun i H v H' => ∃ T x, v = .ref T ∧ H T = none ∧ H' = upd H T (.tup [.int (i : Nat), x]) ∧ ∀ xs, SqT K H a xs → xs[i]? = some x, fun i H => ∃ xs : List V, SqT K H a xs ∧ xs.length ≤ i⟩
theorem turn_enT {P : Program} {w : World} {K : PySem.W.Frag} {elts : List Expr} {kk : Nat} {tpos : Pos} (a e it : Addr) :
    Turn P w K (.Tuple elts kk tpos) (IteT K a) [e, it] e (fun i h => (∃ old, IsEnum h e it ((i : Nat) : Int) old) ∧ h.IsTupleIter it a i ∧ e ≠ it) where
  mem := by simp
  obj := fun i h st b hb => by
    obtain ⟨⟨old, he⟩, ⟨o, ho, hc, hd⟩, _⟩ := st
    rcases (show b = e ∨ b = it by simpa using hb) with z | z
    · rw [z]; exact ⟨_, he, fun v q => nomatch q⟩
    · rw [z]; exact ⟨o, ho, fun v q => by rw [hd] at q; cases q⟩
  keep := fun i h h' st k => let ⟨⟨old, he⟩, hi, hne⟩ := st; ⟨⟨old, k e (by simp) _ he⟩, hi.at fun o q => k it (by simp) o q, hne⟩
  item := by
    intro X hP hw hK hc i pins s σ H E I hf st hg
    subst hP hw hK
    obtain ⟨⟨old, he⟩, hit, hne⟩ := st
    obtain ⟨xs, x, hq, hx⟩ := hg
    obtain ⟨its, rv, p, hz⟩ := I.tuple hq
    obtain ⟨u, hu, ru⟩ := rv.get hx
    have hel : e < s.heap.objs.size := Heap.lt_size he
    have hil : it < s.heap.objs.size := by obtain ⟨_, q, _⟩ := hit; exact Heap.lt_size q
    have hta : s.heap.IsTuple a its.toArray := p
    have nai : a ≠ it := fun z => by
      obtain ⟨o, e1, c1, _⟩ := hta
      obtain ⟨o2, e2, c2, _⟩ := hit
      rw [z, e2] at e1
      cases e1
      rw [c1] at c2
      exact absurd c2 (by decide +kernel)
    have nae : a ≠ e := fun z => by
      obtain ⟨o, e1, c1, _⟩ := hta
      have he2 : s.heap.get? e = _ := he
      rw [z, he2] at e1
      cases e1
      exact absurd c1 (by show Value.type "enumerate" ≠ .type "tuple"; decide +kernel)
    have hi : i < its.toArray.size := by
      have := (List.getElem?_eq_some_iff.mp hu).1
      simpa using this
    refine wpAny_pyNext_enum_itemD (drawsT (items := its.toArray) nai (I.ok.hd hc)) he ⟨hit, hta⟩ hi hne (by simp; exact ⟨hne, Ne.symm nae⟩) fun y h' tk hy ho hst hT hsz hk => ?_
    obtain rfl : u = y := by
      have : its[i]? = some y := by simpa using hy
      rw [hu] at this
      exact Option.some.inj this
    refine ⟨_, rfl, wpAny_letOwnedTupleGo_enum (s := { s with heap := h', toks := tk + 1 }) ho fun h'' he' sb => ?_⟩
    have hT2 : h''.get? s.heap.objs.size = some { cls := .type "tuple", data := .seq #[.int i tk, u] } := (sb.2 _ (Nat.ne_of_gt hel)).trans hT
    have new : ObjOk X.prog X.w (upd H s.heap.objs.size (.tup [.int (i : Nat), x])) h'' s.heap.objs.size (.tup [.int (i : Nat), x]) :=
      ⟨by show 2 ≤ sizeLine; decide, [.int i tk, u], .cons ⟨_, rfl⟩ (.cons ru .nil), ⟨_, hT2, rfl, _, rfl⟩⟩
    have I1 : Inv X pins σ (upd H s.heap.objs.size (.tup [.int (i : Nat), x])) { s with heap := h'', toks := tk + 1 } :=
      I.turnedNew (ch := [e, it]) (fun b ob hb q => (sb.2 b (fun z => hb (by simp [z]))).trans (hk b ob (fun z => hb (by simp [z])) (fun z => hb (by simp [z])) q)) hf (Nat.le_refl _) new
    refine ⟨.ref s.heap.objs.size, _, I1, rfl, ⟨_, x, rfl, I.hok.fresh (Nat.le_refl _), rfl, fun ys hy => by rw [I.tuple_inj hy hq]; exact hx⟩, ⟨⟨u, ?_⟩, hst.1.at fun o q => (sb.2 it (Ne.symm hne)).trans q, hne⟩, fun b hb => ?_⟩
    · have e1 : ((i + 1 : Nat) : Int) = (i : Int) + 1 := by omega
      rw [e1]; exact he'
    · have hb' : b < s.heap.objs.size := by
        rcases (show b = e ∨ b = it by simpa using hb) with z | z
        · rw [z]; exact hel
        · rw [z]; exact hil
      rw [upd_ne (Nat.ne_of_lt hb')]
      exact (hf b hb).1
  done := by
    intro X hP hw hK hc i pins s σ H E I hf st hg
    subst hP hw hK
    obtain ⟨⟨old, he⟩, hit, hne⟩ := st
    obtain ⟨xs, hq, hx⟩ := hg
    obtain ⟨its, rv, p, hz⟩ := I.tuple hq
    obtain ⟨f0, f1, f2, f3, f4, f5⟩ := hf it (by simp)
    have hl := rv.length
    have hta : s.heap.IsTuple a its.toArray := p
    have hT : s.TypeIs (.ref e) "enumerate" := ⟨_, he, rfl⟩
    unfold pyNext
    refine wpAny_bind (wpAny_attempt (wpAny_callSpecial?_slot (name := Str.ofString "__next__") hT F.slot_enumerate_next (wpAny_call_entry F.slot_enumerate_next hT F.entry_enumerate_next ?_ (F.args_enumerate_next_1 _))))
    show wpAny _ _ (field (.ref e) 2 >>= _) _ _ _
    refine wpAny_bind (wpAny_field he rfl (x := .ref it) rfl ?_)
    refine wpAny_bind (RZ.nextOf_tuple_end (I.ok.hd hc) hit hta (by simp; omega) fun h' x eb ⟨o, ho, hco⟩ => ?_)
    refine wpAny_bind (wpAny_isInstance (T := "StopIteration") (b := true) ⟨o, ho, hco⟩ isSubtype_stop ?_)
    exact wpAny_pure ⟨rfl, I.turned (t' := s.toks) (fun b o hb q => eb b o hb q) f0 f1 f3 f4 f5⟩
  self := fun A i s Q E st h => let ⟨⟨_, he⟩, _⟩ := st; wpAny_pyIter_enum he h
def iEnT (K : PySem.W.Frag) (ta : TA) : TI := fun σ H R => ta σ H fun vs H1 => ∃ a xs, vs = [.ref a] ∧ SqT K H1 a xs ∧ R (IteT K a) H1
theorem pi_enT {X : Cx} {e : Expr} {ta : TA} {p pos tpos : Pos} {elts : List Expr} {kk : Nat} (hg : Gl X "enumerate") (hm : X.mg "enumerate" = none) (ha : PA X [e] ta) (hs : starEach [e] X.env = [(false, eval e X.env)] := by rfl) :
    PI X (.Tuple elts kk tpos) (.Call (.Name "enumerate" p) [e] [] pos) (iEnT X.K ta) := by
  refine ⟨fun pins s σ H R I h => ?_⟩
  refine Call_ (ld_blt I hg hm boot_enumerate (PyProof.Rows.callWith_type1 (thn (ha.run pos pins s σ H _ I h) fun us s1 ⟨vs, H1, I1, r1, q1⟩ => ?_) hs rfl))
  obtain ⟨a, xs, ex, hq, q⟩ := q1
  subst ex
  cases r1 with
  | cons r rr =>
    cases rr
    cases r
    obtain ⟨its, rv, p', hz⟩ := I1.tuple hq
    refine call_enT (show s1.heap.IsTuple a its.toArray from p') fun h' he hit hsz hk => wpAny_pyIter_enum he ?_
    have I2 : Inv X pins σ H1 { s1 with heap := h' } := I1.kept (t' := s1.toks) hk
    refine ⟨s1.heap.objs.size + 1, [s1.heap.objs.size + 1, s1.heap.objs.size], _, _, H1, rfl, I2, turn_enT a (s1.heap.objs.size + 1) s1.heap.objs.size, ⟨⟨.none, he⟩, hit, Nat.succ_ne_self _⟩, fun b hb => ?_, q⟩
    have hle : s1.heap.objs.size ≤ b := by
      rcases (show b = s1.heap.objs.size + 1 ∨ b = s1.heap.objs.size by simpa using hb) with z | z
      · rw [z]; exact Nat.le_add_right _ _
      · rw [z]; exact Nat.le_refl _
    exact I1.fpOk hle (I1.hok.fresh hle)
theorem walk_enT {K : PySem.W.Frag} {a : Addr} {xs : List V} : Walk (IteT K a) xs.length (fun H => SqT K H a xs) (YPair (fun i => some (.int (i : Nat))) (fun i => xs[i]?)) := by
  refine ⟨fun i _ hi q => ⟨xs, xs[i], q, by simp [hi]⟩, fun _ q => ⟨xs, q, Nat.le_refl _⟩, fun i H v H' _ q y => ?_⟩
  obtain ⟨T, x, h1, h2, h3, h4⟩ := y
  exact ⟨T, .int (i : Nat), x, h1, h2, h3, rfl, h4 xs q⟩
end Zq
namespace Zq
open PySem PySem.Spec PyProof.Rows L2 RZ
/-! ### a thing is like itself -/
mutual
theorem isv_refl : ∀ d : PyData, d.canLay0 = true → isv d d = true
  | .tuple ds, h => by
    rw [PyData.canLay0] at h
    rw [isv]
    exact isvAll_refl ds h
  | .list ds, h => by
    rw [PyData.canLay0] at h
    rw [isv]
    exact isvAll_refl ds h
  | .none, h => by rw [isv_leaf rfl, PySem.SeqAt.eqv_refl _ h]; rfl
  | .bool b, h => by rw [isv_leaf rfl, PySem.SeqAt.eqv_refl _ h]; rfl
  | .int i, h => by rw [isv_leaf rfl, PySem.SeqAt.eqv_refl _ h]; rfl
  | .str x, h => by rw [isv_leaf rfl, PySem.SeqAt.eqv_refl _ h]; rfl
  | .dict kvs, h => by
    rw [PyData.canLay0] at h
    cases h
theorem isvAll_refl : ∀ ds : List PyData, PyData.canLayAll0 ds = true → isvAll ds ds = true
  | [], _ => rfl
  | d :: ds, h => by
    rw [PyData.canLayAll0, Bool.and_eq_true] at h
    rw [isvAll, isv_refl d h.1, isvAll_refl ds h.2]
    rfl
end
section
variable {P : Program} {w : World} {K : PySem.W.Frag} {mg : Str → Option Value} {base : Heap}
theorem fn_or {k : Nat} {f : Addr} {fd : FuncData} {ps : List Str} {sp sp' : Sp} {CX : CXT} (F : FnOk P w K mg base CX k f fd ps sp) (G : FnOk P w K mg base CX k f fd ps sp') : FnOk P w K mg base CX k f fd ps (fun vs H Q E => sp vs H Q E ∨ sp' vs H Q E) :=
  ⟨fun vs H Q E h => h.elim (F.len vs H Q E) (G.len vs H Q E), fun A outer s H args us vs Q E hr he hb hv h => h.elim (F.run A outer s H args us vs Q E hr he hb hv) (G.run A outer s H args us vs Q E hr he hb hv)⟩
/-- one and the same dict -/
def spDS : Sp := fun vs H Q _ => ∃ (p : Addr) (kvs : List (Key × V)), vs = [.ref p, .ref p] ∧ H p = some (.dK kvs) ∧ (∀ kv ∈ kvs, valV kvs kv.1 = some kv.2 ∧ flatB kv.2 = true) ∧ ∀ H', Same H H' → Q (.bl true) H'
abbrev sIsd : Stmt := topS 31
abbrev NscIsd : List Str := ["_law_told", "_law_due", "_law_one", "_law_two"]
theorem scIsd : FnScope ["_law_told", "_law_due", "_law_one", "_law_two"] ["_law_told", "_law_due"] (defScope sIsd) := ⟨rfl, rfl, rfl, by decide +kernel, rfl, by decide +kernel, by decide +kernel⟩
theorem kitD_seq : PySem.W.kitAny K (.type "dict") [.type "tuple", .type "list"] = some false :=
  kitAny_cons (b := false) (kit_ty (by decide +kernel)) (fun _ => kitAny_cons (b := false) (kit_ty (by decide +kernel)) (fun _ => kitAny_nil) (fun z => nomatch z)) (fun z => nomatch z)
theorem ok_isd {n : Nat} {f : Addr} {fd : FuncData} (F : Fun K "_law_is" "_law_is" sIsd f fd) (T : Txt mg) (C__law_is : Own P w K mg base CX0 n "_law_is" ["_law_told", "_law_due"] (spIs K n)) :
    FnOk P w K mg base CX0 (n + 1) f fd ["_law_told", "_law_due"] spDS := by
  refine F.ok scIsd (fun vs H Q E h => ?_) (fun cdv A outer s H vs Q E hr h => ?_)
  · obtain ⟨p, kvs, rfl, _⟩ := h
    rfl
  · obtain ⟨p, kvs, rfl, hp, hv, q⟩ := h
    refine ⟨_, (pss_cons (ps_if (pt_val (pe_callB call_isiT (by rfl) T.nisinstance (by decide +kernel) (pa_cons (pv 1) (pa_cons (pe_tup (pa_cons (pe_bltn (v := .ty "tuple") (by rfl) T.ntuple (by decide +kernel) rfl) (pa_cons (pe_bltn (v := .ty "list") (by rfl) T.nlist (by decide +kernel) rfl) pa_nil))) pa_nil)))) (pss_cons (ps_if (PW.pt (pw_or (pt_cmpR op_ne (pe_callB call_isi (by rfl) T.nisinstance (by decide +kernel) (pa_cons (pv 0) (pa_cons (pe_bltn (v := .ty "tuple") (by rfl) T.ntuple (by decide +kernel) rfl) pa_nil))) (pe_callB call_isi (by rfl) T.nisinstance (by decide +kernel) (pa_cons (pv 1) (pa_cons (pe_bltn (v := .ty "tuple") (by rfl) T.ntuple (by decide +kernel) rfl) pa_nil))) (nomark _)) (pw_or1 (pt_not (pt_val (pe_callB call_isiT (by rfl) T.nisinstance (by decide +kernel) (pa_cons (pv 0) (pa_cons (pe_tup (pa_cons (pe_bltn (v := .ty "tuple") (by rfl) T.ntuple (by decide +kernel) rfl) (pa_cons (pe_bltn (v := .ty "list") (by rfl) T.nlist (by decide +kernel) rfl) pa_nil))) pa_nil)))))))) (pss_one (ps_ret pe_bl)) pss_nil)
        (pss_one (ps_ret (pe_and (pe_cmpR op_eq (pe_callB call_len_seq (by rfl) T.nlen (by decide +kernel) (pa_cons (pv 0) pa_nil)) (pe_callB call_len_seq (by rfl) T.nlen (by decide +kernel) (pa_cons (pv 1) pa_nil)) (nomark _)) (pe_one (pe_callB (cr_all rfl) (by rfl) T.nall (by decide +kernel) (pa_cons (pe_lc (g := gTup K 2 (gCons (gName 2) (gCons (gName 3) gNil))) (own := [("_law_one", 2), ("_law_two", 3)]) (by rfl) scIsd.nd (pi_zipA (by rfl) T.nzip (pa_cons (pv 0) (pa_cons (pv 1) pa_nil))) (blkOk_by (own := [("_law_one", 2), ("_law_two", 3)]) (N := NscIsd) (sc := defScope sIsd) (by decide +kernel)) (fun _ _ _ _ _ => (by exact (pg_tup rfl (pgs_cons (pg_name (i := 2) scIsd.nd rfl (Or.inl rfl)) (pgs_cons (pg_name (i := 3) scIsd.nd rfl (Or.inl rfl)) pgs_nil))))) (fun _ _ _ _ _ => pts_nil) (fun _ _ _ _ _ => (pe_own C__law_is hr (pa_cons (pv 2) (pa_cons (pv 3) pa_nil))))) pa_nil))))))) pss_nil)
      (pss_one (ps_ret (pe_and (pe_cmpR op_eq (pe_callB call_isi (by rfl) T.nisinstance (by decide +kernel) (pa_cons (pv 0) (pa_cons (pe_bltn (v := .ty "bool") (by rfl) T.nbool (by decide +kernel) rfl) pa_nil))) (pe_callB call_isi (by rfl) T.nisinstance (by decide +kernel) (pa_cons (pv 1) (pa_cons (pe_bltn (v := .ty "bool") (by rfl) T.nbool (by decide +kernel) rfl) pa_nil))) (nomark _)) (pe_one (pe_cmpR (op_eq_dictA (Nat.lt_of_le_of_lt (Nat.le_add_right _ _) hr.units)) (pv 0) (pv 1) (nomark _))))))), ?_⟩
    refine ⟨.ref p, rfl, (by show 2 ≤ sizeLine; decide), fun tp htp => ⟨.ref p, tp, [.ty "tuple", .ty "list"], _, _, _, rfl, upd_same, .cons (.ty _) (.cons (.ty _) .nil), .base (.dK (by rw [upd_ne (ne_of_none hp htp)]; exact hp)), kitD_seq, _, rfl, ?_⟩⟩
    refine ite2 (fun he => nomatch he) (fun he => ?_)
    have hp' : upd H tp (.tup [.ty "tuple", .ty "list"]) p = some (.dK kvs) := by rw [upd_ne (ne_of_none hp htp)]; exact hp
    refine ⟨.ref p, rfl, ⟨.ref p, .ty "bool", _, _, _, rfl, .ty _, .base (.dK hp'), kit_ty (r := false) (by decide +kernel), .ref p, rfl, ⟨.ref p, .ty "bool", _, _, _, rfl, .ty _, .base (.dK hp'), kit_ty (r := false) (by decide +kernel), rfl, _, rfl, ?_⟩⟩⟩
    refine ite2 (fun hb => ?_) (fun hb => absurd (by decide) hb)
    exact ⟨.ref p, rfl, .ref p, rfl, p, p, kvs, kvs, rfl, rfl, hp', hp', rfl, hv, q _ (same_new htp)⟩
/-- the defs' facts by name -/
structure Raw (K : PySem.W.Frag) (mg : Str → Option Value) (x : Str) (ps : List Str) (f : Addr) (fd : FuncData) : Prop where
  hm : mg x = some (.ref f)
  kp : PySem.W.keepIn K (.ref f) = true
  bs : Binds K fd ps []
theorem Raw.own {k : Nat} {x : Str} {ps : List Str} {f : Addr} {fd : FuncData} {sp : Sp} {CX : CXT} (R : Raw K mg x ps f fd) (G : FnOk P w K mg base CX k f fd ps sp) : Own P w K mg base CX k x ps sp :=
  ⟨⟨f, fd, R.hm, R.kp, G, R.bs⟩⟩
theorem own_is {f : Addr} {fd : FuncData} (R : Raw K mg "_law_is" ["_law_told", "_law_due"] f fd) (F : Fun K "_law_is" "_law_is" sIs f fd) (T : Txt mg) : ∀ n, Own P w K mg base CX0 n "_law_is" ["_law_told", "_law_due"] (spIs K n)
  | 0 => R.own ⟨fun _ _ _ _ h => h.elim, fun _ _ _ _ _ _ _ _ _ _ _ _ _ h => h.elim⟩
  | n + 1 => R.own (ok_is n F T (own_is R F T n))
/-- told and due are one and the same odd thing -/
def spIsS (K : PySem.W.Frag) : Sp := fun vs H Q _ => ∃ v : V, vs = [v, v] ∧ Odd K H v ∧ ∀ H', Same H H' → Q (.bl true) H'
theorem own_isS {f : Addr} {fd : FuncData} (R : Raw K mg "_law_is" ["_law_told", "_law_due"] f fd) (F : Fun K "_law_is" "_law_is" sIs f fd) (T : Txt mg) : Own P w K mg base CX0 27 "_law_is" ["_law_told", "_law_due"] (spIsS K) := by
  refine R.own ((fn_or (ok_is 26 F T (own_is R F T 26)) (ok_isd (n := 26) F T (own_is R F T 26))).imp fun vs H Q E h => ?_)
  obtain ⟨v, rfl, o, q⟩ := h
  rcases o with ⟨d, a, b, c, e⟩ | ⟨p, kvs, rfl, g, c⟩
  · have sh : SeqAt.shaped d = true := by
      unfold SeqAt.shaped
      rw [b, decide_eq_true (show d.depth ≤ 64 by omega)]
      rfl
    refine .inl ⟨v, v, d, d, rfl, a, a, sh, sh, c, (by show d.depth ≤ 26; omega), fun H' s => ?_⟩
    rw [isv_refl d b]
    exact q H' s
  · exact .inr ⟨p, kvs, rfl, g, c, q⟩
end
end Zq
namespace Zq
open PySem PySem.Spec PyProof.Rows L2
/-! ### strings of letters, pieces -/
def abc : Str := "abcdefgh"
def letB (c : Nat) : Bool := decide (c ∈ abc.cps.toList)
def logB (z : Str) : Bool := z.cps.toList.all letB
def logV : V → Bool
  | .str z => logB z
  | _ => false
def pieceV : V → Bool
  | .str z => logB z && (decide (1 ≤ z.length) && decide (z.length ≤ 8))
  | _ => false
/-- a thing of which isinstance (.., str) is told -/
def ThI (K : PySem.W.Frag) (H : Hp) (v : V) : Prop := (∃ z, v = .str z ∧ z.length ≤ 50000) ∨ ((∃ t, TyX K H v t ∧ PySem.W.kitOne K t (.type "str") = some false) ∧ ∀ z, v ≠ .str z)
/-- the module's numbers and letters -/
structure Glo (mg : Str → Option Value) : Prop where
  gLETTERS : ∃ u, mg "LETTERS" = some u ∧ RelV (.str abc) u
  gMOST_PIECES : ∃ u, mg "MOST_PIECES" = some u ∧ RelV (.int 12) u
  gLONGEST_PIECE : ∃ u, mg "LONGEST_PIECE" = some u ∧ RelV (.int 8) u
section
variable {K : PySem.W.Frag}
theorem tyX_same {H H' : Hp} {v : V} {t : Value} (s : Same H H') (x : TyX K H v t) : TyX K H' v t := by
  cases x with
  | base b =>
    cases b with
    | non => exact .base .non
    | bl b => exact .base (.bl b)
    | int i => exact .base (.int i)
    | str s => exact .base (.str s)
    | flt b => exact .base (.flt b)
    | lst e => exact .base (.lst (s _ _ e))
    | frz e => exact .base (.frz (s _ _ e))
    | tup e => exact .base (.tup (s _ _ e))
    | dK e => exact .base (.dK (s _ _ e))
    | dT e => exact .base (.dT (s _ _ e))
    | ins e c h1 h2 h3 h4 => exact .base (.ins (s _ _ e) c h1 h2 h3 h4)
  | byt b => exact .byt b
  | set e => exact .set (s _ _ e)
  | kList e c => exact .kList e c
  | kTuple e c => exact .kTuple e c
  | kDict e c => exact .kDict e c
  | fTuple e => exact .fTuple (s _ _ e)
  | fDict e => exact .fDict (s _ _ e)
theorem ThI.same {H H' : Hp} {v : V} (s : Same H H') (x : ThI K H v) : ThI K H' v := by
  rcases x with x | ⟨⟨t, x, k⟩, n⟩
  · exact .inl x
  · exact .inr ⟨⟨t, tyX_same s x, k⟩, n⟩
theorem tyX_tup {H : Hp} {a : Addr} {xs : List V} (h : SqT K H a xs) : TyX K H (.ref a) (.type "tuple") := by
  rcases h with (h | ⟨o, h⟩) | ⟨o, its, n, h, hc, _⟩
  · exact .base (.tup h)
  · exact .fTuple h
  · exact .kTuple h hc
theorem tyX_lst {H : Hp} {a : Addr} {xs : List V} (h : SqL K H a xs) : TyX K H (.ref a) (.type "list") := by
  rcases h with (h | ⟨o, h⟩) | ⟨o, its, n, h, hc, _⟩
  · exact .base (.lst h)
  · exact .base (.frz h)
  · exact .kList h hc
end
/-! ### is_log -/
def spLog (K : PySem.W.Frag) : Sp := fun vs H Q _ => ∃ v : V, vs = [v] ∧ ThI K H v ∧ ∀ H', Same H H' → Q (.bl (logV v)) H'
section
variable {P : Program} {w : World} {K : PySem.W.Frag} {mg : Str → Option Value} {base : Heap}
theorem log_turns {z : Str} {D : Addr} {H0 H : Hp} {i : Nat} (hl : z.length ≤ 50000) (hD : H0 D = none) (x : Same H0 H ∧ H D = some (.lst ((z.cps.toList.take i).map fun c => V.bl (letB c)))) {c : Nat} (hc : z.cps[i]? = some c) :
    ∃ acc, H D = some (.lst acc) ∧ acc.length < sizeLine ∧ Same H0 (upd H D (.lst (acc ++ [.bl (decide (c ∈ abc.cps.toList))]))) ∧ upd H D (.lst (acc ++ [.bl (decide (c ∈ abc.cps.toList))])) D = some (.lst ((z.cps.toList.take (i + 1)).map fun c => V.bl (letB c))) := by
  refine ⟨_, x.2, ?_, fun b o e => ?_, ?_⟩
  · rw [List.length_map, List.length_take]
    exact sz_lt (by have : z.cps.toList.length = z.length := Array.length_toList; omega)
  · rw [upd_ne (ne_of_none e hD)]
    exact x.1 _ _ e
  · rw [upd_same, List.take_add_one, List.map_append]
    have : z.cps.toList[i]? = some c := by rw [Array.getElem?_toList]; exact hc
    rw [this]
    rfl
abbrev sLog : Stmt := topS 12
abbrev NscLog : List Str := ["thing", "sign"]
theorem scLog : FnScope ["thing", "sign"] ["thing"] (defScope sLog) := ⟨rfl, rfl, rfl, by decide +kernel, rfl, by decide +kernel, by decide +kernel⟩
theorem ok_log {f : Addr} {fd : FuncData} (F : Fun K "is_log" "is_log" sLog f fd) (T : Txt mg) (GG : Glo mg) : FnOk P w K mg base CX0 1 f fd ["thing"] (spLog K) := by
  refine F.ok scLog (fun vs H Q E h => ?_) (fun cdv A outer s H vs Q E hr h => ?_)
  · obtain ⟨v, rfl, _⟩ := h
    rfl
  · obtain ⟨v, rfl, ht, q⟩ := h
    refine ⟨_, (pss_one (ps_ret (pe_and (pe_callB call_isi (by rfl) T.nisinstance (by decide +kernel) (pa_cons (pv 0) (pa_cons (pe_bltn (v := .ty "str") (by rfl) T.nstr (by decide +kernel) rfl) pa_nil))) (pe_one (pe_callB (cr_all rfl) (by rfl) T.nall (by decide +kernel) (pa_cons (pe_lc (own := [("sign", 1)]) (by rfl) scLog.nd (pi_str (pv 0)) (blkOk_by (own := [("sign", 1)]) (N := NscLog) (sc := defScope sLog) (by decide +kernel)) (fun _ _ _ _ _ => (pg_name (i := 1) scLog.nd rfl (Or.inl rfl))) (fun _ _ _ _ _ => pts_nil) (fun _ _ _ _ _ => (pe_cmpR op_in_sign (pv 1) (C8.pe_gc rfl GG.gLETTERS) rfl))) pa_nil)))))), ?_⟩
    rcases ht with ⟨z, rfl, hl⟩ | ⟨⟨t, ht, hk⟩, ns⟩
    · refine ⟨.str z, rfl, ⟨.str z, .ty "str", _, _, true, rfl, .ty _, .base (.str z), kit_ty (by decide +kernel), true, rfl, iteT ?_⟩⟩
      refine ⟨.str z, rfl, z, rfl, fun D hD => lc_it walk_str (fun i H' => Same H H' ∧ H' D = some (.lst ((z.cps.toList.take i).map fun c => V.bl (letB c)))) ⟨same_new hD, upd_same⟩ (fun _ _ _ _ => trivial) ?_ ?_⟩
      · rintro i v H1 H2 hi x ⟨rfl, c, hc, rfl⟩
        refine ⟨rfl, ?_⟩
        exact ⟨.str ⟨#[c]⟩, rfl, c, abc, rfl, rfl, log_turns hl hD x hc⟩
      · rintro H1 ⟨s1, hDD⟩
        refine ⟨D, z.cps.toList.map letB, rfl, .inl (.inl ?_), ?_⟩
        · rw [hDD, List.take_of_length_le (by rw [Array.length_toList]; exact Nat.le_refl _), List.map_map]
          rfl
        · have q1 := q H1 s1
          rw [show ((z.cps.toList.map letB).all id) = logB z by rw [logB, List.all_map]; rfl]
          exact q1
    · refine ⟨v, rfl, ⟨v, .ty "str", _, _, false, rfl, .ty _, ht, hk, false, rfl, iteF ?_⟩⟩
      have q1 := q H (fun _ _ e => e)
      rw [show logV v = false by cases v <;> first | rfl | exact absurd rfl (ns _)] at q1
      exact q1
end
end Zq
namespace Zq
open PySem PySem.Spec PyProof.Rows L2
/-! ### raising one's own error, as a rule -/
section
variable {X : Cx} {k k' : Nat} {x : Str} {C : Addr} {ps : List Str} {sp : Sp} {e : Expr} {es : List Expr} {ta : TA} {p pos : Pos}
theorem pmk_mke (M : MkE X.prog X.w X.K X.mg X.base k x C ps sp) (hr : Room k' X.A) (ha : PA X (e :: es) ta) (hk : k + 1 ≤ k' := by first | decide | omega) (hg : Gl X x := by rfl)
    (hdb : (x == ("__debug__" : Str)) = false := by decide) (he : starEach (e :: es) X.env = (false, eval e X.env) :: starEach es X.env := by rfl) (hpl : (backTo pos (starEach es X.env)).any (·.1) = false := by rfl) :
    PMk X (.Call (.Name x p) (e :: es) [] pos) (tMkO C sp [] ta) := by
  obtain ⟨fI, fd, iC, tI, F1, hb⟩ := M.ex
  exact pmk_oex M.err.oex iC tI F1 (hr.mono hk) hb .nil (C8.pass0 (E := fun _ _ _ => False)) hg M.gC ha hdb he hpl
/-! ### C(..) where the making may raise -/
def tMakeS (C : Addr) (sp : Sp) (E : L2.St → XK) (t : TA) : TE := fun σ H Q => t σ H fun vs H1 => ∀ x dx, H1 x = none → H1 dx = none → dx ≠ x → sp (.ref x :: vs) (upd (upd H1 dx (.own x)) x (.ins C dx [])) (fun v H2 => v = .non ∧ Q (.ref x) H2) (E σ)
theorem runS_make {CX : CXT} {f : Addr} {fd : FuncData} {E : XK} {pins : List (Addr × Obj)} {σ : L2.St} {H : Hp} {s : Shared} {Q : VK} {us : List Value} {vs : List V} (M : L2.Mk X.K C f) (F : FnOk X.prog X.w X.K X.mg X.base CX k f fd ps sp) (hr : Room (k + 1) X.A) (hb : Binds X.K fd ps [])
    (hx : PassesAt CX X σ E) (I : Inv X pins σ H s) (r : Vals vs us)
    (h : ∀ x dx, H x = none → H dx = none → dx ≠ x → sp (.ref x :: vs) (upd (upd H dx (.own x)) x (.ins C dx [])) (fun v H2 => v = .non ∧ Q (.ref x) H2) E) :
    wpAny (model X.prog X.w) X.A (call (.ref C) us) (EP X pins σ Q) X.xe s := by
  have hq := h (s.heap.objs.size + 1) s.heap.objs.size (I.hok.fresh (Nat.le_succ _)) (I.hok.fresh (Nat.le_refl _)) (Nat.ne_of_lt (Nat.lt_succ_self _))
  have I2 := Inv.made (C := C) I
  have r2 : Vals (V.ref (s.heap.objs.size + 1) :: vs) (Value.ref (s.heap.objs.size + 1) :: us) := .cons rfl r
  have hl : (Value.ref (s.heap.objs.size + 1) :: us).length = ps.length := by
    have e := r2.length
    rw [F.len _ _ _ _ hq] at e
    exact e.symm
  have hbb := hb _ (Value.ref (s.heap.objs.size + 1) :: us) I2.kIn (by rw [List.append_nil]; exact hl)
  rw [List.append_nil] at hbb
  refine wpAny_call (make_map (f := f) I.kIn M.makes M.init (beq_iff_eq.mp M.fn) (codeAny_mono (F.run _ X.stack _ _ ⟨Value.ref (s.heap.objs.size + 1) :: us, []⟩ (Value.ref (s.heap.objs.size + 1) :: us) _ _ E (hr.make C us [])
    (I2.env0.make C us []) hbb r2 hq) fun rz s' hq' => ?_))
  cases rz with
  | error e => exact hx pins _ _ e s' I2 hq'
  | ok fl =>
    cases fl with
    | ret u =>
      obtain ⟨v, H', I3, rv, ev, q3⟩ := I2.after hq'
      subst ev
      exact ⟨rv, ⟨V.ref (s.heap.objs.size + 1), H', I3, rfl, q3⟩⟩
    | next => exact False.elim hq'
    | brk => exact False.elim hq'
    | cont => exact False.elim hq'
theorem pe_makeS {CX : CXT} {f : Addr} {fd : FuncData} {E : L2.St → XK} (M : L2.Mk X.K C f) (F : FnOk X.prog X.w X.K X.mg X.base CX k f fd ps sp) (hr : Room (k + 1) X.A) (hg : Gl X x) (hm : X.mg x = some (.ref C)) (hb : Binds X.K fd ps []) (hx : ∀ σ, PassesAt CX X σ (E σ))
    (ha : PA X (e :: es) ta) (hdb : (x == ("__debug__" : Str)) = false := by decide) (he : starEach (e :: es) X.env = (false, eval e X.env) :: starEach es X.env := by rfl) (hpl : (backTo pos (starEach es X.env)).any (·.1) = false := by rfl) :
    PE X (.Call (.Name x p) (e :: es) [] pos) (tMakeS C sp E ta) := by
  refine ⟨fun pins s σ H Q I h => ?_⟩
  refine wpAny_Call_Name_kw (ld_glob I hg hm ?_ hdb)
  exact PySem.W.callWith_K (h₀ := X.base) I.ok.mod.kin M.kp (thn (ha.run pos pins s σ H _ I h) fun us s1 ⟨vs, H1, I1, r, q⟩ => ⟨I1.kIn, runS_make M F hr hb (hx σ) I1 r q⟩) he hpl
end
/-! ### what is wrong first with pieces -/
def badAt (xs : List V) (i : Nat) : Bool := !pieceV (xs.getD i .non) || inV (xs.getD i .non) (xs.take i)
def firstBad (xs : List V) : Option Nat := (List.range xs.length).find? (badAt xs)
def dueL (xs : List V) : V := if 1 ≤ xs.length ∧ xs.length ≤ 12 then (match firstBad xs with | none => .non | some i => .int (i : Nat)) else .str "pieces"
theorem firstBad_some {xs : List V} {i : Nat} (h : ∀ k, k < i → badAt xs k = false) (hi : i < xs.length) (b : badAt xs i = true) : firstBad xs = some i := by
  unfold firstBad
  rw [List.find?_range_eq_some]
  exact ⟨b, by simpa using hi, fun j hj => by rw [h j hj]; rfl⟩
theorem firstBad_none {xs : List V} (h : ∀ k, k < xs.length → badAt xs k = false) : firstBad xs = none := by
  unfold firstBad
  rw [List.find?_range_eq_none]
  exact fun i hi => by rw [h i hi]; rfl
/-- the pieces v and what is wrong with them -/
def Due (K : PySem.W.Frag) (H : Hp) (v d : V) : Prop := (∃ (a : Addr) (xs : List V), v = .ref a ∧ SqT K H a xs ∧ xs.length ≤ 50000 ∧ (∀ x ∈ xs, ThI K H x) ∧ d = dueL xs) ∨ ((∃ t, TyX K H v t ∧ PySem.W.kitOne K t (.type "tuple") = some false) ∧ d = .str "pieces")
theorem Due.same {K : PySem.W.Frag} {H H' : Hp} {v d : V} (s : Same H H') (x : Due K H v d) : Due K H' v d := by
  rcases x with ⟨a, xs, e, h, hl, ht, hd⟩ | ⟨⟨t, h, k⟩, hd⟩
  · exact .inl ⟨a, xs, e, same_seqT s h, hl, fun x hx => (ht x hx).same s, hd⟩
  · exact .inr ⟨⟨t, tyX_same s h, k⟩, hd⟩
/-! ### _is_piece -/
def spPiece (K : PySem.W.Frag) : Sp := fun vs H Q _ => ∃ v : V, vs = [v] ∧ ThI K H v ∧ ∀ H', Same H H' → Q (.bl (pieceV v)) H'
section
variable {P : Program} {w : World} {K : PySem.W.Frag} {mg : Str → Option Value} {base : Heap}
abbrev sIspc : Stmt := topS 26
abbrev NscIspc : List Str := ["thing"]
theorem scIspc : FnScope ["thing"] ["thing"] (defScope sIspc) := ⟨rfl, rfl, rfl, by decide +kernel, rfl, by decide +kernel, by decide +kernel⟩
theorem ok_ispc {f : Addr} {fd : FuncData} (F : Fun K "_is_piece" "_is_piece" sIspc f fd) (T : Txt mg) (GG : Glo mg) (C_is_log : Own P w K mg base CX0 1 "is_log" ["thing"] (spLog K)) : FnOk P w K mg base CX0 2 f fd ["thing"] (spPiece K) := by
  refine F.ok scIspc (fun vs H Q E h => ?_) (fun cdv A outer s H vs Q E hr h => ?_)
  · obtain ⟨v, rfl, _⟩ := h
    rfl
  · obtain ⟨v, rfl, ht, q⟩ := h
    refine ⟨_, (pss_one (ps_ret (pe_and (pe_own C_is_log hr (pa_cons (pv 0) pa_nil)) (pe_one (pe_chain op_le op_le pe_int (pe_callB call_len_str (by rfl) T.nlen (by decide +kernel) (pa_cons (pv 0) pa_nil)) (C8.pe_gc rfl GG.gLONGEST_PIECE)))))), ?_⟩
    refine ⟨v, rfl, v, rfl, ht, fun H1 s1 => ⟨_, rfl, ?_⟩⟩
    refine ite2 (fun hb => ?_) (fun hb => ?_)
    · rcases ht with ⟨z, rfl, hl⟩ | ⟨_, ns⟩
      · have q1 := q H1 s1
        rw [pieceV, show logB z = true from hb, Bool.true_and] at q1
        refine ⟨.str z, rfl, z, rfl, Nat.le_of_lt (sz_lt (by omega)), _, _, rfl, rfl, _, rfl, ?_⟩
        refine ite2 (fun h1 => ?_) (fun h1 => ?_)
        · refine ⟨_, _, rfl, rfl, ?_⟩
          have h1 : (1 : Int) ≤ z.length := of_decide_eq_true h1
          rw [decide_eq_true (show 1 ≤ z.length by omega), Bool.true_and] at q1
          show Q (.bl (decide ((z.length : Int) ≤ 8))) H1
          rw [show decide ((z.length : Int) ≤ 8) = decide (z.length ≤ 8) by rw [Bool.eq_iff_iff, decide_eq_true_iff, decide_eq_true_iff]; omega]
          exact q1
        · have h1 : ¬ 1 ≤ z.length := fun y => h1 (decide_eq_true (by omega))
          rw [decide_eq_false h1, Bool.false_and] at q1
          exact q1
      · cases v <;> first | exact absurd hb (by show ¬ (false = true); decide) | exact absurd rfl (ns _)
    · have q1 := q H1 s1
      rw [show pieceV v = false by cases v <;> first | rfl | (rw [pieceV, show logB _ = false from Bool.eq_false_iff.mpr hb]; rfl)] at q1
      exact q1
end
end Zq
namespace Zq
open PySem PySem.Spec PyProof.Rows L2
/-! ### t[::-1], t a tuple -/
section
variable {prog : Program} {w : World} {A : Around} {E : Value → Shared → Prop} {s : Shared}
theorem back_places (n : Nat) : Builtin.Slice.slicePlaces ((n : Int) - 1) (-1) (-1) = n := by
  unfold Builtin.Slice.slicePlaces
  rw [if_neg (show ¬ ((-1 : Int) > 0) by decide)]
  by_cases h : (n : Int) - 1 > -1
  · rw [if_pos h, show ((n : Int) - 1 - -1 - 1) / (- -1) + 1 = (n : Int) by rw [show (- -1 : Int) = 1 by decide, Int.ediv_one]; omega]
    exact Int.toNat_natCast n
  · rw [if_neg h]
    show (0 : Int).toNat = n
    have : n = 0 := by omega
    rw [this]
    rfl
theorem back_applied {sl : Addr} {vs : Value} {n : Nat} {Q : Int × Int × Nat → Shared → Prop} (hs : s.heap.IsSliceOf sl .none .none vs) (p : IsPart vs (some (-1)))
    (h : Q ((n : Int) - 1, -1, n) s) : wpAny (model prog w) A (Builtin.Slice.sliceApplied (.ref sl) (pure (n : Int))) Q E s := by
  obtain ⟨o, e1, e2, e3⟩ := id hs
  unfold Builtin.Slice.sliceApplied Builtin.Slice.sliceFields
  refine wpAny_bind (wpAny_bind (wpAny_field e1 e3 (x := Value.none) rfl (wpAny_bind (wpAny_field e1 e3 (x := Value.none) rfl (wpAny_bind (wpAny_field e1 e3 (x := vs) rfl (wpAny_pure ?_)))))))
  refine wpAny_bind (HT.slicePart_ p ?_)
  show wpAny _ _ (if ((-1 : Int) == 0) = true then _ else _) _ _ s
  rw [if_neg (by decide)]
  refine wpAny_bind (HT.slicePart_ .none (wpAny_bind (HT.slicePart_ .none (wpAny_bind (wpAny_pure ?_)))))
  show wpAny _ _ (pure (((n : Int) - 1), (-1 : Int), Builtin.Slice.slicePlaces ((n : Int) - 1) (-1) (-1))) _ _ s
  rw [back_places]
  exact wpAny_pure h
theorem back_pick (xs : Array Value) : ((List.range xs.size).filterMap fun (m : Nat) => xs[((xs.size : Int) - 1 + (m : Int) * -1).toNat]?).toArray = xs.toList.reverse.toArray := by
  congr 1
  have e : ((List.range xs.size).filterMap fun (m : Nat) => xs[((xs.size : Int) - 1 + (m : Int) * -1).toNat]?) = ((List.range xs.size).map fun k => xs.size - 1 - k).filterMap (xs[·]?) := by
    rw [List.filterMap_map]
    congr 1
    funext m
    show xs[((xs.size : Int) - 1 + (m : Int) * -1).toNat]? = xs[xs.size - 1 - m]?
    rw [show ((xs.size : Int) - 1 + (m : Int) * -1).toNat = xs.size - 1 - m by omega]
  rw [e, PySem.W.krv_range, List.filterMap_reverse, PySem.W.krv_all]
theorem back_item {t sl : Addr} {items : Array Value} {vs : Value} {Q : Value → Shared → Prop} (ht : IsTup s.heap t items) (hs : s.heap.IsSliceOf sl .none .none vs) (p : IsPart vs (some (-1))) (hz : items.size ≤ sizeLine)
    (h : Q (.ref s.heap.objs.size) { s with heap := s.heap.push { cls := .type "tuple", data := .seq items.toList.reverse.toArray } }) : wpAny (model prog w) A (getItem (.ref t) (.ref sl)) Q E s := by
  have fits : sizeOk (.seq items.toList.reverse.toArray) := by
    show items.toList.reverse.toArray.size ≤ sizeLine
    rw [List.size_toArray, List.length_reverse, Array.length_toList]
    exact hz
  obtain ⟨o, e1, e2, e3⟩ := id hs
  unfold getItem
  try with_reducible refine wpAny_holding ?_
  first | refine wpAny_bind (wpAny_pure ?_) | skip
  refine wpAny_bind (wpAny_sequenceKey ht.typeIs (by decide) ?_)
  refine wpAny_bind (wpAny_callSpecial?_slot (name := Str.ofString "__getitem__") ht.typeIs PyProof.Rows.slot_tuple_getitem (wpAny_call_entry PyProof.Rows.slot_tuple_getitem ht.typeIs entry_tuple_getitem ?_ (args_tuple_getitem _ _)))
  show wpAny _ _ (Builtin.Tuple.tupleItemsOf (.ref t) >>= _) _ _ s
  refine wpAny_bind (tupleItemsOf_ ht (wpAny_bind (wpAny_typeOf (T := "slice") ⟨o, e1, e2⟩ ?_)))
  rw [if_pos (by decide)]
  refine wpAny_bind (back_applied hs p ?_)
  have hno : ¬ ((((items.size : Int) - 1) == 0 && (-1 : Int) == 1 && items.size == items.size) = true) := by
    rw [show ((-1 : Int) == 1) = false by decide, Bool.and_false, Bool.false_and]
    exact Bool.false_ne_true
  show wpAny _ _ (if (((items.size : Int) - 1) == 0 && (-1 : Int) == 1 && items.size == items.size) = true then _ else _) _ _ s
  rw [if_neg hno, back_pick]
  first
    | exact wpAny_bind (m := Builtin.Tuple.tupleExact _) (wpAny_newObj_type (wpAny_pure ⟨_, rfl, wpAny_pure h⟩) fits)
    | exact wpAny_bind (m := Builtin.Tuple.tupleExact _) (wpAny_newObj_type (wpAny_bind (wpAny_pure (wpAny_pure ⟨_, rfl, wpAny_pure h⟩))) fits)
    | exact wpAny_bind (wpAny_bind (m := Builtin.Tuple.tupleExact _) (wpAny_newObj_type (wpAny_pure (wpAny_pure ⟨_, rfl, wpAny_pure h⟩)) fits))
    | exact wpAny_bind (wpAny_bind (m := Builtin.Tuple.tupleExact _) (wpAny_newObj_type (wpAny_pure ⟨_, rfl, wpAny_pure h⟩) fits))
end
section
variable {X : Cx}
def tBack (K : PySem.W.Frag) (te ts : TE) : TE := fun σ H Q => te σ H fun x H1 => ts σ H1 fun y H2 => ∃ a xs, x = .ref a ∧ y = .int (-1) ∧ SqT K H2 a xs ∧ ∀ q, H2 q = none → Q (.ref q) (upd H2 q (.tup xs.reverse))
theorem vals_rev : ∀ {xs : List V} {us : List Value}, Vals xs us → Vals xs.reverse us.reverse
  | _, _, .nil => .nil
  | _, _, .cons r rr => by
    rw [List.reverse_cons, List.reverse_cons]
    exact (vals_rev rr).append (.cons r .nil)
theorem pe_back {e st : Expr} {te ts : TE} {pos p2 : Pos} (he : PE X e te) (hs : PE X st ts) : PE X (.Subscript e (.Slice none none (some st) p2) pos) (tBack X.K te ts) := by
  refine ⟨fun pins s σ H Q I h => ?_⟩
  refine Subscript_ (thn (he.run pins s σ H _ I h) fun v s1 ⟨x, H1, I1, r1, q1⟩ => ?_)
  refine wpAny_Slice ?_
  rw [evalPart_none]
  refine wpAny_pure (wpAny_pure ?_)
  rw [evalPart_some]
  refine thn (hs.run pins s1 σ H1 _ I1 q1) fun vs s2 ⟨y, H2, I2, r2, q2⟩ => ?_
  obtain ⟨a, xs, rfl, rfl, hx, q⟩ := q2
  cases r1
  obtain ⟨u, rfl⟩ := r2
  have I3 : Inv X pins σ H2 { s2 with heap := s2.heap.push { cls := .type "slice", data := .fields #[.none, .none, .int (-1) u] } } := I2.kept (t' := s2.toks) fun b ob q => Heap.get?_push_of_some _ q
  obtain ⟨its, r, ht, hz⟩ := I3.tuple hx
  show wpAny (model X.prog X.w) X.A (subscriptTail e (.Slice none none (some st) p2) (.ref a) (.ref s2.heap.objs.size)) (EP X pins σ Q) X.xe { s2 with heap := s2.heap.push { cls := .type "slice", data := .fields #[.none, .none, .int (-1) u] } }
  have hl : xs.length = its.length := r.length
  refine tail_any (ops := [.ref a, .ref s2.heap.objs.size]) ht.typeIs PyProof.Rows.slot_tuple_getitem.lookup (back_item ht (Heap.IsSliceOf.new ..) (.int (-1) u) (by rw [List.size_toArray, ← hl]; exact hz) ?_) (by with_unfolding_all rfl)
  refine ⟨.ref _, _, I3.laid (t' := s2.toks) (o := .tup xs.reverse) (fun b ob q => Heap.get?_push_of_some _ q) (Nat.le_refl _) ?_, rfl, q _ (I3.hok.fresh (Nat.le_refl _))⟩
  exact ⟨by rw [List.length_reverse]; exact hz, _, vals_rev r, IsTup.new _ _⟩
/-! ### s * k, s a text -/
theorem rep_size (a : Array Nat) : ∀ (n : Nat) (b : Array Nat), ((List.replicate n a).foldl (fun x y => x ++ y) b).size = b.size + n * a.size
  | 0, b => by simp
  | n + 1, b => by
    rw [List.replicate_succ, List.foldl_cons, rep_size a n, Array.size_append, Nat.add_mul]
    omega
def rRepS : R2 := fun x y H Q => ∃ (z : Str) (k : Int), x = .str z ∧ y = .int k ∧ 2 ≤ k ∧ k ≤ 1000 ∧ 0 < z.length ∧ z.length ≤ 40 ∧ Q (.str ⟨(List.replicate k.toNat z.cps).foldl (· ++ ·) #[]⟩) H
theorem op_repS : OpR X (binaryOp .Mult) rRepS := by
  intro pins s σ H x y v u Q I rx ry h
  obtain ⟨z, k, rfl, rfl, h1, h2, h3, h4, q⟩ := h
  obtain ⟨t, rfl⟩ := rx
  obtain ⟨t', rfl⟩ := ry
  refine P.mul_str ?_ (fun _ _ => ?_) (fun _ _ => ?_) ?_
  · rw [decide_eq_false (by omega), decide_eq_false (by omega)]
    rfl
  · have : (2 ^ 63 - 1 : Int) / 1000 ≤ (2 ^ 63 - 1) / k := by
      apply Int.le_ediv_of_mul_le (by omega)
      have e : (2 ^ 63 - 1 : Int) / 1000 = 9223372036854775 := by decide
      rw [e]
      omega
    have e : (2 ^ 63 - 1 : Int) / 1000 = 9223372036854775 := by decide
    omega
  · show decide (_ > sizeLine) = false
    rw [decide_eq_false]
    rw [sizeLine_eq]
    have : z.length * k.toNat ≤ 40 * 1000 := Nat.mul_le_mul h4 (by omega)
    omega
  · rw [if_neg (by omega), if_neg (by rw [Bool.or_eq_true, beq_iff_eq, beq_iff_eq]; omega)]
    refine ⟨?_, .str _, H, I.tok _, ⟨_, rfl⟩, q⟩
    show (List.foldl (fun x1 x2 => x1 ++ x2) #[] (List.replicate k.toNat z.cps)).size ≤ sizeLine
    have e := rep_size z.cps k.toNat #[]
    rw [e, sizeLine_eq]
    have : k.toNat * z.cps.size ≤ 1000 * 40 := Nat.mul_le_mul (by omega) h4
    have : (#[] : Array Nat).size = 0 := rfl
    omega
/-! ### == and != by an own __eq__ that tells a flag -/
variable {k : Nat} {C f : Addr} {fd : FuncData} {ps : List Str} {sp : Sp}
/-- the class at C compares by the def at f -/
structure EqBy (P : Program) (w : World) (K : PySem.W.Frag) (mg : Str → Option Value) (base : Heap) (k : Nat) (C : Addr) (ps : List Str) (sp : Sp) : Prop where
  ex : ∃ (f : Addr) (fd : FuncData), PySem.W.findIn K (.ref C) "__eq__" = some (some (.ref f)) ∧ PySem.W.isFn K (.ref f) = true ∧ FnOk P w K mg base CX0 k f fd ps sp ∧ Binds K fd ps []
  ne : PySem.W.findIn K (.ref C) "__ne__" = some (some (.builtin "object.__ne__"))
  ob : PySem.W.mroIn K C (.type "object") = some true
def rOwnEq (K : PySem.W.Frag) (C : Addr) (sp : Sp) (neg : Bool) : R2 := fun x y H Q => ∃ (a dx : Addr) (fs : List (Str × V)) (t : Value), x = .ref a ∧ H a = some (.ins C dx fs) ∧ TyX K H y t ∧ PySem.W.notFirst K C t = true ∧
  sp [x, y] H (fun v H' => ∃ b, v = .bl b ∧ Q (.bl (b != neg)) H') E0
theorem looks_of {pins : List (Addr × Obj)} {σ : L2.St} {H : Hp} {s : Shared} {x : V} {u t : Value} (I : Inv X pins σ H s) (rx : RelV x u) (ty : TyX X.K H x t) : PySem.W.Looks (model X.prog X.w) s.heap (typeOf u) t := by
  obtain ⟨P, Z, p, hx⟩ := kit_of I rx ty
  exact Z.ty _ _ I.kIn p
/-- the own def, called from somewhere below -/
theorem eqBy_call {A : Around} {f : Addr} {fd : FuncData} {pins : List (Addr × Obj)} {σ : L2.St} {H : Hp} {s : Shared} {a : Addr} {y : V} {u : Value} {Q : VK} (F : FnOk X.prog X.w X.K X.mg X.base CX0 k f fd ps sp) (hb : Binds X.K fd ps []) (sb : Sub X k A) (I : Inv X pins σ H s) (ry : RelV y u)
    (h : sp [.ref a, y] H (fun v H' => ∃ b, v = .bl b ∧ Q (.bl b) H') E0) : wpAny (model X.prog X.w) A (call (.ref f) [.ref a, u]) (fun v s' => ∃ b H', v = .bool b ∧ Inv X pins σ H' s' ∧ Q (.bl b) H') X.xe s := by
  have e0 : Env0 X.prog X.w X.K X.mg X.base A X.stack s H := by
    have e := I.env0
    exact ⟨by rw [sb.fr]; exact e.frames, e.mod, e.bs, e.bsz, e.funs, e.frf, e.hok, e.bare⟩
  have r2 : Vals [V.ref a, y] [Value.ref a, u] := .cons rfl (.cons ry .nil)
  have bd := hb s [.ref a, u] I.kIn (by simpa using F.len _ _ _ _ h)
  refine wpAny_call (codeAny_mono (F.run A X.stack s H ⟨[.ref a, u], []⟩ [.ref a, u] [.ref a, y] _ E0 sb.room e0 (by simpa using bd) r2 h) fun r s' hq => ?_)
  cases r with
  | error er => exact pass0 pins σ H s er s' I hq
  | ok fl =>
    cases fl with
    | ret w =>
      obtain ⟨z, H', I', rz, b, ez, q⟩ := I.after hq
      subst ez
      cases (show w = Value.bool b from rz)
      exact ⟨b, H', rfl, I', q⟩
    | next => exact False.elim hq
    | brk => exact False.elim hq
    | cont => exact False.elim hq
theorem op_ownEq (M : EqBy X.prog X.w X.K X.mg X.base k C ps sp) (hr : Room k X.A) : OpR X (compareOp .Eq) (rOwnEq X.K C sp false) := by
  intro pins s σ H x y v u Q I rx ry h
  obtain ⟨f, fd, hs, hf, F, hb⟩ := M.ex
  obtain ⟨a, dx, fs, t, rfl, ea, ty, hn, q⟩ := h
  cases rx
  obtain ⟨mA, J, _⟩ := ins_get I.hok ea
  obtain ⟨od, J, _⟩ := J.look
  obtain ⟨m, hF⟩ := I.fr
  show wpAny (model X.prog X.w) X.A (richCompare .Eq (.ref a) u) (EP X pins σ Q) X.xe s
  refine PySem.W.cmp_K (op := .Eq) hr.units0 hF I.ok.mod.kin J (looks_of I ry ty) hn hs hf ?_
  refine wpAny_mono (eqBy_call F hb ⟨hr, rfl⟩ I ry (Q := fun v H' => ∃ b, v = .bl b ∧ Q (.bl (b != false)) H') (by
    have e : (fun v H' => ∃ b, v = V.bl b ∧ ∃ b2, V.bl b = .bl b2 ∧ Q (.bl (b2 != false)) H') = fun v H' => ∃ b, v = .bl b ∧ Q (.bl (b != false)) H' := by
      funext v H'
      exact propext ⟨fun ⟨b, e1, b2, e2, z⟩ => ⟨b2, e1.trans e2, z⟩, fun ⟨b, e1, z⟩ => ⟨b, e1, b, rfl, z⟩⟩
    rw [e]
    exact q)) (fun v s' hv => ?_) fun _ _ e => e
  obtain ⟨b, H', rfl, I', b2, e2, z⟩ := hv
  cases e2
  rw [Bool.bne_false] at z
  exact ⟨.bl b, H', I', rfl, z⟩
theorem op_ownNe (M : EqBy X.prog X.w X.K X.mg X.base k C ps sp) (hr : Room (k + 1) X.A) : OpR X (compareOp .NotEq) (rOwnEq X.K C sp true) := by
  intro pins s σ H x y v u Q I rx ry h
  obtain ⟨f, fd, hs, hf, F, hb⟩ := M.ex
  obtain ⟨a, dx, fs, t, rfl, ea, ty, hn, q⟩ := h
  cases rx
  obtain ⟨mA, J, _⟩ := ins_get I.hok ea
  obtain ⟨od, J, _⟩ := J.look
  have Kh := I.kIn
  have hb0 := looks_of I ry ty
  show wpAny (model X.prog X.w) X.A (richCompare .NotEq (.ref a) u) (EP X pins σ Q) X.xe s
  have hcall : wpAny (model X.prog X.w) X.A.in1 (call (.ref f) [.ref a, u]) (fun v s' => ∃ b H', v = .bool b ∧ Inv X pins σ H' s' ∧ Q (.bl (!b)) H') X.xe s := by
    refine wpAny_mono (eqBy_call F hb ⟨hr.in1, rfl⟩ I ry (Q := fun v H' => ∃ b, v = .bl b ∧ Q (.bl (b != true)) H') (by
      have e : (fun v H' => ∃ b, v = V.bl b ∧ ∃ b2, V.bl b = .bl b2 ∧ Q (.bl (b2 != true)) H') = fun v H' => ∃ b, v = .bl b ∧ Q (.bl (b != true)) H' := by
        funext v H'
        exact propext ⟨fun ⟨b, e1, b2, e2, z⟩ => ⟨b2, e1.trans e2, z⟩, fun ⟨b, e1, z⟩ => ⟨b, e1, b, rfl, z⟩⟩
      rw [e]
      exact q)) (fun v s' hv => ?_) fun _ _ e => e
    obtain ⟨b, H', rfl, I', b2, e2, z⟩ := hv
    cases e2
    rw [Bool.bne_true] at z
    exact ⟨b, H', rfl, I', z⟩
  have hu : X.A.in1.units < cLine := hr.in1.units0
  have inner : wpAny (model X.prog X.w) X.A.in1 (Builtin.«object.__ne__» ⟨[.ref a, u], []⟩) (fun fin s' => ∃ b H', fin = .done (.ret (.bool (!b))) ∧ Inv X pins σ H' s' ∧ Q (.bl (!b)) H') X.xe s := by
    unfold Builtin.«object.__ne__»
    repeat (first
      | with_reducible refine wpAny_cRoomFor hu ?_
      | (refine wpAny_bind (m := callSpecialIfBound? (.ref a) (Str.ofString "__eq__") [u]) (PySem.W.ifBound_K Kh J hs hf (wpAny_mono hcall (fun r s' hr' => ?_) fun _ _ e => e)))
      | wp_step)
    obtain ⟨b, H', rfl, I', z⟩ := hr'
    show wpAny _ _ (truthy (.bool b) >>= fun r => ret (.bool !r)) _ _ _
    exact wpAny_bind (wpAny_truthy_bool (wpAny_pure ⟨b, H', rfl, I', z⟩))
  have isob : PySem.W.Looks (model X.prog X.w) s.heap (isInstance (.ref a) (.type "object")) true := J.type.andThen (PySem.W.looks_mroIn Kh M.ob)
  have S := PySem.F.cmp_object.ne
  have bi : wpAny (model X.prog X.w) X.A (call (.builtin "object.__ne__") [.ref a, u]) (fun v s' => ∃ b H', v = .bool (!b) ∧ Inv X pins σ H' s' ∧ Q (.bl (!b)) H') X.xe s := by
    refine wpAny_call (codeAny_call_builtin S.plain PySem.F.cmpEntry_ne (PySem.W.check_slot PySem.F.cmpKind_ne PySem.F.cmpSplit_ne isob (PySem.F.cmpArgs_ne _ _) (wpAny_mono inner (fun r s' hr' => ?_) fun _ _ e => e)))
    obtain ⟨b, H', rfl, I', z⟩ := hr'
    exact ⟨b, H', rfl, I', z⟩
  have one : wpAny (model X.prog X.w) X.A (tryCompare (.ref a) "__ne__" u) (fun r s' => ∃ b H', r = some (.bool (!b)) ∧ Inv X pins σ H' s' ∧ Q (.bl (!b)) H') X.xe s := by
    unfold tryCompare
    simp only [callSpecialIfBound?, bindSpecialIfBound?]
    refine wpAny_bind (wpAny_holding (wpAny_bind (wpAny_bind (wpAny_bind (J.type.here ((PySem.W.looks_findIn Kh M.ne).here ?_))))))
    simp only [S.bind]
    refine wpAny_bind (wpAny_askSetting (wpAny_ite ?_))
    have fin : wpAny (model X.prog X.w) X.A (call (.builtin "object.__ne__") ([.ref a] ++ [u]) >>= fun v => pure (some v)) (fun r s' => wpAny (model X.prog X.w) X.A (match r with | some .notImplemented | none => pure none | some v => pure (some v)) (fun r s' => ∃ b H', r = some (.bool (!b)) ∧ Inv X pins σ H' s' ∧ Q (.bl (!b)) H') X.xe s') X.xe s := by
      refine wpAny_bind (wpAny_mono bi (fun v s' hv => ?_) fun _ _ e => e)
      obtain ⟨b, H', rfl, I', z⟩ := hv
      exact wpAny_pure (wpAny_pure ⟨b, H', rfl, I', z⟩)
    split
    · exact wpAny_bind (wpAny_pure (wpAny_pure fin))
    · exact wpAny_tryCatch (wpAny_bind (wpAny_pure (wpAny_pure fin)))
  unfold richCompare
  simp only [oneThing_ref]
  refine wpAny_holding (wpAny_bind (wpAny_cRoomFor hr.units0 ?_))
  refine wpAny_bind (J.type.here (wpAny_bind (hb0.here ?_)))
  split
  · rename_i ht
    have e : PySem.W.subIn X.K t (.ref C) = some false := by
      rcases Bool.or_eq_true_iff.mp hn with e | e
      · rw [eq_of_beq e] at ht
        simp at ht
      · exact eq_of_beq e
    refine wpAny_bind ((PySem.W.looks_subIn Kh e).here ?_)
    simp only [Bool.false_eq_true, if_false]
    refine wpAny_bind (wpAny_mono one (fun r s' z => ?_) fun _ _ e => e)
    obtain ⟨b, H', rfl, I', z⟩ := z
    exact wpAny_pure ⟨.bl (!b), H', I', rfl, z⟩
  · refine wpAny_bind (wpAny_pure ?_)
    simp only [Bool.false_eq_true, if_false]
    refine wpAny_bind (wpAny_mono one (fun r s' z => ?_) fun _ _ e => e)
    obtain ⟨b, H', rfl, I', z⟩ := z
    exact wpAny_pure ⟨.bl (!b), H', I', rfl, z⟩
end
end Zq
namespace Zq
open PySem PySem.Spec PyProof.Rows L2
open PySem.Froz (SD sObj TxOk sing addTx tailTx)
/-! ### set(s), s a text; sorted(it) -/
/-- the texts l, unlike, are what the set at a holds; its table rises and can be walked -/
def SetX (P : Program) (w : World) (h : Heap) (a : Addr) (l : List Str) : Prop :=
  ∃ D : SD, h.get? a = some (sObj "set" D) ∧ TxOk P w D l ∧ Ris D.2.2.place.toList ∧ (w.params.followText "set-order" = true ∨ D.2.2.led = true) ∧ l.Nodup
theorem SetX.at {P : Program} {w : World} {h h' : Heap} {a : Addr} {l : List Str} (x : SetX P w h a l) (k : ∀ o, h.get? a = some o → h'.get? a = some o) : SetX P w h' a l := by
  obtain ⟨D, e, r⟩ := x
  exact ⟨D, k _ e, r⟩
theorem setX_new {P : Program} {w : World} {h : Heap} {a : Addr} (e : h.get? a = some { cls := .type "set", dict := none, data := .set #[] 0 (.fresh 0 0 (!w.params.followText "set-order")) }) : SetX P w h a [] :=
  ⟨(#[], 0, .fresh 0 0 (!w.params.followText "set-order")), e, TxOk.nil rfl, List.Pairwise.nil, by
    show _ ∨ (!w.params.followText "set-order") = true
    cases w.params.followText "set-order" <;> simp, List.nodup_nil⟩
theorem tail_ris {ep : Nat} {es : Array (Int × Value)} {t : SetTable} {wd : Bool} (r : Ris t.place.toList) : Ris (tailTx ep es t wd).2.2.place.toList := by
  unfold tailTx
  split
  · exact relayAll_ris t es _
  · exact r
theorem tail_led {ep : Nat} {es : Array (Int × Value)} {t : SetTable} {wd : Bool} : (tailTx ep es t wd).2.2.led = t.led := by
  unfold tailTx
  split
  · exact relayAll_led t es _
  · rfl
theorem add_ris {h : Int} {v : Value} {D : SD} (r : Ris D.2.2.place.toList) : Ris (addTx h v D).2.2.place.toList := by
  unfold addTx
  refine tail_ris ?_
  split
  · exact layNew_ris D.2.2 D.1 h v r
  · exact layNew_ris D.2.2 D.1 h v r
theorem add_led {h : Int} {v : Value} {D : SD} : (addTx h v D).2.2.led = D.2.2.led := by
  unfold addTx
  rw [tail_led]
  split
  · exact layNew_led D.2.2 D.1 h v
  · exact layNew_led D.2.2 D.1 h v
section
variable {P : Program} {w : World} {A : Around} {E : Value → Shared → Prop} {s : Shared}
/-- what is in already stays -/
theorem seen_x {a : Addr} {D : SD} {l : List Str} {k : Str} {u : Tok} {Q : Bool → Shared → Prop} (ho : s.heap.get? a = some (sObj "set" D)) (F : TxOk P w D l) (hk : k ∈ l) (hb : l.length < scanBound)
    (h : Q false s) : wpAny (model P w) A (setAddHashed a (.str k u) (hashStr w k)) Q E s := by
  obtain ⟨es, ep, t⟩ := D
  have key : (strKind P w).is k (.str k u) = true := PySem.Froz.is_str k u
  have few : es.size < scanBound := by
    rw [show es.size = l.length from F.sz]
    exact hb
  unfold setAddHashed
  unfold setAddHashedIn
  refine wpAny_holding (wpAny_bind (wpAny_setState_of ho rfl F.fit ?_))
  dsimp only
  rw [byScan_of (x := Value.str k u) rfl few F.el]
  simp only [↓reduceIte]
  unfold setAddByScan
  refine wpAny_bind (wpAny_bind (wpAny_rule (wpAny_bind (wpAny_setScan_of (knd := strKind P w) (k := k) key ho rfl F.fit F.el ?_))))
  cases e : List.findIdx? (fun e => (strKind P w).is k e.2) es.toList with
  | some j => exact wpAny_pure (wpAny_pure h)
  | none =>
    obtain ⟨y, hy, q⟩ := (F.mem k).mp hk
    have := List.findIdx?_eq_none_iff.mp e y hy
    rw [q] at this
    cases this
theorem add_one {a : Addr} {l : List Str} {k : Str} {u : Tok} {Q : Bool → Shared → Prop} (x : SetX P w s.heap a l) (hb : l.length + 1 < scanBound)
    (hQ : ∀ (b : Bool) (h' : Heap), Heap.SameBut a s.heap h' → SetX P w h' a (if k ∈ l then l else k :: l) → Q b { s with heap := h' }) : wpAny (model P w) A (setAddHashed a (.str k u) (hashStr w k)) Q E s := by
  obtain ⟨D, ho, F, r, ld, nd⟩ := x
  by_cases hk : k ∈ l
  · have q := hQ false s.heap (Heap.SameBut.refl a s.heap)
    rw [if_pos hk] at q
    exact seen_x ho F hk (by omega) (q ⟨D, ho, F, r, ld, nd⟩)
  · have q := hQ true (s.heap.update a (fun _ => sObj "set" (addTx (hashStr w k) (.str k u) D))) (Heap.SameBut.update s.heap a _)
    rw [if_neg hk] at q
    exact PySem.Froz.add_x ho F hk hb (q ⟨_, PySem.Froz.get_upd _ ho rfl, PySem.Froz.add_ok u F, add_ris r, by rw [add_led]; exact ld, List.nodup_cons.mpr ⟨hk, nd⟩⟩)
/-- the signs of a text, one by one -/
def signsIn (l : List Str) (cs : List Nat) : Prop := l.length ≤ cs.length ∧ ∀ k, k ∈ l ↔ ∃ c ∈ cs, k = sing c
theorem signsIn_next {l : List Str} {cs : List Nat} {c : Nat} (x : signsIn l cs) : signsIn (if sing c ∈ l then l else sing c :: l) (cs ++ [c]) := by
  refine ⟨?_, fun k => ?_⟩
  · rw [List.length_append]
    have := x.1
    split <;> simp <;> omega
  · have e : (∃ d ∈ cs ++ [c], k = sing d) ↔ (∃ d ∈ cs, k = sing d) ∨ k = sing c := by
      constructor
      · rintro ⟨d, hd, q⟩
        rcases List.mem_append.mp hd with hd | hd
        · exact .inl ⟨d, hd, q⟩
        · rw [List.mem_singleton] at hd
          exact .inr (hd ▸ q)
      · rintro (⟨d, hd, q⟩ | q)
        · exact ⟨d, List.mem_append_left _ hd, q⟩
        · exact ⟨c, List.mem_append_right _ (List.mem_singleton.mpr rfl), q⟩
    rw [e, ← x.2 k]
    split
    · rename_i h
      exact ⟨.inl, fun z => z.elim id fun z => z ▸ h⟩
    · rw [List.mem_cons]
      exact Or.comm
theorem update_signs {I : Addr} {fp wr : List Addr} {St : Nat → Heap → Prop} {R : Result → Shared → Prop} {x : Str} (W : Walks P w A.in1 I fp wr x.cps.size (SignAt x) St) (S : Addr) (hSf : S ∉ fp) (hb : x.length + 1 < scanBound) :
    ∀ (k i : Nat) (s : Shared) (l : List Str), x.cps.size - i = k → i ≤ x.cps.size → St i s.heap → SetX P w s.heap S l → signsIn l (x.cps.toList.take i) →
      (∀ (h' : Heap) (tk : Nat) (l' : List Str), (∀ b o, b ∉ S :: wr → s.heap.get? b = some o → h'.get? b = some o) → SetX P w h' S l' → signsIn l' x.cps.toList → R (.ok (.ret .none)) { s with heap := h', toks := tk }) →
      codeAny (model P w) A (.builtin "set.update.loop" ⟨[.ref S, .ref I], []⟩) R s := by
  have hSw : S ∉ wr := fun h => hSf (W.sub _ h)
  intro k
  induction k with
  | zero =>
    intro i s l hk hi hst hX hl hR
    obtain rfl : i = x.cps.size := by omega
    refine codeAny_builtin PyProof.Rows.F.entry_set_update_loop ?_
    rw [Around.under_plainId PyProof.Rows.F.plain_set_update_loop _]
    show wpAny _ A.in1 (pyNext (.ref I) >>= _) _ _ s
    refine wpAny_bind (W.done s _ _ hst fun h' tk hm => ?_)
    rw [List.take_of_length_le (by rw [Array.length_toList]; exact Nat.le_refl _)] at hl
    exact wpAny_pure (hR h' tk l (fun b o hb e => hm b o (fun z => hb (List.mem_cons_of_mem _ z)) e) (hX.at fun o e => hm S o hSw e) hl)
  | succ k ih =>
    intro i s l hk hi hst hX hl hR
    have hlt : i < x.cps.size := by omega
    refine codeAny_builtin PyProof.Rows.F.entry_set_update_loop ?_
    rw [Around.under_plainId PyProof.Rows.F.plain_set_update_loop _]
    show wpAny _ A.in1 (pyNext (.ref I) >>= _) _ _ s
    refine wpAny_bind (W.item i s _ _ hlt hst fun v h1 tk hP hst1 hm => ?_)
    obtain ⟨c, u, hc, rfl⟩ := hP
    have hX1 : SetX P w h1 S l := hX.at fun o e => hm S o hSw e
    have hsz : l.length ≤ i := by
      have := hl.1
      rw [List.length_take] at this
      omega
    have hxl : x.cps.size = x.length := rfl
    show wpAny _ A.in1 (holding [Value.str (sing c) u] (setAdd S (.str (sing c) u)) >>= _) _ _ _
    refine wpAny_bind (wpAny_holding ?_)
    unfold setAdd
    refine wpAny_holding (wpAny_bind ((strKind P w).pyHash (k := sing c) (PySem.Froz.is_str _ _) ?_))
    refine add_one (s := { s with heap := h1, toks := tk + 1 }) hX1 (by omega) fun b h2 sb hX2 => ?_
    have hl2 : signsIn (if sing c ∈ l then l else sing c :: l) (x.cps.toList.take (i + 1)) := by
      rw [List.take_add_one, Array.getElem?_toList, hc]
      exact signsIn_next hl
    refine wpAny_pure ⟨plainId_quiet PyProof.Rows.F.plain_set_update_loop _, ih (i + 1) _ _ (by omega) hlt (W.frame _ h1 _ hst1 fun b hb o e => ?_) hX2 hl2 fun h3 tk3 l' hm3 hX3 hl3 => ?_⟩
    · exact (sb.2 b (fun z => hSf (z ▸ hb))).trans e
    · exact hR h3 tk3 l' (fun b o hb e => hm3 b o hb ((sb.2 b (fun z => hb (z ▸ List.mem_cons_self))).trans (hm b o (fun z => hb (List.mem_cons_of_mem _ z)) e))) hX3 hl3
end
end Zq
namespace Zq
open PySem PySem.Spec PyProof.Rows L2
open PySem.Froz (SD sObj TxOk sing)
section
variable {P : Program} {w : World} {A : Around} {E : Value → Shared → Prop} {s : Shared}
abbrev newSetO (w : World) : Obj := { cls := .type "set", dict := none, data := .set #[] 0 (.fresh 0 0 (!w.params.followText "set-order")) }
theorem update_str {a : Addr} {x : Str} {t : Tok} {Q : Unit → Shared → Prop} (hX : SetX P w s.heap a []) (hh : A.handled = none) (hb : x.length + 1 < scanBound)
    (h : ∀ (h' : Heap) (tk : Nat) (l : List Str), SetX P w h' a l → signsIn l x.cps.toList → (∀ b o, b ≠ a → s.heap.get? b = some o → h'.get? b = some o) → Q () { s with heap := h', toks := tk }) :
    wpAny (model P w) A (Builtin.Frozenset.updateFrom "set.__init__" a (.str x t)) Q E s := by
  have ha : a < s.heap.objs.size := by
    obtain ⟨D, e, _⟩ := hX
    exact Heap.lt_size e
  unfold Builtin.Frozenset.updateFrom
  refine wpAny_bind (L2.Fz.anySet ?_)
  simp only [Bool.false_eq_true, if_false]
  refine wpAny_bind (wpAny_typeOf (typeIs_str s x t) ?_)
  rw [if_neg (by decide)]
  refine wpAny_bind (wpAny_pyIter_str fun o St W st0 => ?_)
  refine wpAny_bind (wpAny_runValue ?_)
  have hX1 : SetX P w (s.heap.push o) a [] := hX.at fun u e => Heap.get?_push_of_some _ e
  refine update_signs (x := x) (W A.in1 (by simpa using hh)) a (by simp; exact Nat.ne_of_lt ha) hb x.cps.size 0 _ [] rfl (Nat.zero_le _) st0 hX1 ⟨Nat.zero_le _, fun k => by simp⟩ fun h' tk l hm hX2 hl => ?_
  refine wpAny_pure (h h' tk l hX2 hl fun b o hb e => hm b o ?_ (Heap.get?_push_of_some _ e))
  have := Heap.lt_size e
  simp
  exact ⟨hb, Nat.ne_of_lt this⟩
set_option maxHeartbeats 4000000 in
theorem call_setX {x : Str} {t : Tok} {Q : Value → Shared → Prop} (hh : A.handled = none) (hb : x.length + 1 < scanBound)
    (h : ∀ (h' : Heap) (tk : Nat) (l : List Str), SetX P w h' s.heap.objs.size l → signsIn l x.cps.toList → (∀ b o, s.heap.get? b = some o → h'.get? b = some o) → Q (.ref s.heap.objs.size) { s with heap := h', toks := tk }) :
    wpAny (model P w) A (call (.type "set") [.str x t]) Q E s := by
  obtain ⟨c, tl, hmro⟩ := PySem.F.called_set.mro
  have hmade := PySem.F.called_set.made
  have hsub := PySem.F.called_set.sub
  refine wpAny_call (codeAny_of_tree ?_)
  show wpAny _ _ (callAny (.type "set") _) _ _ _
  refine wpAny_pure ⟨Code.quiet_builtin _ (by decide +kernel), codeAny_builtin F.entry_type_call ?_⟩
  rw [Around.under_plain (weight_type_call_type "set" [.str x t] []) rfl]
  have g1 := PySem.F.called_set.notType
  have g2 := PySem.F.called_set.canCreate
  have g3 := F.typeCall_set_1 (.str x t)
  repeat (any_goals (first | assumption | wp_step))
  refine codeAny_mono (code_set_led1 (.str x t) (E := E) (Q₁ := fun obj s₁ => obj = .ref s.heap.objs.size ∧ s₁ = { s with heap := s.heap.push (newSetO w) }) ⟨rfl, rfl⟩) fun r s₁ hr => ?_
  cases r with
  | error e => exact hr
  | ok fl =>
    cases fl with
    | ret obj =>
      obtain ⟨rfl, rfl⟩ := hr
      have hS : (s.heap.push (newSetO w)).get? s.heap.objs.size = some (newSetO w) := Heap.get?_push_size _ rfl
      have hT : Shared.TypeIs { s with heap := s.heap.push (newSetO w) } (.ref s.heap.objs.size) "set" := ⟨_, hS, rfl⟩
      have hli := PySem.F.called_set.init.lookup
      have hbi := PySem.F.called_set.init.bind (.ref s.heap.objs.size)
      repeat (any_goals (first | assumption | wp_step))
      refine codeAny_mono (codeAny_call_builtin (R := wants (fun r s₂ => r = .none ∧ ∃ h' tk l, s₂ = { s with heap := h', toks := tk } ∧ SetX P w h' s.heap.objs.size l ∧ signsIn l x.cps.toList ∧
          (∀ b o, s.heap.get? b = some o → h'.get? b = some o)) E) PySem.F.called_set.init.plain PySem.F.entry_set_init (check_set_init_1 hT ?_)) fun r₂ s₂ hr₂ => ?_
      · unfold Builtin.«set.__init__» noKeywords
        generalize hU : Builtin.Frozenset.updateFrom = U
        wp_walk
        subst hU
        refine update_str (s := { s with heap := s.heap.push (newSetO w) }) (setX_new hS) (by simpa using hh) hb fun h' tk l hX hl hk => ?_
        exact wpAny_pure ⟨rfl, h', tk, l, rfl, hX, hl, fun b o e => hk b o (Nat.ne_of_lt (Heap.lt_size e)) (Heap.get?_push_of_some _ e)⟩
      · cases r₂ with
        | error e => exact hr₂
        | ok fl₂ =>
          cases fl₂ with
          | ret r =>
            obtain ⟨rfl, h', tk, l, rfl, hX, hl, hk⟩ := hr₂
            repeat (any_goals (first | assumption | wp_step))
            exact h _ _ _ hX hl hk
          | _ => exact hr₂.elim
    | _ => exact hr.elim
end
end Zq
namespace Zq
open PySem PySem.Spec PyProof.Rows L2
open PySem.Froz (SD sObj TxOk sing)
/-! ### the members, sorted -/
theorem perm_of_mem {α : Type} : ∀ {l zs : List α}, l.Nodup → (∀ k, k ∈ l → k ∈ zs) → zs.length ≤ l.length → zs.Perm l
  | [], zs, _, _, h => by
    have : zs = [] := List.eq_nil_of_length_eq_zero (Nat.le_zero.mp h)
    rw [this]
  | x :: l, zs, nd, hm, h => by
    obtain ⟨h1, h2⟩ := List.nodup_cons.mp nd
    obtain ⟨p, q, rfl⟩ := List.append_of_mem (hm x List.mem_cons_self)
    have e : (p ++ x :: q).Perm (x :: (p ++ q)) := List.perm_middle
    refine e.trans (.cons x (perm_of_mem h2 (fun k hk => ?_) ?_))
    · have := e.mem_iff.mp (hm k (List.mem_cons_of_mem _ hk))
      rcases List.mem_cons.mp this with z | z
      · exact absurd (z ▸ hk) h1
      · exact z
    · have := e.length_eq
      rw [List.length_cons] at this
      have h3 : (p ++ x :: q).length ≤ l.length + 1 := h
      omega
theorem len_of_mem {α : Type} : ∀ {l D : List α}, l.Nodup → (∀ k, k ∈ l → k ∈ D) → l.length ≤ D.length
  | [], _, _, _ => Nat.zero_le _
  | x :: l, D, nd, hm => by
    obtain ⟨h1, h2⟩ := List.nodup_cons.mp nd
    obtain ⟨p, q, rfl⟩ := List.append_of_mem (hm x List.mem_cons_self)
    have e : (p ++ x :: q).Perm (x :: (p ++ q)) := List.perm_middle
    have ih := len_of_mem (l := l) (D := p ++ q) h2 fun k hk => by
      rcases List.mem_cons.mp (e.mem_iff.mp (hm k (List.mem_cons_of_mem _ hk))) with z | z
      · exact absurd (z ▸ hk) h1
      · exact z
    have := e.length_eq
    rw [List.length_cons] at this
    rw [List.length_cons]
    omega
theorem strs_of : ∀ (l : List Value), (∀ v ∈ l, ∃ k t, v = Value.str k t) → StrsAre l (l.map PyProof.Rows.strOf)
  | [], _ => .nil
  | v :: l, h => by
    obtain ⟨k, t, rfl⟩ := h v List.mem_cons_self
    exact .cons k t (strs_of l fun u hu => h u (List.mem_cons_of_mem _ hu))
section
variable {P : Program} {w : World} {A : Around} {E : Value → Shared → Prop} {s : Shared}
theorem isStr_of {e : Int × Value} {k : Str} (h : (strKind P w).is k e.2 = true) : ∃ t, e.2 = .str k t := by
  have h' : Value.isStrOf k e.2 = true := h
  unfold Value.isStrOf at h'
  split at h'
  · rename_i y t q
    rw [q]
    exact ⟨t, by rw [eq_of_beq h']⟩
  · cases h'
theorem sorted_setX {a : Addr} {l : List Str} {Q : Value → Shared → Prop} (x : SetX P w s.heap a l) (hh : A.handled = none) (h64 : l.length < 64)
    (hQ : ∀ s' p (out : Array Value) (c : Nat) (ys : List Str), (∀ b o, s.heap.get? b = some o → s'.heap.get? b = some o) → s'.gens = s.gens → s'.os = s.os → s.heap.objs.size ≤ p →
      s'.heap.get? p = some (seqObj "list" out c) → StrsAre out.toList ys → ys.Perm l → sortedS ys = true → Q (.ref p) s') :
    wpAny (model P w) A (call (.builtin "sorted") [.ref a]) Q E s := by
  obtain ⟨⟨es, ep, t⟩, ho, F, r, ld, nd⟩ := x
  have few : es.size < scanBound := by
    rw [show es.size = l.length from F.sz]
    have : (64 : Nat) ≤ scanBound := by decide
    omega
  have isS : ∀ e ∈ es.toList, ∃ k t, e.2 = Value.str k t := fun e he => by
    obtain ⟨⟨k, hk, _⟩, _⟩ := F.el e he
    obtain ⟨t, q⟩ := isStr_of hk
    exact ⟨k, t, q⟩
  refine Calls.call_function_entry kind_sorted plain_sorted entry_sorted (args_sorted1 _) ?_
  unfold Builtin.«sorted»
  refine wpAny_bind (m := checkCount "sorted" 1 1 _) (wpAny_pure ?_)
  refine wpAny_bind (collect_set (A := A.in1) (es := es) (ep := ep) (t := t) hh ⟨_, ho, rfl, rfl⟩ F.fit few r ld fun s1 vs k1 hz g1 o1 pm => ?_)
  have hvl : vs.length = l.length := by
    rw [pm.length_eq, List.length_map, Array.length_toList]
    exact F.sz
  have hS : StrsAre vs (vs.map PyProof.Rows.strOf) := strs_of vs fun v hv => by
    obtain ⟨e, he, q⟩ := List.mem_map.mp (pm.mem_iff.mp hv)
    rw [← q]
    exact isS e he
  have hp : (vs.map PyProof.Rows.strOf).Perm l := by
    refine perm_of_mem nd (fun k hk => ?_) (by rw [List.length_map, hvl]; exact Nat.le_refl _)
    obtain ⟨e, he, q⟩ := (F.mem k).mp hk
    obtain ⟨t', q⟩ := isStr_of q
    exact List.mem_map.mpr ⟨e.2, pm.mem_iff.mpr (List.mem_map.mpr ⟨e, he, rfl⟩), by rw [q]; rfl⟩
  refine wpAny_bind (wpAny_newList ?_ (by rw [hvl, sizeLine_eq]; omega))
  have hoL : (s1.heap.push (seqObj "list" vs.toArray 0)).get? s1.heap.objs.size = some (seqObj "list" vs.toArray 0) := Heap.get?_push_size _ rfl
  refine wpAny_bind (wpAny_holding (wpAny_call_entry slot_list_sort ⟨_, hoL, rfl⟩ entry_list_sort
    (list_sort_treeK strKind_oneLt hoL hS.keysOf (fun v₁ v₂ rest e => keyKind_strs (by rw [← e]; exact hS)) (by rw [hvl]; exact h64) fun st' hp' hs => ?_) (args_list_sort _)))
  obtain ⟨ys, g1', g2, g3⟩ := sorted_out_str hS hp' hs
  obtain ⟨c, hc⟩ := sortedHeap_at (vs := vs) (out := (arrOf st').map (·.2)) hoL
  refine ⟨.none, rfl, wpAny_pure ⟨_, rfl, hQ _ s1.heap.objs.size _ c ys (fun b u e => ?_) g1 o1 hz hc g1' (g2.trans hp) g3⟩⟩
  have q := k1 b u e
  have hlt := Heap.lt_size q
  show (sortedHeap _ _ _ _).get? b = some u
  rw [sortedHeap_old (Nat.ne_of_lt hlt) (by rw [size_push']; exact Nat.lt_succ_of_lt hlt)]
  exact Heap.get?_push_of_some _ q
end
/-! ### as rules -/
def SetXO (P : Program) (w : World) (a : Addr) (l : List Str) : HO := .ext fun h => SetX P w h a l
section
variable {X : Cx}
theorem setXO_ok {P : Program} {w : World} {H : Hp} {h : Heap} {a : Addr} {l : List Str} (x : SetX P w h a l) : ObjOk P w H h a (SetXO P w a l) := by
  have ⟨D, e, _⟩ := x
  exact ⟨x, ⟨_, e⟩, fun h1 h2 p k => SetX.at p k⟩
def rSetOfS (P : Program) (w : World) : List V → Hp → VK → Prop := fun xs H Q => ∃ z : Str, xs = [.str z] ∧ z.length + 1 < scanBound ∧ ∀ (p : Addr) (l : List Str), H p = none → l.Nodup → signsIn l z.cps.toList → Q (.ref p) (upd H p (SetXO P w p l))
theorem cr_setX (hc : X.calm = true) : CallR X (.type "set") (rSetOfS X.prog X.w) := by
  intro pins s σ H xs us Q I r h
  obtain ⟨z, rfl, hb, q⟩ := h
  obtain ⟨u, rfl, ru⟩ := vals1 r
  obtain ⟨t, rfl⟩ := ru
  refine call_setX (I.ok.hd hc) hb fun h' tk l hX hl k => ?_
  have nd : l.Nodup := by
    obtain ⟨D, _, _, _, _, nd⟩ := hX
    exact nd
  exact ⟨.ref _, upd H s.heap.objs.size (SetXO X.prog X.w s.heap.objs.size l), I.laid (t' := tk) k (Nat.le_refl _) (setXO_ok hX), rfl, q _ l (I.hok.fresh (Nat.le_refl _)) nd hl⟩
def rSortedX (P : Program) (w : World) : List V → Hp → VK → Prop := fun vs H Q => ∃ (a : Addr) (l : List Str), vs = [.ref a] ∧ H a = some (SetXO P w a l) ∧ l.length < 64 ∧
  ∀ (ys : List Str) (p : Addr), ys.Perm l → sortedS ys = true → H p = none → Q (.ref p) (upd H p (.lst (ys.map V.str)))
theorem cr_sortedX (hc : X.calm = true) : CallR X (.builtin "sorted") (rSortedX X.prog X.w) := by
  intro pins s σ H vs us Q I r h
  obtain ⟨a, l, rfl, ha, h64, q⟩ := h
  have x : SetX X.prog X.w s.heap a l := (I.hok a _ ha).1
  rw [Vals.ref1 r]
  refine sorted_setX x (I.ok.hd hc) h64 fun s' p out c ys k g o hp hg hi pm hs => ?_
  have hlen : (ys.map V.str).length ≤ sizeLine := by
    rw [List.length_map, pm.length_eq, sizeLine_eq]
    omega
  have hn : H p = none := I.hok.fresh hp
  have J : Inv X pins σ (upd H p (.lst (ys.map V.str))) { s with heap := s'.heap, gens := s'.gens, drawn := s'.drawn, toks := s'.toks } :=
    I.call (ch := []) (Un.laid k hp hn) (I.hok.laid k hp ⟨hlen, out.toList, c, vals_of_strs hi, by rw [Array.toArray_toList]; exact hg⟩) (by rw [g]; exact I.bare) (fun _ z => nomatch z)
  have e : s' = { s with heap := s'.heap, gens := s'.gens, drawn := s'.drawn, toks := s'.toks } := by
    cases s'
    cases s
    cases o
    rfl
  rw [e]
  exact ⟨.ref p, _, J, rfl, q ys p pm hs hn⟩
end
end Zq
namespace Zq
open PySem PySem.Spec PyProof.Rows L2
/-! ### an error of one field -/
/-- __init__ of one field -/
def spIni (K : PySem.W.Frag) (f : Str) : Sp := fun vs H Q _ => ∃ (a C : Addr) (v : V), vs = [.ref a, v] ∧ OexC K C ∧ PySem.W.findIn K (.ref C) f = some none ∧ H a = some (exo a C none) ∧
  ∀ dx, H dx = none → dx ≠ a → Q .non (upd (upd H dx (exd dx [(f, v)])) a (exo a C (some dx)))
section
variable {P : Program} {w : World} {K : PySem.W.Frag} {mg : Str → Option Value} {base : Heap}
abbrev sI_BadBook : Stmt := inClass (topS 2) 0
abbrev NscI_BadBook : List Str := ["self", "part"]
theorem scI_BadBook : FnScope ["self", "part"] ["self", "part"] (defScope sI_BadBook) := ⟨rfl, rfl, rfl, by decide +kernel, rfl, by decide +kernel, by decide +kernel⟩
theorem ok_i_BadBook {f : Addr} {fd : FuncData} (F : Fun K "__init__" "BadBook.__init__" sI_BadBook f fd) : FnOk P w K mg base CX0 1 f fd ["self", "part"] (spIni K "part") := by
  refine F.ok scI_BadBook (fun vs H Q E h => ?_) (fun cdv A outer s H vs Q E hr h => ?_)
  · obtain ⟨a, C, v, rfl, _⟩ := h
    rfl
  · obtain ⟨a, C, v, rfl, T, hno, ea, q⟩ := h
    exact ⟨_, (pss_one (ps_ost (pv 0) (pv 1))), ⟨v, rfl, .ref a, rfl, a, C, rfl, T, hno, .inl ⟨ea, fun dx n ne => q dx n ne⟩⟩⟩
end
/-! ### Book.__init__ -/
def spBookI (K : PySem.W.Frag) (CB CE : Addr) : Sp := fun vs H Q E => ∃ (a dx : Addr) (v d : V), vs = [.ref a, v] ∧ H a = some (.ins CB dx []) ∧ Due K H v d ∧
  (d = .non → ∀ H1, Same H H1 → Q .non (upd H1 a (.ins CB dx [("pieces", v)]))) ∧ (d ≠ .non → ∀ H1 e, Same H H1 → H e = none → H1 e = some (.xd [("part", d)]) → E (.ref CE) (some e) H1)
theorem due_list {xs : List V} (h : 1 ≤ xs.length ∧ xs.length ≤ 12) {i : Nat} (hi : i < xs.length) (hb : ∀ k, k < i → badAt xs k = false) (b : badAt xs i = true) : dueL xs = .int (i : Nat) := by
  unfold dueL
  rw [if_pos h, firstBad_some hb hi b]
theorem due_good {xs : List V} (h : 1 ≤ xs.length ∧ xs.length ≤ 12) (hb : ∀ k, k < xs.length → badAt xs k = false) : dueL xs = .non := by
  unfold dueL
  rw [if_pos h, firstBad_none hb]
theorem due_not {xs : List V} (h : ¬ (1 ≤ xs.length ∧ xs.length ≤ 12)) : dueL xs = .str "pieces" := by
  unfold dueL
  rw [if_neg h]
/-- the error's making, of one field -/
theorem mk_field {K : PySem.W.Frag} {C : Addr} {f : Str} {v : V} {H : Hp} {Q : Value → Option Addr → Hp → Prop} (T : OexC K C) (n : PySem.W.findIn K (.ref C) f = some none)
    (h : ∀ H1 d, Same H H1 → H d = none → H1 d = some (.xd [(f, v)]) → Q (.ref C) (some d) H1) :
    [v].length ≤ 1000 ∧ ∀ a, H a = none → spIni K f (.ref a :: ([v] ++ [])) (upd H a (exo a C none)) (fun v H2 => v = .non ∧ ∃ (d : Addr) (fs : List (Str × V)), H2 a = some (exo a C (some d)) ∧ H2 d = some (exd d fs) ∧ H d = none ∧ Q (.ref C) (some d) (upd (del H2 a) d (.xd fs))) (fun _ _ _ => False) := by
  refine ⟨by show 1 ≤ 1000; decide, fun a na => ⟨a, C, v, rfl, T, n, upd_same, fun dx nx ne => ⟨rfl, dx, [(f, v)], upd_same, ?_, ?_, ?_⟩⟩⟩
  · rw [upd_ne ne, upd_same]
  · rw [upd_ne ne] at nx
    exact nx
  · rw [upd_ne ne] at nx
    refine h _ dx (fun b o e => ?_) nx upd_same
    have h1 : b ≠ dx := ne_of_none e nx
    have h2 : b ≠ a := ne_of_none e na
    rw [upd_ne h1]
    unfold del
    rw [if_neg h2, upd_ne h2, upd_ne h1, upd_ne h2]
    exact e
section
variable {P : Program} {w : World} {K : PySem.W.Frag} {mg : Str → Option Value} {base : Heap}
abbrev sBki : Stmt := inClass (topS 25) 0
abbrev NscBki : List Str := ["self", "pieces", "number", "piece"]
theorem scBki : FnScope ["self", "pieces", "number", "piece"] ["self", "pieces"] (defScope sBki) := ⟨rfl, rfl, rfl, by decide +kernel, rfl, by decide +kernel, by decide +kernel⟩
theorem ok_bki {CB CE : Addr} {f : Addr} {fd : FuncData} (F : Fun K "__init__" "Book.__init__" sBki f fd) (T : Txt mg) (GG : Glo mg) (cl : Cls K CB) (nA : NoAttr K CB "pieces")
    (M_BadBook : MkE P w K mg base 1 "BadBook" CE ["self", "part"] (spIni K "part")) (hF : PySem.W.findIn K (.ref CE) "part" = some none)
    (C__is_piece : Own P w K mg base CX0 2 "_is_piece" ["thing"] (spPiece K)) : FnOk P w K mg base (L2.CX P w) 3 f fd ["self", "pieces"] (spBookI K CB CE) := by
  refine F.okX scBki (fun vs H Q E h => ?_) (fun cdv A outer s H vs Q E hr h => ?_)
  · obtain ⟨a, dx, v, d, rfl, _⟩ := h
    rfl
  · obtain ⟨a, dx, v, d, rfl, ha, hd, q0, q1⟩ := h
    refine ⟨_, (pss_cons (ps_if (PW.pt (pw_or (pt_not (pt_val (pe_callB call_isi (by rfl) T.nisinstance (by decide +kernel) (pa_cons (pv 1) (pa_cons (pe_bltn (v := .ty "tuple") (by rfl) T.ntuple (by decide +kernel) rfl) pa_nil))))) (pw_or1 (pt_not (pt_chain op_le op_le pe_int (pe_callB call_len_seq (by rfl) T.nlen (by decide +kernel) (pa_cons (pv 1) pa_nil)) (C8.pe_gc rfl GG.gMOST_PIECES)))))) (pss_one (ps_raise rfl (takes_of rfl rfl rfl rfl) (pmk_mke M_BadBook hr (pa_cons pe_str pa_nil)))) pss_nil)
      (pss_cons (ps_for (passes_of rfl) rfl (pi_enT (by rfl) T.nenumerate (pa_cons (pv 1) pa_nil)) (pg_tup rfl (pgs_cons (pg_name (i := 2) scBki.nd rfl (Or.inl rfl)) (pgs_cons (pg_name (i := 3) scBki.nd rfl (Or.inl rfl)) pgs_nil)))
        (pss_one (ps_if (PW.pt (pw_or (pt_not (pt_val (pe_own C__is_piece hr (pa_cons (pv 3) pa_nil)))) (pw_or1 (pt_cmpR op_in_seq (pv 3) (pe_slice sl_tupA (pv 1) po_none (po_some (pv 2))) rfl)))) (pss_one (ps_raise rfl (takes_of rfl rfl rfl rfl) (pmk_mke M_BadBook hr (pa_cons (pv 2) pa_nil)))) pss_nil)))
      (pss_one (ps_fld (pv 0) (pv 1) rfl)))), ?_⟩
    rcases hd with ⟨a0, xs, rfl, hx, hl, ht, rfl⟩ | ⟨⟨t, ty, kt⟩, rfl⟩
    · refine ⟨.ref a0, rfl, ⟨.ref a0, .ty "tuple", _, _, true, rfl, .ty _, tyX_tup hx, kit_ty (by decide +kernel), true, rfl, ?_⟩⟩
      refine iteF ?_
      refine ⟨.ref a0, rfl, a0, _, rfl, .inr hx, ?_⟩
      refine ⟨_, _, rfl, rfl, _, rfl, ?_⟩
      refine ite2 (fun h1 => ?_) (fun h1 => ?_)
      · refine ⟨_, _, rfl, rfl, _, rfl, ?_⟩
        refine ite2 (fun h2 => ?_) (fun h2 => ?_)
        · have h1 := of_decide_eq_true h1
          have n2 : ¬ ((xs.length : Int) ≤ 12) := fun z => by rw [decide_eq_true z] at h2; cases h2
          have e : dueL xs = .str "pieces" := due_not fun z => n2 (by omega)
          rw [e] at q1
          exact mk_field M_BadBook.err.oex hF fun H1 e s1 n1 h => q1 (fun z => nomatch z) H1 e s1 n1 h
        · have h1 := of_decide_eq_true h1
          have h2 : (xs.length : Int) ≤ 12 := by
            by_cases z : (xs.length : Int) ≤ 12
            · exact z
            · rw [decide_eq_false z] at h2
              exact absurd rfl h2
          have hb : 1 ≤ xs.length ∧ xs.length ≤ 12 := by omega
          refine ⟨.ref a0, rfl, a0, xs, rfl, hx, for_it walk_enT (fun i σ' H' => Same H H' ∧ (∀ k, k < i → badAt xs k = false) ∧ ∃ v2 v3, σ' = [some (.ref a), some (.ref a0), v2, v3])
            ⟨fun _ _ e => e, (fun k hk => absurd hk (Nat.not_lt_zero k)), none, none, rfl⟩ (fun i σ' H' _ pv => same_seqT pv.1 hx) ?_ ?_⟩
          · rintro i x σ' H5 H6 hi ⟨s5, gd, v2, v3, rfl⟩ ⟨t2, u, z, rfl, hT, rfl, eu, ez⟩
            obtain rfl : V.int (i : Nat) = u := Option.some.inj eu
            have s6 := s5.trans (same_new (o := .tup [V.int (i : Nat), z]) hT)
            refine ⟨t2, _, rfl, .inl (.inl upd_same), rfl, _, _, rfl, _, _, rfl, rfl, ?_⟩
            generalize upd H5 t2 (.tup [V.int (i : Nat), z]) = H7 at s6 ⊢
            have ez : xs[i]? = some z := ez
            have zm : z ∈ xs := List.mem_of_getElem? ez
            have zd : xs.getD i .non = z := by rw [List.getD_eq_getElem?_getD, ez]; rfl
            have bx : badAt xs i = (!pieceV z || inV z (xs.take i)) := by unfold badAt; rw [zd]
            have zf : pieceV z = true → flatV z = true := by
              cases z <;> first | (intro q; cases q; done) | (intro _; rfl)
            have raise : badAt xs i = true → ∀ H8, Same H H8 → [V.int (i : Nat)].length ≤ 1000 ∧ ∀ a, H8 a = none → spIni K "part" (.ref a :: ([V.int (i : Nat)] ++ [])) (upd H8 a (exo a CE none)) (fun v H2 => v = .non ∧ ∃ (d : Addr) (fs : List (Str × V)), H2 a = some (exo a CE (some d)) ∧ H2 d = some (exd d fs) ∧ H8 d = none ∧ E (.ref CE) (some d) (upd (del H2 a) d (.xd fs))) (fun _ _ _ => False) := fun b H8 s8 =>
              mk_field M_BadBook.err.oex hF fun H1 e s1 n1 h => by
                have ed := due_list hb hi gd b
                refine q1 (by rw [ed]; exact fun z => nomatch z) H1 e (s8.trans s1) ?_ (by rw [ed]; exact h)
                cases q : H e with
                | none => rfl
                | some o =>
                  rw [s8 _ _ q] at n1
                  cases n1
            refine ⟨z, rfl, z, rfl, (ht z zm).same s6, fun H8 s8 => ⟨_, rfl, ?_⟩⟩
            have s8 := s6.trans s8
            refine ite2 (fun hp => ?_) (fun hp => ?_)
            · refine ⟨.int (i : Nat), rfl, raise ?_ H8 s8⟩
              rw [bx, show (!pieceV z) = true from hp]
              rfl
            · have hp : pieceV z = true := by
                cases q : pieceV z with
                | true => rfl
                | false => rw [q] at hp; exact absurd rfl hp
              have pre : (xs.take i).all flatV = true := by
                rw [List.all_eq_true]
                intro y hy
                obtain ⟨k, hk⟩ := List.mem_iff_getElem?.mp hy
                have hki : k < i := by
                  have := (List.getElem?_eq_some_iff.mp hk).1
                  rw [List.length_take] at this
                  omega
                rw [List.getElem?_take, if_pos hki] at hk
                have g := gd k hki
                unfold badAt at g
                rw [List.getD_eq_getElem?_getD, hk] at g
                have g : (!pieceV y || inV y (xs.take k)) = false := g
                cases y <;> first | rfl | (rw [show pieceV _ = false from rfl] at g; cases g)
              have cut : cutV xs none (some (i : Int)) = xs.take i := by
                unfold cutV
                rw [HT.sIx_none, HT.sIx_nat, Nat.min_eq_left (Nat.le_of_lt hi), List.drop_zero, Nat.sub_zero]
              refine ⟨z, rfl, .ref a0, rfl, .int (i : Nat), rfl, (i : Int), rfl, a0, xs, rfl, same_seqT s8 hx, (fun w => ?_), (fun _ p np => ⟨p, xs.take i, rfl, .inr (.inl (.inl (by rw [cut]; exact upd_same))), zf hp, pre, ?_⟩)⟩
              · rw [HT.sIx_nat, Nat.min_eq_left (Nat.le_of_lt hi)] at w
                exact absurd w.2 (Nat.ne_of_lt hi)
              · have s9 := s8.trans (same_new (o := .tup (cutV xs none (some (i : Int)))) np)
                refine ⟨_, rfl, ?_⟩
                refine ite2 (fun hin => ?_) (fun hin => ?_)
                · refine ⟨.int (i : Nat), rfl, raise ?_ _ s9⟩
                  rw [bx, show inV z (xs.take i) = true from hin, Bool.or_true]
                · refine ⟨s9, fun k hk => ?_, _, _, rfl⟩
                  by_cases e : k = i
                  · subst e
                    rw [bx, hp, show inV z (xs.take k) = false from Bool.eq_false_iff.mpr hin]
                    rfl
                  · exact gd k (by omega)
          · rintro σ' H5 ⟨s5, gd, v2, v3, rfl⟩
            exact ⟨.ref a0, rfl, .ref a, rfl, a, CB, dx, [], rfl, s5 _ _ ha, cl, nA, (by decide), q0 (due_good hb gd) H5 s5⟩
      · have n1 : ¬ ((1 : Int) ≤ xs.length) := fun z => h1 (decide_eq_true z)
        have e : dueL xs = .str "pieces" := due_not fun z => n1 (by omega)
        rw [e] at q1
        exact ⟨false, rfl, mk_field M_BadBook.err.oex hF fun H1 e s1 n1 h => q1 (fun z => nomatch z) H1 e s1 n1 h⟩
    · refine ⟨v, rfl, ⟨v, .ty "tuple", _, _, false, rfl, .ty _, ty, kt, false, rfl, ?_⟩⟩
      refine iteT ?_
      exact mk_field M_BadBook.err.oex hF fun H1 e s1 n1 h => q1 (fun z => nomatch z) H1 e s1 n1 h
end
end Zq
namespace Zq
open PySem PySem.Spec PyProof.Rows L2
open PySem.Froz (sing)
/-! ### books, by their pieces -/
def GoodP (zs : List Str) : Prop := 1 ≤ zs.length ∧ zs.length ≤ 12 ∧ ∀ z ∈ zs, pieceV (.str z) = true
def BkAt (K : PySem.W.Frag) (CB : Addr) (H : Hp) (a : Addr) (zs : List Str) : Prop := ∃ dx p, H a = some (.ins CB dx [("pieces", .ref p)]) ∧ SqT K H p (zs.map V.str)
theorem BkAt.same {K : PySem.W.Frag} {CB : Addr} {H H' : Hp} {a : Addr} {zs : List Str} (s : Same H H') (x : BkAt K CB H a zs) : BkAt K CB H' a zs := by
  obtain ⟨dx, p, e, h⟩ := x
  exact ⟨dx, p, s _ _ e, same_seqT s h⟩
/-- what the module tells of Book, but for its defs -/
structure BookC (K : PySem.W.Frag) (mg : Str → Option Value) (CB : Addr) : Prop where
  gC : mg "Book" = some (.ref CB)
  cl : Cls K CB
  nA : NoAttr K CB "pieces"
  cA : PySem.W.findIn K (.ref CB) "__class__" = some (some (.builtin "object.__class__"))
  cG : PySem.W.specialIn K (.builtin "object.__class__") "__get__" = some (some (.builtin "getset_descriptor.__get__"))
  cT : PySem.W.takesIn K (.builtin "object.__class__") = some true
  cO : PySem.W.mroIn K CB (.type "object") = some true
theorem kit_self {K : PySem.W.Frag} {C : Addr} : PySem.W.kitOne K (.ref C) (.ref C) = some true := by
  unfold PySem.W.kitOne
  rw [if_pos (by exact beq_self_eq_true _)]
theorem BookC.ty {K : PySem.W.Frag} {mg : Str → Option Value} {CB : Addr} (B : BookC K mg CB) {H : Hp} {a : Addr} {zs : List Str} (x : BkAt K CB H a zs) : TyX K H (.ref a) (.ref CB) := by
  obtain ⟨dx, p, e, _⟩ := x
  exact .base (.ins e B.cl B.cA B.cG B.cT B.cO)
/-! ### texts, laid -/
theorem piece_log {z : Str} (h : pieceV (.str z) = true) : logB z = true ∧ 1 ≤ z.length ∧ z.length ≤ 8 := by
  unfold pieceV at h
  rw [Bool.and_eq_true, Bool.and_eq_true, decide_eq_true_eq, decide_eq_true_eq] at h
  exact ⟨h.1, h.2.1, h.2.2⟩
theorem abc_small : ∀ c ∈ abc.cps.toList, c < 1114112 := by decide +kernel
theorem log_ok {z : Str} (h : logB z = true) : PyData.strOk z = true := by
  unfold PyData.strOk
  rw [Array.all_eq_true']
  intro c hc
  have := List.all_eq_true.mp h c (Array.mem_toList_iff.mpr hc)
  exact decide_eq_true (abc_small c (of_decide_eq_true this))
theorem dp_strs {K : PySem.W.Frag} {H : Hp} : ∀ zs : List Str, DpAll K H (zs.map V.str) (zs.map PyData.str)
  | [] => .nil
  | z :: zs => .cons (.str z) (dp_strs zs)
theorem lay_strs : ∀ {zs : List Str}, (∀ z ∈ zs, PyData.strOk z = true) → PyData.canLayAll0 (zs.map PyData.str) = true
  | [], _ => rfl
  | z :: zs, h => by
    rw [List.map_cons, PyData.canLayAll0, PyData.canLay0, h z List.mem_cons_self, lay_strs fun y hy => h y (List.mem_cons_of_mem _ hy)]
    rfl
theorem depth_strs : ∀ zs : List Str, PyData.depthAll (zs.map PyData.str) = 0
  | [] => rfl
  | z :: zs => by
    rw [List.map_cons, PyData.depthAll, depth_strs zs]
    rfl
theorem shaped_strs {zs : List Str} (h : ∀ z ∈ zs, PyData.strOk z = true) : SeqAt.shaped (.tuple (zs.map PyData.str)) = true := by
  unfold SeqAt.shaped
  rw [PyData.canLay0, lay_strs h, PyData.depth, depth_strs]
  rfl
theorem eqv_strs : ∀ zs ws : List Str, PyData.eqvAll (zs.map PyData.str) (ws.map PyData.str) = decide (zs = ws)
  | [], [] => rfl
  | [], w :: ws => by simp [PyData.eqvAll]
  | z :: zs, [] => by simp [PyData.eqvAll]
  | z :: zs, w :: ws => by
    rw [List.map_cons, List.map_cons, PyData.eqvAll, eqv_strs zs ws, PyData.eqv, Bool.eq_iff_iff]
    simp
theorem good_ok {zs : List Str} (h : GoodP zs) : ∀ z ∈ zs, PyData.strOk z = true := fun z hz => log_ok (piece_log (h.2.2 z hz)).1
/-! ### Book.__eq__ -/
def spEqB (K : PySem.W.Frag) (CB : Addr) : Sp := fun vs H Q _ => ∃ (a : Addr) (y : V) (zs : List Str), vs = [.ref a, y] ∧ BkAt K CB H a zs ∧ GoodP zs ∧
  ((∃ (b : Addr) (ws : List Str), y = .ref b ∧ BkAt K CB H b ws ∧ GoodP ws ∧ ∀ H', Same H H' → Q (.bl (decide (zs = ws))) H') ∨ (∃ t, TyX K H y t ∧ PySem.W.kitOne K t (.ref CB) = some false ∧ ∀ H', Same H H' → Q (.bl false) H'))
def lets (zs : List Str) : Str := Txt.join "" ((abc.cps.toList.filter fun c => decide (c ∈ (Txt.join "" zs).cps.toList)).map sing)
def spLets (K : PySem.W.Frag) (CB : Addr) : Sp := fun vs H Q _ => ∃ (a : Addr) (zs : List Str), vs = [.ref a] ∧ BkAt K CB H a zs ∧ GoodP zs ∧ ∀ H', Same H H' → Q (.str (lets zs)) H'
theorem sum_le {n : Nat} : ∀ {zs : List Str}, (∀ z ∈ zs, z.length ≤ n) → (zs.map (·.length)).sum ≤ zs.length * n
  | [], _ => by simp
  | z :: zs, h => by
    have := sum_le (zs := zs) fun y hy => h y (List.mem_cons_of_mem _ hy)
    have := h z List.mem_cons_self
    rw [List.map_cons, List.sum_cons, List.length_cons, Nat.add_mul]
    omega
theorem good_sum {zs : List Str} (h : GoodP zs) : (zs.map (·.length)).sum ≤ 96 := by
  have := sum_le (n := 8) fun z hz => (piece_log (h.2.2 z hz)).2.2
  have := Nat.mul_le_mul_right 8 h.2.1
  omega
end Zq
namespace Zq
open PySem PySem.Spec PyProof.Rows L2
open PySem.Froz (sing)
/-! ### the letters, twice told -/
theorem asc_same : ∀ {l m : List Nat}, l.Pairwise (· < ·) → m.Pairwise (· < ·) → (∀ c, c ∈ l ↔ c ∈ m) → l = m
  | [], [], _, _, _ => rfl
  | [], y :: m, _, _, h => by
    have := (h y).mpr List.mem_cons_self
    cases this
  | x :: l, [], _, _, h => by
    have := (h x).mp List.mem_cons_self
    cases this
  | x :: l, y :: m, hl, hm, h => by
    obtain ⟨a1, a2⟩ := List.pairwise_cons.mp hl
    obtain ⟨b1, b2⟩ := List.pairwise_cons.mp hm
    have e : x = y := by
      rcases List.mem_cons.mp ((h x).mp List.mem_cons_self) with z | z
      · exact z
      · rcases List.mem_cons.mp ((h y).mpr List.mem_cons_self) with u | u
        · exact u.symm
        · have := b1 x z
          have := a1 y u
          omega
    subst e
    rw [asc_same a2 b2 fun c => ⟨fun hc => ?_, fun hc => ?_⟩]
    · have := a1 c hc
      rcases List.mem_cons.mp ((h c).mp (List.mem_cons_of_mem _ hc)) with z | z
      · omega
      · exact z
    · have := b1 c hc
      rcases List.mem_cons.mp ((h c).mpr (List.mem_cons_of_mem _ hc)) with z | z
      · omega
      · exact z
theorem lt_sing {c d : Nat} : ltCps (sing c).cps.toList (sing d).cps.toList = decide (c < d) := by
  show (decide (c < d) || (c == d && ltCps [] [])) = decide (c < d)
  rw [show ltCps [] [] = false from rfl, Bool.and_false, Bool.or_false]
theorem asc_of : ∀ {ns : List Nat}, sortedS (ns.map sing) = true → ns.Nodup → ns.Pairwise (· < ·)
  | [], _, _ => List.Pairwise.nil
  | [c], _, _ => List.pairwise_singleton _ _
  | c :: d :: ns, h, nd => by
    have h : (!ltCps (sing d).cps.toList (sing c).cps.toList && risingS (sing d) (ns.map sing)) = true := h
    rw [Bool.and_eq_true, lt_sing, Bool.not_eq_true', decide_eq_false_iff_not] at h
    obtain ⟨n1, n2⟩ := List.nodup_cons.mp nd
    have ih := asc_of (ns := d :: ns) h.2 n2
    have cd : c ≠ d := fun z => n1 (by rw [z]; exact List.mem_cons_self)
    refine List.pairwise_cons.mpr ⟨fun x hx => ?_, ih⟩
    rcases List.mem_cons.mp hx with z | z
    · have := h.1
      omega
    · have := (List.pairwise_cons.mp ih).1 x z
      have := h.1
      omega
theorem abc_asc : abc.cps.toList.Pairwise (· < ·) := by decide +kernel
theorem mem_joinL {c : Nat} : ∀ {ps : List (List Nat)}, c ∈ TL.joinL [] ps → ∃ p ∈ ps, c ∈ p
  | [], h => by cases h
  | [p], h => ⟨p, List.mem_cons_self, h⟩
  | p :: q :: r, h => by
    have h : c ∈ p ++ ([] ++ TL.joinL [] (q :: r)) := h
    rw [List.nil_append] at h
    rcases List.mem_append.mp h with h | h
    · exact ⟨p, List.mem_cons_self, h⟩
    · obtain ⟨p', h1, h2⟩ := mem_joinL h
      exact ⟨p', List.mem_cons_of_mem _ h1, h2⟩
theorem join_abc {zs : List Str} (h : GoodP zs) {c : Nat} (hc : c ∈ (Txt.join "" zs).cps.toList) : c ∈ abc.cps.toList := by
  rw [TL.join_eq] at hc
  have hc : c ∈ TL.tl (Str.join "" zs) := hc
  rw [TL.tl_join] at hc
  obtain ⟨p, hp, hcp⟩ := mem_joinL hc
  obtain ⟨z, hz, rfl⟩ := List.mem_map.mp hp
  exact of_decide_eq_true (List.all_eq_true.mp (piece_log (h.2.2 z hz)).1 c hcp)
theorem own_lets {zs ys l : List Str} (h : GoodP zs) (nd : l.Nodup) (si : signsIn l (Txt.join "" zs).cps.toList) (pm : ys.Perm l) (so : sortedS ys = true) : Txt.join "" ys = lets zs := by
  have form : ∀ {ks : List Str}, (∀ k ∈ ks, ∃ c, k = sing c) → ∃ ns : List Nat, ks = ns.map sing := fun {ks} => by
    induction ks with
    | nil => exact fun _ => ⟨[], rfl⟩
    | cons k ks ih =>
      intro hk
      obtain ⟨ns, e⟩ := ih fun y hy => hk y (List.mem_cons_of_mem _ hy)
      obtain ⟨c, rfl⟩ := hk k List.mem_cons_self
      exact ⟨c :: ns, by rw [e]; rfl⟩
  obtain ⟨ns, rfl⟩ := form (ks := ys) fun k hk => by
    obtain ⟨c, _, e⟩ := (si.2 k).mp (pm.mem_iff.mp hk)
    exact ⟨c, e⟩
  have inj : ∀ {c d : Nat}, sing c = sing d → c = d := fun {c d} e => by
    have e : [c] = [d] := congrArg (fun y : Str => y.cps.toList) e
    exact (List.cons.inj e).1
  have nn : ns.Nodup := by
    have := pm.nodup_iff.mpr nd
    exact List.Pairwise.of_map sing (fun a b hab e => hab (congrArg sing e)) this
  have e : ns = abc.cps.toList.filter fun c => decide (c ∈ (Txt.join "" zs).cps.toList) := by
    refine asc_same (asc_of so nn) (List.Pairwise.filter _ abc_asc) fun c => ?_
    rw [List.mem_filter, decide_eq_true_eq]
    constructor
    · intro hc
      obtain ⟨d, hd, e⟩ := (si.2 (sing c)).mp (pm.mem_iff.mp (List.mem_map.mpr ⟨c, hc, rfl⟩))
      rw [inj e]
      exact ⟨join_abc h hd, hd⟩
    · rintro ⟨_, hc⟩
      obtain ⟨d, hd, e⟩ := List.mem_map.mp (pm.mem_iff.mpr ((si.2 (sing c)).mpr ⟨c, hc, rfl⟩))
      rw [← inj e]
      exact hd
  rw [e]
  rfl
theorem lets_few {zs l : List Str} (h : GoodP zs) (nd : l.Nodup) (si : signsIn l (Txt.join "" zs).cps.toList) : l.length < 64 := by
  have h1 : l.length ≤ (abc.cps.toList.map sing).length := len_of_mem nd fun k hk => by
    obtain ⟨c, hc, e⟩ := (si.2 k).mp hk
    exact List.mem_map.mpr ⟨c, join_abc h hc, e.symm⟩
  have h2 : (abc.cps.toList.map sing).length = 8 := by decide +kernel
  omega
/-! ### the pieces of a book, once more -/
theorem due_pieces {xs : List V} (h : dueL xs = .non) : ∃ zs : List Str, xs = zs.map V.str ∧ GoodP zs := by
  unfold dueL at h
  by_cases b : 1 ≤ xs.length ∧ xs.length ≤ 12
  · rw [if_pos b] at h
    have fb : firstBad xs = none := by
      cases e : firstBad xs with
      | none => rfl
      | some i => rw [e] at h; cases h
    unfold firstBad at fb
    rw [List.find?_range_eq_none] at fb
    have pv : ∀ x ∈ xs, pieceV x = true := fun x hx => by
      obtain ⟨i, hi⟩ := List.mem_iff_getElem?.mp hx
      have g := fb i (List.getElem?_eq_some_iff.mp hi).1
      unfold badAt at g
      rw [List.getD_eq_getElem?_getD, hi] at g
      have g : (!(!pieceV x || inV x (xs.take i))) = true := by simpa using g
      cases q : pieceV x with
      | true => rfl
      | false => rw [q] at g; cases g
    have form : ∀ {ks : List V}, (∀ k ∈ ks, pieceV k = true) → ∃ zs : List Str, ks = zs.map V.str := fun {ks} => by
      induction ks with
      | nil => exact fun _ => ⟨[], rfl⟩
      | cons k ks ih =>
        intro hk
        obtain ⟨zs, e⟩ := ih fun y hy => hk y (List.mem_cons_of_mem _ hy)
        have p := hk k List.mem_cons_self
        cases k with
        | str z => exact ⟨z :: zs, by rw [e]; rfl⟩
        | _ => cases p
    obtain ⟨zs, rfl⟩ := form pv
    rw [List.length_map] at b
    exact ⟨zs, rfl, b.1, b.2, fun z hz => pv _ (List.mem_map.mpr ⟨z, hz, rfl⟩)⟩
  · rw [if_neg b] at h
    cases h
theorem pieceV_str {y : Str} : pieceV (.str y) = (logB y && (decide (1 ≤ y.length) && decide (y.length ≤ 8))) := rfl
end Zq
namespace Zq
open PySem PySem.Spec PyProof.Rows L2
open PySem.Froz (sing)
/-! ### Book(..) -/
structure MkB (P : Program) (w : World) (K : PySem.W.Frag) (mg : Str → Option Value) (base : Heap) (CB CE : Addr) : Prop where
  ex : ∃ (f : Addr) (fd : FuncData), L2.Mk K CB f ∧ FnOk P w K mg base (L2.CX P w) 3 f fd ["self", "pieces"] (spBookI K CB CE) ∧ Binds K fd ["self", "pieces"] []
section
variable {X : Cx} {k' : Nat} {CB CE : Addr} {e : Expr} {es : List Expr} {ta : TA} {p pos : Pos} {E : L2.St → XK}
theorem pe_mkB (M : MkB X.prog X.w X.K X.mg X.base CB CE) (hm : X.mg "Book" = some (.ref CB)) (hr : Room k' X.A) (hx : ∀ σ, PassesAt (L2.CX X.prog X.w) X σ (E σ)) (ha : PA X (e :: es) ta) (hk : 4 ≤ k' := by first | decide | omega) (hg : Gl X "Book" := by rfl)
    (he : starEach (e :: es) X.env = (false, eval e X.env) :: starEach es X.env := by rfl) (hpl : (backTo pos (starEach es X.env)).any (·.1) = false := by rfl) :
    PE X (.Call (.Name "Book" p) (e :: es) [] pos) (tMakeS CB (spBookI X.K CB CE) E ta) := by
  obtain ⟨f, fd, M1, F, hb⟩ := M.ex
  exact pe_makeS M1 F (hr.mono hk) hg hm hb hx ha (by decide) he hpl
theorem passB : PassesAt (L2.CX X.prog X.w) X σ E0 := fun pins H s e s' I c => passL pins σ H s e s' I c
end
/-- a book made of pieces that are due none -/
theorem mk_book {K : PySem.W.Frag} {CB CE : Addr} {H : Hp} {v : V} {zs : List Str} {a : Addr} {E : XK} {R : Addr → Hp → Prop} (e : v = .ref a) (h : SqT K H a (zs.map V.str)) (hz : zs.length ≤ 50000) (hd : Due K H v .non)
    (q : ∀ (x : Addr) (H1 : Hp), Same H H1 → BkAt K CB H1 x zs → R x H1) : ∀ x dx, H x = none → H dx = none → dx ≠ x → spBookI K CB CE (.ref x :: [v]) (upd (upd H dx (.own x)) x (.ins CB dx [])) (fun v H2 => v = .non ∧ R x H2) E := fun x dx nx ndx ne => by
  subst e
  have s1 : Same H (upd (upd H dx (.own x)) x (.ins CB dx [])) := (same_new ndx).trans (same_new (by rw [upd_ne (Ne.symm ne)]; exact nx))
  refine ⟨x, dx, .ref a, .non, rfl, upd_same, hd.same s1, fun _ H1 s2 => ⟨rfl, q x _ (fun b o e => ?_) ⟨dx, a, upd_same, ?_⟩⟩, fun z => absurd rfl z⟩
  · rw [upd_ne (ne_of_none e nx)]
    exact s2 _ _ (s1 _ _ e)
  · have h2 := same_seqT s2 (same_seqT s1 h)
    have nxa : SqT K H a (zs.map V.str) := h
    rcases nxa with (z | ⟨o, z⟩) | z
    · refine .inl (.inl ?_)
      rw [upd_ne (ne_of_none z nx)]
      exact s2 _ _ (s1 _ _ z)
    · refine .inl (.inr ⟨o, ?_⟩)
      rw [upd_ne (ne_of_none z nx)]
      exact s2 _ _ (s1 _ _ z)
    · exact .inr z
theorem due_at {K : PySem.W.Frag} {H : Hp} {v : V} (h : Due K H v .non) : ∃ (a : Addr) (zs : List Str), v = .ref a ∧ SqT K H a (zs.map V.str) ∧ GoodP zs := by
  rcases h with ⟨a, xs, e, h, hl, ht, hd⟩ | ⟨_, hd⟩
  · obtain ⟨zs, rfl, g⟩ := due_pieces hd.symm
    exact ⟨a, zs, e, h, g⟩
  · cases hd
theorem due_kind {K : PySem.W.Frag} {H : Hp} {v d : V} (h : Due K H v d) : d = .non ∨ (∃ i, d = .int i) ∨ d = .str "pieces" := by
  rcases h with ⟨a, xs, e, h, hl, ht, rfl⟩ | ⟨_, rfl⟩
  · unfold dueL
    split
    · split
      · exact .inl rfl
      · exact .inr (.inl ⟨_, rfl⟩)
    · exact .inr (.inr rfl)
  · exact .inr (.inr rfl)
end Zq
namespace Zq
open PySem PySem.Spec PyProof.Rows L2
open PySem.Froz (sing)
/-! ### list(s), s a text -/
section
variable {X : Cx}
def rListS : List V → Hp → VK → Prop := fun xs H Q => ∃ z : Str, xs = [.str z] ∧ z.length ≤ sizeLine ∧ ∀ p, H p = none → Q (.ref p) (upd H p (.lst ((z.cps.toList.map sing).map V.str)))
theorem strs_by : ∀ {us : List Value} {ks : List Str}, us.length = ks.length → (∀ (j : Nat) (v : Value), us[j]? = some v → ∃ (x : Str) (t : Tok), ks[j]? = some x ∧ v = Value.str x t) → StrsAre us ks
  | [], [], _, _ => .nil
  | [], _ :: _, hl, _ => by simp at hl
  | _ :: _, [], hl, _ => by simp at hl
  | u :: us, k :: ks, hl, h => by
    obtain ⟨x, t, e1, e2⟩ := h 0 u rfl
    obtain rfl : k = x := Option.some.inj e1
    subst e2
    exact .cons _ _ (strs_by (by simpa using hl) fun j v e => h (j + 1) v (by simpa using e))
theorem cr_listS (hc : X.calm = true) : CallR X (.type "list") rListS := by
  intro pins s σ H xs us Q I r h
  obtain ⟨z, rfl, hz, q⟩ := h
  obtain ⟨u, rfl, ru⟩ := vals1 r
  obtain ⟨t, rfl⟩ := ru
  refine call_list_str (I.ok.hd hc) z t (fun h' tk acc c k hS hacc => ?_) hz
  have sa : StrsAre acc.toList (z.cps.toList.map sing) := by
    refine strs_by (by rw [Array.length_toList, hacc.1, List.length_map, Array.length_toList]) fun j v hv => ?_
    obtain ⟨c, u, hc, rfl⟩ := hacc.2 j v (by simpa using hv)
    exact ⟨sing c, u, by rw [List.getElem?_map, Array.getElem?_toList, hc]; rfl, rfl⟩
  have hl : ((z.cps.toList.map sing).map V.str).length ≤ sizeLine := by
    rw [List.length_map, List.length_map, Array.length_toList]
    exact hz
  exact ⟨.ref _, upd H s.heap.objs.size _, I.laid (t' := tk) (o := .lst ((z.cps.toList.map sing).map V.str)) k (Nat.le_refl _) ⟨hl, acc.toList, c, vals_of_strs sa, by rw [Array.toArray_toList]; exact hS⟩, rfl, q _ (I.hok.fresh (Nat.le_refl _))⟩
end
/-! ### what is made behind a told heap -/
section
variable {K : PySem.W.Frag}
theorem dp_thi {G : Hp} {v : V} {d : PyData} (h : Dp K G v d) (n : narrow d = true) : ThI K G v := by
  have ty := tyX_of h
  cases h with
  | str x => exact .inl ⟨x, rfl, of_decide_eq_true (by rw [narrow] at n; exact n)⟩
  | non => exact .inr ⟨⟨_, ty, kit_ty (show kitB "NoneType" "str" = some false by decide +kernel)⟩, fun z e => nomatch e⟩
  | bl b => exact .inr ⟨⟨_, ty, kit_ty (show kitB "bool" "str" = some false by decide +kernel)⟩, fun z e => nomatch e⟩
  | int i => exact .inr ⟨⟨_, ty, kit_ty (show kitB "int" "str" = some false by decide +kernel)⟩, fun z e => nomatch e⟩
  | lst a b => exact .inr ⟨⟨_, ty, kit_ty (show kitB "list" "str" = some false by decide +kernel)⟩, fun z e => nomatch e⟩
  | tup a b => exact .inr ⟨⟨_, ty, kit_ty (show kitB "tuple" "str" = some false by decide +kernel)⟩, fun z e => nomatch e⟩
theorem odd_thi {G : Hp} {v : V} (h : Odd K G v) : ThI K G v := by
  rcases h with ⟨d, a, _, n, _⟩ | ⟨p, kvs, rfl, g, _⟩
  · exact dp_thi a n
  · exact .inr ⟨⟨_, .base (.dK g), kit_ty (by decide +kernel)⟩, fun z e => nomatch e⟩
theorem odd_due {G : Hp} {v : V} (h : Odd K G v) : ∃ d, Due K G v d := by
  rcases h with ⟨d, a, _, n, _⟩ | ⟨p, kvs, rfl, g, _⟩
  · have ty := tyX_of a
    cases a with
    | str x => exact ⟨_, .inr ⟨⟨_, ty, kit_ty (show kitB "str" "tuple" = some false by decide +kernel)⟩, rfl⟩⟩
    | non => exact ⟨_, .inr ⟨⟨_, ty, kit_ty (show kitB "NoneType" "tuple" = some false by decide +kernel)⟩, rfl⟩⟩
    | bl b => exact ⟨_, .inr ⟨⟨_, ty, kit_ty (show kitB "bool" "tuple" = some false by decide +kernel)⟩, rfl⟩⟩
    | int i => exact ⟨_, .inr ⟨⟨_, ty, kit_ty (show kitB "int" "tuple" = some false by decide +kernel)⟩, rfl⟩⟩
    | lst a b => exact ⟨_, .inr ⟨⟨_, ty, kit_ty (show kitB "list" "tuple" = some false by decide +kernel)⟩, rfl⟩⟩
    | @tup p xs ds a b =>
      refine ⟨_, .inl ⟨p, xs, rfl, a, ?_, fun x hx => ?_, rfl⟩⟩
      · have := narrow_len n
        rw [dpAll_len b]
        exact this
      · obtain ⟨i, hi⟩ := List.mem_iff_getElem?.mp hx
        obtain ⟨d, e1, e2⟩ := dpAll_get b hi
        exact dp_thi e2 (narrow_get n e1)
  · exact ⟨_, .inr ⟨⟨_, .base (.dK g), kit_ty (by decide +kernel)⟩, rfl⟩⟩
/-- behind the heap H0 -/
def MkG (h : Addr) (H0 : Hp) (σ : L2.St) (P : Hp → V → Prop) (t : TE) : Prop := ∀ H Q, Go h H0 H → (∀ v H', Go h H H' → P H' v → Q v H') → t σ H Q
def MkAG (h : Addr) (H0 : Hp) (σ : L2.St) (P : Hp → V → Prop) (t : TA) (n : Nat) : Prop := ∀ H Q, Go h H0 H → (∀ vs H', Go h H H' → vs.length = n → (∀ v ∈ vs, P H' v) → Q vs H') → t σ H Q
section
variable {h : Addr} {H0 : Hp} {σ : L2.St} {P P' : Hp → V → Prop} {te tf : TE} {ta : TA} {n m : Nat}
theorem Mk.g (a : Mk h σ P te) : MkG h H0 σ P te := fun H Q g q => a H Q g.hand q
theorem MkAG.nil : MkAG h H0 σ P tNil 0 := fun H Q g q => q [] H (Go.refl g.hand) rfl (fun _ z => nomatch z)
theorem MkAG.cons (st : Stays h P) (a : MkG h H0 σ P te) (b : MkAG h H0 σ P ta n) : MkAG h H0 σ P (tCons te ta) (n + 1) := fun H Q g q =>
  a H _ g fun v H1 g1 p1 => b H1 _ (g.trans g1) fun vs H2 g2 e p2 => q (v :: vs) H2 (g1.trans g2) (by rw [List.length_cons, e]) fun y hy => by
    rcases List.mem_cons.mp hy with rfl | hy
    · exact st _ _ _ g2 p1
    · exact p2 y hy
theorem MkG.imp (a : MkG h H0 σ P te) (i : ∀ H v, P H v → P' H v) : MkG h H0 σ P' te := fun H Q x q => a H Q x fun v H' g p => q v H' g (i _ _ p)
theorem MkG.lst (st : Stays h P) (a : MkAG h H0 σ P ta n) (hn : n ≤ 50000) (pp : ∀ H p vs, H p = some (.lst vs) → p ≠ h → vs.length = n → (∀ v ∈ vs, P H v) → P' H (.ref p)) : MkG h H0 σ P' (tLst ta) := fun H Q x q =>
  a H _ x fun vs H1 g1 e p1 => ⟨Nat.le_of_lt (sz_lt (by omega)), fun p np => q _ _ (g1.then_new np) (pp _ p vs upd_same (g1.hand.ne np) e fun v hv => st _ _ _ (Go.new g1.hand np) (p1 v hv))⟩
theorem MkG.tup (st : Stays h P) (a : MkAG h H0 σ P ta n) (hn : n ≤ 50000) (pp : ∀ H p vs, H p = some (.tup vs) → p ≠ h → vs.length = n → (∀ v ∈ vs, P H v) → P' H (.ref p)) : MkG h H0 σ P' (tTup ta) := fun H Q x q =>
  a H _ x fun vs H1 g1 e p1 => ⟨Nat.le_of_lt (sz_lt (by omega)), fun p np => q _ _ (g1.then_new np) (pp _ p vs upd_same (g1.hand.ne np) e fun v hv => st _ _ _ (Go.new g1.hand np) (p1 v hv))⟩
end
/-- a tuple of things, at most n -/
def PT (K : PySem.W.Frag) (h : Addr) (n : Nat) : Hp → V → Prop := fun H v => ∃ p xs, v = .ref p ∧ p ≠ h ∧ SqT K (cut h H) p xs ∧ xs.length ≤ n ∧ ∀ x ∈ xs, ThI K (cut h H) x
/-- a thing, off the hand -/
def PI (K : PySem.W.Frag) (h : Addr) : Hp → V → Prop := fun H v => v ≠ .ref h ∧ ThI K (cut h H) v
/-- what a book may be made of, something being due -/
def PD (K : PySem.W.Frag) (h : Addr) : Hp → V → Prop := fun H v => v ≠ .ref h ∧ ∃ d, Due K (cut h H) v d
theorem st_pt {h : Addr} {n : Nat} : Stays h (PT K h n) := fun _ _ _ g ⟨p, xs, e, np, hx, hl, ht⟩ => ⟨p, xs, e, np, same_seqT (go_cut g) hx, hl, fun x hx => (ht x hx).same (go_cut g)⟩
theorem st_pd {h : Addr} : Stays h (PD K h) := fun _ _ _ g ⟨n, d, x⟩ => ⟨n, d, x.same (go_cut g)⟩
theorem pt_pd {h : Addr} {n : Nat} (hn : n ≤ 50000) : ∀ H v, PT K h n H v → PD K h H v := fun H v ⟨p, xs, e, np, hx, hl, ht⟩ => ⟨fun z => np (by rw [e] at z; exact V.ref.inj z), _, .inl ⟨p, xs, e, hx, by omega, ht, rfl⟩⟩
theorem po_pd {h : Addr} : ∀ H v, POdd K h H v → PD K h H v := fun H v ⟨n, o⟩ => ⟨n, odd_due o⟩
theorem new_pt {h p : Addr} {n : Nat} {H : Hp} {xs : List V} (x : IsHand H h) (np : H p = none) (hl : xs.length ≤ n) (ht : ∀ y ∈ xs, ThI K (cut h H) y) : PT K h n (upd H p (.tup xs)) (.ref p) := by
  have ne := x.ne np
  refine ⟨p, xs, rfl, ne, .inl (.inl (by rw [cut_ne ne]; exact upd_same)), hl, fun y hy => (ht y hy).same (go_cut (Go.new x np))⟩
section
variable {h : Addr} {H0 : Hp} {σ : L2.St} {te tf : TE} {n m : Nat}
theorem mg_cat (a : MkG h H0 σ (PT K h n) te) (b : MkG h H0 σ (PT K h m) tf) (hs : n + m ≤ 50000) : MkG h H0 σ (PT K h (n + m)) (tOp (rCatA K) te tf) := fun H Q g q =>
  a H _ g fun v H1 g1 p1 => b H1 _ (g.trans g1) fun u H2 g2 p2 => by
    obtain ⟨a, xs, rfl, na, hx, lx, tx⟩ := st_pt _ _ _ g2 p1
    obtain ⟨b, ys, rfl, nb, hy, ly, ty⟩ := p2
    refine ⟨a, b, xs, ys, rfl, rfl, same_seqT cut_same hx, same_seqT cut_same hy, Nat.le_of_lt (sz_lt (by omega)), fun _ => ?_, fun _ _ => ?_, fun _ _ p np => ?_⟩
    · exact q _ _ (g1.trans g2) ⟨b, ys, rfl, nb, hy, by omega, ty⟩
    · exact q _ _ (g1.trans g2) ⟨a, xs, rfl, na, hx, by omega, tx⟩
    · refine q _ _ ((g1.trans g2).then_new np) (new_pt g2.hand np (by rw [List.length_append]; omega) fun y hy => ?_)
      rcases List.mem_append.mp hy with hy | hy
      · exact tx y hy
      · exact ty y hy
/-- a part of a slice that changes nothing -/
def PartG (h : Addr) (H0 : Hp) (σ : L2.St) (t : TO) : Prop := ∀ H Q, Go h H0 H → (∀ o, Q o H) → t σ H Q
theorem part_no : PartG h H0 σ tNoPart := fun H Q _ q => q none
theorem part_c {i : Int} : PartG h H0 σ (tPart (tC (.int i))) := fun H Q _ q => ⟨i, rfl, q _⟩
theorem part_neg {i : Int} : PartG h H0 σ (tPart (tUn (rU fun i => .int (-i)) (tC (.int i)))) := fun H Q _ q => ⟨i, rfl, -i, rfl, q _⟩
theorem part_v {k : Nat} {i : Int} (e : σ[k]? = some (some (.int i))) : PartG h H0 σ (tPart (tVar k)) := fun H Q _ q => ⟨_, e, i, rfl, q _⟩
theorem part_v1 {k : Nat} {i j : Int} (e : σ[k]? = some (some (.int i))) : PartG h H0 σ (tPart (tOp (rI0 fun i j => V.int (i + j)) (tVar k) (tC (.int j)))) := fun H Q _ q => ⟨_, e, i, j, rfl, rfl, i + j, rfl, q _⟩
theorem mem_cutV {xs : List V} {lo hi : Option Int} {y : V} (hy : y ∈ cutV xs lo hi) : y ∈ xs := List.mem_of_mem_drop (List.mem_of_mem_take hy)
theorem mg_slice {tl th : TO} (a : MkG h H0 σ (PT K h n) te) (l : PartG h H0 σ tl) (u : PartG h H0 σ th) (hn : n ≤ 50000) : MkG h H0 σ (PT K h n) (tSl (rSlA K) te tl th) := fun H Q g q =>
  a H _ g fun v H1 g1 p1 => l H1 _ (g.trans g1) fun lo => u H1 _ (g.trans g1) fun hi => by
    obtain ⟨a, xs, rfl, na, hx, lx, tx⟩ := p1
    refine ⟨a, xs, rfl, same_seqT cut_same hx, fun _ => q _ _ g1 ⟨a, xs, rfl, na, hx, lx, tx⟩, fun _ p np => ?_⟩
    exact q _ _ (g1.then_new np) (new_pt g1.hand np (Nat.le_trans (cutV_length xs lo hi) lx) fun y hy => tx y (mem_cutV hy))
theorem mg_back {i : Int} (hi : i = 1) (a : MkG h H0 σ (PT K h n) te) : MkG h H0 σ (PT K h n) (tBack K te (tUn (rU fun i => .int (-i)) (tC (.int i)))) := fun H Q g q =>
  a H _ g fun v H1 g1 p1 => by
    subst hi
    obtain ⟨a, xs, rfl, na, hx, lx, tx⟩ := p1
    refine ⟨1, rfl, a, xs, rfl, rfl, same_seqT cut_same hx, fun p np => ?_⟩
    exact q _ _ (g1.then_new np) (new_pt g1.hand np (by rw [List.length_reverse]; exact lx) fun y hy => tx y (List.mem_reverse.mp hy))
theorem mg_var {k : Nat} {v : V} (e : σ[k]? = some (some v)) (p : PT K h n H0 v) : MkG h H0 σ (PT K h n) (tVar k) := fun H Q g q => ⟨v, e, q v H (Go.refl g.hand) (st_pt _ _ _ g p)⟩
end
end
end Zq
namespace Zq
open PySem PySem.Spec PyProof.Rows L2
open PySem.Froz (sing)
/-! ### _law_pieces -/
def ownV : V → Bool
  | .str z => logB z && (decide (1 ≤ z.length) && decide (z.length ≤ 3))
  | _ => false
def sizeV : V → Bool
  | .int i => decide (1 ≤ i) && decide (i ≤ 8)
  | _ => false
theorem ownV_str {v : V} (h : ownV v = true) : ∃ z, v = .str z ∧ logB z = true ∧ 1 ≤ z.length ∧ z.length ≤ 3 := by
  cases v with
  | str z =>
    have h : (logB z && (decide (1 ≤ z.length) && decide (z.length ≤ 3))) = true := h
    rw [Bool.and_eq_true, Bool.and_eq_true, decide_eq_true_eq, decide_eq_true_eq] at h
    exact ⟨z, rfl, h.1, h.2.1, h.2.2⟩
  | _ => cases h
theorem sizeV_int {v : V} (h : sizeV v = true) : ∃ i, v = .int i ∧ 1 ≤ i ∧ i ≤ 8 := by
  cases v with
  | int i =>
    have h : (decide (1 ≤ i) && decide (i ≤ 8)) = true := h
    rw [Bool.and_eq_true, decide_eq_true_eq, decide_eq_true_eq] at h
    exact ⟨i, rfl, h.1, h.2⟩
  | _ => cases h
theorem join_sings : ∀ ns : List Nat, (Txt.join "" (ns.map sing)).cps.toList = ns := fun ns => by
  rw [TL.join_eq]
  show TL.tl (Str.join "" (ns.map sing)) = ns
  rw [TL.tl_join, List.map_map]
  have e : ((TL.tl ∘ sing) : Nat → List Nat) = fun c => [c] := rfl
  rw [e]
  have : ∀ ns : List Nat, TL.joinL (TL.tl "") (ns.map fun c => [c]) = ns := by
    intro ns
    induction ns with
    | nil => rfl
    | cons c r ih =>
      cases r with
      | nil => rfl
      | cons d r =>
        show [c] ++ (TL.tl "" ++ TL.joinL (TL.tl "") ((d :: r).map fun c => [c])) = c :: d :: r
        rw [ih]
        rfl
  exact this ns
theorem join_piece {ns : List Nat} (h : ∀ c ∈ ns, letB c = true) (h1 : 1 ≤ ns.length) (h8 : ns.length ≤ 8) : pieceV (.str (Txt.join "" (ns.map sing))) = true := by
  have e := join_sings ns
  have l : (Txt.join "" (ns.map sing)).length = ns.length := by
    show (Txt.join "" (ns.map sing)).cps.size = _
    rw [← Array.length_toList, e]
  rw [pieceV_str, l, decide_eq_true h1, decide_eq_true h8]
  unfold logB
  rw [e, List.all_eq_true.mpr h]
  rfl
theorem cut_piece {z : Str} (h : logB z = true) (h1 : 1 ≤ z.length) : pieceV (.str (cutS z none (some 2))) = true := by
  have zl : z.cps.toList.length = z.length := Array.length_toList
  have e : (cutS z none (some 2)).cps.toList = z.cps.toList.take (min 2 z.length) := by
    unfold cutS
    rw [HT.sIx_none, show (2 : Int) = ((2 : Nat) : Int) from rfl, HT.sIx_nat, List.drop_zero, Nat.sub_zero]
  have l : (cutS z none (some 2)).length = min 2 z.length := by
    show (cutS z none (some 2)).cps.size = _
    rw [← Array.length_toList, e, List.length_take, zl]
    omega
  rw [pieceV_str, l, decide_eq_true (show 1 ≤ min 2 z.length by omega), decide_eq_true (show min 2 z.length ≤ 8 by omega)]
  unfold logB
  rw [e, List.all_eq_true.mpr fun c hc => List.all_eq_true.mp h c (List.mem_of_mem_take hc)]
  rfl
theorem flat_map (zs : List Str) : (zs.map V.str).all flatV = true := by
  rw [List.all_map]
  exact List.all_eq_true.mpr fun _ _ => rfl
theorem inV_str {y : Str} {zs : List Str} : inV (.str y) (zs.map V.str) = decide (y ∈ zs) := by
  unfold inV
  rw [Bool.eq_iff_iff, List.any_eq_true, decide_eq_true_eq]
  constructor
  · rintro ⟨v, hv, e⟩
    obtain ⟨z, hz, rfl⟩ := List.mem_map.mp hv
    have e : (z == y) = true := e
    rw [← eq_of_beq e]
    exact hz
  · intro h
    exact ⟨.str y, List.mem_map.mpr ⟨y, h, rfl⟩, by show (y == y) = true; exact beq_self_eq_true y⟩
def spPieces (K : PySem.W.Frag) : Sp := fun vs H Q _ => ∃ h : Addr, vs = [.ref h] ∧ IsHand H h ∧ ∀ (p : Addr) (zs : List Str) H', Go h H H' → p ≠ h → SqT K H' p (zs.map V.str) → GoodP zs → zs.Nodup → Q (.ref p) H'
section
variable {P : Program} {w : World} {K : PySem.W.Frag} {mg : Str → Option Value} {base : Heap}
abbrev sPieces : Stmt := topS 35
abbrev NscPieces : List Str := ["_law_hand_here", "_law_own", "_law_turn", "_law_many", "_law_size", "_law_found", "_law_piece", "_law_at"]
theorem scPieces : FnScope ["_law_hand_here", "_law_own", "_law_turn", "_law_many", "_law_size", "_law_found", "_law_piece", "_law_at"] ["_law_hand_here"] (defScope sPieces) := ⟨rfl, rfl, rfl, by decide +kernel, rfl, by decide +kernel, by decide +kernel⟩
theorem ok_pieces {f : Addr} {fd : FuncData} (F : Fun K "_law_pieces" "_law_pieces" sPieces f fd) (T : Txt mg) (C__law_draw : Own P w K mg base CX0 1 "_law_draw" ["_law_hand_here", "_law_many"] spDraw)
    (C__law_any : Own P w K mg base CX0 2 "_law_any" ["_law_hand_here", "_law_items"] (spAny K)) : FnOk P w K mg base CX0 3 f fd ["_law_hand_here"] (spPieces K) := by
  refine F.ok scPieces (fun vs H Q E h => ?_) (fun cdv A outer s H vs Q E hr h => ?_)
  · obtain ⟨h, rfl, _⟩ := h
    rfl
  · obtain ⟨h, rfl, hh, q⟩ := h
    refine ⟨_, (pss_cons (ps_set (i := 1) scPieces.nd rfl (Or.inr rfl) (pe_own C__law_any hr (pa_cons (pv 0) (pa_cons (pe_lst (pa_cons pe_str (pa_cons pe_str (pa_cons pe_str (pa_cons pe_str (pa_cons pe_str (pa_cons pe_str (pa_cons pe_str (pa_cons pe_str pa_nil))))))))) pa_nil))))
      (pss_cons (ps_par3 (i := 3) (j := 4) (l := 5) (by rfl) scPieces.nd rfl rfl rfl (by decide) (by decide) (by decide) rfl rfl rfl (pa_cons (pe_op op_add pe_int (pe_own C__law_draw hr (pa_cons (pv 0) (pa_cons pe_int pa_nil)))) (pa_cons (pe_own C__law_any hr (pa_cons (pv 0) (pa_cons (pe_lst (pa_cons pe_int (pa_cons pe_int (pa_cons pe_int (pa_cons pe_int pa_nil))))) pa_nil))) (pa_cons (pe_lst pa_nil) pa_nil))) (by rfl))
      (C8.pss_cut (ps_if (pt_cmpR op_eq (pe_own C__law_draw hr (pa_cons (pv 0) (pa_cons pe_int pa_nil))) pe_int (nomark _)) (pss_one (ps_asg (pe_tup (pa_cons pe_int (pa_cons pe_int pa_nil))) (pg_tup rfl (pgs_cons (pg_name (i := 3) scPieces.nd rfl (Or.inl rfl)) (pgs_cons (pg_name (i := 4) scPieces.nd rfl (Or.inl rfl)) pgs_nil))))) pss_nil)
      (pss_cons (ps_for PassesOwn.never rfl (pi_range1 (by rfl) T.nrange (pa_cons (pe_op op_mul pe_int (pv 3)) pa_nil)) (pg_name (i := 2) scPieces.nd rfl (Or.inl rfl))
        (pss_cons (ps_set (i := 6) scPieces.nd rfl (Or.inl rfl) (pe_join pe_str (pe_lc (own := [("_law_at", 7)]) (by rfl) scPieces.nd (pi_range1 (by rfl) T.nrange (pa_cons (pe_op op_add pe_int (pe_own C__law_draw hr (pa_cons (pv 0) (pa_cons (pv 4) pa_nil)))) pa_nil)) (blkOk_by (own := [("_law_at", 7)]) (N := NscPieces) (sc := defScope sPieces) (by decide +kernel)) (fun _ _ _ _ _ => (pg_name (i := 7) scPieces.nd rfl (Or.inl rfl))) (fun _ _ _ _ _ => pts_nil) (fun _ _ _ _ _ => (pe_own C__law_any hr (pa_cons (pv 0) (pa_cons (pv 1) pa_nil)))))))
        (pss_one (ps_if (PW.pt (pw_and (pt_cmpR op_notIn_seq (pv 6) (pv 5) rfl) (pw_and (pt_cmpR op_lt (pe_callB call_len_seq (by rfl) T.nlen (by decide +kernel) (pa_cons (pv 5) pa_nil)) (pv 3) (nomark _)) (pw_and1 (PW.pt (pw_or (pt_cmpR op_gt (pe_callB call_len_str (by rfl) T.nlen (by decide +kernel) (pa_cons (pv 6) pa_nil)) pe_int (nomark _)) (pw_or1 (pt_cmpR op_eq (pe_own C__law_draw hr (pa_cons (pv 0) (pa_cons pe_int pa_nil))) pe_int (nomark _))))))))) (pss_one (ps_expr (pe_bm PySem.F.plainAttrs_list PySem.F.slot_list_append PySem.F.type_list_append mt_append (pv 5) (pa_cons (pv 6) pa_nil)))) pss_nil))))
      (pss_one (ps_ret (pe_ifExp (pt_cmpR op_gt (pe_callB call_len_seq (by rfl) T.nlen (by decide +kernel) (pa_cons (pv 5) pa_nil)) pe_int (nomark _)) (pe_callTy call_tuple_of (by rfl) T.ntuple (by decide +kernel) (pa_cons (pv 5) pa_nil)) (pe_tup (pa_cons (pe_slice sl_str (pv 1) po_none (po_some pe_int)) pa_nil))))))))), ?_⟩
    refine ⟨.ref h, rfl, (by show 8 ≤ sizeLine; decide), fun a na => ?_⟩
    refine ⟨h, .ref a, _, rfl, hh.upd na, (fun z => hh.ne na (V.ref.inj z)), .l (.inl (.inl upd_same)) (by show 8 < 1000000; decide), (by show 0 < 8; decide), fun v H1 hv g1 => ?_⟩
    obtain ⟨ow, rfl, ol, o1, o3⟩ := ownV_str (List.all_eq_true.mp (show List.all _ ownV = true by decide +kernel) v hv)
    have g1 := (Go.new (o := .lst [.str "ab", .str "abc", .str "ab", .str "ba", .str "hc", .str "a", .str "bdf", .str "ab"]) hh na).trans g1
    refine ⟨.ref h, rfl, h, 5, rfl, g1.hand, by decide, by decide, fun r H2 r0 r5 g2 => ⟨_, _, rfl, rfl, ?_⟩⟩
    refine ⟨.ref h, rfl, (by show 4 ≤ sizeLine; decide), fun b nb => ?_⟩
    refine ⟨h, .ref b, _, rfl, (g2.then_new nb).hand, (fun z => g2.hand.ne nb (V.ref.inj z)), .l (.inl (.inl upd_same)) (by show 4 < 1000000; decide), (by show 0 < 4; decide), fun v H3 hv g3 => ?_⟩
    obtain ⟨sz, rfl, z1, z8⟩ := sizeV_int (List.all_eq_true.mp (show List.all _ sizeV = true by decide +kernel) v hv)
    refine ⟨(by show 0 ≤ sizeLine; decide), fun F nF => ⟨_, _, _, rfl, ?_⟩⟩
    have g03 := g1.trans ((g2.then_new nb).trans g3)
    have nFh := g03.hand.ne nF
    have off := g03.hand.off nF
    have hF0 : H F = none := g03.free nF
    have g4 := g03.then_new (o := .lst []) nF
    have off4 : Off h F (upd H3 F (.lst [])) := off.upd nFh
    have eF : upd H3 F (.lst []) F = some (.lst (([] : List Str).map V.str)) := upd_same
    generalize upd H3 F (.lst []) = H4 at g4 off4 eF ⊢
    refine ⟨fun σ' H' => Go h H H' ∧ ∃ m sz : Int, 1 ≤ m ∧ m ≤ 12 ∧ 1 ≤ sz ∧ sz ≤ 8 ∧ σ' = [some (.ref h), some (.str ow), none, some (.int m), some (.int sz), some (.ref F), none, none] ∧ H' F = some (.lst (([] : List Str).map V.str)) ∧ Off h F H', ?_, ?_⟩
    · refine ⟨.ref h, rfl, h, 20, rfl, g4.hand, by decide, by decide, fun r' H5 _ _ g5 => ⟨rfl, _, rfl, ?_⟩⟩
      refine ite2 (fun _ => ?_) (fun _ => ?_)
      · refine ⟨(by show 2 ≤ sizeLine; decide), fun t nt => ⟨t, _, rfl, .inl (.inl upd_same), rfl, _, _, rfl, _, _, rfl, rfl, ?_⟩⟩
        exact ⟨g4.trans (g5.then_new nt), 12, 8, by decide, by decide, by decide, by decide, rfl, (g5.then_new nt).keep _ _ nFh eF, (g5.then_new nt).off g4.hand off4⟩
      · exact ⟨g4.trans g5, 1 + r, sz, by omega, by omega, z1, z8, rfl, g5.keep _ _ nFh eF, g5.off g4.hand off4⟩
    · rintro σ' H5 ⟨g5, m, sz, m1, m12, s1, s8, rfl, e5, off5⟩
      refine ⟨.int m, rfl, 4, m, rfl, rfl, .inl ⟨by decide, by decide⟩, _, rfl, by omega, by omega, ?_⟩
      refine for_range (lo := 0) (n := (4 * m).toNat) (fun i σ' H' => Go h H H' ∧ ∃ (zs : List Str) (t2 t6 t7 : Option V), zs.length ≤ 12 ∧ (∀ z ∈ zs, pieceV (.str z) = true) ∧ zs.Nodup ∧ H' F = some (.lst (zs.map V.str)) ∧ Off h F H' ∧
        σ' = [some (.ref h), some (.str ow), t2, some (.int m), some (.int sz), some (.ref F), t6, t7]) ⟨g5, [], none, none, none, by decide, (fun z hz => nomatch hz), List.nodup_nil, e5, off5, rfl⟩ ?_ ?_
      · rintro i σ' H6 hi ⟨g6, zs, t2, t6, t7, zl, gz, nd, e6, off6, rfl⟩
        refine ⟨⟨_, rfl⟩, ?_⟩
        refine ⟨.ref h, rfl, .int sz, rfl, h, sz, rfl, g6.hand, by omega, by omega, fun r H7 r0 r1 g7 => ⟨_, _, rfl, rfl, _, rfl, by omega, by omega, fun D hD => ?_⟩⟩
        have g07 := g6.trans g7
        have e7 := g7.keep _ _ nFh e6
        have off7 := g7.off g6.hand off6
        have nDh := g07.hand.ne hD
        have offD := g07.hand.off hD
        have hD0 : H D = none := g07.free hD
        have nFD : F ≠ D := ne_of_none e7 hD
        refine lc_range (lo := 0) (n := (1 + r).toNat) (fun k H' => Go h H H' ∧ H' F = some (.lst (zs.map V.str)) ∧ Off h F H' ∧ Off h D H' ∧ ∃ ns : List Nat, ns.length = k ∧ (∀ c ∈ ns, letB c = true) ∧ H' D = some (.lst ((ns.map sing).map V.str)))
          ⟨g07.then_new hD, by rw [upd_ne nFD]; exact e7, ?_, offD.upd nDh, [], rfl, (fun c hc => nomatch hc), upd_same⟩ ?_ ?_
        · exact (Go.new g07.hand hD).off g07.hand off7
        · rintro k H8 hk ⟨g8, e8, off8, offD8, ns, nl, lb, eD⟩
          refine ⟨rfl, ?_⟩
          refine ⟨.ref h, rfl, .str ow, rfl, h, .str ow, _, rfl, g8.hand, (fun z => nomatch z), .s (by omega), ?_, fun v H9 hv g9 => ?_⟩
          · rw [List.length_map, Array.length_toList]
            exact o1
          · obtain ⟨c, hc, rfl⟩ := List.mem_map.mp hv
            refine ⟨_, g9.keep _ _ nDh eD, ?_, ?_⟩
            · rw [List.length_map, List.length_map]
              exact sz_lt (by omega)
            · have g89 := g8.trans g9
              have offD9 := g9.off g8.hand offD8
              refine ⟨g89.set hD0 nDh offD9, by rw [upd_ne nFD]; exact g9.keep _ _ nFh e8, ?_, offD9.upd nDh, ns ++ [c], by rw [List.length_append, nl]; rfl, fun d hd => ?_, ?_⟩
              · intro c' xs z
                rw [upd_ne (Ne.symm nDh)] at z
                exact g9.off g8.hand off8 c' xs z
              · rcases List.mem_append.mp hd with hd | hd
                · exact lb d hd
                · rw [List.mem_singleton.mp hd]
                  exact List.all_eq_true.mp ol c hc
              · rw [upd_same, List.map_append, List.map_append]
                rfl
        · rintro H8 ⟨g8, e8, off8, offD8, ns, nl, lb, eD⟩
          have pcv : pieceV (.str (Txt.join "" (ns.map sing))) = true := join_piece lb (by omega) (by omega)
          refine ⟨"", D, ns.map sing, rfl, rfl, .inl (.inl (.inl eD)), ?_, ?_⟩
          · have h1 := sum_le (n := 1) (zs := ns.map sing) fun z hz => by
              obtain ⟨c, _, rfl⟩ := List.mem_map.mp hz
              exact Nat.le_refl _
            rw [List.length_map] at h1
            show _ + _ * 0 ≤ 16777216
            omega
          · generalize Txt.join "" (ns.map sing) = pc at pcv ⊢
            have pl := (piece_log pcv).2
            refine ⟨.str pc, rfl, .ref F, rfl, F, zs.map V.str, rfl, .inl (.inl (.inl e8)), rfl, flat_map zs, _, rfl, ?_⟩
            refine ite2 (fun hn => ?_) (fun _ => ?_)
            · have nin : pc ∉ zs := fun z => by
                have hn : (!inV (.str pc) (zs.map V.str)) = true := hn
                rw [inV_str, decide_eq_true z] at hn
                cases hn
              refine ⟨.ref F, rfl, F, _, rfl, .inl (.inl (.inl e8)), .int m, rfl, _, _, rfl, rfl, _, rfl, ?_⟩
              refine ite2 (fun hm => ?_) (fun _ => ?_)
              · have hm := of_decide_eq_true hm
                rw [List.length_map] at hm
                refine ⟨.str pc, rfl, pc, rfl, Nat.le_of_lt (sz_lt (by omega)), _, _, rfl, rfl, _, rfl, ?_⟩
                refine ite2 (fun _ => ?_) (fun _ => ?_)
                · skip
                  refine ⟨.ref F, rfl, .inl ⟨rfl, _, .inl (.inl e8)⟩, .str pc, rfl, F, _, _, rfl, rfl, e8, ?_, ?_⟩
                  · rw [List.length_map]
                    exact sz_lt (by omega)
                  · refine ⟨g8.set hF0 nFh off8, zs ++ [pc], _, _, _, by rw [List.length_append, List.length_singleton]; omega, fun z hz => ?_, ?_, ?_, Off.upd nFh off8, rfl⟩
                    · rcases List.mem_append.mp hz with hz | hz
                      · exact gz z hz
                      · rw [List.mem_singleton.mp hz]
                        exact pcv
                    · refine List.nodup_append.mpr ⟨nd, List.nodup_cons.mpr ⟨by simp, List.nodup_nil⟩, fun a ha b hb e => ?_⟩
                      rw [List.mem_singleton.mp hb] at e
                      exact nin (e ▸ ha)
                    · rw [upd_same, List.map_append]
                      rfl
                · refine ⟨.ref h, rfl, h, 4, rfl, g8.hand, by decide, by decide, fun r2 H9 _ _ g9 => ⟨rfl, _, rfl, ?_⟩⟩
                  have e9 := g9.keep _ _ nFh e8
                  have off9 := g9.off g8.hand off8
                  have g09 := g8.trans g9
                  refine ite2 (fun _ => ?_) (fun _ => ?_)
                  · skip
                    refine ⟨.ref F, rfl, .inl ⟨rfl, _, .inl (.inl e9)⟩, .str pc, rfl, F, _, _, rfl, rfl, e9, ?_, ?_⟩
                    · rw [List.length_map]
                      exact sz_lt (by omega)
                    · refine ⟨g09.set hF0 nFh off9, zs ++ [pc], _, _, _, by rw [List.length_append, List.length_singleton]; omega, fun z hz => ?_, ?_, ?_, Off.upd nFh off9, rfl⟩
                      · rcases List.mem_append.mp hz with hz | hz
                        · exact gz z hz
                        · rw [List.mem_singleton.mp hz]
                          exact pcv
                      · refine List.nodup_append.mpr ⟨nd, List.nodup_cons.mpr ⟨by simp, List.nodup_nil⟩, fun a ha b hb e => ?_⟩
                        rw [List.mem_singleton.mp hb] at e
                        exact nin (e ▸ ha)
                      · rw [upd_same, List.map_append]
                        rfl
                  · exact ⟨g09, zs, _, _, _, zl, gz, nd, e9, off9, rfl⟩
              · exact ⟨g8, zs, _, _, _, zl, gz, nd, e8, off8, rfl⟩
            · exact ⟨g8, zs, _, _, _, zl, gz, nd, e8, off8, rfl⟩
      · rintro σ' H6 ⟨g6, zs, t2, t6, t7, zl, gz, nd, e6, off6, rfl⟩
        refine ⟨.ref F, rfl, F, _, rfl, .inl (.inl (.inl e6)), _, _, rfl, rfl, _, rfl, ?_⟩
        refine ite2 (fun hp => ?_) (fun _ => ?_)
        · have hp := of_decide_eq_true hp
          rw [List.length_map] at hp
          refine ⟨.ref F, rfl, F, _, rfl, .inl ⟨.inl (.inl e6), fun p np => ?_⟩⟩
          exact q p zs _ (g6.then_new np) (g6.hand.ne np) (.inl (.inl upd_same)) ⟨by omega, zl, gz⟩ nd
        · refine ⟨.str ow, rfl, 2, rfl, ow, rfl, Nat.le_of_lt (sz_lt (by omega)), (by show 1 ≤ sizeLine; decide), fun p np => ?_⟩
          have cp := cut_piece ol o1
          refine q p [cutS ow none (some 2)] _ (g6.then_new np) (g6.hand.ne np) (.inl (.inl upd_same)) ⟨by show 1 ≤ 1; decide, by show 1 ≤ 12; decide, fun z hz => ?_⟩ (List.nodup_cons.mpr ⟨by simp, List.nodup_nil⟩)
          rw [List.mem_singleton.mp hz]
          exact cp
end
end Zq
namespace Zq
open PySem PySem.Spec PyProof.Rows L2
open PySem.Froz (sing)
/-! ### _law_bent_pieces -/
section
variable {K : PySem.W.Frag} {h : Addr} {H0 : Hp} {σ : L2.St} {te tf : TE} {ta : TA} {n m : Nat}
theorem mg_one {k : Nat} {v : V} (e : σ[k]? = some (some v)) (p : ThI K (cut h H0) v) : MkG h H0 σ (PT K h 1) (tTup (tCons (tVar k) tNil)) := fun H Q g q =>
  ⟨v, e, (by show 1 ≤ sizeLine; decide), fun a na => q _ _ (Go.new g.hand na) (new_pt (xs := [v]) g.hand na (Nat.le_refl _) fun y hy => by
    rw [List.mem_singleton.mp hy]
    exact p.same (go_cut g))⟩
theorem mg_pd (hn : n ≤ 50000) (a : MkG h H0 σ (PT K h n) te) : MkG h H0 σ (PD K h) te := a.imp (pt_pd hn)
theorem lst_pd {H : Hp} {p : Addr} {vs : List V} (e : H p = some (.lst vs)) (np : p ≠ h) : PD K h H (.ref p) :=
  ⟨fun z => np (V.ref.inj z), _, .inr ⟨⟨_, .base (.lst (by rw [cut_ne np]; exact e)), kit_ty (show kitB "list" "tuple" = some false by decide +kernel)⟩, rfl⟩⟩
theorem mg_items {H : Hp} {Q : VK} (a : MkAG h H0 σ (PD K h) ta n) (hn : n ≤ 50000) (g : Go h H0 H) (q : ∀ p vs H', Go h H H' → H' p = some (.lst vs) → p ≠ h → vs.length = n → (∀ v ∈ vs, PD K h H' v) → Q (.ref p) H') : tLst ta σ H Q :=
  MkG.lst (P' := fun H' v => ∃ p vs, v = .ref p ∧ H' p = some (.lst vs) ∧ p ≠ h ∧ vs.length = n ∧ ∀ v ∈ vs, PD K h H' v) st_pd a hn (fun H p vs e np l ps => ⟨p, vs, rfl, e, np, l, ps⟩) _ _ g
    fun v H' g ⟨p, vs, e, ep, np, hl, ps⟩ => e ▸ q p vs H' g ep np hl ps
theorem mk_items {H : Hp} {Q : VK} (a : MkA h σ (POdd K h) ta n) (hn : n ≤ 50000) (x : IsHand H h) (q : ∀ p vs H', Go h H H' → H' p = some (.lst vs) → p ≠ h → vs.length = n → (∀ v ∈ vs, POdd K h H' v) → Q (.ref p) H') : tLst ta σ H Q :=
  Mk.lst (P' := fun H' v => ∃ p vs, v = .ref p ∧ H' p = some (.lst vs) ∧ p ≠ h ∧ vs.length = n ∧ ∀ v ∈ vs, POdd K h H' v) st_odd a hn (fun H p vs e np l ps => ⟨p, vs, rfl, e, np, l, ps⟩) _ _ x
    fun v H' g ⟨p, vs, e, ep, np, hl, ps⟩ => e ▸ q p vs H' g ep np hl ps
end
theorem gName_run {i : Nat} {v : V} {σ : L2.St} {H : Hp} {Q : L2.St → Hp → Prop} (h : Q (σ.set i (some v)) H) : gName i v σ H Q := h
theorem tSeq_run {t u : TS} {D : Ends} {σ : L2.St} {H : Hp} (h : t { D with nx := fun σ' H' => u D σ' H' } σ H) : tSeq t u D σ H := h
theorem tAsg_run {e : TE} {g : TG} {D : Ends} {σ : L2.St} {H : Hp} (h : e σ H fun x H1 => g x σ H1 D.nx) : tAsg e g D σ H := h
end Zq
namespace Zq
open PySem PySem.Spec PyProof.Rows L2 RZ
open PySem.Froz (sing)
/-! ### law -/
def spIsD (K : PySem.W.Frag) : Sp := fun vs H Q _ => ∃ (x y : V) (d : PyData), vs = [x, y] ∧ Dp K H x d ∧ Dp K H y d ∧ d.canLay0 = true ∧ narrow d = true ∧ d.depth ≤ 2 ∧ ∀ H', Same H H' → Q (.bl true) H'
theorem good_due {K : PySem.W.Frag} {H : Hp} {p : Addr} {zs : List Str} (g : GoodP zs) (nd : zs.Nodup) (h : SqT K H p (zs.map V.str)) : Due K H (.ref p) .non := by
  refine .inl ⟨p, zs.map V.str, rfl, h, by rw [List.length_map]; have := g.2.1; omega, fun x hx => ?_, (due_good (by rw [List.length_map]; exact ⟨g.1, g.2.1⟩) fun k hk => ?_).symm⟩
  · obtain ⟨z, hz, rfl⟩ := List.mem_map.mp hx
    exact .inl ⟨z, rfl, by have := (piece_log (g.2.2 z hz)).2.2; omega⟩
  · rw [List.length_map] at hk
    have e : (zs.map V.str).getD k .non = .str zs[k] := by
      rw [List.getD_eq_getElem?_getD, List.getElem?_map, List.getElem?_eq_getElem hk]
      rfl
    unfold badAt
    rw [e, g.2.2 _ (List.getElem_mem hk), ← List.map_take, inV_str, decide_eq_false]
    · rfl
    · intro z
      obtain ⟨j, hj⟩ := List.mem_iff_getElem?.mp z
      have hjk : j < k := by
        have := (List.getElem?_eq_some_iff.mp hj).1
        rw [List.length_take] at this
        omega
      rw [List.getElem?_take, if_pos hjk, List.getElem?_eq_getElem (by omega)] at hj
      exact List.pairwise_iff_getElem.mp nd j k (by omega) hk hjk (Option.some.inj hj)
theorem turned_one {zs : List Str} (nd : zs.Nodup) (h : 1 ≤ zs.length) : decide (zs = zs.reverse) = decide ((zs.length : Int) = 1) := by
  rw [Bool.eq_iff_iff, decide_eq_true_eq, decide_eq_true_eq]
  constructor
  · intro e
    by_cases h2 : 2 ≤ zs.length
    · have h0 : zs[0]? = zs.reverse[0]? := congrArg (fun l : List Str => l[0]?) e
      rw [List.getElem?_reverse (by omega), List.getElem?_eq_getElem (by omega), List.getElem?_eq_getElem (by omega)] at h0
      exact absurd (Option.some.inj h0) (List.pairwise_iff_getElem.mp nd 0 (zs.length - 1 - 0) (by omega) (by omega) (by omega))
    · omega
  · intro e
    obtain ⟨z, rfl⟩ := List.length_eq_one_iff.mp (show zs.length = 1 by omega)
    rfl
theorem lets_ok {zs : List Str} : PyData.strOk (lets zs) = true ∧ (lets zs).cps.size ≤ 50000 := by
  have e : (lets zs).cps.toList = abc.cps.toList.filter fun c => decide (c ∈ (Txt.join "" zs).cps.toList) := join_sings _
  refine ⟨?_, ?_⟩
  · unfold PyData.strOk
    rw [Array.all_eq_true']
    intro c hc
    have hc := Array.mem_toList_iff.mpr hc
    rw [e] at hc
    exact decide_eq_true (abc_small c (List.mem_filter.mp hc).1)
  · rw [← Array.length_toList, e]
    have h1 := List.length_filter_le (fun c => decide (c ∈ (Txt.join "" zs).cps.toList)) abc.cps.toList
    have h2 : abc.cps.toList.length = 8 := by decide +kernel
    omega
theorem narrow_strs : ∀ {zs : List Str}, (∀ z ∈ zs, z.cps.size ≤ 50000) → narrowAll (zs.map PyData.str) = true
  | [], _ => rfl
  | z :: zs, h => by
    rw [List.map_cons, narrowAll, narrow, decide_eq_true (h z List.mem_cons_self), narrow_strs fun y hy => h y (List.mem_cons_of_mem _ hy)]
    rfl
theorem due_data {K : PySem.W.Frag} {H : Hp} {v d : V} (h : Due K H v d) : ∃ pd : PyData, (∀ H', Dp K H' d pd) ∧ pd.canLay0 = true ∧ narrow pd = true ∧ pd.depth ≤ 2 := by
  rcases due_kind h with rfl | ⟨i, rfl⟩ | rfl
  · exact ⟨.none, fun _ => .non, rfl, rfl, Nat.zero_le _⟩
  · exact ⟨.int i, fun _ => .int i, rfl, rfl, Nat.zero_le _⟩
  · exact ⟨.str "pieces", fun _ => .str _, by decide +kernel, by decide +kernel, Nat.zero_le _⟩
theorem good_rev {zs : List Str} (g : GoodP zs) : GoodP zs.reverse := ⟨by rw [List.length_reverse]; exact g.1, by rw [List.length_reverse]; exact g.2.1, fun z hz => g.2.2 z (List.mem_reverse.mp hz)⟩
section
variable {P : Program} {w : World} {K : PySem.W.Frag} {mg : Str → Option Value} {base : Heap}
theorem own_isD {f : Addr} {fd : FuncData} (R : Raw K mg "_law_is" ["_law_told", "_law_due"] f fd) (F : Fun K "_law_is" "_law_is" sIs f fd) (T : Txt mg) : Own P w K mg base CX0 3 "_law_is" ["_law_told", "_law_due"] (spIsD K) := by
  refine R.own ((ok_is 2 F T (own_is R F T 2)).imp fun vs H Q E h => ?_)
  obtain ⟨x, y, d, rfl, a, b, c, n, e, q⟩ := h
  have sh : SeqAt.shaped d = true := by
    unfold SeqAt.shaped
    rw [c, decide_eq_true (show d.depth ≤ 64 by omega)]
    rfl
  refine ⟨x, y, d, d, rfl, a, b, sh, sh, n, e, fun H' s => ?_⟩
  rw [isv_refl d c]
  exact q H' s
end
end Zq
namespace Zq
open PySem PySem.Spec PyProof.Rows L2
open PySem.Froz (sing)
/-! ### where pieces stand -/
def stands (z y : Str) (p : Nat) : Bool := decide ((z.cps.toList.drop p).take y.length = y.cps.toList)
theorem str_ext {a b : Str} (h : a.cps.toList = b.cps.toList) : a = b := by
  obtain ⟨a⟩ := a
  obtain ⟨b⟩ := b
  have : a = b := by
    cases a
    cases b
    exact congrArg _ h
  rw [this]
theorem zlen (z : Str) : z.cps.toList.length = z.length := Array.length_toList
theorem starts_is {z y : Str} {p : Nat} (h : 1 ≤ y.length) : Txt.startswith3 z y (p : Int) = stands z y p := by
  have f : PySem.fromIndex z.length (p : Int) = p := by
    unfold PySem.fromIndex
    rw [if_neg (by omega)]
    omega
  unfold Txt.startswith3 stands
  rw [f]
  rw [Bool.eq_iff_iff, Bool.and_eq_true, decide_eq_true_eq, decide_eq_true_eq]
  have e : (Builtin.Str.subAt z y p = true) ↔ (z.cps.toList.drop p).take y.length = y.cps.toList := by
    show ((z.cps.extract p (p + y.length) == y.cps) = true) ↔ _
    rw [beq_iff_eq]
    have e2 : (z.cps.extract p (p + y.length)).toList = (z.cps.toList.drop p).take y.length := by
      rw [Array.toList_extract, List.extract_eq_take_drop, Nat.add_sub_cancel_left]
    constructor
    · intro q
      rw [← e2, q]
    · intro q
      rw [← e2] at q
      exact Array.toList_inj.mp q
  rw [e]
  constructor
  · exact fun q => q.2
  · intro q
    refine ⟨?_, q⟩
    have := congrArg List.length q
    rw [List.length_take, List.length_drop, zlen, zlen] at this
    omega
theorem cut_len_lo {z : Str} {p : Nat} : (cutS z none (some (p : Int))).cps.toList = z.cps.toList.take p := by
  unfold cutS
  rw [HT.sIx_none, HT.sIx_nat, List.drop_zero, Nat.sub_zero]
  by_cases h : p ≤ z.length
  · rw [Nat.min_eq_left h]
  · rw [Nat.min_eq_right (by omega), List.take_of_length_le (by rw [zlen]; omega), List.take_of_length_le (by rw [zlen]; omega)]
theorem cut_hi {z : Str} {q : Nat} : (cutS z (some (q : Int)) none).cps.toList = z.cps.toList.drop q := by
  unfold cutS
  rw [HT.sIx_none, HT.sIx_nat]
  show (z.cps.toList.drop (min q z.length)).take (z.length - min q z.length) = _
  rw [List.take_of_length_le (by rw [List.length_drop, zlen]; omega)]
  by_cases h : q ≤ z.length
  · rw [Nat.min_eq_left h]
  · rw [Nat.min_eq_right (by omega), List.drop_of_length_le (by rw [zlen]; omega), List.drop_of_length_le (by rw [zlen]; omega)]
theorem cut_mid {z : Str} {p q : Nat} : (cutS z (some (p : Int)) (some (q : Int))).cps.toList = (z.cps.toList.drop p).take (q - p) := by
  unfold cutS
  rw [HT.sIx_nat, HT.sIx_nat]
  show (z.cps.toList.drop (min p z.length)).take (min q z.length - min p z.length) = _
  by_cases h : p ≤ z.length
  · rw [Nat.min_eq_left h]
    by_cases h2 : q ≤ z.length
    · rw [Nat.min_eq_left h2]
    · rw [Nat.min_eq_right (by omega), List.take_of_length_le (by rw [List.length_drop, zlen]; omega), List.take_of_length_le (by rw [List.length_drop, zlen]; omega)]
  · rw [List.drop_of_length_le (by rw [zlen]; omega), List.drop_of_length_le (by rw [zlen]; omega), List.take_nil, List.take_nil]
theorem cut_is {z y : Str} {p : Nat} : decide (V.str (cutS z (some (p : Int)) (some ((p : Int) + (y.length : Nat)))) = V.str y) = stands z y p := by
  unfold stands
  rw [Bool.eq_iff_iff, decide_eq_true_eq, decide_eq_true_eq]
  have e : (cutS z (some (p : Int)) (some ((p : Int) + (y.length : Nat)))).cps.toList = (z.cps.toList.drop p).take y.length := by
    have := @cut_mid z p (p + y.length)
    rw [Nat.add_sub_cancel_left] at this
    rw [← this]
    rfl
  constructor
  · intro h
    rw [← e, V.str.inj h]
  · intro h
    rw [str_ext (e.trans h)]
/-! ### all strikes -/
def okN (zs : List Str) (z : Str) (p n : Nat) : Bool := stands z (zs.getD n "") p
def rowS (zs : List Str) (z : Str) (j p : Nat) : List (Nat × Nat) := ((List.range j).filter (okN zs z p)).map (p, ·)
def colS (zs : List Str) (z : Str) (i : Nat) : List (Nat × Nat) := (List.range i).flatMap (rowS zs z zs.length)
def allS (zs : List Str) (z : Str) : List (Nat × Nat) := colS zs z z.length
theorem rowS_zero {zs : List Str} {z : Str} {p : Nat} : rowS zs z 0 p = [] := rfl
theorem rowS_succ {zs : List Str} {z : Str} {j p : Nat} : rowS zs z (j + 1) p = rowS zs z j p ++ if okN zs z p j = true then [(p, j)] else [] := by
  unfold rowS
  rw [List.range_succ, List.filter_append, List.map_append, List.filter_cons, List.filter_nil]
  split <;> rfl
theorem colS_succ {zs : List Str} {z : Str} {i : Nat} : colS zs z (i + 1) = colS zs z i ++ rowS zs z zs.length i := by
  unfold colS
  rw [List.range_succ, List.flatMap_append, List.flatMap_cons, List.flatMap_nil, List.append_nil]
theorem rowS_len {zs : List Str} {z : Str} {j p : Nat} : (rowS zs z j p).length ≤ j := by
  unfold rowS
  rw [List.length_map]
  have := List.length_filter_le (okN zs z p) (List.range j)
  rw [List.length_range] at this
  exact this
theorem colS_len {zs : List Str} {z : Str} : ∀ {i : Nat}, (colS zs z i).length ≤ i * zs.length
  | 0 => Nat.zero_le _
  | i + 1 => by
    have := @colS_len zs z i
    have := @rowS_len zs z zs.length i
    rw [colS_succ, List.length_append, Nat.add_mul]
    omega
theorem mem_all {zs : List Str} {z : Str} {p n : Nat} : (p, n) ∈ allS zs z ↔ p < z.length ∧ n < zs.length ∧ okN zs z p n = true := by
  unfold allS colS rowS
  rw [List.mem_flatMap]
  constructor
  · rintro ⟨q, hq, h⟩
    obtain ⟨m, hm, e⟩ := List.mem_map.mp h
    cases e
    rw [List.mem_filter, List.mem_range] at hm
    exact ⟨List.mem_range.mp hq, hm.1, hm.2⟩
  · rintro ⟨h1, h2, h3⟩
    exact ⟨p, List.mem_range.mpr h1, List.mem_map.mpr ⟨n, List.mem_filter.mpr ⟨List.mem_range.mpr h2, h3⟩, rfl⟩⟩
def prD (pn : Nat × Nat) : PyData := .tuple [.int (pn.1 : Nat), .int (pn.2 : Nat)]
theorem lay_prs : ∀ ps : List (Nat × Nat), PyData.canLayAll0 (ps.map prD) = true
  | [] => rfl
  | p :: ps => by
    rw [List.map_cons, PyData.canLayAll0, lay_prs ps]
    rfl
theorem narrow_prs : ∀ ps : List (Nat × Nat), narrowAll (ps.map prD) = true
  | [] => rfl
  | p :: ps => by
    rw [List.map_cons, narrowAll, narrow_prs ps]
    rfl
theorem depth_prs : ∀ ps : List (Nat × Nat), PyData.depthAll (ps.map prD) ≤ 1
  | [] => Nat.zero_le _
  | p :: ps => by
    have := depth_prs ps
    rw [List.map_cons, PyData.depthAll]
    exact Nat.max_le.mpr ⟨Nat.le_refl 1, this⟩
/-- what is said of a strike: its two numbers, or none -/
abbrev Sk := Option (Int × Int)
def okT (zs : List Str) (z : Str) : Sk → Bool
  | none => false
  | some (p, n) => decide (0 ≤ p) && (decide (p < z.length) && (decide (0 ≤ n) && (decide (n < zs.length) && okN zs z p.toNat n.toNat)))
theorem okT_eq {zs : List Str} {z : Str} {p n : Int} : okT zs z (some (p, n)) = (decide (0 ≤ p) && (decide (p < z.length) && (decide (0 ≤ n) && (decide (n < zs.length) && okN zs z p.toNat n.toNat)))) := rfl
theorem okT_some {zs : List Str} {z : Str} {p n : Int} (h : okT zs z (some (p, n)) = true) : 0 ≤ p ∧ p < z.length ∧ 0 ≤ n ∧ n < zs.length ∧ okN zs z p.toNat n.toNat = true := by
  unfold okT at h
  rw [Bool.and_eq_true, Bool.and_eq_true, Bool.and_eq_true, Bool.and_eq_true, decide_eq_true_eq, decide_eq_true_eq, decide_eq_true_eq, decide_eq_true_eq] at h
  exact ⟨h.1, h.2.1, h.2.2.1, h.2.2.2.1, h.2.2.2.2⟩
theorem any_all {zs : List Str} {z : Str} {p n : Int} : ((allS zs z).map prD).any (fun y => PyData.eqv y (.tuple [.int p, .int n])) = okT zs z (some (p, n)) := by
  rw [Bool.eq_iff_iff, List.any_eq_true]
  constructor
  · rintro ⟨y, hy, e⟩
    obtain ⟨⟨q, m⟩, hq, rfl⟩ := List.mem_map.mp hy
    have e : ((((q : Nat) : Int) == p) && ((((m : Nat) : Int) == n) && true)) = true := by
      simpa [prD, PyData.eqv, PyData.eqvAll] using e
    rw [Bool.and_eq_true, Bool.and_eq_true, beq_iff_eq, beq_iff_eq] at e
    obtain ⟨h1, h2, h3⟩ := mem_all.mp hq
    obtain ⟨e1, e2, _⟩ := e
    subst e1
    subst e2
    rw [okT_eq, decide_eq_true (by omega), decide_eq_true (by omega), decide_eq_true (by omega), decide_eq_true (by omega), Int.toNat_natCast, Int.toNat_natCast, h3]
    rfl
  · intro h
    obtain ⟨h1, h2, h3, h4, h5⟩ := okT_some h
    obtain ⟨q, rfl⟩ := Int.eq_ofNat_of_zero_le h1
    obtain ⟨m, rfl⟩ := Int.eq_ofNat_of_zero_le h3
    refine ⟨prD (q, m), List.mem_map.mpr ⟨(q, m), mem_all.mpr ⟨by omega, by omega, h5⟩, rfl⟩, ?_⟩
    simp [prD, PyData.eqv, PyData.eqvAll]
def wo (zs : List Str) (z : Str) (p n : Int) : Str := cutS z none (some p) ++ cutS z (some (p + ((zs.getD n.toNat "").length : Nat))) none
def woT (zs : List Str) (z : Str) : Sk → Str
  | none => z
  | some (p, n) => wo zs z p n
theorem app_toList (a b : Str) : (a ++ b).cps.toList = a.cps.toList ++ b.cps.toList := by
  show (a.cps ++ b.cps).toList = _
  rw [Array.toList_append]
theorem wo_toList {zs : List Str} {z : Str} {p n : Nat} : (wo zs z (p : Int) (n : Int)).cps.toList = z.cps.toList.take p ++ z.cps.toList.drop (p + (zs.getD n "").length) := by
  unfold wo
  rw [app_toList, cut_len_lo, Int.toNat_natCast]
  have := @cut_hi z (p + (zs.getD n "").length)
  rw [← this]
  rfl
theorem wo_good {zs : List Str} {z : Str} {t : Sk} (h : okT zs z t = true) : (woT zs z t).length ≤ z.length ∧ (logB z = true → logB (woT zs z t) = true) := by
  obtain _ | ⟨p, n⟩ := t
  · cases h
  obtain ⟨h1, h2, h3, h4, h5⟩ := okT_some h
  obtain ⟨q, rfl⟩ := Int.eq_ofNat_of_zero_le h1
  obtain ⟨m, rfl⟩ := Int.eq_ofNat_of_zero_le h3
  have e := @wo_toList zs z q m
  refine ⟨?_, fun hl => ?_⟩
  · show (wo zs z q m).length ≤ _
    rw [← zlen, e, List.length_append, List.length_take, List.length_drop, zlen]
    omega
  · show logB (wo zs z q m) = true
    unfold logB
    rw [e, List.all_eq_true]
    intro c hc
    rcases List.mem_append.mp hc with hc | hc
    · exact List.all_eq_true.mp hl c (List.mem_of_mem_take hc)
    · exact List.all_eq_true.mp hl c (List.mem_of_mem_drop hc)
def runT (zs : List Str) : Nat → Str → List Sk → Option Nat × Str
  | _, z, [] => (none, z)
  | i, z, t :: ts => if okT zs z t = true then runT zs (i + 1) (woT zs z t) ts else (some i, z)
/-- what is wrong first, and what is left ahead of it -/
def resT (zs : List Str) (z : Str) : Option (List Sk) → V × Str
  | none => (.int (-1), z)
  | some l => match runT zs 0 z l with
    | (none, y) => (.non, y)
    | (some i, y) => (.int (i : Nat), y)
theorem resT_some {zs : List Str} {z : Str} {l : List Sk} : resT zs z (some l) = (match runT zs 0 z l with
    | (none, y) => (.non, y)
    | (some i, y) => (.int (i : Nat), y)) := rfl
theorem run_end {zs : List Str} {z y : Str} {l : List Sk} (h : runT zs 0 z l = runT zs l.length y (l.drop l.length)) : resT zs z (some l) = (.non, y) := by
  rw [resT_some, h, List.drop_length]
  rfl
theorem run_bad {zs : List Str} {z y : Str} {l : List Sk} {i : Nat} {t : Sk} (h : runT zs 0 z l = runT zs i y (l.drop i)) (ht : l[i]? = some t) (hb : okT zs y t = false) : resT zs z (some l) = (.int (i : Nat), y) := by
  have e : l.drop i = t :: l.drop (i + 1) := by
    obtain ⟨hi, e⟩ := List.getElem?_eq_some_iff.mp ht
    rw [List.drop_eq_getElem_cons hi, e]
  rw [resT_some, h, e, runT, hb]
  rfl
theorem run_next {zs : List Str} {z y : Str} {l : List Sk} {i : Nat} {t : Sk} (h : runT zs 0 z l = runT zs i y (l.drop i)) (ht : l[i]? = some t) (hb : okT zs y t = true) : runT zs 0 z l = runT zs (i + 1) (woT zs y t) (l.drop (i + 1)) := by
  have e : l.drop i = t :: l.drop (i + 1) := by
    obtain ⟨hi, e⟩ := List.getElem?_eq_some_iff.mp ht
    rw [List.drop_eq_getElem_cons hi, e]
  rw [h, e, runT, if_pos hb]
theorem dpAll_app {K : PySem.W.Frag} {H : Hp} : ∀ {xs ys : List V} {ds es : List PyData}, DpAll K H xs ds → DpAll K H ys es → DpAll K H (xs ++ ys) (ds ++ es)
  | _, _, _, _, .nil, b => b
  | _, _, _, _, .cons a c, b => .cons a (dpAll_app c b)
end Zq
namespace Zq
open PySem PySem.Spec PyProof.Rows L2
open PySem.Froz (sing)
/-! ### numbers, or not -/
def InI (K : PySem.W.Frag) (H : Hp) (u : V) (o : Option Int) : Prop := (∃ i, u = .int i ∧ o = some i) ∨ (∃ b, u = .bl b ∧ o = none) ∨ (o = none ∧ ∃ t, TyX K H u t ∧ PySem.W.kitOne K t (.type "int") = some false)
def inB (m : Int) : Option Int → Bool
  | none => false
  | some i => decide (0 ≤ i) && decide (i < m)
def rgB (lo hi : Int) : Option Int → Bool
  | none => false
  | some i => decide (lo ≤ i) && decide (i ≤ hi)
theorem InI.same {K : PySem.W.Frag} {H H' : Hp} {u : V} {o : Option Int} (s : Same H H') (x : InI K H u o) : InI K H' u o := by
  rcases x with x | x | ⟨e, t, x, k⟩
  · exact .inl x
  · exact .inr (.inl x)
  · exact .inr (.inr ⟨e, t, tyX_same s x, k⟩)
/-- a strike's item: its numbers, or what it lacks -/
def StI (K : PySem.W.Frag) (H : Hp) (x : V) (t : Sk) : Prop := (∃ a p n, t = some (p, n) ∧ x = .ref a ∧ SqT K H a [.int p, .int n]) ∨
  (t = none ∧ ((∃ ty, TyX K H x ty ∧ PySem.W.kitOne K ty (.type "tuple") = some false) ∨ (∃ a ys, x = .ref a ∧ SqT K H a ys ∧ ys.length ≠ 2) ∨
    (∃ a u v o1 o2, x = .ref a ∧ SqT K H a [u, v] ∧ InI K H u o1 ∧ InI K H v o2 ∧ (o1 = none ∨ o2 = none))))
theorem StI.same {K : PySem.W.Frag} {H H' : Hp} {x : V} {t : Sk} (s : Same H H') (h : StI K H x t) : StI K H' x t := by
  rcases h with ⟨a, p, n, e1, e2, h⟩ | ⟨e, ⟨ty, h, k⟩ | ⟨a, ys, e2, h, l⟩ | ⟨a, u, v, o1, o2, e2, h, i1, i2, l⟩⟩
  · exact .inl ⟨a, p, n, e1, e2, same_seqT s h⟩
  · exact .inr ⟨e, .inl ⟨ty, tyX_same s h, k⟩⟩
  · exact .inr ⟨e, .inr (.inl ⟨a, ys, e2, same_seqT s h, l⟩)⟩
  · exact .inr ⟨e, .inr (.inr ⟨a, u, v, o1, o2, e2, same_seqT s h, i1.same s, i2.same s, l⟩)⟩
theorem dp_in {K : PySem.W.Frag} {G : Hp} {v : V} {d : PyData} (h : Dp K G v d) : ∃ o, InI K G v o := by
  have ty := tyX_of h
  cases h with
  | int i => exact ⟨some i, .inl ⟨i, rfl, rfl⟩⟩
  | bl b => exact ⟨none, .inr (.inl ⟨b, rfl, rfl⟩)⟩
  | non => exact ⟨none, .inr (.inr ⟨rfl, _, ty, kit_ty (show kitB "NoneType" "int" = some false by decide +kernel)⟩)⟩
  | str x => exact ⟨none, .inr (.inr ⟨rfl, _, ty, kit_ty (show kitB "str" "int" = some false by decide +kernel)⟩)⟩
  | lst a b => exact ⟨none, .inr (.inr ⟨rfl, _, ty, kit_ty (show kitB "list" "int" = some false by decide +kernel)⟩)⟩
  | tup a b => exact ⟨none, .inr (.inr ⟨rfl, _, ty, kit_ty (show kitB "tuple" "int" = some false by decide +kernel)⟩)⟩
theorem dp_st {K : PySem.W.Frag} {G : Hp} {v : V} {d : PyData} (a : Dp K G v d) : ∃ t, StI K G v t := by
  have ty := tyX_of a
  cases a with
  | str x => exact ⟨none, .inr ⟨rfl, .inl ⟨_, ty, kit_ty (show kitB "str" "tuple" = some false by decide +kernel)⟩⟩⟩
  | non => exact ⟨none, .inr ⟨rfl, .inl ⟨_, ty, kit_ty (show kitB "NoneType" "tuple" = some false by decide +kernel)⟩⟩⟩
  | bl b => exact ⟨none, .inr ⟨rfl, .inl ⟨_, ty, kit_ty (show kitB "bool" "tuple" = some false by decide +kernel)⟩⟩⟩
  | int i => exact ⟨none, .inr ⟨rfl, .inl ⟨_, ty, kit_ty (show kitB "int" "tuple" = some false by decide +kernel)⟩⟩⟩
  | lst a b => exact ⟨none, .inr ⟨rfl, .inl ⟨_, ty, kit_ty (show kitB "list" "tuple" = some false by decide +kernel)⟩⟩⟩
  | @tup p xs ds a b =>
    by_cases h2 : xs.length = 2
    · obtain ⟨u, v, rfl⟩ : ∃ u v, xs = [u, v] := by
        match xs, h2 with
        | [u, v], _ => exact ⟨u, v, rfl⟩
      obtain ⟨d1, e1, p1⟩ := dpAll_get (i := 0) b rfl
      obtain ⟨d2, e2, p2⟩ := dpAll_get (i := 1) b rfl
      obtain ⟨o1, i1⟩ := dp_in p1
      obtain ⟨o2, i2⟩ := dp_in p2
      cases o1 with
      | none => exact ⟨none, .inr ⟨rfl, .inr (.inr ⟨p, u, v, none, o2, rfl, a, i1, i2, .inl rfl⟩)⟩⟩
      | some i =>
        cases o2 with
        | none => exact ⟨none, .inr ⟨rfl, .inr (.inr ⟨p, u, v, some i, none, rfl, a, i1, i2, .inr rfl⟩)⟩⟩
        | some j =>
          rcases i1 with ⟨i', rfl, e⟩ | ⟨_, _, e⟩ | ⟨e, _⟩
          · rcases i2 with ⟨j', rfl, e'⟩ | ⟨_, _, e'⟩ | ⟨e', _⟩
            · cases e
              cases e'
              exact ⟨some (i, j), .inl ⟨p, i, j, rfl, rfl, a⟩⟩
            · cases e'
            · cases e'
          · cases e
          · cases e
    · exact ⟨none, .inr ⟨rfl, .inr (.inl ⟨p, xs, rfl, a, h2⟩)⟩⟩
theorem odd_st {K : PySem.W.Frag} {G : Hp} {v : V} (h : Odd K G v) : ∃ t, StI K G v t := by
  rcases h with ⟨d, a, _, n, _⟩ | ⟨p, kvs, rfl, g, _⟩
  · exact dp_st a
  · exact ⟨none, .inr ⟨rfl, .inl ⟨_, .base (.dK g), kit_ty (by decide +kernel)⟩⟩⟩
def spInt0 (K : PySem.W.Frag) : Sp := fun vs H Q _ => ∃ (u : V) (o : Option Int), vs = [u] ∧ InI K H u o ∧ Q (.bl o.isSome) H
def spIndex (K : PySem.W.Frag) : Sp := fun vs H Q _ => ∃ (m : Int) (u : V) (o : Option Int), vs = [.int m, u] ∧ InI K H u o ∧ Q (.bl (inB m o)) H
def spLInt (K : PySem.W.Frag) : Sp := fun vs H Q _ => ∃ (u : V) (o : Option Int) (lo hi : Int), vs = [u, .int lo, .int hi] ∧ InI K H u o ∧ Q (.bl (rgB lo hi o)) H
def spNeed : Sp := fun vs H Q _ => ∃ z : Str, vs = [.str z] ∧ z.length ≤ 50000 ∧ logB z = true ∧ ∀ H', Same H H' → Q .non H'
section
variable {P : Program} {w : World} {K : PySem.W.Frag} {mg : Str → Option Value} {base : Heap}
abbrev sInt0 : Stmt := topS 10
abbrev NscInt0 : List Str := ["thing"]
theorem scInt0 : FnScope ["thing"] ["thing"] (defScope sInt0) := ⟨rfl, rfl, rfl, by decide +kernel, rfl, by decide +kernel, by decide +kernel⟩
theorem ok_int0 {f : Addr} {fd : FuncData} (F : Fun K "is_integer" "is_integer" sInt0 f fd) (T : Txt mg) : FnOk P w K mg base CX0 1 f fd ["thing"] (spInt0 K) := by
  refine F.ok scInt0 (fun vs H Q E h => ?_) (fun cdv A outer s H vs Q E hr h => ?_)
  · obtain ⟨u, o, rfl, _⟩ := h
    rfl
  · obtain ⟨u, o, rfl, hu, q⟩ := h
    refine ⟨_, (pss_one (ps_ret (pe_and (pe_callB call_isi (by rfl) T.nisinstance (by decide +kernel) (pa_cons (pv 0) (pa_cons (pe_bltn (v := .ty "int") (by rfl) T.nint (by decide +kernel) rfl) pa_nil))) (pe_one (pe_not (pe_callB call_isi (by rfl) T.nisinstance (by decide +kernel) (pa_cons (pv 0) (pa_cons (pe_bltn (v := .ty "bool") (by rfl) T.nbool (by decide +kernel) rfl) pa_nil)))))))), ?_⟩
    rcases hu with ⟨i, rfl, rfl⟩ | ⟨b, rfl, rfl⟩ | ⟨rfl, t, ty, kt⟩
    · refine ⟨.int i, rfl, ⟨.int i, .ty "int", _, _, true, rfl, .ty _, .base (.int i), kit_ty (by decide +kernel), true, rfl, iteT ?_⟩⟩
      exact ⟨.int i, rfl, ⟨.int i, .ty "bool", _, _, false, rfl, .ty _, .base (.int i), kit_ty (by decide +kernel), false, rfl, q⟩⟩
    · refine ⟨.bl b, rfl, ⟨.bl b, .ty "int", _, _, true, rfl, .ty _, .base (.bl b), kit_ty (by decide +kernel), true, rfl, iteT ?_⟩⟩
      exact ⟨.bl b, rfl, ⟨.bl b, .ty "bool", _, _, true, rfl, .ty _, .base (.bl b), kit_ty (by decide +kernel), true, rfl, q⟩⟩
    · exact ⟨u, rfl, ⟨u, .ty "int", _, _, false, rfl, .ty _, ty, kt, false, rfl, iteF q⟩⟩
abbrev sIndex : Stmt := topS 11
abbrev NscIndex : List Str := ["many", "thing"]
theorem scIndex : FnScope ["many", "thing"] ["many", "thing"] (defScope sIndex) := ⟨rfl, rfl, rfl, by decide +kernel, rfl, by decide +kernel, by decide +kernel⟩
theorem ok_index {f : Addr} {fd : FuncData} (F : Fun K "is_index" "is_index" sIndex f fd) (T : Txt mg) (C_is_integer : Own P w K mg base CX0 1 "is_integer" ["thing"] (spInt0 K)) : FnOk P w K mg base CX0 2 f fd ["many", "thing"] (spIndex K) := by
  refine F.ok scIndex (fun vs H Q E h => ?_) (fun cdv A outer s H vs Q E hr h => ?_)
  · obtain ⟨m, u, o, rfl, _⟩ := h
    rfl
  · obtain ⟨m, u, o, rfl, hu, q⟩ := h
    refine ⟨_, (pss_one (ps_ret (pe_and (pe_own C_is_integer hr (pa_cons (pv 1) pa_nil)) (pe_one (pe_chain op_le op_lt pe_int (pv 1) (pv 0)))))), ?_⟩
    refine ⟨u, rfl, u, o, rfl, hu, _, rfl, ?_⟩
    rcases hu with ⟨i, rfl, rfl⟩ | ⟨b, rfl, rfl⟩ | ⟨rfl, t, ty, kt⟩
    · refine iteT ?_
      refine ⟨.int i, rfl, _, _, rfl, rfl, _, rfl, ?_⟩
      have q : Q (.bl (decide (0 ≤ i) && decide (i < m))) H := q
      refine ite2 (fun h0 => ?_) (fun h0 => ?_)
      · refine ⟨.int m, rfl, _, _, rfl, rfl, ?_⟩
        rw [h0, Bool.true_and] at q
        exact q
      · rw [Bool.eq_false_iff.mpr h0, Bool.false_and] at q
        exact q
    · exact iteF q
    · exact iteF q
abbrev sNeed : Stmt := topS 13
abbrev NscNeed : List Str := ["thing"]
theorem scNeed : FnScope ["thing"] ["thing"] (defScope sNeed) := ⟨rfl, rfl, rfl, by decide +kernel, rfl, by decide +kernel, by decide +kernel⟩
theorem ok_need {f : Addr} {fd : FuncData} (F : Fun K "need_log" "need_log" sNeed f fd) (T : Txt mg) (C_is_log : Own P w K mg base CX0 1 "is_log" ["thing"] (spLog K)) : FnOk P w K mg base CX0 2 f fd ["thing"] spNeed := by
  refine F.ok scNeed (fun vs H Q E h => ?_) (fun cdv A outer s H vs Q E hr h => ?_)
  · obtain ⟨z, rfl, _⟩ := h
    rfl
  · obtain ⟨z, rfl, hl, hz, q⟩ := h
    refine ⟨_, (pss_one (ps_if (pt_not (pt_val (pe_own C_is_log hr (pa_cons (pv 0) pa_nil)))) (pss_one ps_never) pss_nil)), ?_⟩
    refine ⟨.str z, rfl, .str z, rfl, .inl ⟨z, rfl, hl⟩, fun H1 s1 => ⟨_, rfl, ?_⟩⟩
    refine ite2 (fun h => ?_) (fun _ => q H1 s1)
    have h : (!logB z) = true := h
    rw [hz] at h
    cases h
abbrev sLint : Stmt := topS 33
abbrev NscLint : List Str := ["_law_thing", "_law_low", "_law_high"]
theorem scLint : FnScope ["_law_thing", "_law_low", "_law_high"] ["_law_thing", "_law_low", "_law_high"] (defScope sLint) := ⟨rfl, rfl, rfl, by decide +kernel, rfl, by decide +kernel, by decide +kernel⟩
theorem ok_lint {f : Addr} {fd : FuncData} (F : Fun K "_law_int" "_law_int" sLint f fd) (T : Txt mg) : FnOk P w K mg base CX0 1 f fd ["_law_thing", "_law_low", "_law_high"] (spLInt K) := by
  refine F.ok scLint (fun vs H Q E h => ?_) (fun cdv A outer s H vs Q E hr h => ?_)
  · obtain ⟨u, o, lo, hi, rfl, _⟩ := h
    rfl
  · obtain ⟨u, o, lo, hi, rfl, hu, q⟩ := h
    refine ⟨_, (pss_one (ps_ret (pe_and (pe_callB call_isi (by rfl) T.nisinstance (by decide +kernel) (pa_cons (pv 0) (pa_cons (pe_bltn (v := .ty "int") (by rfl) T.nint (by decide +kernel) rfl) pa_nil))) (pe_and (pe_not (pe_callB call_isi (by rfl) T.nisinstance (by decide +kernel) (pa_cons (pv 0) (pa_cons (pe_bltn (v := .ty "bool") (by rfl) T.nbool (by decide +kernel) rfl) pa_nil)))) (pe_one (pe_chain op_le op_le (pv 1) (pv 0) (pv 2))))))), ?_⟩
    rcases hu with ⟨i, rfl, rfl⟩ | ⟨b, rfl, rfl⟩ | ⟨rfl, t, ty, kt⟩
    · refine ⟨.int i, rfl, ⟨.int i, .ty "int", _, _, true, rfl, .ty _, .base (.int i), kit_ty (by decide +kernel), true, rfl, iteT ?_⟩⟩
      refine ⟨.int i, rfl, ⟨.int i, .ty "bool", _, _, false, rfl, .ty _, .base (.int i), kit_ty (by decide +kernel), false, rfl, true, rfl, iteT ?_⟩⟩
      refine ⟨.int lo, rfl, .int i, rfl, _, _, rfl, rfl, _, rfl, ?_⟩
      have q : Q (.bl (decide (lo ≤ i) && decide (i ≤ hi))) H := q
      refine ite2 (fun h0 => ?_) (fun h0 => ?_)
      · refine ⟨.int hi, rfl, _, _, rfl, rfl, ?_⟩
        rw [h0, Bool.true_and] at q
        exact q
      · rw [Bool.eq_false_iff.mpr h0, Bool.false_and] at q
        exact q
    · refine ⟨.bl b, rfl, ⟨.bl b, .ty "int", _, _, true, rfl, .ty _, .base (.bl b), kit_ty (by decide +kernel), true, rfl, iteT ?_⟩⟩
      exact ⟨.bl b, rfl, ⟨.bl b, .ty "bool", _, _, true, rfl, .ty _, .base (.bl b), kit_ty (by decide +kernel), true, rfl, false, rfl, iteF q⟩⟩
    · exact ⟨u, rfl, ⟨u, .ty "int", _, _, false, rfl, .ty _, ty, kt, false, rfl, iteF q⟩⟩
end
end Zq
namespace Zq
open PySem PySem.Spec PyProof.Rows L2
open PySem.Froz (sing)
/-! ### strikes -/
def spIsK (K : PySem.W.Frag) (CB : Addr) : Sp := fun vs H Q _ => ∃ (bk : Addr) (z : Str) (x : V) (zs : List Str) (t : Sk), vs = [.ref bk, .str z, x] ∧ BkAt K CB H bk zs ∧ GoodP zs ∧ z.length ≤ 4000 ∧ StI K H x t ∧ ∀ H', Same H H' → Q (.bl (okT zs z t)) H'
def spWo (K : PySem.W.Frag) (CB : Addr) : Sp := fun vs H Q _ => ∃ (bk a : Addr) (z : Str) (zs : List Str) (p n : Int), vs = [.ref bk, .str z, .ref a] ∧ BkAt K CB H bk zs ∧ GoodP zs ∧ z.length ≤ 4000 ∧ SqT K H a [.int p, .int n] ∧ okT zs z (some (p, n)) = true ∧ Q (.str (wo zs z p n)) H
def spLwo (K : PySem.W.Frag) : Sp := fun vs H Q _ => ∃ (q a : Addr) (z : Str) (zs : List Str) (p n : Int), vs = [.ref q, .str z, .ref a] ∧ SqT K H q (zs.map V.str) ∧ GoodP zs ∧ z.length ≤ 4000 ∧ SqT K H a [.int p, .int n] ∧ okT zs z (some (p, n)) = true ∧ Q (.str (wo zs z p n)) H
theorem getD_at {zs : List Str} {n : Int} (h0 : 0 ≤ n) (h : n < zs.length) : atI (zs.map V.str) n = some (.str (zs.getD n.toNat "")) := by
  obtain ⟨m, rfl⟩ := Int.eq_ofNat_of_zero_le h0
  refine atI_nat ?_
  rw [List.getElem?_map, Int.toNat_natCast, List.getD_eq_getElem?_getD, List.getElem?_eq_getElem (by omega)]
  rfl
theorem getD_mem {zs : List Str} {m : Nat} (h : m < zs.length) : zs.getD m "" ∈ zs := by
  rw [List.getD_eq_getElem?_getD, List.getElem?_eq_getElem h]
  exact List.getElem_mem h
theorem cut_le {z : Str} {lo hi : Option Int} : (cutS z lo hi).length ≤ z.length := by
  unfold cutS
  show ((z.cps.toList.drop _).take _).toArray.size ≤ _
  rw [List.size_toArray, List.length_take, List.length_drop, zlen]
  omega
section
variable {P : Program} {w : World} {K : PySem.W.Frag} {mg : Str → Option Value} {base : Heap}
abbrev sIss : Stmt := topS 20
abbrev NscIss : List Str := ["book", "log", "thing", "place", "number"]
theorem scIss : FnScope ["book", "log", "thing", "place", "number"] ["book", "log", "thing"] (defScope sIss) := ⟨rfl, rfl, rfl, by decide +kernel, rfl, by decide +kernel, by decide +kernel⟩
theorem ok_iss {CB : Addr} {f : Addr} {fd : FuncData} (F : Fun K "_is_strike" "_is_strike" sIss f fd) (T : Txt mg) (M_Book : BookC K mg CB) (C_is_index : Own P w K mg base CX0 2 "is_index" ["many", "thing"] (spIndex K)) :
    FnOk P w K mg base CX0 3 f fd ["book", "log", "thing"] (spIsK K CB) := by
  refine F.ok scIss (fun vs H Q E h => ?_) (fun cdv A outer s H vs Q E hr h => ?_)
  · obtain ⟨bk, z, x, zs, t, rfl, _⟩ := h
    rfl
  · obtain ⟨bk, z, x, zs, t, rfl, ⟨dx, r, eb, hp⟩, gz, zl, hx, q⟩ := h
    refine ⟨_, (pss_cons (ps_if (PW.pt (pw_or (pt_not (pt_val (pe_callB call_isi (by rfl) T.nisinstance (by decide +kernel) (pa_cons (pv 2) (pa_cons (pe_bltn (v := .ty "tuple") (by rfl) T.ntuple (by decide +kernel) rfl) pa_nil))))) (pw_or1 (pt_cmpR op_ne (pe_callB call_len_seq (by rfl) T.nlen (by decide +kernel) (pa_cons (pv 2) pa_nil)) pe_int (nomark _))))) (pss_one (ps_ret pe_bl)) pss_nil)
      (pss_cons (ps_asg (pv 2) (pg_tup rfl (pgs_cons (pg_name (i := 3) scIss.nd rfl (Or.inl rfl)) (pgs_cons (pg_name (i := 4) scIss.nd rfl (Or.inl rfl)) pgs_nil))))
      (pss_cons (ps_if (PW.pt (pw_or (pt_not (pt_val (pe_own C_is_index hr (pa_cons (pe_callB call_len_str (by rfl) T.nlen (by decide +kernel) (pa_cons (pv 1) pa_nil)) (pa_cons (pv 3) pa_nil))))) (pw_or1 (pt_not (pt_val (pe_own C_is_index hr (pa_cons (pe_callB call_len_seq (by rfl) T.nlen (by decide +kernel) (pa_cons (pe_fld (pv 0) rfl) pa_nil)) (pa_cons (pv 4) pa_nil)))))))) (pss_one (ps_ret pe_bl)) pss_nil)
      (pss_one (ps_ret (pe_bm PySem.F.plainAttrs_str PySem.F.slot_str_startswith PySem.F.type_str_startswith mt_startswith3 (pv 1) (pa_cons (pe_ix ix_tup (pe_fld (pv 0) rfl) (pv 4) (fun _ _ => rfl)) (pa_cons (pv 3) pa_nil)))))))), ?_⟩
    have q0 := q H fun _ _ e => e
    have nope : okT zs z none = false := rfl
    rcases hx with ⟨a, p, n, rfl, rfl, ha⟩ | ⟨rfl, ⟨ty, hty, kty⟩ | ⟨a, ys, rfl, ha, l2⟩ | ⟨a, u, v, o1, o2, rfl, ha, i1, i2, l⟩⟩
    · refine ⟨.ref a, rfl, ⟨.ref a, .ty "tuple", _, _, true, rfl, .ty _, tyX_tup ha, kit_ty (by decide +kernel), true, rfl, iteF ?_⟩⟩
      refine ⟨.ref a, rfl, a, _, rfl, .inr ha, rfl, _, rfl, ?_⟩
      refine ite2 (fun z => absurd z (by show ¬ (!decide (V.int 2 = .int 2)) = true; decide)) (fun _ => ?_)
      refine ⟨.ref a, rfl, a, _, rfl, ha, rfl, _, _, rfl, _, _, rfl, rfl, ?_⟩
      refine ⟨.str z, rfl, z, rfl, Nat.le_of_lt (sz_lt (by omega)), .int p, rfl, _, .int p, some p, rfl, .inl ⟨p, rfl, rfl⟩, _, rfl, ?_⟩
      have e : okT zs z (some (p, n)) = (inB z.length (some p) && (inB zs.length (some n) && okN zs z p.toNat n.toNat)) := by
        rw [okT_eq]
        show _ = ((decide (0 ≤ p) && decide (p < z.length)) && ((decide (0 ≤ n) && decide (n < zs.length)) && okN zs z p.toNat n.toNat))
        rw [Bool.and_assoc, Bool.and_assoc]
      refine ite2 (fun h1 => ?_) (fun h1 => ?_)
      · have h1 : inB z.length (some p) = false := by
          cases q : inB z.length (some p) with
          | false => rfl
          | true => rw [q] at h1; cases h1
        rw [e, h1, Bool.false_and] at q0
        exact q0
      · have h1 : inB z.length (some p) = true := by
          cases q : inB z.length (some p) with
          | true => rfl
          | false => rw [q] at h1; exact absurd rfl h1
        refine ⟨.ref bk, rfl, bk, CB, dx, _, .ref r, rfl, eb, M_Book.cl, M_Book.nA, by simp [List.lookup], r, _, rfl, .inr hp, .int n, rfl, _, .int n, some n, rfl, .inl ⟨n, rfl, rfl⟩, _, rfl, ?_⟩
        rw [List.length_map]
        refine ite2 (fun h2 => ?_) (fun h2 => ?_)
        · have h2 : inB zs.length (some n) = false := by
            cases q : inB zs.length (some n) with
            | false => rfl
            | true => rw [q] at h2; cases h2
          rw [e, h2, Bool.false_and, Bool.and_false] at q0
          exact q0
        · have h2 : inB zs.length (some n) = true := by
            cases q : inB zs.length (some n) with
            | true => rfl
            | false => rw [q] at h2; exact absurd rfl h2
          rw [e, h1, h2, Bool.true_and, Bool.true_and] at q0
          have h1 : (decide (0 ≤ p) && decide (p < z.length)) = true := h1
          have h2 : (decide (0 ≤ n) && decide (n < zs.length)) = true := h2
          rw [Bool.and_eq_true, decide_eq_true_eq, decide_eq_true_eq] at h1 h2
          refine ⟨.str z, rfl, rfl, .ref bk, rfl, bk, CB, dx, _, .ref r, rfl, eb, M_Book.cl, M_Book.nA, by simp [List.lookup], .int n, rfl, r, _, n, _, rfl, rfl, hp, getD_at h2.1 h2.2, .int p, rfl, z, _, p, rfl, rfl, ?_⟩
          obtain ⟨k, rfl⟩ := Int.eq_ofNat_of_zero_le h1.1
          obtain ⟨m, rfl⟩ := Int.eq_ofNat_of_zero_le h2.1
          rw [starts_is (piece_log (gz.2.2 _ (getD_mem (by omega)))).2.1]
          exact q0
    · refine ⟨x, rfl, ⟨x, .ty "tuple", _, _, false, rfl, .ty _, hty, kty, false, rfl, iteT ?_⟩⟩
      exact q0
    · refine ⟨.ref a, rfl, ⟨.ref a, .ty "tuple", _, _, true, rfl, .ty _, tyX_tup ha, kit_ty (by decide +kernel), true, rfl, iteF ?_⟩⟩
      refine ⟨.ref a, rfl, a, _, rfl, .inr ha, rfl, _, rfl, ?_⟩
      refine ite2 (fun _ => q0) (fun h => absurd ?_ h)
      rw [decide_eq_false (fun e : V.int ys.length = .int 2 => l2 (by have := V.int.inj e; omega))]
      rfl
    · refine ⟨.ref a, rfl, ⟨.ref a, .ty "tuple", _, _, true, rfl, .ty _, tyX_tup ha, kit_ty (by decide +kernel), true, rfl, iteF ?_⟩⟩
      refine ⟨.ref a, rfl, a, _, rfl, .inr ha, rfl, _, rfl, ?_⟩
      refine ite2 (fun z => absurd z (by show ¬ (!decide (V.int 2 = .int 2)) = true; decide)) (fun _ => ?_)
      refine ⟨.ref a, rfl, a, _, rfl, ha, rfl, _, _, rfl, _, _, rfl, rfl, ?_⟩
      refine ⟨.str z, rfl, z, rfl, Nat.le_of_lt (sz_lt (by omega)), u, rfl, _, u, o1, rfl, i1, _, rfl, ?_⟩
      refine ite2 (fun h1 => q0) (fun h1 => ?_)
      refine ⟨.ref bk, rfl, bk, CB, dx, _, .ref r, rfl, eb, M_Book.cl, M_Book.nA, by simp [List.lookup], r, _, rfl, .inr hp, v, rfl, _, v, o2, rfl, i2, _, rfl, ?_⟩
      refine ite2 (fun h2 => q0) (fun h2 => ?_)
      rcases l with rfl | rfl
      · exact absurd rfl h1
      · exact absurd rfl h2
abbrev sWo : Stmt := topS 21
abbrev NscWo : List Str := ["book", "log", "strike", "place", "number"]
theorem scWo : FnScope ["book", "log", "strike", "place", "number"] ["book", "log", "strike"] (defScope sWo) := ⟨rfl, rfl, rfl, by decide +kernel, rfl, by decide +kernel, by decide +kernel⟩
theorem ok_wo {CB : Addr} {f : Addr} {fd : FuncData} (F : Fun K "_without" "_without" sWo f fd) (T : Txt mg) (M_Book : BookC K mg CB) : FnOk P w K mg base CX0 1 f fd ["book", "log", "strike"] (spWo K CB) := by
  refine F.ok scWo (fun vs H Q E h => ?_) (fun cdv A outer s H vs Q E hr h => ?_)
  · obtain ⟨bk, a, z, zs, p, n, rfl, _⟩ := h
    rfl
  · obtain ⟨bk, a, z, zs, p, n, rfl, ⟨dx, r, eb, hp⟩, gz, zl, ha, ok, q⟩ := h
    refine ⟨_, (pss_cons (ps_asg (pv 2) (pg_tup rfl (pgs_cons (pg_name (i := 3) scWo.nd rfl (Or.inl rfl)) (pgs_cons (pg_name (i := 4) scWo.nd rfl (Or.inl rfl)) pgs_nil))))
      (pss_one (ps_ret (pe_op op_add_str (pe_slice sl_str (pv 1) po_none (po_some (pv 3))) (pe_slice sl_str (pv 1) (po_some (pe_op op_add (pv 3) (pe_callB call_len_str (by rfl) T.nlen (by decide +kernel) (pa_cons (pe_ix ix_tup (pe_fld (pv 0) rfl) (pv 4) (fun _ _ => rfl)) pa_nil)))) po_none))))), ?_⟩
    obtain ⟨h1, h2, h3, h4, h5⟩ := okT_some ok
    refine ⟨.ref a, rfl, a, _, rfl, ha, rfl, _, _, rfl, _, _, rfl, rfl, ?_⟩
    have pm := (piece_log (gz.2.2 _ (getD_mem (m := n.toNat) (by omega)))).2
    refine ⟨.str z, rfl, .int p, rfl, p, rfl, z, rfl, Nat.le_of_lt (sz_lt (by omega)), ?_⟩
    refine ⟨.str z, rfl, .int p, rfl, .ref bk, rfl, bk, CB, dx, _, .ref r, rfl, eb, M_Book.cl, M_Book.nA, by simp [List.lookup], .int n, rfl, r, _, n, _, rfl, rfl, hp, getD_at h3 h4, _, rfl, Nat.le_of_lt (sz_lt (by omega)), _, _, rfl, rfl, _, rfl, z, rfl, Nat.le_of_lt (sz_lt (by omega)), ?_⟩
    refine ⟨_, _, rfl, rfl, ?_, q⟩
    have := @cut_le z none (some p)
    have := @cut_le z (some (p + ((zs.getD n.toNat "").length : Nat))) none
    exact Nat.le_of_lt (sz_lt (by omega))
abbrev sLwo : Stmt := topS 37
abbrev NscLwo : List Str := ["_law_pieces_here", "_law_log_here", "_law_strike"]
theorem scLwo : FnScope ["_law_pieces_here", "_law_log_here", "_law_strike"] ["_law_pieces_here", "_law_log_here", "_law_strike"] (defScope sLwo) := ⟨rfl, rfl, rfl, by decide +kernel, rfl, by decide +kernel, by decide +kernel⟩
theorem ok_lwo {f : Addr} {fd : FuncData} (F : Fun K "_law_struck" "_law_struck" sLwo f fd) (T : Txt mg) : FnOk P w K mg base CX0 1 f fd ["_law_pieces_here", "_law_log_here", "_law_strike"] (spLwo K) := by
  refine F.ok scLwo (fun vs H Q E h => ?_) (fun cdv A outer s H vs Q E hr h => ?_)
  · obtain ⟨bk, a, z, zs, p, n, rfl, _⟩ := h
    rfl
  · obtain ⟨r, a, z, zs, p, n, rfl, hp, gz, zl, ha, ok, q⟩ := h
    refine ⟨_, (pss_one (ps_ret (pe_op op_add_str (pe_slice sl_str (pv 1) po_none (po_some (pe_ix ix_tup (pv 2) pe_int (fun _ _ => rfl)))) (pe_slice sl_str (pv 1) (po_some (pe_op op_add (pe_ix ix_tup (pv 2) pe_int (fun _ _ => rfl)) (pe_callB call_len_str (by rfl) T.nlen (by decide +kernel) (pa_cons (pe_ix ix_tup (pv 0) (pe_ix ix_tup (pv 2) pe_int (fun _ _ => rfl)) (fun _ _ => rfl)) pa_nil)))) po_none)))), ?_⟩
    obtain ⟨h1, h2, h3, h4, h5⟩ := okT_some ok
    have pm := (piece_log (gz.2.2 _ (getD_mem (m := n.toNat) (by omega)))).2
    refine ⟨.str z, rfl, .ref a, rfl, a, _, 0, _, rfl, rfl, ha, rfl, p, rfl, z, rfl, Nat.le_of_lt (sz_lt (by omega)), ?_⟩
    refine ⟨.str z, rfl, .ref a, rfl, a, _, 0, _, rfl, rfl, ha, rfl, .ref r, rfl, .ref a, rfl, a, _, 1, _, rfl, rfl, ha, rfl, r, _, n, _, rfl, rfl, hp, getD_at h3 h4, _, rfl, Nat.le_of_lt (sz_lt (by omega)), _, _, rfl, rfl, _, rfl, z, rfl, Nat.le_of_lt (sz_lt (by omega)), ?_⟩
    refine ⟨_, _, rfl, rfl, ?_, q⟩
    have := @cut_le z none (some p)
    have := @cut_le z (some (p + ((zs.getD n.toNat "").length : Nat))) none
    exact Nat.le_of_lt (sz_lt (by omega))
end
end Zq
namespace Zq
open PySem PySem.Spec PyProof.Rows L2
open PySem.Froz (sing)
/-! ### all strikes, by the program and by the law -/
def spStk (K : PySem.W.Frag) (CB : Addr) : Sp := fun vs H Q _ => ∃ (bk : Addr) (z : Str) (zs : List Str), vs = [.ref bk, .str z] ∧ BkAt K CB H bk zs ∧ GoodP zs ∧ z.length ≤ 4000 ∧ logB z = true ∧
  ∀ (l : Addr) (xs : List V) H', Same H H' → H l = none → H' l = some (.lst xs) → DpAll K H' xs ((allS zs z).map prD) → Q (.ref l) H'
def spLstk (K : PySem.W.Frag) : Sp := fun vs H Q _ => ∃ (p : Addr) (z : Str) (zs : List Str), vs = [.ref p, .str z] ∧ SqT K H p (zs.map V.str) ∧ GoodP zs ∧ z.length ≤ 4000 ∧
  ∀ (l : Addr) (xs : List V) H', Same H H' → H l = none → H' l = some (.lst xs) → DpAll K H' xs ((allS zs z).map prD) → Q (.ref l) H'
/-- found so far: all of the rows ahead of i, of row i as many as there are ahead of j -/
def Fnd (K : PySem.W.Frag) (H H' : Hp) (D : Addr) (ps : List (Nat × Nat)) : Prop := Same H H' ∧ ∃ xs : List V, H' D = some (.lst xs) ∧ DpAll K H' xs (ps.map prD)
theorem Fnd.same {K : PySem.W.Frag} {H H1 H2 : Hp} {D : Addr} {ps : List (Nat × Nat)} (x : Fnd K H H1 D ps) (s : Same H1 H2) : Fnd K H H2 D ps := by
  obtain ⟨s1, xs, e, d⟩ := x
  exact ⟨s1.trans s, xs, s _ _ e, dpAll_same s d⟩
theorem dp_off {K : PySem.W.Frag} {H : Hp} {D : Addr} {xs ys : List V} {p : List (Nat × Nat)} (e : H D = some (.lst xs)) : ∀ {zs : List V}, DpAll K H zs (p.map prD) → DpAll K (upd H D (.lst ys)) zs (p.map prD) := by
  induction p with
  | nil => intro zs h; cases h; exact .nil
  | cons a p ih =>
    intro zs h
    rw [List.map_cons] at h
    cases h with
    | cons h1 h2 =>
      refine .cons ?_ (ih h2)
      cases h1 with
      | @tup b bs ds hb hd =>
        refine .tup (xs := bs) ?_ ?_
        · rcases hb with (hb | ⟨o, hb⟩) | hb
          · refine .inl (.inl ?_)
            rw [upd_ne (fun z => by rw [z, e] at hb; cases hb)]
            exact hb
          · refine .inl (.inr ⟨o, ?_⟩)
            rw [upd_ne (fun z => by rw [z, e] at hb; cases hb)]
            exact hb
          · exact .inr hb
        · cases hd with
          | cons g1 g2 =>
            cases g1
            cases g2 with
            | cons g3 g4 =>
              cases g3
              cases g4
              exact .cons (.int _) (.cons (.int _) .nil)
/-- one more, its pair at t -/
theorem Fnd.more {K : PySem.W.Frag} {H H1 : Hp} {D t : Addr} {ps : List (Nat × Nat)} {p n : Nat} (nD : H D = none) (x : Fnd K H H1 D ps) (et : H1 t = some (.tup [.int (p : Nat), .int (n : Nat)])) (hl : ps.length < 50000) :
    ∃ acc, H1 D = some (.lst acc) ∧ acc.length < sizeLine ∧ Fnd K H (upd H1 D (.lst (acc ++ [.ref t]))) D (ps ++ [(p, n)]) := by
  obtain ⟨s1, xs, e, d⟩ := x
  have ntD : t ≠ D := fun z => by
    rw [z, e] at et
    cases et
  refine ⟨xs, e, ?_, fun b o z => ?_, xs ++ [.ref t], upd_same, ?_⟩
  · rw [dpAll_len d, List.length_map]
    exact sz_lt (by omega)
  · rw [upd_ne (ne_of_none z nD)]
    exact s1 _ _ z
  · rw [List.map_append]
    refine dpAll_app (dp_off e d) (.cons (.tup (.inl (.inl (by rw [upd_ne ntD]; exact et))) (.cons (.int _) (.cons (.int _) .nil))) .nil)
theorem cnt {zs : List Str} {z : Str} (g : GoodP zs) (h : z.length ≤ 4000) {i : Nat} (hi : i ≤ z.length) : (colS zs z i).length ≤ 48000 := by
  have h1 := @colS_len zs z i
  have h2 : i * zs.length ≤ 4000 * 12 := Nat.mul_le_mul (by omega) g.2.1
  omega
theorem same_none {H H1 : Hp} {D : Addr} (s : Same H H1) (n : H1 D = none) : H D = none := by
  cases e : H D with
  | none => rfl
  | some o => rw [s _ _ e] at n; cases n
theorem walk_in {J : It} {n : Nat} {G : Hp → Prop} {Y : Nat → Hp → V → Hp → Prop} (w : Walk J n G Y) {B : V → Hp → (Hp → Prop) → Prop} {Qd : Hp → Prop} {H4 : Hp} (Pv : Nat → Hp → Prop) (h0 : Pv 0 H4) (hG : ∀ i H, i ≤ n → Pv i H → G H)
    (hs : ∀ i x H H', i < n → Pv i H → Y i H x H' → B x H' (Pv (i + 1))) (hd : ∀ H, Pv n H → Qd H) :
    ∃ W : Nat → Nat → Hp → Prop, (∃ m, W 0 m H4) ∧ ∀ i m H, W i m H → (J.stop i H ∧ Qd H) ∨ (J.go i H ∧ ∃ Nx : Hp → Prop, (∀ H', Nx H' → ∃ m', m' < m ∧ W (i + 1) m' H') ∧ ∀ x H', J.yld i H x H' → B x H' Nx) := by
  refine ⟨fun i m H => m = n - i ∧ i ≤ n ∧ Pv i H, ⟨n, by simp, Nat.zero_le _, h0⟩, ?_⟩
  rintro i m H ⟨rfl, hi, p⟩
  have q := hG i H hi p
  by_cases hlt : i < n
  · refine .inr ⟨w.goes i H hlt q, Pv (i + 1), fun H' p' => ⟨n - (i + 1), by omega, rfl, hlt, p'⟩, fun x H' y => hs i x H H' hlt p (w.yields i H x H' hlt q y)⟩
  · have e : i = n := by omega
    subst e
    exact .inl ⟨w.stops H q, hd H p⟩
section
variable {P : Program} {w : World} {K : PySem.W.Frag} {mg : Str → Option Value} {base : Heap}
abbrev sLstk : Stmt := topS 36
abbrev NscLstk : List Str := ["_law_pieces_here", "_law_log_here", "_law_found", "_law_place", "_law_number", "_law_piece"]
theorem scLstk : FnScope ["_law_pieces_here", "_law_log_here", "_law_found", "_law_place", "_law_number", "_law_piece"] ["_law_pieces_here", "_law_log_here"] (defScope sLstk) := ⟨rfl, rfl, rfl, by decide +kernel, rfl, by decide +kernel, by decide +kernel⟩
theorem ok_lstk {f : Addr} {fd : FuncData} (F : Fun K "_law_strikes" "_law_strikes" sLstk f fd) (T : Txt mg) : FnOk P w K mg base CX0 1 f fd ["_law_pieces_here", "_law_log_here"] (spLstk K) := by
  refine F.ok scLstk (fun vs H Q E h => ?_) (fun cdv A outer s H vs Q E hr h => ?_)
  · obtain ⟨p, z, zs, rfl, _⟩ := h
    rfl
  · obtain ⟨p, z, zs, rfl, hp, gz, zl, q⟩ := h
    refine ⟨_, (pss_cons (ps_set (i := 2) scLstk.nd rfl (Or.inl rfl) (pe_lst pa_nil))
      (pss_cons (ps_for PassesOwn.never rfl (pi_range1 (by rfl) T.nrange (pa_cons (pe_callB call_len_str (by rfl) T.nlen (by decide +kernel) (pa_cons (pv 1) pa_nil)) pa_nil)) (pg_name (i := 3) scLstk.nd rfl (Or.inl rfl))
        (pss_one (ps_for PassesOwn.never rfl (pi_enT (by rfl) T.nenumerate (pa_cons (pv 0) pa_nil)) (pg_tup rfl (pgs_cons (pg_name (i := 4) scLstk.nd rfl (Or.inl rfl)) (pgs_cons (pg_name (i := 5) scLstk.nd rfl (Or.inl rfl)) pgs_nil)))
          (pss_one (ps_if (pt_cmpR op_eq (pe_slice sl_str (pv 1) (po_some (pv 3)) (po_some (pe_op op_add (pv 3) (pe_callB call_len_str (by rfl) T.nlen (by decide +kernel) (pa_cons (pv 5) pa_nil))))) (pv 5) (nomark _)) (pss_one (ps_expr (pe_bm PySem.F.plainAttrs_list PySem.F.slot_list_append PySem.F.type_list_append mt_append (pv 2) (pa_cons (pe_tup (pa_cons (pv 3) (pa_cons (pv 4) pa_nil))) pa_nil)))) pss_nil)))))
      (pss_one (ps_ret (pv 2))))), ?_⟩
    refine ⟨(by show 0 ≤ sizeLine; decide), fun D nD => ?_⟩
    refine ⟨.str z, rfl, z, rfl, Nat.le_of_lt (sz_lt (by omega)), _, rfl, by omega, by omega, ?_⟩
    refine for_range (lo := 0) (n := ((z.length : Nat) : Int).toNat) (fun i σ' H' => Fnd K H H' D (colS zs z i) ∧ ∃ t3 t4 t5, σ' = [some (.ref p), some (.str z), some (.ref D), t3, t4, t5]) ⟨⟨same_new nD, [], upd_same, .nil⟩, none, none, none, rfl⟩ ?_ ?_
    · rintro i σ' H1 hi ⟨f1, t3, t4, t5, rfl⟩
      have s1 := f1.1
      refine ⟨_, rfl, p, _, rfl, same_seqT s1 hp, for_it walk_enT (fun j σ' H' => Fnd K H H' D (colS zs z i ++ rowS zs z j i) ∧ ∃ t4 t5, σ' = [some (.ref p), some (.str z), some (.ref D), some (.int (i : Nat)), t4, t5])
        ⟨by rw [rowS_zero, List.append_nil]; exact f1, t4, t5, by rw [Int.zero_add]; rfl⟩ (fun j σ' H' _ pv => same_seqT pv.1.1 hp) ?_ ?_⟩
      · rintro j x σ' H2 H3 hj ⟨f2, t4, t5, rfl⟩ ⟨t2, u, y, rfl, hT, rfl, eu, ez⟩
        obtain rfl : V.int (j : Nat) = u := Option.some.inj eu
        rw [List.length_map] at hj
        obtain ⟨y', ey, rfl⟩ : ∃ y', zs[j]? = some y' ∧ V.str y' = y := by
          have ez : (zs.map V.str)[j]? = some y := ez
          rw [List.getElem?_map] at ez
          exact Option.map_eq_some_iff.mp ez
        have ym := List.mem_of_getElem? ey
        have eD : zs.getD j "" = y' := by rw [List.getD_eq_getElem?_getD, ey]; rfl
        have s6 : Same H2 (upd H2 t2 (.tup [V.int (j : Nat), .str y'])) := same_new hT
        refine ⟨t2, _, rfl, .inl (.inl upd_same), rfl, _, _, rfl, _, _, rfl, rfl, ?_⟩
        have f3 := f2.same s6
        generalize upd H2 t2 (.tup [V.int (j : Nat), .str y']) = H4 at f3 ⊢
        have pm := (piece_log (gz.2.2 _ ym)).2
        refine ⟨.str z, rfl, .int (i : Nat), rfl, _, rfl, .int (i : Nat), rfl, .str y', rfl, y', rfl, Nat.le_of_lt (sz_lt (by omega)), _, _, rfl, rfl, _, rfl, z, rfl, Nat.le_of_lt (sz_lt (by omega)), .str y', rfl, ?_⟩
        refine ⟨rfl, _, rfl, ite2 (fun h1 => ?_) (fun h1 => ?_)⟩
        · have h1 : okN zs z i j = true := by
            unfold okN
            rw [eD, ← cut_is]
            exact h1
          obtain ⟨acc0, e0⟩ : ∃ xs, H4 D = some (.lst xs) := by
            obtain ⟨_, xs, e, _⟩ := f3
            exact ⟨xs, e⟩
          refine ⟨.ref D, rfl, .inl ⟨rfl, _, .inl (.inl e0)⟩, .int (i : Nat), rfl, .int (j : Nat), rfl, (by show 2 ≤ sizeLine; decide), fun t nt => ?_⟩
          have f4 := f3.same (same_new (o := .tup [V.int (i : Nat), .int (j : Nat)]) nt)
          obtain ⟨acc, e, la, f5⟩ := f4.more (t := t) (p := i) (n := j) nD upd_same (by
            have h1 := cnt gz zl (i := i) (by omega)
            have h2 := @rowS_len zs z j i
            have h3 := gz.2.1
            rw [List.length_append]
            omega)
          refine ⟨D, acc, _, rfl, rfl, e, la, ?_⟩
          refine ⟨by rw [rowS_succ, if_pos h1, ← List.append_assoc]; exact f5, _, _, rfl⟩
        · have h1 : ¬ okN zs z i j = true := fun e => by
            unfold okN at e
            rw [eD, ← cut_is] at e
            exact h1 e
          refine ⟨by rw [rowS_succ, if_neg h1, List.append_nil]; exact f3, _, _, rfl⟩
      · rintro σ' H2 ⟨f2, t4, t5, rfl⟩
        rw [List.length_map, ← colS_succ] at f2
        exact ⟨f2, _, _, _, rfl⟩
    · rintro σ' H1 ⟨⟨s1, xs, e, d⟩, t3, t4, t5, rfl⟩
      rw [Int.toNat_natCast] at d
      exact ⟨.ref D, rfl, q D xs H1 s1 nD e d⟩
abbrev sStk : Stmt := topS 15
abbrev NscStk : List Str := ["book", "log", "place", "number", "piece"]
theorem scStk : FnScope ["book", "log", "place", "number", "piece"] ["book", "log"] (defScope sStk) := ⟨rfl, rfl, rfl, by decide +kernel, rfl, by decide +kernel, by decide +kernel⟩
theorem ok_stk {CB : Addr} {f : Addr} {fd : FuncData} (F : Fun K "strikes" "strikes" sStk f fd) (T : Txt mg) (M_Book : BookC K mg CB) (C_need_log : Own P w K mg base CX0 2 "need_log" ["thing"] spNeed) : FnOk P w K mg base CX0 3 f fd ["book", "log"] (spStk K CB) := by
  refine F.ok scStk (fun vs H Q E h => ?_) (fun cdv A outer s H vs Q E hr h => ?_)
  · obtain ⟨p, z, zs, rfl, _⟩ := h
    rfl
  · obtain ⟨bk, z, zs, rfl, ⟨dx, r, eb, hp⟩, gz, zl, lz, q⟩ := h
    refine ⟨_, (pss_cons (ps_expr (pe_own C_need_log hr (pa_cons (pv 1) pa_nil)))
      (pss_one (ps_ret (pe_lc2 (own := [("place", 2), ("number", 3), ("piece", 4)]) (vs1 := [3, 4]) (g := gName 2) (g1 := gTup K 2 (gCons (gName 3) (gCons (gName 4) gNil))) (by rfl) scStk.nd (pi_range1 (by rfl) T.nrange (pa_cons (pe_callB call_len_str (by rfl) T.nlen (by decide +kernel) (pa_cons (pv 1) pa_nil)) pa_nil)) (blkOk_by (own := [("place", 2), ("number", 3), ("piece", 4)]) (N := NscStk) (sc := defScope sStk) (by decide +kernel)) (by decide) (fun _ _ _ _ _ => (pg_name (i := 2) scStk.nd rfl (Or.inl rfl))) (fun _ _ _ _ _ => pts_nil) (fun _ _ _ _ _ => (show L2.PI _ _ _ (iEnT K (tCons (tFld K (tVar 0) "pieces") tNil)) from pi_enT (by rfl) T.nenumerate (pa_cons (pe_fld (pv 0) rfl) pa_nil))) (fun _ _ _ _ _ => (by exact (pg_tup rfl (pgs_cons (pg_name (i := 3) scStk.nd rfl (Or.inl rfl)) (pgs_cons (pg_name (i := 4) scStk.nd rfl (Or.inl rfl)) pgs_nil))))) (fun _ _ _ _ _ => (pts_one (pt_val (show PE _ _ (tBM K "str" (fun x xs H Q => ∃ (a b : Str) (i : Int), x = .str a ∧ xs = [.str b, .int i] ∧ Q (.bl (Txt.startswith3 a b i)) H) (tVar 1) (tCons (tVar 4) (tCons (tVar 2) tNil))) from pe_bm PySem.F.plainAttrs_str PySem.F.slot_str_startswith PySem.F.type_str_startswith mt_startswith3 (pv 1) (pa_cons (pv 4) (pa_cons (pv 2) pa_nil)))))) (fun _ _ _ _ _ => (pe_tup (pa_cons (pv 2) (pa_cons (pv 3) pa_nil)))))))), ?_⟩
    refine ⟨.str z, rfl, z, rfl, by omega, lz, fun H1 s1 => ?_⟩
    refine ⟨.str z, rfl, z, rfl, Nat.le_of_lt (sz_lt (by omega)), _, rfl, by omega, by omega, fun D nD => ?_⟩
    have nD0 := same_none s1 nD
    refine walk_in (walk_range (lo := 0) (n := ((z.length : Nat) : Int).toNat)) (fun i H' => Fnd K H H' D (colS zs z i)) ⟨s1.trans (same_new nD), [], upd_same, .nil⟩ (fun _ _ _ _ => trivial) ?_ ?_
    · rintro i x H2 H3 hi f1 ⟨rfl, hx⟩
      have hx : x = .int (i : Nat) := by
        rw [hx]
        show V.int (0 + (i : Nat)) = _
        rw [Int.zero_add]
      subst hx
      refine ⟨rfl, ?_⟩
      refine ⟨.ref bk, rfl, bk, CB, dx, _, .ref r, rfl, f1.1 _ _ eb, M_Book.cl, M_Book.nA, by simp [List.lookup], r, _, rfl, same_seqT f1.1 hp, ?_⟩
      refine walk_in walk_enT (fun j H' => Fnd K H H' D (colS zs z i ++ rowS zs z j i)) (by rw [rowS_zero, List.append_nil]; exact f1) (fun j H' _ pv => same_seqT pv.1 hp) ?_ ?_
      · rintro j x H4 H5 hj f2 ⟨t2, u, y, rfl, hT, rfl, eu, ez⟩
        obtain rfl : V.int (j : Nat) = u := Option.some.inj eu
        rw [List.length_map] at hj
        obtain ⟨y', ey, rfl⟩ : ∃ y', zs[j]? = some y' ∧ V.str y' = y := by
          have ez : (zs.map V.str)[j]? = some y := ez
          rw [List.getElem?_map] at ez
          exact Option.map_eq_some_iff.mp ez
        have ym := List.mem_of_getElem? ey
        have eD : zs.getD j "" = y' := by rw [List.getD_eq_getElem?_getD, ey]; rfl
        have s6 : Same H4 (upd H4 t2 (.tup [V.int (j : Nat), .str y'])) := same_new hT
        refine ⟨t2, _, rfl, .inl (.inl upd_same), rfl, _, _, rfl, _, _, rfl, rfl, ?_⟩
        have f3 := f2.same s6
        generalize upd H4 t2 (.tup [V.int (j : Nat), .str y']) = H5 at f3 ⊢
        have pm := (piece_log (gz.2.2 _ ym)).2
        refine ⟨rfl, .str z, rfl, rfl, .str y', rfl, .int (i : Nat), rfl, z, y', _, rfl, rfl, ?_⟩
        rw [starts_is pm.1]
        refine ⟨_, rfl, ?_⟩
        have eo : okN zs z i j = stands z y' i := by
          unfold okN
          rw [eD]
        rw [← eo]
        refine ite2 (fun h1 => ?_) (fun h1 => ?_)
        · refine ⟨.int (i : Nat), rfl, .int (j : Nat), rfl, (by show 2 ≤ sizeLine; decide), fun t nt => ?_⟩
          have f4 := f3.same (same_new (o := .tup [V.int (i : Nat), .int (j : Nat)]) nt)
          obtain ⟨acc, e, la, f5⟩ := f4.more (t := t) (p := i) (n := j) nD0 upd_same (by
            have h1 := cnt gz zl (i := i) (by omega)
            have h2 := @rowS_len zs z j i
            have h3 := gz.2.1
            rw [List.length_append]
            omega)
          refine ⟨acc, e, la, ?_⟩
          rw [rowS_succ, if_pos h1, ← List.append_assoc]
          exact f5
        · rw [rowS_succ, if_neg h1, List.append_nil]
          exact f3
      · intro H4 f2
        rw [List.length_map, ← colS_succ] at f2
        exact f2
    · rintro H2 ⟨s2, xs, e, d⟩
      rw [Int.toNat_natCast] at d
      exact q D xs H2 s2 nD0 e d
end
end Zq
namespace Zq
open PySem PySem.Spec PyProof.Rows L2
open PySem.Froz (sing)
/-! ### strikings -/
theorem len_app (a b : Str) : (a ++ b).length = a.length + b.length := by
  rw [← zlen, app_toList, List.length_append, zlen, zlen]
/-- a thing that may be a striking: its strikes, or no tuple -/
def ThS (K : PySem.W.Frag) (H : Hp) (x : V) (ts : Option (List Sk)) : Prop := (∃ (a : Addr) (xs : List V) (l : List Sk), ts = some l ∧ x = .ref a ∧ SqT K H a xs ∧ xs.length ≤ 50000 ∧ l.length = xs.length ∧ ∀ (i : Nat) (y : V), xs[i]? = some y → ∃ t : Sk, (l : List Sk)[i]? = some t ∧ StI K H y t) ∨
  (ts = none ∧ ∃ ty, TyX K H x ty ∧ PySem.W.kitOne K ty (.type "tuple") = some false)
theorem ThS.same {K : PySem.W.Frag} {H H' : Hp} {x : V} {ts : Option (List Sk)} (s : Same H H') (h : ThS K H x ts) : ThS K H' x ts := by
  rcases h with ⟨a, xs, l, e1, e2, h, n, e3, g⟩ | ⟨e, ty, h, k⟩
  · exact .inl ⟨a, xs, l, e1, e2, same_seqT s h, n, e3, fun i y hy => by
      obtain ⟨t, e, st⟩ := g i y hy
      exact ⟨t, e, st.same s⟩⟩
  · exact .inr ⟨e, ty, tyX_same s h, k⟩
theorem StI.pair {K : PySem.W.Frag} {H : Hp} {x : V} {t : Sk} {zs : List Str} {z : Str} (h : StI K H x t) (ok : okT zs z t = true) : ∃ a p n, t = some (p, n) ∧ x = .ref a ∧ SqT K H a [.int p, .int n] := by
  rcases h with h | ⟨rfl, _⟩
  · exact h
  · cases ok
def pin (zs : List Str) (z : Str) (p n : Int) : Str := cutS z none (some p) ++ zs.getD n.toNat "" ++ cutS z (some p) none
def spStruck (K : PySem.W.Frag) (CB : Addr) : Sp := fun vs H Q _ => ∃ (bk a : Addr) (z : Str) (zs : List Str) (p n : Int), vs = [.ref bk, .str z, .ref a] ∧ BkAt K CB H bk zs ∧ GoodP zs ∧ z.length ≤ 4000 ∧ logB z = true ∧ SqT K H a [.int p, .int n] ∧ okT zs z (some (p, n)) = true ∧
  ∀ H', Same H H' → Q (.str (wo zs z p n)) H'
def spPut (K : PySem.W.Frag) (CB : Addr) : Sp := fun vs H Q _ => ∃ (bk : Addr) (z : Str) (zs : List Str) (p n : Int), vs = [.ref bk, .str z, .int p, .int n] ∧ BkAt K CB H bk zs ∧ GoodP zs ∧ z.length ≤ 3900 ∧ logB z = true ∧ 0 ≤ p ∧ p < z.length + 1 ∧ 0 ≤ n ∧ n < zs.length ∧
  ∀ H', Same H H' → Q (.str (pin zs z p n)) H'
def spLeft (K : PySem.W.Frag) (CB CN : Addr) : Sp := fun vs H Q E => ∃ (bk : Addr) (z : Str) (x : V) (zs : List Str) (ts : Option (List Sk)), vs = [.ref bk, .str z, x] ∧ BkAt K CB H bk zs ∧ GoodP zs ∧ z.length ≤ 4000 ∧ logB z = true ∧ ThS K H x ts ∧
  ((resT zs z ts).1 = .non → ∀ H', Same H H' → Q (.str (resT zs z ts).2) H') ∧
  ((resT zs z ts).1 ≠ .non → ∀ H' e, Same H H' → H e = none → H' e = some (.xd [("at", (resT zs z ts).1)]) → E (.ref CN) (some e) H')
section
variable {P : Program} {w : World} {K : PySem.W.Frag} {mg : Str → Option Value} {base : Heap}
abbrev sI_NoStriking : Stmt := inClass (topS 5) 0
abbrev NscI_NoStriking : List Str := ["self", "at"]
theorem scI_NoStriking : FnScope ["self", "at"] ["self", "at"] (defScope sI_NoStriking) := ⟨rfl, rfl, rfl, by decide +kernel, rfl, by decide +kernel, by decide +kernel⟩
theorem ok_i_NoStriking {f : Addr} {fd : FuncData} (F : Fun K "__init__" "NoStriking.__init__" sI_NoStriking f fd) : FnOk P w K mg base CX0 1 f fd ["self", "at"] (spIni K "at") := by
  refine F.ok scI_NoStriking (fun vs H Q E h => ?_) (fun cdv A outer s H vs Q E hr h => ?_)
  · obtain ⟨a, C, v, rfl, _⟩ := h
    rfl
  · obtain ⟨a, C, v, rfl, T, hno, ea, q⟩ := h
    exact ⟨_, (pss_one (ps_ost (pv 0) (pv 1))), ⟨v, rfl, .ref a, rfl, a, C, rfl, T, hno, .inl ⟨ea, fun dx n ne => q dx n ne⟩⟩⟩
abbrev sStruck : Stmt := topS 16
abbrev NscStruck : List Str := ["book", "log", "strike"]
theorem scStruck : FnScope ["book", "log", "strike"] ["book", "log", "strike"] (defScope sStruck) := ⟨rfl, rfl, rfl, by decide +kernel, rfl, by decide +kernel, by decide +kernel⟩
theorem ok_struck {CB : Addr} {f : Addr} {fd : FuncData} (F : Fun K "struck" "struck" sStruck f fd) (T : Txt mg) (C_need_log : Own P w K mg base CX0 2 "need_log" ["thing"] spNeed)
    (C__is_strike : Own P w K mg base CX0 3 "_is_strike" ["book", "log", "thing"] (spIsK K CB)) (C__without : Own P w K mg base CX0 1 "_without" ["book", "log", "strike"] (spWo K CB)) : FnOk P w K mg base CX0 4 f fd ["book", "log", "strike"] (spStruck K CB) := by
  refine F.ok scStruck (fun vs H Q E h => ?_) (fun cdv A outer s H vs Q E hr h => ?_)
  · obtain ⟨bk, a, z, zs, p, n, rfl, _⟩ := h
    rfl
  · obtain ⟨bk, a, z, zs, p, n, rfl, hb, gz, zl, lz, ha, ok, q⟩ := h
    refine ⟨_, (pss_cons (ps_expr (pe_own C_need_log hr (pa_cons (pv 1) pa_nil)))
      (pss_cons (ps_if (pt_not (pt_val (pe_own C__is_strike hr (pa_cons (pv 0) (pa_cons (pv 1) (pa_cons (pv 2) pa_nil)))))) (pss_one ps_never) pss_nil)
      (pss_one (ps_ret (pe_own C__without hr (pa_cons (pv 0) (pa_cons (pv 1) (pa_cons (pv 2) pa_nil)))))))), ?_⟩
    refine ⟨.str z, rfl, z, rfl, by omega, lz, fun H1 s1 => ?_⟩
    refine ⟨.ref bk, rfl, .str z, rfl, .ref a, rfl, bk, z, .ref a, zs, some (p, n), rfl, hb.same s1, gz, zl, .inl ⟨a, p, n, rfl, rfl, same_seqT s1 ha⟩, fun H2 s2 => ⟨_, rfl, ?_⟩⟩
    rw [ok]
    refine iteF ?_
    exact ⟨.ref bk, rfl, .str z, rfl, .ref a, rfl, bk, a, z, zs, p, n, rfl, hb.same (s1.trans s2), gz, zl, same_seqT s2 (same_seqT s1 ha), ok, q H2 (s1.trans s2)⟩
abbrev sPut : Stmt := topS 19
abbrev NscPut : List Str := ["book", "log", "place", "number"]
theorem scPut : FnScope ["book", "log", "place", "number"] ["book", "log", "place", "number"] (defScope sPut) := ⟨rfl, rfl, rfl, by decide +kernel, rfl, by decide +kernel, by decide +kernel⟩
theorem ok_put {CB : Addr} {f : Addr} {fd : FuncData} (F : Fun K "put_in" "put_in" sPut f fd) (T : Txt mg) (M_Book : BookC K mg CB) (C_need_log : Own P w K mg base CX0 2 "need_log" ["thing"] spNeed)
    (C_is_index : Own P w K mg base CX0 2 "is_index" ["many", "thing"] (spIndex K)) : FnOk P w K mg base CX0 3 f fd ["book", "log", "place", "number"] (spPut K CB) := by
  refine F.ok scPut (fun vs H Q E h => ?_) (fun cdv A outer s H vs Q E hr h => ?_)
  · obtain ⟨bk, z, zs, p, n, rfl, _⟩ := h
    rfl
  · obtain ⟨bk, z, zs, p, n, rfl, hb, gz, zl, lz, p0, p1, n0, n1, q⟩ := h
    refine ⟨_, (pss_cons (ps_expr (pe_own C_need_log hr (pa_cons (pv 1) pa_nil)))
      (pss_cons (ps_if (pt_not (pt_val (pe_own C_is_index hr (pa_cons (pe_op op_add (pe_callB call_len_str (by rfl) T.nlen (by decide +kernel) (pa_cons (pv 1) pa_nil)) pe_int) (pa_cons (pv 2) pa_nil))))) (pss_one ps_never) pss_nil)
      (pss_cons (ps_if (pt_not (pt_val (pe_own C_is_index hr (pa_cons (pe_callB call_len_seq (by rfl) T.nlen (by decide +kernel) (pa_cons (pe_fld (pv 0) rfl) pa_nil)) (pa_cons (pv 3) pa_nil))))) (pss_one ps_never) pss_nil)
      (pss_one (ps_ret (pe_op op_add_str (pe_op op_add_str (pe_slice sl_str (pv 1) po_none (po_some (pv 2))) (pe_ix ix_tup (pe_fld (pv 0) rfl) (pv 3) (fun _ _ => rfl))) (pe_slice sl_str (pv 1) (po_some (pv 2)) po_none))))))), ?_⟩
    refine ⟨.str z, rfl, z, rfl, by omega, lz, fun H1 s1 => ?_⟩
    obtain ⟨dx, r, eb, hp⟩ := hb.same s1
    have pm := (piece_log (gz.2.2 _ (getD_mem (m := n.toNat) (by omega)))).2
    refine ⟨.str z, rfl, z, rfl, Nat.le_of_lt (sz_lt (by omega)), _, _, rfl, rfl, .int p, rfl, _, .int p, some p, rfl, .inl ⟨p, rfl, rfl⟩, _, rfl, ?_⟩
    have e1 : inB (((z.length : Nat) : Int) + 1) (some p) = true := by
      show (decide (0 ≤ p) && decide (p < _)) = true
      rw [decide_eq_true p0, decide_eq_true p1]
      rfl
    have e2 : inB ((zs.length : Nat) : Int) (some n) = true := by
      show (decide (0 ≤ n) && decide (n < _)) = true
      rw [decide_eq_true n0, decide_eq_true n1]
      rfl
    rw [e1]
    refine iteF ?_
    refine ⟨.ref bk, rfl, bk, CB, dx, _, .ref r, rfl, eb, M_Book.cl, M_Book.nA, by simp [List.lookup], r, _, rfl, .inr hp, .int n, rfl, _, .int n, some n, rfl, .inl ⟨n, rfl, rfl⟩, _, rfl, ?_⟩
    rw [List.length_map, e2]
    refine iteF ?_
    refine ⟨.str z, rfl, .int p, rfl, p, rfl, z, rfl, Nat.le_of_lt (sz_lt (by omega)), ?_⟩
    refine ⟨.ref bk, rfl, bk, CB, dx, _, .ref r, rfl, eb, M_Book.cl, M_Book.nA, by simp [List.lookup], .int n, rfl, r, _, n, _, rfl, rfl, hp, getD_at n0 n1, ?_⟩
    have c1 := @cut_le z none (some p)
    have c2 := @cut_le z (some p) none
    refine ⟨_, _, rfl, rfl, Nat.le_of_lt (sz_lt (by omega)), .str z, rfl, .int p, rfl, p, rfl, z, rfl, Nat.le_of_lt (sz_lt (by omega)), _, _, rfl, rfl, ?_, q H1 s1⟩
    rw [len_app]
    exact Nat.le_of_lt (sz_lt (by omega))
abbrev sLeft : Stmt := topS 17
abbrev NscLeft : List Str := ["book", "log", "striking", "left", "at", "strike"]
theorem scLeft : FnScope ["book", "log", "striking", "left", "at", "strike"] ["book", "log", "striking"] (defScope sLeft) := ⟨rfl, rfl, rfl, by decide +kernel, rfl, by decide +kernel, by decide +kernel⟩
theorem ok_left {CB CN : Addr} {f : Addr} {fd : FuncData} (F : Fun K "left_by" "left_by" sLeft f fd) (T : Txt mg) (C_need_log : Own P w K mg base CX0 2 "need_log" ["thing"] spNeed)
    (C__is_strike : Own P w K mg base CX0 3 "_is_strike" ["book", "log", "thing"] (spIsK K CB)) (C__without : Own P w K mg base CX0 1 "_without" ["book", "log", "strike"] (spWo K CB))
    (M_NoStriking : MkE P w K mg base 1 "NoStriking" CN ["self", "at"] (spIni K "at")) (hF : PySem.W.findIn K (.ref CN) "at" = some none) : FnOk P w K mg base (L2.CX P w) 4 f fd ["book", "log", "striking"] (spLeft K CB CN) := by
  refine F.okX scLeft (fun vs H Q E h => ?_) (fun cdv A outer s H vs Q E hr h => ?_)
  · obtain ⟨bk, z, x, zs, ts, rfl, _⟩ := h
    rfl
  · obtain ⟨bk, z, x, zs, ts, rfl, hb, gz, zl, lz, hx, q0, q1⟩ := h
    refine ⟨_, (pss_cons (ps_expr (pe_own C_need_log hr (pa_cons (pv 1) pa_nil)))
      (pss_cons (ps_if (pt_not (pt_val (pe_callB call_isi (by rfl) T.nisinstance (by decide +kernel) (pa_cons (pv 2) (pa_cons (pe_bltn (v := .ty "tuple") (by rfl) T.ntuple (by decide +kernel) rfl) pa_nil))))) (pss_one (ps_raise rfl (takes_of rfl rfl rfl rfl) (pmk_mke M_NoStriking hr (pa_cons (pe_un un_neg pe_int) pa_nil)))) pss_nil)
      (pss_cons (ps_set (i := 3) scLeft.nd rfl (Or.inl rfl) (pv 1))
      (pss_cons (ps_for (passes_of rfl) rfl (pi_enT (by rfl) T.nenumerate (pa_cons (pv 2) pa_nil)) (pg_tup rfl (pgs_cons (pg_name (i := 4) scLeft.nd rfl (Or.inl rfl)) (pgs_cons (pg_name (i := 5) scLeft.nd rfl (Or.inl rfl)) pgs_nil)))
        (pss_cons (ps_if (pt_not (pt_val (pe_own C__is_strike hr (pa_cons (pv 0) (pa_cons (pv 3) (pa_cons (pv 5) pa_nil)))))) (pss_one (ps_raise rfl (takes_of rfl rfl rfl rfl) (pmk_mke M_NoStriking hr (pa_cons (pv 4) pa_nil)))) pss_nil)
        (pss_one (ps_set (i := 3) scLeft.nd rfl (Or.inl rfl) (pe_own C__without hr (pa_cons (pv 0) (pa_cons (pv 3) (pa_cons (pv 5) pa_nil))))))))
      (pss_one (ps_ret (pv 3))))))), ?_⟩
    refine ⟨.str z, rfl, z, rfl, by omega, lz, fun H1 s1 => ?_⟩
    rcases hx.same s1 with ⟨a, xs, l, rfl, rfl, ha, xn, ln, hl⟩ | ⟨rfl, ty, hty, kty⟩
    · refine ⟨.ref a, rfl, ⟨.ref a, .ty "tuple", _, _, true, rfl, .ty _, tyX_tup ha, kit_ty (by decide +kernel), true, rfl, ?_⟩⟩
      refine iteF ?_
      refine ⟨.str z, rfl, .ref a, rfl, a, xs, rfl, ha, for_it walk_enT (fun i σ' H' => Same H1 H' ∧ ∃ (y : Str) (v4 v5 : Option V), σ' = [some (.ref bk), some (.str z), some (.ref a), some (.str y), v4, v5] ∧ y.length ≤ 4000 ∧ logB y = true ∧ runT zs 0 z l = runT zs i y (l.drop i))
        ⟨fun _ _ e => e, z, none, none, rfl, zl, lz, rfl⟩ (fun i σ' H' _ pv => same_seqT pv.1 ha) ?_ ?_⟩
      · rintro i x H2 H3 H4 hi ⟨s5, y, v4, v5, rfl, yl, ly, hr⟩ ⟨t2, u, x', rfl, hT, rfl, eu, ez⟩
        obtain rfl : V.int (i : Nat) = u := Option.some.inj eu
        obtain ⟨t, et, st⟩ := hl i x' ez
        have s6 : Same H1 (upd H3 t2 (.tup [V.int (i : Nat), x'])) := s5.trans (same_new hT)
        refine ⟨t2, _, rfl, .inl (.inl upd_same), rfl, _, _, rfl, _, _, rfl, rfl, ?_⟩
        generalize upd H3 t2 (.tup [V.int (i : Nat), x']) = H6 at s6 ⊢
        refine ⟨.ref bk, rfl, .str y, rfl, x', rfl, bk, y, x', zs, t, rfl, hb.same (s1.trans s6), gz, yl, st.same s6, fun H7 s7 => ⟨_, rfl, ?_⟩⟩
        have s7 := s6.trans s7
        refine ite2 (fun hp => ?_) (fun hp => ?_)
        · have hp : okT zs y t = false := by
            cases q : okT zs y t with
            | false => rfl
            | true => rw [q] at hp; cases hp
          have rr := run_bad hr et hp
          rw [rr] at q1
          refine ⟨.int (i : Nat), rfl, ?_⟩
          exact mk_field M_NoStriking.err.oex hF fun H2 e s2 n2 h => q1 (fun z => nomatch z) H2 e (s1.trans (s7.trans s2)) (same_none (s1.trans s7) n2) h
        · have hp : okT zs y t = true := by
            cases q : okT zs y t with
            | true => rfl
            | false => rw [q] at hp; exact absurd rfl hp
          obtain ⟨b, p, n, rfl, rfl, hbb⟩ := st.pair hp
          have g := wo_good hp
          refine ⟨.ref bk, rfl, .str y, rfl, .ref b, rfl, bk, b, y, zs, p, n, rfl, hb.same (s1.trans s7), gz, yl, same_seqT s7 hbb, hp, ?_⟩
          exact ⟨s7, woT zs y (some (p, n)), _, _, rfl, Nat.le_trans g.1 yl, g.2 ly, run_next hr et hp⟩
      · rintro σ' H5 ⟨s5, y, v4, v5, rfl, yl, ly, hr⟩
        have rr := run_end (l := l) (y := y) (by rw [hr, ln])
        rw [rr] at q0
        exact ⟨.str y, rfl, q0 rfl H5 (s1.trans s5)⟩
    · refine ⟨x, rfl, ⟨x, .ty "tuple", _, _, false, rfl, .ty _, hty, kty, false, rfl, ?_⟩⟩
      refine iteT ?_
      refine ⟨1, rfl, ?_⟩
      exact mk_field M_NoStriking.err.oex hF fun H2 e s2 n2 h => q1 (fun z => nomatch z) H2 e (s1.trans s2) (same_none s1 n2) h
end
end Zq
namespace Zq
open PySem PySem.Spec PyProof.Rows L2
open PySem.Froz (sing)
section
variable {X : Cx} {k k' : Nat} {x : Str} {ps : List Str} {sp : Sp} {e : Expr} {es : List Expr} {t : TA} {p pos : Pos} {E : L2.St → XK}
theorem pe_ownX (C : Own X.prog X.w X.K X.mg X.base (L2.CX X.prog X.w) k x ps sp) (hr : Room k' X.A) (hx : ∀ σ, PassesAt (L2.CX X.prog X.w) X σ (E σ)) (ha : PA X (e :: es) t) (hk : k ≤ k' := by first | decide | omega) (hg : Gl X x := by rfl)
    (hdb : (x == ("__debug__" : Str)) = false := by decide) (he : starEach (e :: es) X.env = (false, eval e X.env) :: starEach es X.env := by rfl) (hpl : (backTo pos (starEach es X.env)).any (·.1) = false := by rfl) :
    PE X (.Call (.Name x p) (e :: es) [] pos) (tCallS sp E t) := by
  obtain ⟨f, fd, hm, kp, G, b⟩ := C.ex
  exact pe_callS G (hr.mono hk) hg hm kp b hx ha hdb he hpl
end
/-! ### whether it is a striking, and what is told -/
def spIsStr (K : PySem.W.Frag) (CB : Addr) : Sp := fun vs H Q _ => ∃ (bk : Addr) (z : Str) (x : V) (zs : List Str) (ts : Option (List Sk)), vs = [.ref bk, .str z, x] ∧ BkAt K CB H bk zs ∧ GoodP zs ∧ z.length ≤ 4000 ∧ logB z = true ∧ ThS K H x ts ∧
  ∀ H', Same H H' → Q (.bl (decide ((resT zs z ts).1 = .non))) H'
def spSTold (K : PySem.W.Frag) (CB : Addr) : Sp := fun vs H Q _ => ∃ (bk : Addr) (z : Str) (x : V) (zs : List Str) (ts : Option (List Sk)), vs = [.ref bk, .str z, x] ∧ BkAt K CB H bk zs ∧ GoodP zs ∧ z.length ≤ 4000 ∧ logB z = true ∧ ThS K H x ts ∧
  ((resT zs z ts).1 = .non → ∀ H' a, Same H H' → SqT K H' a [.str "left", .str (resT zs z ts).2] → Q (.ref a) H') ∧ ((resT zs z ts).1 ≠ .non → ∀ H', Same H H' → Q (resT zs z ts).1 H')
section
variable {P : Program} {w : World} {K : PySem.W.Frag} {mg : Str → Option Value} {base : Heap}
abbrev sIsstr : Stmt := topS 18
abbrev NscIsstr : List Str := ["book", "log", "thing"]
theorem scIsstr : FnScope ["book", "log", "thing"] ["book", "log", "thing"] (defScope sIsstr) := ⟨rfl, rfl, rfl, by decide +kernel, rfl, by decide +kernel, by decide +kernel⟩
theorem ok_isstr {CB CN : Addr} {f : Addr} {fd : FuncData} (F : Fun K "is_striking" "is_striking" sIsstr f fd) (T : Txt mg) (C_left_by : Own P w K mg base (L2.CX P w) 4 "left_by" ["book", "log", "striking"] (spLeft K CB CN))
    (M_NoStriking : MkE P w K mg base 1 "NoStriking" CN ["self", "at"] (spIni K "at")) (te : PySem.W.exmOne K (.ref CN) (.ref CN) = some true) : FnOk P w K mg base CX0 5 f fd ["book", "log", "thing"] (spIsStr K CB) := by
  refine F.ok scIsstr (fun vs H Q E h => ?_) (fun cdv A outer s H vs Q E hr h => ?_)
  · obtain ⟨bk, z, x, zs, ts, rfl, _⟩ := h
    rfl
  · obtain ⟨bk, z, x, zs, ts, rfl, hb, gz, zl, lz, hx, q⟩ := h
    refine ⟨_, (pss_cons (ps_try_only rfl rfl ⟨rfl, by decide, .inl M_NoStriking.gC⟩ takes0 (fun W pn xe tk _ => (pss_one (ps_expr (show PE _ _ (tCallS (spLeft K CB CN) (WE W) (tCons (tVar 0) (tCons (tVar 1) (tCons (tVar 2) tNil)))) from pe_ownX C_left_by hr (fun σ => passAt tk σ) (pa_cons (pv 0) (pa_cons (pv 1) (pa_cons (pv 2) pa_nil)))))))
        (fun a oe cls d pn hz hf => (pss_one (ps_ret pe_bl))))
      (pss_one (ps_ret pe_bl))), ?_⟩
    refine ⟨.ref bk, rfl, .str z, rfl, x, rfl, bk, z, x, zs, ts, rfl, hb, gz, zl, lz, hx, fun e H1 s1 => ?_, fun e H1 d s1 n1 h1 => ?_⟩
    · rw [decide_eq_true e] at q
      exact q H1 s1
    · rw [decide_eq_false e] at q
      exact ⟨true, te, fun _ a na => q H1 s1, fun z => Bool.noConfusion z⟩
abbrev sStold : Stmt := topS 43
abbrev NscStold : List Str := ["_law_book", "_law_log_here", "_law_thing", "_law_told", "e"]
theorem scStold : FnScope ["_law_book", "_law_log_here", "_law_thing", "_law_told", "e"] ["_law_book", "_law_log_here", "_law_thing"] (defScope sStold) := ⟨rfl, rfl, rfl, by decide +kernel, rfl, by decide +kernel, by decide +kernel⟩
theorem ok_stold {CB CN : Addr} {f : Addr} {fd : FuncData} (F : Fun K "_law_striking_told" "_law_striking_told" sStold f fd) (T : Txt mg) (C_left_by : Own P w K mg base (L2.CX P w) 4 "left_by" ["book", "log", "striking"] (spLeft K CB CN))
    (M_NoStriking : MkE P w K mg base 1 "NoStriking" CN ["self", "at"] (spIni K "at")) (hFld : PySem.W.findIn K (.ref CN) "at" = some none) (XF : XfC K CN) (te : PySem.W.exmOne K (.ref CN) (.ref CN) = some true) : FnOk P w K mg base CX0 5 f fd ["_law_book", "_law_log_here", "_law_thing"] (spSTold K CB) := by
  refine F.ok scStold (fun vs H Q E h => ?_) (fun cdv A outer s H vs Q E hr h => ?_)
  · obtain ⟨bk, z, x, zs, ts, rfl, _⟩ := h
    rfl
  · obtain ⟨bk, z, x, zs, ts, rfl, hb, gz, zl, lz, hx, q0, q1⟩ := h
    refine ⟨_, (pss_cons (ps_set (i := 3) scStold.nd rfl (Or.inl rfl) pe_str)
      (pss_cons (ps_try_as (i := 4) rfl rfl scStold.nd rfl rfl ⟨rfl, by decide, .inl M_NoStriking.gC⟩ takes0 (fun W pn xe tk _ => (pss_one (ps_set (i := 3) scStold.nd rfl (Or.inl rfl) (show PE _ _ (tTup (tCons (tC (.str "left")) (tCons (tCallS (spLeft K CB CN) (WE W) (tCons (tVar 0) (tCons (tVar 1) (tCons (tVar 2) tNil)))) tNil))) from pe_tup (pa_cons pe_str (pa_cons (pe_ownX C_left_by hr (fun σ => passAt tk σ) (pa_cons (pv 0) (pa_cons (pv 1) (pa_cons (pv 2) pa_nil)))) pa_nil))))))
        (fun a oe cls d pn hz hf => (pss_one (ps_set (i := 3) scStold.nd rfl (Or.inl rfl) (pe_xf XF hFld hz hf (pv 4))))))
      (pss_one (ps_ret (pv 3))))), ?_⟩
    refine ⟨.ref bk, rfl, .str z, rfl, x, rfl, bk, z, x, zs, ts, rfl, hb, gz, zl, lz, hx, fun e H1 s1 => ?_, fun e H1 d s1 n1 h1 => ?_⟩
    · exact ⟨by show 2 ≤ sizeLine; decide, fun t nt => ⟨.ref t, rfl, q0 e _ t (s1.trans (same_new nt)) (.inl (.inl upd_same))⟩⟩
    · refine ⟨true, te, fun _ a na => ?_, fun z => Bool.noConfusion z⟩
      refine ⟨_, rfl, rfl, rfl, d, [("at", (resT zs z ts).1)], (resT zs z ts).1, rfl, h1, by simp [List.lookup], ?_⟩
      exact ⟨_, rfl, q1 e H1 s1⟩
end
end Zq
namespace Zq
open PySem PySem.Spec PyProof.Rows L2
open PySem.Froz (sing)
/-! ### what is wrong first -/
theorem shaped_prs {ps : List (Nat × Nat)} : SeqAt.shaped (.list (ps.map prD)) = true := by
  have := depth_prs ps
  unfold SeqAt.shaped
  rw [PyData.canLay0, lay_prs, PyData.depth, Bool.true_and, decide_eq_true_eq]
  omega
theorem shaped_pr {p n : Int} : SeqAt.shaped (.tuple [.int p, .int n]) = true := rfl
def spWrong (K : PySem.W.Frag) : Sp := fun vs H Q _ => ∃ (p : Addr) (z : Str) (x : V) (zs : List Str) (ts : Option (List Sk)), vs = [.ref p, .str z, x] ∧ SqT K H p (zs.map V.str) ∧ GoodP zs ∧ z.length ≤ 4000 ∧ ThS K H x ts ∧
  ∀ H' a, Same H H' → SqT K H' a [(resT zs z ts).1, .str (resT zs z ts).2] → Q (.ref a) H'
section
variable {P : Program} {w : World} {K : PySem.W.Frag} {mg : Str → Option Value} {base : Heap}
abbrev sWrong : Stmt := topS 38
abbrev NscWrong : List Str := ["_law_pieces_here", "_law_log_here", "_law_thing", "_law_at", "_law_strike", "_law_one"]
theorem scWrong : FnScope ["_law_pieces_here", "_law_log_here", "_law_thing", "_law_at", "_law_strike", "_law_one"] ["_law_pieces_here", "_law_log_here", "_law_thing"] (defScope sWrong) := ⟨rfl, rfl, rfl, by decide +kernel, rfl, by decide +kernel, by decide +kernel⟩
theorem ok_wrong {f : Addr} {fd : FuncData} (F : Fun K "_law_first_wrong" "_law_first_wrong" sWrong f fd) (T : Txt mg) (C__law_int : Own P w K mg base CX0 1 "_law_int" ["_law_thing", "_law_low", "_law_high"] (spLInt K))
    (C__law_strikes : Own P w K mg base CX0 1 "_law_strikes" ["_law_pieces_here", "_law_log_here"] (spLstk K)) (C__law_struck : Own P w K mg base CX0 1 "_law_struck" ["_law_pieces_here", "_law_log_here", "_law_strike"] (spLwo K)) :
    FnOk P w K mg base CX0 2 f fd ["_law_pieces_here", "_law_log_here", "_law_thing"] (spWrong K) := by
  refine F.ok scWrong (fun vs H Q E h => ?_) (fun cdv A outer s H vs Q E hr h => ?_)
  · obtain ⟨p, z, x, zs, ts, rfl, _⟩ := h
    rfl
  · obtain ⟨p, z, x, zs, ts, rfl, hp0, gz, zl, hx, q⟩ := h
    refine ⟨_, (pss_cons (ps_if (pt_not (pt_val (pe_callB call_isi (by rfl) T.nisinstance (by decide +kernel) (pa_cons (pv 2) (pa_cons (pe_bltn (v := .ty "tuple") (by rfl) T.ntuple (by decide +kernel) rfl) pa_nil))))) (pss_one (ps_ret (pe_tup (pa_cons (pe_un un_neg pe_int) (pa_cons (pv 1) pa_nil))))) pss_nil)
      (pss_cons (ps_for PassesOwn.never rfl (pi_enT (by rfl) T.nenumerate (pa_cons (pv 2) pa_nil)) (pg_tup rfl (pgs_cons (pg_name (i := 3) scWrong.nd rfl (Or.inl rfl)) (pgs_cons (pg_name (i := 4) scWrong.nd rfl (Or.inl rfl)) pgs_nil)))
        (pss_cons (ps_if (PW.pt (pw_or (pt_not (pt_val (pe_callB call_isi (by rfl) T.nisinstance (by decide +kernel) (pa_cons (pv 4) (pa_cons (pe_bltn (v := .ty "tuple") (by rfl) T.ntuple (by decide +kernel) rfl) pa_nil))))) (pw_or (pt_cmpR op_ne (pe_callB call_len_seq (by rfl) T.nlen (by decide +kernel) (pa_cons (pv 4) pa_nil)) pe_int (nomark _)) (pw_or1 (pt_not (pt_val (pe_callB (cr_all rfl) (by rfl) T.nall (by decide +kernel) (pa_cons (pe_lc (own := [("_law_one", 5)]) (by rfl) scWrong.nd (pi_tup (pv 4)) (blkOk_by (own := [("_law_one", 5)]) (N := NscWrong) (sc := defScope sWrong) (by decide +kernel)) (fun _ _ _ _ _ => (pg_name (i := 5) scWrong.nd rfl (Or.inl rfl))) (fun _ _ _ _ _ => pts_nil) (fun _ _ _ _ _ => (pe_own C__law_int hr (pa_cons (pv 5) (pa_cons pe_int (pa_cons pe_int pa_nil)))))) pa_nil)))))))) (pss_one (ps_ret (pe_tup (pa_cons (pv 3) (pa_cons (pv 1) pa_nil))))) pss_nil)
        (pss_cons (ps_if (pt_cmpR (show OpR _ (compareOp .NotIn) (rNotInD K) from op_notInD hr.in1.units) (pv 4) (pe_own C__law_strikes hr (pa_cons (pv 0) (pa_cons (pv 1) pa_nil))) rfl) (pss_one (ps_ret (pe_tup (pa_cons (pv 3) (pa_cons (pv 1) pa_nil))))) pss_nil)
        (pss_one (ps_set (i := 1) scWrong.nd rfl (Or.inl rfl) (pe_own C__law_struck hr (pa_cons (pv 0) (pa_cons (pv 1) (pa_cons (pv 4) pa_nil)))))))))
      (pss_one (ps_ret (pe_tup (pa_cons pe_non (pa_cons (pv 1) pa_nil))))))), ?_⟩
    rcases hx with ⟨a, xs, l, rfl, rfl, ha, xn, ln, hl⟩ | ⟨rfl, ty, hty, kty⟩
    · refine ⟨.ref a, rfl, ⟨.ref a, .ty "tuple", _, _, true, rfl, .ty _, tyX_tup ha, kit_ty (by decide +kernel), true, rfl, ?_⟩⟩
      refine iteF ?_
      refine ⟨.ref a, rfl, a, xs, rfl, ha, for_it walk_enT (fun i σ' H' => Same H H' ∧ ∃ (y : Str) (v3 v4 v5 : Option V), σ' = [some (.ref p), some (.str y), some (.ref a), v3, v4, v5] ∧ y.length ≤ 4000 ∧ runT zs 0 z l = runT zs i y (l.drop i))
        ⟨fun _ _ e => e, z, none, none, none, rfl, zl, rfl⟩ (fun i σ' H' _ pv => same_seqT pv.1 ha) ?_ ?_⟩
      · rintro i x H2 H3 H4 hi ⟨s5, y, v3, v4, v5, rfl, yl, hr⟩ ⟨t2, u, x', rfl, hT, rfl, eu, ez⟩
        obtain rfl : V.int (i : Nat) = u := Option.some.inj eu
        obtain ⟨t, et, st⟩ := hl i x' ez
        have s6 : Same H (upd H3 t2 (.tup [V.int (i : Nat), x'])) := s5.trans (same_new hT)
        refine ⟨t2, _, rfl, .inl (.inl upd_same), rfl, _, _, rfl, _, _, rfl, rfl, ?_⟩
        generalize upd H3 t2 (.tup [V.int (i : Nat), x']) = H6 at s6 ⊢
        have st := st.same s6
        have bad : okT zs y t = false → ∀ H7, Same H H7 → ∃ v : V, v = .int (i : Nat) ∧ (2 ≤ sizeLine ∧ ∀ a', H7 a' = none → Q (.ref a') (upd H7 a' (.tup [.int (i : Nat), .str y]))) := fun hb H7 s7 => by
          rw [run_bad hr et hb] at q
          exact ⟨_, rfl, by show 2 ≤ sizeLine; decide, fun a' na => q _ a' (s7.trans (same_new na)) (.inl (.inl upd_same))⟩
        have st' : ((∃ ty, TyX K H6 x' ty ∧ PySem.W.kitOne K ty (.type "tuple") = some false) ∧ okT zs y t = false) ∨ ((∃ b ys, x' = .ref b ∧ SqT K H6 b ys ∧ ys.length ≠ 2) ∧ okT zs y t = false) ∨
            (∃ b u v o1 o2, x' = .ref b ∧ SqT K H6 b [u, v] ∧ InI K H6 u o1 ∧ InI K H6 v o2 ∧ ((rgB 0 20000 o1 && rgB 0 20000 o2) = false → okT zs y t = false) ∧ ((rgB 0 20000 o1 && rgB 0 20000 o2) = true → ∃ p n, t = some (p, n) ∧ u = .int p ∧ v = .int n)) := by
          rcases st with ⟨b, p', n', rfl, rfl, hb⟩ | ⟨rfl, h | h | ⟨b, u, v, o1, o2, rfl, hb, i1, i2, l⟩⟩
          · refine .inr (.inr ⟨b, _, _, some p', some n', rfl, hb, .inl ⟨_, rfl, rfl⟩, .inl ⟨_, rfl, rfl⟩, fun h => ?_, fun _ => ⟨p', n', rfl, rfl, rfl⟩⟩)
            cases q : okT zs y (some (p', n')) with
            | false => rfl
            | true =>
              obtain ⟨g1, g2, g3, g4, _⟩ := okT_some q
              have h : ((decide (0 ≤ p') && decide (p' ≤ 20000)) && (decide (0 ≤ n') && decide (n' ≤ 20000))) = false := h
              have := gz.2.1
              rw [decide_eq_true g1, decide_eq_true (by omega), decide_eq_true g3, decide_eq_true (by omega)] at h
              cases h
          · exact .inl ⟨h, rfl⟩
          · exact .inr (.inl ⟨h, rfl⟩)
          · refine .inr (.inr ⟨b, _, _, o1, o2, rfl, hb, i1, i2, fun h => rfl, fun h => ?_⟩)
            rcases l with rfl | rfl
            · cases h
            · rw [Bool.and_eq_true] at h
              cases h.2
        rcases st' with ⟨⟨ty, hty, kty⟩, ok⟩ | ⟨⟨b, ys, rfl, hb, l2⟩, ok⟩ | ⟨b, u, v, o1, o2, rfl, hb, i1, i2, f1, f2⟩
        · refine ⟨x', rfl, ⟨x', .ty "tuple", _, _, false, rfl, .ty _, hty, kty, false, rfl, iteT ?_⟩⟩
          obtain ⟨_, rfl, le, nx⟩ := bad ok H6 s6
          exact ⟨.int (i : Nat), rfl, .str y, rfl, le, fun t nt => nx t nt⟩
        · refine ⟨.ref b, rfl, ⟨.ref b, .ty "tuple", _, _, true, rfl, .ty _, tyX_tup hb, kit_ty (by decide +kernel), true, rfl, iteF ?_⟩⟩
          refine ⟨.ref b, rfl, b, _, rfl, .inr hb, rfl, _, rfl, ?_⟩
          refine ite2 (fun _ => ?_) (fun h => absurd ?_ h)
          · obtain ⟨_, rfl, le, nx⟩ := bad ok H6 s6
            exact ⟨.int (i : Nat), rfl, .str y, rfl, le, fun t nt => nx t nt⟩
          · rw [decide_eq_false (fun e : V.int ys.length = .int 2 => l2 (by have := V.int.inj e; omega))]
            rfl
        · refine ⟨.ref b, rfl, ⟨.ref b, .ty "tuple", _, _, true, rfl, .ty _, tyX_tup hb, kit_ty (by decide +kernel), true, rfl, iteF ?_⟩⟩
          refine ⟨.ref b, rfl, b, _, rfl, .inr hb, rfl, _, rfl, ?_⟩
          refine ite2 (fun z => absurd z (by show ¬ (!decide (V.int 2 = .int 2)) = true; decide)) (fun _ => ?_)
          refine ⟨.ref b, rfl, b, rfl, ⟨_, hb⟩, fun D hD => lc_it walk_tup (fun k H' => Same H6 H' ∧ H' D = some (.lst ([V.bl (rgB 0 20000 o1), V.bl (rgB 0 20000 o2)].take k))) ⟨same_new hD, upd_same⟩ (fun k H' _ pv => same_seqT pv.1 hb) ?_ ?_⟩
          · rintro k w' H7 H8 hk ⟨s7, eD⟩ ⟨rfl, hw⟩
            refine ⟨rfl, ?_⟩
            have s8 : ∀ o, Same H6 (upd H8 D o) := fun o c o' e => by
              rw [upd_ne (ne_of_none e hD)]
              exact s7 _ _ e
            have hk : k < 2 := hk
            rcases (show k = 0 ∨ k = 1 by omega) with rfl | rfl
            · obtain rfl : u = w' := Option.some.inj hw
              exact ⟨u, rfl, u, o1, 0, 20000, rfl, i1.same s7, [], eD, by show 0 < sizeLine; decide, s8 _, upd_same⟩
            · obtain rfl : v = w' := Option.some.inj hw
              exact ⟨v, rfl, v, o2, 0, 20000, rfl, i2.same s7, [V.bl (rgB 0 20000 o1)], eD, by show 1 < sizeLine; decide, s8 _, upd_same⟩
          · rintro H7 ⟨s7, eD⟩
            have e2 : [rgB 0 20000 o1, rgB 0 20000 o2].all id = (rgB 0 20000 o1 && rgB 0 20000 o2) := by
              show (id _ && (id _ && true)) = _
              rw [Bool.and_true]
              rfl
            refine ⟨D, [rgB 0 20000 o1, rgB 0 20000 o2], rfl, .inl (.inl eD), _, rfl, ?_⟩
            rw [e2]
            have s67 := s7
            have s7 := s6.trans s7
            refine ite2 (fun hp => ?_) (fun hp => ?_)
            · have hp : (rgB 0 20000 o1 && rgB 0 20000 o2) = false := by
                cases q : (rgB 0 20000 o1 && rgB 0 20000 o2) with
                | false => rfl
                | true => rw [q] at hp; cases hp
              obtain ⟨_, rfl, le, nx⟩ := bad (f1 hp) H7 s7
              exact ⟨.int (i : Nat), rfl, .str y, rfl, le, fun t nt => nx t nt⟩
            · have hp : (rgB 0 20000 o1 && rgB 0 20000 o2) = true := by
                cases q : (rgB 0 20000 o1 && rgB 0 20000 o2) with
                | true => rfl
                | false => rw [q] at hp; exact absurd rfl hp
              obtain ⟨p', n', rfl, rfl, rfl⟩ := f2 hp
              refine ⟨.ref b, rfl, .ref p, rfl, .str y, rfl, p, y, zs, rfl, same_seqT s7 hp0, gz, yl, fun L ls H8 s8 nL eL dL => ?_⟩
              have hb8 := same_seqT s8 (same_seqT s67 hb)
              refine ⟨.tuple [.int p', .int n'], (allS zs y).map prD, .tup hb8 (.cons (.int _) (.cons (.int _) .nil)), .lst (.inl (.inl eL)) dL, shaped_pr, shaped_prs, _, rfl, ?_⟩
              rw [any_all]
              have s8 := s7.trans s8
              refine ite2 (fun hk => ?_) (fun hk => ?_)
              · have hk : okT zs y (some (p', n')) = false := by
                  cases q : okT zs y (some (p', n')) with
                  | false => rfl
                  | true => rw [q] at hk; cases hk
                obtain ⟨_, rfl, le, nx⟩ := bad hk H8 s8
                exact ⟨.int (i : Nat), rfl, .str y, rfl, le, fun t nt => nx t nt⟩
              · have hk : okT zs y (some (p', n')) = true := by
                  cases q : okT zs y (some (p', n')) with
                  | true => rfl
                  | false => rw [q] at hk; exact absurd rfl hk
                exact ⟨.ref p, rfl, .str y, rfl, .ref b, rfl, p, b, y, zs, p', n', rfl, same_seqT s8 hp0, gz, yl, hb8, hk, s8, woT zs y (some (p', n')), _, _, _, rfl, Nat.le_trans (wo_good hk).1 yl, run_next hr et hk⟩
      · rintro σ' H5 ⟨s5, y, v3, v4, v5, rfl, yl, hr⟩
        have rr := run_end (l := l) (y := y) (by rw [hr, ln])
        rw [rr] at q
        refine ⟨.str y, rfl, by show 2 ≤ sizeLine; decide, fun t nt => q _ t (s5.trans (same_new nt)) (.inl (.inl upd_same))⟩
    · refine ⟨x, rfl, ⟨x, .ty "tuple", _, _, false, rfl, .ty _, hty, kty, false, rfl, ?_⟩⟩
      refine iteT ?_
      refine ⟨1, rfl, .str z, rfl, by show 2 ≤ sizeLine; decide, fun t nt => q _ t (same_new nt) (.inl (.inl upd_same))⟩
end
end Zq
namespace Zq
open PySem PySem.Spec PyProof.Rows L2
open PySem.Froz (sing)
/-! ### tuples of what may be strikes -/
def SI (K : PySem.W.Frag) (H : Hp) (x : V) : Prop := ∃ t, StI K H x t
theorem SI.same {K : PySem.W.Frag} {H H' : Hp} {x : V} (h : SI K H x) (s : Same H H') : SI K H' x := by
  obtain ⟨t, h⟩ := h
  exact ⟨t, h.same s⟩
section
variable {K : PySem.W.Frag}
def PS (K : PySem.W.Frag) (h : Addr) (n : Nat) : Hp → V → Prop := fun H v => ∃ p xs, v = .ref p ∧ p ≠ h ∧ SqT K (cut h H) p xs ∧ xs.length ≤ n ∧ ∀ x ∈ xs, SI K (cut h H) x
/-- a thing off the hand that may be a striking -/
def PX (K : PySem.W.Frag) (h : Addr) : Hp → V → Prop := fun H v => v ≠ .ref h ∧ ∃ ts, ThS K (cut h H) v ts
/-- a thing off the hand that may be a strike -/
def PI1 (K : PySem.W.Frag) (h : Addr) : Hp → V → Prop := fun H v => SI K (cut h H) v
theorem st_ps {h : Addr} {n : Nat} : Stays h (PS K h n) := fun _ _ _ g ⟨p, xs, e, np, hx, hl, ht⟩ => ⟨p, xs, e, np, same_seqT (go_cut g) hx, hl, fun x hx => (ht x hx).same (go_cut g)⟩
theorem st_px {h : Addr} : Stays h (PX K h) := fun _ _ _ g ⟨n, d, x⟩ => ⟨n, d, x.same (go_cut g)⟩
theorem st_pi {h : Addr} : Stays h (PI1 K h) := fun _ _ _ g x => x.same (go_cut g)
theorem list_si {H : Hp} : ∀ {xs : List V}, (∀ x ∈ xs, SI K H x) → ∃ l : List Sk, l.length = xs.length ∧ ∀ (i : Nat) (y : V), xs[i]? = some y → ∃ t : Sk, l[i]? = some t ∧ StI K H y t
  | [], _ => ⟨[], rfl, fun i y h => by simp at h⟩
  | x :: xs, h => by
    obtain ⟨t, ht⟩ := h x List.mem_cons_self
    obtain ⟨l, e, hl⟩ := list_si (xs := xs) fun y hy => h y (List.mem_cons_of_mem _ hy)
    refine ⟨t :: l, by rw [List.length_cons, List.length_cons, e], fun i y hi => ?_⟩
    cases i with
    | zero =>
      obtain rfl : x = y := Option.some.inj hi
      exact ⟨t, rfl, ht⟩
    | succ i => exact hl i y (by simpa using hi)
theorem ps_px {h : Addr} {n : Nat} (hn : n ≤ 50000) : ∀ H v, PS K h n H v → PX K h H v := fun H v ⟨p, xs, e, np, hx, hl, ht⟩ => by
  obtain ⟨l, le, hh⟩ := list_si ht
  exact ⟨fun z => np (by rw [e] at z; exact V.ref.inj z), some l, .inl ⟨p, xs, l, rfl, e, hx, by omega, le, hh⟩⟩
theorem sqT_cut {h b : Addr} {H : Hp} {xs : List V} (x : IsHand H h) (e : SqT K H b xs) : SqT K (cut h H) b xs := by
  rcases e with e | e
  · have n : b ≠ h := fun z => by
      obtain ⟨c, cells, i, d, s, k, e1, _⟩ := x
      rcases e with e | ⟨o, e⟩
      · rw [z, e1] at e
        cases e
      · rw [z, e1] at e
        cases e
    rcases e with e | ⟨o, e⟩
    · exact .inl (.inl (by rw [cut_ne n]; exact e))
    · exact .inl (.inr ⟨o, by rw [cut_ne n]; exact e⟩)
  · exact .inr e
/-- one of all strikes -/
theorem prs_item {H : Hp} {zs : List Str} {z : Str} : ∀ {ps : List (Nat × Nat)} {xs : List V}, DpAll K H xs (ps.map prD) → (∀ pn ∈ ps, pn ∈ allS zs z) → ∀ v ∈ xs, ∃ (b : Addr) (p n : Nat), v = .ref b ∧ SqT K H b [.int (p : Nat), .int (n : Nat)] ∧ okT zs z (some ((p : Int), (n : Int))) = true
  | [], xs, h, _, v, hv => by
    cases h
    cases hv
  | (p, n) :: ps, xs, h, hm, v, hv => by
    rw [List.map_cons] at h
    cases h with
    | cons h1 h2 =>
      rcases List.mem_cons.mp hv with rfl | hv
      · cases h1 with
        | @tup b bs ds hb hd =>
          cases hd with
          | cons g1 g2 =>
            cases g1
            cases g2 with
            | cons g3 g4 =>
              cases g3
              cases g4
              obtain ⟨m1, m2, m3⟩ := mem_all.mp (hm (p, n) List.mem_cons_self)
              refine ⟨b, p, n, rfl, hb, ?_⟩
              rw [okT_eq, decide_eq_true (by omega), decide_eq_true (by omega), decide_eq_true (by omega), decide_eq_true (by omega), Int.toNat_natCast, Int.toNat_natCast, m3]
              rfl
      · exact prs_item h2 (fun pn hp => hm pn (List.mem_cons_of_mem _ hp)) v hv
theorem new_ps {h p : Addr} {n : Nat} {H : Hp} {xs : List V} (x : IsHand H h) (np : H p = none) (hl : xs.length ≤ n) (ht : ∀ y ∈ xs, SI K (cut h H) y) : PS K h n (upd H p (.tup xs)) (.ref p) := by
  have ne := x.ne np
  refine ⟨p, xs, rfl, ne, .inl (.inl (by rw [cut_ne ne]; exact upd_same)), hl, fun y hy => (ht y hy).same (go_cut (Go.new x np))⟩
section
variable {h : Addr} {H0 : Hp} {σ : L2.St} {te tf : TE} {n m : Nat}
theorem ms_cat (a : MkG h H0 σ (PS K h n) te) (b : MkG h H0 σ (PS K h m) tf) (hs : n + m ≤ 50000) : MkG h H0 σ (PS K h (n + m)) (tOp (rCatA K) te tf) := fun H Q g q =>
  a H _ g fun v H1 g1 p1 => b H1 _ (g.trans g1) fun u H2 g2 p2 => by
    obtain ⟨a, xs, rfl, na, hx, lx, tx⟩ := st_ps _ _ _ g2 p1
    obtain ⟨b, ys, rfl, nb, hy, ly, ty⟩ := p2
    refine ⟨a, b, xs, ys, rfl, rfl, same_seqT cut_same hx, same_seqT cut_same hy, Nat.le_of_lt (sz_lt (by omega)), fun _ => ?_, fun _ _ => ?_, fun _ _ p np => ?_⟩
    · exact q _ _ (g1.trans g2) ⟨b, ys, rfl, nb, hy, by omega, ty⟩
    · exact q _ _ (g1.trans g2) ⟨a, xs, rfl, na, hx, by omega, tx⟩
    · refine q _ _ ((g1.trans g2).then_new np) (new_ps g2.hand np (by rw [List.length_append]; omega) fun y hy => ?_)
      rcases List.mem_append.mp hy with hy | hy
      · exact tx y hy
      · exact ty y hy
theorem ms_slice {tl th : TO} (a : MkG h H0 σ (PS K h n) te) (l : PartG h H0 σ tl) (u : PartG h H0 σ th) (hn : n ≤ 50000) : MkG h H0 σ (PS K h n) (tSl (rSlA K) te tl th) := fun H Q g q =>
  a H _ g fun v H1 g1 p1 => l H1 _ (g.trans g1) fun lo => u H1 _ (g.trans g1) fun hi => by
    obtain ⟨a, xs, rfl, na, hx, lx, tx⟩ := p1
    refine ⟨a, xs, rfl, same_seqT cut_same hx, fun _ => q _ _ g1 ⟨a, xs, rfl, na, hx, lx, tx⟩, fun _ p np => ?_⟩
    exact q _ _ (g1.then_new np) (new_ps g1.hand np (Nat.le_trans (cutV_length xs lo hi) lx) fun y hy => tx y (mem_cutV hy))
theorem ms_back {i : Int} (hi : i = 1) (a : MkG h H0 σ (PS K h n) te) : MkG h H0 σ (PS K h n) (tBack K te (tUn (rU fun i => .int (-i)) (tC (.int i)))) := fun H Q g q =>
  a H _ g fun v H1 g1 p1 => by
    subst hi
    obtain ⟨a, xs, rfl, na, hx, lx, tx⟩ := p1
    refine ⟨1, rfl, a, xs, rfl, rfl, same_seqT cut_same hx, fun p np => ?_⟩
    exact q _ _ (g1.then_new np) (new_ps g1.hand np (by rw [List.length_reverse]; exact lx) fun y hy => tx y (List.mem_reverse.mp hy))
theorem ms_var {k : Nat} {v : V} (e : σ[k]? = some (some v)) (p : PS K h n H0 v) : MkG h H0 σ (PS K h n) (tVar k) := fun H Q g q => ⟨v, e, q v H (Go.refl g.hand) (st_ps _ _ _ g p)⟩
end
section
variable {h : Addr} {H0 : Hp} {σ : L2.St}
theorem ms_one {te : TE} (a : MkG h H0 σ (PI1 K h) te) : MkG h H0 σ (PS K h 1) (tTup (tCons te tNil)) := fun H Q g q =>
  a H _ g fun v H1 g1 p => ⟨(by show 1 ≤ sizeLine; decide), fun a na => q _ _ (g1.then_new na) (new_ps (xs := [v]) g1.hand na (Nat.le_refl _) fun y hy => by
    rw [List.mem_singleton.mp hy]
    exact p)⟩
theorem mi_var {k : Nat} {v : V} (e : σ[k]? = some (some v)) (p : PI1 K h H0 v) : MkG h H0 σ (PI1 K h) (tVar k) := fun H Q g q => ⟨v, e, q v H (Go.refl g.hand) (st_pi _ _ _ g p)⟩
end
end
end Zq
namespace Zq
open PySem PySem.Spec PyProof.Rows L2
open PySem.Froz (sing)
/-! ### drawn logs and strikings -/
def spSome (K : PySem.W.Frag) : Sp := fun vs H Q _ => ∃ (h p : Addr) (z : Str) (zs : List Str) (m : Int), vs = [.ref h, .ref p, .str z, .int m] ∧ IsHand H h ∧ SqT K H p (zs.map V.str) ∧ GoodP zs ∧ z.length ≤ 4000 ∧ m ≤ 20 ∧ 0 ≤ m ∧
  ∀ v H', Go h H H' → PS K h m.toNat H' v → Q v H'
def spIdle (K : PySem.W.Frag) : Sp := fun vs H Q _ => ∃ (h p : Addr) (zs : List Str) (m : Int), vs = [.ref h, .ref p, .int m] ∧ IsHand H h ∧ p ≠ h ∧ SqT K H p (zs.map V.str) ∧ GoodP zs ∧ m ≤ 50 ∧ 0 ≤ m ∧
  ∀ (z : Str) H', Go h H H' → (z.length : Int) ≤ m → logB z = true → Q (.str z) H'
def spLog2 (K : PySem.W.Frag) : Sp := fun vs H Q _ => ∃ (h p : Addr) (zs : List Str), vs = [.ref h, .ref p, .int 20] ∧ IsHand H h ∧ p ≠ h ∧ SqT K H p (zs.map V.str) ∧ GoodP zs ∧
  ∀ (z : Str) H', Go h H H' → z.length ≤ 20 → logB z = true → Q (.str z) H'
theorem log_app {a b : Str} (ha : logB a = true) (hb : logB b = true) : logB (a ++ b) = true := by
  unfold logB at *
  rw [app_toList, List.all_append, ha, hb]
  rfl
theorem log_lo {a : Str} {p : Int} (p0 : 0 ≤ p) (h : logB a = true) : logB (cutS a none (some p)) = true := by
  obtain ⟨n, rfl⟩ := Int.eq_ofNat_of_zero_le p0
  unfold logB at *
  rw [cut_len_lo, List.all_eq_true]
  exact fun c hc => List.all_eq_true.mp h c (List.mem_of_mem_take hc)
theorem log_hi {a : Str} {p : Int} (p0 : 0 ≤ p) (h : logB a = true) : logB (cutS a (some p) none) = true := by
  obtain ⟨n, rfl⟩ := Int.eq_ofNat_of_zero_le p0
  unfold logB at *
  rw [cut_hi, List.all_eq_true]
  exact fun c hc => List.all_eq_true.mp h c (List.mem_of_mem_drop hc)
theorem len_lo {a : Str} {p : Int} (p0 : 0 ≤ p) (h : p ≤ a.length) : ((cutS a none (some p)).length : Int) = p := by
  obtain ⟨n, rfl⟩ := Int.eq_ofNat_of_zero_le p0
  rw [← zlen, cut_len_lo, List.length_take, zlen]
  omega
theorem len_hi {a : Str} {p : Int} (p0 : 0 ≤ p) (h : p ≤ a.length) : ((cutS a (some p) none).length : Int) = a.length - p := by
  obtain ⟨n, rfl⟩ := Int.eq_ofNat_of_zero_le p0
  rw [← zlen, cut_hi, List.length_drop, zlen]
  omega
theorem ps_mono {K : PySem.W.Frag} {h : Addr} {n m : Nat} {H : Hp} {v : V} (hn : n ≤ m) : PS K h n H v → PS K h m H v := fun ⟨p, xs, e, np, hx, hl, ht⟩ => ⟨p, xs, e, np, hx, Nat.le_trans hl hn, ht⟩
theorem len_hi' {a : Str} {n : Nat} : (cutS a (some (n : Int)) none).length = a.length - n := by
  rw [← zlen, cut_hi, List.length_drop, zlen]
theorem joinL_mem {c : Nat} : ∀ {ps : List (List Nat)} {p : List Nat}, p ∈ ps → c ∈ p → c ∈ TL.joinL [] ps
  | [p], q, h, hc => by
    rw [List.mem_singleton.mp h] at hc
    exact hc
  | p :: q :: r, y, h, hc => by
    show c ∈ p ++ ([] ++ TL.joinL [] (q :: r))
    rw [List.nil_append]
    rcases List.mem_cons.mp h with rfl | h
    · exact List.mem_append.mpr (.inl hc)
    · exact List.mem_append.mpr (.inr (joinL_mem h hc))
theorem lets_log {zs : List Str} (g : GoodP zs) : logB (lets zs) = true ∧ 1 ≤ (lets zs).length ∧ (lets zs).length < 50 := by
  have e : (lets zs).cps.toList = abc.cps.toList.filter fun c => decide (c ∈ (Txt.join "" zs).cps.toList) := join_sings _
  refine ⟨?_, ?_, ?_⟩
  · unfold logB
    rw [e, List.all_eq_true]
    exact fun c hc => decide_eq_true (List.mem_filter.mp hc).1
  · obtain ⟨z, hz⟩ : ∃ z, z ∈ zs := List.exists_mem_of_length_pos g.1
    have pl := piece_log (g.2.2 z hz)
    obtain ⟨c, hc⟩ : ∃ c, c ∈ z.cps.toList := List.exists_mem_of_length_pos (by rw [zlen]; exact pl.2.1)
    rw [← zlen, e]
    refine List.length_pos_of_mem (a := c) (List.mem_filter.mpr ⟨of_decide_eq_true (List.all_eq_true.mp pl.1 c hc), decide_eq_true ?_⟩)
    rw [TL.join_eq]
    show c ∈ TL.tl (Str.join "" zs)
    rw [TL.tl_join]
    exact joinL_mem (List.mem_map.mpr ⟨z, hz, rfl⟩) hc
  · rw [← zlen, e]
    have h1 := List.length_filter_le (fun c => decide (c ∈ (Txt.join "" zs).cps.toList)) abc.cps.toList
    have h8 : abc.cps.toList.length = 8 := by decide +kernel
    omega
theorem join_log {ns : List Nat} (h : ∀ c ∈ ns, letB c = true) : logB (Txt.join "" (ns.map sing)) = true ∧ (Txt.join "" (ns.map sing)).length = ns.length := by
  have e := join_sings ns
  refine ⟨?_, by rw [← zlen, e]⟩
  unfold logB
  rw [e, List.all_eq_true]
  exact h
section
variable {P : Program} {w : World} {K : PySem.W.Frag} {mg : Str → Option Value} {base : Heap}
abbrev sSome : Stmt := topS 39
abbrev NscSome : List Str := ["_law_hand_here", "_law_pieces_here", "_law_log_here", "_law_most", "_law_found", "_law_turn", "_law_some", "_law_strike"]
theorem scSome : FnScope ["_law_hand_here", "_law_pieces_here", "_law_log_here", "_law_most", "_law_found", "_law_turn", "_law_some", "_law_strike"] ["_law_hand_here", "_law_pieces_here", "_law_log_here", "_law_most"] (defScope sSome) := ⟨rfl, rfl, rfl, by decide +kernel, rfl, by decide +kernel, by decide +kernel⟩
theorem ok_some {f : Addr} {fd : FuncData} (F : Fun K "_law_some_striking" "_law_some_striking" sSome f fd) (T : Txt mg) (C__law_any : Own P w K mg base CX0 2 "_law_any" ["_law_hand_here", "_law_items"] (spAny K))
    (C__law_strikes : Own P w K mg base CX0 1 "_law_strikes" ["_law_pieces_here", "_law_log_here"] (spLstk K)) (C__law_struck : Own P w K mg base CX0 1 "_law_struck" ["_law_pieces_here", "_law_log_here", "_law_strike"] (spLwo K)) :
    FnOk P w K mg base CX0 3 f fd ["_law_hand_here", "_law_pieces_here", "_law_log_here", "_law_most"] (spSome K) := by
  refine F.ok scSome (fun vs H Q E h => ?_) (fun cdv A outer s H vs Q E hr h => ?_)
  · obtain ⟨h, p, z, zs, m, rfl, _⟩ := h
    rfl
  · obtain ⟨h, p, z, zs, m, rfl, hh, hp, gz, zl, m1, m0, q⟩ := h
    refine ⟨_, (pss_cons (ps_set (i := 4) scSome.nd rfl (Or.inl rfl) (pe_tup pa_nil))
      (pss_cons (ps_for PassesOwn.never rfl (pi_range1 (by rfl) T.nrange (pa_cons (pv 3) pa_nil)) (pg_name (i := 5) scSome.nd rfl (Or.inl rfl))
        (pss_cons (ps_set (i := 6) scSome.nd rfl (Or.inl rfl) (pe_own C__law_strikes hr (pa_cons (pv 1) (pa_cons (pv 2) pa_nil))))
        (pss_one (ps_if (pt_cmpR op_gt (pe_callB call_len_seq (by rfl) T.nlen (by decide +kernel) (pa_cons (pv 6) pa_nil)) pe_int (nomark _)) (pss_cons (ps_set (i := 7) scSome.nd rfl (Or.inl rfl) (pe_own C__law_any hr (pa_cons (pv 0) (pa_cons (pv 6) pa_nil))))
          (pss_one (ps_par (i := 4) (j := 2) (by rfl) scSome.nd rfl rfl (by decide) rfl rfl (pa_cons (pe_op op_catA (pv 4) (pe_tup (pa_cons (pv 7) pa_nil))) (pa_cons (pe_own C__law_struck hr (pa_cons (pv 1) (pa_cons (pv 2) (pa_cons (pv 7) pa_nil)))) pa_nil)) (by rfl)))) pss_nil))))
      (pss_one (ps_ret (pv 4))))), ?_⟩
    refine ⟨(by show 0 ≤ sizeLine; decide), fun t nt => ?_⟩
    refine ⟨_, rfl, m, rfl, by omega, by omega, for_range (lo := 0) (n := m.toNat) (fun i σ' H' => Go h H H' ∧ ∃ (v : V) (y : Str) (t5 t6 t7 : Option V), σ' = [some (.ref h), some (.ref p), some (.str y), some (.int m), some v, t5, t6, t7] ∧ y.length ≤ 4000 ∧ PS K h i H' v)
      ⟨Go.new hh nt, .ref t, z, none, none, none, rfl, zl, new_ps hh nt (Nat.le_refl 0) (fun y hy => nomatch hy)⟩ ?_ ?_⟩
    · rintro i σ' H1 hi ⟨g1, v, y, t5, t6, t7, rfl, yl, pv⟩
      refine ⟨.ref p, rfl, .str y, rfl, p, y, zs, rfl, g1.sqT hh hp, gz, yl, fun L ls H2 s2 nL eL dL => ?_⟩
      have g2 := go_same g1.hand s2
      have nLh := g1.hand.ne nL
      have pv2 := st_ps _ _ _ g2 pv
      refine ⟨.ref L, rfl, L, ls, rfl, .inl (.inl (.inl eL)), _, _, rfl, rfl, _, rfl, ?_⟩
      refine ite2 (fun hq => ?_) (fun _ => ⟨g1.trans g2, v, y, _, _, _, rfl, yl, ps_mono (Nat.le_succ i) pv2⟩)
      have hq := of_decide_eq_true hq
      have ll : ls.length < 1000000 := by
        have h1 := cnt gz yl (Nat.le_refl _)
        have h2 := dpAll_len dL
        rw [List.length_map] at h2
        have h3 : (allS zs y).length = (colS zs y y.length).length := rfl
        omega
      refine ⟨.ref h, rfl, .ref L, rfl, h, .ref L, ls, rfl, g2.hand, (fun z => nLh (V.ref.inj z)), .l (.inl (.inl eL)) ll, by omega, fun x H3 hx g3 => ?_⟩
      obtain ⟨b, p', n', rfl, hb, ok⟩ := prs_item dL (fun _ e => e) x hx
      have hb3 := g3.sqT g2.hand hb
      have pv3 := st_ps _ _ _ g3 pv2
      have hbc := sqT_cut g3.hand hb3
      have pi : PI1 K h H3 (.ref b) := ⟨some ((p' : Int), (n' : Int)), .inl ⟨b, _, _, rfl, rfl, hbc⟩⟩
      let σ6 : L2.St := [some (.ref h), some (.ref p), some (.str y), some (.int m), some v, some (.int (0 + (i : Int))), some (.ref L), some (.ref b)]
      refine ms_cat (K := K) (h := h) (H0 := H3) (σ := σ6) (n := i) (m := 1) (ms_var rfl pv3) (ms_one (mi_var rfl pi)) (by omega) H3 _ (Go.refl g3.hand) fun v' H4 g4 pv' => ?_
      have g04 := g1.trans (g2.trans (g3.trans g4))
      exact ⟨.ref p, rfl, .str y, rfl, .ref b, rfl, p, b, y, zs, p', n', rfl, g04.sqT hh hp, gz, yl, g4.sqT g3.hand hb3, ok, _, _, rfl, g04, v', wo zs y p' n', _, _, _, rfl, Nat.le_trans (wo_good ok).1 yl, pv'⟩
    · rintro σ' H1 ⟨g1, v, y, t5, t6, t7, rfl, yl, pv⟩
      exact ⟨v, rfl, q v H1 g1 pv⟩
abbrev sIdle : Stmt := topS 40
abbrev NscIdle : List Str := ["_law_hand_here", "_law_pieces_here", "_law_most", "_law_log_here", "_law_turn", "_law_piece", "_law_place"]
theorem scIdle : FnScope ["_law_hand_here", "_law_pieces_here", "_law_most", "_law_log_here", "_law_turn", "_law_piece", "_law_place"] ["_law_hand_here", "_law_pieces_here", "_law_most"] (defScope sIdle) := ⟨rfl, rfl, rfl, by decide +kernel, rfl, by decide +kernel, by decide +kernel⟩
theorem ok_idle {f : Addr} {fd : FuncData} (F : Fun K "_law_idle_log" "_law_idle_log" sIdle f fd) (T : Txt mg) (C__law_draw : Own P w K mg base CX0 1 "_law_draw" ["_law_hand_here", "_law_many"] spDraw)
    (C__law_any : Own P w K mg base CX0 2 "_law_any" ["_law_hand_here", "_law_items"] (spAny K)) : FnOk P w K mg base CX0 3 f fd ["_law_hand_here", "_law_pieces_here", "_law_most"] (spIdle K) := by
  refine F.ok scIdle (fun vs H Q E h => ?_) (fun cdv A outer s H vs Q E hr h => ?_)
  · obtain ⟨h, p, zs, m, rfl, _⟩ := h
    rfl
  · obtain ⟨h, p, zs, m, rfl, hh, np, hp, gz, m1, m0, q⟩ := h
    refine ⟨_, (pss_cons (ps_set (i := 3) scIdle.nd rfl (Or.inl rfl) pe_str)
      (pss_cons (ps_for PassesOwn.never rfl (pi_range1 (by rfl) T.nrange (pa_cons (pv 2) pa_nil)) (pg_name (i := 4) scIdle.nd rfl (Or.inl rfl))
        (pss_cons (ps_par (i := 5) (j := 6) (by rfl) scIdle.nd rfl rfl (by decide) rfl rfl (pa_cons (pe_own C__law_any hr (pa_cons (pv 0) (pa_cons (pv 1) pa_nil))) (pa_cons (pe_own C__law_draw hr (pa_cons (pv 0) (pa_cons (pe_op op_add (pe_callB call_len_str (by rfl) T.nlen (by decide +kernel) (pa_cons (pv 3) pa_nil)) pe_int) pa_nil))) pa_nil)) (by rfl))
        (pss_one (ps_if (PW.pt (pw_and (pt_cmpR op_le (pe_op op_add (pe_callB call_len_str (by rfl) T.nlen (by decide +kernel) (pa_cons (pv 3) pa_nil)) (pe_callB call_len_str (by rfl) T.nlen (by decide +kernel) (pa_cons (pv 5) pa_nil))) (pv 2) (nomark _)) (pw_and1 (pt_cmpR op_gt (pe_own C__law_draw hr (pa_cons (pv 0) (pa_cons pe_int pa_nil))) pe_int (nomark _))))) (pss_one (ps_set (i := 3) scIdle.nd rfl (Or.inl rfl) (pe_op op_add_str (pe_op op_add_str (pe_slice sl_str (pv 3) po_none (po_some (pv 6))) (pv 5)) (pe_slice sl_str (pv 3) (po_some (pv 6)) po_none)))) pss_nil))))
      (pss_one (ps_ret (pv 3))))), ?_⟩
    refine ⟨_, rfl, m, rfl, by omega, by omega, for_range (lo := 0) (n := m.toNat) (fun i σ' H' => Go h H H' ∧ ∃ (z : Str) (t4 t5 t6 : Option V), σ' = [some (.ref h), some (.ref p), some (.int m), some (.str z), t4, t5, t6] ∧ (z.length : Int) ≤ m ∧ logB z = true)
      ⟨Go.refl hh, "", none, none, none, rfl, m0, rfl⟩ ?_ ?_⟩
    · rintro i σ' H1 hi ⟨g1, z, t4, t5, t6, rfl, zl, lz⟩
      have gz1 := gz.1
      have gz2 := gz.2.1
      refine ⟨.ref h, rfl, .ref p, rfl, h, .ref p, zs.map V.str, rfl, g1.hand, (fun z => np (V.ref.inj z)), .t (g1.sqT hh hp) (by rw [List.length_map]; omega), by rw [List.length_map]; omega, fun v H2 hv g2 => ?_⟩
      obtain ⟨y, hy, rfl⟩ := List.mem_map.mp hv
      have pl := piece_log (gz.2.2 y hy)
      refine ⟨.ref h, rfl, .str z, rfl, z, rfl, Nat.le_of_lt (sz_lt (by omega)), _, _, rfl, rfl, h, _, rfl, g2.hand, by omega, by omega, fun r H3 r0 r1 g3 => ⟨_, _, rfl, ?_⟩⟩
      have g03 := g1.trans (g2.trans g3)
      refine ⟨.str z, rfl, z, rfl, Nat.le_of_lt (sz_lt (by omega)), .str y, rfl, y, rfl, Nat.le_of_lt (sz_lt (by omega)), _, _, rfl, rfl, .int m, rfl, _, _, rfl, rfl, _, rfl, ?_⟩
      refine ite2 (fun hq => ?_) (fun _ => ⟨g03, z, _, _, _, rfl, zl, lz⟩)
      have hq := of_decide_eq_true hq
      refine ⟨.ref h, rfl, h, 12, rfl, g3.hand, by decide, by decide, fun r2 H4 _ _ g4 => ⟨_, _, rfl, rfl, _, rfl, ?_⟩⟩
      have g04 := g03.trans g4
      refine ite2 (fun _ => ?_) (fun _ => ⟨g04, z, _, _, _, rfl, zl, lz⟩)
      have l1 := len_lo r0 (show r ≤ z.length by omega)
      have l2 := len_hi r0 (show r ≤ z.length by omega)
      refine ⟨.str z, rfl, .int r, rfl, r, rfl, z, rfl, Nat.le_of_lt (sz_lt (by omega)), .str y, rfl, _, _, rfl, rfl, Nat.le_of_lt (sz_lt (by omega)), ?_⟩
      refine ⟨.str z, rfl, .int r, rfl, r, rfl, z, rfl, Nat.le_of_lt (sz_lt (by omega)), _, _, rfl, rfl, ?_, ?_⟩
      · rw [len_app]
        exact Nat.le_of_lt (sz_lt (by omega))
      · refine ⟨g04, _, _, _, _, rfl, ?_, log_app (log_app (log_lo r0 lz) pl.1) (log_hi r0 lz)⟩
        rw [len_app, len_app]
        omega
    · rintro σ' H1 ⟨g1, z, t4, t5, t6, rfl, zl, lz⟩
      exact ⟨.str z, rfl, q z H1 g1 zl lz⟩
abbrev sLog2 : Stmt := topS 41
abbrev NscLog2 : List Str := ["_law_hand_here", "_law_pieces_here", "_law_most", "_law_log_here", "_law_place", "_law_own", "_law_kind", "_law_at"]
theorem scLog2 : FnScope ["_law_hand_here", "_law_pieces_here", "_law_most", "_law_log_here", "_law_place", "_law_own", "_law_kind", "_law_at"] ["_law_hand_here", "_law_pieces_here", "_law_most"] (defScope sLog2) := ⟨rfl, rfl, rfl, by decide +kernel, rfl, by decide +kernel, by decide +kernel⟩
theorem ok_log2 {f : Addr} {fd : FuncData} (F : Fun K "_law_log" "_law_log" sLog2 f fd) (T : Txt mg) (C__law_draw : Own P w K mg base CX0 1 "_law_draw" ["_law_hand_here", "_law_many"] spDraw)
    (C__law_any : Own P w K mg base CX0 2 "_law_any" ["_law_hand_here", "_law_items"] (spAny K)) (C__law_idle_log : Own P w K mg base CX0 3 "_law_idle_log" ["_law_hand_here", "_law_pieces_here", "_law_most"] (spIdle K)) : FnOk P w K mg base CX0 4 f fd ["_law_hand_here", "_law_pieces_here", "_law_most"] (spLog2 K) := by
  refine F.ok scLog2 (fun vs H Q E h => ?_) (fun cdv A outer s H vs Q E hr h => ?_)
  · obtain ⟨h, p, zs, rfl, _⟩ := h
    rfl
  · obtain ⟨h, p, zs, rfl, hh, np, hp, gz, q⟩ := h
    refine ⟨_, (pss_cons (ps_asg (pe_tup (pa_cons (pe_join pe_str (pe_callB (cr_sortedX rfl) (by rfl) T.nsorted (by decide +kernel) (pa_cons (pe_callTy (cr_setX rfl) (by rfl) T.nset (by decide +kernel) (pa_cons (pe_join pe_str (pv 1)) pa_nil)) pa_nil))) (pa_cons (pe_own C__law_draw hr (pa_cons (pv 0) (pa_cons pe_int pa_nil))) pa_nil))) (pg_tup rfl (pgs_cons (pg_name (i := 5) scLog2.nd rfl (Or.inr rfl)) (pgs_cons (pg_name (i := 6) scLog2.nd rfl (Or.inl rfl)) pgs_nil))))
      (pss_cons (ps_if (pt_cmpR op_eq (pv 6) pe_int (nomark _)) (pss_one (ps_ret (pe_join pe_str (pe_lc (own := [("_law_at", 7)]) (by rfl) scLog2.nd (pi_range1 (by rfl) T.nrange (pa_cons (pe_own C__law_draw hr (pa_cons (pv 0) (pa_cons (pe_op op_add (pv 2) pe_int) pa_nil))) pa_nil)) (blkOk_by (own := [("_law_at", 7)]) (N := NscLog2) (sc := defScope sLog2) (by decide +kernel)) (fun _ _ _ _ _ => (pg_name (i := 7) scLog2.nd rfl (Or.inl rfl))) (fun _ _ _ _ _ => pts_nil) (fun _ _ _ _ _ => (pe_own C__law_any hr (pa_cons (pv 0) (pa_cons (pv 5) pa_nil)))))))) pss_nil)
      (pss_cons (ps_set (i := 3) scLog2.nd rfl (Or.inl rfl) (pe_own C__law_idle_log hr (pa_cons (pv 0) (pa_cons (pv 1) (pa_cons (pe_op op_sub (pv 2) pe_int) pa_nil)))))
      (pss_cons (ps_set (i := 4) scLog2.nd rfl (Or.inl rfl) (pe_own C__law_draw hr (pa_cons (pv 0) (pa_cons (pe_op op_add (pe_callB call_len_str (by rfl) T.nlen (by decide +kernel) (pa_cons (pv 3) pa_nil)) pe_int) pa_nil))))
      (pss_cons (ps_if (pt_cmpR op_lt (pv 6) pe_int (nomark _)) (pss_one (ps_ret (pe_op op_add_str (pe_op op_add_str (pe_slice sl_str (pv 3) po_none (po_some (pv 4))) (pe_own C__law_any hr (pa_cons (pv 0) (pa_cons (pv 5) pa_nil)))) (pe_slice sl_str (pv 3) (po_some (pv 4)) po_none)))) pss_nil)
      (pss_cons (ps_if (pt_cmpR op_eq (pv 6) pe_int (nomark _)) (pss_one (ps_ret (pe_op op_add_str (pe_slice sl_str (pv 3) po_none (po_some (pv 4))) (pe_slice sl_str (pv 3) (po_some (pe_op op_add (pv 4) pe_int)) po_none)))) pss_nil)
      (pss_cons (ps_if (pt_cmpR op_eq (pv 6) pe_int (nomark _)) (pss_one (ps_ret (pe_op op_add_str (pe_op op_add_str (pe_slice sl_str (pv 3) po_none (po_some (pv 4))) (pe_own C__law_any hr (pa_cons (pv 0) (pa_cons pe_str pa_nil)))) (pe_slice sl_str (pv 3) (po_some (pe_op op_add (pv 4) pe_int)) po_none)))) pss_nil)
      (pss_one (ps_ret (pv 3)))))))))), ?_⟩
    have gs := good_sum gz
    refine ⟨⟨_, rfl⟩, ⟨_, rfl⟩, .ref p, rfl, "", p, zs, rfl, rfl, .inr hp, ?_, ?_⟩
    · show (zs.map (·.length)).sum + zs.length * 0 ≤ 16777216
      omega
    refine ⟨Txt.join "" zs, rfl, ?_, fun a l na nd si => ?_⟩
    · have h1 := StrLaws.join_length_le "" zs
      rw [TL.join_eq]
      have h2 : ("" : Str).length = 0 := rfl
      rw [h2, Nat.mul_zero, Nat.add_zero] at h1
      have h3 : (1000 : Nat) ≤ scanBound := by decide
      omega
    have lf := lets_few gz nd si
    refine ⟨a, l, rfl, upd_same, lf, fun ys b pm so nb => ?_⟩
    have e := own_lets gz nd si pm so
    have s2 : Same H (upd (upd H a (SetXO P w a l)) b (.lst (ys.map V.str))) := (same_new na).trans (same_new nb)
    refine ⟨"", b, ys, rfl, rfl, .inl (.inl (.inl upd_same)), ?_, ?_⟩
    · have h1 := sum_le (n := 1) (zs := ys) fun z hz => by
        obtain ⟨c, _, rfl⟩ := (si.2 z).mp (pm.mem_iff.mp hz)
        exact Nat.le_refl _
      have h2 := pm.length_eq
      show _ + _ * 0 ≤ 16777216
      omega
    rw [e]
    obtain ⟨ol, o1, o2⟩ := lets_log gz
    generalize lets zs = ow at ol o1 o2 ⊢
    have g1 := go_same hh s2
    refine ⟨.ref h, rfl, h, 8, rfl, g1.hand, by decide, by decide, fun kd H2 k0 k8 g2 => ?_⟩
    refine ⟨(by show 2 ≤ sizeLine; decide), fun t nt => ⟨t, _, rfl, .inl (.inl upd_same), rfl, _, _, rfl, _, _, rfl, rfl, ?_⟩⟩
    have g3 := (g1.trans g2).then_new (o := .tup [V.str ow, .int kd]) nt
    generalize upd H2 t (.tup [V.str ow, .int kd]) = H3 at g3 ⊢
    refine ⟨.int kd, rfl, rfl, _, rfl, ?_⟩
    refine ite2 (fun _ => ?_) (fun _ => ?_)
    · refine ⟨⟨_, rfl⟩, .ref h, rfl, .int 20, rfl, _, _, rfl, rfl, h, _, rfl, g3.hand, by decide, by decide, fun r H4 r0 r1 g4 => ⟨_, rfl, by omega, by omega, fun D hD => ?_⟩⟩
      have g04 := g3.trans g4
      have nDh := g04.hand.ne hD
      have offD := g04.hand.off hD
      refine lc_range (lo := 0) (n := r.toNat) (fun k H' => Go h H H' ∧ Off h D H' ∧ ∃ ns : List Nat, ns.length = k ∧ (∀ c ∈ ns, letB c = true) ∧ H' D = some (.lst ((ns.map sing).map V.str)))
        ⟨g04.then_new hD, offD.upd nDh, [], rfl, (fun c hc => nomatch hc), upd_same⟩ ?_ ?_
      · rintro k H5 hk ⟨g5, off5, ns, nl, lb, eD⟩
        refine ⟨rfl, ?_⟩
        refine ⟨.ref h, rfl, .str ow, rfl, h, .str ow, _, rfl, g5.hand, (fun z => nomatch z), .s (by omega), ?_, fun v H6 hv g6 => ?_⟩
        · rw [List.length_map, Array.length_toList]
          exact o1
        · obtain ⟨c, hc, rfl⟩ := List.mem_map.mp hv
          refine ⟨_, g6.keep _ _ nDh eD, ?_, ?_⟩
          · rw [List.length_map, List.length_map]
            exact sz_lt (by omega)
          · have off6 := g6.off g5.hand off5
            refine ⟨(g5.trans g6).set (g04.free hD) nDh off6, off6.upd nDh, ns ++ [c], by rw [List.length_append, nl]; rfl, fun d hd => ?_, ?_⟩
            · rcases List.mem_append.mp hd with hd | hd
              · exact lb d hd
              · rw [List.mem_singleton.mp hd]
                exact List.all_eq_true.mp ol c hc
            · rw [upd_same, List.map_append, List.map_append]
              rfl
      · rintro H5 ⟨g5, off5, ns, nl, lb, eD⟩
        obtain ⟨j1, j2⟩ := join_log lb
        refine ⟨"", D, ns.map sing, rfl, rfl, .inl (.inl (.inl eD)), ?_, q _ _ g5 (by omega) j1⟩
        have h1 := sum_le (n := 1) (zs := ns.map sing) fun z hz => by
          obtain ⟨c, _, rfl⟩ := List.mem_map.mp hz
          exact Nat.le_refl _
        rw [List.length_map] at h1
        show _ + _ * 0 ≤ 16777216
        omega
    · refine ⟨.ref h, rfl, .ref p, rfl, .int 20, rfl, _, _, rfl, rfl, h, p, zs, 19, rfl, g3.hand, np, g3.sqT hh hp, gz, by decide, by decide, fun z H4 g4 zl lz => ?_⟩
      refine ⟨.ref h, rfl, .str z, rfl, z, rfl, Nat.le_of_lt (sz_lt (by omega)), _, _, rfl, rfl, h, _, rfl, g4.hand, by omega, by omega, fun r H5 r0 r1 g5 => ?_⟩
      have g05 := g3.trans (g4.trans g5)
      have l1 := len_lo r0 (show r ≤ z.length by omega)
      have l2 := len_hi r0 (show r ≤ z.length by omega)
      have l3 : ((cutS z (some (r + 1)) none).length : Int) ≤ max 0 (z.length - r - 1) := by
        obtain ⟨n, rfl⟩ := Int.eq_ofNat_of_zero_le r0
        have := @len_hi' z (n + 1)
        have e : ((n : Int) + 1) = ((n + 1 : Nat) : Int) := by omega
        rw [e, this]
        omega
      have b1 := log_lo r0 lz
      have b2 := log_hi r0 lz
      have b3 := log_hi (p := r + 1) (by omega) lz
      refine ⟨.int kd, rfl, _, _, rfl, rfl, _, rfl, ?_⟩
      refine ite2 (fun _ => ?_) (fun _ => ?_)
      · refine ⟨.str z, rfl, .int r, rfl, r, rfl, z, rfl, Nat.le_of_lt (sz_lt (by omega)), .ref h, rfl, .str ow, rfl, h, .str ow, _, rfl, g5.hand, (fun z => nomatch z), .s (by omega), ?_, fun v H6 hv g6 => ?_⟩
        · rw [List.length_map, Array.length_toList]
          exact o1
        · obtain ⟨c, hc, rfl⟩ := List.mem_map.mp hv
          have cl : (⟨#[c]⟩ : Str).length = 1 := rfl
          have cb : logB (⟨#[c]⟩ : Str) = true := by
            unfold logB
            show ([c].all letB) = true
            rw [List.all_cons, List.all_eq_true.mp ol c hc]
            rfl
          generalize (⟨#[c]⟩ : Str) = cs at cl cb ⊢
          refine ⟨_, _, rfl, rfl, Nat.le_of_lt (sz_lt (by omega)), .str z, rfl, .int r, rfl, r, rfl, z, rfl, Nat.le_of_lt (sz_lt (by omega)), _, _, rfl, rfl, ?_, q _ _ (g05.trans g6) ?_ (log_app (log_app b1 cb) b2)⟩
          · rw [len_app]
            exact Nat.le_of_lt (sz_lt (by omega))
          · rw [len_app, len_app]
            omega
      · refine ⟨.int kd, rfl, rfl, _, rfl, ?_⟩
        refine ite2 (fun _ => ?_) (fun _ => ?_)
        · refine ⟨.str z, rfl, .int r, rfl, r, rfl, z, rfl, Nat.le_of_lt (sz_lt (by omega)), .str z, rfl, .int r, rfl, _, _, rfl, rfl, _, rfl, z, rfl, Nat.le_of_lt (sz_lt (by omega)), _, _, rfl, rfl, Nat.le_of_lt (sz_lt (by omega)), q _ _ g05 ?_ (log_app b1 b3)⟩
          rw [len_app]
          omega
        · refine ⟨.int kd, rfl, rfl, _, rfl, ?_⟩
          refine ite2 (fun _ => ?_) (fun _ => ?_)
          · refine ⟨.str z, rfl, .int r, rfl, r, rfl, z, rfl, Nat.le_of_lt (sz_lt (by omega)), .ref h, rfl, h, .str abc, _, rfl, g5.hand, (fun z => nomatch z), .s (by decide +kernel), (by decide +kernel), fun v H6 hv g6 => ?_⟩
            obtain ⟨c, hc, rfl⟩ := List.mem_map.mp hv
            have cl : (⟨#[c]⟩ : Str).length = 1 := rfl
            have cb : logB (⟨#[c]⟩ : Str) = true := by
              unfold logB
              show ([c].all letB) = true
              rw [List.all_cons, show letB c = true from decide_eq_true hc]
              rfl
            generalize (⟨#[c]⟩ : Str) = cs at cl cb ⊢
            refine ⟨_, _, rfl, rfl, Nat.le_of_lt (sz_lt (by omega)), .str z, rfl, .int r, rfl, _, _, rfl, rfl, _, rfl, z, rfl, Nat.le_of_lt (sz_lt (by omega)), _, _, rfl, rfl, ?_, q _ _ (g05.trans g6) ?_ (log_app (log_app b1 cb) b3)⟩
            · rw [len_app]
              exact Nat.le_of_lt (sz_lt (by omega))
            · rw [len_app, len_app]
              omega
          · exact ⟨.str z, rfl, q z H5 g05 (by omega) lz⟩
end
end Zq
namespace Zq
open PySem PySem.Spec PyProof.Rows L2
open PySem.Froz (sing)
/-! ### _law_bent_striking -/
theorem odd_ths {K : PySem.W.Frag} {G : Hp} {v : V} (h : Odd K G v) : ∃ ts, ThS K G v ts := by
  rcases h with ⟨d, a, _, n, _⟩ | ⟨p, kvs, rfl, g, _⟩
  · have ty := tyX_of a
    cases a with
    | str x => exact ⟨none, .inr ⟨rfl, _, ty, kit_ty (show kitB "str" "tuple" = some false by decide +kernel)⟩⟩
    | non => exact ⟨none, .inr ⟨rfl, _, ty, kit_ty (show kitB "NoneType" "tuple" = some false by decide +kernel)⟩⟩
    | bl b => exact ⟨none, .inr ⟨rfl, _, ty, kit_ty (show kitB "bool" "tuple" = some false by decide +kernel)⟩⟩
    | int i => exact ⟨none, .inr ⟨rfl, _, ty, kit_ty (show kitB "int" "tuple" = some false by decide +kernel)⟩⟩
    | lst a b => exact ⟨none, .inr ⟨rfl, _, ty, kit_ty (show kitB "list" "tuple" = some false by decide +kernel)⟩⟩
    | @tup p xs ds a b =>
      have hl := narrow_len n
      obtain ⟨l, le, hh⟩ := list_si (K := K) (H := G) (xs := xs) fun x hx => by
        obtain ⟨i, hi⟩ := List.mem_iff_getElem?.mp hx
        obtain ⟨d, e1, e2⟩ := dpAll_get b hi
        exact dp_st e2
      exact ⟨some l, .inl ⟨p, xs, l, rfl, rfl, a, by rw [dpAll_len b]; exact hl, le, hh⟩⟩
  · exact ⟨none, .inr ⟨rfl, _, .base (.dK g), kit_ty (by decide +kernel)⟩⟩
section
variable {K : PySem.W.Frag} {h : Addr} {H0 : Hp} {σ : L2.St} {te tf : TE} {ta : TA} {n m : Nat}
theorem lst_px {H : Hp} {p : Addr} {vs : List V} (e : H p = some (.lst vs)) (np : p ≠ h) : PX K h H (.ref p) :=
  ⟨fun z => np (V.ref.inj z), none, .inr ⟨rfl, _, .base (.lst (by rw [cut_ne np]; exact e)), kit_ty (show kitB "list" "tuple" = some false by decide +kernel)⟩⟩
theorem lst_pi {H : Hp} {p : Addr} {vs : List V} (e : H p = some (.lst vs)) (np : p ≠ h) : PI1 K h H (.ref p) :=
  ⟨none, .inr ⟨rfl, .inl ⟨_, .base (.lst (by rw [cut_ne np]; exact e)), kit_ty (show kitB "list" "tuple" = some false by decide +kernel)⟩⟩⟩
theorem po_px : ∀ H v, POdd K h H v → PX K h H v := fun H v ⟨n, o⟩ => ⟨n, odd_ths o⟩
theorem po_pi : ∀ H v, POdd K h H v → PI1 K h H v := fun H v ⟨n, o⟩ => odd_st o
theorem ms_px (hn : n ≤ 50000) (a : MkG h H0 σ (PS K h n) te) : MkG h H0 σ (PX K h) te := a.imp (ps_px hn)
theorem ms_items {P : Hp → V → Prop} (st : Stays h P) {H : Hp} {Q : VK} (a : MkAG h H0 σ P ta n) (hn : n ≤ 50000) (g : Go h H0 H) (q : ∀ p vs H', Go h H H' → H' p = some (.lst vs) → p ≠ h → vs.length = n → (∀ v ∈ vs, P H' v) → Q (.ref p) H') : tLst ta σ H Q :=
  MkG.lst (P' := fun H' v => ∃ p vs, v = .ref p ∧ H' p = some (.lst vs) ∧ p ≠ h ∧ vs.length = n ∧ ∀ v ∈ vs, P H' v) st a hn (fun H p vs e np l ps => ⟨p, vs, rfl, e, np, l, ps⟩) _ _ g
    fun v H' g ⟨p, vs, e, ep, np, hl, ps⟩ => e ▸ q p vs H' g ep np hl ps
theorem part_v2 {k : Nat} {i j : Int} (e : σ[k]? = some (some (.int i))) : PartG h H0 σ (tPart (tOp (rI0 fun i j => V.int (i + j)) (tVar k) (tC (.int j)))) := part_v1 e
theorem pair_pi {H : Hp} {t : Addr} {i j : Int} (e : H t = some (.tup [.int i, .int j])) (nt : t ≠ h) : PI1 K h H (.ref t) := ⟨some (i, j), .inl ⟨t, i, j, rfl, rfl, .inl (.inl (by rw [cut_ne nt]; exact e))⟩⟩
/-- a tuple of plain things made of numbers -/
theorem pi_pair {p n : Int} : MkG h H0 σ (PI1 K h) (tTup (tCons (tC (.int p)) (tCons (tC (.int n)) tNil))) := ((mk_odd (n := 1) (mk_tup (MkA.cons st_pl mk_int (MkA.cons st_pl mk_int MkA.nil))) (by decide)).g).imp po_pi
end
def spBentS (K : PySem.W.Frag) : Sp := fun vs H Q _ => ∃ (h p : Addr) (z : Str) (zs : List Str) (v : V), vs = [.ref h, .ref p, .str z, v] ∧ IsHand H h ∧ p ≠ h ∧ SqT K H p (zs.map V.str) ∧ GoodP zs ∧ z.length ≤ 4000 ∧ PS K h 20 H v ∧
  ∀ u H', Go h H H' → PX K h H' u → Q u H'
section
variable {P : Program} {w : World} {K : PySem.W.Frag} {mg : Str → Option Value} {base : Heap}
abbrev sBents : Stmt := topS 42
abbrev NscBents : List Str := ["_law_hand_here", "_law_pieces_here", "_law_log_here", "_law_striking", "_law_at", "_law_some", "_law_strike", "_law_menu"]
theorem scBents : FnScope ["_law_hand_here", "_law_pieces_here", "_law_log_here", "_law_striking", "_law_at", "_law_some", "_law_strike", "_law_menu"] ["_law_hand_here", "_law_pieces_here", "_law_log_here", "_law_striking"] (defScope sBents) := ⟨rfl, rfl, rfl, by decide +kernel, rfl, by decide +kernel, by decide +kernel⟩
theorem ok_bents {f : Addr} {fd : FuncData} (F : Fun K "_law_bent_striking" "_law_bent_striking" sBents f fd) (T : Txt mg) (C__law_draw : Own P w K mg base CX0 1 "_law_draw" ["_law_hand_here", "_law_many"] spDraw)
    (C__law_any : Own P w K mg base CX0 2 "_law_any" ["_law_hand_here", "_law_items"] (spAny K)) (C__law_odd : Own P w K mg base CX0 4 "_law_odd" ["_law_hand_here"] (spOdd K)) :
    FnOk P w K mg base CX0 5 f fd ["_law_hand_here", "_law_pieces_here", "_law_log_here", "_law_striking"] (spBentS K) := by
  refine F.ok scBents (fun vs H Q E h => ?_) (fun cdv A outer s H vs Q E hr h => ?_)
  · obtain ⟨h, p, z, zs, v, rfl, _⟩ := h
    rfl
  · obtain ⟨h, p, z, zs, v, rfl, hh, np, hp, gz, zl, ps, q⟩ := h
    refine ⟨_, (pss_cons (ps_set (i := 4) scBents.nd rfl (Or.inl rfl) (pe_own C__law_draw hr (pa_cons (pv 0) (pa_cons (pe_op op_add (pe_callB call_len_seq (by rfl) T.nlen (by decide +kernel) (pa_cons (pv 3) pa_nil)) pe_int) pa_nil))))
      (pss_cons (ps_set (i := 5) scBents.nd rfl (Or.inl rfl) (pe_lst (pa_cons (pe_own C__law_odd hr (pa_cons (pv 0) pa_nil)) (pa_cons (pe_tup (pa_cons (pe_own C__law_draw hr (pa_cons (pv 0) (pa_cons (pe_op op_add (pe_callB call_len_str (by rfl) T.nlen (by decide +kernel) (pa_cons (pv 2) pa_nil)) pe_int) pa_nil))) (pa_cons (pe_own C__law_draw hr (pa_cons (pv 0) (pa_cons (pe_op op_add (pe_callB call_len_seq (by rfl) T.nlen (by decide +kernel) (pa_cons (pv 1) pa_nil)) pe_int) pa_nil))) pa_nil))) (pa_cons (pe_tup (pa_cons pe_int (pa_cons pe_int pa_nil))) (pa_cons (pe_tup (pa_cons (pe_un un_neg pe_int) (pa_cons pe_int pa_nil))) (pa_cons (pe_lst (pa_cons pe_int (pa_cons pe_int pa_nil))) pa_nil)))))))
      (pss_cons (ps_set (i := 5) scBents.nd rfl (Or.inl rfl) (pe_op op_cat (pv 5) (pe_lst (pa_cons (pe_tup (pa_cons pe_int (pa_cons pe_bl pa_nil))) (pa_cons (pe_tup (pa_cons pe_int (pa_cons (pe_callB call_len_seq (by rfl) T.nlen (by decide +kernel) (pa_cons (pv 1) pa_nil)) pa_nil))) (pa_cons (pe_tup (pa_cons (pe_callB call_len_str (by rfl) T.nlen (by decide +kernel) (pa_cons (pv 2) pa_nil)) (pa_cons pe_int pa_nil))) (pa_cons (pe_tup (pa_cons pe_int (pa_cons pe_int (pa_cons pe_int pa_nil)))) pa_nil)))))))
      (pss_cons (ps_set (i := 6) scBents.nd rfl (Or.inl rfl) (pe_own C__law_any hr (pa_cons (pv 0) (pa_cons (pv 5) pa_nil))))
      (pss_cons (ps_set (i := 7) scBents.nd rfl (Or.inl rfl) (pe_lst (pa_cons (pe_op op_catA (pe_op op_catA (pe_slice sl_tupA (pv 3) po_none (po_some (pv 4))) (pe_tup (pa_cons (pv 6) pa_nil))) (pe_slice sl_tupA (pv 3) (po_some (pv 4)) po_none)) (pa_cons (pe_op op_catA (pe_op op_catA (pe_slice sl_tupA (pv 3) po_none (po_some (pv 4))) (pe_tup (pa_cons (pv 6) pa_nil))) (pe_slice sl_tupA (pv 3) (po_some (pe_op op_add (pv 4) pe_int)) po_none)) pa_nil))))
      (pss_cons (ps_set (i := 7) scBents.nd rfl (Or.inl rfl) (pe_op op_cat (pv 7) (pe_lst (pa_cons (pe_op op_catA (pe_slice sl_tupA (pv 3) po_none (po_some (pv 4))) (pe_slice sl_tupA (pv 3) (po_some (pe_op op_add (pv 4) pe_int)) po_none)) (pa_cons (pe_op op_catA (pe_op op_catA (pe_slice sl_tupA (pv 3) po_none (po_some (pv 4))) (pe_back (pe_slice sl_tupA (pv 3) (po_some (pv 4)) (po_some (pe_op op_add (pv 4) pe_int))) (pe_un un_neg pe_int))) (pe_slice sl_tupA (pv 3) (po_some (pe_op op_add (pv 4) pe_int)) po_none)) pa_nil)))))
      (pss_cons (ps_set (i := 7) scBents.nd rfl (Or.inl rfl) (pe_op op_cat (pv 7) (pe_lst (pa_cons (pe_op op_catA (pv 3) (pe_slice sl_tupA (pv 3) (po_some (pe_un un_neg pe_int)) po_none)) (pa_cons (pe_callTy call_list_of (by rfl) T.nlist (by decide +kernel) (pa_cons (pv 3) pa_nil)) (pa_cons (pe_own C__law_odd hr (pa_cons (pv 0) pa_nil)) (pa_cons (pe_tup pa_nil) (pa_cons (pv 3) pa_nil))))))))
      (pss_one (ps_ret (pe_own C__law_any hr (pa_cons (pv 0) (pa_cons (pv 7) pa_nil)))))))))))), ?_⟩
    obtain ⟨a, xs, rfl, na, hx, xl, hi⟩ := id ps
    refine ⟨.ref h, rfl, .ref a, rfl, a, _, rfl, .inr (same_seqT cut_same hx), _, _, rfl, rfl, h, _, rfl, hh, by omega, by omega, fun r H1 r0 r1 g1 => ?_⟩
    have odd : ∀ {σ : L2.St} {e : σ[0]? = some (some (.ref h))}, Zq.Mk h σ (POdd K h) (tCall (spOdd K) [] E0 (tCons (tVar 0) tNil)) := fun {σ e} H Q x q => ⟨.ref h, e, h, rfl, x, fun v H' g pv => q v H' g pv⟩
    have hp1 := g1.sqT hh hp
    let σ1 : L2.St := [some (.ref h), some (.ref p), some (.str z), some (.ref a), some (.int r), none, none, none]
    refine gName_run ?_
    dsimp only
    refine tSeq_run (tAsg_run ?_)
    refine ms_items (P := PI1 K h) st_pi (H0 := H1) (σ := σ1) (n := 5) ?_ (by decide) (Go.refl g1.hand) fun b bs H2 g2 eb nb bl bo => ?_
    · refine MkAG.cons st_pi ((odd (e := rfl)).g.imp po_pi) (MkAG.cons st_pi ?_ (MkAG.cons st_pi ?_ (MkAG.cons st_pi ?_ (MkAG.cons st_pi ?_ MkAG.nil))))
      · intro H Q g q
        have hp2 := g.sqT g1.hand hp1
        have gz2 := gz.2.1
        refine ⟨.ref h, rfl, .str z, rfl, z, rfl, Nat.le_of_lt (sz_lt (by omega)), _, _, rfl, rfl, h, _, rfl, g.hand, by omega, by omega, fun i H3 _ _ g3 => ?_⟩
        refine ⟨.ref h, rfl, .ref p, rfl, p, _, rfl, .inr (g3.sqT g.hand hp2), _, _, rfl, rfl, h, _, rfl, g3.hand, by omega, by rw [List.length_map]; omega, fun j H4 _ _ g4 => ?_⟩
        exact ⟨by show 2 ≤ sizeLine; decide, fun t nt => q _ _ ((g3.trans g4).then_new nt) (pair_pi upd_same (g4.hand.ne nt))⟩
      · exact pi_pair
      · exact ((mk_odd (n := 1) (mk_tup (MkA.cons st_pl mk_neg1 (MkA.cons st_pl mk_int MkA.nil))) (by decide)).g).imp po_pi
      · intro H Q g q
        exact ⟨by show 2 ≤ sizeLine; decide, fun t nt => q _ _ (Go.new g.hand nt) (lst_pi upd_same (g.hand.ne nt))⟩
    have g02 := g1.trans g2
    have hp2 := g2.sqT g1.hand hp1
    let σ2 : L2.St := [some (.ref h), some (.ref p), some (.str z), some (.ref a), some (.int r), some (.ref b), none, none]
    refine gName_run ?_
    dsimp only
    refine tSeq_run (tAsg_run ?_)
    refine ⟨.ref b, rfl, ?_⟩
    refine ms_items (P := PI1 K h) st_pi (H0 := H2) (σ := σ2) (n := 4) ?_ (by decide) (Go.refl g2.hand) fun b2 bs2 H3 g3 eb2 nb2 bl2 bo2 => ?_
    · refine MkAG.cons st_pi ?_ (MkAG.cons st_pi ?_ (MkAG.cons st_pi ?_ (MkAG.cons st_pi ?_ MkAG.nil)))
      · exact ((mk_odd (n := 1) (mk_tup (MkA.cons st_pl mk_int (MkA.cons st_pl mk_bl MkA.nil))) (by decide)).g).imp po_pi
      · intro H Q g q
        refine ⟨.ref p, rfl, p, _, rfl, .inr (g.sqT g2.hand hp2), ?_⟩
        exact ⟨by show 2 ≤ sizeLine; decide, fun t nt => q _ _ (Go.new g.hand nt) (pair_pi upd_same (g.hand.ne nt))⟩
      · intro H Q g q
        refine ⟨.str z, rfl, z, rfl, Nat.le_of_lt (sz_lt (by omega)), ?_⟩
        exact ⟨by show 2 ≤ sizeLine; decide, fun t nt => q _ _ (Go.new g.hand nt) (pair_pi upd_same (g.hand.ne nt))⟩
      · exact ((mk_odd (n := 1) (mk_tup (MkA.cons st_pl mk_int (MkA.cons st_pl mk_int (MkA.cons st_pl mk_int MkA.nil)))) (by decide)).g).imp po_pi
    have g03 := g02.trans g3
    refine ⟨b, b2, bs, bs2, rfl, rfl, g3.keep _ _ nb eb, eb2, Nat.le_of_lt (sz_lt (by omega)), fun c nc => ?_⟩
    have g4 := g03.then_new (o := .lst (bs ++ bs2)) nc
    have ncH := g03.hand.ne nc
    have ec : upd H3 c (.lst (bs ++ bs2)) c = some (.lst (bs ++ bs2)) := upd_same
    have pc : ∀ v ∈ bs ++ bs2, PI1 K h (upd H3 c (.lst (bs ++ bs2))) v := fun v hv => by
      rcases List.mem_append.mp hv with hv | hv
      · exact st_pi _ _ _ (g3.then_new nc) (bo v hv)
      · exact st_pi _ _ _ (Go.new g3.hand nc) (bo2 v hv)
    generalize upd H3 c (.lst (bs ++ bs2)) = H4 at g4 ec pc ⊢
    have ll : (bs ++ bs2).length = 9 := by rw [List.length_append]; omega
    generalize bs ++ bs2 = cs at ec pc ll ⊢
    refine ⟨.ref h, rfl, .ref c, rfl, h, .ref c, cs, rfl, g4.hand, (fun z => ncH (V.ref.inj z)), .l (.inl (.inl ec)) (by omega), by omega, fun x H5 hx g5 => ?_⟩
    have g05 := g4.trans g5
    have px := st_pi _ _ _ g5 (pc x hx)
    have ps5 := st_ps _ _ _ g05 ps
    let σ5 : L2.St := [some (.ref h), some (.ref p), some (.str z), some (.ref a), some (.int r), some (.ref c), some x, none]
    have v3 : σ5[3]? = some (some (.ref a)) := rfl
    have v4 : σ5[4]? = some (some (.int r)) := rfl
    have P5 : MkG h H5 σ5 (PS K h 20) (tVar 3) := ms_var v3 ps5
    have one5 : MkG h H5 σ5 (PS K h 1) (tTup (tCons (tVar 6) tNil)) := ms_one (mi_var rfl px)
    refine gName_run ?_
    dsimp only
    refine tSeq_run (tAsg_run ?_)
    refine ms_items (P := PX K h) st_px (H0 := H5) (σ := σ5) (n := 2) ?_ (by decide) (Go.refl g05.hand) fun d ds H6 g6 ed nd dl dp => ?_
    · refine MkAG.cons st_px ?_ (MkAG.cons st_px ?_ MkAG.nil)
      · exact ms_px (by decide) (ms_cat (ms_cat (ms_slice P5 part_no (part_v v4) (by decide)) one5 (by decide)) (ms_slice P5 (part_v v4) part_no (by decide)) (by decide))
      · exact ms_px (by decide) (ms_cat (ms_cat (ms_slice P5 part_no (part_v v4) (by decide)) one5 (by decide)) (ms_slice P5 (part_v1 v4) part_no (by decide)) (by decide))
    have g06 := g05.trans g6
    have ps6 := st_ps _ _ _ g6 ps5
    let σ6 : L2.St := [some (.ref h), some (.ref p), some (.str z), some (.ref a), some (.int r), some (.ref c), some x, some (.ref d)]
    have w3 : σ6[3]? = some (some (.ref a)) := rfl
    have w4 : σ6[4]? = some (some (.int r)) := rfl
    have P6 : MkG h H6 σ6 (PS K h 20) (tVar 3) := ms_var w3 ps6
    refine gName_run ?_
    dsimp only
    refine tSeq_run (tAsg_run ?_)
    refine ⟨.ref d, rfl, ?_⟩
    refine ms_items (P := PX K h) st_px (H0 := H6) (σ := σ6) (n := 2) ?_ (by decide) (Go.refl g06.hand) fun d2 ds2 H7 g7 ed2 nd2 dl2 dp2 => ?_
    · refine MkAG.cons st_px ?_ (MkAG.cons st_px ?_ MkAG.nil)
      · exact ms_px (by decide) (ms_cat (ms_slice P6 part_no (part_v w4) (by decide)) (ms_slice P6 (part_v1 w4) part_no (by decide)) (by decide))
      · exact ms_px (by decide) (ms_cat (ms_cat (ms_slice P6 part_no (part_v w4) (by decide)) (ms_back rfl (ms_slice P6 (part_v w4) (part_v1 w4) (by decide))) (by decide)) (ms_slice P6 (part_v1 w4) part_no (by decide)) (by decide))
    have g07 := g06.trans g7
    refine ⟨d, d2, ds, ds2, rfl, rfl, g7.keep _ _ nd ed, ed2, Nat.le_of_lt (sz_lt (by omega)), fun e ne => ?_⟩
    have g8 := g07.then_new (o := .lst (ds ++ ds2)) ne
    have neH := g07.hand.ne ne
    have ee : upd H7 e (.lst (ds ++ ds2)) e = some (.lst (ds ++ ds2)) := upd_same
    have pe : ∀ v ∈ ds ++ ds2, PX K h (upd H7 e (.lst (ds ++ ds2))) v := fun v hv => by
      rcases List.mem_append.mp hv with hv | hv
      · exact st_px _ _ _ (g7.then_new ne) (dp v hv)
      · exact st_px _ _ _ (Go.new g7.hand ne) (dp2 v hv)
    have ps8 := st_ps _ _ _ (g7.then_new (o := .lst (ds ++ ds2)) ne) ps6
    generalize upd H7 e (.lst (ds ++ ds2)) = H8 at g8 ee pe ps8 ⊢
    have l4 : (ds ++ ds2).length = 4 := by rw [List.length_append]; omega
    generalize ds ++ ds2 = es at ee pe l4 ⊢
    let σ8 : L2.St := [some (.ref h), some (.ref p), some (.str z), some (.ref a), some (.int r), some (.ref c), some x, some (.ref e)]
    have u3 : σ8[3]? = some (some (.ref a)) := rfl
    have P8 : MkG h H8 σ8 (PS K h 20) (tVar 3) := ms_var u3 ps8
    refine gName_run ?_
    dsimp only
    refine tSeq_run (tAsg_run ?_)
    refine ⟨.ref e, rfl, ?_⟩
    refine ms_items (P := PX K h) st_px (H0 := H8) (σ := σ8) (n := 5) ?_ (by decide) (Go.refl g8.hand) fun k ks H9 g9 ek nk kl kp => ?_
    · refine MkAG.cons st_px ?_ (MkAG.cons st_px ?_ (MkAG.cons st_px ?_ (MkAG.cons st_px ?_ (MkAG.cons st_px ?_ MkAG.nil))))
      · exact ms_px (by decide) (ms_cat P8 (ms_slice P8 part_neg part_no (by decide)) (by decide))
      · intro H Q g q
        obtain ⟨a', xs', e', na', hx', _, _⟩ := st_ps _ _ _ g ps8
        cases e'
        exact ⟨.ref a, rfl, a, xs', rfl, .inr (same_seqT cut_same hx'), fun l nl => q _ _ (Go.new g.hand nl) (lst_px upd_same (g.hand.ne nl))⟩
      · exact (odd (e := rfl)).g.imp po_px
      · exact ((mk_odd (n := 1) (mk_tup MkA.nil) (by decide)).g).imp po_px
      · exact ms_px (by decide) P8
    refine ⟨e, k, es, ks, rfl, rfl, g9.keep _ _ neH ee, ek, Nat.le_of_lt (sz_lt (by omega)), fun l nl => ?_⟩
    have g09 := g8.trans g9
    refine ⟨.ref h, rfl, .ref l, rfl, h, .ref l, es ++ ks, rfl, (g09.then_new nl).hand, (fun z => g09.hand.ne nl (V.ref.inj z)), .l (.inl (.inl upd_same)) (by rw [List.length_append]; omega), (by rw [List.length_append]; omega), fun u H10 hu g10 => ?_⟩
    refine q u H10 ((g09.then_new nl).trans g10) (st_px _ _ _ ((Go.new g09.hand nl).trans g10) ?_)
    rcases List.mem_append.mp hu with hu | hu
    · exact st_px _ _ _ g9 (pe u hu)
    · exact kp u hu
end
end Zq
namespace Zq
open PySem PySem.Spec PyProof.Rows L2
open PySem.Froz (sing)
/-! ### law -/
theorem res_kind {zs : List Str} {z : Str} {ts : Option (List Sk)} : (resT zs z ts).1 = .non ∨ ∃ i : Int, (resT zs z ts).1 = .int i := by
  cases ts with
  | none => exact .inr ⟨-1, rfl⟩
  | some l =>
    rw [resT_some]
    split
    · exact .inl rfl
    · exact .inr ⟨_, rfl⟩
theorem run_good {zs : List Str} : ∀ {l : List Sk} {i : Nat} {z : Str}, logB z = true → logB (runT zs i z l).2 = true ∧ (runT zs i z l).2.length ≤ z.length
  | [], _, z, h => ⟨h, Nat.le_refl _⟩
  | t :: l, i, z, h => by
    rw [runT]
    split
    · rename_i ok
      have g := wo_good ok
      have r := @run_good zs l (i + 1) _ (g.2 h)
      exact ⟨r.1, Nat.le_trans r.2 g.1⟩
    · exact ⟨h, Nat.le_refl _⟩
theorem res_good {zs : List Str} {z : Str} {ts : Option (List Sk)} (h : logB z = true) : logB (resT zs z ts).2 = true ∧ (resT zs z ts).2.length ≤ z.length := by
  cases ts with
  | none => exact ⟨h, Nat.le_refl _⟩
  | some l =>
    have r := @run_good zs l 0 z h
    rw [resT_some]
    split
    · rename_i y e
      rw [e] at r
      exact r
    · rename_i i y e
      rw [e] at r
      exact r
theorem pin_toList {zs : List Str} {z : Str} {p n : Nat} : (pin zs z (p : Int) (n : Int)).cps.toList = z.cps.toList.take p ++ ((zs.getD n "").cps.toList ++ z.cps.toList.drop p) := by
  unfold pin
  rw [app_toList, app_toList, cut_len_lo, cut_hi, Int.toNat_natCast, List.append_assoc]
theorem pin_len {zs : List Str} {z : Str} {p n : Nat} (hp : p ≤ z.length) : (pin zs z (p : Int) (n : Int)).length = z.length + (zs.getD n "").length := by
  rw [← zlen, pin_toList, List.length_append, List.length_append, List.length_take, List.length_drop, zlen, zlen]
  omega
theorem pin_ok {zs : List Str} {z : Str} {p n : Nat} (g : GoodP zs) (hp : p ≤ z.length) (hn : n < zs.length) : okT zs (pin zs z (p : Int) (n : Int)) (some ((p : Int), (n : Int))) = true := by
  have pl := (piece_log (g.2.2 _ (getD_mem hn))).2.1
  have l := @pin_len zs z p n hp
  have hp' : (z.cps.toList.take p).length = p := by
    rw [List.length_take, zlen]
    omega
  have st : okN zs (pin zs z (p : Int) (n : Int)) p n = true := by
    unfold okN stands
    rw [decide_eq_true_eq, pin_toList, List.drop_append_of_le_length (by omega), List.drop_of_length_le (by omega), List.nil_append, List.take_append_of_le_length (by rw [zlen]; exact Nat.le_refl _), List.take_of_length_le (by rw [zlen]; exact Nat.le_refl _)]
  rw [okT_eq, decide_eq_true (by omega), decide_eq_true (by omega), decide_eq_true (by omega), decide_eq_true (by omega), Int.toNat_natCast, Int.toNat_natCast, st]
  rfl
theorem pin_back {zs : List Str} {z : Str} {p n : Nat} (hp : p ≤ z.length) : wo zs (pin zs z (p : Int) (n : Int)) (p : Int) (n : Int) = z := by
  apply str_ext
  have hp' : (z.cps.toList.take p).length = p := by
    rw [List.length_take, zlen]
    omega
  have e1 : ((zs.getD n "").cps.toList).length = (zs.getD n "").length := zlen _
  rw [wo_toList, pin_toList, List.take_append_of_le_length (by omega), List.take_of_length_le (by omega), List.drop_append, List.drop_of_length_le (by omega), List.nil_append, List.drop_append, List.drop_of_length_le (by omega), List.nil_append, hp', show p + (zs.getD n "").length - p - (zs.getD n "").cps.toList.length = 0 by omega, List.drop_zero, List.take_append_drop]
theorem pin_log {zs : List Str} {z : Str} {p n : Nat} (g : GoodP zs) (hn : n < zs.length) (h : logB z = true) : logB (pin zs z (p : Int) (n : Int)) = true :=
  log_app (log_app (log_lo (by omega) h) (piece_log (g.2.2 _ (by rw [Int.toNat_natCast]; exact getD_mem hn))).1) (log_hi (by omega) h)
theorem rep_list {a : Array Nat} : ∀ (n : Nat) (b : Array Nat) (c : Nat), c ∈ ((List.replicate n a).foldl (fun x y => x ++ y) b).toList → c ∈ b.toList ∨ c ∈ a.toList
  | 0, b, c, h => .inl h
  | n + 1, b, c, h => by
    rw [List.replicate_succ, List.foldl_cons] at h
    rcases rep_list n _ c h with h | h
    · rw [Array.toList_append] at h
      exact List.mem_append.mp h
    · exact .inr h
theorem same_sqL {K : PySem.W.Frag} {H H' : Hp} {a : Addr} {xs : List V} (e : Same H H') (h : SqL K H a xs) : SqL K H' a xs := by
  rcases h with (h | ⟨o, h⟩) | h
  · exact .inl (.inl (e _ _ h))
  · exact .inl (.inr ⟨o, e _ _ h⟩)
  · exact .inr h
theorem bk_go {K : PySem.W.Frag} {CB h bk : Addr} {H H' : Hp} {zs : List Str} (x : IsHand H h) (b : BkAt K CB H bk zs) (g : Go h H H') : BkAt K CB H' bk zs := by
  obtain ⟨dx, r, e, hp⟩ := b
  refine ⟨dx, r, g.keep _ _ (fun z => ?_) e, g.sqT x hp⟩
  obtain ⟨c, cells, i, d, s, k, e1, _⟩ := x
  rw [z, e1] at e
  cases e
theorem seq_if {t u : TS} {D : Ends} {σ : L2.St} {H : Hp} (P : L2.St → Hp → Prop) (h1 : ∀ σ' H', P σ' H' → u D σ' H') (h2 : ∀ N : L2.St → Hp → Prop, (∀ σ' H', P σ' H' → N σ' H') → t { D with nx := N } σ H) : tSeq t u D σ H := h2 _ h1
def spLaw (K : PySem.W.Frag) : Sp := fun vs H Q _ => ∃ (a : Addr) (ns : List Int), vs = [.ref a] ∧ SqL K H a (ns.map V.int) ∧ ns.length ≤ 63 ∧ ∀ H', Q (.bl true) H'
section
variable {P : Program} {w : World} {K : PySem.W.Frag} {mg : Str → Option Value} {base : Heap}
abbrev sLaw : Stmt := topS 44
abbrev NscLaw : List Str := ["_law_script", "_law_hand_here", "_law_turn", "_law_pieces_here", "_law_some", "_law_told", "_law_strike", "_law_striking", "_law_again", "_law_more", "_law_book", "_law_log_here", "_law_thing", "_law_place", "_law_number", "_law_at", "_law_left"]
theorem scLaw : FnScope ["_law_script", "_law_hand_here", "_law_turn", "_law_pieces_here", "_law_some", "_law_told", "_law_strike", "_law_striking", "_law_again", "_law_more", "_law_book", "_law_log_here", "_law_thing", "_law_place", "_law_number", "_law_at", "_law_left"] ["_law_script"] (defScope sLaw) := ⟨rfl, rfl, rfl, by decide +kernel, rfl, by decide +kernel, by decide +kernel⟩
theorem ok_law {CB CE : Addr} {f : Addr} {fd : FuncData} (F : Fun K "law" "law" sLaw f fd) (T : Txt mg) (M_Book : BookC K mg CB) (M_BookI : MkB P w K mg base CB CE)
    (C__law_hand : Own P w K mg base CX0 1 "_law_hand" ["_law_script"] (spHand K))
    (C__law_draw : Own P w K mg base CX0 1 "_law_draw" ["_law_hand_here", "_law_many"] spDraw)
    (C__law_any : Own P w K mg base CX0 2 "_law_any" ["_law_hand_here", "_law_items"] (spAny K))
    (C__law_pieces : Own P w K mg base CX0 3 "_law_pieces" ["_law_hand_here"] (spPieces K))
    (C__law_log : Own P w K mg base CX0 4 "_law_log" ["_law_hand_here", "_law_pieces_here", "_law_most"] (spLog2 K))
    (C__law_strikes : Own P w K mg base CX0 1 "_law_strikes" ["_law_pieces_here", "_law_log_here"] (spLstk K))
    (C_strikes : Own P w K mg base CX0 3 "strikes" ["book", "log"] (spStk K CB))
    (C_struck : Own P w K mg base CX0 4 "struck" ["book", "log", "strike"] (spStruck K CB))
    (C__law_struck : Own P w K mg base CX0 1 "_law_struck" ["_law_pieces_here", "_law_log_here", "_law_strike"] (spLwo K))
    (C__law_some_striking : Own P w K mg base CX0 3 "_law_some_striking" ["_law_hand_here", "_law_pieces_here", "_law_log_here", "_law_most"] (spSome K))
    (C__law_bent_striking : Own P w K mg base CX0 5 "_law_bent_striking" ["_law_hand_here", "_law_pieces_here", "_law_log_here", "_law_striking"] (spBentS K))
    (C__law_first_wrong : Own P w K mg base CX0 2 "_law_first_wrong" ["_law_pieces_here", "_law_log_here", "_law_thing"] (spWrong K))
    (C__law_striking_told : Own P w K mg base CX0 5 "_law_striking_told" ["_law_book", "_law_log_here", "_law_thing"] (spSTold K CB))
    (C_is_striking : Own P w K mg base CX0 5 "is_striking" ["book", "log", "thing"] (spIsStr K CB))
    (C_put_in : Own P w K mg base CX0 3 "put_in" ["book", "log", "place", "number"] (spPut K CB))
    (C__law_is : Own P w K mg base CX0 3 "_law_is" ["_law_told", "_law_due"] (spIsD K)) : FnOk P w K mg base CX0 6 f fd ["_law_script"] (spLaw K) := by
  refine F.ok scLaw (fun vs H Q E h => ?_) (fun cdv A outer s H vs Q E hr h => ?_)
  · obtain ⟨a, ns, rfl, _⟩ := h
    rfl
  · obtain ⟨a, ns, rfl, hS, hl, q⟩ := h
    refine ⟨_, (pss_cons (ps_set (i := 1) scLaw.nd rfl (Or.inl rfl) (pe_own C__law_hand hr (pa_cons (pv 0) pa_nil)))
      (pss_cons (ps_for PassesOwn.never rfl (pi_range1 (by rfl) T.nrange (pa_cons pe_int pa_nil)) (pg_name (i := 2) scLaw.nd rfl (Or.inl rfl))
        (pss_cons (ps_set (i := 3) scLaw.nd rfl (Or.inl rfl) (pe_own C__law_pieces hr (pa_cons (pv 1) pa_nil)))
        (pss_cons (ps_par (i := 10) (j := 11) (by rfl) scLaw.nd rfl rfl (by decide) rfl rfl (pa_cons (pe_mkB M_BookI M_Book.gC hr (fun _ => passB) (pa_cons (pv 3) pa_nil)) (pa_cons (pe_own C__law_log hr (pa_cons (pv 1) (pa_cons (pv 3) (pa_cons pe_int pa_nil)))) pa_nil)) (by rfl))
        (pss_cons (ps_if (PW.pt (pw_and (pt_cmpR op_eq (pv 2) pe_int (nomark _)) (pw_and1 (pt_cmpR op_eq (pe_own C__law_draw hr (pa_cons (pv 1) (pa_cons pe_int pa_nil))) pe_int (nomark _))))) (pss_one (ps_set (i := 11) scLaw.nd rfl (Or.inl rfl) (pe_op op_repS (pe_op op_add_str (pv 11) (pe_own C__law_any hr (pa_cons (pv 1) (pa_cons pe_str pa_nil)))) pe_int))) pss_nil)
        (pss_cons (ps_set (i := 4) scLaw.nd rfl (Or.inl rfl) (pe_own C__law_strikes hr (pa_cons (pv 3) (pa_cons (pv 11) pa_nil))))
        (pss_cons (ps_set (i := 5) scLaw.nd rfl (Or.inl rfl) (pe_own C_strikes hr (pa_cons (pv 10) (pa_cons (pv 11) pa_nil))))
        (pss_cons (ps_if (pt_not (pt_val (pe_own C__law_is hr (pa_cons (pv 5) (pa_cons (pv 4) pa_nil))))) (pss_one (ps_ret pe_bl)) pss_nil)
        (pss_cons (ps_expr (pe_bm PySem.F.plainAttrs_list PySem.F.slot_list_append PySem.F.type_list_append mt_append (pv 5) (pa_cons pe_non pa_nil)))
        (pss_cons (ps_if (pt_not (pt_val (pe_own C__law_is hr (pa_cons (pe_own C_strikes hr (pa_cons (pv 10) (pa_cons (pv 11) pa_nil))) (pa_cons (pv 4) pa_nil))))) (pss_one (ps_ret pe_bl)) pss_nil)
        (pss_cons (ps_for PassesOwn.never rfl (pi_list (pe_slice sl_list (pv 4) po_none (po_some pe_int))) (pg_name (i := 6) scLaw.nd rfl (Or.inl rfl))
          (pss_one (ps_if (pt_not (pt_val (pe_own C__law_is hr (pa_cons (pe_own C_struck hr (pa_cons (pv 10) (pa_cons (pv 11) (pa_cons (pv 6) pa_nil)))) (pa_cons (pe_own C__law_struck hr (pa_cons (pv 3) (pa_cons (pv 11) (pa_cons (pv 6) pa_nil)))) pa_nil))))) (pss_one (ps_ret pe_bl)) pss_nil)))
        (pss_cons (ps_set (i := 7) scLaw.nd rfl (Or.inl rfl) (pe_own C__law_some_striking hr (pa_cons (pv 1) (pa_cons (pv 3) (pa_cons (pv 11) (pa_cons (pe_own C__law_draw hr (pa_cons (pv 1) (pa_cons pe_int pa_nil))) pa_nil))))))
        (pss_cons (ps_for PassesOwn.never rfl (pi_range1 (by rfl) T.nrange (pa_cons pe_int pa_nil)) (pg_name (i := 8) scLaw.nd rfl (Or.inl rfl))
          (pss_cons (ps_set (i := 12) scLaw.nd rfl (Or.inl rfl) (pe_ifExp (pt_cmpR op_gt (pv 8) pe_int (nomark _)) (pe_own C__law_bent_striking hr (pa_cons (pv 1) (pa_cons (pv 3) (pa_cons (pv 11) (pa_cons (pv 7) pa_nil))))) (pv 7)))
          (pss_cons (ps_asg (pe_own C__law_first_wrong hr (pa_cons (pv 3) (pa_cons (pv 11) (pa_cons (pv 12) pa_nil)))) (pg_tup rfl (pgs_cons (pg_name (i := 15) scLaw.nd rfl (Or.inl rfl)) (pgs_cons (pg_name (i := 16) scLaw.nd rfl (Or.inl rfl)) pgs_nil))))
          (pss_cons (ps_if (pt_not (pt_val (pe_own C__law_is hr (pa_cons (pe_own C__law_striking_told hr (pa_cons (pv 10) (pa_cons (pv 11) (pa_cons (pv 12) pa_nil)))) (pa_cons (pe_ifExp (pt_cmpR op_isN (pv 15) pe_non (nomark _)) (pe_tup (pa_cons pe_str (pa_cons (pv 16) pa_nil))) (pv 15)) pa_nil))))) (pss_one (ps_ret pe_bl)) pss_nil)
          (pss_one (ps_if (pt_not (pt_val (pe_own C__law_is hr (pa_cons (pe_own C_is_striking hr (pa_cons (pv 10) (pa_cons (pv 11) (pa_cons (pv 12) pa_nil)))) (pa_cons (pe_cmpR op_isN (pv 15) pe_non (nomark _)) pa_nil))))) (pss_one (ps_ret pe_bl)) pss_nil))))))
        (pss_cons (ps_par (i := 13) (j := 14) (by rfl) scLaw.nd rfl rfl (by decide) rfl rfl (pa_cons (pe_own C__law_draw hr (pa_cons (pv 1) (pa_cons (pe_op op_add (pe_callB call_len_str (by rfl) T.nlen (by decide +kernel) (pa_cons (pv 11) pa_nil)) pe_int) pa_nil))) (pa_cons (pe_own C__law_draw hr (pa_cons (pv 1) (pa_cons (pe_callB call_len_seq (by rfl) T.nlen (by decide +kernel) (pa_cons (pv 3) pa_nil)) pa_nil))) pa_nil)) (by rfl))
        (pss_cons (ps_set (i := 9) scLaw.nd rfl (Or.inl rfl) (pe_own C_put_in hr (pa_cons (pv 10) (pa_cons (pv 11) (pa_cons (pv 13) (pa_cons (pv 14) pa_nil))))))
        (pss_cons (ps_if (pt_not (pt_val (pe_own C__law_is hr (pa_cons (pv 9) (pa_cons (pe_op op_add_str (pe_op op_add_str (pe_slice sl_str (pv 11) po_none (po_some (pv 13))) (pe_ix ix_tup (pv 3) (pv 14) (fun _ _ => rfl))) (pe_slice sl_str (pv 11) (po_some (pv 13)) po_none)) pa_nil))))) (pss_one (ps_ret pe_bl)) pss_nil)
        (pss_one (ps_if (PW.pt (pw_or (pt_cmpR (show OpR _ (compareOp .NotIn) (rNotInD K) from op_notInD hr.in1.units) (pe_tup (pa_cons (pv 13) (pa_cons (pv 14) pa_nil))) (pe_own C_strikes hr (pa_cons (pv 10) (pa_cons (pv 9) pa_nil))) rfl) (pw_or1 (pt_cmpR op_ne (pe_own C_struck hr (pa_cons (pv 10) (pa_cons (pv 9) (pa_cons (pe_tup (pa_cons (pv 13) (pa_cons (pv 14) pa_nil))) pa_nil)))) (pv 11) (nomark _))))) (pss_one (ps_ret pe_bl)) pss_nil)))))))))))))))))
      (pss_one (ps_ret pe_bl)))), ?_⟩
    refine ⟨.ref a, rfl, a, ns, rfl, hS, by omega, fun H1 h s1 nh hh => ?_⟩
    refine ⟨4, rfl, by decide, by decide, for_range (lo := 0) (n := 4) (fun i σ' H' => Go h H1 H' ∧ ∃ t2 t3 t4 t5 t6 t7 t8 t9 t10 t11 t12 t13 t14 t15 t16 : Option V, σ' = [some (.ref a), some (.ref h), t2, t3, t4, t5, t6, t7, t8, t9, t10, t11, t12, t13, t14, t15, t16]) ⟨Go.refl hh, none, none, none, none, none, none, none, none, none, none, none, none, none, none, none, rfl⟩ ?_ ?_⟩
    · rintro i σ' H2 hi ⟨g2, t2, t3, t4, t5, t6, t7, t8, t9, t10, t11, t12, t13, t14, t15, t16, rfl⟩
      refine ⟨.ref h, rfl, h, rfl, g2.hand, fun p zs H3 g3 np hp gz nd => ?_⟩
      have gz1 := gz.1
      have gz2 := gz.2.1
      have dz := good_due gz nd hp
      refine ⟨.ref p, rfl, mk_book rfl hp (by omega) dz fun bk H4 s4 b4 => ?_⟩
      have g4 := g2.trans (g3.trans (go_same g3.hand s4))
      have hp4 := same_seqT s4 hp
      refine ⟨.ref h, rfl, .ref p, rfl, h, p, zs, rfl, g4.hand, np, hp4, gz, fun z H5 g5 zl lz => ⟨_, _, rfl, ?_⟩⟩
      have g05 := g4.trans g5
      have hp5 := g5.sqT g4.hand hp4
      have b5 := bk_go g4.hand b4 g5
      clear s4 b4 hp4 dz
      dsimp only
      refine seq_if (fun σ' H' => Go h H5 H' ∧ ∃ (y : Str), σ' = [some (.ref a), some (.ref h), some (.int (0 + (i : Int))), some (.ref p), t4, t5, t6, t7, t8, t9, some (.ref bk), some (.str y), t12, t13, t14, t15, t16] ∧ y.length ≤ 1890 ∧ logB y = true) ?_ ?_
      rotate_left
      · intro N hN
        refine ⟨.int (0 + (i : Int)), rfl, rfl, _, rfl, ?_⟩
        refine ite2 (fun _ => ?_) (fun _ => hN _ _ ⟨Go.refl g5.hand, z, rfl, by omega, lz⟩)
        refine ⟨.ref h, rfl, h, 40, rfl, g5.hand, by decide, by decide, fun r H6 _ _ g6 => ⟨rfl, _, rfl, ?_⟩⟩
        refine ite2 (fun _ => ?_) (fun _ => hN _ _ ⟨g6, z, rfl, by omega, lz⟩)
        refine ⟨.str z, rfl, .ref h, rfl, h, .str abc, _, rfl, g6.hand, (fun z => nomatch z), .s (by decide +kernel), (by decide +kernel), fun v H7 hv g7 => ?_⟩
        obtain ⟨c, hc, rfl⟩ := List.mem_map.mp hv
        have cl : (⟨#[c]⟩ : Str).length = 1 := rfl
        have cb : logB (⟨#[c]⟩ : Str) = true := by
          unfold logB
          show ([c].all letB) = true
          rw [List.all_cons, show letB c = true from decide_eq_true hc]
          rfl
        generalize (⟨#[c]⟩ : Str) = cs at cl cb ⊢
        have zl2 : (z ++ cs).length = z.length + 1 := by rw [len_app, cl]
        have lz2 := log_app lz cb
        refine ⟨_, _, rfl, rfl, Nat.le_of_lt (sz_lt (by omega)), z ++ cs, 90, rfl, rfl, by decide, by decide, by omega, by omega, hN _ _ ⟨g6.trans g7, _, rfl, ?_, ?_⟩⟩
        · show ((List.replicate (90 : Int).toNat (z ++ cs).cps).foldl (· ++ ·) #[]).size ≤ 1890
          rw [rep_size]
          have : (z ++ cs).cps.size = (z ++ cs).length := rfl
          rw [this, zl2]
          show 0 + 90 * _ ≤ 1890
          omega
        · unfold logB
          rw [List.all_eq_true]
          intro d hd
          rcases rep_list _ _ _ hd with hd | hd
          · cases hd
          · exact List.all_eq_true.mp lz2 d hd
      rintro σ' H6 ⟨g6, y, rfl, yl, ly⟩
      have g06 := g05.trans g6
      have hp6 := g6.sqT g5.hand hp5
      have b6 := bk_go g5.hand b5 g6
      clear g05 hp5 b5 g4
      have yk : (PyData.str y).canLay0 = true ∧ narrow (.str y) = true := ⟨by rw [PyData.canLay0]; exact log_ok ly, by rw [narrow]; exact decide_eq_true (by show y.length ≤ 50000; omega)⟩
      have dk : (PyData.list ((allS zs y).map prD)).canLay0 = true ∧ narrow (.list ((allS zs y).map prD)) = true ∧ (PyData.list ((allS zs y).map prD)).depth ≤ 2 := by
        refine ⟨by rw [PyData.canLay0]; exact lay_prs _, ?_, ?_⟩
        · have h1 := cnt gz (show y.length ≤ 4000 by omega) (Nat.le_refl _)
          have h3 : (allS zs y).length = (colS zs y y.length).length := rfl
          rw [narrow, narrow_prs, List.length_map, decide_eq_true (by omega)]
          rfl
        · have := depth_prs (allS zs y)
          rw [PyData.depth]
          omega
      refine ⟨.ref p, rfl, .str y, rfl, p, y, zs, rfl, hp6, gz, by omega, fun L ls H7 s7 nL eL dL => ?_⟩
      refine ⟨.ref bk, rfl, .str y, rfl, bk, y, zs, rfl, b6.same s7, gz, by omega, ly, fun M ms H8 s8 nM eM dM => ?_⟩
      refine ⟨.ref M, rfl, .ref L, rfl, .ref M, .ref L, _, rfl, .lst (.inl (.inl eM)) dM, .lst (.inl (.inl (s8 _ _ eL))) (dpAll_same s8 dL), dk.1, dk.2.1, dk.2.2, fun H9 s9 => ⟨_, rfl, ?_⟩⟩
      refine ite2 (fun z => absurd z (by decide)) (fun _ => ?_)
      have eM9 := s9 _ _ eM
      have lm : ms.length < sizeLine := by
        have h1 := cnt gz (show y.length ≤ 4000 by omega) (Nat.le_refl _)
        have h3 : (allS zs y).length = (colS zs y y.length).length := rfl
        have h2 := dpAll_len dM
        rw [List.length_map] at h2
        exact sz_lt (by omega)
      refine ⟨.ref M, rfl, .inl ⟨rfl, _, .inl (.inl eM9)⟩, M, ms, _, rfl, rfl, eM9, lm, ?_⟩
      have s10 : Same H7 (upd H9 M (.lst (ms ++ [.non]))) := fun b o e => by
        rw [upd_ne (ne_of_none e nM)]
        exact s9 _ _ (s8 _ _ e)
      generalize upd H9 M (.lst (ms ++ [.non])) = H10 at s10 ⊢
      clear eM9 s9 s8 dM eM nM lm
      refine ⟨.ref bk, rfl, .str y, rfl, bk, y, zs, rfl, b6.same (s7.trans s10), gz, by omega, ly, fun M2 ms2 H11 s11 nM2 eM2 dM2 => ?_⟩
      have s11 := s10.trans s11
      refine ⟨.ref L, rfl, .ref M2, .ref L, _, rfl, .lst (.inl (.inl eM2)) dM2, .lst (.inl (.inl (s11 _ _ eL))) (dpAll_same s11 dL), dk.1, dk.2.1, dk.2.2, fun H12 s12 => ⟨_, rfl, ?_⟩⟩
      refine ite2 (fun z => absurd z (by decide)) (fun _ => ?_)
      have s12 := s11.trans s12
      have b12 := b6.same (s7.trans s12)
      have hp12 := same_seqT s12 (same_seqT s7 hp6)
      have g12 := g06.trans (go_same g06.hand (s7.trans s12))
      refine ⟨.ref L, rfl, 12, rfl, L, ls, rfl, .inl (.inl (s12 _ _ eL)), fun t nt => ?_⟩
      have s13 : Same H12 (upd H12 t (.lst (cutV ls none (some 12)))) := same_new nt
      have et : SqL K (upd H12 t (.lst (cutV ls none (some 12)))) t (cutV ls none (some 12)) := .inl (.inl upd_same)
      generalize upd H12 t (.lst (cutV ls none (some 12))) = H13 at s13 et ⊢
      refine ⟨t, rfl, ⟨_, et⟩, for_it walk_list (fun j σ' H' => Same H13 H' ∧ ∃ t6 : Option V, σ' = [some (.ref a), some (.ref h), some (.int (0 + (i : Int))), some (.ref p), some (.ref L), some (.ref M), t6, t7, t8, t9, some (.ref bk), some (.str y), t12, t13, t14, t15, t16]) ⟨fun _ _ e => e, t6, rfl⟩ (fun j σ' H' _ pv => same_sqL pv.1 et) ?_ ?_⟩
      · rintro j x σ' H14 H15 hj ⟨s14, t6, rfl⟩ ⟨rfl, hx⟩
        have hx := mem_cutV (List.mem_of_getElem? hx)
        obtain ⟨b, p', n', rfl, hb, ok⟩ := prs_item dL (fun _ e => e) x hx
        have s14' := s13.trans s14
        have hb14 := same_seqT s14' (same_seqT s12 hb)
        have wg := wo_good ok
        have wl : (wo zs y p' n').length ≤ y.length := wg.1
        have wlog : logB (wo zs y p' n') = true := wg.2 ly
        refine ⟨.ref bk, rfl, .str y, rfl, .ref b, rfl, bk, b, y, zs, p', n', rfl, b12.same s14', gz, by omega, ly, hb14, ok, fun H16 s16 => ?_⟩
        refine ⟨.ref p, rfl, .str y, rfl, .ref b, rfl, p, b, y, zs, p', n', rfl, same_seqT s16 (same_seqT s14' hp12), gz, by omega, same_seqT s16 hb14, ok, ?_⟩
        refine ⟨_, _, .str (wo zs y p' n'), rfl, .str _, .str _, by rw [PyData.canLay0]; exact log_ok wlog, by rw [narrow]; exact decide_eq_true (by show (wo zs y p' n').length ≤ 50000; omega), Nat.zero_le _, fun H17 s17 => ⟨_, rfl, ?_⟩⟩
        refine ite2 (fun z => absurd z (by decide)) (fun _ => ?_)
        exact ⟨s14.trans (s16.trans s17), _, rfl⟩
      rintro σ' H14 ⟨s14, t6, rfl⟩
      have s14 := s13.trans s14
      have g14 := g12.trans (go_same g12.hand s14)
      have b14 := b12.same s14
      have hp14 := same_seqT s14 hp12
      clear et s13 s14 g12 b12 hp12 s12 s11 s10 nM2 eM2 dM2 s7 hp6 b6 nt
      refine ⟨.ref h, rfl, .ref p, rfl, .str y, rfl, .ref h, rfl, h, 9, rfl, g14.hand, by decide, by decide, fun r H15 r0 r9 g15 => ?_⟩
      refine ⟨h, p, y, zs, r, rfl, g15.hand, g15.sqT g14.hand hp14, gz, by omega, by omega, r0, fun v H16 g16 pv => ?_⟩
      have pv := ps_mono (show r.toNat ≤ 20 by omega) pv
      have g1516 := g15.trans g16
      have g016 := g14.trans g1516
      have hp16 := g1516.sqT g14.hand hp14
      have b16 := bk_go g14.hand b14 g1516
      clear g15 g16 g1516 b14 hp14
      refine ⟨5, rfl, by decide, by decide, for_range (lo := 0) (n := 5) (fun j σ' H' => Go h H16 H' ∧ ∃ t6 t8 t9 t12 t13 t14 t15 t16 : Option V, σ' = [some (.ref a), some (.ref h), some (.int (0 + (i : Int))), some (.ref p), some (.ref L), some (.ref M), t6, some v, t8, t9, some (.ref bk), some (.str y), t12, t13, t14, t15, t16]) ⟨Go.refl g016.hand, t6, t8, t9, t12, t13, t14, t15, t16, rfl⟩ ?_ ?_⟩
      · rintro j σ' H17 hj ⟨g17, t6, t8, t9, t12, t13, t14, t15, t16, rfl⟩
        dsimp only
        refine seq_if (fun σ' H' => Go h H16 H' ∧ ∃ (u : V), σ' = [some (.ref a), some (.ref h), some (.int (0 + (i : Int))), some (.ref p), some (.ref L), some (.ref M), t6, some v, some (.int (0 + (j : Int))), t9, some (.ref bk), some (.str y), some u, t13, t14, t15, t16] ∧ PX K h H' u) ?_ ?_
        rotate_left
        · intro N hN
          refine ⟨.int (0 + (j : Int)), rfl, _, _, rfl, rfl, _, rfl, ?_⟩
          refine ite2 (fun _ => ?_) (fun _ => ?_)
          · exact ⟨.ref h, rfl, .ref p, rfl, .str y, rfl, v, rfl, h, p, y, zs, v, rfl, g17.hand, np, g17.sqT g016.hand hp16, gz, by omega, st_ps _ _ _ g17 pv, fun u H18 g18 pu => hN _ _ ⟨g17.trans g18, u, rfl, pu⟩⟩
          · exact ⟨v, rfl, hN _ _ ⟨g17, v, rfl, ps_px (by decide) _ _ (st_ps _ _ _ g17 pv)⟩⟩
        rintro σ' H18 ⟨g18, u, rfl, nu, ts, hu⟩
        have th := hu.same cut_same
        have hp18 := g18.sqT g016.hand hp16
        have b18 := bk_go g016.hand b16 g18
        refine ⟨.ref p, rfl, .str y, rfl, u, rfl, p, y, u, zs, ts, rfl, hp18, gz, by omega, th, fun H19 w' s19 hw => ?_⟩
        obtain ⟨rl, rn⟩ := res_good (zs := zs) (ts := ts) ly
        have inv : ∀ H', Same H18 H' → Go h H16 H' := fun H' s => g18.trans (go_same g18.hand s)
        have b19 := b18.same s19
        have th19 := th.same s19
        generalize hy2 : (resT zs y ts).2 = y2 at *
        have lk : PyData.canLay0 (.str y2) = true := by rw [PyData.canLay0]; exact log_ok rl
        have nk : narrow (.str y2) = true := by rw [narrow]; exact decide_eq_true (by show y2.length ≤ 50000; omega)
        rcases res_kind (zs := zs) (z := y) (ts := ts) with e | ⟨k, e⟩
        · rw [e] at hw
          refine ⟨w', _, rfl, hw, rfl, _, _, rfl, _, _, rfl, rfl, ?_⟩
          refine ⟨.ref bk, rfl, .str y, rfl, u, rfl, bk, y, u, zs, ts, rfl, b19, gz, by omega, ly, th19, fun _ H20 a' s20 ha' => ?_, fun z => absurd e z⟩
          refine ⟨.non, rfl, rfl, _, rfl, ?_⟩
          refine ite2 (fun _ => ?_) (fun z => absurd (decide_eq_true rfl) z)
          refine ⟨.str y2, rfl, (by show 2 ≤ sizeLine; decide), fun t nt => ?_⟩
          rw [hy2] at ha'
          have s21 : Same H20 (upd H20 t (.tup [V.str "left", .str y2])) := same_new nt
          refine ⟨.ref a', .ref t, .tuple [.str "left", .str y2], rfl, .tup (same_seqT s21 ha') (.cons (.str _) (.cons (.str _) .nil)), .tup (.inl (.inl upd_same)) (.cons (.str _) (.cons (.str _) .nil)), ?_, ?_, (by show 1 ≤ 2; decide), fun H21 s22 => ⟨_, rfl, ?_⟩⟩
          · rw [PyData.canLay0, PyData.canLayAll0, PyData.canLayAll0, lk]
            decide +kernel
          · have nl : narrow (.str "left") = true := by decide +kernel
            rw [narrow, narrowAll, narrowAll, nk, nl]
            rfl
          refine ite2 (fun z => absurd z (by decide)) (fun _ => ?_)
          have s22 := s20.trans (s21.trans s22)
          refine ⟨.ref bk, rfl, .str y, rfl, u, rfl, bk, y, u, zs, ts, rfl, b19.same s22, gz, by omega, ly, th19.same s22, fun H22 s23 => ?_⟩
          rw [e]
          refine ⟨.non, rfl, rfl, ?_⟩
          refine ⟨_, _, .bool true, rfl, .bl true, .bl true, rfl, rfl, Nat.zero_le _, fun H23 s24 => ⟨_, rfl, ?_⟩⟩
          refine ite2 (fun z => absurd z (by decide)) (fun _ => ?_)
          exact ⟨inv _ (s19.trans (s22.trans (s23.trans s24))), _, _, _, _, _, _, _, _, rfl⟩
        · rw [e] at hw
          refine ⟨w', _, rfl, hw, rfl, _, _, rfl, _, _, rfl, rfl, ?_⟩
          refine ⟨.ref bk, rfl, .str y, rfl, u, rfl, bk, y, u, zs, ts, rfl, b19, gz, by omega, ly, th19, fun z => absurd (e.symm.trans z) (fun w => nomatch w), fun _ H20 s20 => ?_⟩
          rw [e]
          refine ⟨.int k, rfl, rfl, _, rfl, ?_⟩
          refine ite2 (fun z => absurd (of_decide_eq_true z) (fun w => nomatch w)) (fun _ => ?_)
          refine ⟨.int k, rfl, .int k, .int k, .int k, rfl, .int k, .int k, rfl, rfl, Nat.zero_le _, fun H21 s21 => ⟨_, rfl, ?_⟩⟩
          refine ite2 (fun z => absurd z (by decide)) (fun _ => ?_)
          have s22 := s20.trans s21
          refine ⟨.ref bk, rfl, .str y, rfl, u, rfl, bk, y, u, zs, ts, rfl, b19.same s22, gz, by omega, ly, th19.same s22, fun H22 s23 => ?_⟩
          rw [e]
          refine ⟨.int k, rfl, rfl, ?_⟩
          refine ⟨_, _, .bool false, rfl, .bl false, .bl false, rfl, rfl, Nat.zero_le _, fun H23 s24 => ⟨_, rfl, ?_⟩⟩
          refine ite2 (fun z => absurd z (by decide)) (fun _ => ?_)
          exact ⟨inv _ (s19.trans (s22.trans (s23.trans s24))), _, _, _, _, _, _, _, _, rfl⟩
      rintro σ' H17 ⟨g17, t6, t8, t9, t12, t13, t14, t15, t16, rfl⟩
      have hp17 := g17.sqT g016.hand hp16
      have b17 := bk_go g016.hand b16 g17
      have g017 := g016.trans g17
      refine ⟨.ref h, rfl, .str y, rfl, y, rfl, Nat.le_of_lt (sz_lt (by omega)), _, _, rfl, rfl, h, _, rfl, g017.hand, by omega, by omega, fun pl H18 p0 p1 g18 => ?_⟩
      refine ⟨.ref h, rfl, .ref p, rfl, p, _, rfl, .inr (g18.sqT g017.hand hp17), h, _, rfl, g18.hand, by rw [List.length_map]; omega, by rw [List.length_map]; omega, fun nm H19 n0 n1 g19 => ⟨_, _, rfl, ?_⟩⟩
      have g1819 := g18.trans g19
      have hp19 := g1819.sqT g017.hand hp17
      have b19 := bk_go g017.hand b17 g1819
      have g019 := g017.trans g1819
      rw [List.length_map] at n1
      have n00 := n0
      have p00 := p0
      obtain ⟨pl, rfl⟩ := Int.eq_ofNat_of_zero_le p0
      obtain ⟨nm, rfl⟩ := Int.eq_ofNat_of_zero_le n0
      have plz : pl ≤ y.length := by omega
      have nmz : nm < zs.length := by omega
      have ok := pin_ok gz plz nmz
      have back := @pin_back zs y pl nm plz
      have plog := pin_log (z := y) (p := pl) gz nmz ly
      have plen := @pin_len zs y pl nm plz
      have pm := (piece_log (gz.2.2 _ (getD_mem nmz))).2
      refine ⟨.ref bk, rfl, .str y, rfl, .int pl, rfl, .int nm, rfl, bk, y, zs, pl, nm, rfl, b19, gz, by omega, ly, p00, p1, n00, n1, fun H20 s20 => ?_⟩
      have mk : PyData.canLay0 (.str (pin zs y pl nm)) = true := by rw [PyData.canLay0]; exact log_ok plog
      have mn : narrow (.str (pin zs y pl nm)) = true := by rw [narrow]; exact decide_eq_true (by show (pin zs y pl nm).length ≤ 50000; omega)
      have hp20 := same_seqT s20 hp19
      have b20 := b19.same s20
      have c1 := @cut_le y none (some (pl : Int))
      have c2 := @cut_le y (some (pl : Int)) none
      refine ⟨.str (pin zs y pl nm), rfl, .str y, rfl, .int pl, rfl, (pl : Int), rfl, y, rfl, Nat.le_of_lt (sz_lt (by omega)), ?_⟩
      refine ⟨.ref p, rfl, .int nm, rfl, p, _, (nm : Int), _, rfl, rfl, hp20, getD_at n00 n1, ?_⟩
      rw [Int.toNat_natCast]
      refine ⟨_, _, rfl, rfl, Nat.le_of_lt (sz_lt (by omega)), .str y, rfl, .int pl, rfl, (pl : Int), rfl, y, rfl, Nat.le_of_lt (sz_lt (by omega)), _, _, rfl, rfl, ?_, ?_⟩
      · rw [len_app]
        exact Nat.le_of_lt (sz_lt (by omega))
      refine ⟨.str (pin zs y pl nm), .str (pin zs y pl nm), .str (pin zs y pl nm), ?_, .str _, .str _, mk, mn, Nat.zero_le _, fun H21 s21 => ⟨_, rfl, ?_⟩⟩
      · unfold pin
        rw [Int.toNat_natCast]
        rfl
      refine ite2 (fun z => absurd z (by decide)) (fun _ => ?_)
      refine ⟨.int pl, rfl, .int nm, rfl, (by show 2 ≤ sizeLine; decide), fun t nt => ?_⟩
      have s22 : Same H20 (upd H21 t (.tup [V.int pl, .int nm])) := s21.trans (same_new nt)
      have et : SqT K (upd H21 t (.tup [V.int pl, .int nm])) t [.int pl, .int nm] := .inl (.inl upd_same)
      generalize upd H21 t (.tup [V.int pl, .int nm]) = H22 at s22 et ⊢
      refine ⟨.ref bk, rfl, .str (pin zs y pl nm), rfl, bk, pin zs y pl nm, zs, rfl, b20.same s22, gz, by omega, plog, fun M3 ms3 H23 s23 nM3 eM3 dM3 => ?_⟩
      refine ⟨.tuple [.int pl, .int nm], (allS zs (pin zs y pl nm)).map prD, .tup (same_seqT s23 et) (.cons (.int _) (.cons (.int _) .nil)), .lst (.inl (.inl eM3)) dM3, shaped_pr, shaped_prs, _, rfl, ?_⟩
      rw [any_all, ok]
      refine ite2 (fun z => absurd z (by decide)) (fun _ => ?_)
      have s23 := s22.trans s23
      refine ⟨.ref bk, rfl, .str (pin zs y pl nm), rfl, .int pl, rfl, .int nm, rfl, (by show 2 ≤ sizeLine; decide), fun t2 nt2 => ?_⟩
      have s24 : Same H20 (upd H23 t2 (.tup [V.int pl, .int nm])) := s23.trans (same_new nt2)
      refine ⟨bk, t2, pin zs y pl nm, zs, pl, nm, rfl, b20.same s24, gz, by omega, plog, .inl (.inl upd_same), ok, fun H24 s25 => ⟨.str y, rfl, rfl, _, rfl, ?_⟩⟩
      rw [back, decide_eq_true rfl]
      refine ite2 (fun z => absurd z (by decide)) (fun _ => ?_)
      exact ⟨g019.trans (go_same g019.hand (s20.trans (s24.trans s25))), _, _, _, _, _, _, _, _, _, _, _, _, _, _, _, rfl⟩
    · rintro σ' H2 _
      exact q H2
end
end Zq
namespace Zq
open PySem PySem.Spec PyProof.Rows L2
/-! ### the end -/
/-- one look at the written part: Book and its defs -/
def bookB (K : PySem.W.Frag) (CB fI : Addr) : Bool := PySem.W.plainGet K CB Str.empty && (PySem.W.hasDictIn K CB && (PySem.W.plainOver K CB && (decide (PySem.W.findIn K (.ref CB) "__setattr__" = some (some (.builtin "object.__setattr__"))) &&
  (decide (PySem.W.findIn K (.ref CB) "pieces" = some none) && (decide (PySem.W.findIn K (.ref CB) "__class__" = some (some (.builtin "object.__class__"))) && (decide (PySem.W.mroIn K CB (.type "object") = some true) && (PySem.W.makesIn K CB &&
  (PySem.W.isFn K (.ref fI) && PySem.W.keepIn K (.ref CB)))))))))
/-- the errors BadBook, NoStriking -/
def badB (K : PySem.W.Frag) (L CE gI CN gN : Addr) : Bool := txtB K && (bltB K && (errB K L CE && (decide (PySem.W.findIn K (.ref CE) "part" = some none) && (decide (PySem.W.typeIn K (.ref gI) = some (.type "function")) &&
  (errB K L CN && (decide (PySem.W.findIn K (.ref CN) "at" = some none) && (decide (PySem.W.typeIn K (.ref gN) = some (.type "function")) && (decide (PySem.W.exmOne K (.ref CN) (.ref CN) = some true) && xfB K CN))))))))
theorem all_mk {l : PySem.W.OpenLaw} {w : World} {K : PySem.W.Frag} {h : Heap} {mg : Str → Option Value} {fa L CE CB CN g0 g1 g2 f0 f1 f2 f3 f4 f5 f6 f7 f8 f9 f10 f11 f12 f13 f14 f15 f16 f17 f18 f19 f20 f21 f22 f23 f24 f25 f26 f27 f28 : Addr} {k0 k1 k2 : Tok} (X : K.In h) (G : h.Ns mainGlobals mg) (hfa : mg "law" = some (.ref fa))
    {odi0 ani0 odi1 ani1 odi2 ani2 od0 an0 od1 an1 od2 an2 od3 an3 od4 an4 od5 an5 od6 an6 od7 an7 od8 an8 od9 an9 od10 an10 od11 an11 od12 an12 od13 an13 od14 an14 od15 an15 od16 an16 od17 an17 od18 an18 od19 an19 od20 an20 od21 an21 od22 an22 od23 an23 od24 an24 od25 an25 od26 an26 od27 an27 od28 an28 : Option Addr} {sli0 sli1 sli2 sl0 sl1 sl2 sl3 sl4 sl5 sl6 sl7 sl8 sl9 sl10 sl11 sl12 sl13 sl14 sl15 sl16 sl17 sl18 sl19 sl20 sl21 sl22 sl23 sl24 sl25 sl26 sl27 sl28 : Array (Option Value)} {oi0 kVi0 dci0 pmi0 cdi0 cti0 oi1 kVi1 dci1 pmi1 cdi1 cti1 oi2 kVi2 dci2 pmi2 cdi2 cti2 oc0 kV0 dc0 pm0 cd0 ct0 oc1 kV1 dc1 pm1 cd1 ct1 oc2 kV2 dc2 pm2 cd2 ct2 oc3 kV3 dc3 pm3 cd3 ct3 oc4 kV4 dc4 pm4 cd4 ct4 oc5 kV5 dc5 pm5 cd5 ct5 oc6 kV6 dc6 pm6 cd6 ct6 oc7 kV7 dc7 pm7 cd7 ct7 oc8 kV8 dc8 pm8 cd8 ct8 oc9 kV9 dc9 pm9 cd9 ct9 oc10 kV10 dc10 pm10 cd10 ct10 oc11 kV11 dc11 pm11 cd11 ct11 oc12 kV12 dc12 pm12 cd12 ct12 oc13 kV13 dc13 pm13 cd13 ct13 oc14 kV14 dc14 pm14 cd14 ct14 oc15 kV15 dc15 pm15 cd15 ct15 oc16 kV16 dc16 pm16 cd16 ct16 oc17 kV17 dc17 pm17 cd17 ct17 oc18 kV18 dc18 pm18 cd18 ct18 oc19 kV19 dc19 pm19 cd19 ct19 oc20 kV20 dc20 pm20 cd20 ct20 oc21 kV21 dc21 pm21 cd21 ct21 oc22 kV22 dc22 pm22 cd22 ct22 oc23 kV23 dc23 pm23 cd23 ct23 oc24 kV24 dc24 pm24 cd24 ct24 oc25 kV25 dc25 pm25 cd25 ct25 oc26 kV26 dc26 pm26 cd26 ct26 oc27 kV27 dc27 pm27 cd27 ct27 oc28 kV28 dc28 pm28 cd28 ct28 : Value}
    (aL : PySem.W.nsIn K mainGlobals "LogError" = some (some (.ref L)))
    (aE : PySem.W.nsIn K mainGlobals "BadBook" = some (some (.ref CE)))
    (aB : PySem.W.nsIn K mainGlobals "Book" = some (some (.ref CB)))
    (aN : PySem.W.nsIn K mainGlobals "NoStriking" = some (some (.ref CN)))
    (u0 : PySem.W.nsIn K mainGlobals "LETTERS" = some (some (.str abc k0)))
    (u1 : PySem.W.nsIn K mainGlobals "MOST_PIECES" = some (some (.int 12 k1)))
    (u2 : PySem.W.nsIn K mainGlobals "LONGEST_PIECE" = some (some (.int 8 k2)))
    (bi0 : PySem.W.findIn K (.ref CE) "__init__" = some (some (.ref g0))) (bl0 : K.lookup g0 = some ⟨oi0, odi0, .func (PySem.W.fnOf "__init__" "BadBook.__init__" (defArgs sI_BadBook) (defBody sI_BadBook) (defScope sI_BadBook) .none kVi0 dci0 pmi0 ani0 cdi0 cti0), sli0⟩) (bc0 : PySem.W.codeIn K cdi0 "BadBook.__init__" = true) (bk0 : PySem.W.keepIn K (.ref g0) = true)
    (bi1 : PySem.W.findIn K (.ref CB) "__init__" = some (some (.ref g1))) (bl1 : K.lookup g1 = some ⟨oi1, odi1, .func (PySem.W.fnOf "__init__" "Book.__init__" (defArgs sBki) (defBody sBki) (defScope sBki) .none kVi1 dci1 pmi1 ani1 cdi1 cti1), sli1⟩) (bc1 : PySem.W.codeIn K cdi1 "Book.__init__" = true) (bk1 : PySem.W.keepIn K (.ref g1) = true)
    (bi2 : PySem.W.findIn K (.ref CN) "__init__" = some (some (.ref g2))) (bl2 : K.lookup g2 = some ⟨oi2, odi2, .func (PySem.W.fnOf "__init__" "NoStriking.__init__" (defArgs sI_NoStriking) (defBody sI_NoStriking) (defScope sI_NoStriking) .none kVi2 dci2 pmi2 ani2 cdi2 cti2), sli2⟩) (bc2 : PySem.W.codeIn K cdi2 "NoStriking.__init__" = true) (bk2 : PySem.W.keepIn K (.ref g2) = true)
    (da0 : PySem.W.nsIn K mainGlobals "_law_hand" = some (some (.ref f0))) (dl0 : K.lookup f0 = some ⟨oc0, od0, .func (PySem.W.fnOf "_law_hand" "_law_hand" (defArgs sHand) (defBody sHand) (defScope sHand) .none kV0 dc0 pm0 an0 cd0 ct0), sl0⟩) (dc_0 : PySem.W.codeIn K cd0 "_law_hand" = true) (dk0 : PySem.W.keepIn K (.ref f0) = true)
    (da1 : PySem.W.nsIn K mainGlobals "_law_draw" = some (some (.ref f1))) (dl1 : K.lookup f1 = some ⟨oc1, od1, .func (PySem.W.fnOf "_law_draw" "_law_draw" (defArgs sDraw) (defBody sDraw) (defScope sDraw) .none kV1 dc1 pm1 an1 cd1 ct1), sl1⟩) (dc_1 : PySem.W.codeIn K cd1 "_law_draw" = true) (dk1 : PySem.W.keepIn K (.ref f1) = true)
    (da2 : PySem.W.nsIn K mainGlobals "_law_any" = some (some (.ref f2))) (dl2 : K.lookup f2 = some ⟨oc2, od2, .func (PySem.W.fnOf "_law_any" "_law_any" (defArgs sAny) (defBody sAny) (defScope sAny) .none kV2 dc2 pm2 an2 cd2 ct2), sl2⟩) (dc_2 : PySem.W.codeIn K cd2 "_law_any" = true) (dk2 : PySem.W.keepIn K (.ref f2) = true)
    (da3 : PySem.W.nsIn K mainGlobals "_law_is" = some (some (.ref f3))) (dl3 : K.lookup f3 = some ⟨oc3, od3, .func (PySem.W.fnOf "_law_is" "_law_is" (defArgs sIs) (defBody sIs) (defScope sIs) .none kV3 dc3 pm3 an3 cd3 ct3), sl3⟩) (dc_3 : PySem.W.codeIn K cd3 "_law_is" = true) (dk3 : PySem.W.keepIn K (.ref f3) = true)
    (da4 : PySem.W.nsIn K mainGlobals "_law_nested" = some (some (.ref f4))) (dl4 : K.lookup f4 = some ⟨oc4, od4, .func (PySem.W.fnOf "_law_nested" "_law_nested" (defArgs sNested) (defBody sNested) (defScope sNested) .none kV4 dc4 pm4 an4 cd4 ct4), sl4⟩) (dc_4 : PySem.W.codeIn K cd4 "_law_nested" = true) (dk4 : PySem.W.keepIn K (.ref f4) = true)
    (da5 : PySem.W.nsIn K mainGlobals "_law_odd" = some (some (.ref f5))) (dl5 : K.lookup f5 = some ⟨oc5, od5, .func (PySem.W.fnOf "_law_odd" "_law_odd" (defArgs sOdd) (defBody sOdd) (defScope sOdd) .none kV5 dc5 pm5 an5 cd5 ct5), sl5⟩) (dc_5 : PySem.W.codeIn K cd5 "_law_odd" = true) (dk5 : PySem.W.keepIn K (.ref f5) = true)
    (da6 : PySem.W.nsIn K mainGlobals "_law_int" = some (some (.ref f6))) (dl6 : K.lookup f6 = some ⟨oc6, od6, .func (PySem.W.fnOf "_law_int" "_law_int" (defArgs sLint) (defBody sLint) (defScope sLint) .none kV6 dc6 pm6 an6 cd6 ct6), sl6⟩) (dc_6 : PySem.W.codeIn K cd6 "_law_int" = true) (dk6 : PySem.W.keepIn K (.ref f6) = true)
    (da7 : PySem.W.nsIn K mainGlobals "_law_pieces" = some (some (.ref f7))) (dl7 : K.lookup f7 = some ⟨oc7, od7, .func (PySem.W.fnOf "_law_pieces" "_law_pieces" (defArgs sPieces) (defBody sPieces) (defScope sPieces) .none kV7 dc7 pm7 an7 cd7 ct7), sl7⟩) (dc_7 : PySem.W.codeIn K cd7 "_law_pieces" = true) (dk7 : PySem.W.keepIn K (.ref f7) = true)
    (da8 : PySem.W.nsIn K mainGlobals "_law_strikes" = some (some (.ref f8))) (dl8 : K.lookup f8 = some ⟨oc8, od8, .func (PySem.W.fnOf "_law_strikes" "_law_strikes" (defArgs sLstk) (defBody sLstk) (defScope sLstk) .none kV8 dc8 pm8 an8 cd8 ct8), sl8⟩) (dc_8 : PySem.W.codeIn K cd8 "_law_strikes" = true) (dk8 : PySem.W.keepIn K (.ref f8) = true)
    (da9 : PySem.W.nsIn K mainGlobals "_law_struck" = some (some (.ref f9))) (dl9 : K.lookup f9 = some ⟨oc9, od9, .func (PySem.W.fnOf "_law_struck" "_law_struck" (defArgs sLwo) (defBody sLwo) (defScope sLwo) .none kV9 dc9 pm9 an9 cd9 ct9), sl9⟩) (dc_9 : PySem.W.codeIn K cd9 "_law_struck" = true) (dk9 : PySem.W.keepIn K (.ref f9) = true)
    (da10 : PySem.W.nsIn K mainGlobals "_law_first_wrong" = some (some (.ref f10))) (dl10 : K.lookup f10 = some ⟨oc10, od10, .func (PySem.W.fnOf "_law_first_wrong" "_law_first_wrong" (defArgs sWrong) (defBody sWrong) (defScope sWrong) .none kV10 dc10 pm10 an10 cd10 ct10), sl10⟩) (dc_10 : PySem.W.codeIn K cd10 "_law_first_wrong" = true) (dk10 : PySem.W.keepIn K (.ref f10) = true)
    (da11 : PySem.W.nsIn K mainGlobals "_law_some_striking" = some (some (.ref f11))) (dl11 : K.lookup f11 = some ⟨oc11, od11, .func (PySem.W.fnOf "_law_some_striking" "_law_some_striking" (defArgs sSome) (defBody sSome) (defScope sSome) .none kV11 dc11 pm11 an11 cd11 ct11), sl11⟩) (dc_11 : PySem.W.codeIn K cd11 "_law_some_striking" = true) (dk11 : PySem.W.keepIn K (.ref f11) = true)
    (da12 : PySem.W.nsIn K mainGlobals "_law_idle_log" = some (some (.ref f12))) (dl12 : K.lookup f12 = some ⟨oc12, od12, .func (PySem.W.fnOf "_law_idle_log" "_law_idle_log" (defArgs sIdle) (defBody sIdle) (defScope sIdle) .none kV12 dc12 pm12 an12 cd12 ct12), sl12⟩) (dc_12 : PySem.W.codeIn K cd12 "_law_idle_log" = true) (dk12 : PySem.W.keepIn K (.ref f12) = true)
    (da13 : PySem.W.nsIn K mainGlobals "_law_log" = some (some (.ref f13))) (dl13 : K.lookup f13 = some ⟨oc13, od13, .func (PySem.W.fnOf "_law_log" "_law_log" (defArgs sLog2) (defBody sLog2) (defScope sLog2) .none kV13 dc13 pm13 an13 cd13 ct13), sl13⟩) (dc_13 : PySem.W.codeIn K cd13 "_law_log" = true) (dk13 : PySem.W.keepIn K (.ref f13) = true)
    (da14 : PySem.W.nsIn K mainGlobals "_law_bent_striking" = some (some (.ref f14))) (dl14 : K.lookup f14 = some ⟨oc14, od14, .func (PySem.W.fnOf "_law_bent_striking" "_law_bent_striking" (defArgs sBents) (defBody sBents) (defScope sBents) .none kV14 dc14 pm14 an14 cd14 ct14), sl14⟩) (dc_14 : PySem.W.codeIn K cd14 "_law_bent_striking" = true) (dk14 : PySem.W.keepIn K (.ref f14) = true)
    (da15 : PySem.W.nsIn K mainGlobals "_law_striking_told" = some (some (.ref f15))) (dl15 : K.lookup f15 = some ⟨oc15, od15, .func (PySem.W.fnOf "_law_striking_told" "_law_striking_told" (defArgs sStold) (defBody sStold) (defScope sStold) .none kV15 dc15 pm15 an15 cd15 ct15), sl15⟩) (dc_15 : PySem.W.codeIn K cd15 "_law_striking_told" = true) (dk15 : PySem.W.keepIn K (.ref f15) = true)
    (da16 : PySem.W.nsIn K mainGlobals "is_integer" = some (some (.ref f16))) (dl16 : K.lookup f16 = some ⟨oc16, od16, .func (PySem.W.fnOf "is_integer" "is_integer" (defArgs sInt0) (defBody sInt0) (defScope sInt0) .none kV16 dc16 pm16 an16 cd16 ct16), sl16⟩) (dc_16 : PySem.W.codeIn K cd16 "is_integer" = true) (dk16 : PySem.W.keepIn K (.ref f16) = true)
    (da17 : PySem.W.nsIn K mainGlobals "is_index" = some (some (.ref f17))) (dl17 : K.lookup f17 = some ⟨oc17, od17, .func (PySem.W.fnOf "is_index" "is_index" (defArgs sIndex) (defBody sIndex) (defScope sIndex) .none kV17 dc17 pm17 an17 cd17 ct17), sl17⟩) (dc_17 : PySem.W.codeIn K cd17 "is_index" = true) (dk17 : PySem.W.keepIn K (.ref f17) = true)
    (da18 : PySem.W.nsIn K mainGlobals "is_log" = some (some (.ref f18))) (dl18 : K.lookup f18 = some ⟨oc18, od18, .func (PySem.W.fnOf "is_log" "is_log" (defArgs sLog) (defBody sLog) (defScope sLog) .none kV18 dc18 pm18 an18 cd18 ct18), sl18⟩) (dc_18 : PySem.W.codeIn K cd18 "is_log" = true) (dk18 : PySem.W.keepIn K (.ref f18) = true)
    (da19 : PySem.W.nsIn K mainGlobals "need_log" = some (some (.ref f19))) (dl19 : K.lookup f19 = some ⟨oc19, od19, .func (PySem.W.fnOf "need_log" "need_log" (defArgs sNeed) (defBody sNeed) (defScope sNeed) .none kV19 dc19 pm19 an19 cd19 ct19), sl19⟩) (dc_19 : PySem.W.codeIn K cd19 "need_log" = true) (dk19 : PySem.W.keepIn K (.ref f19) = true)
    (da20 : PySem.W.nsIn K mainGlobals "strikes" = some (some (.ref f20))) (dl20 : K.lookup f20 = some ⟨oc20, od20, .func (PySem.W.fnOf "strikes" "strikes" (defArgs sStk) (defBody sStk) (defScope sStk) .none kV20 dc20 pm20 an20 cd20 ct20), sl20⟩) (dc_20 : PySem.W.codeIn K cd20 "strikes" = true) (dk20 : PySem.W.keepIn K (.ref f20) = true)
    (da21 : PySem.W.nsIn K mainGlobals "struck" = some (some (.ref f21))) (dl21 : K.lookup f21 = some ⟨oc21, od21, .func (PySem.W.fnOf "struck" "struck" (defArgs sStruck) (defBody sStruck) (defScope sStruck) .none kV21 dc21 pm21 an21 cd21 ct21), sl21⟩) (dc_21 : PySem.W.codeIn K cd21 "struck" = true) (dk21 : PySem.W.keepIn K (.ref f21) = true)
    (da22 : PySem.W.nsIn K mainGlobals "left_by" = some (some (.ref f22))) (dl22 : K.lookup f22 = some ⟨oc22, od22, .func (PySem.W.fnOf "left_by" "left_by" (defArgs sLeft) (defBody sLeft) (defScope sLeft) .none kV22 dc22 pm22 an22 cd22 ct22), sl22⟩) (dc_22 : PySem.W.codeIn K cd22 "left_by" = true) (dk22 : PySem.W.keepIn K (.ref f22) = true)
    (da23 : PySem.W.nsIn K mainGlobals "is_striking" = some (some (.ref f23))) (dl23 : K.lookup f23 = some ⟨oc23, od23, .func (PySem.W.fnOf "is_striking" "is_striking" (defArgs sIsstr) (defBody sIsstr) (defScope sIsstr) .none kV23 dc23 pm23 an23 cd23 ct23), sl23⟩) (dc_23 : PySem.W.codeIn K cd23 "is_striking" = true) (dk23 : PySem.W.keepIn K (.ref f23) = true)
    (da24 : PySem.W.nsIn K mainGlobals "put_in" = some (some (.ref f24))) (dl24 : K.lookup f24 = some ⟨oc24, od24, .func (PySem.W.fnOf "put_in" "put_in" (defArgs sPut) (defBody sPut) (defScope sPut) .none kV24 dc24 pm24 an24 cd24 ct24), sl24⟩) (dc_24 : PySem.W.codeIn K cd24 "put_in" = true) (dk24 : PySem.W.keepIn K (.ref f24) = true)
    (da25 : PySem.W.nsIn K mainGlobals "_is_strike" = some (some (.ref f25))) (dl25 : K.lookup f25 = some ⟨oc25, od25, .func (PySem.W.fnOf "_is_strike" "_is_strike" (defArgs sIss) (defBody sIss) (defScope sIss) .none kV25 dc25 pm25 an25 cd25 ct25), sl25⟩) (dc_25 : PySem.W.codeIn K cd25 "_is_strike" = true) (dk25 : PySem.W.keepIn K (.ref f25) = true)
    (da26 : PySem.W.nsIn K mainGlobals "_without" = some (some (.ref f26))) (dl26 : K.lookup f26 = some ⟨oc26, od26, .func (PySem.W.fnOf "_without" "_without" (defArgs sWo) (defBody sWo) (defScope sWo) .none kV26 dc26 pm26 an26 cd26 ct26), sl26⟩) (dc_26 : PySem.W.codeIn K cd26 "_without" = true) (dk26 : PySem.W.keepIn K (.ref f26) = true)
    (da27 : PySem.W.nsIn K mainGlobals "_is_piece" = some (some (.ref f27))) (dl27 : K.lookup f27 = some ⟨oc27, od27, .func (PySem.W.fnOf "_is_piece" "_is_piece" (defArgs sIspc) (defBody sIspc) (defScope sIspc) .none kV27 dc27 pm27 an27 cd27 ct27), sl27⟩) (dc_27 : PySem.W.codeIn K cd27 "_is_piece" = true) (dk27 : PySem.W.keepIn K (.ref f27) = true)
    (da28 : PySem.W.nsIn K mainGlobals "law" = some (some (.ref f28))) (dl28 : K.lookup f28 = some ⟨oc28, od28, .func (PySem.W.fnOf "law" "law" (defArgs sLaw) (defBody sLaw) (defScope sLaw) .none kV28 dc28 pm28 an28 cd28 ct28), sl28⟩) (dc_28 : PySem.W.codeIn K cd28 "law" = true) (dk28 : PySem.W.keepIn K (.ref f28) = true)
    (chk : (badB K L CE g0 CN g2 && bookB K CB g1) = true) :
    ∃ fd : FuncData, (∀ (s : Shared) (v : Value), BindsTo s fd ⟨[v], []⟩ [("_law_script", v)]) ∧ ∀ base : Heap, K.In base → base.Ns mainGlobals mg → FnOk l.prog w K mg base CX0 6 fa fd ["_law_script"] (spLaw K) := by
  have e := hfa.symm.trans (PySem.W.mg_of X G da28)
  cases e
  obtain ⟨c1, c2⟩ := Bool.and_eq_true_iff.mp chk
  obtain ⟨t, c1⟩ := Bool.and_eq_true_iff.mp c1
  obtain ⟨b, c1⟩ := Bool.and_eq_true_iff.mp c1
  obtain ⟨eE, c1⟩ := Bool.and_eq_true_iff.mp c1
  obtain ⟨eF, c1⟩ := Bool.and_eq_true_iff.mp c1
  obtain ⟨eG, c1⟩ := Bool.and_eq_true_iff.mp c1
  obtain ⟨nE, c1⟩ := Bool.and_eq_true_iff.mp c1
  obtain ⟨nF, c1⟩ := Bool.and_eq_true_iff.mp c1
  obtain ⟨nG, c1⟩ := Bool.and_eq_true_iff.mp c1
  obtain ⟨nX, nY⟩ := Bool.and_eq_true_iff.mp c1
  obtain ⟨b1, c2⟩ := Bool.and_eq_true_iff.mp c2
  obtain ⟨b2, c2⟩ := Bool.and_eq_true_iff.mp c2
  obtain ⟨b3, c2⟩ := Bool.and_eq_true_iff.mp c2
  obtain ⟨b4, c2⟩ := Bool.and_eq_true_iff.mp c2
  obtain ⟨b5, c2⟩ := Bool.and_eq_true_iff.mp c2
  obtain ⟨b6, c2⟩ := Bool.and_eq_true_iff.mp c2
  obtain ⟨b7, c2⟩ := Bool.and_eq_true_iff.mp c2
  obtain ⟨b8, c2⟩ := Bool.and_eq_true_iff.mp c2
  obtain ⟨b9, b11⟩ := Bool.and_eq_true_iff.mp c2
  obtain ⟨bt1, bt2⟩ := Bool.and_eq_true_iff.mp b
  have T : Txt mg := txt_of X G t
  have GG : Glo mg := ⟨⟨_, PySem.W.mg_of X G u0, ⟨_, rfl⟩⟩, ⟨_, PySem.W.mg_of X G u1, ⟨_, rfl⟩⟩, ⟨_, PySem.W.mg_of X G u2, ⟨_, rfl⟩⟩⟩
  have BK : BookC K mg CB := ⟨PySem.W.mg_of X G aB, ⟨b1, b2, b3, of_decide_eq_true b4⟩, (show PySem.W.findIn K (.ref CB) "pieces" = some none from of_decide_eq_true b5), of_decide_eq_true b6, of_decide_eq_true bt1, of_decide_eq_true bt2, of_decide_eq_true b7⟩
  have I0 := fun_mk (st := sI_BadBook) bl0 bc0 bk0
  have I1 := fun_mk (st := sBki) bl1 bc1 bk1
  have I2 := fun_mk (st := sI_NoStriking) bl2 bc2 bk2
  have F0 := fun_mk (st := sHand) dl0 dc_0 dk0
  have F1 := fun_mk (st := sDraw) dl1 dc_1 dk1
  have F2 := fun_mk (st := sAny) dl2 dc_2 dk2
  have F3 := fun_mk (st := sIs) dl3 dc_3 dk3
  have F4 := fun_mk (st := sNested) dl4 dc_4 dk4
  have F5 := fun_mk (st := sOdd) dl5 dc_5 dk5
  have F6 := fun_mk (st := sLint) dl6 dc_6 dk6
  have F7 := fun_mk (st := sPieces) dl7 dc_7 dk7
  have F8 := fun_mk (st := sLstk) dl8 dc_8 dk8
  have F9 := fun_mk (st := sLwo) dl9 dc_9 dk9
  have F10 := fun_mk (st := sWrong) dl10 dc_10 dk10
  have F11 := fun_mk (st := sSome) dl11 dc_11 dk11
  have F12 := fun_mk (st := sIdle) dl12 dc_12 dk12
  have F13 := fun_mk (st := sLog2) dl13 dc_13 dk13
  have F14 := fun_mk (st := sBents) dl14 dc_14 dk14
  have F15 := fun_mk (st := sStold) dl15 dc_15 dk15
  have F16 := fun_mk (st := sInt0) dl16 dc_16 dk16
  have F17 := fun_mk (st := sIndex) dl17 dc_17 dk17
  have F18 := fun_mk (st := sLog) dl18 dc_18 dk18
  have F19 := fun_mk (st := sNeed) dl19 dc_19 dk19
  have F20 := fun_mk (st := sStk) dl20 dc_20 dk20
  have F21 := fun_mk (st := sStruck) dl21 dc_21 dk21
  have F22 := fun_mk (st := sLeft) dl22 dc_22 dk22
  have F23 := fun_mk (st := sIsstr) dl23 dc_23 dk23
  have F24 := fun_mk (st := sPut) dl24 dc_24 dk24
  have F25 := fun_mk (st := sIss) dl25 dc_25 dk25
  have F26 := fun_mk (st := sWo) dl26 dc_26 dk26
  have F27 := fun_mk (st := sIspc) dl27 dc_27 dk27
  have F28 := fun_mk (st := sLaw) dl28 dc_28 dk28
  have Ib0 := I0.binds (ps := ["self", "part"]) fun _ _ _ _ _ _ us hl => match us, hl with | [_, _], _ => rfl
  have Ib1 := I1.binds (ps := ["self", "pieces"]) fun _ _ _ _ _ _ us hl => match us, hl with | [_, _], _ => rfl
  have Ib2 := I2.binds (ps := ["self", "at"]) fun _ _ _ _ _ _ us hl => match us, hl with | [_, _], _ => rfl
  have R0 : Raw K mg "_law_hand" ["_law_script"] f0 _ := ⟨PySem.W.mg_of X G da0, dk0, F0.binds fun _ _ _ _ _ _ us hl => match us, hl with | [_], _ => rfl⟩
  have R1 : Raw K mg "_law_draw" ["_law_hand_here", "_law_many"] f1 _ := ⟨PySem.W.mg_of X G da1, dk1, F1.binds fun _ _ _ _ _ _ us hl => match us, hl with | [_, _], _ => rfl⟩
  have R2 : Raw K mg "_law_any" ["_law_hand_here", "_law_items"] f2 _ := ⟨PySem.W.mg_of X G da2, dk2, F2.binds fun _ _ _ _ _ _ us hl => match us, hl with | [_, _], _ => rfl⟩
  have R3 : Raw K mg "_law_is" ["_law_told", "_law_due"] f3 _ := ⟨PySem.W.mg_of X G da3, dk3, F3.binds fun _ _ _ _ _ _ us hl => match us, hl with | [_, _], _ => rfl⟩
  have R4 : Raw K mg "_law_nested" ["_law_hand_here"] f4 _ := ⟨PySem.W.mg_of X G da4, dk4, F4.binds fun _ _ _ _ _ _ us hl => match us, hl with | [_], _ => rfl⟩
  have R5 : Raw K mg "_law_odd" ["_law_hand_here"] f5 _ := ⟨PySem.W.mg_of X G da5, dk5, F5.binds fun _ _ _ _ _ _ us hl => match us, hl with | [_], _ => rfl⟩
  have R6 : Raw K mg "_law_int" ["_law_thing", "_law_low", "_law_high"] f6 _ := ⟨PySem.W.mg_of X G da6, dk6, F6.binds fun _ _ _ _ _ _ us hl => match us, hl with | [_, _, _], _ => rfl⟩
  have R7 : Raw K mg "_law_pieces" ["_law_hand_here"] f7 _ := ⟨PySem.W.mg_of X G da7, dk7, F7.binds fun _ _ _ _ _ _ us hl => match us, hl with | [_], _ => rfl⟩
  have R8 : Raw K mg "_law_strikes" ["_law_pieces_here", "_law_log_here"] f8 _ := ⟨PySem.W.mg_of X G da8, dk8, F8.binds fun _ _ _ _ _ _ us hl => match us, hl with | [_, _], _ => rfl⟩
  have R9 : Raw K mg "_law_struck" ["_law_pieces_here", "_law_log_here", "_law_strike"] f9 _ := ⟨PySem.W.mg_of X G da9, dk9, F9.binds fun _ _ _ _ _ _ us hl => match us, hl with | [_, _, _], _ => rfl⟩
  have R10 : Raw K mg "_law_first_wrong" ["_law_pieces_here", "_law_log_here", "_law_thing"] f10 _ := ⟨PySem.W.mg_of X G da10, dk10, F10.binds fun _ _ _ _ _ _ us hl => match us, hl with | [_, _, _], _ => rfl⟩
  have R11 : Raw K mg "_law_some_striking" ["_law_hand_here", "_law_pieces_here", "_law_log_here", "_law_most"] f11 _ := ⟨PySem.W.mg_of X G da11, dk11, F11.binds fun _ _ _ _ _ _ us hl => match us, hl with | [_, _, _, _], _ => rfl⟩
  have R12 : Raw K mg "_law_idle_log" ["_law_hand_here", "_law_pieces_here", "_law_most"] f12 _ := ⟨PySem.W.mg_of X G da12, dk12, F12.binds fun _ _ _ _ _ _ us hl => match us, hl with | [_, _, _], _ => rfl⟩
  have R13 : Raw K mg "_law_log" ["_law_hand_here", "_law_pieces_here", "_law_most"] f13 _ := ⟨PySem.W.mg_of X G da13, dk13, F13.binds fun _ _ _ _ _ _ us hl => match us, hl with | [_, _, _], _ => rfl⟩
  have R14 : Raw K mg "_law_bent_striking" ["_law_hand_here", "_law_pieces_here", "_law_log_here", "_law_striking"] f14 _ := ⟨PySem.W.mg_of X G da14, dk14, F14.binds fun _ _ _ _ _ _ us hl => match us, hl with | [_, _, _, _], _ => rfl⟩
  have R15 : Raw K mg "_law_striking_told" ["_law_book", "_law_log_here", "_law_thing"] f15 _ := ⟨PySem.W.mg_of X G da15, dk15, F15.binds fun _ _ _ _ _ _ us hl => match us, hl with | [_, _, _], _ => rfl⟩
  have R16 : Raw K mg "is_integer" ["thing"] f16 _ := ⟨PySem.W.mg_of X G da16, dk16, F16.binds fun _ _ _ _ _ _ us hl => match us, hl with | [_], _ => rfl⟩
  have R17 : Raw K mg "is_index" ["many", "thing"] f17 _ := ⟨PySem.W.mg_of X G da17, dk17, F17.binds fun _ _ _ _ _ _ us hl => match us, hl with | [_, _], _ => rfl⟩
  have R18 : Raw K mg "is_log" ["thing"] f18 _ := ⟨PySem.W.mg_of X G da18, dk18, F18.binds fun _ _ _ _ _ _ us hl => match us, hl with | [_], _ => rfl⟩
  have R19 : Raw K mg "need_log" ["thing"] f19 _ := ⟨PySem.W.mg_of X G da19, dk19, F19.binds fun _ _ _ _ _ _ us hl => match us, hl with | [_], _ => rfl⟩
  have R20 : Raw K mg "strikes" ["book", "log"] f20 _ := ⟨PySem.W.mg_of X G da20, dk20, F20.binds fun _ _ _ _ _ _ us hl => match us, hl with | [_, _], _ => rfl⟩
  have R21 : Raw K mg "struck" ["book", "log", "strike"] f21 _ := ⟨PySem.W.mg_of X G da21, dk21, F21.binds fun _ _ _ _ _ _ us hl => match us, hl with | [_, _, _], _ => rfl⟩
  have R22 : Raw K mg "left_by" ["book", "log", "striking"] f22 _ := ⟨PySem.W.mg_of X G da22, dk22, F22.binds fun _ _ _ _ _ _ us hl => match us, hl with | [_, _, _], _ => rfl⟩
  have R23 : Raw K mg "is_striking" ["book", "log", "thing"] f23 _ := ⟨PySem.W.mg_of X G da23, dk23, F23.binds fun _ _ _ _ _ _ us hl => match us, hl with | [_, _, _], _ => rfl⟩
  have R24 : Raw K mg "put_in" ["book", "log", "place", "number"] f24 _ := ⟨PySem.W.mg_of X G da24, dk24, F24.binds fun _ _ _ _ _ _ us hl => match us, hl with | [_, _, _, _], _ => rfl⟩
  have R25 : Raw K mg "_is_strike" ["book", "log", "thing"] f25 _ := ⟨PySem.W.mg_of X G da25, dk25, F25.binds fun _ _ _ _ _ _ us hl => match us, hl with | [_, _, _], _ => rfl⟩
  have R26 : Raw K mg "_without" ["book", "log", "strike"] f26 _ := ⟨PySem.W.mg_of X G da26, dk26, F26.binds fun _ _ _ _ _ _ us hl => match us, hl with | [_, _, _], _ => rfl⟩
  have R27 : Raw K mg "_is_piece" ["thing"] f27 _ := ⟨PySem.W.mg_of X G da27, dk27, F27.binds fun _ _ _ _ _ _ us hl => match us, hl with | [_], _ => rfl⟩
  refine ⟨PySem.W.fnOf "law" "law" (defArgs sLaw) (defBody sLaw) (defScope sLaw) .none kV28 dc28 pm28 an28 cd28 ct28, fun s v => .of_eq rfl, fun base _ _ => ?_⟩
  have ME : MkE l.prog w K mg base 1 "BadBook" CE ["self", "part"] (spIni K "part") := ⟨PySem.W.mg_of X G aE, (errB_ok eE b).1, ⟨g0, _, bi0, of_decide_eq_true eG, ok_i_BadBook I0, Ib0⟩⟩
  have o_log := R18.own (P := l.prog) (w := w) (base := base) (ok_log F18 T GG)
  have o_pc := R27.own (ok_ispc F27 T GG o_log)
  have MB : MkB l.prog w K mg base CB CE := ⟨⟨g1, _, ⟨b8, bi1, b9, b11⟩, ok_bki I1 T GG BK.cl BK.nA ME (of_decide_eq_true eF) o_pc, Ib1⟩⟩
  have MN : MkE l.prog w K mg base 1 "NoStriking" CN ["self", "at"] (spIni K "at") := ⟨PySem.W.mg_of X G aN, (errB_ok nE b).1, ⟨g2, _, bi2, of_decide_eq_true nG, ok_i_NoStriking I2, Ib2⟩⟩
  have o_int0 := R16.own (P := l.prog) (w := w) (base := base) (ok_int0 F16 T)
  have o_index := R17.own (P := l.prog) (w := w) (base := base) (ok_index F17 T o_int0)
  have o_need := R19.own (P := l.prog) (w := w) (base := base) (ok_need F19 T o_log)
  have o_iss := R25.own (P := l.prog) (w := w) (base := base) (ok_iss F25 T BK o_index)
  have o_wo := R26.own (P := l.prog) (w := w) (base := base) (ok_wo F26 T BK)
  have o_stk := R20.own (P := l.prog) (w := w) (base := base) (ok_stk F20 T BK o_need)
  have o_struck := R21.own (P := l.prog) (w := w) (base := base) (ok_struck F21 T o_need o_iss o_wo)
  have o_put := R24.own (P := l.prog) (w := w) (base := base) (ok_put F24 T BK o_need o_index)
  have o_left := R22.own (P := l.prog) (w := w) (base := base) (ok_left F22 T o_need o_iss o_wo MN (of_decide_eq_true nF))
  have o_isstr := R23.own (P := l.prog) (w := w) (base := base) (ok_isstr F23 T o_left MN (of_decide_eq_true nX))
  have o_hand := R0.own (P := l.prog) (w := w) (base := base) (ok_hand F0 T)
  have o_draw := R1.own (P := l.prog) (w := w) (base := base) (ok_draw F1 T)
  have o_any := R2.own (P := l.prog) (w := w) (base := base) (ok_any F2 T o_draw)
  have o_nested := R4.own (P := l.prog) (w := w) (base := base) (ok_nested F4 T o_any)
  have o_odd := R5.own (P := l.prog) (w := w) (base := base) (ok_odd F5 T o_any o_nested)
  have o_lint := R6.own (P := l.prog) (w := w) (base := base) (ok_lint F6 T)
  have o_lstk := R8.own (P := l.prog) (w := w) (base := base) (ok_lstk F8 T)
  have o_lwo := R9.own (P := l.prog) (w := w) (base := base) (ok_lwo F9 T)
  have o_wrong := R10.own (P := l.prog) (w := w) (base := base) (ok_wrong F10 T o_lint o_lstk o_lwo)
  have o_some := R11.own (P := l.prog) (w := w) (base := base) (ok_some F11 T o_any o_lstk o_lwo)
  have o_idle := R12.own (P := l.prog) (w := w) (base := base) (ok_idle F12 T o_draw o_any)
  have o_log2 := R13.own (P := l.prog) (w := w) (base := base) (ok_log2 F13 T o_draw o_any o_idle)
  have o_bents := R14.own (P := l.prog) (w := w) (base := base) (ok_bents F14 T o_draw o_any o_odd)
  have o_stold := R15.own (P := l.prog) (w := w) (base := base) (ok_stold F15 T o_left MN (of_decide_eq_true nF) (xfB_ok nY) (of_decide_eq_true nX))
  have o_pieces := R7.own (P := l.prog) (w := w) (base := base) (ok_pieces F7 T o_draw o_any)
  exact ok_law F28 T BK MB o_hand o_draw o_any o_pieces o_log2 o_lstk o_stk o_struck o_lwo o_some o_bents o_wrong o_stold o_isstr o_put (own_isD R3 F3 T)
theorem walk {l : PySem.W.OpenLaw} {q : Program} {loose : List Str} {XP : (Str → Option Value) → Heap → Prop} {YP : World → Heap → Prop} {d : DefRec} {K : Params → PySem.W.Frag} (hn : l.most = some 63) (hdf : d.params.defaults = [])
    (hY : ∀ (w : World) (h : Heap), YP w h → (K w.params).In h)
    (F : ∀ (w : World) (mg : Str → Option Value) (fa : Addr) (h : Heap), (K w.params).In h → h.Ns mainGlobals mg → mg d.name = some (.ref fa) →
      ∃ fd : FuncData, (∀ (s : Shared) (u : Value), BindsTo s fd ⟨[u], []⟩ [("_law_script", u)]) ∧ ∀ base : Heap, (K w.params).In base → base.Ns mainGlobals mg → FnOk l.prog w (K w.params) mg base CX0 6 fa fd ["_law_script"] (spLaw (K w.params))) :
    PySem.W.WalkO q loose XP YP l.row.toRowW d [] (fun f vs => PySem.call f vs) :=
  L2.walk_of (n := 63) (k := 6) (x := "_law_script") (CX := fun _ => CX0) (sp := fun w => spLaw (K w.params)) hn (by decide) hdf ⟨rfl, by decide, by decide⟩ hY F (fun _ _ a ns hl _ hS => ⟨a, ns, rfl, hS, hl, fun _ => rfl⟩) fun _ _ _ _ _ z => z
end Zq
open PySem PySem.W PyProof.Rows
set_option maxRecDepth 100000 in
set_option maxHeartbeats 0 in
theorem PySem.Challenge.cw_struckpieces_k02_whole_strikings_there_a_holds : PySem.Challenge.rw_struckpieces_k02_whole_strikings_there_a.Holds := by
  w_on; o_law; k_head; (case hw => w_witness2)
  k_fill
  refine Zq.walk (l := PySem.Challenge.rw_struckpieces_k02_whole_strikings_there_a) rfl rfl (fun w h Y => PySem.W.kIn_of Y) ?F
  case F =>
    intro w mg fa h KX G hmg
    refine' Zq.all_mk KX G hmg ?aL ?aE ?aB ?aN ?u0 ?u1 ?u2 ?bi0 ?bl0 ?bc0 ?bk0 ?bi1 ?bl1 ?bc1 ?bk1 ?bi2 ?bl2 ?bc2 ?bk2 ?da0 ?dl0 ?dc_0 ?dk0 ?da1 ?dl1 ?dc_1 ?dk1 ?da2 ?dl2 ?dc_2 ?dk2 ?da3 ?dl3 ?dc_3 ?dk3 ?da4 ?dl4 ?dc_4 ?dk4 ?da5 ?dl5 ?dc_5 ?dk5 ?da6 ?dl6 ?dc_6 ?dk6 ?da7 ?dl7 ?dc_7 ?dk7 ?da8 ?dl8 ?dc_8 ?dk8 ?da9 ?dl9 ?dc_9 ?dk9 ?da10 ?dl10 ?dc_10 ?dk10 ?da11 ?dl11 ?dc_11 ?dk11 ?da12 ?dl12 ?dc_12 ?dk12 ?da13 ?dl13 ?dc_13 ?dk13 ?da14 ?dl14 ?dc_14 ?dk14 ?da15 ?dl15 ?dc_15 ?dk15 ?da16 ?dl16 ?dc_16 ?dk16 ?da17 ?dl17 ?dc_17 ?dk17 ?da18 ?dl18 ?dc_18 ?dk18 ?da19 ?dl19 ?dc_19 ?dk19 ?da20 ?dl20 ?dc_20 ?dk20 ?da21 ?dl21 ?dc_21 ?dk21 ?da22 ?dl22 ?dc_22 ?dk22 ?da23 ?dl23 ?dc_23 ?dk23 ?da24 ?dl24 ?dc_24 ?dk24 ?da25 ?dl25 ?dc_25 ?dk25 ?da26 ?dl26 ?dc_26 ?dk26 ?da27 ?dl27 ?dc_27 ?dk27 ?da28 ?dl28 ?dc_28 ?dk28 ?chk
    (case aL => k_is)
    (case aE => k_is)
    (case aB => k_is)
    (case aN => k_is)
    (case u0 => k_is)
    (case u1 => k_is)
    (case u2 => k_is)
    (case bi0 => k_is)
    (case bl0 => k_is)
    (case bc0 => k_is)
    (case bk0 => k_is)
    (case bi1 => k_is)
    (case bl1 => k_is)
    (case bc1 => k_is)
    (case bk1 => k_is)
    (case bi2 => k_is)
    (case bl2 => k_is)
    (case bc2 => k_is)
    (case bk2 => k_is)
    (case da0 => k_is)
    (case dl0 => k_is)
    (case dc_0 => k_is)
    (case dk0 => k_is)
    (case da1 => k_is)
    (case dl1 => k_is)
    (case dc_1 => k_is)
    (case dk1 => k_is)
    (case da2 => k_is)
    (case dl2 => k_is)
    (case dc_2 => k_is)
    (case dk2 => k_is)
    (case da3 => k_is)
    (case dl3 => k_is)
    (case dc_3 => k_is)
    (case dk3 => k_is)
    (case da4 => k_is)
    (case dl4 => k_is)
    (case dc_4 => k_is)
    (case dk4 => k_is)
    (case da5 => k_is)
    (case dl5 => k_is)
    (case dc_5 => k_is)
    (case dk5 => k_is)
    (case da6 => k_is)
    (case dl6 => k_is)
    (case dc_6 => k_is)
    (case dk6 => k_is)
    (case da7 => k_is)
    (case dl7 => k_is)
    (case dc_7 => k_is)
    (case dk7 => k_is)
    (case da8 => k_is)
    (case dl8 => k_is)
    (case dc_8 => k_is)
    (case dk8 => k_is)
    (case da9 => k_is)
    (case dl9 => k_is)
    (case dc_9 => k_is)
    (case dk9 => k_is)
    (case da10 => k_is)
    (case dl10 => k_is)
    (case dc_10 => k_is)
    (case dk10 => k_is)
    (case da11 => k_is)
    (case dl11 => k_is)
    (case dc_11 => k_is)
    (case dk11 => k_is)
    (case da12 => k_is)
    (case dl12 => k_is)
    (case dc_12 => k_is)
    (case dk12 => k_is)
    (case da13 => k_is)
    (case dl13 => k_is)
    (case dc_13 => k_is)
    (case dk13 => k_is)
    (case da14 => k_is)
    (case dl14 => k_is)
    (case dc_14 => k_is)
    (case dk14 => k_is)
    (case da15 => k_is)
    (case dl15 => k_is)
    (case dc_15 => k_is)
    (case dk15 => k_is)
    (case da16 => k_is)
    (case dl16 => k_is)
    (case dc_16 => k_is)
    (case dk16 => k_is)
    (case da17 => k_is)
    (case dl17 => k_is)
    (case dc_17 => k_is)
    (case dk17 => k_is)
    (case da18 => k_is)
    (case dl18 => k_is)
    (case dc_18 => k_is)
    (case dk18 => k_is)
    (case da19 => k_is)
    (case dl19 => k_is)
    (case dc_19 => k_is)
    (case dk19 => k_is)
    (case da20 => k_is)
    (case dl20 => k_is)
    (case dc_20 => k_is)
    (case dk20 => k_is)
    (case da21 => k_is)
    (case dl21 => k_is)
    (case dc_21 => k_is)
    (case dk21 => k_is)
    (case da22 => k_is)
    (case dl22 => k_is)
    (case dc_22 => k_is)
    (case dk22 => k_is)
    (case da23 => k_is)
    (case dl23 => k_is)
    (case dc_23 => k_is)
    (case dk23 => k_is)
    (case da24 => k_is)
    (case dl24 => k_is)
    (case dc_24 => k_is)
    (case dk24 => k_is)
    (case da25 => k_is)
    (case dl25 => k_is)
    (case dc_25 => k_is)
    (case dk25 => k_is)
    (case da26 => k_is)
    (case dl26 => k_is)
    (case dc_26 => k_is)
    (case dk26 => k_is)
    (case da27 => k_is)
    (case dl27 => k_is)
    (case dc_27 => k_is)
    (case dk27 => k_is)
    (case da28 => k_is)
    (case dl28 => k_is)
    (case dc_28 => k_is)
    (case dk28 => k_is)
    (case chk => kernel_rfl)
