import PyProof.Rows.All
import Wide.All
import OpenK.AllK
import Wide.FinOn
import HandS.ForMost
import HandS.Evl
import HandS.Wide
import HandS.IsInst
import HandS.SetFor
import HandS.Zip
import HandS.Walk
import HandS.HotCalls
import HandS.ExcIs
import HandS.WordsExc
import PySem.Challenge.RW_nearestword_k12_word_counts
set_option Elab.async false
set_option linter.all false
set_option maxRecDepth 100000
set_option maxHeartbeats 1000000
namespace My
open PySem L2 Evl

/-- a def of the text under its name, with its promise -/
structure Dk (P : Program) (w : World) (K : PySem.W.Frag) (mg : Str → Option Value) (base : Heap) (CX : CXT) (k : Nat) (x : Str) (ps : List Str) (sp : Sp) : Prop where
  ex : ∃ (f : Addr) (fd : FuncData), mg x = some (.ref f) ∧ PySem.W.keepIn K (.ref f) = true ∧ Binds K fd ps [] ∧ FnOk P w K mg base CX k f fd ps sp

theorem Dk.up {P : Program} {w : World} {K : PySem.W.Frag} {mg : Str → Option Value} {base : Heap} {CX : CXT} {j k : Nat} {x : Str} {ps : List Str} {sp : Sp} (d : Dk P w K mg base CX j x ps sp) (h : j ≤ k) : Dk P w K mg base CX k x ps sp := by
  obtain ⟨f, fd, a, b, c, F⟩ := d.ex
  exact ⟨f, fd, a, b, c, F.mono h⟩

theorem pe_cd {X : Cx} {k : Nat} {x : Str} {ps : List Str} {sp : Sp} {e : Expr} {es : List Expr} {t : TA} {p pos : Pos}
    (d : Dk X.prog X.w X.K X.mg X.base CX0 k x ps sp) (hr : Room k X.A) (hg : Gl X x) (ha : PA X (e :: es) t)
    (hdb : (x == ("__debug__" : Str)) = false := by decide)
    (he : starEach (e :: es) X.env = (false, eval e X.env) :: starEach es X.env := by rfl)
    (hpl : (backTo pos (starEach es X.env)).any (·.1) = false := by rfl) :
    PE X (.Call (.Name x p) (e :: es) [] pos) (tCall sp [] E0 t) := by
  obtain ⟨f, fd, g, kp, b, F⟩ := d.ex
  exact pe_call F hr hg g kp b .nil pass0 ha hdb he hpl

section
variable {K : PySem.W.Frag} {σ : L2.St} {H H' : Hp} {ta tb te tx : TE} {t u : TT} {x y z v : V} {D : Ends} {tu tw tz : TS} {g : TG}

/-- a statement that stores what a call hands back, the promise as it is -/
theorem q_asgC {i : Nat} {sp : Sp} {E : XK} {tr : TA} {vs : List V} (h : EvA tr σ H vs)
    (k : ∀ H1, Ex H H1 → sp vs H1 (fun v H2 => tz D (σ.set i (some v)) H2) E) : tSeq (tAsg (tCall sp [] E tr) (gName i)) tz D σ H := by
  refine h H (Ex.refl H) _ fun H1 e1 => ?_
  rw [List.append_nil]
  exact k H1 e1

/-- a call as a statement -/
theorem q_dropC {sp : Sp} {E : XK} {tr : TA} {vs : List V} (h : EvA tr σ H vs)
    (k : ∀ H1, Ex H H1 → sp vs H1 (fun _ H2 => tz D σ H2) E) : tSeq (tDrop (tCall sp [] E tr)) tz D σ H := by
  refine h H (Ex.refl H) _ fun H1 e1 => ?_
  rw [List.append_nil]
  exact k H1 e1
/-- a loop over what a call hands back -/
theorem s_forC {j : Nat} {sp : Sp} {E : XK} {tr : TA} {vs : List V} (h : EvA tr σ H vs)
    (k : ∀ H1, Ex H H1 → sp vs H1 (fun v H2 => ∃ a, v = .ref a ∧ (∃ xs, SqL K H2 a xs) ∧ tFor (fun _ H R => R (Itl K a) H) (gName j) tu D σ H2) E) :
    tFor (iList K (tCall sp [] E tr)) (gName j) tu D σ H := by
  refine h H (Ex.refl H) _ fun H1 e1 => ?_
  rw [List.append_nil]
  exact k H1 e1

theorem rc_int {i : Int} : RC (fun xs H Q => (∃ i, xs = [.int i] ∧ Q (.int i) H) ∨ ∃ k, xs = [.bl k] ∧ Q (.int (if k then 1 else 0)) H) [.int i] H (.int i) :=
  fun H1 _ _ q => .inl ⟨i, rfl, q H1 (Ex.refl H1)⟩
theorem rc_abs {i : Int} : RC (fun xs H Q => ∃ i, xs = [.int i] ∧ Q (.int (if i < 0 then -i else i)) H) [.int i] H (.int (if i < 0 then -i else i)) :=
  fun H1 _ _ q => ⟨i, rfl, q H1 (Ex.refl H1)⟩
theorem rc_max2 {i j : Int} : RC (fun xs H Q => ∃ i j, xs = [.int i, .int j] ∧ Q (.int (if j > i then j else i)) H) [.int i, .int j] H (.int (if j > i then j else i)) :=
  fun H1 _ _ q => ⟨i, j, rfl, q H1 (Ex.refl H1)⟩
theorem rc_len {a : Addr} {xs : List V} (h : SqL K H a xs) : RC (fun xs H Q => ∃ p ys, xs = [.ref p] ∧ (SqL K H p ys ∨ SqT K H p ys) ∧ Q (.int ys.length) H) [.ref a] H (.int xs.length) :=
  fun H1 e _ q => ⟨a, xs, rfl, .inl (ex_l e h), q H1 (Ex.refl H1)⟩
theorem rc_isiInt {i : Int} {T : String} {b : Bool} (h : kitB "int" T = some b) : RC (rIsi K) [.int i, .ty T] H (.bl b) := fun H1 _ _ q =>
  ⟨.int i, .ty T, .type "int", .type T, b, rfl, .ty T, .base (.int i), kit_ty h, q H1 (Ex.refl H1)⟩
theorem rc_isiLst {a : Addr} {xs : List V} {T : String} {b : Bool} (ha : H a = some (.lst xs)) (h : kitB "list" T = some b) : RC (rIsi K) [.ref a, .ty T] H (.bl b) := fun H1 e _ q =>
  ⟨.ref a, .ty T, .type "list", .type T, b, rfl, .ty T, .base (.lst (e a _ ha)), kit_ty h, q H1 (Ex.refl H1)⟩
end

/-- a drawn number -/
def Bd (ns : List Int) : Prop := ∀ n ∈ ns, 0 ≤ n ∧ n < 1009
theorem Bd.nil : Bd [] := fun _ h => by simp at h
theorem Bd.snoc {ns : List Int} {n : Int} (h : Bd ns) (h0 : 0 ≤ n) (h1 : n < 1009) : Bd (ns ++ [n]) := fun m hm => by
  rcases List.mem_append.mp hm with q | q
  · exact h m q
  · rw [List.mem_singleton.mp q]
    exact ⟨h0, h1⟩
theorem map_snoc {ns : List Int} {n : Int} : (ns ++ [n]).map V.int = ns.map V.int ++ [V.int n] := by
  rw [List.map_append]
  rfl
theorem sq_ex {K : PySem.W.Frag} {H0 H1 : Hp} {p : Addr} {xs : List V} (h : H0 p = some (.lst xs)) (e : Ex H0 H1) : SqL K H1 p xs := sq_of (e _ _ h)
/-! within a comprehension: the written part said by its name -/
theorem ix_listK {X : Cx} {K : PySem.W.Frag} (h : X.K = K) : IxR X (rIxL K) := h ▸ ix_list
theorem sl_listK {X : Cx} {K : PySem.W.Frag} (h : X.K = K) : SlR X (rSlL K) := h ▸ sl_list
theorem call_lenK {X : Cx} {K : PySem.W.Frag} (h : X.K = K) : CallR X (.builtin "len") (fun xs H Q => ∃ p ys, xs = [.ref p] ∧ (SqL K H p ys ∨ SqT K H p ys) ∧ Q (.int ys.length) H) := h ▸ call_len_seq
theorem pg_tupK {X : Cx} {K : PySem.W.Frag} {es : List Expr} {k n : Nat} {t : TGs} {pos : Pos} (hK : X.K = K) (hc : X.calm = true) (h : PGs X es t)
    (hn : (assignEach es X.env).length = n := by rfl) (hst : (assignEach es X.env).findIdx? (·.1) = none := by rfl) : PG X (.Tuple es k pos) (gTup K n t) := hK ▸ pg_tup hc h hn hst
theorem cut_pre (xs : List V) (n : Nat) : cutV xs none (some (n : Int)) = xs.take n := by
  unfold cutV
  rw [HT.sIx_none, HT.sIx_nat, List.drop_zero, Nat.sub_zero]
  rcases Nat.le_total n xs.length with h | h
  · rw [Nat.min_eq_left h]
  · rw [Nat.min_eq_right h, List.take_of_length_le h, List.take_of_length_le (Nat.le_refl _)]
theorem at_int {ns : List Int} {z : Int} (h0 : 0 ≤ z) (h1 : z < ns.length) : atI (ns.map V.int) z = some (.int (ns.getD z.toNat 0)) := by
  have e : z = ((z.toNat : Nat) : Int) := by omega
  have hl : z.toNat < ns.length := by omega
  refine at_of e ?_
  rw [List.getElem?_map, List.getElem?_eq_getElem hl, List.getD_eq_getElem?_getD, List.getElem?_eq_getElem hl]
  rfl
theorem at_nat' {xs : List V} {i : Nat} (h : i < xs.length) : atI xs (i : Int) = some (xs[i]) := atI_nat (List.getElem?_eq_getElem h)
theorem Bd.getD {ns : List Int} (h : Bd ns) (j : Nat) : 0 ≤ ns.getD j 0 ∧ ns.getD j 0 < 1009 := by
  rw [List.getD_eq_getElem?_getD]
  cases e : ns[j]? with
  | none => exact ⟨by decide, by decide⟩
  | some z => exact h z (List.mem_of_getElem? e)
theorem Bd.take {ns : List Int} (h : Bd ns) (j : Nat) : Bd (ns.take j) := fun n hn => h n (List.mem_of_mem_take hn)

section
variable {K : PySem.W.Frag} {σ : L2.St} {H : Hp} {te : TE} {t : TT} {wi : TI} {g : TG} {J : It} {G : Hp → Prop} {n : Nat} {vs : List Nat} {xf yf : Nat → Option V}
/-- a comprehension over pairs (enumerate, zip) -/
theorem el_lcP (hwi : ∀ H1, Ex H H1 → ∀ R : It → Hp → Prop, (∀ H2, Ex H1 H2 → R J H2) → wi σ H1 R) (w : Walk J n G (YPair xf yf)) (hG : ∀ H1, Ex H H1 → G H1) (hn : n ≤ 40000)
    (σ2 : V → V → L2.St) (hgt : ∀ T x y H' (Q' : L2.St → Hp → Prop), H' T = some (.tup [x, y]) → Q' (σ2 x y) H' → g (.ref T) (wipe σ vs) H' Q') (hw : ∀ x y, wipe (σ2 x y) vs = wipe σ vs)
    (f : Nat → Bool) (v : Nat → V) (ht : ∀ i x y H1, Ex H H1 → xf i = some x → yf i = some y → EvT t (σ2 x y) H1 (f i))
    (he : ∀ i x y H1, Ex H H1 → xf i = some x → yf i = some y → f i = true → Ev te (σ2 x y) H1 (v i)) : EvL (tLc wi g t te vs) σ H (given n f v) := fun H0 e Q q =>
  hwi H0 e _ fun H1 e1 => fun Dl hD => lc_it w (Cw H1 f v Dl) ⟨hD, Ex.new hD, upd_same⟩ (fun i H' _ p => hG H' ((e.trans e1).trans p.2.1)) (fun i x H' H'' hi p y => by
    obtain ⟨T, x1, y1, rfl, hT, rfl, hx, hy⟩ := y
    have eT : Ex H' (upd H' T (.tup [x1, y1])) := Ex.new hT
    have p' : Cw H1 f v Dl i (upd H' T (.tup [x1, y1])) := ⟨p.1, p.2.1.trans eT, eT _ _ p.2.2⟩
    have e9 : Ex H H1 := e.trans e1
    refine hgt T x1 y1 _ _ upd_same ⟨hw _ _, ?_⟩
    exact cw_turn p' (by omega) (ht i x1 y1 H1 e9 hx hy) (he i x1 y1 H1 e9 hx hy)) (fun H' p => q Dl H' (fresh_back e1 p.1) (e1.trans p.2.1) p.2.2)
end
end My
set_option Elab.async false
set_option linter.all false
set_option maxRecDepth 100000
set_option maxHeartbeats 4000000
namespace My
open PySem L2 Evl
def topS (i : Nat) : Stmt := PySem.Challenge.pw_nearestword_k12_word_counts.main.body.getD i (.Pass ⟨0, 0, 0, 0⟩)
structure Txt (mg : Str → Option Value) : Prop where
  z_len : mg "len" = none
  z_abs : mg "abs" = none
  z_int : mg "int" = none
  z_bool : mg "bool" = none
  z_max : mg "max" = none
  z_range : mg "range" = none
  z_list : mg "list" = none
  z_isinstance : mg "isinstance" = none
  z_enumerate : mg "enumerate" = none
  z_zip : mg "zip" = none
local macro_rules | `(tactic| walk_at "ev") => `(tactic| repeat' (first
  | exact ev_c
  | exact ev_var rfl
  | exact ea_nil
  | exact eo_none
  | (refine' ev_cb ?ea (rc_len ?sq); (case ea => walk_at "evs"); (case sq => walk_at "sq"))
  | (refine' ev_op ?a ?b (rv_ixL ?sq ?ix); (case a => walk_at "evs"); (case b => walk_at "evs"); (case sq => walk_at "sq"); (case ix => walk_at "at"))
  | refine' ea_cons ?_ ?_
  | refine' eo_some ?_
  | refine' ev_op ?_ ?_ rv_I0
  | refine' ev_op ?_ ?_ (rv_eq ?_)
  | refine' ev_op ?_ ?_ (rv_ne ?_)
  | refine' ev_op ?_ ?_ (rv_I ?_)
  | refine' ev_un ?_ ru_neg
  | refine' ev_cb ?_ rc_int
  | refine' ev_cb ?_ rc_abs
  | refine' ev_cb ?_ rc_max2
  | refine' ev_andV ?_ ?_
  | refine' ev_notV ?_
  | refine' et_test ?_
  | refine' et_B ?_
  | refine' et_not ?_))
local macro_rules | `(tactic| walk_at "side") => `(tactic| first
  | rfl
  | decide
  | exact ⟨by decide, by decide⟩
  | exact .inr ⟨by decide, by decide⟩
  | exact .inl ⟨by decide, by decide⟩
  | omega
  | exact .inl ⟨by omega, by omega⟩
  | exact .inr ⟨by omega, by omega⟩)
local macro_rules | `(tactic| walk_at "evs") => `(tactic| (walk_at "ev"; all_goals (walk_at "side")))
local macro_rules | `(tactic| walk_at "ex") => `(tactic| first
  | exact Ex.refl _
  | assumption
  | (refine' Ex.trans ?_ ?b; (case b => assumption); walk_at "ex"))
local macro_rules | `(tactic| walk_at "sq") => `(tactic| first
  | assumption
  | exact sq_of (by assumption)
  | (refine' ex_l ?e ?h; (case h => assumption); (case e => walk_at "ex"))
  | (refine' sq_ex ?h ?e; (case h => assumption); (case e => walk_at "ex")))
local macro_rules | `(tactic| walk_at "at") => `(tactic| first
  | exact at_int (by omega) (by omega)
  | exact atI_nat (j := 0) rfl
  | exact atI_nat (j := 1) rfl
  | exact atI_nat (j := 2) rfl)
local macro_rules | `(tactic| walk_at "side2") => `(tactic| first | exact CMul_bdl (by assumption) | exact CMul_bdr (by assumption) | walk_at "side")
local macro_rules | `(tactic| walk_at "evb") => `(tactic| (walk_at "ev"; all_goals (walk_at "side2")))

section
variable {P : Program} {w : World} {K : PySem.W.Frag} {mg : Str → Option Value} {base : Heap}
/-! _law_row: 0 cell, 1 many, 2 row, 3 rest, 4 state, 5 k -/
abbrev s_law_row : Stmt := topS 13
theorem sc_law_row : FnScope ["cell", "many", "row", "rest", "state", "k"] ["cell", "many"] (defScope s_law_row) := ⟨rfl, rfl, rfl, by decide +kernel, rfl, by decide +kernel, by decide +kernel⟩
def spRow : Sp := fun vs H Q _ => ∃ (c m : Int), vs = [.int c, .int m] ∧ 0 ≤ m ∧ m ≤ 2000 ∧
  ∀ (ns : List Int) p H2, (ns.length : Int) = m → Bd ns → H p = none → Ex H H2 → H2 p = some (.lst (ns.map V.int)) → Q (.ref p) H2
theorem ok_row {f : Addr} {fd : FuncData} (F : Fun K "_law_row" "_law_row" s_law_row f fd) (T : Txt mg) : FnOk P w K mg base CX0 1 f fd ["cell", "many"] spRow := by
  refine F.ok sc_law_row (fun vs H Q E h => ?_) (fun cdv A outer s H vs Q E hr h => ?_)
  · obtain ⟨c, m, rfl, _⟩ := h
    rfl
  obtain ⟨c, m, rfl, m0, m1, k⟩ := h
  refine ⟨_, (pss_cons (ps_set (i := 2) sc_law_row.nd rfl (Or.inl rfl) (pe_lst pa_nil))
    (pss_cons (ps_set (i := 3) sc_law_row.nd rfl (Or.inl rfl) pe_int)
    (pss_cons (ps_if (pt_cmpR op_ge (pe_callB call_abs (by rfl) T.z_abs (by decide +kernel) (pa_cons (pv 0) pa_nil)) (pe_op op_pow pe_int pe_int) (nomark _))
      (pss_one (ps_set (i := 3) sc_law_row.nd rfl (Or.inl rfl) (pe_callB call_abs (by rfl) T.z_abs (by decide +kernel) (pa_cons (pv 0) pa_nil))))
      pss_nil)
    (pss_cons (ps_set (i := 4) sc_law_row.nd rfl (Or.inl rfl) (pe_op op_mod (pe_callTy call_int1 (by rfl) T.z_int (by decide +kernel) (pa_cons (pe_callB call_abs (by rfl) T.z_abs (by decide +kernel) (pa_cons (pv 0) pa_nil)) pa_nil)) pe_int))
    (pss_cons (ps_for PassesOwn.never rfl (pi_range1 (by rfl) T.z_range (pa_cons (pv 1) pa_nil)) (pg_name (i := 5) sc_law_row.nd rfl (Or.inl rfl))
      (pss_cons (ps_set (i := 4) sc_law_row.nd rfl (Or.inl rfl) (pe_op op_mod (pe_callTy call_int1 (by rfl) T.z_int (by decide +kernel) (pa_cons (pe_op op_add (pe_op op_mul (pe_op op_add (pv 4) pe_int) pe_int) (pe_op op_mul pe_int (pv 5))) pa_nil)) pe_int))
      (pss_one (ps_if (pt_cmpR op_gt (pv 3) pe_int (nomark _))
        (pss_cons (ps_expr (pe_bm PySem.F.plainAttrs_list PySem.F.slot_list_append PySem.F.type_list_append mt_append (pv 2) (pa_cons (pe_op op_mod (pe_callTy call_int1 (by rfl) T.z_int (by decide +kernel) (pa_cons (pv 3) pa_nil)) pe_int) pa_nil)))
        (pss_one (ps_set (i := 3) sc_law_row.nd rfl (Or.inl rfl) (pe_op op_fdiv (pv 3) pe_int))))
        (pss_one (ps_expr (pe_bm PySem.F.plainAttrs_list PySem.F.slot_list_append PySem.F.type_list_append mt_append (pv 2) (pa_cons (pe_op op_mod (pe_callTy call_int1 (by rfl) T.z_int (by decide +kernel) (pa_cons (pe_op op_fdiv (pv 4) pe_int) pa_nil)) pe_int) pa_nil))))))))
    (pss_one (ps_ret (pv 2)))))))), ?_⟩
  refine q_asgL (el_lst ea_nil (by decide)) fun p H1 np e1 h1 => ?_
  refine q_asg ev_c fun H2 e2 => ?_
  refine q_ifAsg (v := .int (if (10 : Int) ^ 18 ≤ (if c < 0 then -c else c) then (if c < 0 then -c else c) else 0)) (b := decide ((10 : Int) ^ 18 ≤ (if c < 0 then -c else c))) (et_is (by walk_at "evs") (by rfl)) (fun hb => ?_) (fun hb => ?_) fun H3 e3 => ?_
  · rw [if_pos (of_decide_eq_true hb)]
    exact ev_is (by walk_at "ev") (by rfl)
  · rw [if_neg (of_decide_eq_false hb)]
    rfl
  generalize (if (10 : Int) ^ 18 ≤ (if c < 0 then -c else c) then (if c < 0 then -c else c) else 0) = r0
  refine q_asg (by walk_at "evs") fun H4 e4 => ?_
  refine q_forR1 (n := m) (by walk_at "ev") (by omega) (fun i σ' H' => ∃ (r st : Int) (y : Option V) (ns : List Int), σ' = [some (.int c), some (.int m), some (.ref p), some (.int r), some (.int st), y] ∧ ns.length = i ∧ Bd ns ∧ Ex H H' ∧ H' p = some (.lst (ns.map V.int)) ∧ 0 ≤ st ∧ st < 2147483647) ?_ ?_ ?_
  · intro H5 e5
    exact ⟨r0, _, none, [], rfl, rfl, Bd.nil, (((e1.trans e2).trans e3).trans e4).trans e5, e5 _ _ (e4 _ _ (e3 _ _ (e2 _ _ h1))), Int.emod_nonneg _ (by decide), Int.emod_lt_of_pos _ (by decide)⟩
  · rintro i σ' H' hi ⟨r, st, y, ns, rfl, hl, hb, ex, hp, s0, s1⟩
    have hn : (ns.map V.int).length < 100000 := by rw [List.length_map]; omega
    refine q_asg (by walk_at "evs") fun H5 e5 => ?_
    generalize hst : ((st + 1) * 48271 + 69621 * (i : Int)) % 2147483647 = st'
    have t0 : 0 ≤ st' := by rw [← hst]; exact Int.emod_nonneg _ (by decide)
    have t1 : st' < 2147483647 := by rw [← hst]; exact Int.emod_lt_of_pos _ (by decide)
    refine s_if (by walk_at "ev") (fun hb1 H6 e6 => ?_) (fun hb1 H6 e6 => ?_)
    · refine q_app (e6 _ _ (e5 _ _ hp)) (by walk_at "ev") (by walk_at "evs") hn fun H7 e7 => ?_
      refine s_asg (by walk_at "evs") fun H8 e8 => ?_
      refine ⟨r / 1009, st', _, ns ++ [r % 1009], rfl, by rw [List.length_append]; exact congrArg (· + 1) hl, hb.snoc (Int.emod_nonneg _ (by decide)) (Int.emod_lt_of_pos _ (by decide)), (Ex.mut (((ex.trans e5).trans e6).trans e7) np).trans e8, ?_, t0, t1⟩
      refine e8 _ _ ?_
      rw [upd_same, map_snoc]
    · refine s_app (e6 _ _ (e5 _ _ hp)) (by walk_at "ev") (by walk_at "evs") hn fun H7 e7 => ?_
      refine ⟨r, st', _, ns ++ [st' / 2048 % 1009], rfl, by rw [List.length_append]; exact congrArg (· + 1) hl, hb.snoc (Int.emod_nonneg _ (by decide)) (Int.emod_lt_of_pos _ (by decide)), Ex.mut (((ex.trans e5).trans e6).trans e7) np, ?_, t0, t1⟩
      rw [upd_same, map_snoc]
  · rintro σ' H' ⟨r, st, y, ns, rfl, hl, hb, ex, hp, s0, s1⟩
    exact s_ret (ev_var rfl) fun H5 e5 => k ns p H5 (by omega) hb np (ex.trans e5) (e5 _ _ hp)
end
end My
set_option linter.all false
set_option maxRecDepth 100000
namespace My
open PySem L2 Evl
theorem CMul_bdl {ns : List Int} {j : Nat} {z : Int} (h : Bd ns) : CMul (ns.getD j 0) z := by
  have := h.getD j
  exact .inl ⟨by omega, by omega⟩
theorem CMul_bdr {ns : List Int} {j : Nat} {z : Int} (h : Bd ns) : CMul z (ns.getD j 0) := by
  have := h.getD j
  exact .inr ⟨by omega, by omega⟩
/-- which places are chosen -/
def sel (n : Nat) (f : Nat → Bool) : List Int := ((List.range n).filter f).map fun (i : Nat) => (i : Int)
theorem sel_zero {f : Nat → Bool} : sel 0 f = [] := rfl
theorem sel_yes {n : Nat} {f : Nat → Bool} (h : f n = true) : sel (n + 1) f = sel n f ++ [(n : Int)] := by
  unfold sel
  rw [List.range_succ, List.filter_append, List.map_append, List.filter_cons, if_pos h] <;> rfl
theorem sel_no {n : Nat} {f : Nat → Bool} (h : f n = false) : sel (n + 1) f = sel n f := by
  unfold sel
  rw [List.range_succ, List.filter_append, List.map_append, List.filter_cons, if_neg (by rw [h]; decide)]
  show _ ++ [] = _
  rw [List.append_nil]
theorem sel_len (n : Nat) (f : Nat → Bool) : (sel n f).length ≤ n := by
  unfold sel
  rw [List.length_map]
  have h := List.length_filter_le f (List.range n)
  rwa [List.length_range] at h
theorem given_sel (n : Nat) (f : Nat → Bool) : given n f (fun i => .int (i : Int)) = (sel n f).map V.int := by
  unfold given sel
  rw [List.map_map]
  rfl
theorem given_len' (n : Nat) (f : Nat → Bool) (v : Nat → V) : (given n f v).length = (sel n f).length := by
  unfold given sel
  rw [List.length_map, List.length_map]
theorem given_all (n : Nat) (v : Nat → Int) : given n (fun _ => true) (fun i => .int (v i)) = ((List.range n).map v).map V.int := by
  unfold given
  rw [List.filter_eq_self.mpr (fun _ _ => rfl), List.map_map]
  rfl
theorem sel_count (fs : List Int) : ∀ n, n ≤ fs.length → ((sel n fun i => !decide (fs.getD i 0 = 0)).length : Int) + (((fs.take n).count 0 : Nat) : Int) = (n : Int)
  | 0, _ => by simp [sel]
  | n + 1, h => by
    have ih := sel_count fs n (by omega)
    have hn : n < fs.length := by omega
    have hg : fs.getD n 0 = fs[n] := by rw [List.getD_eq_getElem?_getD, List.getElem?_eq_getElem hn]; rfl
    rw [List.take_add_one, List.getElem?_eq_getElem hn, Option.toList_some, List.count_append]
    by_cases h0 : fs[n] = 0
    · have hf : (!decide (fs.getD n 0 = 0)) = false := by rw [hg, h0]; rfl
      have e1 : List.count (0 : Int) [fs[n]] = 1 := by rw [h0]; rfl
      rw [sel_no (f := fun i => !decide (fs.getD i 0 = 0)) hf, e1]
      omega
    · have hf : (!decide (fs.getD n 0 = 0)) = true := by rw [hg, decide_eq_false h0]; rfl
      have e1 : List.count (0 : Int) [fs[n]] = 0 := by
        rw [List.count_cons, List.count_nil, if_neg]
        intro q
        exact h0 (eq_of_beq q)
      rw [sel_yes (f := fun i => !decide (fs.getD i 0 = 0)) hf, e1, List.length_append, List.length_singleton]
      omega
/-- an item of a received word -/
def oV : Option Int → V
  | none => .non
  | some z => .int z
theorem oV_non (r : Option Int) : decide (oV r = .non) = r.isNone := by
  cases r with
  | none => exact decide_eq_true rfl
  | some z => exact decide_eq_false (fun h => by cases h)
theorem et_yes {σ : L2.St} {H : Hp} : EvT tYes σ H true := fun H1 _ _ q => q H1 (Ex.refl H1)
theorem rv_isN {x : V} {H : Hp} : RV (fun x y H Q => y = .non ∧ Q (.bl (decide (x = .non))) H) x .non H (.bl (decide (x = .non))) := fun H1 _ _ q => ⟨rfl, q H1 (Ex.refl H1)⟩
theorem rv_notN {x : V} {H : Hp} : RV (fun x y H Q => y = .non ∧ Q (.bl (!decide (x = .non))) H) x .non H (.bl (!decide (x = .non))) := fun H1 _ _ q => ⟨rfl, q H1 (Ex.refl H1)⟩
end My
namespace My
open PySem L2 Evl
theorem dec_int (x y : Int) : decide (V.int x = V.int y) = decide (x = y) := by
  by_cases h : x = y
  · rw [decide_eq_true h, h, decide_eq_true rfl]
  · rw [decide_eq_false h, decide_eq_false (fun q => h (V.int.inj q))]
theorem scal_oV (r : Option Int) (x : Int) : scal (oV r) (.int x) = true := by cases r <;> rfl
def fD (fs ss : List Int) (i : Nat) : Bool := !decide (fs.getD i 0 = ss.getD i 0)
def fE (fs : List Int) (rs : List (Option Int)) (i : Nat) : Bool := !(rs.getD i none).isNone && !decide (oV (rs.getD i none) = .int (fs.getD i 0))
def fN (rs : List (Option Int)) (i : Nat) : Bool := (rs.getD i none).isNone
def fS (fs : List Int) (i : Nat) : Bool := !decide (fs.getD i 0 = 0)
theorem at_oV {rs : List (Option Int)} {i : Nat} (h : i < rs.length) : atI (rs.map oV) (i : Int) = some (oV (rs.getD i none)) := by
  refine atI_nat ?_
  rw [List.getElem?_map, List.getElem?_eq_getElem h, List.getD_eq_getElem?_getD, List.getElem?_eq_getElem h]
  rfl
theorem at_intN {ns : List Int} {i : Nat} (h : i < ns.length) : atI (ns.map V.int) (i : Int) = some (.int (ns.getD i 0)) := by
  refine atI_nat ?_
  rw [List.getElem?_map, List.getElem?_eq_getElem h, List.getD_eq_getElem?_getD, List.getElem?_eq_getElem h]
  rfl
theorem sel_lenYes {n : Nat} {f : Nat → Bool} (h : f n = true) : ((sel (n + 1) f).length : Int) = (sel n f).length + 1 := by
  rw [sel_yes h, List.length_append, List.length_singleton]
  omega
end My

namespace My
theorem dec_nat (m n : Nat) : decide ((m : Int) = (n : Int)) = decide (m = n) := by
  by_cases h : m = n
  · rw [decide_eq_true h, decide_eq_true (by omega)]
  · rw [decide_eq_false h, decide_eq_false (by omega)]
end My
set_option Elab.async false
set_option linter.all false
set_option maxRecDepth 100000
set_option maxHeartbeats 1000000
namespace My
open PySem L2 Evl
local macro_rules | `(tactic| walk_at "ev") => `(tactic| repeat' (first
  | exact ev_c
  | exact ev_var rfl
  | exact ea_nil
  | exact eo_none
  | (refine' ev_cb ?ea (rc_len ?sq); (case ea => walk_at "evs"); (case sq => walk_at "sq"))
  | (refine' ev_op ?a ?b (rv_ixL ?sq ?ix); (case a => walk_at "evs"); (case b => walk_at "evs"); (case sq => walk_at "sq"); (case ix => walk_at "at"))
  | refine' ea_cons ?_ ?_
  | refine' eo_some ?_
  | refine' ev_op ?_ ?_ rv_I0
  | refine' ev_op ?_ ?_ (rv_eq ?_)
  | refine' ev_op ?_ ?_ (rv_ne ?_)
  | refine' ev_op ?_ ?_ (rv_I ?_)
  | refine' ev_un ?_ ru_neg
  | refine' ev_cb ?_ rc_int
  | refine' ev_cb ?_ rc_abs
  | refine' ev_cb ?_ rc_max2
  | refine' ev_andV ?_ ?_
  | refine' ev_notV ?_
  | refine' et_test ?_
  | refine' et_B ?_
  | refine' et_not ?_))
local macro_rules | `(tactic| walk_at "side") => `(tactic| first
  | rfl
  | decide
  | exact ⟨by decide, by decide⟩
  | exact .inr ⟨by decide, by decide⟩
  | exact .inl ⟨by decide, by decide⟩
  | omega
  | exact .inl ⟨by omega, by omega⟩
  | exact .inr ⟨by omega, by omega⟩)
local macro_rules | `(tactic| walk_at "evs") => `(tactic| (walk_at "ev"; all_goals (walk_at "side")))
local macro_rules | `(tactic| walk_at "ex") => `(tactic| first
  | exact Ex.refl _
  | assumption
  | (refine' Ex.trans ?_ ?b; (case b => assumption); walk_at "ex"))
local macro_rules | `(tactic| walk_at "sq") => `(tactic| first
  | assumption
  | exact sq_of (by assumption)
  | (refine' ex_l ?e ?h; (case h => assumption); (case e => walk_at "ex"))
  | (refine' sq_ex ?h ?e; (case h => assumption); (case e => walk_at "ex")))
local macro_rules | `(tactic| walk_at "at") => `(tactic| first
  | exact at_int (by omega) (by omega)
  | exact atI_nat (j := 0) rfl
  | exact atI_nat (j := 1) rfl
  | exact atI_nat (j := 2) rfl)
local macro_rules | `(tactic| walk_at "side2") => `(tactic| first | exact CMul_bdl (by assumption) | exact CMul_bdr (by assumption) | walk_at "side")
local macro_rules | `(tactic| walk_at "evb") => `(tactic| (walk_at "ev"; all_goals (walk_at "side2")))

section
variable {P : Program} {w : World} {K : PySem.W.Frag} {mg : Str → Option Value} {base : Heap}
/-! _law_numbers: 0 script, 1 many, 2 cells, 3 each, 4 numbers, 5 cell, 6 number -/
abbrev s_law_numbers : Stmt := topS 14
theorem sc_law_numbers : FnScope ["script", "many", "cells", "each", "numbers", "cell", "number"] ["script", "many"] (defScope s_law_numbers) := ⟨rfl, rfl, rfl, by decide +kernel, rfl, by decide +kernel, by decide +kernel⟩
def spNumbers (K : PySem.W.Frag) : Sp := fun vs H Q _ => ∃ (a : Addr) (cs : List Int) (m : Int), vs = [.ref a, .int m] ∧ SqL K H a (cs.map V.int) ∧ 0 ≤ m ∧ m ≤ 500 ∧
  ∀ (ns : List Int) p H2, (ns.length : Int) = m → Bd ns → H p = none → Ex H H2 → H2 p = some (.lst (ns.map V.int)) → Q (.ref p) H2
theorem ok_numbers {f : Addr} {fd : FuncData} (F : Fun K "_law_numbers" "_law_numbers" s_law_numbers f fd) (T : Txt mg) (D_law_row : Dk P w K mg base CX0 1 "_law_row" ["cell", "many"] spRow) : FnOk P w K mg base CX0 2 f fd ["script", "many"] (spNumbers K) := by
  refine F.ok sc_law_numbers (fun vs H Q E h => ?_) (fun cdv A outer s H vs Q E hr h => ?_)
  · obtain ⟨a, cs, m, rfl, _⟩ := h
    rfl
  obtain ⟨a, cs, m, rfl, hS, m0, m1, k⟩ := h
  refine ⟨_, (pss_cons (ps_set (i := 2) sc_law_numbers.nd rfl (Or.inl rfl) (pe_slice sl_list (pv 0) po_none (po_some pe_int)))
    (pss_cons (ps_set (i := 3) sc_law_numbers.nd rfl (Or.inl rfl) (pe_op op_add pe_int (pe_op op_fdiv (pv 1) (pe_callB (call_max2 rfl) (by rfl) T.z_max (by decide +kernel) (pa_cons pe_int (pa_cons (pe_callB call_len_seq (by rfl) T.z_len PySem.boot_len (pa_cons (pv 2) pa_nil)) pa_nil))))))
    (pss_cons (ps_set (i := 4) sc_law_numbers.nd rfl (Or.inl rfl) (pe_lst pa_nil))
    (pss_cons (ps_for PassesOwn.never rfl (pi_list (pv 2)) (pg_name (i := 5) sc_law_numbers.nd rfl (Or.inl rfl))
      (pss_one (ps_for PassesOwn.never rfl (pi_list (pe_cd D_law_row hr (by rfl) (pa_cons (pv 5) (pa_cons (pv 3) pa_nil)))) (pg_name (i := 6) sc_law_numbers.nd rfl (Or.inl rfl))
        (pss_one (ps_expr (pe_bm PySem.F.plainAttrs_list PySem.F.slot_list_append PySem.F.type_list_append mt_append (pv 4) (pa_cons (pv 6) pa_nil)))))))
    (pss_cons (ps_while PassesOwn.never (pt_cmpR op_lt (pe_callB call_len_seq (by rfl) T.z_len PySem.boot_len (pa_cons (pv 4) pa_nil)) (pv 1) (nomark _))
      (pss_one (ps_expr (pe_bm PySem.F.plainAttrs_list PySem.F.slot_list_append PySem.F.type_list_append mt_append (pv 4) (pa_cons pe_int pa_nil)))))
    (pss_one (ps_ret (pe_slice sl_list (pv 4) po_none (po_some (pv 1)))))))))), ?_⟩
  refine q_asgL (el_sl (ev_var rfl) eo_none (eo_some ev_c) hS) fun c H1 nc e1 h1 => ?_
  rw [show cutV (cs.map V.int) none (some 63) = (cs.take 63).map V.int from by rw [List.map_take]; exact cut_pre _ 63] at h1
  have hL : ((cs.take 63).map V.int).length ≤ 63 := by rw [List.length_map, List.length_take]; omega
  generalize cs.take 63 = ds at h1 hL
  rw [List.length_map] at hL
  have hmx : ∀ z : Int, z = (if (((ds.map V.int).length : Nat) : Int) > 1 then (((ds.map V.int).length : Nat) : Int) else 1) → 1 ≤ z ∧ z ≤ 63 := by
    intro z hz
    rw [List.length_map] at hz
    split at hz <;> omega
  refine q_asg (by
    refine ev_op ev_c (ev_op (ev_var rfl) (ev_cb (ea_cons ev_c (ea_cons (ev_cb (ea_cons (ev_var rfl) ea_nil) (rc_len (sq_of h1))) ea_nil)) rc_max2) (rv_I ?_)) rv_I0
    have q := hmx _ rfl
    exact ⟨by omega, by omega⟩) fun H2 e2 => ?_
  generalize hz : (if (((ds.map V.int).length : Nat) : Int) > 1 then (((ds.map V.int).length : Nat) : Int) else 1) = z
  obtain ⟨z0, z1⟩ := hmx z hz.symm
  have hd0 : 0 ≤ m / z := Int.ediv_nonneg m0 (by omega)
  have hd1 : m / z ≤ m := Int.ediv_le_self z m0
  refine q_asgL (el_lst ea_nil (by decide)) fun p H3 np e3 h3 => ?_
  have npH : H p = none := fresh_back (e1.trans e2) np
  have e13 : Ex H H3 := (e1.trans e2).trans e3
  have hc3 : H3 c = some (.lst (ds.map V.int)) := e3 _ _ (e2 _ _ h1)
  have npc : ¬ p = c := fun q => by
    rw [q, e2 _ _ h1] at np
    cases np
  refine q_forLn (a := c) (xs := ds.map V.int) (ev_var rfl) (sq_of hc3) (fun i σ' H' => ∃ (y5 y6 : Option V) (ns : List Int), σ' = [some (.ref a), some (.int m), some (.ref c), some (.int (1 + m / z)), some (.ref p), y5, y6] ∧ ns.length ≤ i * 600 ∧ Bd ns ∧ Ex H H' ∧ H' c = some (.lst (ds.map V.int)) ∧ H' p = some (.lst (ns.map V.int))) ?_ ?_ ?_ ?_
  · intro H4 e4
    exact ⟨none, none, [], rfl, Nat.zero_le _, Bd.nil, e13.trans e4, e4 _ _ hc3, e4 _ _ h3⟩
  · rintro i σ' H' _ ⟨_, _, _, _, _, _, _, hc, _⟩
    exact sq_of hc
  · rintro i x σ' H' hi ⟨y5, y6, ns, rfl, hl, hb, ex, hc, hp⟩
    obtain ⟨u, rfl⟩ : ∃ u, x = V.int u := by
      rw [List.getElem?_map] at hi
      cases e : ds[i]? with
      | none => rw [e] at hi; cases hi
      | some u => rw [e] at hi; exact ⟨u, (Option.some.inj hi).symm⟩
    have hi63 : i < 63 := by
      have q := (List.getElem?_eq_some_iff.mp hi).1
      rw [List.length_map] at q
      omega
    refine s_forC (by walk_at "ev") fun H4 e4 => ?_
    refine ⟨u, 1 + m / z, rfl, by omega, by omega, fun rs r H5 hrl hrb hr0 e5 hr => ?_⟩
    have hrp : ¬ p = r := fun q => by
      rw [← q, e4 _ _ hp] at hr0
      cases hr0
    have hrH : H r = none := fresh_back (ex.trans e4) hr0
    refine ⟨r, rfl, ⟨_, sq_of hr⟩, for_list (xs := rs.map V.int) (fun j σ' H' => ∃ (y6 : Option V) (ns : List Int), σ' = [some (.ref a), some (.int m), some (.ref c), some (.int (1 + m / z)), some (.ref p), some (.int u), y6] ∧ ns.length ≤ i * 600 + j ∧ Bd ns ∧ Ex H H' ∧ H' c = some (.lst (ds.map V.int)) ∧ H' p = some (.lst (ns.map V.int)) ∧ H' r = some (.lst (rs.map V.int))) ?_ ?_ ?_ ?_⟩
    · exact ⟨y6, ns, rfl, hl, hb, (ex.trans e4).trans e5, e5 _ _ (e4 _ _ hc), e5 _ _ (e4 _ _ hp), hr⟩
    · rintro j σ' H' _ ⟨_, _, _, _, _, _, _, _, hr⟩
      exact sq_of hr
    · rintro j x σ' H' hj ⟨y6, ns, rfl, hl, hb, ex, hc, hp, hr⟩
      have hjm : x ∈ rs.map V.int := List.mem_of_getElem? hj
      have hj600 : j < 600 := by
        have q := (List.getElem?_eq_some_iff.mp hj).1
        rw [List.length_map] at q
        omega
      obtain ⟨v, hv, rfl⟩ := List.mem_map.mp hjm
      have hn : (ns.map V.int).length < 100000 := by rw [List.length_map]; omega
      refine s_app hp (by walk_at "ev") (by walk_at "ev") hn fun H7 e7 => ?_
      refine ⟨_, ns ++ [v], rfl, by rw [List.length_append, List.length_singleton]; omega, hb.snoc (hrb v hv).1 (hrb v hv).2, Ex.mut (ex.trans e7) npH, ?_, ?_, ?_⟩
      · rw [upd_ne (Ne.symm npc)]
        exact e7 _ _ hc
      · rw [upd_same, map_snoc]
      · rw [upd_ne (Ne.symm hrp)]
        exact e7 _ _ hr
    · rintro σ' H' ⟨y6, ns, rfl, hl, hb, ex, hc, hp, hr⟩
      refine ⟨_, _, ns, rfl, ?_, hb, ex, hc, hp⟩
      rw [List.length_map] at hl
      omega
  · rintro σ' H' ⟨y5, y6, ns, rfl, hl, hb, ex, hc, hp⟩
    have hl' : ns.length ≤ 63 * 600 := by
      rw [List.length_map] at hl
      have : ds.length * 600 ≤ 63 * 600 := Nat.mul_le_mul_right _ hL
      omega
    refine q_while (fun n σ' H' => ∃ (ns : List Int), σ' = [some (.ref a), some (.int m), some (.ref c), some (.int (1 + m / z)), some (.ref p), y5, y6] ∧ n = m.toNat - ns.length ∧ ns.length ≤ 40000 ∧ Bd ns ∧ Ex H H' ∧ H' p = some (.lst (ns.map V.int))) (m.toNat - ns.length) ⟨ns, rfl, rfl, by omega, hb, ex, hp⟩ ?_
    rintro n σ' H' ⟨ns, rfl, rfl, hl, hb, ex, hp⟩
    have hn : (ns.map V.int).length < 100000 := by rw [List.length_map]; omega
    refine ⟨decide (((ns.map V.int).length : Int) < m), by walk_at "ev", fun hlt H4 e4 => ?_, fun hge H4 e4 => ?_⟩
    · have hlt := of_decide_eq_true hlt
      rw [List.length_map] at hlt
      refine ⟨fun σ2 H2 => ∃ m', m' < m.toNat - ns.length ∧ (∃ (ns : List Int), σ2 = [some (.ref a), some (.int m), some (.ref c), some (.int (1 + m / z)), some (.ref p), y5, y6] ∧ m' = m.toNat - ns.length ∧ ns.length ≤ 40000 ∧ Bd ns ∧ Ex H H2 ∧ H2 p = some (.lst (ns.map V.int))), fun _ _ h => h, ?_⟩
      refine s_app (e4 _ _ hp) (by walk_at "ev") (by walk_at "ev") hn fun H7 e7 => ?_
      refine ⟨m.toNat - (ns.length + 1), by omega, ns ++ [0], rfl, by rw [List.length_append]; rfl, by rw [List.length_append, List.length_singleton]; omega, hb.snoc (by decide) (by decide), Ex.mut ((ex.trans e4).trans e7) npH, ?_⟩
      rw [upd_same, map_snoc]
    · have hge := of_decide_eq_false hge
      rw [List.length_map] at hge
      refine s_retL (el_sl (ev_var rfl) eo_none (eo_some (ev_var rfl)) (sq_of (e4 _ _ hp))) fun q H5 nq e5 h5 => ?_
      refine k (ns.take m.toNat) q H5 (by rw [List.length_take]; omega) (hb.take _) (fresh_back (ex.trans e4) nq) ((ex.trans e4).trans e5) ?_
      rw [h5, List.map_take, ← cut_pre, Int.toNat_of_nonneg m0]
end
end My
set_option Elab.async false
set_option linter.all false
set_option maxRecDepth 100000
set_option maxHeartbeats 1000000
namespace My
open PySem L2 Evl
local macro_rules | `(tactic| walk_at "ev") => `(tactic| repeat' (first
  | exact ev_c
  | exact ev_var rfl
  | exact ea_nil
  | exact eo_none
  | (refine' ev_cb ?ea (rc_len ?sq); (case ea => walk_at "evs"); (case sq => walk_at "sq"))
  | (refine' ev_op ?a ?b (rv_ixL ?sq ?ix); (case a => walk_at "evs"); (case b => walk_at "evs"); (case sq => walk_at "sq"); (case ix => walk_at "at"))
  | refine' ea_cons ?_ ?_
  | refine' eo_some ?_
  | refine' ev_op ?_ ?_ rv_I0
  | refine' ev_op ?_ ?_ (rv_eq ?_)
  | refine' ev_op ?_ ?_ (rv_ne ?_)
  | refine' ev_op ?_ ?_ (rv_I ?_)
  | refine' ev_un ?_ ru_neg
  | refine' ev_cb ?_ rc_int
  | refine' ev_cb ?_ rc_abs
  | refine' ev_cb ?_ rc_max2
  | refine' ev_andV ?_ ?_
  | refine' ev_notV ?_
  | refine' et_test ?_
  | refine' et_B ?_
  | refine' et_not ?_))
local macro_rules | `(tactic| walk_at "side") => `(tactic| first
  | rfl
  | decide
  | exact ⟨by decide, by decide⟩
  | exact .inr ⟨by decide, by decide⟩
  | exact .inl ⟨by decide, by decide⟩
  | omega
  | exact .inl ⟨by omega, by omega⟩
  | exact .inr ⟨by omega, by omega⟩)
local macro_rules | `(tactic| walk_at "evs") => `(tactic| (walk_at "ev"; all_goals (walk_at "side")))
local macro_rules | `(tactic| walk_at "ex") => `(tactic| first
  | exact Ex.refl _
  | assumption
  | (refine' Ex.trans ?_ ?b; (case b => assumption); walk_at "ex"))
local macro_rules | `(tactic| walk_at "sq") => `(tactic| first
  | assumption
  | exact sq_of (by assumption)
  | (refine' ex_l ?e ?h; (case h => assumption); (case e => walk_at "ex"))
  | (refine' sq_ex ?h ?e; (case h => assumption); (case e => walk_at "ex")))
local macro_rules | `(tactic| walk_at "at") => `(tactic| first
  | exact at_int (by omega) (by omega)
  | exact atI_nat (j := 0) rfl
  | exact atI_nat (j := 1) rfl
  | exact atI_nat (j := 2) rfl)
local macro_rules | `(tactic| walk_at "side2") => `(tactic| first | exact CMul_bdl (by assumption) | exact CMul_bdr (by assumption) | walk_at "side")
local macro_rules | `(tactic| walk_at "evb") => `(tactic| (walk_at "ev"; all_goals (walk_at "side2")))

section
variable {P : Program} {w : World} {K : PySem.W.Frag} {mg : Str → Option Value} {base : Heap}
/-! _law_is_integer: 0 actual -/
abbrev s_law_is_integer : Stmt := topS 15
theorem sc_law_is_integer : FnScope ["actual"] ["actual"] (defScope s_law_is_integer) := ⟨rfl, rfl, rfl, by decide +kernel, rfl, by decide +kernel, by decide +kernel⟩
def spIsInt : Sp := fun vs H Q _ => ∃ i : Int, vs = [.int i] ∧ RetV (.bl true) H Q
theorem ok_isint {f : Addr} {fd : FuncData} (F : Fun K "_law_is_integer" "_law_is_integer" s_law_is_integer f fd) (T : Txt mg) : FnOk P w K mg base CX0 1 f fd ["actual"] spIsInt := by
  refine F.ok sc_law_is_integer (fun vs H Q E h => ?_) (fun cdv A outer s H vs Q E hr h => ?_)
  · obtain ⟨i, rfl, _⟩ := h
    rfl
  obtain ⟨i, rfl, k⟩ := h
  refine ⟨_, (pss_one (ps_ret (pe_and (pe_callB call_isi (by rfl) T.z_isinstance (by decide +kernel) (pa_cons (pv 0) (pa_cons (pe_bltn (v := .ty "int") (by rfl) T.z_int (by decide +kernel) rfl) pa_nil))) (pe_one (pe_not (pe_callB call_isi (by rfl) T.z_isinstance (by decide +kernel) (pa_cons (pv 0) (pa_cons (pe_bltn (v := .ty "bool") (by rfl) T.z_bool (by decide +kernel) rfl) pa_nil)))))))), ?_⟩
  refine s_ret (ev_andV (a := true) (b := true) (ev_cb (ea_cons (ev_var rfl) (ea_cons ev_c ea_nil)) (rc_isiInt (by decide +kernel))) fun _ => ev_is (ev_notV (ev_cb (ea_cons (ev_var rfl) (ea_cons ev_c ea_nil)) (rc_isiInt (b := false) (by decide +kernel)))) rfl) fun H1 e1 => k H1 e1
/-! _law_is_row: 0 actual, 1 expected, 2 k -/
abbrev s_law_is_row : Stmt := topS 16
theorem sc_law_is_row : FnScope ["actual", "expected", "k"] ["actual", "expected"] (defScope s_law_is_row) := ⟨rfl, rfl, rfl, by decide +kernel, rfl, by decide +kernel, by decide +kernel⟩
def spIsRow (K : PySem.W.Frag) : Sp := fun vs H Q _ => ∃ (a b : Addr) (ns : List Int), vs = [.ref a, .ref b] ∧ H a = some (.lst (ns.map V.int)) ∧ SqL K H b (ns.map V.int) ∧ ns.length ≤ 90000 ∧ RetV (.bl true) H Q
theorem ok_isrow {f : Addr} {fd : FuncData} (F : Fun K "_law_is_row" "_law_is_row" s_law_is_row f fd) (T : Txt mg) (D_law_is_integer : Dk P w K mg base CX0 1 "_law_is_integer" ["actual"] spIsInt) : FnOk P w K mg base CX0 2 f fd ["actual", "expected"] (spIsRow K) := by
  refine F.ok sc_law_is_row (fun vs H Q E h => ?_) (fun cdv A outer s H vs Q E hr h => ?_)
  · obtain ⟨a, b, ns, rfl, _⟩ := h
    rfl
  obtain ⟨a, b, ns, rfl, hA, hB, hl, k⟩ := h
  refine ⟨_, (pss_cons (ps_if (PW.pt (pw_or (pt_not (pt_val (pe_callB call_isi (by rfl) T.z_isinstance (by decide +kernel) (pa_cons (pv 0) (pa_cons (pe_bltn (v := .ty "list") (by rfl) T.z_list (by decide +kernel) rfl) pa_nil))))) (pw_or1 (pt_cmpR op_ne (pe_callB call_len_seq (by rfl) T.z_len PySem.boot_len (pa_cons (pv 0) pa_nil)) (pe_callB call_len_seq (by rfl) T.z_len PySem.boot_len (pa_cons (pv 1) pa_nil)) (nomark _)))))
      (pss_one (ps_ret pe_bl))
      pss_nil)
    (pss_cons (ps_for PassesOwn.never rfl (pi_range1 (by rfl) T.z_range (pa_cons (pe_callB call_len_seq (by rfl) T.z_len PySem.boot_len (pa_cons (pv 1) pa_nil)) pa_nil)) (pg_name (i := 2) sc_law_is_row.nd rfl (Or.inl rfl))
      (pss_one (ps_if (PW.pt (pw_or (pt_not (pt_val (pe_cd D_law_is_integer hr (by rfl) (pa_cons (pe_ix ix_list (pv 0) (pv 2) (fun _ _ => rfl)) pa_nil)))) (pw_or1 (pt_cmpR op_ne (pe_ix ix_list (pv 0) (pv 2) (fun _ _ => rfl)) (pe_ix ix_list (pv 1) (pv 2) (fun _ _ => rfl)) (nomark _)))))
        (pss_one (ps_ret pe_bl))
        pss_nil)))
    (pss_one (ps_ret pe_bl)))), ?_⟩
  refine q_when (b := false) (et_is (et_or (a := false) (b := false) (et_is (et_not (et_B (ev_cb (ea_cons (ev_var rfl) (ea_cons ev_c ea_nil)) (rc_isiLst (b := true) hA (by decide +kernel))))) rfl) fun _ => et_is (et_test (ev_op (ev_cb (ea_cons (ev_var rfl) ea_nil) (rc_len (sq_of hA))) (ev_cb (ea_cons (ev_var rfl) ea_nil) (rc_len hB)) (rv_ne rfl))) (by rw [decide_eq_true rfl]; rfl)) rfl) (fun q => Bool.noConfusion q) fun _ H1 e1 => ?_
  refine q_forR1 (n := (ns.length : Int)) (show EvA _ _ H1 [.int (ns.length : Int)] from ea_cons (ev_is (ev_cb (ea_cons (ev_var rfl) ea_nil) (rc_len (ex_l e1 hB))) (by rw [List.length_map])) ea_nil) (by omega) (fun i σ' H' => ∃ y, σ' = [some (.ref a), some (.ref b), y] ∧ Ex H H') ?_ ?_ ?_
  · intro H2 e2
    exact ⟨none, rfl, e1.trans e2⟩
  · rintro i σ' H' hi ⟨y, rfl, ex⟩
    have hi' : i < (ns.map V.int).length := by rw [List.length_map]; omega
    have g1 : Ev _ [some (V.ref a), some (V.ref b), some (V.int (i : Int))] H' (.int (ns.getD i 0)) := ev_op (r := rIxL K) (ta := tVar 0) (tb := tVar 2) (ev_var rfl) (ev_var rfl) (rv_ixL (sq_of (ex _ _ hA)) (at_int (by omega) hi))
    have g2 : Ev _ [some (V.ref a), some (V.ref b), some (V.int (i : Int))] H' (.int (ns.getD i 0)) := ev_op (r := rIxL K) (ta := tVar 1) (tb := tVar 2) (ev_var rfl) (ev_var rfl) (rv_ixL (ex_l ex hB) (at_int (by omega) hi))
    refine s_when (b := false) (et_is (et_or (a := false) (b := false) (et_is (et_not (et_B (ev_call (z := .bl true) (ea_cons g1 ea_nil) fun H3 _ Q q E => ⟨_, rfl, fun H4 e4 => q H4 e4⟩))) rfl) fun _ => et_is (et_test (ev_op g1 g2 (rv_ne rfl))) (by rw [decide_eq_true rfl]; rfl)) rfl) (fun q => Bool.noConfusion q) fun _ H2 e2 => ?_
    exact ⟨_, rfl, ex.trans e2⟩
  · rintro σ' H' ⟨y, rfl, ex⟩
    exact s_ret ev_c fun H2 e2 => k H2 (ex.trans e2)
end
end My
set_option Elab.async false
set_option linter.all false
set_option maxRecDepth 100000
set_option maxHeartbeats 1000000
namespace My
open PySem L2 Evl
local macro_rules | `(tactic| walk_at "ev") => `(tactic| repeat' (first
  | exact ev_c
  | exact ev_var rfl
  | exact ea_nil
  | exact eo_none
  | (refine' ev_cb ?ea (rc_len ?sq); (case ea => walk_at "evs"); (case sq => walk_at "sq"))
  | (refine' ev_op ?a ?b (rv_ixL ?sq ?ix); (case a => walk_at "evs"); (case b => walk_at "evs"); (case sq => walk_at "sq"); (case ix => walk_at "at"))
  | refine' ea_cons ?_ ?_
  | refine' eo_some ?_
  | refine' ev_op ?_ ?_ rv_I0
  | refine' ev_op ?_ ?_ (rv_eq ?_)
  | refine' ev_op ?_ ?_ (rv_ne ?_)
  | refine' ev_op ?_ ?_ (rv_I ?_)
  | refine' ev_un ?_ ru_neg
  | refine' ev_cb ?_ rc_int
  | refine' ev_cb ?_ rc_abs
  | refine' ev_cb ?_ rc_max2
  | refine' ev_andV ?_ ?_
  | refine' ev_notV ?_
  | refine' et_test ?_
  | refine' et_B ?_
  | refine' et_not ?_))
local macro_rules | `(tactic| walk_at "side") => `(tactic| first
  | rfl
  | decide
  | exact ⟨by decide, by decide⟩
  | exact .inr ⟨by decide, by decide⟩
  | exact .inl ⟨by decide, by decide⟩
  | omega
  | exact .inl ⟨by omega, by omega⟩
  | exact .inr ⟨by omega, by omega⟩)
local macro_rules | `(tactic| walk_at "evs") => `(tactic| (walk_at "ev"; all_goals (walk_at "side")))
local macro_rules | `(tactic| walk_at "ex") => `(tactic| first
  | exact Ex.refl _
  | assumption
  | (refine' Ex.trans ?_ ?b; (case b => assumption); walk_at "ex"))
local macro_rules | `(tactic| walk_at "sq") => `(tactic| first
  | assumption
  | exact sq_of (by assumption)
  | (refine' ex_l ?e ?h; (case h => assumption); (case e => walk_at "ex"))
  | (refine' sq_ex ?h ?e; (case h => assumption); (case e => walk_at "ex")))
local macro_rules | `(tactic| walk_at "at") => `(tactic| first
  | exact at_int (by omega) (by omega)
  | exact atI_nat (j := 0) rfl
  | exact atI_nat (j := 1) rfl
  | exact atI_nat (j := 2) rfl)
local macro_rules | `(tactic| walk_at "side2") => `(tactic| first | exact CMul_bdl (by assumption) | exact CMul_bdr (by assumption) | walk_at "side")
local macro_rules | `(tactic| walk_at "evb") => `(tactic| (walk_at "ev"; all_goals (walk_at "side2")))

section
variable {P : Program} {w : World} {K : PySem.W.Frag} {mg : Str → Option Value} {base : Heap}
/-! _law_items: 0 numbers*, 1 at*, 2 size, 3 most*, 4 k -/
abbrev s_law_items : Stmt := topS 17
theorem sc_law_items : FnScope ["numbers", "at", "size", "most", "k"] ["numbers", "at", "size", "most"] (defScope s_law_items) := ⟨rfl, rfl, rfl, by decide +kernel, rfl, by decide +kernel, by decide +kernel⟩
def spItems (K : PySem.W.Frag) : Sp := fun vs H Q _ => ∃ (a : Addr) (ns : List Int) (t s q : Int), vs = [.ref a, .int t, .int s, .int q] ∧ SqL K H a (ns.map V.int) ∧ Bd ns ∧ 0 ≤ t ∧ t + 12 ≤ ns.length ∧ 0 ≤ s ∧ s ≤ 255 ∧ 0 < q ∧
  ∀ (rs : List Int) p H2, (rs.length : Int) = s → H p = none → Ex H H2 → H2 p = some (.lst (rs.map V.int)) → Q (.ref p) H2
theorem ok_items {f : Addr} {fd : FuncData} (F : Fun K "_law_items" "_law_items" s_law_items f fd) (T : Txt mg) : FnOk P w K mg base CX0 1 f fd ["numbers", "at", "size", "most"] (spItems K) := by
  refine F.ok sc_law_items (fun vs H Q E h => ?_) (fun cdv A outer s H vs Q E hr h => ?_)
  · obtain ⟨_, _, _, _, _, rfl, _⟩ := h
    rfl
  obtain ⟨a, ns, t, s, q, rfl, hS, hB, t0, t1, s0, s1, q0, k⟩ := h
  refine ⟨_, (pss_one (ps_ret (pe_lc (own := [("k", 4)]) (g := (gName 4)) (tt := tYes) rfl sc_law_items.nd (pi_range1 (by rfl) T.z_range (pa_cons (pv 2) pa_nil)) (blkOk_by (own := [("k", 4)]) (N := ["numbers", "at", "size", "most", "k"]) (sc := defScope s_law_items) (by decide +kernel)) (fun _ _ _ _ _ => (pg_name (i := 4) sc_law_items.nd rfl (Or.inl rfl))) (fun _ _ _ _ _ => pts_nil) (fun _ _ _ _ _ => pe_op op_mod (pe_callTy call_int1 (by rfl) T.z_int (by decide +kernel) (pa_cons (pe_op op_add (pe_op op_mul (pe_ix (ix_listK (K := K) rfl) (pv 0) (pe_op op_add (pv 1) (pe_op op_mod (pv 4) pe_int)) (fun _ _ => rfl)) (pe_op op_add pe_int (pe_op op_fdiv (pv 4) pe_int))) (pe_op op_fdiv (pv 4) pe_int)) pa_nil)) (pv 3))))), ?_⟩
  refine s_retL (el_lcR1 (fun _ => true) (fun i => .int ((ns.getD (t + (i : Int) % 12).toNat 0 * (1 + (i : Int) / 12) + (i : Int) / 12) % q)) (by walk_at "ev") ⟨s0, by omega⟩ (fun _ => rfl) (fun _ _ _ _ => et_yes) (fun i H1 e1 hi _ => by walk_at "evb")) fun p H1 np e1 h1 => ?_
  refine k _ p H1 ?_ np e1 (h1.trans (congrArg (fun z => some (HO.lst z)) (given_all _ _)))
  rw [List.length_map, List.length_range]
  omega
end
end My
set_option Elab.async false
set_option linter.all false
set_option maxRecDepth 100000
set_option maxHeartbeats 1000000
namespace My
open PySem L2 Evl
local macro_rules | `(tactic| walk_at "ev") => `(tactic| repeat' (first
  | exact ev_c
  | exact ev_var rfl
  | exact ea_nil
  | exact eo_none
  | (refine' ev_cb ?ea (rc_len ?sq); (case ea => walk_at "evs"); (case sq => walk_at "sq"))
  | (refine' ev_op ?a ?b (rv_ixL ?sq ?ix); (case a => walk_at "evs"); (case b => walk_at "evs"); (case sq => walk_at "sq"); (case ix => walk_at "at"))
  | refine' ea_cons ?_ ?_
  | refine' eo_some ?_
  | refine' ev_op ?_ ?_ rv_I0
  | refine' ev_op ?_ ?_ (rv_eq ?_)
  | refine' ev_op ?_ ?_ (rv_ne ?_)
  | refine' ev_op ?_ ?_ (rv_I ?_)
  | refine' ev_un ?_ ru_neg
  | refine' ev_cb ?_ rc_int
  | refine' ev_cb ?_ rc_abs
  | refine' ev_cb ?_ rc_max2
  | refine' ev_andV ?_ ?_
  | refine' ev_notV ?_
  | refine' et_test ?_
  | refine' et_B ?_
  | refine' et_not ?_))
local macro_rules | `(tactic| walk_at "side") => `(tactic| first
  | rfl
  | decide
  | exact ⟨by decide, by decide⟩
  | exact .inr ⟨by decide, by decide⟩
  | exact .inl ⟨by decide, by decide⟩
  | omega
  | exact .inl ⟨by omega, by omega⟩
  | exact .inr ⟨by omega, by omega⟩)
local macro_rules | `(tactic| walk_at "evs") => `(tactic| (walk_at "ev"; all_goals (walk_at "side")))
local macro_rules | `(tactic| walk_at "ex") => `(tactic| first
  | exact Ex.refl _
  | assumption
  | (refine' Ex.trans ?_ ?b; (case b => assumption); walk_at "ex"))
local macro_rules | `(tactic| walk_at "sq") => `(tactic| first
  | assumption
  | exact sq_of (by assumption)
  | (refine' ex_l ?e ?h; (case h => assumption); (case e => walk_at "ex"))
  | (refine' sq_ex ?h ?e; (case h => assumption); (case e => walk_at "ex")))
local macro_rules | `(tactic| walk_at "at") => `(tactic| first
  | exact at_int (by omega) (by omega)
  | exact atI_nat (j := 0) rfl
  | exact atI_nat (j := 1) rfl
  | exact atI_nat (j := 2) rfl)
local macro_rules | `(tactic| walk_at "side2") => `(tactic| first | exact CMul_bdl (by assumption) | exact CMul_bdr (by assumption) | walk_at "side")
local macro_rules | `(tactic| walk_at "evb") => `(tactic| (walk_at "ev"; all_goals (walk_at "side2")))

section
variable {P : Program} {w : World} {K : PySem.W.Frag} {mg : Str → Option Value} {base : Heap}
/-! _law_near: 0 numbers, 1 first, 2 most, 3 second, 4 k, 5 number -/
abbrev s_law_near : Stmt := topS 18
theorem sc_law_near : FnScope ["numbers", "first", "most", "second", "k", "number"] ["numbers", "first", "most"] (defScope s_law_near) := ⟨rfl, rfl, rfl, by decide +kernel, rfl, by decide +kernel, by decide +kernel⟩
def spNear (K : PySem.W.Frag) : Sp := fun vs H Q _ => ∃ (a b : Addr) (ns fs : List Int) (q : Int), vs = [.ref a, .ref b, .int q] ∧ SqL K H a (ns.map V.int) ∧ SqL K H b (fs.map V.int) ∧ 28 ≤ ns.length ∧ fs.length ≤ 255 ∧ 0 < q ∧
  ∀ (rs : List Int) p H2, rs.length = fs.length → H p = none → Ex H H2 → H2 p = some (.lst (rs.map V.int)) → Q (.ref p) H2
theorem ok_near {f : Addr} {fd : FuncData} (F : Fun K "_law_near" "_law_near" s_law_near f fd) (T : Txt mg) : FnOk P w K mg base CX0 1 f fd ["numbers", "first", "most"] (spNear K) := by
  refine F.ok sc_law_near (fun vs H Q E h => ?_) (fun cdv A outer s H vs Q E hr h => ?_)
  · obtain ⟨_, _, _, _, _, rfl, _⟩ := h
    rfl
  obtain ⟨a, b, ns, fs, q, rfl, hS, hF, n28, hl, q0, k⟩ := h
  refine ⟨_, (pss_cons (ps_set (i := 3) sc_law_near.nd rfl (Or.inl rfl) (pe_lst pa_nil))
    (pss_cons (ps_for PassesOwn.never rfl (pi_range1 (by rfl) T.z_range (pa_cons (pe_callB call_len_seq (by rfl) T.z_len PySem.boot_len (pa_cons (pv 1) pa_nil)) pa_nil)) (pg_name (i := 4) sc_law_near.nd rfl (Or.inl rfl))
      (pss_cons (ps_set (i := 5) sc_law_near.nd rfl (Or.inl rfl) (pe_op op_add (pe_ix ix_list (pv 0) (pe_op op_add pe_int (pe_op op_mod (pv 4) pe_int)) (fun _ _ => rfl)) (pe_op op_mul pe_int (pe_op op_fdiv (pv 4) pe_int))))
      (pss_one (ps_if (pt_cmpR op_eq (pe_op op_mod (pe_callTy call_int1 (by rfl) T.z_int (by decide +kernel) (pa_cons (pv 5) pa_nil)) pe_int) pe_int (nomark _))
        (pss_one (ps_expr (pe_bm PySem.F.plainAttrs_list PySem.F.slot_list_append PySem.F.type_list_append mt_append (pv 3) (pa_cons (pe_ix ix_list (pv 1) (pv 4) (fun _ _ => rfl)) pa_nil))))
        (pss_one (ps_expr (pe_bm PySem.F.plainAttrs_list PySem.F.slot_list_append PySem.F.type_list_append mt_append (pv 3) (pa_cons (pe_op op_mod (pe_callTy call_int1 (by rfl) T.z_int (by decide +kernel) (pa_cons (pe_op op_fdiv (pv 5) pe_int) pa_nil)) (pv 2)) pa_nil))))))))
    (pss_one (ps_ret (pv 3))))), ?_⟩
  refine q_asgL (el_lst ea_nil (by decide)) fun p H1 np e1 h1 => ?_
  refine q_forR1 (n := (fs.length : Int)) (ea_cons (ev_is (ev_cb (ea_cons (ev_var rfl) ea_nil) (rc_len (ex_l e1 hF))) (by rw [List.length_map])) ea_nil) (by omega) (fun i σ' H' => ∃ (y4 y5 : Option V) (rs : List Int), σ' = [some (.ref a), some (.ref b), some (.int q), some (.ref p), y4, y5] ∧ rs.length = i ∧ Ex H H' ∧ H' p = some (.lst (rs.map V.int))) ?_ ?_ ?_
  · intro H2 e2
    exact ⟨none, none, [], rfl, rfl, e1.trans e2, e2 _ _ h1⟩
  · rintro i σ' H' hi ⟨y4, y5, rs, rfl, hr, ex, hp⟩
    have hn : (rs.map V.int).length < 100000 := by rw [List.length_map]; omega
    refine q_asg (by walk_at "evs") fun H2 e2 => ?_
    generalize ns.getD (16 + (i : Int) % 12).toNat 0 + 7 * ((i : Int) / 12) = z
    refine s_if (by walk_at "evs") (fun _ H3 e3 => ?_) (fun _ H3 e3 => ?_)
    · refine s_app (e3 _ _ (e2 _ _ hp)) (by walk_at "ev") (by walk_at "evs") hn fun H4 e4 => ?_
      refine ⟨_, _, rs ++ [fs.getD (i : Int).toNat 0], rfl, by rw [List.length_append, hr]; rfl, Ex.mut (((ex.trans e2).trans e3).trans e4) np, ?_⟩
      rw [upd_same, map_snoc]
    · refine s_app (e3 _ _ (e2 _ _ hp)) (by walk_at "ev") (by walk_at "evs") hn fun H4 e4 => ?_
      refine ⟨_, _, rs ++ [z / 2 % q], rfl, by rw [List.length_append, hr]; rfl, Ex.mut (((ex.trans e2).trans e3).trans e4) np, ?_⟩
      rw [upd_same, map_snoc]
  · rintro σ' H' ⟨y4, y5, rs, rfl, hr, ex, hp⟩
    exact s_ret (ev_var rfl) fun H2 e2 => k rs p H2 (by omega) np (ex.trans e2) (e2 _ _ hp)
/-! _law_with_gaps: 0 numbers, 1 word, 2 received, 3 k -/
abbrev s_law_with_gaps : Stmt := topS 19
theorem sc_law_with_gaps : FnScope ["numbers", "word", "received", "k"] ["numbers", "word"] (defScope s_law_with_gaps) := ⟨rfl, rfl, rfl, by decide +kernel, rfl, by decide +kernel, by decide +kernel⟩
def spGaps (K : PySem.W.Frag) : Sp := fun vs H Q _ => ∃ (a b : Addr) (ns ws : List Int), vs = [.ref a, .ref b] ∧ SqL K H a (ns.map V.int) ∧ SqL K H b (ws.map V.int) ∧ 40 ≤ ns.length ∧ ws.length ≤ 255 ∧
  ∀ (rs : List (Option Int)) p H2, rs.length = ws.length → H p = none → Ex H H2 → H2 p = some (.lst (rs.map oV)) → Q (.ref p) H2
theorem ok_gaps {f : Addr} {fd : FuncData} (F : Fun K "_law_with_gaps" "_law_with_gaps" s_law_with_gaps f fd) (T : Txt mg) : FnOk P w K mg base CX0 1 f fd ["numbers", "word"] (spGaps K) := by
  refine F.ok sc_law_with_gaps (fun vs H Q E h => ?_) (fun cdv A outer s H vs Q E hr h => ?_)
  · obtain ⟨_, _, _, _, rfl, _⟩ := h
    rfl
  obtain ⟨a, b, ns, ws, rfl, hS, hF, n40, hl, k⟩ := h
  refine ⟨_, (pss_cons (ps_set (i := 2) sc_law_with_gaps.nd rfl (Or.inl rfl) (pe_lst pa_nil))
    (pss_cons (ps_for PassesOwn.never rfl (pi_range1 (by rfl) T.z_range (pa_cons (pe_callB call_len_seq (by rfl) T.z_len PySem.boot_len (pa_cons (pv 1) pa_nil)) pa_nil)) (pg_name (i := 3) sc_law_with_gaps.nd rfl (Or.inl rfl))
      (pss_one (ps_if (pt_cmpR op_eq (pe_op op_mod (pe_callTy call_int1 (by rfl) T.z_int (by decide +kernel) (pa_cons (pe_op op_add (pe_ix ix_list (pv 0) (pe_op op_add pe_int (pe_op op_mod (pv 3) pe_int)) (fun _ _ => rfl)) (pe_op op_mul pe_int (pe_op op_fdiv (pv 3) pe_int))) pa_nil)) pe_int) pe_int (nomark _))
        (pss_one (ps_expr (pe_bm PySem.F.plainAttrs_list PySem.F.slot_list_append PySem.F.type_list_append mt_append (pv 2) (pa_cons pe_non pa_nil))))
        (pss_one (ps_expr (pe_bm PySem.F.plainAttrs_list PySem.F.slot_list_append PySem.F.type_list_append mt_append (pv 2) (pa_cons (pe_ix ix_list (pv 1) (pv 3) (fun _ _ => rfl)) pa_nil)))))))
    (pss_one (ps_ret (pv 2))))), ?_⟩
  refine q_asgL (el_lst ea_nil (by decide)) fun p H1 np e1 h1 => ?_
  refine q_forR1 (n := (ws.length : Int)) (ea_cons (ev_is (ev_cb (ea_cons (ev_var rfl) ea_nil) (rc_len (ex_l e1 hF))) (by rw [List.length_map])) ea_nil) (by omega) (fun i σ' H' => ∃ (y3 : Option V) (rs : List (Option Int)), σ' = [some (.ref a), some (.ref b), some (.ref p), y3] ∧ rs.length = i ∧ Ex H H' ∧ H' p = some (.lst (rs.map oV))) ?_ ?_ ?_
  · intro H2 e2
    exact ⟨none, [], rfl, rfl, e1.trans e2, e2 _ _ h1⟩
  · rintro i σ' H' hi ⟨y3, rs, rfl, hr, ex, hp⟩
    have hn : (rs.map oV).length < 100000 := by rw [List.length_map]; omega
    refine s_if (by walk_at "evs") (fun _ H3 e3 => ?_) (fun _ H3 e3 => ?_)
    · refine s_app (e3 _ _ hp) (by walk_at "ev") (by walk_at "evs") hn fun H4 e4 => ?_
      refine ⟨_, rs ++ [none], rfl, by rw [List.length_append, hr]; rfl, Ex.mut ((ex.trans e3).trans e4) np, ?_⟩
      rw [upd_same, List.map_append]
      rfl
    · refine s_app (e3 _ _ hp) (by walk_at "ev") (by walk_at "evs") hn fun H4 e4 => ?_
      refine ⟨_, rs ++ [some (ws.getD (i : Int).toNat 0)], rfl, by rw [List.length_append, hr]; rfl, Ex.mut ((ex.trans e3).trans e4) np, ?_⟩
      rw [upd_same, List.map_append]
      rfl
  · rintro σ' H' ⟨y3, rs, rfl, hr, ex, hp⟩
    exact s_ret (ev_var rfl) fun H2 e2 => k rs p H2 (by omega) np (ex.trans e2) (e2 _ _ hp)
end
end My
set_option Elab.async false
set_option linter.all false
set_option maxRecDepth 100000
set_option maxHeartbeats 1000000
namespace My
open PySem L2 Evl
local macro_rules | `(tactic| walk_at "ev") => `(tactic| repeat' (first
  | exact ev_c
  | exact ev_var rfl
  | exact ea_nil
  | exact eo_none
  | (refine' ev_cb ?ea (rc_len ?sq); (case ea => walk_at "evs"); (case sq => walk_at "sq"))
  | (refine' ev_op ?a ?b (rv_ixL ?sq ?ix); (case a => walk_at "evs"); (case b => walk_at "evs"); (case sq => walk_at "sq"); (case ix => walk_at "at"))
  | refine' ea_cons ?_ ?_
  | refine' eo_some ?_
  | refine' ev_op ?_ ?_ rv_I0
  | refine' ev_op ?_ ?_ (rv_eq ?_)
  | refine' ev_op ?_ ?_ (rv_ne ?_)
  | refine' ev_op ?_ ?_ (rv_I ?_)
  | refine' ev_un ?_ ru_neg
  | refine' ev_cb ?_ rc_int
  | refine' ev_cb ?_ rc_abs
  | refine' ev_cb ?_ rc_max2
  | refine' ev_andV ?_ ?_
  | refine' ev_notV ?_
  | refine' et_test ?_
  | refine' et_B ?_
  | refine' et_not ?_))
local macro_rules | `(tactic| walk_at "side") => `(tactic| first
  | rfl
  | decide
  | exact ⟨by decide, by decide⟩
  | exact .inr ⟨by decide, by decide⟩
  | exact .inl ⟨by decide, by decide⟩
  | omega
  | exact .inl ⟨by omega, by omega⟩
  | exact .inr ⟨by omega, by omega⟩)
local macro_rules | `(tactic| walk_at "evs") => `(tactic| (walk_at "ev"; all_goals (walk_at "side")))
local macro_rules | `(tactic| walk_at "ex") => `(tactic| first
  | exact Ex.refl _
  | assumption
  | (refine' Ex.trans ?_ ?b; (case b => assumption); walk_at "ex"))
local macro_rules | `(tactic| walk_at "sq") => `(tactic| first
  | assumption
  | exact sq_of (by assumption)
  | (refine' ex_l ?e ?h; (case h => assumption); (case e => walk_at "ex"))
  | (refine' sq_ex ?h ?e; (case h => assumption); (case e => walk_at "ex")))
local macro_rules | `(tactic| walk_at "at") => `(tactic| first
  | exact at_int (by omega) (by omega)
  | exact atI_nat (j := 0) rfl
  | exact atI_nat (j := 1) rfl
  | exact atI_nat (j := 2) rfl)
local macro_rules | `(tactic| walk_at "side2") => `(tactic| first | exact CMul_bdl (by assumption) | exact CMul_bdr (by assumption) | walk_at "side")
local macro_rules | `(tactic| walk_at "evb") => `(tactic| (walk_at "ev"; all_goals (walk_at "side2")))

section
variable {P : Program} {w : World} {K : PySem.W.Frag} {mg : Str → Option Value} {base : Heap}
/-! _law_counts: 0 first, 1 second, 2 received, 3 distance, 4 errors, 5 erased, 6 support, 7 k -/
abbrev s_law_counts : Stmt := topS 20
theorem sc_law_counts : FnScope ["first", "second", "received", "distance", "errors", "erased", "support", "k"] ["first", "second", "received"] (defScope s_law_counts) := ⟨rfl, rfl, rfl, by decide +kernel, rfl, by decide +kernel, by decide +kernel⟩
def spCounts (K : PySem.W.Frag) : Sp := fun vs H Q _ => ∃ (a b c : Addr) (fs ss : List Int) (rs : List (Option Int)) (n : Nat), vs = [.ref a, .ref b, .ref c] ∧ SqL K H a (fs.map V.int) ∧ SqL K H b (ss.map V.int) ∧ SqL K H c (rs.map oV) ∧
  fs.length = n ∧ ss.length = n ∧ rs.length = n ∧ n ≤ 255 ∧ ∀ p e s H2, H e = none → H s = none → Ex H H2 → H2 p = some (.tup [.int (sel n (fD fs ss)).length, .int (sel n (fE fs rs)).length, .ref e, .ref s]) →
    H2 e = some (.lst ((sel n (fN rs)).map V.int)) → H2 s = some (.lst ((sel n (fS fs)).map V.int)) → Q (.ref p) H2
theorem ok_counts {f : Addr} {fd : FuncData} (F : Fun K "_law_counts" "_law_counts" s_law_counts f fd) (T : Txt mg) : FnOk P w K mg base CX0 1 f fd ["first", "second", "received"] (spCounts K) := by
  refine F.ok sc_law_counts (fun vs H Q E h => ?_) (fun cdv A outer s H vs Q E hr h => ?_)
  · obtain ⟨_, _, _, _, _, _, _, rfl, _⟩ := h
    rfl
  obtain ⟨a, b, c, fs, ss, rs, n, rfl, hA, hB, hC, lA, lB, lC, hn, k⟩ := h
  refine ⟨_, (pss_cons (ps_set (i := 3) sc_law_counts.nd rfl (Or.inl rfl) pe_int)
    (pss_cons (ps_set (i := 4) sc_law_counts.nd rfl (Or.inl rfl) pe_int)
    (pss_cons (ps_set (i := 5) sc_law_counts.nd rfl (Or.inl rfl) (pe_lst pa_nil))
    (pss_cons (ps_set (i := 6) sc_law_counts.nd rfl (Or.inl rfl) (pe_lst pa_nil))
    (pss_cons (ps_for PassesOwn.never rfl (pi_range1 (by rfl) T.z_range (pa_cons (pe_callB call_len_seq (by rfl) T.z_len PySem.boot_len (pa_cons (pv 0) pa_nil)) pa_nil)) (pg_name (i := 7) sc_law_counts.nd rfl (Or.inl rfl))
      (pss_cons (ps_if (pt_cmpR op_ne (pe_ix ix_list (pv 0) (pv 7) (fun _ _ => rfl)) (pe_ix ix_list (pv 1) (pv 7) (fun _ _ => rfl)) (nomark _))
        (pss_one (ps_set (i := 3) sc_law_counts.nd rfl (Or.inl rfl) (pe_op op_add (pv 3) pe_int)))
        pss_nil)
      (pss_cut (ps_if (pt_cmpR op_isN (pe_ix ix_list (pv 2) (pv 7) (fun _ _ => rfl)) pe_non (nomark _))
        (pss_one (ps_expr (pe_bm PySem.F.plainAttrs_list PySem.F.slot_list_append PySem.F.type_list_append mt_append (pv 5) (pa_cons (pv 7) pa_nil))))
        (pss_one (ps_if (pt_cmpR op_ne (pe_ix ix_list (pv 2) (pv 7) (fun _ _ => rfl)) (pe_ix ix_list (pv 0) (pv 7) (fun _ _ => rfl)) (nomark _))
          (pss_one (ps_set (i := 4) sc_law_counts.nd rfl (Or.inl rfl) (pe_op op_add (pv 4) pe_int)))
          pss_nil)))
      (pss_one (ps_if (pt_cmpR op_ne (pe_ix ix_list (pv 0) (pv 7) (fun _ _ => rfl)) pe_int (nomark _))
        (pss_one (ps_expr (pe_bm PySem.F.plainAttrs_list PySem.F.slot_list_append PySem.F.type_list_append mt_append (pv 6) (pa_cons (pv 7) pa_nil))))
        pss_nil)))))
    (pss_one (ps_ret (pe_tup (pa_cons (pv 3) (pa_cons (pv 4) (pa_cons (pv 5) (pa_cons (pv 6) pa_nil)))))))))))), ?_⟩
  refine q_asg ev_c fun H1 e1 => ?_
  refine q_asg ev_c fun H2 e2 => ?_
  refine q_asgL (el_lst ea_nil (by decide)) fun e H3 ne e3 h3 => ?_
  refine q_asgL (el_lst ea_nil (by decide)) fun s H4 ns e4 h4 => ?_
  have ex4 : Ex H H4 := by walk_at "ex"
  have neH : H e = none := fresh_back (e1.trans e2) ne
  have nsH : H s = none := fresh_back ((e1.trans e2).trans e3) ns
  have nes : ¬ e = s := fun q => by
    rw [← q, h3] at ns
    cases ns
  refine q_forR1 (n := (n : Int)) (ea_cons (ev_is (ev_cb (ea_cons (ev_var rfl) ea_nil) (rc_len (ex_l ex4 hA))) (by rw [List.length_map, lA])) ea_nil) (by omega) (fun i σ' H' => ∃ y, σ' = [some (.ref a), some (.ref b), some (.ref c), some (.int (sel i (fD fs ss)).length), some (.int (sel i (fE fs rs)).length), some (.ref e), some (.ref s), y] ∧ Ex H H' ∧
    H' e = some (.lst ((sel i (fN rs)).map V.int)) ∧ H' s = some (.lst ((sel i (fS fs)).map V.int))) ?_ ?_ ?_
  · intro H5 e5
    exact ⟨none, rfl, ex4.trans e5, e5 _ _ (e4 _ _ h3), e5 _ _ h4⟩
  · rintro i σ' H' hi ⟨y, rfl, ex, he, hs⟩
    have hl1 : ((sel i (fN rs)).map V.int).length < 100000 := by have := sel_len i (fN rs); rw [List.length_map]; omega
    have hl2 : ((sel i (fS fs)).map V.int).length < 100000 := by have := sel_len i (fS fs); rw [List.length_map]; omega
    have iA : i < fs.length := by omega
    have iB : i < ss.length := by omega
    have iC : i < rs.length := by omega
    -- if first[k] != second[k]
    refine q_ifAsg (v := .int (sel (i + 1) (fD fs ss)).length) (b := fD fs ss i) (et_is (et_test (ev_op (ev_op (ev_var rfl) (ev_var rfl) (rv_ixL (ex_l ex hA) (at_intN iA))) (ev_op (ev_var rfl) (ev_var rfl) (rv_ixL (ex_l ex hB) (at_intN iB))) (rv_ne rfl))) (by rw [dec_int]; rfl)) (fun h => ?_) (fun h => ?_) fun H5 e5 => ?_
    · exact ev_is (by walk_at "evs") (by rw [sel_lenYes h])
    · rw [sel_no h]
      rfl
    -- received[k]
    refine q_cut (M := fun σ' H' => σ' = [some (.ref a), some (.ref b), some (.ref c), some (.int (sel (i + 1) (fD fs ss)).length), some (.int (sel (i + 1) (fE fs rs)).length), some (.ref e), some (.ref s), some (.int (i : Int))] ∧ Ex H H' ∧
      H' e = some (.lst ((sel (i + 1) (fN rs)).map V.int)) ∧ H' s = some (.lst ((sel i (fS fs)).map V.int))) ?_ ?_
    · have ex5 : Ex H H5 := ex.trans e5
      refine s_if (b := fN rs i) (et_is (et_test (ev_op (ev_op (ev_var rfl) (ev_var rfl) (rv_ixL (ex_l ex5 hC) (at_oV iC))) ev_c rv_isN)) (oV_non _)) (fun h H6 e6 => ?_) (fun h H6 e6 => ?_)
      · refine s_app (e6 _ _ (e5 _ _ he)) (by walk_at "ev") (by walk_at "ev") hl1 fun H7 e7 => ?_
        have hE : fE fs rs i = false := by
          show (!(rs.getD i none).isNone && _) = false
          rw [show (rs.getD i none).isNone = true from h]
          rfl
        refine ⟨by rw [sel_no hE]; rfl, Ex.mut ((ex5.trans e6).trans e7) neH, ?_, ?_⟩
        · rw [upd_same, sel_yes h, map_snoc]
        · rw [upd_ne (Ne.symm nes)]
          exact e7 _ _ (e6 _ _ (e5 _ _ hs))
      · have ex6 : Ex H H6 := ex5.trans e6
        have e56 : Ex H' H6 := e5.trans e6
        have hN : (rs.getD i none).isNone = false := h
        refine s_ifAsg (v := .int (sel (i + 1) (fE fs rs)).length) (b := fE fs rs i) (et_is (et_test (ev_op (ev_op (ev_var rfl) (ev_var rfl) (rv_ixL (ex_l ex6 hC) (at_oV iC))) (ev_op (ev_var rfl) (ev_var rfl) (rv_ixL (ex_l ex6 hA) (at_intN iA))) (rv_ne (scal_oV _ _)))) ?_) (fun h => ?_) (fun h => ?_) fun H7 e7 => ?_
        · show _ = (!(rs.getD i none).isNone && _)
          rw [hN]
          rfl
        · exact ev_is (by walk_at "evs") (by rw [sel_lenYes h])
        · rw [sel_no h]
          rfl
        · exact ⟨rfl, ex6.trans e7, by rw [sel_no h]; exact e7 _ _ (e56 _ _ he), e7 _ _ (e56 _ _ hs)⟩
    · rintro σ' H6 ⟨rfl, ex6, he6, hs6⟩
      refine s_when (b := fS fs i) (et_is (et_test (ev_op (ev_op (ev_var rfl) (ev_var rfl) (rv_ixL (ex_l ex6 hA) (at_intN iA))) ev_c (rv_ne rfl))) (by rw [dec_int]; rfl)) (fun h H7 e7 => ?_) (fun h H7 e7 => ?_)
      · refine s_app (e7 _ _ hs6) (by walk_at "ev") (by walk_at "ev") hl2 fun H8 e8 => ?_
        refine ⟨_, rfl, Ex.mut ((ex6.trans e7).trans e8) nsH, ?_, ?_⟩
        · rw [upd_ne nes]
          exact e8 _ _ (e7 _ _ he6)
        · rw [upd_same, sel_yes h, map_snoc]
      · exact ⟨_, rfl, ex6.trans e7, e7 _ _ he6, by rw [sel_no h]; exact e7 _ _ hs6⟩
  · rintro σ' H' ⟨y, rfl, ex, he, hs⟩
    refine s_retU (eu_tup (by walk_at "ev") (by show 4 ≤ 100000; decide)) fun p H5 np e5 h5 => ?_
    exact k p e s H5 neH nsH (ex.trans e5) h5 (e5 _ _ he) (e5 _ _ hs)
/-! weight_of: 0 word -/
abbrev s_weight_of : Stmt := topS 6
theorem sc_weight_of : FnScope ["word"] ["word"] (defScope s_weight_of) := ⟨rfl, rfl, rfl, by decide +kernel, rfl, by decide +kernel, by decide +kernel⟩
def spWeight (K : PySem.W.Frag) : Sp := fun vs H Q _ => ∃ (a : Addr) (fs : List Int), vs = [.ref a] ∧ SqL K H a (fs.map V.int) ∧ RetV (.int (sel fs.length (fS fs)).length) H Q
theorem ok_weight {f : Addr} {fd : FuncData} (F : Fun K "weight_of" "weight_of" s_weight_of f fd) (T : Txt mg) : FnOk P w K mg base CX0 1 f fd ["word"] (spWeight K) := by
  refine F.ok sc_weight_of (fun vs H Q E h => ?_) (fun cdv A outer s H vs Q E hr h => ?_)
  · obtain ⟨_, _, rfl, _⟩ := h
    rfl
  obtain ⟨a, fs, rfl, hA, k⟩ := h
  refine ⟨_, (pss_one (ps_ret (pe_op op_sub (pe_callB call_len_seq (by rfl) T.z_len PySem.boot_len (pa_cons (pv 0) pa_nil)) (pe_bm PySem.F.plainAttrs_list PySem.F.slot_list_count PySem.F.type_list_count mt_lcount (pv 0) (pa_cons pe_int pa_nil))))), ?_⟩
  refine ⟨_, rfl, a, _, rfl, .inl hA, _, rfl, .inl ⟨rfl, _, hA⟩, a, fs, 0, rfl, rfl, hA, _, _, rfl, rfl, ?_⟩
  have h0 := sel_count fs fs.length (Nat.le_refl _)
  rw [List.take_length] at h0
  have e : ((fs.map V.int).length : Int) - ((fs.count 0 : Nat) : Int) = ((sel fs.length (fS fs)).length : Int) := by
    rw [List.length_map]
    have h1 : ((sel fs.length (fS fs)).length : Int) + ((fs.count 0 : Nat) : Int) = (fs.length : Int) := h0
    omega
  show Q (V.int (((fs.map V.int).length : Int) - ((fs.count 0 : Nat) : Int))) H
  rw [e]
  exact k H (Ex.refl H)
end
end My
set_option Elab.async false
set_option linter.all false
set_option maxRecDepth 100000
set_option maxHeartbeats 1000000
namespace My
open PySem L2 Evl
local macro_rules | `(tactic| walk_at "ev") => `(tactic| repeat' (first
  | exact ev_c
  | exact ev_var rfl
  | exact ea_nil
  | exact eo_none
  | (refine' ev_cb ?ea (rc_len ?sq); (case ea => walk_at "evs"); (case sq => walk_at "sq"))
  | (refine' ev_op ?a ?b (rv_ixL ?sq ?ix); (case a => walk_at "evs"); (case b => walk_at "evs"); (case sq => walk_at "sq"); (case ix => walk_at "at"))
  | refine' ea_cons ?_ ?_
  | refine' eo_some ?_
  | refine' ev_op ?_ ?_ rv_I0
  | refine' ev_op ?_ ?_ (rv_eq ?_)
  | refine' ev_op ?_ ?_ (rv_ne ?_)
  | refine' ev_op ?_ ?_ (rv_I ?_)
  | refine' ev_un ?_ ru_neg
  | refine' ev_cb ?_ rc_int
  | refine' ev_cb ?_ rc_abs
  | refine' ev_cb ?_ rc_max2
  | refine' ev_andV ?_ ?_
  | refine' ev_notV ?_
  | refine' et_test ?_
  | refine' et_B ?_
  | refine' et_not ?_))
local macro_rules | `(tactic| walk_at "side") => `(tactic| first
  | rfl
  | decide
  | exact ⟨by decide, by decide⟩
  | exact .inr ⟨by decide, by decide⟩
  | exact .inl ⟨by decide, by decide⟩
  | omega
  | exact .inl ⟨by omega, by omega⟩
  | exact .inr ⟨by omega, by omega⟩)
local macro_rules | `(tactic| walk_at "evs") => `(tactic| (walk_at "ev"; all_goals (walk_at "side")))
local macro_rules | `(tactic| walk_at "ex") => `(tactic| first
  | exact Ex.refl _
  | assumption
  | (refine' Ex.trans ?_ ?b; (case b => assumption); walk_at "ex"))
local macro_rules | `(tactic| walk_at "sq") => `(tactic| first
  | assumption
  | exact sq_of (by assumption)
  | (refine' ex_l ?e ?h; (case h => assumption); (case e => walk_at "ex"))
  | (refine' sq_ex ?h ?e; (case h => assumption); (case e => walk_at "ex")))
local macro_rules | `(tactic| walk_at "at") => `(tactic| first
  | exact at_int (by omega) (by omega)
  | exact atI_nat (j := 0) rfl
  | exact atI_nat (j := 1) rfl
  | exact atI_nat (j := 2) rfl)
local macro_rules | `(tactic| walk_at "side2") => `(tactic| first | exact CMul_bdl (by assumption) | exact CMul_bdr (by assumption) | walk_at "side")
local macro_rules | `(tactic| walk_at "evb") => `(tactic| (walk_at "ev"; all_goals (walk_at "side2")))

section
variable {P : Program} {w : World} {K : PySem.W.Frag} {mg : Str → Option Value} {base : Heap}
/-! support_of: 0 word, 1 at, 2 item -/
abbrev s_support_of : Stmt := topS 7
theorem sc_support_of : FnScope ["word", "at", "item"] ["word"] (defScope s_support_of) := ⟨rfl, rfl, rfl, by decide +kernel, rfl, by decide +kernel, by decide +kernel⟩
def spSupport (K : PySem.W.Frag) : Sp := fun vs H Q _ => ∃ (a : Addr) (fs : List Int), vs = [.ref a] ∧ SqL K H a (fs.map V.int) ∧ fs.length ≤ 255 ∧ RetL ((sel fs.length (fS fs)).map V.int) H Q
theorem ok_support {f : Addr} {fd : FuncData} (F : Fun K "support_of" "support_of" s_support_of f fd) (T : Txt mg) : FnOk P w K mg base CX0 1 f fd ["word"] (spSupport K) := by
  refine F.ok sc_support_of (fun vs H Q E h => ?_) (fun cdv A outer s H vs Q E hr h => ?_)
  · obtain ⟨_, _, rfl, _⟩ := h
    rfl
  obtain ⟨a, fs, rfl, hA, hl, k⟩ := h
  refine ⟨_, (pss_one (ps_ret (pe_lc (own := [("at", 1), ("item", 2)])  rfl sc_support_of.nd (pi_enum (by rfl) T.z_enumerate (pa_cons (pv 0) pa_nil)) (blkOk_by (own := [("at", 1), ("item", 2)]) (N := ["word", "at", "item"]) (sc := defScope s_support_of) (by decide +kernel)) (fun _ _ _ _ _ => (pg_tupK (K := K) (n := 2) rfl rfl (pgs_cons (pg_name (i := 1) sc_support_of.nd rfl (Or.inl rfl)) (pgs_cons (pg_name (i := 2) sc_support_of.nd rfl (Or.inl rfl)) pgs_nil)))) (fun _ _ _ _ _ => pts_one (pt_cmpR op_ne (pv 2) pe_int (nomark _))) (fun _ _ _ _ _ => pv 1)))), ?_⟩
  refine s_retL (el_lcP (J := Ite K a) (fun H1 e1 R q => ⟨_, rfl, a, _, rfl, ex_l e1 hA, q H1 (Ex.refl H1)⟩) (walk_enum (xs := fs.map V.int)) (fun H1 e1 => ex_l e1 hA) (by rw [List.length_map]; omega) (fun x y => [some (.ref a), some x, some y])
    (fun T x y H' Q' hT q => ⟨T, [x, y], rfl, st_of hT, rfl, x, [y], rfl, y, [], rfl, rfl, q⟩) (fun _ _ => rfl) (fS fs) (fun i => .int (i : Int)) (fun i x y H1 e1 hx hy => ?_) (fun i x y H1 e1 hx hy _ => ?_)) fun p H1 np e1 h1 => ?_
  · have hi : i < fs.length := by
      have q := (List.getElem?_eq_some_iff.mp hy).1
      rwa [List.length_map] at q
    have ey : y = .int (fs.getD i 0) := by
      have q := hy
      rw [List.getElem?_map, List.getElem?_eq_getElem hi] at q
      rw [List.getD_eq_getElem?_getD, List.getElem?_eq_getElem hi]
      exact (Option.some.inj q).symm
    subst ey
    exact et_is (et_test (ev_op (ev_var rfl) ev_c (rv_ne rfl))) (by rw [dec_int]; rfl)
  · have ex : x = .int (i : Int) := (Option.some.inj hx).symm
    subst ex
    exact ev_var rfl
  · rw [List.length_map, given_sel] at h1
    exact k p H1 np e1 h1
/-! erased_positions: 0 received, 1 at, 2 item -/
abbrev s_erased_positions : Stmt := topS 10
theorem sc_erased_positions : FnScope ["received", "at", "item"] ["received"] (defScope s_erased_positions) := ⟨rfl, rfl, rfl, by decide +kernel, rfl, by decide +kernel, by decide +kernel⟩
def spErased (K : PySem.W.Frag) : Sp := fun vs H Q _ => ∃ (a : Addr) (rs : List (Option Int)), vs = [.ref a] ∧ SqL K H a (rs.map oV) ∧ rs.length ≤ 255 ∧ RetL ((sel rs.length (fN rs)).map V.int) H Q
theorem ok_erased {f : Addr} {fd : FuncData} (F : Fun K "erased_positions" "erased_positions" s_erased_positions f fd) (T : Txt mg) : FnOk P w K mg base CX0 1 f fd ["received"] (spErased K) := by
  refine F.ok sc_erased_positions (fun vs H Q E h => ?_) (fun cdv A outer s H vs Q E hr h => ?_)
  · obtain ⟨_, _, rfl, _⟩ := h
    rfl
  obtain ⟨a, rs, rfl, hA, hl, k⟩ := h
  refine ⟨_, (pss_one (ps_ret (pe_lc (own := [("at", 1), ("item", 2)])  rfl sc_erased_positions.nd (pi_enum (by rfl) T.z_enumerate (pa_cons (pv 0) pa_nil)) (blkOk_by (own := [("at", 1), ("item", 2)]) (N := ["received", "at", "item"]) (sc := defScope s_erased_positions) (by decide +kernel)) (fun _ _ _ _ _ => (pg_tupK (K := K) (n := 2) rfl rfl (pgs_cons (pg_name (i := 1) sc_erased_positions.nd rfl (Or.inl rfl)) (pgs_cons (pg_name (i := 2) sc_erased_positions.nd rfl (Or.inl rfl)) pgs_nil)))) (fun _ _ _ _ _ => pts_one (pt_cmpR op_isN (pv 2) pe_non (nomark _))) (fun _ _ _ _ _ => pv 1)))), ?_⟩
  refine s_retL (el_lcP (J := Ite K a) (fun H1 e1 R q => ⟨_, rfl, a, _, rfl, ex_l e1 hA, q H1 (Ex.refl H1)⟩) (walk_enum (xs := rs.map oV)) (fun H1 e1 => ex_l e1 hA) (by rw [List.length_map]; omega) (fun x y => [some (.ref a), some x, some y])
    (fun T x y H' Q' hT q => ⟨T, [x, y], rfl, st_of hT, rfl, x, [y], rfl, y, [], rfl, rfl, q⟩) (fun _ _ => rfl) (fN rs) (fun i => .int (i : Int)) (fun i x y H1 e1 hx hy => ?_) (fun i x y H1 e1 hx hy _ => ?_)) fun p H1 np e1 h1 => ?_
  · have hi : i < rs.length := by
      have q := (List.getElem?_eq_some_iff.mp hy).1
      rwa [List.length_map] at q
    have ey : y = oV (rs.getD i none) := by
      have q := hy
      rw [List.getElem?_map, List.getElem?_eq_getElem hi] at q
      rw [List.getD_eq_getElem?_getD, List.getElem?_eq_getElem hi]
      exact (Option.some.inj q).symm
    subst ey
    exact et_is (et_test (ev_op (ev_var rfl) ev_c rv_isN)) (oV_non _)
  · have ex : x = .int (i : Int) := (Option.some.inj hx).symm
    subst ex
    exact ev_var rfl
  · rw [List.length_map, given_sel] at h1
    exact k p H1 np e1 h1
end
end My
set_option Elab.async false
set_option linter.all false
set_option maxRecDepth 100000
set_option maxHeartbeats 1000000
namespace My
open PySem PySem.Spec PyProof.Rows L2 L2H

/-- the exception that a suite holds: of the class at D, without a dict of its own -/
def OfCls (D : Addr) (p : Addr × Obj) : Prop := Zc (.ref D) none p.2 ∧ ∃ vs, p.2.data = .fields vs

/-- a def that is handed the exception which is being handled, and lets nothing out -/
structure FnZ (P : Program) (w : World) (K : PySem.W.Frag) (mg : Str → Option Value) (base : Heap) (k : Nat) (f : Addr) (fd : FuncData) (ps : List Str) (D : Addr) (sp : Addr → Sp) : Prop where
  len : ∀ a vs H Q E, sp a vs H Q E → vs.length = ps.length
  run : ∀ (A : Around) (outer : List Env) (s : Shared) (H : Hp) (args : Args) (us : List Value) (vs : List V) (Q : VK) (E : XK) (p : Addr × Obj),
    RoomH k A → OfCls D p → PinOk outer H s p → Env0 P w K mg base A outer s H → BindsTo s fd args (ps.zip us) → Vals vs us → sp p.1 vs H Q E →
    codeAny (model P w) A (.call (.ref f) args) (CR CX0 outer P w H s Q E) s

section
variable {P : Program} {w : World} {K : PySem.W.Frag} {mg : Str → Option Value} {base : Heap}
theorem Fun.okZ {x qual : Str} {st : Stmt} {f D : Addr} {fd : FuncData} {N ps : List Str} {k : Nat} {sp : Addr → Sp}
    (F : Fun K x qual st f fd) (S : FnScope N ps (defScope st)) (len : ∀ a vs H Q E, sp a vs H Q E → vs.length = ps.length)
    (hbody : ∀ (cdv : Value) (A : Around) (outer : List Env) (s : Shared) (H : Hp) (vs : List V) (Q : VK) (E : XK) (p : Addr × Obj), OfCls D p → sp p.1 vs H Q E →
      ∃ t, PSs (cxH CX0 P w K mg base N qual (defScope st) f cdv A outer s H E p) (defBody st) t ∧ t { nx := fun _ H' => Q .non H', rt := Q } (L2.start N vs) H) :
    FnZ P w K mg base (k + 1) f fd ps D sp := by
  obtain ⟨oc, od, kV, doc, pm, an, cdv, ct, osl, rfl, lk, hcd⟩ := F.ex
  refine ⟨len, ?_⟩
  intro A outer s H args us vs Q E p room hz pin e0 hb rv h
  have inK : K.In s.heap := e0.mod.kin.keeps
    (fun b o e => (e0.bs b o e).1)
  have nolim : s.heap.NoLimit := e0.mod.nolimit.keeps
    (fun b o e => (e0.bs b o e).1)
  have kinds : ∀ y ∈ ps.zip us, (defScope st).names.lookup y.1 = some .local ∨
      ((defScope st).names.lookup y.1 = some .cell ∧ ((cellsFrom (s.heap.objs.size + 1) (defScope st).names []).lookup y.1).isSome = true) := by
    rintro ⟨n, v⟩ hy
    cases S.par n (List.of_mem_zip hy).1 with
    | inl q => exact .inl q
    | inr q => exact .inr ⟨q, PySem.W.cellsFrom_some _ _ _ (.inl q)⟩
  refine codeAny_call_function room.depth (inK _ _ lk) rfl S.co S.gen rfl
    (PySem.W.codeRec_of inK hcd) (hb _ _ _ _ ?_)
  refine wpAny_newFunctionEnv_cells S.kind kinds ?_
  intro env he s1 x
  subst he
  refine ⟨nolim.keeps x.toInCall.keep, codeAny_func ?_⟩
  obtain ⟨t, ht, hq⟩ := hbody cdv A outer s H vs Q E p hz h
  have I : Inv (cxH CX0 P w K mg base N qual (defScope st) f cdv A outer s H E p) [] (L2.start N vs) H s1 :=
    inv_startH S pin e0 (len _ _ _ _ _ h) rv x
  have back : ∀ {s' : Shared} {σ' : L2.St} {H' : Hp} {v : V} {u : Value}, Inv (cxH CX0 P w K mg base N qual (defScope st) f cdv A outer s H E p) [] σ' H' s' →
      RelV v u → Q v H' → CE outer P w H s Q u s' := by
    intro s' σ' H' v u J r q
    exact ⟨v, H', J.os, J.bare, J.base, J.hok, r, q⟩
  refine wpAny_mono (ht.run [] s1 _ H _ I hq) ?_ (fun e s' z => z)
  intro fl s' z
  cases fl with
  | ret u =>
    obtain ⟨v, σ', H', J, r, q⟩ := z
    exact back J r q
  | next =>
    obtain ⟨σ', H', J, q⟩ := z
    exact back (v := .non) (u := .none) J rfl q
  | brk =>
    obtain ⟨_, _, _, q⟩ := z
    exact q.elim
  | cont =>
    obtain ⟨_, _, _, q⟩ := z
    exact q.elim
end

section
variable {X : Cx} {k : Nat} {f D a : Addr} {fd : FuncData} {ps : List Str} {sp : Addr → Sp} {x : Str} {q pos : Pos} {e : Expr} {es : List Expr} {t : TA} {oe : Obj} {pn : List (Addr × Obj)} {cls : Value} {d : Option Addr}
/-- its call in the suite: what the exception is, is asked first -/
def tCallZ (D a : Addr) (cls : Value) (d : Option Addr) (sp : Addr → Sp) (t : TA) : TE := fun σ H Q =>
  (cls = .ref D ∧ d = none) ∧ t σ H fun vs H1 => sp a vs H1 Q E0
theorem pe_callZ (hz : Zc cls d oe) (hf : ∃ vs, oe.data = .fields vs) (F : FnZ X.prog X.w X.K X.mg X.base k f fd ps D sp) (hr : RoomH k X.A)
    (hm : X.mg x = some (.ref f)) (hk : PySem.W.keepIn X.K (.ref f) = true) (hb : Binds X.K fd ps [])
    (hg : Gl (X.suite a ((a, oe) :: pn)) x) (ha : PA (X.suite a ((a, oe) :: pn)) (e :: es) t) (hdb : (x == ("__debug__" : Str)) = false := by decide)
    (he : starEach (e :: es) X.env = (false, eval e X.env) :: starEach es X.env := by rfl) (hpl : (backTo pos (starEach es X.env)).any (·.1) = false := by rfl) :
    PE (X.suite a ((a, oe) :: pn)) (.Call (.Name x q) (e :: es) [] pos) (tCallZ D a cls d sp t) := by
  refine ⟨?_⟩
  intro pins s σ H Q I h
  obtain ⟨⟨hc, hd⟩, h⟩ := h
  subst hc hd
  refine wpAny_Call_Name_kw (ld_glob I hg hm ?_ hdb)
  refine PySem.W.callWith_K (h₀ := X.base) I.ok.mod.kin hk (thn (ha.run pos pins s σ H _ I h) ?_) he hpl
  rintro us s1 ⟨vs, H1, I1, r, h1⟩
  refine ⟨I1.kIn, ?_⟩
  have el : us.length = ps.length := r.length.symm.trans (F.len _ _ _ _ _ h1)
  have b := hb s1 us I1.kIn (by rw [List.append_nil]; exact el)
  rw [List.append_nil] at b
  obtain ⟨p1, p2, p3, p4, p5⟩ := I1.pin (a, oe) (List.mem_append.mpr (.inl List.mem_cons_self))
  have pin : PinOk (X.suite a ((a, oe) :: pn)).stack H1 s1 (a, oe) := by
    refine ⟨p1, p2, fun hmem => ?_, p5⟩
    cases List.mem_cons.mp (I1.stkSub a hmem) with
    | inl z => exact p3 z
    | inr z => exact p4 z
  refine wpAny_call (codeAny_mono (F.run (X.suite a ((a, oe) :: pn)).A _ s1 H1 ⟨us, []⟩ us vs Q E0 (a, oe) ⟨hr.dp, hr.un⟩ ⟨hz, hf⟩ pin I1.env0 b r h1) ?_)
  intro res s' hq
  cases res with
  | error e => exact False.elim hq
  | ok fl =>
    cases fl with
    | ret u => exact I1.after hq
    | next => exact False.elim hq
    | brk => exact False.elim hq
    | cont => exact False.elim hq
end

/-- isinstance of the exception that was handed on -/
theorem call_isZ {CX : CXT} {P : Program} {w : World} {K : PySem.W.Frag} {mg : Str → Option Value} {base : Heap} {N : List Str} {qual : Str} {scope : Scope} {f D : Addr} {cd : Value} {A : Around} {outer : List Env} {s : Shared} {H : Hp} {E : XK} {p : Addr × Obj}
    (C : ExcC K D) (hp : OfCls D p) : CallR (cxH CX P w K mg base N qual scope f cd A outer s H E p) (.builtin "isinstance") (rIsE K D p.1) := by
  intro pins s σ H xs us Q I r h
  obtain ⟨c, cv, b, ex, hcv, ek, q⟩ := h
  subst ex
  obtain ⟨a, oc, od, oda, osl⟩ := p
  obtain ⟨⟨h1, h2⟩, vs, h3⟩ := hp
  dsimp only at h1 h2 h3
  subst h1 h2 h3
  match us, r with
  | [u1, u2], .cons r1 (.cons r2 .nil) =>
    have e2 := hcv _ r2
    have e1 : u1 = .ref a := r1
    subst e1 e2
    have g := (I.pin (a, ⟨.ref D, none, .fields vs, osl⟩) (List.mem_append.mpr (.inl (List.mem_singleton.mpr rfl)))).1
    have J : PySem.W.InstAt s.heap a ⟨.ref D, none, .fields vs, osl⟩ D none := ⟨g, rfl, rfl, trivial⟩
    refine PySem.W.kia_one (PySem.W.handS_kitx_exc C.hg C.hk C.hs C.hd C.ha C.hn C.ht C.hm) I.kIn J ek (fun z => nomatch z) ?_
    intro tk
    exact ⟨.bl b, H, I.kept (t' := tk) fun _ _ z => z, rfl, q⟩
end My
namespace My
open PySem L2 L2H Evl
theorem rc_isE {K : PySem.W.Frag} {D a : Addr} {c : V} {cv : Value} {b : Bool} {H : Hp} (h : ∀ u, RelV c u → u = cv) (hk : PySem.W.kitOne K (.ref D) cv = some b) : RC (rIsE K D a) [.ref a, c] H (.bl b) :=
  fun H1 _ _ q => ⟨c, cv, b, rfl, h, hk, q H1 (Ex.refl H1)⟩
theorem pe_cdX {X : Cx} {k : Nat} {x : Str} {ps : List Str} {sp : Sp} {E : XK} {e : Expr} {es : List Expr} {t : TA} {p pos : Pos}
    (d : Dk X.prog X.w X.K X.mg X.base (L2.CX X.prog X.w) k x ps sp) (hr : Room k X.A) (hg : Gl X x) (hp : Passes (L2.CX X.prog X.w) X E) (ha : PA X (e :: es) t)
    (hdb : (x == ("__debug__" : Str)) = false := by decide)
    (he : starEach (e :: es) X.env = (false, eval e X.env) :: starEach es X.env := by rfl)
    (hpl : (backTo pos (starEach es X.env)).any (·.1) = false := by rfl) :
    PE X (.Call (.Name x p) (e :: es) [] pos) (tCall sp [] E t) := by
  obtain ⟨f, fd, g, kp, b, F⟩ := d.ex
  exact pe_call F hr hg g kp b .nil hp ha hdb he hpl
theorem pe_cdS {X : Cx} {k : Nat} {x : Str} {ps : List Str} {sp : Sp} {E : L2.St → XK} {e : Expr} {es : List Expr} {t : TA} {p pos : Pos}
    (d : Dk X.prog X.w X.K X.mg X.base (L2.CX X.prog X.w) k x ps sp) (hr : Room k X.A) (hg : Gl X x) (hp : ∀ σ, PassesAt (L2.CX X.prog X.w) X σ (E σ)) (ha : PA X (e :: es) t)
    (hdb : (x == ("__debug__" : Str)) = false := by decide)
    (he : starEach (e :: es) X.env = (false, eval e X.env) :: starEach es X.env := by rfl)
    (hpl : (backTo pos (starEach es X.env)).any (·.1) = false := by rfl) :
    PE X (.Call (.Name x p) (e :: es) [] pos) (tCallS sp E t) := by
  obtain ⟨f, fd, g, kp, b, F⟩ := d.ex
  exact pe_callS F hr hg g kp b hp ha hdb he hpl
end My

namespace My
open PySem PySem.W
theorem kit_own {K : Frag} {D C : Addr} {b : Bool} (s0 : subIn K (.ref D) (.ref D) = some true) (i : isClsIn K C = true) (t : typeIn K (.ref C) = some (.type "type")) (s : subIn K (.ref D) (.ref C) = some b) : kitOne K (.ref D) (.ref C) = some b := by
  unfold kitOne
  by_cases h : (Value.ref D == Value.ref C) = true
  · rw [if_pos h]
    have e : D = C := Value.ref.inj (eq_of_beq h)
    rw [← e, s0] at s
    exact s
  · rw [if_neg h]
    have e : ((clsIn K C).isSome && typeIn K (.ref C) == some (.type "type")) = true := by
      have i' : (clsIn K C).isSome = true := i
      rw [i', t]
      rfl
    show (if ((clsIn K C).isSome && typeIn K (.ref C) == some (.type "type")) = true then subIn K (.ref D) (.ref C) else none) = some b
    rw [if_pos e]
    exact s
theorem kit_base {K : Frag} {D : Addr} {T : String} {b : Bool} (m : kitMeta T = true) (s : subIn K (.ref D) (.type T) = some b) : kitOne K (.ref D) (.type T) = some b := by
  show (if (Value.ref D == Value.type T) = true then some true else if kitMeta T = true then subIn K (.ref D) (.type T) else none) = some b
  rw [if_neg (by intro q; cases eq_of_beq q), if_pos m]
  exact s
end My
set_option Elab.async false
set_option linter.all false
set_option maxRecDepth 100000
set_option maxHeartbeats 1000000
namespace My
open PySem L2 L2H Evl
structure ExTxt (K : PySem.W.Frag) (mg : Str → Option Value) (D cE cC cN : Addr) : Prop where
  g : mg "InvalidWord" = some (.ref D)
  x : PySem.W.excIn K D [.type "ValueError", .type "Exception", .type "BaseException", .type "object"] "ValueError.__new__" = true
  k : PySem.W.keepIn K (.ref D) = true
  b : PySem.W.subIn K (.ref D) (.type "BaseException") = some true
  t : PySem.W.typeIn K (.ref D) = some (.type "type")
  c : ExcC K D
  e : PySem.W.exmOne K (.ref D) (.ref D) = some true
  gE : mg "CodeError" = some (.ref cE)
  gC : mg "InvalidCode" = some (.ref cC)
  gN : mg "NotInCode" = some (.ref cN)
  zV : mg "ValueError" = none
  k1 : PySem.W.kitOne K (.ref D) (.ref cE) = some true
  k2 : PySem.W.kitOne K (.ref D) (.type "ValueError") = some true
  k3 : PySem.W.kitOne K (.ref D) (.ref cC) = some false
  k4 : PySem.W.kitOne K (.ref D) (.ref cN) = some false
local macro_rules | `(tactic| walk_at "ev") => `(tactic| repeat' (first
  | exact ev_c
  | exact ev_var rfl
  | exact ea_nil
  | exact eo_none
  | (refine' ev_cb ?ea (rc_len ?sq); (case ea => walk_at "evs"); (case sq => walk_at "sq"))
  | (refine' ev_op ?a ?b (rv_ixL ?sq ?ix); (case a => walk_at "evs"); (case b => walk_at "evs"); (case sq => walk_at "sq"); (case ix => walk_at "at"))
  | refine' ea_cons ?_ ?_
  | refine' eo_some ?_
  | refine' ev_op ?_ ?_ rv_I0
  | refine' ev_op ?_ ?_ (rv_eq ?_)
  | refine' ev_op ?_ ?_ (rv_ne ?_)
  | refine' ev_op ?_ ?_ (rv_I ?_)
  | refine' ev_un ?_ ru_neg
  | refine' ev_cb ?_ rc_int
  | refine' ev_cb ?_ rc_abs
  | refine' ev_cb ?_ rc_max2
  | refine' ev_andV ?_ ?_
  | refine' ev_notV ?_
  | refine' et_test ?_
  | refine' et_B ?_
  | refine' et_not ?_))
local macro_rules | `(tactic| walk_at "side") => `(tactic| first
  | rfl
  | decide
  | exact ⟨by decide, by decide⟩
  | exact .inr ⟨by decide, by decide⟩
  | exact .inl ⟨by decide, by decide⟩
  | omega
  | exact .inl ⟨by omega, by omega⟩
  | exact .inr ⟨by omega, by omega⟩)
local macro_rules | `(tactic| walk_at "evs") => `(tactic| (walk_at "ev"; all_goals (walk_at "side")))
local macro_rules | `(tactic| walk_at "ex") => `(tactic| first
  | with_reducible exact Ex.refl _
  | with_reducible assumption
  | (refine' Ex.trans ?_ ?b; (case b => with_reducible assumption); walk_at "ex"))
local macro_rules | `(tactic| walk_at "sq") => `(tactic| first
  | (refine' sq_ex ?h ?e; (case h => with_reducible assumption); (case e => walk_at "ex"))
  | (refine' ex_l ?e ?h; (case h => with_reducible assumption); (case e => walk_at "ex"))
  | (refine' ex_l ?e ?h; (case h => assumption); (case e => walk_at "ex"))
  | assumption
  | exact sq_of (by assumption))
local macro_rules | `(tactic| walk_at "at") => `(tactic| first
  | exact at_int (by omega) (by omega)
  | exact atI_nat (j := 0) rfl
  | exact atI_nat (j := 1) rfl
  | exact atI_nat (j := 2) rfl)
local macro_rules | `(tactic| walk_at "side2") => `(tactic| first | exact CMul_bdl (by assumption) | exact CMul_bdr (by assumption) | walk_at "side")
local macro_rules | `(tactic| walk_at "evb") => `(tactic| (walk_at "ev"; all_goals (walk_at "side2")))

section
variable {P : Program} {w : World} {K : PySem.W.Frag} {mg : Str → Option Value} {base : Heap} {D cE cC cN : Addr}
/-! _require_same_length: 0 first, 1 second -/
abbrev s_require_same_length : Stmt := topS 8
theorem sc_require_same_length : FnScope ["first", "second"] ["first", "second"] (defScope s_require_same_length) := ⟨rfl, rfl, rfl, by decide +kernel, rfl, by decide +kernel, by decide +kernel⟩
def spSame (K : PySem.W.Frag) (D : Addr) : Sp := fun vs H Q E => ∃ (a b : Addr) (xs ys : List V), vs = [.ref a, .ref b] ∧ SqL K H a xs ∧ SqL K H b ys ∧ (xs.length = ys.length → RetV .non H Q) ∧ (xs.length ≠ ys.length → ∀ H', Ex H H' → E (.ref D) none H')
theorem ok_same {f : Addr} {fd : FuncData} (F : Fun K "_require_same_length" "_require_same_length" s_require_same_length f fd) (T : Txt mg) (TE : ExTxt K mg D cE cC cN) : FnOk P w K mg base (L2.CX P w) 1 f fd ["first", "second"] (spSame K D) := by
  refine F.okX sc_require_same_length (fun vs H Q E h => ?_) (fun cdv A outer s H vs Q E hr h => ?_)
  · obtain ⟨_, _, _, _, rfl, _⟩ := h
    rfl
  obtain ⟨a, b, xs, ys, rfl, hA, hB, k1, k2⟩ := h
  refine ⟨_, pss_one (ps_if (pt_cmpR op_ne (pe_callB call_len_seq (by rfl) T.z_len PySem.boot_len (pa_cons (pv 0) pa_nil)) (pe_callB call_len_seq (by rfl) T.z_len PySem.boot_len (pa_cons (pv 1) pa_nil)) (nomark _))
      (pss_one (ps_raise rfl (takes_of rfl rfl rfl rfl) (pmk_own PySem.F.excBase_ValueError TE.x TE.g TE.k (raises_own TE.b TE.t) rfl)))
      pss_nil), ?_⟩
  refine s_if (b := !decide (xs.length = ys.length)) (et_is (et_test (ev_op (ev_cb (ea_cons (ev_var rfl) ea_nil) (rc_len hA)) (ev_cb (ea_cons (ev_var rfl) ea_nil) (rc_len hB)) (rv_ne rfl))) ?_) (fun hb H1 e1 => ?_) (fun hb H1 e1 => ?_)
  · rw [dec_int, dec_nat]
  · refine k2 (fun q => ?_) H1 e1
    rw [decide_eq_true q] at hb
    cases hb
  · refine k1 (of_decide_eq_true ?_) H1 e1
    cases h : decide (xs.length = ys.length) with
    | true => rfl
    | false => rw [h] at hb; cases hb
/-! _law_only_invalid_word: 0 e -/
abbrev s_law_only_invalid_word : Stmt := topS 21
theorem sc_law_only_invalid_word : FnScope ["e"] ["e"] (defScope s_law_only_invalid_word) := ⟨rfl, rfl, rfl, by decide +kernel, rfl, by decide +kernel, by decide +kernel⟩
def spOnly : Addr → Sp := fun a vs H Q _ => vs = [.ref a] ∧ RetV (.bl true) H Q
theorem ok_only {f : Addr} {fd : FuncData} (F : Fun K "_law_only_invalid_word" "_law_only_invalid_word" s_law_only_invalid_word f fd) (T : Txt mg) (TE : ExTxt K mg D cE cC cN) : FnZ P w K mg base 1 f fd ["e"] D spOnly := by
  refine Fun.okZ F sc_law_only_invalid_word (fun a vs H Q E h => by rw [h.1]; rfl) (fun cdv A outer s H vs Q E p hz h => ?_)
  obtain ⟨rfl, k⟩ := h
  refine ⟨_, (pss_cons (ps_if (PW.pt (pw_or (pt_not (pt_val (pe_callB (call_isZ TE.c hz) (by rfl) T.z_isinstance (by decide +kernel) (pa_cons (pv 0) (pa_cons (pe_glob (v := .ref cE) rfl TE.gE rfl) pa_nil))))) (pw_or1 (pt_not (pt_val (pe_callB (call_isZ TE.c hz) (by rfl) T.z_isinstance (by decide +kernel) (pa_cons (pv 0) (pa_cons (pe_bltn (v := .ty "ValueError") (by rfl) TE.zV (by decide +kernel) rfl) pa_nil))))))))
      (pss_one (ps_ret pe_bl))
      pss_nil)
    (pss_one (ps_ret (pe_and (pe_not (pe_callB (call_isZ TE.c hz) (by rfl) T.z_isinstance (by decide +kernel) (pa_cons (pv 0) (pa_cons (pe_glob (v := .ref cC) rfl TE.gC rfl) pa_nil)))) (pe_one (pe_not (pe_callB (call_isZ TE.c hz) (by rfl) T.z_isinstance (by decide +kernel) (pa_cons (pv 0) (pa_cons (pe_glob (v := .ref cN) rfl TE.gN rfl) pa_nil))))))))), ?_⟩
  refine q_when (b := false) (et_is (et_or (a := false) (b := false) (et_is (et_not (et_B (ev_cb (ea_cons (ev_var rfl) (ea_cons ev_c ea_nil)) (rc_isE (fun _ r => r) TE.k1)))) rfl) fun _ => et_is (et_not (et_B (ev_cb (ea_cons (ev_var rfl) (ea_cons ev_c ea_nil)) (rc_isE (fun _ r => r) TE.k2)))) rfl) rfl) (fun q => Bool.noConfusion q) fun _ H1 e1 => ?_
  refine s_ret (ev_andV (a := true) (b := true) (ev_is (ev_notV (ev_cb (ea_cons (ev_var rfl) (ea_cons ev_c ea_nil)) (rc_isE (fun _ r => r) TE.k3))) rfl) fun _ => ev_is (ev_notV (ev_cb (ea_cons (ev_var rfl) (ea_cons ev_c ea_nil)) (rc_isE (fun _ r => r) TE.k4))) rfl) fun H2 e2 => ?_
  exact k H2 (e1.trans e2)
end
end My
set_option Elab.async false
set_option linter.all false
set_option maxRecDepth 100000
set_option maxHeartbeats 1000000
namespace My
open PySem L2 L2H Evl
local macro_rules | `(tactic| walk_at "ev") => `(tactic| repeat' (first
  | exact ev_c
  | exact ev_var rfl
  | exact ea_nil
  | exact eo_none
  | (refine' ev_cb ?ea (rc_len ?sq); (case ea => walk_at "evs"); (case sq => walk_at "sq"))
  | (refine' ev_op ?a ?b (rv_ixL ?sq ?ix); (case a => walk_at "evs"); (case b => walk_at "evs"); (case sq => walk_at "sq"); (case ix => walk_at "at"))
  | refine' ea_cons ?_ ?_
  | refine' eo_some ?_
  | refine' ev_op ?_ ?_ rv_I0
  | refine' ev_op ?_ ?_ (rv_eq ?_)
  | refine' ev_op ?_ ?_ (rv_ne ?_)
  | refine' ev_op ?_ ?_ (rv_I ?_)
  | refine' ev_un ?_ ru_neg
  | refine' ev_cb ?_ rc_int
  | refine' ev_cb ?_ rc_abs
  | refine' ev_cb ?_ rc_max2
  | refine' ev_andV ?_ ?_
  | refine' ev_notV ?_
  | refine' et_test ?_
  | refine' et_B ?_
  | refine' et_not ?_))
local macro_rules | `(tactic| walk_at "side") => `(tactic| first
  | rfl
  | decide
  | exact ⟨by decide, by decide⟩
  | exact .inr ⟨by decide, by decide⟩
  | exact .inl ⟨by decide, by decide⟩
  | omega
  | exact .inl ⟨by omega, by omega⟩
  | exact .inr ⟨by omega, by omega⟩)
local macro_rules | `(tactic| walk_at "evs") => `(tactic| (walk_at "ev"; all_goals (walk_at "side")))
local macro_rules | `(tactic| walk_at "ex") => `(tactic| first
  | with_reducible exact Ex.refl _
  | with_reducible assumption
  | (refine' Ex.trans ?_ ?b; (case b => with_reducible assumption); walk_at "ex"))
local macro_rules | `(tactic| walk_at "sq") => `(tactic| first
  | (refine' sq_ex ?h ?e; (case h => with_reducible assumption); (case e => walk_at "ex"))
  | (refine' ex_l ?e ?h; (case h => with_reducible assumption); (case e => walk_at "ex"))
  | (refine' ex_l ?e ?h; (case h => assumption); (case e => walk_at "ex"))
  | assumption
  | exact sq_of (by assumption))
local macro_rules | `(tactic| walk_at "at") => `(tactic| first
  | exact at_int (by omega) (by omega)
  | exact atI_nat (j := 0) rfl
  | exact atI_nat (j := 1) rfl
  | exact atI_nat (j := 2) rfl)
local macro_rules | `(tactic| walk_at "side2") => `(tactic| first | exact CMul_bdl (by assumption) | exact CMul_bdr (by assumption) | walk_at "side")
local macro_rules | `(tactic| walk_at "evb") => `(tactic| (walk_at "ev"; all_goals (walk_at "side2")))

section
variable {P : Program} {w : World} {K : PySem.W.Frag} {mg : Str → Option Value} {base : Heap} {D cE cC cN : Addr}
/-! distance_between: 0 first, 1 second, 2 one, 3 other -/
abbrev s_distance_between : Stmt := topS 9
theorem sc_distance_between : FnScope ["first", "second", "one", "other"] ["first", "second"] (defScope s_distance_between) := ⟨rfl, rfl, rfl, by decide +kernel, rfl, by decide +kernel, by decide +kernel⟩
def spDist (K : PySem.W.Frag) (D : Addr) : Sp := fun vs H Q E => ∃ (a b : Addr) (fs ss : List Int), vs = [.ref a, .ref b] ∧ SqL K H a (fs.map V.int) ∧ SqL K H b (ss.map V.int) ∧ fs.length ≤ 300 ∧
  (fs.length = ss.length → RetV (.int (sel fs.length (fD fs ss)).length) H Q) ∧ (fs.length ≠ ss.length → ∀ H', Ex H H' → E (.ref D) none H')
theorem ok_dist {f : Addr} {fd : FuncData} (F : Fun K "distance_between" "distance_between" s_distance_between f fd) (T : Txt mg) (D_same : Dk P w K mg base (L2.CX P w) 1 "_require_same_length" ["first", "second"] (spSame K D)) : FnOk P w K mg base (L2.CX P w) 2 f fd ["first", "second"] (spDist K D) := by
  refine F.okX sc_distance_between (fun vs H Q E h => ?_) (fun cdv A outer s H vs Q E hr h => ?_)
  · obtain ⟨_, _, _, _, rfl, _⟩ := h
    rfl
  obtain ⟨a, b, fs, ss, rfl, hA, hB, hl, k1, k2⟩ := h
  refine ⟨_, pss_cons (ps_expr (pe_cdX D_same hr (by rfl) (passes_call (takes_of rfl rfl rfl rfl) (fun _ _ _ _ z => z)) (pa_cons (pv 0) (pa_cons (pv 1) pa_nil))))
    (pss_one (ps_ret (pe_callB call_len_seq (by rfl) T.z_len PySem.boot_len (pa_cons (pe_lc (own := [("one", 2), ("other", 3)])  rfl sc_distance_between.nd (pi_zip (by rfl) T.z_zip (pa_cons (pv 0) (pa_cons (pv 1) pa_nil))) (blkOk_by (own := [("one", 2), ("other", 3)]) (N := ["first", "second", "one", "other"]) (sc := defScope s_distance_between) (by decide +kernel)) (fun _ _ _ _ _ => (pg_tupK (K := K) (n := 2) rfl rfl (pgs_cons (pg_name (i := 2) sc_distance_between.nd rfl (Or.inl rfl)) (pgs_cons (pg_name (i := 3) sc_distance_between.nd rfl (Or.inl rfl)) pgs_nil)))) (fun _ _ _ _ _ => pts_one (pt_cmpR op_ne (pv 2) (pv 3) (nomark _))) (fun _ _ _ _ _ => pe_int)) pa_nil)))), ?_⟩
  refine q_dropC (by walk_at "ev") fun H0 e0 => ⟨a, b, _, _, rfl, ex_l e0 hA, ex_l e0 hB, fun he H1 e1' => ?_, fun hne H1 e1' => ?_⟩ <;> have e1 : Ex H H1 := e0.trans e1'
  · rw [List.length_map, List.length_map] at he
    have hAB : min (fs.map V.int).length (ss.map V.int).length = fs.length := by rw [List.length_map, List.length_map]; omega
    refine s_ret (ev_is (ev_lenN (el_lcP (J := Itz K a b) (fun H2 e2 R q => ⟨_, rfl, _, rfl, a, b, _, _, rfl, ex_l (e1.trans e2) hA, ex_l (e1.trans e2) hB, q H2 (Ex.refl H2)⟩) (walk_zip (xs := fs.map V.int) (ys := ss.map V.int) hAB.symm) (fun H2 e2 => ⟨ex_l (e1.trans e2) hA, ex_l (e1.trans e2) hB⟩) (by omega) (fun x y => [some (.ref a), some (.ref b), some x, some y])
      (fun T x y H' Q' hT q => ⟨T, [x, y], rfl, st_of hT, rfl, x, [y], rfl, y, [], rfl, rfl, q⟩) (fun _ _ => rfl) (fD fs ss) (fun i => .int 1) (fun i x y H2 e2 hx hy => ?_) (fun i x y H2 e2 hx hy _ => ev_c))) (by rw [given_len'])) fun H2 e2 => k1 he H2 (e1.trans e2)
    have hi : i < fs.length := by
      have q := (List.getElem?_eq_some_iff.mp hx).1
      rwa [List.length_map] at q
    have ex : x = .int (fs.getD i 0) := Option.some.inj (hx.symm.trans (by rw [List.getElem?_map, List.getElem?_eq_getElem hi, List.getD_eq_getElem?_getD, List.getElem?_eq_getElem hi]; rfl))
    have hi2 : i < ss.length := by omega
    have ey : y = .int (ss.getD i 0) := Option.some.inj (hy.symm.trans (by rw [List.getElem?_map, List.getElem?_eq_getElem hi2, List.getD_eq_getElem?_getD, List.getElem?_eq_getElem hi2]; rfl))
    subst ex ey
    exact et_is (et_test (ev_op (ev_var rfl) (ev_var rfl) (rv_ne rfl))) (by rw [dec_int]; rfl)
  · rw [List.length_map, List.length_map] at hne
    exact k2 hne H1 e1
/-! errors_beside: 0 word, 1 received, 2 item, 3 told -/
abbrev s_errors_beside : Stmt := topS 11
theorem sc_errors_beside : FnScope ["word", "received", "item", "told"] ["word", "received"] (defScope s_errors_beside) := ⟨rfl, rfl, rfl, by decide +kernel, rfl, by decide +kernel, by decide +kernel⟩
def spErrs (K : PySem.W.Frag) (D : Addr) : Sp := fun vs H Q E => ∃ (a b : Addr) (fs : List Int) (rs : List (Option Int)), vs = [.ref a, .ref b] ∧ SqL K H a (fs.map V.int) ∧ SqL K H b (rs.map oV) ∧ fs.length ≤ 300 ∧
  (fs.length = rs.length → RetV (.int (sel fs.length (fE fs rs)).length) H Q) ∧ (fs.length ≠ rs.length → ∀ H', Ex H H' → E (.ref D) none H')
theorem ok_errs {f : Addr} {fd : FuncData} (F : Fun K "errors_beside" "errors_beside" s_errors_beside f fd) (T : Txt mg) (D_same : Dk P w K mg base (L2.CX P w) 1 "_require_same_length" ["first", "second"] (spSame K D)) : FnOk P w K mg base (L2.CX P w) 2 f fd ["word", "received"] (spErrs K D) := by
  refine F.okX sc_errors_beside (fun vs H Q E h => ?_) (fun cdv A outer s H vs Q E hr h => ?_)
  · obtain ⟨_, _, _, _, rfl, _⟩ := h
    rfl
  obtain ⟨a, b, fs, rs, rfl, hA, hB, hl, k1, k2⟩ := h
  refine ⟨_, pss_cons (ps_expr (pe_cdX D_same hr (by rfl) (passes_call (takes_of rfl rfl rfl rfl) (fun _ _ _ _ z => z)) (pa_cons (pv 0) (pa_cons (pv 1) pa_nil))))
    (pss_one (ps_ret (pe_callB call_len_seq (by rfl) T.z_len PySem.boot_len (pa_cons (pe_lc (own := [("item", 2), ("told", 3)])  rfl sc_errors_beside.nd (pi_zip (by rfl) T.z_zip (pa_cons (pv 0) (pa_cons (pv 1) pa_nil))) (blkOk_by (own := [("item", 2), ("told", 3)]) (N := ["word", "received", "item", "told"]) (sc := defScope s_errors_beside) (by decide +kernel)) (fun _ _ _ _ _ => (pg_tupK (K := K) (n := 2) rfl rfl (pgs_cons (pg_name (i := 2) sc_errors_beside.nd rfl (Or.inl rfl)) (pgs_cons (pg_name (i := 3) sc_errors_beside.nd rfl (Or.inl rfl)) pgs_nil)))) (fun _ _ _ _ _ => pts_one (PW.pt (pw_and (pt_cmpR op_notN (pv 3) pe_non (nomark _)) (pw_and1 (pt_cmpR op_ne (pv 3) (pv 2) (nomark _)))))) (fun _ _ _ _ _ => pe_int)) pa_nil)))), ?_⟩
  refine q_dropC (by walk_at "ev") fun H0 e0 => ⟨a, b, _, _, rfl, ex_l e0 hA, ex_l e0 hB, fun he H1 e1' => ?_, fun hne H1 e1' => ?_⟩ <;> have e1 : Ex H H1 := e0.trans e1'
  · rw [List.length_map, List.length_map] at he
    have hAB : min (fs.map V.int).length (rs.map oV).length = fs.length := by rw [List.length_map, List.length_map]; omega
    refine s_ret (ev_is (ev_lenN (el_lcP (J := Itz K a b) (fun H2 e2 R q => ⟨_, rfl, _, rfl, a, b, _, _, rfl, ex_l (e1.trans e2) hA, ex_l (e1.trans e2) hB, q H2 (Ex.refl H2)⟩) (walk_zip (xs := fs.map V.int) (ys := rs.map oV) hAB.symm) (fun H2 e2 => ⟨ex_l (e1.trans e2) hA, ex_l (e1.trans e2) hB⟩) (by omega) (fun x y => [some (.ref a), some (.ref b), some x, some y])
      (fun T x y H' Q' hT q => ⟨T, [x, y], rfl, st_of hT, rfl, x, [y], rfl, y, [], rfl, rfl, q⟩) (fun _ _ => rfl) (fE fs rs) (fun i => .int 1) (fun i x y H2 e2 hx hy => ?_) (fun i x y H2 e2 hx hy _ => ev_c))) (by rw [given_len'])) fun H2 e2 => k1 he H2 (e1.trans e2)
    have hi : i < fs.length := by
      have q := (List.getElem?_eq_some_iff.mp hx).1
      rwa [List.length_map] at q
    have ex : x = .int (fs.getD i 0) := Option.some.inj (hx.symm.trans (by rw [List.getElem?_map, List.getElem?_eq_getElem hi, List.getD_eq_getElem?_getD, List.getElem?_eq_getElem hi]; rfl))
    have hi2 : i < rs.length := by omega
    have ey : y = oV (rs.getD i none) := Option.some.inj (hy.symm.trans (by rw [List.getElem?_map, List.getElem?_eq_getElem hi2, List.getD_eq_getElem?_getD, List.getElem?_eq_getElem hi2]; rfl))
    subst ex ey
    exact et_is (et_and (et_test (ev_op (ev_var rfl) ev_c rv_notN)) fun _ => et_test (ev_op (ev_var rfl) (ev_var rfl) (rv_ne (scal_oV _ _)))) (by rw [oV_non]; rfl)
  · rw [List.length_map, List.length_map] at hne
    exact k2 hne H1 e1
end
end My
set_option Elab.async false
set_option linter.all false
set_option maxRecDepth 100000
set_option maxHeartbeats 1000000
namespace My
open PySem L2 L2H Evl
local macro_rules | `(tactic| walk_at "ev") => `(tactic| repeat' (first
  | exact ev_c
  | exact ev_var rfl
  | exact ea_nil
  | exact eo_none
  | (refine' ev_cb ?ea (rc_len ?sq); (case ea => walk_at "evs"); (case sq => walk_at "sq"))
  | (refine' ev_op ?a ?b (rv_ixL ?sq ?ix); (case a => walk_at "evs"); (case b => walk_at "evs"); (case sq => walk_at "sq"); (case ix => walk_at "at"))
  | refine' ea_cons ?_ ?_
  | refine' eo_some ?_
  | refine' ev_op ?_ ?_ rv_I0
  | refine' ev_op ?_ ?_ (rv_eq ?_)
  | refine' ev_op ?_ ?_ (rv_ne ?_)
  | refine' ev_op ?_ ?_ (rv_I ?_)
  | refine' ev_un ?_ ru_neg
  | refine' ev_cb ?_ rc_int
  | refine' ev_cb ?_ rc_abs
  | refine' ev_cb ?_ rc_max2
  | refine' ev_andV ?_ ?_
  | refine' ev_notV ?_
  | refine' et_test ?_
  | refine' et_B ?_
  | refine' et_not ?_))
local macro_rules | `(tactic| walk_at "side") => `(tactic| first
  | rfl
  | decide
  | exact ⟨by decide, by decide⟩
  | exact .inr ⟨by decide, by decide⟩
  | exact .inl ⟨by decide, by decide⟩
  | omega
  | exact .inl ⟨by omega, by omega⟩
  | exact .inr ⟨by omega, by omega⟩)
local macro_rules | `(tactic| walk_at "evs") => `(tactic| (walk_at "ev"; all_goals (walk_at "side")))
local macro_rules | `(tactic| walk_at "ex") => `(tactic| first
  | with_reducible exact Ex.refl _
  | with_reducible assumption
  | (refine' Ex.trans ?_ ?b; (case b => with_reducible assumption); walk_at "ex"))
local macro_rules | `(tactic| walk_at "sq") => `(tactic| first
  | (refine' sq_ex ?h ?e; (case h => with_reducible assumption); (case e => walk_at "ex"))
  | (refine' ex_l ?e ?h; (case h => with_reducible assumption); (case e => walk_at "ex"))
  | (refine' ex_l ?e ?h; (case h => assumption); (case e => walk_at "ex"))
  | assumption
  | exact sq_of (by assumption))
local macro_rules | `(tactic| walk_at "at") => `(tactic| first
  | exact at_int (by omega) (by omega)
  | exact atI_nat (j := 0) rfl
  | exact atI_nat (j := 1) rfl
  | exact atI_nat (j := 2) rfl)
local macro_rules | `(tactic| walk_at "side2") => `(tactic| first | exact CMul_bdl (by assumption) | exact CMul_bdr (by assumption) | walk_at "side")
local macro_rules | `(tactic| walk_at "evb") => `(tactic| (walk_at "ev"; all_goals (walk_at "side2")))

section
variable {P : Program} {w : World} {K : PySem.W.Frag} {mg : Str → Option Value} {base : Heap} {D cE cC cN : Addr}
/-! _law_refuses_distance: 0 first, 1 second, 2 e -/
abbrev s_law_refuses_distance : Stmt := topS 22
theorem sc_law_refuses_distance : FnScope ["first", "second", "e"] ["first", "second"] (defScope s_law_refuses_distance) := ⟨rfl, rfl, rfl, by decide +kernel, rfl, by decide +kernel, by decide +kernel⟩
def spRefD (K : PySem.W.Frag) : Sp := fun vs H Q _ => ∃ (a b : Addr) (fs ss : List Int), vs = [.ref a, .ref b] ∧ SqL K H a (fs.map V.int) ∧ SqL K H b (ss.map V.int) ∧ fs.length ≤ 300 ∧ fs.length ≠ ss.length ∧ RetV (.bl true) H Q
theorem ok_refD {f fO : Addr} {fd fdO : FuncData} (F : Fun K "_law_refuses_distance" "_law_refuses_distance" s_law_refuses_distance f fd) (T : Txt mg) (TE : ExTxt K mg D cE cC cN) (D_dist : Dk P w K mg base (L2.CX P w) 2 "distance_between" ["first", "second"] (spDist K D))
    (FO : FnZ P w K mg base 1 fO fdO ["e"] D spOnly) (gO : mg "_law_only_invalid_word" = some (.ref fO)) (kO : PySem.W.keepIn K (.ref fO) = true) (bO : Binds K fdO ["e"] []) : FnOk P w K mg base CX0 3 f fd ["first", "second"] (spRefD K) := by
  refine F.ok sc_law_refuses_distance (fun vs H Q E h => ?_) (fun cdv A outer s H vs Q E hr h => ?_)
  · obtain ⟨_, _, _, _, rfl, _⟩ := h
    rfl
  obtain ⟨a, b, fs, ss, rfl, hA, hB, hl, hne, k⟩ := h
  have hr1 : RoomH 1 (A.deeper (PyProof.Rows.envOfC "_law_refuses_distance" (defScope s_law_refuses_distance) s.heap.objs.size f cdv)) := roomH_of (hr.mono (by decide))
  refine ⟨_, pss_cons (ps_try_as (i := 2) (tb := fun W => tDrop (tCallS (spDist K D) (WE W) (tCons (tVar 0) (tCons (tVar 1) tNil)))) (ts := fun x cls d => tRet (tCallZ D x cls d spOnly (tCons (tVar 2) tNil))) (Wout := fun _ _ _ _ => False) rfl rfl sc_law_refuses_distance.nd rfl rfl ⟨rfl, by decide, Or.inl TE.g⟩ takes0
      (fun W pn xe tk _ => pss_one (ps_expr (by exact (pe_cdS D_dist hr rfl (fun σ => passAt tk σ) (by exact (pa_cons (pv 0) (pa_cons (pv 1) pa_nil)))))))
      (fun x oe cls d pn hz hf => pss_one (ps_ret (by exact (pe_callZ hz hf FO hr1 gO kO bO rfl (by exact (pa_cons (pv 2) pa_nil)))))))
    (pss_one (ps_ret pe_bl)), ?_⟩
  refine ⟨_, rfl, _, rfl, a, b, fs, ss, rfl, hA, hB, hl, fun q => absurd q hne, fun _ H1 e1 => ?_⟩
  exact ⟨true, TE.e, fun _ x nx => ⟨⟨rfl, rfl⟩, _, rfl, rfl, fun H2 e2 => k H2 (e1.trans e2)⟩, fun q => Bool.noConfusion q⟩
/-! _law_refuses_errors: 0 word, 1 received, 2 e -/
abbrev s_law_refuses_errors : Stmt := topS 23
theorem sc_law_refuses_errors : FnScope ["word", "received", "e"] ["word", "received"] (defScope s_law_refuses_errors) := ⟨rfl, rfl, rfl, by decide +kernel, rfl, by decide +kernel, by decide +kernel⟩
def spRefE (K : PySem.W.Frag) : Sp := fun vs H Q _ => ∃ (a b : Addr) (fs : List Int) (rs : List (Option Int)), vs = [.ref a, .ref b] ∧ SqL K H a (fs.map V.int) ∧ SqL K H b (rs.map oV) ∧ fs.length ≤ 300 ∧ fs.length ≠ rs.length ∧ RetV (.bl true) H Q
theorem ok_refE {f fO : Addr} {fd fdO : FuncData} (F : Fun K "_law_refuses_errors" "_law_refuses_errors" s_law_refuses_errors f fd) (T : Txt mg) (TE : ExTxt K mg D cE cC cN) (D_errs : Dk P w K mg base (L2.CX P w) 2 "errors_beside" ["word", "received"] (spErrs K D))
    (FO : FnZ P w K mg base 1 fO fdO ["e"] D spOnly) (gO : mg "_law_only_invalid_word" = some (.ref fO)) (kO : PySem.W.keepIn K (.ref fO) = true) (bO : Binds K fdO ["e"] []) : FnOk P w K mg base CX0 3 f fd ["word", "received"] (spRefE K) := by
  refine F.ok sc_law_refuses_errors (fun vs H Q E h => ?_) (fun cdv A outer s H vs Q E hr h => ?_)
  · obtain ⟨_, _, _, _, rfl, _⟩ := h
    rfl
  obtain ⟨a, b, fs, rs, rfl, hA, hB, hl, hne, k⟩ := h
  have hr1 : RoomH 1 (A.deeper (PyProof.Rows.envOfC "_law_refuses_errors" (defScope s_law_refuses_errors) s.heap.objs.size f cdv)) := roomH_of (hr.mono (by decide))
  refine ⟨_, pss_cons (ps_try_as (i := 2) (tb := fun W => tDrop (tCallS (spErrs K D) (WE W) (tCons (tVar 0) (tCons (tVar 1) tNil)))) (ts := fun x cls d => tRet (tCallZ D x cls d spOnly (tCons (tVar 2) tNil))) (Wout := fun _ _ _ _ => False) rfl rfl sc_law_refuses_errors.nd rfl rfl ⟨rfl, by decide, Or.inl TE.g⟩ takes0
      (fun W pn xe tk _ => pss_one (ps_expr (by exact (pe_cdS D_errs hr rfl (fun σ => passAt tk σ) (by exact (pa_cons (pv 0) (pa_cons (pv 1) pa_nil)))))))
      (fun x oe cls d pn hz hf => pss_one (ps_ret (by exact (pe_callZ hz hf FO hr1 gO kO bO rfl (by exact (pa_cons (pv 2) pa_nil)))))))
    (pss_one (ps_ret pe_bl)), ?_⟩
  refine ⟨_, rfl, _, rfl, a, b, fs, rs, rfl, hA, hB, hl, fun q => absurd q hne, fun _ H1 e1 => ?_⟩
  exact ⟨true, TE.e, fun _ x nx => ⟨⟨rfl, rfl⟩, _, rfl, rfl, fun H2 e2 => k H2 (e1.trans e2)⟩, fun q => Bool.noConfusion q⟩
end
end My
set_option linter.all false
set_option maxRecDepth 100000
namespace My
open PySem L2 Evl
section
variable {K : PySem.W.Frag} {σ : L2.St} {H H' : Hp} {ta tb te tx : TE} {t u : TT} {x y z v : V} {D : Ends} {tu tw tz : TS} {g : TG}
theorem q_asgCg {sp : Sp} {E : XK} {tr : TA} {vs : List V} (h : EvA tr σ H vs)
    (k : ∀ H1, Ex H H1 → sp vs H1 (fun v H2 => g v σ H2 (fun σ2 H3 => tz D σ2 H3)) E) : tSeq (tAsg (tCall sp [] E tr) g) tz D σ H := by
  refine h H (Ex.refl H) _ fun H1 e1 => ?_
  rw [List.append_nil]
  exact k H1 e1
/-- [list(a), list(b), list(c)] -/
theorem q_lists3 {a b c : Addr} {xs ys zs : List V} {ia ib ic i : Nat} (ha : σ[ia]? = some (some (.ref a))) (hb : σ[ib]? = some (some (.ref b))) (hc : σ[ic]? = some (some (.ref c))) (hA : SqL K H a xs) (hB : SqL K H b ys) (hC : SqL K H c zs)
    (k : ∀ p l1 l2 l3 H1, Ex H H1 → H p = none → H1 p = some (.lst [.ref l1, .ref l2, .ref l3]) → H1 l1 = some (.lst xs) → H1 l2 = some (.lst ys) → H1 l3 = some (.lst zs) → tz D (σ.set i (some (.ref p))) H1) :
    tSeq (tAsg (tLst (tCons (tCB (rListS K) (tCons (tVar ia) tNil)) (tCons (tCB (rListS K) (tCons (tVar ib) tNil)) (tCons (tCB (rListS K) (tCons (tVar ic) tNil)) tNil)))) (gName i)) tz D σ H := by
  refine ⟨_, ha, a, xs, rfl, .inl hA, fun l1 n1 => ?_⟩
  have e1 : Ex H (upd H l1 (.lst xs)) := Ex.new n1
  refine ⟨_, hb, b, ys, rfl, .inl (ex_l e1 hB), fun l2 n2 => ?_⟩
  have e2 : Ex (upd H l1 (.lst xs)) (upd (upd H l1 (.lst xs)) l2 (.lst ys)) := Ex.new n2
  refine ⟨_, hc, c, zs, rfl, .inl (ex_l (e1.trans e2) hC), fun l3 n3 => ?_⟩
  have e3 := Ex.new (o := .lst zs) n3
  refine ⟨by show 3 ≤ sizeLine; exact sz_of (by decide), fun p np => ?_⟩
  have e4 := Ex.new (o := .lst [.ref l1, .ref l2, .ref l3]) np
  exact k p l1 l2 l3 _ (((e1.trans e2).trans e3).trans e4) (fresh_back ((e1.trans e2).trans e3) np) upd_same (e4 _ _ (e3 _ _ (e2 _ _ upd_same))) (e4 _ _ (e3 _ _ upd_same)) (e4 _ _ upd_same)
theorem el_cat {l : Addr} {xs ys : List V} (ha : Ev ta σ H (.ref l)) (hl : H l = some (.lst xs)) (hb : EvL tb σ H ys) (hz : xs.length + ys.length ≤ 100000) : EvL (tOp rCat ta tb) σ H (xs ++ ys) := fun H1 e Q q =>
  ha H1 e _ fun H2 e2 => hb H2 (e.trans e2) _ fun p H3 np e3 hp => ⟨l, p, xs, ys, rfl, rfl, e3 _ _ (e2 _ _ (e _ _ hl)), hp, sz_of hz, fun r nr => q r _ (fresh_back (e2.trans e3) nr) ((e2.trans e3).trans (Ex.new nr)) upd_same⟩
theorem el_rep {xs : List V} {n : Int} (ha : EvL ta σ H xs) (hb : Ev tb σ H (.int n)) (h0 : 0 ≤ n ∧ n ≤ 100000) (hz : xs.length * n.toNat ≤ 100000) : EvL (tOp rRep ta tb) σ H (List.replicate n.toNat xs).flatten := fun H1 e Q q =>
  ha H1 e _ fun p H2 np e2 hp => hb H2 (e.trans e2) _ fun H3 e3 => ⟨p, n, xs, rfl, rfl, e3 _ _ hp, by omega, by omega, sz_of hz, fun r nr => q r _ (fresh_back (e2.trans e3) nr) ((e2.trans e3).trans (Ex.new nr)) upd_same⟩
end
theorem cut_last (xs : List V) : cutV xs none (some (-1)) = xs.take (xs.length - 1) := by
  unfold cutV
  rw [HT.sIx_none, List.drop_zero, Nat.sub_zero]
  congr 1
  show (if (-1 : Int) < 0 then ((-1 : Int) + (xs.length : Int)).toNat else min (-1 : Int).toNat xs.length) = xs.length - 1
  rw [if_pos (by decide)]
  omega
theorem fD_comm (fs ss : List Int) : fD fs ss = fD ss fs := by
  funext i
  unfold fD
  by_cases h : fs.getD i 0 = ss.getD i 0
  · rw [decide_eq_true h, decide_eq_true h.symm]
  · rw [decide_eq_false h, decide_eq_false (fun q => h q.symm)]
/-! data: flat lists, a list of flat lists -/
def oP : Option Int → PyData
  | none => .none
  | some z => .int z
theorem dp_ints {K : PySem.W.Frag} {H : Hp} : ∀ ns : List Int, DpAll K H (ns.map V.int) (ns.map PyData.int)
  | [] => .nil
  | n :: r => .cons (.int n) (dp_ints r)
theorem dp_opts {K : PySem.W.Frag} {H : Hp} : ∀ rs : List (Option Int), DpAll K H (rs.map oV) (rs.map oP)
  | [] => .nil
  | none :: r => .cons .non (dp_opts r)
  | some z :: r => .cons (.int z) (dp_opts r)
theorem lay_ints : ∀ ns : List Int, PyData.canLayAll0 (ns.map PyData.int) = true
  | [] => by simp [PyData.canLayAll0]
  | n :: r => by simp [PyData.canLayAll0, PyData.canLay0, lay_ints r]
theorem lay_opts : ∀ rs : List (Option Int), PyData.canLayAll0 (rs.map oP) = true
  | [] => by simp [PyData.canLayAll0]
  | none :: r => by simp [PyData.canLayAll0, PyData.canLay0, oP, lay_opts r]
  | some z :: r => by simp [PyData.canLayAll0, PyData.canLay0, oP, lay_opts r]
theorem dep_ints : ∀ ns : List Int, PyData.depthAll (ns.map PyData.int) ≤ 1
  | [] => by simp [PyData.depthAll]
  | n :: r => by
    have := dep_ints r
    simp [PyData.depthAll, PyData.depth]
    omega
theorem dep_opts : ∀ rs : List (Option Int), PyData.depthAll (rs.map oP) ≤ 1
  | [] => by simp [PyData.depthAll]
  | none :: r => by
    have := dep_opts r
    simp [PyData.depthAll, PyData.depth, oP]
    omega
  | some z :: r => by
    have := dep_opts r
    simp [PyData.depthAll, PyData.depth, oP]
    omega
def dat3 (fs ss : List Int) (rs : List (Option Int)) : PyData := .list [.list (fs.map .int), .list (ss.map .int), .list (rs.map oP)]
theorem dat3_shaped (fs ss : List Int) (rs : List (Option Int)) : SeqAt.shaped (dat3 fs ss rs) = true := by
  have h1 := dep_ints fs
  have h2 := dep_ints ss
  have h3 := dep_opts rs
  unfold SeqAt.shaped dat3
  rw [Bool.and_eq_true]
  refine ⟨?_, decide_eq_true ?_⟩
  · simp [PyData.canLay0, PyData.canLayAll0, lay_ints, lay_opts]
  · simp [PyData.depth, PyData.depthAll]
    omega
theorem dat3_dp {K : PySem.W.Frag} {H : Hp} {p l1 l2 l3 : Addr} {fs ss : List Int} {rs : List (Option Int)} (hp : SqL K H p [.ref l1, .ref l2, .ref l3]) (h1 : SqL K H l1 (fs.map V.int)) (h2 : SqL K H l2 (ss.map V.int)) (h3 : SqL K H l3 (rs.map oV)) : Dp K H (.ref p) (dat3 fs ss rs) :=
  .lst hp (.cons (.lst h1 (dp_ints fs)) (.cons (.lst h2 (dp_ints ss)) (.cons (.lst h3 (dp_opts rs)) .nil)))
theorem dat3_refl (fs ss : List Int) (rs : List (Option Int)) : PyData.eqv (dat3 fs ss rs) (dat3 fs ss rs) = true := SeqAt.eqv_refl _ (SeqAt.canLay_of_shaped (dat3_shaped fs ss rs))
end My
set_option Elab.async false
set_option linter.all false
set_option maxRecDepth 100000
set_option maxHeartbeats 0
namespace My
open PySem L2 L2H Evl
local macro_rules | `(tactic| walk_at "ev") => `(tactic| repeat' (first
  | exact ev_c
  | exact ev_var rfl
  | exact ea_nil
  | exact eo_none
  | (refine' ev_cb ?ea (rc_len ?sq); (case ea => walk_at "evs"); (case sq => walk_at "sq"))
  | (refine' ev_op ?a ?b (rv_ixL ?sq ?ix); (case a => walk_at "evs"); (case b => walk_at "evs"); (case sq => walk_at "sq"); (case ix => walk_at "at"))
  | refine' ea_cons ?_ ?_
  | refine' eo_some ?_
  | refine' ev_op ?_ ?_ rv_I0
  | refine' ev_op ?_ ?_ (rv_eq ?_)
  | refine' ev_op ?_ ?_ (rv_ne ?_)
  | refine' ev_op ?_ ?_ (rv_I ?_)
  | refine' ev_un ?_ ru_neg
  | refine' ev_cb ?_ rc_int
  | refine' ev_cb ?_ rc_abs
  | refine' ev_cb ?_ rc_max2
  | refine' ev_andV ?_ ?_
  | refine' ev_notV ?_
  | refine' et_test ?_
  | refine' et_B ?_
  | refine' et_not ?_))
local macro_rules | `(tactic| walk_at "side") => `(tactic| first
  | rfl
  | decide
  | exact ⟨by decide, by decide⟩
  | exact .inr ⟨by decide, by decide⟩
  | exact .inl ⟨by decide, by decide⟩
  | omega
  | exact .inl ⟨by omega, by omega⟩
  | exact .inr ⟨by omega, by omega⟩)
local macro_rules | `(tactic| walk_at "evs") => `(tactic| (walk_at "ev"; all_goals (walk_at "side")))
local macro_rules | `(tactic| walk_at "ex") => `(tactic| first
  | with_reducible exact Ex.refl _
  | with_reducible assumption
  | (refine' Ex.trans ?_ ?b; (case b => with_reducible assumption); walk_at "ex"))
local macro_rules | `(tactic| walk_at "sq") => `(tactic| first
  | (refine' sq_ex ?h ?e; (case h => with_reducible assumption); (case e => walk_at "ex"))
  | (refine' ex_l ?e ?h; (case h => with_reducible assumption); (case e => walk_at "ex"))
  | (refine' ex_l ?e ?h; (case h => assumption); (case e => walk_at "ex"))
  | assumption
  | exact sq_of (by assumption))
local macro_rules | `(tactic| walk_at "at") => `(tactic| first
  | exact at_int (by omega) (by omega)
  | exact atI_nat (j := 0) rfl
  | exact atI_nat (j := 1) rfl
  | exact atI_nat (j := 2) rfl)
local macro_rules | `(tactic| walk_at "side2") => `(tactic| first | exact CMul_bdl (by assumption) | exact CMul_bdr (by assumption) | walk_at "side")
local macro_rules | `(tactic| walk_at "evb") => `(tactic| (walk_at "ev"; all_goals (walk_at "side2")))

local macro_rules | `(tactic| walk_at "nm") => `(tactic| (try simp only [List.set_cons_zero, List.set_cons_succ]))
section
variable {P : Program} {w : World} {K : PySem.W.Frag} {mg : Str → Option Value} {base : Heap} {D : Addr} {σ : L2.St} {H : Hp}
theorem spv_row {t s : Addr} {ns : List Int} (ht : H t = some (.lst (ns.map V.int))) (hs : SqL K H s (ns.map V.int)) (hl : ns.length ≤ 90000) : SpV (spIsRow K) ([.ref t, .ref s] ++ []) H (.bl true) := fun H1 e Q q E =>
  ⟨t, s, ns, rfl, e _ _ ht, ex_l e hs, hl, q⟩
theorem ev_rowN {te : TE} {s : Addr} {j : Nat} {ns : List Int} (h : EvL te σ H (ns.map V.int)) (hj : σ[j]? = some (some (.ref s))) (hs : SqL K H s (ns.map V.int)) (hl : ns.length ≤ 90000) :
    Ev (tCall (spIsRow K) [] E0 (tCons te (tCons (tVar j) tNil))) σ H (.bl true) := fun H1 e Q q =>
  h H1 e _ fun p H2 np e2 h2 => ⟨_, hj, p, s, ns, rfl, h2, ex_l (e.trans e2) hs, hl, fun H3 e3 => q H3 (e2.trans e3)⟩
theorem ev_rowM {te : TE} {s : Addr} {j : Nat} {ns : List Int} (hj : σ[j]? = some (some (.ref s))) (hs : H s = some (.lst (ns.map V.int))) (h : EvL te σ H (ns.map V.int)) (hl : ns.length ≤ 90000) :
    Ev (tCall (spIsRow K) [] E0 (tCons (tVar j) (tCons te tNil))) σ H (.bl true) := fun H1 e Q q =>
  ⟨_, hj, h H1 e _ fun p H2 np e2 h2 => ⟨s, p, ns, rfl, e2 _ _ (e _ _ hs), sq_of h2, hl, fun H3 e3 => q H3 (e2.trans e3)⟩⟩
theorem spl_sup {a : Addr} {fs : List Int} (h : SqL K H a (fs.map V.int)) (hl : fs.length ≤ 255) : SpL (spSupport K) ([.ref a] ++ []) H ((sel fs.length (fS fs)).map V.int) := fun H1 e Q q E => ⟨a, fs, rfl, ex_l e h, hl, q⟩
theorem spl_era {a : Addr} {rs : List (Option Int)} (h : SqL K H a (rs.map oV)) (hl : rs.length ≤ 255) : SpL (spErased K) ([.ref a] ++ []) H ((sel rs.length (fN rs)).map V.int) := fun H1 e Q q E => ⟨a, rs, rfl, ex_l e h, hl, q⟩
theorem spv_wei {a : Addr} {fs : List Int} (h : SqL K H a (fs.map V.int)) : SpV (spWeight K) ([.ref a] ++ []) H (.int (sel fs.length (fS fs)).length) := fun H1 e Q q E => ⟨a, fs, rfl, ex_l e h, q⟩
theorem spv_dist {a b : Addr} {fs ss : List Int} (hA : SqL K H a (fs.map V.int)) (hB : SqL K H b (ss.map V.int)) (hl : fs.length ≤ 300) (he : fs.length = ss.length) : SpV (spDist K D) ([.ref a, .ref b] ++ []) H (.int (sel fs.length (fD fs ss)).length) := fun H1 e Q q E =>
  ⟨a, b, fs, ss, rfl, ex_l e hA, ex_l e hB, hl, fun _ => q, fun hne => absurd he hne⟩
theorem spv_errs {a b : Addr} {fs : List Int} {rs : List (Option Int)} (hA : SqL K H a (fs.map V.int)) (hB : SqL K H b (rs.map oV)) (hl : fs.length ≤ 300) (he : fs.length = rs.length) : SpV (spErrs K D) ([.ref a, .ref b] ++ []) H (.int (sel fs.length (fE fs rs)).length) := fun H1 e Q q E =>
  ⟨a, b, fs, rs, rfl, ex_l e hA, ex_l e hB, hl, fun _ => q, fun hne => absurd he hne⟩
theorem spv_refD {a b : Addr} {fs ss : List Int} (hA : SqL K H a (fs.map V.int)) (hB : SqL K H b (ss.map V.int)) (hl : fs.length ≤ 300) (he : fs.length ≠ ss.length) : SpV (spRefD K) ([.ref a, .ref b] ++ []) H (.bl true) := fun H1 e Q q E =>
  ⟨a, b, fs, ss, rfl, ex_l e hA, ex_l e hB, hl, he, q⟩
theorem spv_refE {a b : Addr} {fs : List Int} {rs : List (Option Int)} (hA : SqL K H a (fs.map V.int)) (hB : SqL K H b (rs.map oV)) (hl : fs.length ≤ 300) (he : fs.length ≠ rs.length) : SpV (spRefE K) ([.ref a, .ref b] ++ []) H (.bl true) := fun H1 e Q q E =>
  ⟨a, b, fs, rs, rfl, ex_l e hA, ex_l e hB, hl, he, q⟩
theorem opts_ints (os : List Int) : (os.map some).map oV = os.map V.int := by
  rw [List.map_map]
  rfl
/-! law: 0 script, 1 numbers, 2 size, 3 most, 4 first, 5 second, 6 received, 7 distance, 8 errors, 9 erased, 10 support, 11 passed, 12 told, 13 gaps, 14 counts, 15 other -/
abbrev s_law : Stmt := topS 24
theorem sc_law : FnScope ["script", "numbers", "size", "most", "first", "second", "received", "distance", "errors", "erased", "support", "passed", "told", "gaps", "counts", "other"] ["script"] (defScope s_law) := ⟨rfl, rfl, rfl, by decide +kernel, rfl, by decide +kernel, by decide +kernel⟩
def spLaw (K : PySem.W.Frag) : Sp := fun vs H Q _ => ∃ (a : Addr) (cs : List Int), vs = [.ref a] ∧ SqL K H a (cs.map V.int) ∧ cs.length ≤ 63 ∧ ∀ H', Q (.bl true) H'
theorem ok_law {f : Addr} {fd : FuncData} (F : Fun K "law" "law" s_law f fd) (T : Txt mg) (D_law_numbers : Dk P w K mg base CX0 3 "_law_numbers" ["script", "many"] (spNumbers K))
    (D_law_items : Dk P w K mg base CX0 3 "_law_items" ["numbers", "at", "size", "most"] (spItems K)) (D_law_near : Dk P w K mg base CX0 3 "_law_near" ["numbers", "first", "most"] (spNear K)) (D_law_with_gaps : Dk P w K mg base CX0 3 "_law_with_gaps" ["numbers", "word"] (spGaps K))
    (D_law_counts : Dk P w K mg base CX0 3 "_law_counts" ["first", "second", "received"] (spCounts K)) (D_support_of : Dk P w K mg base CX0 3 "support_of" ["word"] (spSupport K)) (D_erased_positions : Dk P w K mg base CX0 3 "erased_positions" ["received"] (spErased K))
    (D_law_is_row : Dk P w K mg base CX0 3 "_law_is_row" ["actual", "expected"] (spIsRow K)) (D_weight_of : Dk P w K mg base CX0 3 "weight_of" ["word"] (spWeight K)) (D_distance_between : Dk P w K mg base (L2.CX P w) 3 "distance_between" ["first", "second"] (spDist K D))
    (D_errors_beside : Dk P w K mg base (L2.CX P w) 3 "errors_beside" ["word", "received"] (spErrs K D)) (D_law_refuses_distance : Dk P w K mg base CX0 3 "_law_refuses_distance" ["first", "second"] (spRefD K)) (D_law_refuses_errors : Dk P w K mg base CX0 3 "_law_refuses_errors" ["word", "received"] (spRefE K)) :
    FnOk P w K mg base CX0 4 f fd ["script"] (spLaw K) := by
  refine F.ok sc_law (fun vs H Q E h => ?_) (fun cdv A outer s H vs Q E hr h => ?_)
  · obtain ⟨_, _, rfl, _⟩ := h
    rfl
  obtain ⟨a, cs, rfl, hS, h63, k⟩ := h
  refine ⟨_, (pss_cons (ps_set (i := 1) sc_law.nd rfl (Or.inl rfl) (pe_cd D_law_numbers hr (by rfl) (pa_cons (pv 0) (pa_cons pe_int pa_nil))))
    (pss_cons (ps_set (i := 2) sc_law.nd rfl (Or.inl rfl) (pe_op op_mod (pe_callTy call_int1 (by rfl) T.z_int (by decide +kernel) (pa_cons (pe_ix ix_list (pv 1) pe_int (fun _ _ => rfl)) pa_nil)) pe_int))
    (pss_cons (ps_if (pt_cmpR op_eq (pe_op op_mod (pe_callTy call_int1 (by rfl) T.z_int (by decide +kernel) (pa_cons (pe_ix ix_list (pv 1) pe_int (fun _ _ => rfl)) pa_nil)) pe_int) pe_int (nomark _))
      (pss_one (ps_set (i := 2) sc_law.nd rfl (Or.inl rfl) (pe_op op_mod (pe_callTy call_int1 (by rfl) T.z_int (by decide +kernel) (pa_cons (pe_ix ix_list (pv 1) pe_int (fun _ _ => rfl)) pa_nil)) pe_int)))
      pss_nil)
    (pss_cons (ps_set (i := 3) sc_law.nd rfl (Or.inl rfl) (pe_ix ix_list (pe_lst (pa_cons pe_int (pa_cons pe_int (pa_cons pe_int (pa_cons pe_int (pa_cons pe_int pa_nil)))))) (pe_op op_mod (pe_callTy call_int1 (by rfl) T.z_int (by decide +kernel) (pa_cons (pe_ix ix_list (pv 1) pe_int (fun _ _ => rfl)) pa_nil)) pe_int) (fun _ _ => rfl)))
    (pss_cons (ps_set (i := 4) sc_law.nd rfl (Or.inl rfl) (pe_cd D_law_items hr (by rfl) (pa_cons (pv 1) (pa_cons pe_int (pa_cons (pv 2) (pa_cons (pv 3) pa_nil))))))
    (pss_cons (ps_set (i := 5) sc_law.nd rfl (Or.inl rfl) (pe_cd D_law_near hr (by rfl) (pa_cons (pv 1) (pa_cons (pv 4) (pa_cons (pv 3) pa_nil)))))
    (pss_cons (ps_set (i := 6) sc_law.nd rfl (Or.inl rfl) (pe_cd D_law_with_gaps hr (by rfl) (pa_cons (pv 1) (pa_cons (pv 5) pa_nil))))
    (pss_cons (ps_asg (pe_cd D_law_counts hr (by rfl) (pa_cons (pv 4) (pa_cons (pv 5) (pa_cons (pv 6) pa_nil)))) (pg_tup (by rfl) (pgs_cons (pg_name (i := 7) sc_law.nd rfl (Or.inl rfl)) (pgs_cons (pg_name (i := 8) sc_law.nd rfl (Or.inl rfl)) (pgs_cons (pg_name (i := 9) sc_law.nd rfl (Or.inl rfl)) (pgs_cons (pg_name (i := 10) sc_law.nd rfl (Or.inl rfl)) pgs_nil))))))
    (pss_cons (ps_set (i := 11) sc_law.nd rfl (Or.inl rfl) (pe_lst (pa_cons (pe_callTy call_list_of (by rfl) T.z_list (by decide +kernel) (pa_cons (pv 4) pa_nil)) (pa_cons (pe_callTy call_list_of (by rfl) T.z_list (by decide +kernel) (pa_cons (pv 5) pa_nil)) (pa_cons (pe_callTy call_list_of (by rfl) T.z_list (by decide +kernel) (pa_cons (pv 6) pa_nil)) pa_nil)))))
    (pss_cons (ps_set (i := 12) sc_law.nd rfl (Or.inl rfl) (pe_cd D_support_of hr (by rfl) (pa_cons (pe_ix ix_list (pv 11) pe_int (fun _ _ => rfl)) pa_nil)))
    (pss_cons (ps_if (pt_not (pt_val (pe_cd D_law_is_row hr (by rfl) (pa_cons (pv 12) (pa_cons (pv 10) pa_nil)))))
      (pss_one (ps_ret pe_bl))
      pss_nil)
    (pss_cons (ps_expr (pe_bm PySem.F.plainAttrs_list PySem.F.slot_list_append PySem.F.type_list_append mt_append (pv 12) (pa_cons pe_int pa_nil)))
    (pss_cons (ps_set (i := 13) sc_law.nd rfl (Or.inl rfl) (pe_cd D_erased_positions hr (by rfl) (pa_cons (pe_ix ix_list (pv 11) pe_int (fun _ _ => rfl)) pa_nil)))
    (pss_cons (ps_if (pt_not (pt_val (pe_cd D_law_is_row hr (by rfl) (pa_cons (pv 13) (pa_cons (pv 9) pa_nil)))))
      (pss_one (ps_ret pe_bl))
      pss_nil)
    (pss_cons (ps_expr (pe_bm PySem.F.plainAttrs_list PySem.F.slot_list_append PySem.F.type_list_append mt_append (pv 13) (pa_cons pe_int pa_nil)))
    (pss_cons (ps_if (PW.pt (pw_or (pt_not (pt_val (pe_cd D_law_is_row hr (by rfl) (pa_cons (pe_cd D_support_of hr (by rfl) (pa_cons (pe_ix ix_list (pv 11) pe_int (fun _ _ => rfl)) pa_nil)) (pa_cons (pv 10) pa_nil))))) (pw_or1 (pt_not (pt_val (pe_cd D_law_is_row hr (by rfl) (pa_cons (pe_cd D_erased_positions hr (by rfl) (pa_cons (pe_ix ix_list (pv 11) pe_int (fun _ _ => rfl)) pa_nil)) (pa_cons (pv 9) pa_nil))))))))
      (pss_one (ps_ret pe_bl))
      pss_nil)
    (pss_cons (ps_set (i := 14) sc_law.nd rfl (Or.inl rfl) (pe_lst (pa_cons (pe_cd D_weight_of hr (by rfl) (pa_cons (pe_ix ix_list (pv 11) pe_int (fun _ _ => rfl)) pa_nil)) (pa_cons (pe_cdX D_distance_between hr (by rfl) passL (pa_cons (pe_ix ix_list (pv 11) pe_int (fun _ _ => rfl)) (pa_cons (pe_ix ix_list (pv 11) pe_int (fun _ _ => rfl)) pa_nil))) (pa_cons (pe_cdX D_distance_between hr (by rfl) passL (pa_cons (pe_ix ix_list (pv 11) pe_int (fun _ _ => rfl)) (pa_cons (pe_ix ix_list (pv 11) pe_int (fun _ _ => rfl)) pa_nil))) pa_nil)))))
    (pss_cons (ps_expr (pe_bm PySem.F.plainAttrs_list PySem.F.slot_list_append PySem.F.type_list_append mt_append (pv 14) (pa_cons (pe_cdX D_errors_beside hr (by rfl) passL (pa_cons (pe_ix ix_list (pv 11) pe_int (fun _ _ => rfl)) (pa_cons (pe_ix ix_list (pv 11) pe_int (fun _ _ => rfl)) pa_nil))) pa_nil)))
    (pss_cons (ps_if (pt_not (pt_val (pe_cd D_law_is_row hr (by rfl) (pa_cons (pv 14) (pa_cons (pe_lst (pa_cons (pe_callB call_len_seq (by rfl) T.z_len PySem.boot_len (pa_cons (pv 10) pa_nil)) (pa_cons (pv 7) (pa_cons (pv 7) (pa_cons (pv 8) pa_nil))))) pa_nil)))))
      (pss_one (ps_ret pe_bl))
      pss_nil)
    (pss_cons (ps_set (i := 15) sc_law.nd rfl (Or.inl rfl) (pe_callTy call_list_of (by rfl) T.z_list (by decide +kernel) (pa_cons (pv 5) pa_nil)))
    (pss_cut (ps_if (PW.pt (pw_or (pt_cmpR op_gt (pv 2) pe_int (nomark _)) (pw_or1 (PW.pt (pw_and (pt_cmpR op_eq (pe_op op_mod (pe_callTy call_int1 (by rfl) T.z_int (by decide +kernel) (pa_cons (pe_ix ix_list (pv 1) pe_int (fun _ _ => rfl)) pa_nil)) pe_int) pe_int (nomark _)) (pw_and1 (pt_cmpR op_gt (pv 2) pe_int (nomark _))))))))
      (pss_one (ps_set (i := 15) sc_law.nd rfl (Or.inl rfl) (pe_slice sl_list (pv 15) po_none (po_some (pe_un un_neg pe_int)))))
      (pss_one (ps_set (i := 15) sc_law.nd rfl (Or.inl rfl) (pe_op op_cat (pv 15) (pe_op op_rep (pe_lst (pa_cons (pe_op op_mod (pe_callTy call_int1 (by rfl) T.z_int (by decide +kernel) (pa_cons (pe_ix ix_list (pv 1) pe_int (fun _ _ => rfl)) pa_nil)) (pv 3)) pa_nil)) (pe_op op_add pe_int (pe_op op_mod (pe_callTy call_int1 (by rfl) T.z_int (by decide +kernel) (pa_cons (pe_ix ix_list (pv 1) pe_int (fun _ _ => rfl)) pa_nil)) pe_int)))))))
    (pss_cons (ps_if (PW.pt (pw_or (pt_not (pt_val (pe_cd D_law_refuses_distance hr (by rfl) (pa_cons (pe_ix ix_list (pv 11) pe_int (fun _ _ => rfl)) (pa_cons (pv 15) pa_nil))))) (pw_or1 (pt_not (pt_val (pe_cd D_law_refuses_distance hr (by rfl) (pa_cons (pv 15) (pa_cons (pe_ix ix_list (pv 11) pe_int (fun _ _ => rfl)) pa_nil))))))))
      (pss_one (ps_ret pe_bl))
      pss_nil)
    (pss_cons (ps_if (PW.pt (pw_or (pt_not (pt_val (pe_cd D_law_refuses_errors hr (by rfl) (pa_cons (pe_ix ix_list (pv 11) pe_int (fun _ _ => rfl)) (pa_cons (pv 15) pa_nil))))) (pw_or1 (pt_not (pt_val (pe_cd D_law_refuses_errors hr (by rfl) (pa_cons (pv 15) (pa_cons (pe_ix ix_list (pv 11) pe_int (fun _ _ => rfl)) pa_nil))))))))
      (pss_one (ps_ret pe_bl))
      pss_nil)
    (pss_one (ps_ret (pe_cmpR (op_eqD hr.units) (pv 11) (pe_lst (pa_cons (pv 4) (pa_cons (pv 5) (pa_cons (pv 6) pa_nil)))) (nomark _))))))))))))))))))))))))))), ?_⟩
  rw [show L2.start ["script", "numbers", "size", "most", "first", "second", "received", "distance", "errors", "erased", "support", "passed", "told", "gaps", "counts", "other"] [V.ref a] = [some (.ref a), none, none, none, none, none, none, none, none, none, none, none, none, none, none, none] from rfl]
  -- numbers
  walk_at "nm"
  refine q_asgC (by walk_at "ev") fun H1 e1 => ⟨a, cs, 44, rfl, ex_l e1 hS, by decide, by decide, fun ns n1 H2 hl hB nn e2 h2 => ?_⟩
  have hl' : ns.length = 44 := by omega
  -- size
  walk_at "nm"
  refine q_asg (by walk_at "evs") fun H3 e3 => ?_
  walk_at "nm"
  refine q_ifAsg (v := .int (if ns.getD (1 : Int).toNat 0 % 8 = 1 then ns.getD (2 : Int).toNat 0 % 256 else ns.getD (0 : Int).toNat 0 % 12)) (b := decide (ns.getD (1 : Int).toNat 0 % 8 = 1)) (et_is (by walk_at "evs") (dec_int _ _)) (fun hb => ?_) (fun hb => ?_) fun H4 e4 => ?_
  · rw [if_pos (of_decide_eq_true hb)]
    exact ev_is (by walk_at "evs") rfl
  · rw [if_neg (of_decide_eq_false hb)]
    rfl
  generalize hsz : (if ns.getD (1 : Int).toNat 0 % 8 = 1 then ns.getD (2 : Int).toNat 0 % 256 else ns.getD (0 : Int).toNat 0 % 12) = sz
  have sz0 : 0 ≤ sz ∧ sz ≤ 255 := by
    rw [← hsz]
    split <;> omega
  -- most
  walk_at "nm"
  refine q_asg (ev_opL1 (xs := ([2, 3, 4, 9, 256] : List Int).map V.int) (el_lst (by walk_at "ev") (by decide)) (fun H5 e5 => by walk_at "evs") (fun p H5 h5 e5 => rv_ixL (sq_of h5) (at_int (by omega) (by show _ < (5 : Int); omega)))) fun H5 e5 => ?_
  have q0 : 0 < ([2, 3, 4, 9, 256] : List Int).getD (ns.getD (3 : Int).toNat 0 % 5).toNat 0 := by
    have h5 : ns.getD (3 : Int).toNat 0 % 5 = 0 ∨ ns.getD (3 : Int).toNat 0 % 5 = 1 ∨ ns.getD (3 : Int).toNat 0 % 5 = 2 ∨ ns.getD (3 : Int).toNat 0 % 5 = 3 ∨ ns.getD (3 : Int).toNat 0 % 5 = 4 := by omega
    rcases h5 with h | h | h | h | h <;> rw [h] <;> decide
  generalize ([2, 3, 4, 9, 256] : List Int).getD (ns.getD (3 : Int).toNat 0 % 5).toNat 0 = q at q0
  -- the words
  walk_at "nm"
  refine q_asgC (by walk_at "ev") fun H6 e6 => ⟨n1, ns, 4, sz, q, rfl, by walk_at "sq", hB, by decide, by omega, sz0.1, sz0.2, q0, fun fs f1 H7 hfl nf e7 hf => ?_⟩
  have fl : fs.length ≤ 255 := by omega
  walk_at "nm"
  refine q_asgC (by walk_at "ev") fun H8 e8 => ⟨n1, f1, ns, fs, q, rfl, by walk_at "sq", by walk_at "sq", by omega, fl, q0, fun ss s1 H9 hsl ns' e9 hs => ?_⟩
  walk_at "nm"
  refine q_asgC (by walk_at "ev") fun H10 e10 => ⟨n1, s1, ns, ss, rfl, by walk_at "sq", by walk_at "sq", by omega, by omega, fun rs r1 H11 hrl nr e11 hrr => ?_⟩
  have lS : ss.length = fs.length := hsl
  have lR : rs.length = fs.length := hrl.trans hsl
  walk_at "nm"
  refine q_asgCg (by walk_at "ev") fun H12 e12 => ⟨f1, s1, r1, fs, ss, rs, fs.length, rfl, by walk_at "sq", by walk_at "sq", by walk_at "sq", rfl, lS, lR, fl, fun p er su H13 ne nsu e13 hp he hsu => ?_⟩
  walk_at "nm"
  refine ⟨p, _, rfl, st_of hp, rfl, _, _, rfl, _, _, rfl, _, _, rfl, _, _, rfl, rfl, ?_⟩
  -- passed
  walk_at "nm"
  refine q_lists3 (K := K) rfl rfl rfl (by walk_at "sq" : SqL K H13 f1 (fs.map V.int)) (by walk_at "sq" : SqL K H13 s1 (ss.map V.int)) (by walk_at "sq" : SqL K H13 r1 (rs.map oV)) fun pp l1 l2 l3 H14 e14 npp hpp hl1 hl2 hl3 => ?_
  -- told
  walk_at "nm"
  refine q_asgC (by walk_at "evs") fun H15 e15 => ⟨l1, fs, rfl, by walk_at "sq", fl, fun t H16 nt e16 ht => ?_⟩
  have sl1 : (sel fs.length (fS fs)).length ≤ 90000 := Nat.le_trans (sel_len _ _) (by omega)
  have sl2 : (sel rs.length (fN rs)).length ≤ 90000 := Nat.le_trans (sel_len _ _) (by omega)
  walk_at "nm"
  refine q_when (b := false) (et_is (et_not (et_B (ev_call (z := .bl true) (by walk_at "ev") (spv_row ht (by walk_at "sq" : SqL K H16 su _) sl1)))) rfl) (fun q => Bool.noConfusion q) fun _ H17 e17 => ?_
  refine q_app (e17 _ _ ht) (by walk_at "ev") (by walk_at "ev") (by rw [List.length_map]; omega) fun H18 e18 => ?_
  have e19 := Ex.mut (o := .lst ((sel fs.length (fS fs)).map V.int ++ [.int 3])) (show Ex H15 H18 by walk_at "ex") nt
  generalize upd H18 t (.lst ((sel fs.length (fS fs)).map V.int ++ [.int 3])) = H19 at e19
  -- gaps
  walk_at "nm"
  refine q_asgC (by walk_at "evs") fun H20 e20 => ⟨l3, rs, rfl, by walk_at "sq", by omega, fun g H21 ng e21 hg => ?_⟩
  have he' : H13 er = some (.lst ((sel rs.length (fN rs)).map V.int)) := by rw [lR]; exact he
  walk_at "nm"
  refine q_when (b := false) (et_is (et_not (et_B (ev_call (z := .bl true) (by walk_at "ev") (spv_row hg (sq_ex he' (by walk_at "ex")) sl2)))) rfl) (fun q => Bool.noConfusion q) fun _ H22 e22 => ?_
  refine q_app (e22 _ _ hg) (by walk_at "ev") (by walk_at "ev") (by rw [List.length_map]; omega) fun H23 e23 => ?_
  have e24 := Ex.mut (o := .lst ((sel rs.length (fN rs)).map V.int ++ [.int 3])) (show Ex H20 H23 by walk_at "ex") ng
  generalize upd H23 g (.lst ((sel rs.length (fN rs)).map V.int ++ [.int 3])) = H24 at e24
  -- asked again
  walk_at "nm"
  refine q_when (b := false) (et_is (et_or (a := false) (b := false) (et_is (et_not (et_B (ev_rowN (el_call (by walk_at "evs") (spl_sup (by walk_at "sq" : SqL K H24 l1 _) fl)) rfl (by walk_at "sq" : SqL K H24 su _) sl1))) rfl) fun _ =>
    et_is (et_not (et_B (ev_rowN (el_call (by walk_at "evs") (spl_era (by walk_at "sq" : SqL K H24 l3 (rs.map oV)) (by omega))) rfl (sq_ex he' (by walk_at "ex")) sl2))) rfl) rfl) (fun q => Bool.noConfusion q) fun _ H25 e25 => ?_
  -- counts
  walk_at "nm"
  refine q_asgL (el_lst (ea_cons (ev_call (by walk_at "evs") (spv_wei (by walk_at "sq" : SqL K H25 l1 (fs.map V.int)))) (ea_cons (ev_call (by walk_at "evs") (spv_dist (by walk_at "sq" : SqL K H25 l1 (fs.map V.int)) (by walk_at "sq" : SqL K H25 l2 (ss.map V.int)) (by omega) lS.symm))
    (ea_cons (ev_call (by walk_at "evs") (spv_dist (by walk_at "sq" : SqL K H25 l2 (ss.map V.int)) (by walk_at "sq" : SqL K H25 l1 (fs.map V.int)) (by omega) lS)) ea_nil))) (by simp)) fun c H26 nc e26 hc => ?_
  refine q_app hc (by walk_at "ev") (ev_call (by walk_at "evs") (spv_errs (by walk_at "sq" : SqL K H26 l1 (fs.map V.int)) (by walk_at "sq" : SqL K H26 l3 (rs.map oV)) (by omega) lR.symm)) (by simp) fun H27 e27 => ?_
  have e28 := Ex.mut (o := .lst ([V.int ((sel fs.length (fS fs)).length : Int), V.int ((sel fs.length (fD fs ss)).length : Int), V.int ((sel ss.length (fD ss fs)).length : Int)] ++ [V.int ((sel fs.length (fE fs rs)).length : Int)])) (show Ex H25 H27 by walk_at "ex") nc
  have hc8 : upd H27 c (.lst ([V.int ((sel fs.length (fS fs)).length : Int), V.int ((sel fs.length (fD fs ss)).length : Int), V.int ((sel ss.length (fD ss fs)).length : Int)] ++ [V.int ((sel fs.length (fE fs rs)).length : Int)])) c = some (.lst (([((sel fs.length (fS fs)).length : Int), ((sel fs.length (fD fs ss)).length : Int), ((sel fs.length (fD fs ss)).length : Int), ((sel fs.length (fE fs rs)).length : Int)] : List Int).map V.int)) := by
    rw [upd_same, fD_comm ss fs, lS]
    rfl
  generalize upd H27 c (.lst ([V.int ((sel fs.length (fS fs)).length : Int), V.int ((sel fs.length (fD fs ss)).length : Int), V.int ((sel ss.length (fD ss fs)).length : Int)] ++ [V.int ((sel fs.length (fE fs rs)).length : Int)])) = H28 at e28 hc8
  walk_at "nm"
  refine q_when (b := false) (et_is (et_not (et_B (ev_rowM rfl hc8 (el_lst (ea_cons (ev_is (ev_cb (ea_cons (ev_var rfl) ea_nil) (rc_len (by walk_at "sq" : SqL K H28 su ((sel fs.length (fS fs)).map V.int)))) (by rw [List.length_map])) (ea_cons (ev_var rfl) (ea_cons (ev_var rfl) (ea_cons (ev_var rfl) ea_nil)))) (by simp)) (by show 4 ≤ 90000; decide)))) rfl) (fun q => Bool.noConfusion q) fun _ H29 e29 => ?_
  -- other
  walk_at "nm"
  refine q_asgL (el_list (ev_var rfl) (by walk_at "sq" : SqL K H29 s1 (ss.map V.int))) fun o H30 no e30 ho => ?_
  walk_at "nm"
  refine q_cut (M := fun σ' H' => ∃ (o : Addr) (os : List Int), σ' = [some (.ref a), some (.ref n1), some (.int sz), some (.int q), some (.ref f1), some (.ref s1), some (.ref r1), some (.int (sel fs.length (fD fs ss)).length), some (.int (sel fs.length (fE fs rs)).length), some (.ref er), some (.ref su), some (.ref pp), some (.ref t), some (.ref g), some (.ref c), some (.ref o)] ∧ Ex H29 H' ∧ os.length ≠ fs.length ∧ os.length ≤ 300 ∧ H' o = some (.lst (os.map V.int))) ?_ ?_
  · refine s_if (et_or (et_test (by walk_at "evs")) fun _ => et_and (et_test (by walk_at "evs")) fun _ => et_test (by walk_at "evs")) (fun hb H31 e31 => ?_) (fun hb H31 e31 => ?_)
    · have pos : 0 < sz := by
        rcases (Bool.or_eq_true _ _).mp hb with h | h
        · have := of_decide_eq_true h
          omega
        · exact of_decide_eq_true ((Bool.and_eq_true _ _).mp h).2
      refine s_asgL (el_sl (ev_var rfl) eo_none (eo_some (ev_un ev_c ru_neg)) (by walk_at "sq" : SqL K H31 o (ss.map V.int))) fun o2 H32 no2 e32 ho2 => ?_
      refine ⟨o2, ss.take (ss.length - 1), rfl, by walk_at "ex", by rw [List.length_take]; omega, by rw [List.length_take]; omega, ?_⟩
      rw [ho2, cut_last, List.length_map, List.map_take]
    · refine s_asgL (el_cat (ev_var rfl) (e31 _ _ ho) (el_rep (el_lst (ea_cons (by walk_at "evs") ea_nil) (by simp)) (by walk_at "evs") ⟨by omega, by omega⟩ (by show 1 * _ ≤ _; omega)) (by
        rw [List.length_map, List.length_flatten, List.map_replicate, List.sum_replicate_nat]
        show _ + _ * 1 ≤ _
        omega)) fun o2 H32 no2 e32 ho2 => ?_
      refine ⟨o2, ss ++ (List.replicate (1 + ns.getD (40 : Int).toNat 0 % 3).toNat [ns.getD (41 : Int).toNat 0 % q]).flatten, rfl, by walk_at "ex", ?_, ?_, ?_⟩
      · rw [List.length_append, List.length_flatten, List.map_replicate, List.sum_replicate_nat]
        show _ + _ * 1 ≠ _
        omega
      · rw [List.length_append, List.length_flatten, List.map_replicate, List.sum_replicate_nat]
        show _ + _ * 1 ≤ _
        omega
      · rw [ho2, List.map_append, List.map_flatten, List.map_replicate]
        rfl
  rintro σ' H31 ⟨o2, os, rfl, e31, one, ol, ho2⟩
  have ho3 : H31 o2 = some (.lst ((os.map some).map oV)) := by rw [opts_ints]; exact ho2
  have hl1r : H14 l1 = some (.lst (fs.map V.int)) := hl1
  walk_at "nm"
  refine q_when (b := false) (et_is (et_or (a := false) (b := false) (et_is (et_not (et_B (ev_call (z := .bl true) (by walk_at "evs") (spv_refD (by walk_at "sq" : SqL K H31 l1 (fs.map V.int)) (by walk_at "sq" : SqL K H31 o2 (os.map V.int)) (by omega) (Ne.symm one))))) rfl) fun _ =>
    et_is (et_not (et_B (ev_call (z := .bl true) (by walk_at "evs") (spv_refD (by walk_at "sq" : SqL K H31 o2 (os.map V.int)) (by walk_at "sq" : SqL K H31 l1 (fs.map V.int)) ol one)))) rfl) rfl) (fun q => Bool.noConfusion q) fun _ H32 e32 => ?_
  walk_at "nm"
  refine q_when (b := false) (et_is (et_or (a := false) (b := false) (et_is (et_not (et_B (ev_call (z := .bl true) (by walk_at "evs") (spv_refE (by walk_at "sq" : SqL K H32 l1 (fs.map V.int)) (sq_ex ho3 e32 : SqL K H32 o2 ((os.map some).map oV)) (by omega) (by rw [List.length_map]; exact Ne.symm one))))) rfl) fun _ =>
    et_is (et_not (et_B (ev_call (z := .bl true) (by walk_at "evs") (spv_refE (by walk_at "sq" : SqL K H32 o2 (os.map V.int)) (by walk_at "sq" : SqL K H32 l3 (rs.map oV)) ol (by omega))))) rfl) rfl) (fun q => Bool.noConfusion q) fun _ H33 e33 => ?_
  refine s_ret (ev_opL (r := rEqD K) (z := .bl true) (ev_var rfl) (el_lst (by walk_at "ev") (by simp)) fun p2 H34 hp2 e34 => fun H35 e35 Q2 q2 => ?_) fun H36 e36 => k H36
  refine ⟨dat3 fs ss rs, dat3 fs ss rs, dat3_dp (l1 := l1) (l2 := l2) (l3 := l3) (by walk_at "sq") (by walk_at "sq") (by walk_at "sq") (by walk_at "sq"), dat3_dp (l1 := f1) (l2 := s1) (l3 := r1) (by walk_at "sq") (by walk_at "sq") (by walk_at "sq") (by walk_at "sq"), dat3_shaped _ _ _, dat3_shaped _ _ _, ?_⟩
  rw [dat3_refl]
  exact q2 H35 (Ex.refl _)
end
end My
set_option Elab.async false
set_option linter.all false
set_option maxRecDepth 100000
set_option maxHeartbeats 4000000
namespace My
open PySem L2 L2H Evl
theorem all_mk {l : PySem.W.OpenLaw} {w : World} {K : PySem.W.Frag} {h : Heap} {mg : Str → Option Value} {fa f_weight_of f_support_of f_require_same_length f_distance_between f_erased_positions f_errors_beside f_law_row f_law_numbers f_law_is_integer f_law_is_row f_law_items f_law_near f_law_with_gaps f_law_counts f_law_only_invalid_word f_law_refuses_distance f_law_refuses_errors f_law D cE cC cN : Addr} (X : K.In h) (G : h.Ns mainGlobals mg) (hfa : mg "law" = some (.ref fa))
    {od_weight_of an_weight_of : Option Addr} {sl_weight_of : Array (Option Value)} {oc_weight_of kV_weight_of dc_weight_of pm_weight_of cd_weight_of ct_weight_of : Value}
    {od_support_of an_support_of : Option Addr} {sl_support_of : Array (Option Value)} {oc_support_of kV_support_of dc_support_of pm_support_of cd_support_of ct_support_of : Value}
    {od_require_same_length an_require_same_length : Option Addr} {sl_require_same_length : Array (Option Value)} {oc_require_same_length kV_require_same_length dc_require_same_length pm_require_same_length cd_require_same_length ct_require_same_length : Value}
    {od_distance_between an_distance_between : Option Addr} {sl_distance_between : Array (Option Value)} {oc_distance_between kV_distance_between dc_distance_between pm_distance_between cd_distance_between ct_distance_between : Value}
    {od_erased_positions an_erased_positions : Option Addr} {sl_erased_positions : Array (Option Value)} {oc_erased_positions kV_erased_positions dc_erased_positions pm_erased_positions cd_erased_positions ct_erased_positions : Value}
    {od_errors_beside an_errors_beside : Option Addr} {sl_errors_beside : Array (Option Value)} {oc_errors_beside kV_errors_beside dc_errors_beside pm_errors_beside cd_errors_beside ct_errors_beside : Value}
    {od_law_row an_law_row : Option Addr} {sl_law_row : Array (Option Value)} {oc_law_row kV_law_row dc_law_row pm_law_row cd_law_row ct_law_row : Value}
    {od_law_numbers an_law_numbers : Option Addr} {sl_law_numbers : Array (Option Value)} {oc_law_numbers kV_law_numbers dc_law_numbers pm_law_numbers cd_law_numbers ct_law_numbers : Value}
    {od_law_is_integer an_law_is_integer : Option Addr} {sl_law_is_integer : Array (Option Value)} {oc_law_is_integer kV_law_is_integer dc_law_is_integer pm_law_is_integer cd_law_is_integer ct_law_is_integer : Value}
    {od_law_is_row an_law_is_row : Option Addr} {sl_law_is_row : Array (Option Value)} {oc_law_is_row kV_law_is_row dc_law_is_row pm_law_is_row cd_law_is_row ct_law_is_row : Value}
    {od_law_items an_law_items : Option Addr} {sl_law_items : Array (Option Value)} {oc_law_items kV_law_items dc_law_items pm_law_items cd_law_items ct_law_items : Value}
    {od_law_near an_law_near : Option Addr} {sl_law_near : Array (Option Value)} {oc_law_near kV_law_near dc_law_near pm_law_near cd_law_near ct_law_near : Value}
    {od_law_with_gaps an_law_with_gaps : Option Addr} {sl_law_with_gaps : Array (Option Value)} {oc_law_with_gaps kV_law_with_gaps dc_law_with_gaps pm_law_with_gaps cd_law_with_gaps ct_law_with_gaps : Value}
    {od_law_counts an_law_counts : Option Addr} {sl_law_counts : Array (Option Value)} {oc_law_counts kV_law_counts dc_law_counts pm_law_counts cd_law_counts ct_law_counts : Value}
    {od_law_only_invalid_word an_law_only_invalid_word : Option Addr} {sl_law_only_invalid_word : Array (Option Value)} {oc_law_only_invalid_word kV_law_only_invalid_word dc_law_only_invalid_word pm_law_only_invalid_word cd_law_only_invalid_word ct_law_only_invalid_word : Value}
    {od_law_refuses_distance an_law_refuses_distance : Option Addr} {sl_law_refuses_distance : Array (Option Value)} {oc_law_refuses_distance kV_law_refuses_distance dc_law_refuses_distance pm_law_refuses_distance cd_law_refuses_distance ct_law_refuses_distance : Value}
    {od_law_refuses_errors an_law_refuses_errors : Option Addr} {sl_law_refuses_errors : Array (Option Value)} {oc_law_refuses_errors kV_law_refuses_errors dc_law_refuses_errors pm_law_refuses_errors cd_law_refuses_errors ct_law_refuses_errors : Value}
    {od_law an_law : Option Addr} {sl_law : Array (Option Value)} {oc_law kV_law dc_law pm_law cd_law ct_law : Value}
    (a_weight_of : PySem.W.nsIn K mainGlobals "weight_of" = some (some (.ref f_weight_of))) (l_weight_of : K.lookup f_weight_of = some ⟨oc_weight_of, od_weight_of, .func (PySem.W.fnOf "weight_of" "weight_of" (defArgs s_weight_of) (defBody s_weight_of) (defScope s_weight_of) .none kV_weight_of dc_weight_of pm_weight_of an_weight_of cd_weight_of ct_weight_of), sl_weight_of⟩) (c_weight_of : PySem.W.codeIn K cd_weight_of "weight_of" = true) (k_weight_of : PySem.W.keepIn K (.ref f_weight_of) = true)
    (a_support_of : PySem.W.nsIn K mainGlobals "support_of" = some (some (.ref f_support_of))) (l_support_of : K.lookup f_support_of = some ⟨oc_support_of, od_support_of, .func (PySem.W.fnOf "support_of" "support_of" (defArgs s_support_of) (defBody s_support_of) (defScope s_support_of) .none kV_support_of dc_support_of pm_support_of an_support_of cd_support_of ct_support_of), sl_support_of⟩) (c_support_of : PySem.W.codeIn K cd_support_of "support_of" = true) (k_support_of : PySem.W.keepIn K (.ref f_support_of) = true)
    (a_require_same_length : PySem.W.nsIn K mainGlobals "_require_same_length" = some (some (.ref f_require_same_length))) (l_require_same_length : K.lookup f_require_same_length = some ⟨oc_require_same_length, od_require_same_length, .func (PySem.W.fnOf "_require_same_length" "_require_same_length" (defArgs s_require_same_length) (defBody s_require_same_length) (defScope s_require_same_length) .none kV_require_same_length dc_require_same_length pm_require_same_length an_require_same_length cd_require_same_length ct_require_same_length), sl_require_same_length⟩) (c_require_same_length : PySem.W.codeIn K cd_require_same_length "_require_same_length" = true) (k_require_same_length : PySem.W.keepIn K (.ref f_require_same_length) = true)
    (a_distance_between : PySem.W.nsIn K mainGlobals "distance_between" = some (some (.ref f_distance_between))) (l_distance_between : K.lookup f_distance_between = some ⟨oc_distance_between, od_distance_between, .func (PySem.W.fnOf "distance_between" "distance_between" (defArgs s_distance_between) (defBody s_distance_between) (defScope s_distance_between) .none kV_distance_between dc_distance_between pm_distance_between an_distance_between cd_distance_between ct_distance_between), sl_distance_between⟩) (c_distance_between : PySem.W.codeIn K cd_distance_between "distance_between" = true) (k_distance_between : PySem.W.keepIn K (.ref f_distance_between) = true)
    (a_erased_positions : PySem.W.nsIn K mainGlobals "erased_positions" = some (some (.ref f_erased_positions))) (l_erased_positions : K.lookup f_erased_positions = some ⟨oc_erased_positions, od_erased_positions, .func (PySem.W.fnOf "erased_positions" "erased_positions" (defArgs s_erased_positions) (defBody s_erased_positions) (defScope s_erased_positions) .none kV_erased_positions dc_erased_positions pm_erased_positions an_erased_positions cd_erased_positions ct_erased_positions), sl_erased_positions⟩) (c_erased_positions : PySem.W.codeIn K cd_erased_positions "erased_positions" = true) (k_erased_positions : PySem.W.keepIn K (.ref f_erased_positions) = true)
    (a_errors_beside : PySem.W.nsIn K mainGlobals "errors_beside" = some (some (.ref f_errors_beside))) (l_errors_beside : K.lookup f_errors_beside = some ⟨oc_errors_beside, od_errors_beside, .func (PySem.W.fnOf "errors_beside" "errors_beside" (defArgs s_errors_beside) (defBody s_errors_beside) (defScope s_errors_beside) .none kV_errors_beside dc_errors_beside pm_errors_beside an_errors_beside cd_errors_beside ct_errors_beside), sl_errors_beside⟩) (c_errors_beside : PySem.W.codeIn K cd_errors_beside "errors_beside" = true) (k_errors_beside : PySem.W.keepIn K (.ref f_errors_beside) = true)
    (a_law_row : PySem.W.nsIn K mainGlobals "_law_row" = some (some (.ref f_law_row))) (l_law_row : K.lookup f_law_row = some ⟨oc_law_row, od_law_row, .func (PySem.W.fnOf "_law_row" "_law_row" (defArgs s_law_row) (defBody s_law_row) (defScope s_law_row) .none kV_law_row dc_law_row pm_law_row an_law_row cd_law_row ct_law_row), sl_law_row⟩) (c_law_row : PySem.W.codeIn K cd_law_row "_law_row" = true) (k_law_row : PySem.W.keepIn K (.ref f_law_row) = true)
    (a_law_numbers : PySem.W.nsIn K mainGlobals "_law_numbers" = some (some (.ref f_law_numbers))) (l_law_numbers : K.lookup f_law_numbers = some ⟨oc_law_numbers, od_law_numbers, .func (PySem.W.fnOf "_law_numbers" "_law_numbers" (defArgs s_law_numbers) (defBody s_law_numbers) (defScope s_law_numbers) .none kV_law_numbers dc_law_numbers pm_law_numbers an_law_numbers cd_law_numbers ct_law_numbers), sl_law_numbers⟩) (c_law_numbers : PySem.W.codeIn K cd_law_numbers "_law_numbers" = true) (k_law_numbers : PySem.W.keepIn K (.ref f_law_numbers) = true)
    (a_law_is_integer : PySem.W.nsIn K mainGlobals "_law_is_integer" = some (some (.ref f_law_is_integer))) (l_law_is_integer : K.lookup f_law_is_integer = some ⟨oc_law_is_integer, od_law_is_integer, .func (PySem.W.fnOf "_law_is_integer" "_law_is_integer" (defArgs s_law_is_integer) (defBody s_law_is_integer) (defScope s_law_is_integer) .none kV_law_is_integer dc_law_is_integer pm_law_is_integer an_law_is_integer cd_law_is_integer ct_law_is_integer), sl_law_is_integer⟩) (c_law_is_integer : PySem.W.codeIn K cd_law_is_integer "_law_is_integer" = true) (k_law_is_integer : PySem.W.keepIn K (.ref f_law_is_integer) = true)
    (a_law_is_row : PySem.W.nsIn K mainGlobals "_law_is_row" = some (some (.ref f_law_is_row))) (l_law_is_row : K.lookup f_law_is_row = some ⟨oc_law_is_row, od_law_is_row, .func (PySem.W.fnOf "_law_is_row" "_law_is_row" (defArgs s_law_is_row) (defBody s_law_is_row) (defScope s_law_is_row) .none kV_law_is_row dc_law_is_row pm_law_is_row an_law_is_row cd_law_is_row ct_law_is_row), sl_law_is_row⟩) (c_law_is_row : PySem.W.codeIn K cd_law_is_row "_law_is_row" = true) (k_law_is_row : PySem.W.keepIn K (.ref f_law_is_row) = true)
    (a_law_items : PySem.W.nsIn K mainGlobals "_law_items" = some (some (.ref f_law_items))) (l_law_items : K.lookup f_law_items = some ⟨oc_law_items, od_law_items, .func (PySem.W.fnOf "_law_items" "_law_items" (defArgs s_law_items) (defBody s_law_items) (defScope s_law_items) .none kV_law_items dc_law_items pm_law_items an_law_items cd_law_items ct_law_items), sl_law_items⟩) (c_law_items : PySem.W.codeIn K cd_law_items "_law_items" = true) (k_law_items : PySem.W.keepIn K (.ref f_law_items) = true)
    (a_law_near : PySem.W.nsIn K mainGlobals "_law_near" = some (some (.ref f_law_near))) (l_law_near : K.lookup f_law_near = some ⟨oc_law_near, od_law_near, .func (PySem.W.fnOf "_law_near" "_law_near" (defArgs s_law_near) (defBody s_law_near) (defScope s_law_near) .none kV_law_near dc_law_near pm_law_near an_law_near cd_law_near ct_law_near), sl_law_near⟩) (c_law_near : PySem.W.codeIn K cd_law_near "_law_near" = true) (k_law_near : PySem.W.keepIn K (.ref f_law_near) = true)
    (a_law_with_gaps : PySem.W.nsIn K mainGlobals "_law_with_gaps" = some (some (.ref f_law_with_gaps))) (l_law_with_gaps : K.lookup f_law_with_gaps = some ⟨oc_law_with_gaps, od_law_with_gaps, .func (PySem.W.fnOf "_law_with_gaps" "_law_with_gaps" (defArgs s_law_with_gaps) (defBody s_law_with_gaps) (defScope s_law_with_gaps) .none kV_law_with_gaps dc_law_with_gaps pm_law_with_gaps an_law_with_gaps cd_law_with_gaps ct_law_with_gaps), sl_law_with_gaps⟩) (c_law_with_gaps : PySem.W.codeIn K cd_law_with_gaps "_law_with_gaps" = true) (k_law_with_gaps : PySem.W.keepIn K (.ref f_law_with_gaps) = true)
    (a_law_counts : PySem.W.nsIn K mainGlobals "_law_counts" = some (some (.ref f_law_counts))) (l_law_counts : K.lookup f_law_counts = some ⟨oc_law_counts, od_law_counts, .func (PySem.W.fnOf "_law_counts" "_law_counts" (defArgs s_law_counts) (defBody s_law_counts) (defScope s_law_counts) .none kV_law_counts dc_law_counts pm_law_counts an_law_counts cd_law_counts ct_law_counts), sl_law_counts⟩) (c_law_counts : PySem.W.codeIn K cd_law_counts "_law_counts" = true) (k_law_counts : PySem.W.keepIn K (.ref f_law_counts) = true)
    (a_law_only_invalid_word : PySem.W.nsIn K mainGlobals "_law_only_invalid_word" = some (some (.ref f_law_only_invalid_word))) (l_law_only_invalid_word : K.lookup f_law_only_invalid_word = some ⟨oc_law_only_invalid_word, od_law_only_invalid_word, .func (PySem.W.fnOf "_law_only_invalid_word" "_law_only_invalid_word" (defArgs s_law_only_invalid_word) (defBody s_law_only_invalid_word) (defScope s_law_only_invalid_word) .none kV_law_only_invalid_word dc_law_only_invalid_word pm_law_only_invalid_word an_law_only_invalid_word cd_law_only_invalid_word ct_law_only_invalid_word), sl_law_only_invalid_word⟩) (c_law_only_invalid_word : PySem.W.codeIn K cd_law_only_invalid_word "_law_only_invalid_word" = true) (k_law_only_invalid_word : PySem.W.keepIn K (.ref f_law_only_invalid_word) = true)
    (a_law_refuses_distance : PySem.W.nsIn K mainGlobals "_law_refuses_distance" = some (some (.ref f_law_refuses_distance))) (l_law_refuses_distance : K.lookup f_law_refuses_distance = some ⟨oc_law_refuses_distance, od_law_refuses_distance, .func (PySem.W.fnOf "_law_refuses_distance" "_law_refuses_distance" (defArgs s_law_refuses_distance) (defBody s_law_refuses_distance) (defScope s_law_refuses_distance) .none kV_law_refuses_distance dc_law_refuses_distance pm_law_refuses_distance an_law_refuses_distance cd_law_refuses_distance ct_law_refuses_distance), sl_law_refuses_distance⟩) (c_law_refuses_distance : PySem.W.codeIn K cd_law_refuses_distance "_law_refuses_distance" = true) (k_law_refuses_distance : PySem.W.keepIn K (.ref f_law_refuses_distance) = true)
    (a_law_refuses_errors : PySem.W.nsIn K mainGlobals "_law_refuses_errors" = some (some (.ref f_law_refuses_errors))) (l_law_refuses_errors : K.lookup f_law_refuses_errors = some ⟨oc_law_refuses_errors, od_law_refuses_errors, .func (PySem.W.fnOf "_law_refuses_errors" "_law_refuses_errors" (defArgs s_law_refuses_errors) (defBody s_law_refuses_errors) (defScope s_law_refuses_errors) .none kV_law_refuses_errors dc_law_refuses_errors pm_law_refuses_errors an_law_refuses_errors cd_law_refuses_errors ct_law_refuses_errors), sl_law_refuses_errors⟩) (c_law_refuses_errors : PySem.W.codeIn K cd_law_refuses_errors "_law_refuses_errors" = true) (k_law_refuses_errors : PySem.W.keepIn K (.ref f_law_refuses_errors) = true)
    (a_law : PySem.W.nsIn K mainGlobals "law" = some (some (.ref f_law))) (l_law : K.lookup f_law = some ⟨oc_law, od_law, .func (PySem.W.fnOf "law" "law" (defArgs s_law) (defBody s_law) (defScope s_law) .none kV_law dc_law pm_law an_law cd_law ct_law), sl_law⟩) (c_law : PySem.W.codeIn K cd_law "law" = true) (k_law : PySem.W.keepIn K (.ref f_law) = true)
    (x_g : PySem.W.nsIn K mainGlobals "InvalidWord" = some (some (.ref D)))
    (x_x : PySem.W.excIn K D [.type "ValueError", .type "Exception", .type "BaseException", .type "object"] "ValueError.__new__" = true)
    (x_k : PySem.W.keepIn K (.ref D) = true)
    (x_b : PySem.W.subIn K (.ref D) (.type "BaseException") = some true)
    (x_t : PySem.W.typeIn K (.ref D) = some (.type "type"))
    (x_ga : PySem.W.findIn K (.ref D) "__getattribute__" = some (some (.builtin "BaseException.__getattribute__")))
    (x_gg : PySem.W.findIn K (.ref D) "__getattr__" = some none)
    (x_hd : PySem.W.hasDictIn K D = true)
    (x_cl : PySem.W.findIn K (.ref D) "__class__" = some (some (.builtin "object.__class__")))
    (x_sp : PySem.W.specialIn K (.builtin "object.__class__") "__get__" = some (some (.builtin "getset_descriptor.__get__")))
    (x_tk : PySem.W.takesIn K (.builtin "object.__class__") = some true)
    (x_mr : PySem.W.mroIn K D (.type "object") = some true)
    (x_s0 : PySem.W.subIn K (.ref D) (.ref D) = some true)
    (x_gE : PySem.W.nsIn K mainGlobals "CodeError" = some (some (.ref cE)))
    (x_gC : PySem.W.nsIn K mainGlobals "InvalidCode" = some (some (.ref cC)))
    (x_gN : PySem.W.nsIn K mainGlobals "NotInCode" = some (some (.ref cN)))
    (x_i1 : PySem.W.isClsIn K cE = true)
    (x_i3 : PySem.W.isClsIn K cC = true)
    (x_i4 : PySem.W.isClsIn K cN = true)
    (x_t1 : PySem.W.typeIn K (.ref cE) = some (.type "type"))
    (x_t3 : PySem.W.typeIn K (.ref cC) = some (.type "type"))
    (x_t4 : PySem.W.typeIn K (.ref cN) = some (.type "type"))
    (x_k1 : PySem.W.subIn K (.ref D) (.ref cE) = some true)
    (x_k2 : PySem.W.subIn K (.ref D) (.type "ValueError") = some true)
    (x_k3 : PySem.W.subIn K (.ref D) (.ref cC) = some false)
    (x_k4 : PySem.W.subIn K (.ref D) (.ref cN) = some false)
    (z_ValueError : PySem.W.nsIn K mainGlobals "ValueError" = some none)
    (z_len : PySem.W.nsIn K mainGlobals "len" = some none)
    (z_abs : PySem.W.nsIn K mainGlobals "abs" = some none)
    (z_int : PySem.W.nsIn K mainGlobals "int" = some none)
    (z_bool : PySem.W.nsIn K mainGlobals "bool" = some none)
    (z_max : PySem.W.nsIn K mainGlobals "max" = some none)
    (z_range : PySem.W.nsIn K mainGlobals "range" = some none)
    (z_list : PySem.W.nsIn K mainGlobals "list" = some none)
    (z_isinstance : PySem.W.nsIn K mainGlobals "isinstance" = some none)
    (z_enumerate : PySem.W.nsIn K mainGlobals "enumerate" = some none)
    (z_zip : PySem.W.nsIn K mainGlobals "zip" = some none)
    : ∃ fd : FuncData, (∀ (s : Shared) (v : Value), BindsTo s fd ⟨[v], []⟩ [("script", v)]) ∧ ∀ base : Heap, K.In base → base.Ns mainGlobals mg → FnOk l.prog w K mg base CX0 4 fa fd ["script"] (spLaw K) := by
  have e := hfa.symm.trans (PySem.W.mg_of X G a_law)
  cases e
  have F_weight_of := fun_mk (st := s_weight_of) l_weight_of c_weight_of k_weight_of
  have b_weight_of := F_weight_of.binds (ps := ["word"]) fun _ _ _ _ _ _ us hl => match us, hl with | [_], _ => rfl
  have g_weight_of := PySem.W.mg_of X G a_weight_of
  have F_support_of := fun_mk (st := s_support_of) l_support_of c_support_of k_support_of
  have b_support_of := F_support_of.binds (ps := ["word"]) fun _ _ _ _ _ _ us hl => match us, hl with | [_], _ => rfl
  have g_support_of := PySem.W.mg_of X G a_support_of
  have F_require_same_length := fun_mk (st := s_require_same_length) l_require_same_length c_require_same_length k_require_same_length
  have b_require_same_length := F_require_same_length.binds (ps := ["first", "second"]) fun _ _ _ _ _ _ us hl => match us, hl with | [_, _], _ => rfl
  have g_require_same_length := PySem.W.mg_of X G a_require_same_length
  have F_distance_between := fun_mk (st := s_distance_between) l_distance_between c_distance_between k_distance_between
  have b_distance_between := F_distance_between.binds (ps := ["first", "second"]) fun _ _ _ _ _ _ us hl => match us, hl with | [_, _], _ => rfl
  have g_distance_between := PySem.W.mg_of X G a_distance_between
  have F_erased_positions := fun_mk (st := s_erased_positions) l_erased_positions c_erased_positions k_erased_positions
  have b_erased_positions := F_erased_positions.binds (ps := ["received"]) fun _ _ _ _ _ _ us hl => match us, hl with | [_], _ => rfl
  have g_erased_positions := PySem.W.mg_of X G a_erased_positions
  have F_errors_beside := fun_mk (st := s_errors_beside) l_errors_beside c_errors_beside k_errors_beside
  have b_errors_beside := F_errors_beside.binds (ps := ["word", "received"]) fun _ _ _ _ _ _ us hl => match us, hl with | [_, _], _ => rfl
  have g_errors_beside := PySem.W.mg_of X G a_errors_beside
  have F_law_row := fun_mk (st := s_law_row) l_law_row c_law_row k_law_row
  have b_law_row := F_law_row.binds (ps := ["cell", "many"]) fun _ _ _ _ _ _ us hl => match us, hl with | [_, _], _ => rfl
  have g_law_row := PySem.W.mg_of X G a_law_row
  have F_law_numbers := fun_mk (st := s_law_numbers) l_law_numbers c_law_numbers k_law_numbers
  have b_law_numbers := F_law_numbers.binds (ps := ["script", "many"]) fun _ _ _ _ _ _ us hl => match us, hl with | [_, _], _ => rfl
  have g_law_numbers := PySem.W.mg_of X G a_law_numbers
  have F_law_is_integer := fun_mk (st := s_law_is_integer) l_law_is_integer c_law_is_integer k_law_is_integer
  have b_law_is_integer := F_law_is_integer.binds (ps := ["actual"]) fun _ _ _ _ _ _ us hl => match us, hl with | [_], _ => rfl
  have g_law_is_integer := PySem.W.mg_of X G a_law_is_integer
  have F_law_is_row := fun_mk (st := s_law_is_row) l_law_is_row c_law_is_row k_law_is_row
  have b_law_is_row := F_law_is_row.binds (ps := ["actual", "expected"]) fun _ _ _ _ _ _ us hl => match us, hl with | [_, _], _ => rfl
  have g_law_is_row := PySem.W.mg_of X G a_law_is_row
  have F_law_items := fun_mk (st := s_law_items) l_law_items c_law_items k_law_items
  have b_law_items := F_law_items.binds (ps := ["numbers", "at", "size", "most"]) fun _ _ _ _ _ _ us hl => match us, hl with | [_, _, _, _], _ => rfl
  have g_law_items := PySem.W.mg_of X G a_law_items
  have F_law_near := fun_mk (st := s_law_near) l_law_near c_law_near k_law_near
  have b_law_near := F_law_near.binds (ps := ["numbers", "first", "most"]) fun _ _ _ _ _ _ us hl => match us, hl with | [_, _, _], _ => rfl
  have g_law_near := PySem.W.mg_of X G a_law_near
  have F_law_with_gaps := fun_mk (st := s_law_with_gaps) l_law_with_gaps c_law_with_gaps k_law_with_gaps
  have b_law_with_gaps := F_law_with_gaps.binds (ps := ["numbers", "word"]) fun _ _ _ _ _ _ us hl => match us, hl with | [_, _], _ => rfl
  have g_law_with_gaps := PySem.W.mg_of X G a_law_with_gaps
  have F_law_counts := fun_mk (st := s_law_counts) l_law_counts c_law_counts k_law_counts
  have b_law_counts := F_law_counts.binds (ps := ["first", "second", "received"]) fun _ _ _ _ _ _ us hl => match us, hl with | [_, _, _], _ => rfl
  have g_law_counts := PySem.W.mg_of X G a_law_counts
  have F_law_only_invalid_word := fun_mk (st := s_law_only_invalid_word) l_law_only_invalid_word c_law_only_invalid_word k_law_only_invalid_word
  have b_law_only_invalid_word := F_law_only_invalid_word.binds (ps := ["e"]) fun _ _ _ _ _ _ us hl => match us, hl with | [_], _ => rfl
  have g_law_only_invalid_word := PySem.W.mg_of X G a_law_only_invalid_word
  have F_law_refuses_distance := fun_mk (st := s_law_refuses_distance) l_law_refuses_distance c_law_refuses_distance k_law_refuses_distance
  have b_law_refuses_distance := F_law_refuses_distance.binds (ps := ["first", "second"]) fun _ _ _ _ _ _ us hl => match us, hl with | [_, _], _ => rfl
  have g_law_refuses_distance := PySem.W.mg_of X G a_law_refuses_distance
  have F_law_refuses_errors := fun_mk (st := s_law_refuses_errors) l_law_refuses_errors c_law_refuses_errors k_law_refuses_errors
  have b_law_refuses_errors := F_law_refuses_errors.binds (ps := ["word", "received"]) fun _ _ _ _ _ _ us hl => match us, hl with | [_, _], _ => rfl
  have g_law_refuses_errors := PySem.W.mg_of X G a_law_refuses_errors
  have F_law := fun_mk (st := s_law) l_law c_law k_law
  have b_law := F_law.binds (ps := ["script"]) fun _ _ _ _ _ _ us hl => match us, hl with | [_], _ => rfl
  have g_law := PySem.W.mg_of X G a_law
  have y_ValueError := PySem.W.mg_none_of X G z_ValueError
  have y_len := PySem.W.mg_none_of X G z_len
  have y_abs := PySem.W.mg_none_of X G z_abs
  have y_int := PySem.W.mg_none_of X G z_int
  have y_bool := PySem.W.mg_none_of X G z_bool
  have y_max := PySem.W.mg_none_of X G z_max
  have y_range := PySem.W.mg_none_of X G z_range
  have y_list := PySem.W.mg_none_of X G z_list
  have y_isinstance := PySem.W.mg_none_of X G z_isinstance
  have y_enumerate := PySem.W.mg_none_of X G z_enumerate
  have y_zip := PySem.W.mg_none_of X G z_zip
  refine ⟨PySem.W.fnOf "law" "law" (defArgs s_law) (defBody s_law) (defScope s_law) .none kV_law dc_law pm_law an_law cd_law ct_law, fun s v => .of_eq rfl, fun base _ _ => ?_⟩
  have T : Txt mg := ⟨y_len, y_abs, y_int, y_bool, y_max, y_range, y_list, y_isinstance, y_enumerate, y_zip⟩
  have TE : ExTxt K mg D cE cC cN := ⟨PySem.W.mg_of X G x_g, x_x, x_k, x_b, x_t, ⟨x_ga, x_gg, x_b, x_hd, x_cl, x_sp, x_tk, x_mr⟩, PySem.W.exm_ref x_b x_hd x_t x_s0, PySem.W.mg_of X G x_gE, PySem.W.mg_of X G x_gC, PySem.W.mg_of X G x_gN, y_ValueError, kit_own x_s0 x_i1 x_t1 x_k1, kit_base (by decide +kernel) x_k2, kit_own x_s0 x_i3 x_t3 x_k3, kit_own x_s0 x_i4 x_t4 x_k4⟩
  have d_row : Dk l.prog w K mg base CX0 1 "_law_row" ["cell", "many"] spRow := ⟨_, _, g_law_row, k_law_row, b_law_row, ok_row F_law_row T⟩
  have d_int : Dk l.prog w K mg base CX0 1 "_law_is_integer" ["actual"] spIsInt := ⟨_, _, g_law_is_integer, k_law_is_integer, b_law_is_integer, ok_isint F_law_is_integer T⟩
  have d_same : Dk l.prog w K mg base (L2.CX l.prog w) 1 "_require_same_length" ["first", "second"] (spSame K D) := ⟨_, _, g_require_same_length, k_require_same_length, b_require_same_length, ok_same F_require_same_length T TE⟩
  have d_dist : Dk l.prog w K mg base (L2.CX l.prog w) 2 "distance_between" ["first", "second"] (spDist K D) := ⟨_, _, g_distance_between, k_distance_between, b_distance_between, ok_dist F_distance_between T d_same⟩
  have d_errs : Dk l.prog w K mg base (L2.CX l.prog w) 2 "errors_beside" ["word", "received"] (spErrs K D) := ⟨_, _, g_errors_beside, k_errors_beside, b_errors_beside, ok_errs F_errors_beside T d_same⟩
  have hO : FnZ l.prog w K mg base 1 f_law_only_invalid_word _ ["e"] D spOnly := ok_only F_law_only_invalid_word T TE
  exact ok_law F_law T
    (Dk.up ⟨_, _, g_law_numbers, k_law_numbers, b_law_numbers, ok_numbers F_law_numbers T d_row⟩ (by decide))
    (Dk.up ⟨_, _, g_law_items, k_law_items, b_law_items, ok_items F_law_items T⟩ (by decide))
    (Dk.up ⟨_, _, g_law_near, k_law_near, b_law_near, ok_near F_law_near T⟩ (by decide))
    (Dk.up ⟨_, _, g_law_with_gaps, k_law_with_gaps, b_law_with_gaps, ok_gaps F_law_with_gaps T⟩ (by decide))
    (Dk.up ⟨_, _, g_law_counts, k_law_counts, b_law_counts, ok_counts F_law_counts T⟩ (by decide))
    (Dk.up ⟨_, _, g_support_of, k_support_of, b_support_of, ok_support F_support_of T⟩ (by decide))
    (Dk.up ⟨_, _, g_erased_positions, k_erased_positions, b_erased_positions, ok_erased F_erased_positions T⟩ (by decide))
    (Dk.up ⟨_, _, g_law_is_row, k_law_is_row, b_law_is_row, ok_isrow F_law_is_row T d_int⟩ (by decide))
    (Dk.up ⟨_, _, g_weight_of, k_weight_of, b_weight_of, ok_weight F_weight_of T⟩ (by decide))
    (Dk.up d_dist (by decide)) (Dk.up d_errs (by decide))
    ⟨_, _, g_law_refuses_distance, k_law_refuses_distance, b_law_refuses_distance, ok_refD F_law_refuses_distance T TE d_dist hO g_law_only_invalid_word k_law_only_invalid_word b_law_only_invalid_word⟩
    ⟨_, _, g_law_refuses_errors, k_law_refuses_errors, b_law_refuses_errors, ok_refE F_law_refuses_errors T TE d_errs hO g_law_only_invalid_word k_law_only_invalid_word b_law_only_invalid_word⟩
end My
open PySem PySem.W PyProof.Rows in
set_option maxRecDepth 100000 in
set_option maxHeartbeats 0 in
theorem PySem.Challenge.cw_nearestword_k12_word_counts_holds : PySem.Challenge.rw_nearestword_k12_word_counts.Holds := by
  w_on; o_law; k_head; (case hw => w_witness2)
  k_fill
  refine L2.walk_of (l := PySem.Challenge.rw_nearestword_k12_word_counts) (n := 63) (k := 4) (x := "script") (CX := fun _ => L2.CX0) (sp := fun w => My.spLaw _) rfl (by decide) rfl ⟨rfl, by decide, by decide⟩ (fun w h Y => PySem.W.kIn_of Y) ?F (fun _ _ a ns hl _ hS => ⟨a, ns, rfl, hS, hl, fun _ => rfl⟩) (fun _ _ _ _ _ h => h)
  case F =>
    intro w mg fa h KX G hmg
    refine' My.all_mk KX G hmg ?a_weight_of ?l_weight_of ?c_weight_of ?k_weight_of ?a_support_of ?l_support_of ?c_support_of ?k_support_of ?a_require_same_length ?l_require_same_length ?c_require_same_length ?k_require_same_length ?a_distance_between ?l_distance_between ?c_distance_between ?k_distance_between ?a_erased_positions ?l_erased_positions ?c_erased_positions ?k_erased_positions ?a_errors_beside ?l_errors_beside ?c_errors_beside ?k_errors_beside ?a_law_row ?l_law_row ?c_law_row ?k_law_row ?a_law_numbers ?l_law_numbers ?c_law_numbers ?k_law_numbers ?a_law_is_integer ?l_law_is_integer ?c_law_is_integer ?k_law_is_integer ?a_law_is_row ?l_law_is_row ?c_law_is_row ?k_law_is_row ?a_law_items ?l_law_items ?c_law_items ?k_law_items ?a_law_near ?l_law_near ?c_law_near ?k_law_near ?a_law_with_gaps ?l_law_with_gaps ?c_law_with_gaps ?k_law_with_gaps ?a_law_counts ?l_law_counts ?c_law_counts ?k_law_counts ?a_law_only_invalid_word ?l_law_only_invalid_word ?c_law_only_invalid_word ?k_law_only_invalid_word ?a_law_refuses_distance ?l_law_refuses_distance ?c_law_refuses_distance ?k_law_refuses_distance ?a_law_refuses_errors ?l_law_refuses_errors ?c_law_refuses_errors ?k_law_refuses_errors ?a_law ?l_law ?c_law ?k_law ?x_g ?x_x ?x_k ?x_b ?x_t ?x_ga ?x_gg ?x_hd ?x_cl ?x_sp ?x_tk ?x_mr ?x_s0 ?x_gE ?x_gC ?x_gN ?x_i1 ?x_i3 ?x_i4 ?x_t1 ?x_t3 ?x_t4 ?x_k1 ?x_k2 ?x_k3 ?x_k4 ?z_ValueError ?z_len ?z_abs ?z_int ?z_bool ?z_max ?z_range ?z_list ?z_isinstance ?z_enumerate ?z_zip
    (case a_weight_of => first | k_is | rfl | k_exc)
    (case l_weight_of => first | k_is | rfl | k_exc)
    (case c_weight_of => first | k_is | rfl | k_exc)
    (case k_weight_of => first | k_is | rfl | k_exc)
    (case a_support_of => first | k_is | rfl | k_exc)
    (case l_support_of => first | k_is | rfl | k_exc)
    (case c_support_of => first | k_is | rfl | k_exc)
    (case k_support_of => first | k_is | rfl | k_exc)
    (case a_require_same_length => first | k_is | rfl | k_exc)
    (case l_require_same_length => first | k_is | rfl | k_exc)
    (case c_require_same_length => first | k_is | rfl | k_exc)
    (case k_require_same_length => first | k_is | rfl | k_exc)
    (case a_distance_between => first | k_is | rfl | k_exc)
    (case l_distance_between => first | k_is | rfl | k_exc)
    (case c_distance_between => first | k_is | rfl | k_exc)
    (case k_distance_between => first | k_is | rfl | k_exc)
    (case a_erased_positions => first | k_is | rfl | k_exc)
    (case l_erased_positions => first | k_is | rfl | k_exc)
    (case c_erased_positions => first | k_is | rfl | k_exc)
    (case k_erased_positions => first | k_is | rfl | k_exc)
    (case a_errors_beside => first | k_is | rfl | k_exc)
    (case l_errors_beside => first | k_is | rfl | k_exc)
    (case c_errors_beside => first | k_is | rfl | k_exc)
    (case k_errors_beside => first | k_is | rfl | k_exc)
    (case a_law_row => first | k_is | rfl | k_exc)
    (case l_law_row => first | k_is | rfl | k_exc)
    (case c_law_row => first | k_is | rfl | k_exc)
    (case k_law_row => first | k_is | rfl | k_exc)
    (case a_law_numbers => first | k_is | rfl | k_exc)
    (case l_law_numbers => first | k_is | rfl | k_exc)
    (case c_law_numbers => first | k_is | rfl | k_exc)
    (case k_law_numbers => first | k_is | rfl | k_exc)
    (case a_law_is_integer => first | k_is | rfl | k_exc)
    (case l_law_is_integer => first | k_is | rfl | k_exc)
    (case c_law_is_integer => first | k_is | rfl | k_exc)
    (case k_law_is_integer => first | k_is | rfl | k_exc)
    (case a_law_is_row => first | k_is | rfl | k_exc)
    (case l_law_is_row => first | k_is | rfl | k_exc)
    (case c_law_is_row => first | k_is | rfl | k_exc)
    (case k_law_is_row => first | k_is | rfl | k_exc)
    (case a_law_items => first | k_is | rfl | k_exc)
    (case l_law_items => first | k_is | rfl | k_exc)
    (case c_law_items => first | k_is | rfl | k_exc)
    (case k_law_items => first | k_is | rfl | k_exc)
    (case a_law_near => first | k_is | rfl | k_exc)
    (case l_law_near => first | k_is | rfl | k_exc)
    (case c_law_near => first | k_is | rfl | k_exc)
    (case k_law_near => first | k_is | rfl | k_exc)
    (case a_law_with_gaps => first | k_is | rfl | k_exc)
    (case l_law_with_gaps => first | k_is | rfl | k_exc)
    (case c_law_with_gaps => first | k_is | rfl | k_exc)
    (case k_law_with_gaps => first | k_is | rfl | k_exc)
    (case a_law_counts => first | k_is | rfl | k_exc)
    (case l_law_counts => first | k_is | rfl | k_exc)
    (case c_law_counts => first | k_is | rfl | k_exc)
    (case k_law_counts => first | k_is | rfl | k_exc)
    (case a_law_only_invalid_word => first | k_is | rfl | k_exc)
    (case l_law_only_invalid_word => first | k_is | rfl | k_exc)
    (case c_law_only_invalid_word => first | k_is | rfl | k_exc)
    (case k_law_only_invalid_word => first | k_is | rfl | k_exc)
    (case a_law_refuses_distance => first | k_is | rfl | k_exc)
    (case l_law_refuses_distance => first | k_is | rfl | k_exc)
    (case c_law_refuses_distance => first | k_is | rfl | k_exc)
    (case k_law_refuses_distance => first | k_is | rfl | k_exc)
    (case a_law_refuses_errors => first | k_is | rfl | k_exc)
    (case l_law_refuses_errors => first | k_is | rfl | k_exc)
    (case c_law_refuses_errors => first | k_is | rfl | k_exc)
    (case k_law_refuses_errors => first | k_is | rfl | k_exc)
    (case a_law => first | k_is | rfl | k_exc)
    (case l_law => first | k_is | rfl | k_exc)
    (case c_law => first | k_is | rfl | k_exc)
    (case k_law => first | k_is | rfl | k_exc)
    (case x_g => first | k_is | rfl | k_exc)
    (case x_x => first | k_is | rfl | k_exc)
    (case x_k => first | k_is | rfl | k_exc)
    (case x_b => first | k_is | rfl | k_exc)
    (case x_t => first | k_is | rfl | k_exc)
    (case x_ga => first | k_is | rfl | k_exc)
    (case x_gg => first | k_is | rfl | k_exc)
    (case x_hd => first | k_is | rfl | k_exc)
    (case x_cl => first | k_is | rfl | k_exc)
    (case x_sp => first | k_is | rfl | k_exc)
    (case x_tk => first | k_is | rfl | k_exc)
    (case x_mr => first | k_is | rfl | k_exc)
    (case x_s0 => first | k_is | rfl | k_exc)
    (case x_gE => first | k_is | rfl | k_exc)
    (case x_gC => first | k_is | rfl | k_exc)
    (case x_gN => first | k_is | rfl | k_exc)
    (case x_i1 => first | k_is | rfl | k_exc)
    (case x_i3 => first | k_is | rfl | k_exc)
    (case x_i4 => first | k_is | rfl | k_exc)
    (case x_t1 => first | k_is | rfl | k_exc)
    (case x_t3 => first | k_is | rfl | k_exc)
    (case x_t4 => first | k_is | rfl | k_exc)
    (case x_k1 => first | k_is | rfl | k_exc)
    (case x_k2 => first | k_is | rfl | k_exc)
    (case x_k3 => first | k_is | rfl | k_exc)
    (case x_k4 => first | k_is | rfl | k_exc)
    (case z_ValueError => first | k_is | rfl | k_exc)
    (case z_len => first | k_is | rfl | k_exc)
    (case z_abs => first | k_is | rfl | k_exc)
    (case z_int => first | k_is | rfl | k_exc)
    (case z_bool => first | k_is | rfl | k_exc)
    (case z_max => first | k_is | rfl | k_exc)
    (case z_range => first | k_is | rfl | k_exc)
    (case z_list => first | k_is | rfl | k_exc)
    (case z_isinstance => first | k_is | rfl | k_exc)
    (case z_enumerate => first | k_is | rfl | k_exc)
    (case z_zip => first | k_is | rfl | k_exc)
#print axioms PySem.Challenge.cw_nearestword_k12_word_counts_holds
