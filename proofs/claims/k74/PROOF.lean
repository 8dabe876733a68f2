import PyProof.Rows.All
import Wide.All
import OpenK.AllK
import Wide.FinOn
import HandS.ForMost
import HandS.Evl
import HandS.Wide
import HandS.IsInst
import HandS.SetFor
import HandS.Zip
import HandS.Walk
import HandS.HotCalls
import HandS.ExcIs
import HandS.WordsExc
import KE.KUnpackStar
import HandS.Text
import HandS.AnyAll
import HandS.Nested
import PyProof.WalksMore
import KE.KEqDeep
import HandS.Conv
import HandS.WideBits
import HandS.DictComp
import HandS.Rev
import HandS.Defaults
import HandS.Style
import HandS.Star
import HandS.EndTab
import KE.KNest
import HandS.TupLe
import PySem.Challenge.RW_nearestword_k74_written_fields_and_words
set_option Elab.async false
set_option linter.all false
set_option maxRecDepth 100000
set_option maxHeartbeats 1000000
namespace My
open PySem L2 Evl

/-- a def of the text under its name, with its promise -/
structure Dk (P : Program) (w : World) (K : PySem.W.Frag) (mg : Str → Option Value) (base : Heap) (CX : CXT) (k : Nat) (x : Str) (ps : List Str) (sp : Sp) : Prop where
  ex : ∃ (f : Addr) (fd : FuncData), mg x = some (.ref f) ∧ PySem.W.keepIn K (.ref f) = true ∧ Binds K fd ps [] ∧ FnOk P w K mg base CX k f fd ps sp

theorem Dk.up {P : Program} {w : World} {K : PySem.W.Frag} {mg : Str → Option Value} {base : Heap} {CX : CXT} {j k : Nat} {x : Str} {ps : List Str} {sp : Sp} (d : Dk P w K mg base CX j x ps sp) (h : j ≤ k) : Dk P w K mg base CX k x ps sp := by
  obtain ⟨f, fd, a, b, c, F⟩ := d.ex
  exact ⟨f, fd, a, b, c, F.mono h⟩

theorem pe_cd {X : Cx} {k : Nat} {x : Str} {ps : List Str} {sp : Sp} {e : Expr} {es : List Expr} {t : TA} {p pos : Pos}
    (d : Dk X.prog X.w X.K X.mg X.base CX0 k x ps sp) (hr : Room k X.A) (hg : Gl X x) (ha : PA X (e :: es) t)
    (hdb : (x == ("__debug__" : Str)) = false := by decide)
    (he : starEach (e :: es) X.env = (false, eval e X.env) :: starEach es X.env := by rfl)
    (hpl : (backTo pos (starEach es X.env)).any (·.1) = false := by rfl) :
    PE X (.Call (.Name x p) (e :: es) [] pos) (tCall sp [] E0 t) := by
  obtain ⟨f, fd, g, kp, b, F⟩ := d.ex
  exact pe_call F hr hg g kp b .nil pass0 ha hdb he hpl

section
variable {K : PySem.W.Frag} {σ : L2.St} {H H' : Hp} {ta tb te tx : TE} {t u : TT} {x y z v : V} {D : Ends} {tu tw tz : TS} {g : TG}

/-- a statement that stores what a call hands back, the promise as it is -/
theorem q_asgC {i : Nat} {sp : Sp} {E : XK} {tr : TA} {vs : List V} (h : EvA tr σ H vs)
    (k : ∀ H1, Ex H H1 → sp vs H1 (fun v H2 => tz D (σ.set i (some v)) H2) E) : tSeq (tAsg (tCall sp [] E tr) (gName i)) tz D σ H := by
  refine h H (Ex.refl H) _ fun H1 e1 => ?_
  rw [List.append_nil]
  exact k H1 e1

/-- a call as a statement -/
theorem q_dropC {sp : Sp} {E : XK} {tr : TA} {vs : List V} (h : EvA tr σ H vs)
    (k : ∀ H1, Ex H H1 → sp vs H1 (fun _ H2 => tz D σ H2) E) : tSeq (tDrop (tCall sp [] E tr)) tz D σ H := by
  refine h H (Ex.refl H) _ fun H1 e1 => ?_
  rw [List.append_nil]
  exact k H1 e1
/-- a loop over what a call hands back -/
theorem s_forC {j : Nat} {sp : Sp} {E : XK} {tr : TA} {vs : List V} (h : EvA tr σ H vs)
    (k : ∀ H1, Ex H H1 → sp vs H1 (fun v H2 => ∃ a, v = .ref a ∧ (∃ xs, SqL K H2 a xs) ∧ tFor (fun _ H R => R (Itl K a) H) (gName j) tu D σ H2) E) :
    tFor (iList K (tCall sp [] E tr)) (gName j) tu D σ H := by
  refine h H (Ex.refl H) _ fun H1 e1 => ?_
  rw [List.append_nil]
  exact k H1 e1

theorem rc_int {i : Int} : RC (fun xs H Q => (∃ i, xs = [.int i] ∧ Q (.int i) H) ∨ ∃ k, xs = [.bl k] ∧ Q (.int (if k then 1 else 0)) H) [.int i] H (.int i) :=
  fun H1 _ _ q => .inl ⟨i, rfl, q H1 (Ex.refl H1)⟩
theorem rc_abs {i : Int} : RC (fun xs H Q => ∃ i, xs = [.int i] ∧ Q (.int (if i < 0 then -i else i)) H) [.int i] H (.int (if i < 0 then -i else i)) :=
  fun H1 _ _ q => ⟨i, rfl, q H1 (Ex.refl H1)⟩
theorem rc_max2 {i j : Int} : RC (fun xs H Q => ∃ i j, xs = [.int i, .int j] ∧ Q (.int (if j > i then j else i)) H) [.int i, .int j] H (.int (if j > i then j else i)) :=
  fun H1 _ _ q => ⟨i, j, rfl, q H1 (Ex.refl H1)⟩
theorem rc_len {a : Addr} {xs : List V} (h : SqL K H a xs) : RC (fun xs H Q => ∃ p ys, xs = [.ref p] ∧ (SqL K H p ys ∨ SqT K H p ys) ∧ Q (.int ys.length) H) [.ref a] H (.int xs.length) :=
  fun H1 e _ q => ⟨a, xs, rfl, .inl (ex_l e h), q H1 (Ex.refl H1)⟩
theorem rc_isiInt {i : Int} {T : String} {b : Bool} (h : kitB "int" T = some b) : RC (rIsi K) [.int i, .ty T] H (.bl b) := fun H1 _ _ q =>
  ⟨.int i, .ty T, .type "int", .type T, b, rfl, .ty T, .base (.int i), kit_ty h, q H1 (Ex.refl H1)⟩
theorem rc_isiLst {a : Addr} {xs : List V} {T : String} {b : Bool} (ha : H a = some (.lst xs)) (h : kitB "list" T = some b) : RC (rIsi K) [.ref a, .ty T] H (.bl b) := fun H1 e _ q =>
  ⟨.ref a, .ty T, .type "list", .type T, b, rfl, .ty T, .base (.lst (e a _ ha)), kit_ty h, q H1 (Ex.refl H1)⟩
end

/-- a drawn number -/
def Bd (ns : List Int) : Prop := ∀ n ∈ ns, 0 ≤ n ∧ n < 1009
theorem Bd.nil : Bd [] := fun _ h => by simp at h
theorem Bd.snoc {ns : List Int} {n : Int} (h : Bd ns) (h0 : 0 ≤ n) (h1 : n < 1009) : Bd (ns ++ [n]) := fun m hm => by
  rcases List.mem_append.mp hm with q | q
  · exact h m q
  · rw [List.mem_singleton.mp q]
    exact ⟨h0, h1⟩
theorem map_snoc {ns : List Int} {n : Int} : (ns ++ [n]).map V.int = ns.map V.int ++ [V.int n] := by
  rw [List.map_append]
  rfl
theorem sq_ex {K : PySem.W.Frag} {H0 H1 : Hp} {p : Addr} {xs : List V} (h : H0 p = some (.lst xs)) (e : Ex H0 H1) : SqL K H1 p xs := sq_of (e _ _ h)
/-! within a comprehension: the written part said by its name -/
theorem ix_listK {X : Cx} {K : PySem.W.Frag} (h : X.K = K) : IxR X (rIxL K) := h ▸ ix_list
theorem sl_listK {X : Cx} {K : PySem.W.Frag} (h : X.K = K) : SlR X (rSlL K) := h ▸ sl_list
theorem call_lenK {X : Cx} {K : PySem.W.Frag} (h : X.K = K) : CallR X (.builtin "len") (fun xs H Q => ∃ p ys, xs = [.ref p] ∧ (SqL K H p ys ∨ SqT K H p ys) ∧ Q (.int ys.length) H) := h ▸ call_len_seq
theorem pg_tupK {X : Cx} {K : PySem.W.Frag} {es : List Expr} {k n : Nat} {t : TGs} {pos : Pos} (hK : X.K = K) (hc : X.calm = true) (h : PGs X es t)
    (hn : (assignEach es X.env).length = n := by rfl) (hst : (assignEach es X.env).findIdx? (·.1) = none := by rfl) : PG X (.Tuple es k pos) (gTup K n t) := hK ▸ pg_tup hc h hn hst
theorem cut_pre (xs : List V) (n : Nat) : cutV xs none (some (n : Int)) = xs.take n := by
  unfold cutV
  rw [HT.sIx_none, HT.sIx_nat, List.drop_zero, Nat.sub_zero]
  rcases Nat.le_total n xs.length with h | h
  · rw [Nat.min_eq_left h]
  · rw [Nat.min_eq_right h, List.take_of_length_le h, List.take_of_length_le (Nat.le_refl _)]
theorem at_int {ns : List Int} {z : Int} (h0 : 0 ≤ z) (h1 : z < ns.length) : atI (ns.map V.int) z = some (.int (ns.getD z.toNat 0)) := by
  have e : z = ((z.toNat : Nat) : Int) := by omega
  have hl : z.toNat < ns.length := by omega
  refine at_of e ?_
  rw [List.getElem?_map, List.getElem?_eq_getElem hl, List.getD_eq_getElem?_getD, List.getElem?_eq_getElem hl]
  rfl
theorem at_nat' {xs : List V} {i : Nat} (h : i < xs.length) : atI xs (i : Int) = some (xs[i]) := atI_nat (List.getElem?_eq_getElem h)
theorem Bd.getD {ns : List Int} (h : Bd ns) (j : Nat) : 0 ≤ ns.getD j 0 ∧ ns.getD j 0 < 1009 := by
  rw [List.getD_eq_getElem?_getD]
  cases e : ns[j]? with
  | none => exact ⟨by decide, by decide⟩
  | some z => exact h z (List.mem_of_getElem? e)
theorem Bd.take {ns : List Int} (h : Bd ns) (j : Nat) : Bd (ns.take j) := fun n hn => h n (List.mem_of_mem_take hn)

section
variable {K : PySem.W.Frag} {σ : L2.St} {H : Hp} {te : TE} {t : TT} {wi : TI} {g : TG} {J : It} {G : Hp → Prop} {n : Nat} {vs : List Nat} {xf yf : Nat → Option V}
/-- a comprehension over pairs (enumerate, zip) -/
theorem el_lcP (hwi : ∀ H1, Ex H H1 → ∀ R : It → Hp → Prop, (∀ H2, Ex H1 H2 → R J H2) → wi σ H1 R) (w : Walk J n G (YPair xf yf)) (hG : ∀ H1, Ex H H1 → G H1) (hn : n ≤ 40000)
    (σ2 : V → V → L2.St) (hgt : ∀ T x y H' (Q' : L2.St → Hp → Prop), H' T = some (.tup [x, y]) → Q' (σ2 x y) H' → g (.ref T) (wipe σ vs) H' Q') (hw : ∀ x y, wipe (σ2 x y) vs = wipe σ vs)
    (f : Nat → Bool) (v : Nat → V) (ht : ∀ i x y H1, Ex H H1 → xf i = some x → yf i = some y → EvT t (σ2 x y) H1 (f i))
    (he : ∀ i x y H1, Ex H H1 → xf i = some x → yf i = some y → f i = true → Ev te (σ2 x y) H1 (v i)) : EvL (tLc wi g t te vs) σ H (given n f v) := fun H0 e Q q =>
  hwi H0 e _ fun H1 e1 => fun Dl hD => lc_it w (Cw H1 f v Dl) ⟨hD, Ex.new hD, upd_same⟩ (fun i H' _ p => hG H' ((e.trans e1).trans p.2.1)) (fun i x H' H'' hi p y => by
    obtain ⟨T, x1, y1, rfl, hT, rfl, hx, hy⟩ := y
    have eT : Ex H' (upd H' T (.tup [x1, y1])) := Ex.new hT
    have p' : Cw H1 f v Dl i (upd H' T (.tup [x1, y1])) := ⟨p.1, p.2.1.trans eT, eT _ _ p.2.2⟩
    have e9 : Ex H H1 := e.trans e1
    refine hgt T x1 y1 _ _ upd_same ⟨hw _ _, ?_⟩
    exact cw_turn p' (by omega) (ht i x1 y1 H1 e9 hx hy) (he i x1 y1 H1 e9 hx hy)) (fun H' p => q Dl H' (fresh_back e1 p.1) (e1.trans p.2.1) p.2.2)
end
end My
set_option Elab.async false
set_option linter.all false
set_option maxRecDepth 100000
set_option maxHeartbeats 1000000
/-! first, *rest = a list -/
namespace My
open PySem PySem.Spec PyProof.Rows L2
theorem pgs_star {X : Cx} {e : Expr} {es : List Expr} {t : TG} {u : TGs} {p : Pos} (h1 : L2.PG X e t) (h2 : L2.PGs X es u)
    (hs : (assignEach (.Starred e p :: es) X.env).map (·.2) = assign e X.env :: (assignEach es X.env).map (·.2) := by rfl) : L2.PGs X (.Starred e p :: es) (gCons t u) := by
  refine ⟨fun pins s σ H vs us Q I r h => ?_⟩
  obtain ⟨v, vr, e1, h⟩ := h
  subst e1
  cases r with
  | cons r rr =>
    rw [hs]
    refine assignInOrder_cons (thn (h1.run pins s σ H _ _ _ I r h) fun _ s1 ⟨σ1, H1, I1, q1⟩ => ?_)
    exact h2.run pins s1 σ1 H1 _ _ Q I1 rr q1
def gStarL (K : PySem.W.Frag) (t : TGs) : TG := fun v σ H Q => ∃ a x xs, v = .ref a ∧ SqL K H a (x :: xs) ∧ xs.length ≤ 16000 ∧ ∀ p, H p = none → t [x, .ref p] σ (upd H p (.lst xs)) Q
theorem pg_starL {X : Cx} {es : List Expr} {k : Nat} {t : TGs} {pos : Pos} (hc : X.calm = true) (h : L2.PGs X es t)
    (hn : (assignEach es X.env).length = 2 := by rfl) (hst : (assignEach es X.env).findIdx? (·.1) = some 1 := by rfl) : L2.PG X (.Tuple es k pos) (gStarL X.K t) := by
  refine ⟨fun pins s σ H v u Q I r hw => ?_⟩
  obtain ⟨a, x, xs, rfl, hq, hl, hw⟩ := hw
  cases r
  obtain ⟨its0, rv, hpl, hz⟩ := I.list hq
  cases rv with
  | @cons _ y _ its rx rr =>
  have hL := hpl.isList
  obtain ⟨items, hi⟩ : ∃ items : Array Value, items = (y :: its).toArray := ⟨_, rfl⟩
  rw [← hi] at hL
  have hlen := rr.length
  have hsz : items.size = its.length + 1 := by rw [hi]; simp
  have hlt : a ≠ s.heap.objs.size := by obtain ⟨o, ho, _⟩ := hL; exact Nat.ne_of_lt (Heap.lt_size ho)
  rw [assign_Tuple]
  refine wpAny_bind (wpAny_standAt ?_)
  unfold unpack
  rw [hn, hst]
  refine wpAny_bind (wpAny_holding ?_)
  unfold unpackItems
  refine wpAny_bind ?_
  unfold notIterableAtAll
  refine wpAny_bind (wpAny_specialOf hL.typeIs slot_list_iter.lookup ?_)
  refine wpAny_pure ?_
  simp only [Bool.false_eq_true, if_false]
  refine wpAny_bind (wpAny_holding (wpAny_pyIter_list hL ?_))
  refine wpAny_bind (wpAny_holding (PySem.W.kun_draw hlt 1 0 _ _ ⟨_, Heap.get?_push_size _ rfl, rfl, rfl⟩ (hL.push _) (by omega) fun h₁ hit₁ hs₁ => ?_))
  have hl₁ : h₁.IsList a items := (hL.push _).extBut hs₁.extBut hlt
  rw [Nat.zero_add] at hit₁
  have hit₁' := hit₁
  obtain ⟨oi, hoi, _⟩ := hit₁'
  have hl₁' := hl₁
  obtain ⟨ol, hol, _⟩ := hl₁'
  rw [List.drop_zero]
  have hfl : (items.toList.take 1).length = 1 := by rw [List.length_take, Array.length_toList]; omega
  rw [if_neg (show ¬ ((items.toList.take 1).length < 1) by rw [hfl]; omega)]
  refine wpAny_bind (wpAny_holding (PySem.W.kun_collect (s := { s with heap := h₁ }) (T := "list_iterator") (.inr (.inr (.inl rfl))) (Walks.list (A := X.A.in1) (I.ok.hd hc) s.heap.objs.size a hlt items) (fun j u st => st.1.typeIs) (k := 1) (by omega) ⟨hit₁, hl₁⟩ (Heap.lt_size hoi) (Heap.lt_size hol) (fun h₂ tk hk => ?_) (by
    rw [hsz, ← hlen, PySem.sizeLine_eq]
    omega)))
  have hdr : items.toList.drop 1 = its := by rw [hi]; simp
  have htk : items.toList.take 1 = [y] := by rw [hi]; simp
  rw [hdr, htk]
  show wpAny _ _ (if its.length < 2 - 1 - 1 then _ else _) _ _ _
  rw [if_neg (by omega)]
  have he : ∀ b o, s.heap.get? b = some o → h₂.get? b = some o := fun b o e => by
    have hb : b ≠ s.heap.objs.size := Nat.ne_of_lt (Heap.lt_size e)
    exact hk b o hb (hs₁.extBut b o hb (Heap.get?_push_of_some _ e))
  show wpAny _ _ (newList (its.take (its.length - (2 - 1 - 1))) >>= fun d => pure ([y] ++ [d] ++ its.drop (its.length - (2 - 1 - 1)))) _ _ _
  rw [show its.length - (2 - 1 - 1) = its.length by omega, List.take_length, List.drop_length]
  have I1 : Inv X pins σ H { s with heap := h₂, toks := tk } := I.kept (t' := tk) he
  refine wpAny_bind (wpAny_newList (s := { s with heap := h₂, toks := tk }) ?_ (by
    rw [← hlen, PySem.sizeLine_eq]
    omega))
  refine wpAny_pure ?_
  have hp : H h₂.objs.size = none := I1.hok.fresh (Nat.le_refl _)
  have I2 : Inv X pins σ (upd H h₂.objs.size (.lst xs)) { s with heap := h₂.push { cls := .type "list", data := .seq its.toArray }, toks := tk } :=
    I1.laid (fun b u q => Heap.get?_push_of_some _ q) (Nat.le_refl _) ⟨by
      rw [PySem.sizeLine_eq]
      omega, its, _, rr, Heap.get?_push_size _ rfl⟩
  exact h.run pins _ σ _ [x, .ref h₂.objs.size] _ Q I2 (.cons rx (.cons rfl .nil)) (hw _ hp)
end My
set_option Elab.async false
set_option linter.all false
set_option maxRecDepth 100000
set_option maxHeartbeats 1000000
namespace My
open PySem PySem.Spec PyProof.Rows L2 L2H

/-- the exception that a suite holds: of the class at D, without a dict of its own -/
def OfCls (D : Addr) (p : Addr × Obj) : Prop := Zc (.ref D) none p.2 ∧ ∃ vs, p.2.data = .fields vs

/-- a def that is handed the exception which is being handled, and lets nothing out -/
structure FnZ (P : Program) (w : World) (K : PySem.W.Frag) (mg : Str → Option Value) (base : Heap) (k : Nat) (f : Addr) (fd : FuncData) (ps : List Str) (D : Addr) (sp : Addr → Sp) : Prop where
  len : ∀ a vs H Q E, sp a vs H Q E → vs.length = ps.length
  run : ∀ (A : Around) (outer : List Env) (s : Shared) (H : Hp) (args : Args) (us : List Value) (vs : List V) (Q : VK) (E : XK) (p : Addr × Obj),
    RoomH k A → OfCls D p → PinOk outer H s p → Env0 P w K mg base A outer s H → BindsTo s fd args (ps.zip us) → Vals vs us → sp p.1 vs H Q E →
    codeAny (model P w) A (.call (.ref f) args) (CR CX0 outer P w H s Q E) s

section
variable {P : Program} {w : World} {K : PySem.W.Frag} {mg : Str → Option Value} {base : Heap}
theorem Fun.okZ {x qual : Str} {st : Stmt} {f D : Addr} {fd : FuncData} {N ps : List Str} {k : Nat} {sp : Addr → Sp}
    (F : Fun K x qual st f fd) (S : FnScope N ps (defScope st)) (len : ∀ a vs H Q E, sp a vs H Q E → vs.length = ps.length)
    (hbody : ∀ (cdv : Value) (A : Around) (outer : List Env) (s : Shared) (H : Hp) (vs : List V) (Q : VK) (E : XK) (p : Addr × Obj), OfCls D p → sp p.1 vs H Q E →
      ∃ t, PSs (cxH CX0 P w K mg base N qual (defScope st) f cdv A outer s H E p) (defBody st) t ∧ t { nx := fun _ H' => Q .non H', rt := Q } (L2.start N vs) H) :
    FnZ P w K mg base (k + 1) f fd ps D sp := by
  obtain ⟨oc, od, kV, doc, pm, an, cdv, ct, osl, rfl, lk, hcd⟩ := F.ex
  refine ⟨len, ?_⟩
  intro A outer s H args us vs Q E p room hz pin e0 hb rv h
  have inK : K.In s.heap := e0.mod.kin.keeps
    (fun b o e => (e0.bs b o e).1)
  have nolim : s.heap.NoLimit := e0.mod.nolimit.keeps
    (fun b o e => (e0.bs b o e).1)
  have kinds : ∀ y ∈ ps.zip us, (defScope st).names.lookup y.1 = some .local ∨
      ((defScope st).names.lookup y.1 = some .cell ∧ ((cellsFrom (s.heap.objs.size + 1) (defScope st).names []).lookup y.1).isSome = true) := by
    rintro ⟨n, v⟩ hy
    cases S.par n (List.of_mem_zip hy).1 with
    | inl q => exact .inl q
    | inr q => exact .inr ⟨q, PySem.W.cellsFrom_some _ _ _ (.inl q)⟩
  refine codeAny_call_function room.depth (inK _ _ lk) rfl S.co S.gen rfl
    (PySem.W.codeRec_of inK hcd) (hb _ _ _ _ ?_)
  refine wpAny_newFunctionEnv_cells S.kind kinds ?_
  intro env he s1 x
  subst he
  refine ⟨nolim.keeps x.toInCall.keep, codeAny_func ?_⟩
  obtain ⟨t, ht, hq⟩ := hbody cdv A outer s H vs Q E p hz h
  have I : Inv (cxH CX0 P w K mg base N qual (defScope st) f cdv A outer s H E p) [] (L2.start N vs) H s1 :=
    inv_startH S pin e0 (len _ _ _ _ _ h) rv x
  have back : ∀ {s' : Shared} {σ' : L2.St} {H' : Hp} {v : V} {u : Value}, Inv (cxH CX0 P w K mg base N qual (defScope st) f cdv A outer s H E p) [] σ' H' s' →
      RelV v u → Q v H' → CE outer P w H s Q u s' := by
    intro s' σ' H' v u J r q
    exact ⟨v, H', J.os, J.bare, J.base, J.hok, r, q⟩
  refine wpAny_mono (ht.run [] s1 _ H _ I hq) ?_ (fun e s' z => z)
  intro fl s' z
  cases fl with
  | ret u =>
    obtain ⟨v, σ', H', J, r, q⟩ := z
    exact back J r q
  | next =>
    obtain ⟨σ', H', J, q⟩ := z
    exact back (v := .non) (u := .none) J rfl q
  | brk =>
    obtain ⟨_, _, _, q⟩ := z
    exact q.elim
  | cont =>
    obtain ⟨_, _, _, q⟩ := z
    exact q.elim
end

section
variable {X : Cx} {k : Nat} {f D a : Addr} {fd : FuncData} {ps : List Str} {sp : Addr → Sp} {x : Str} {q pos : Pos} {e : Expr} {es : List Expr} {t : TA} {oe : Obj} {pn : List (Addr × Obj)} {cls : Value} {d : Option Addr}
/-- its call in the suite: what the exception is, is asked first -/
def tCallZ (D a : Addr) (cls : Value) (d : Option Addr) (sp : Addr → Sp) (t : TA) : TE := fun σ H Q =>
  (cls = .ref D ∧ d = none) ∧ t σ H fun vs H1 => sp a vs H1 Q E0
theorem pe_callZ (hz : Zc cls d oe) (hf : ∃ vs, oe.data = .fields vs) (F : FnZ X.prog X.w X.K X.mg X.base k f fd ps D sp) (hr : RoomH k X.A)
    (hm : X.mg x = some (.ref f)) (hk : PySem.W.keepIn X.K (.ref f) = true) (hb : Binds X.K fd ps [])
    (hg : Gl (X.suite a ((a, oe) :: pn)) x) (ha : PA (X.suite a ((a, oe) :: pn)) (e :: es) t) (hdb : (x == ("__debug__" : Str)) = false := by decide)
    (he : starEach (e :: es) X.env = (false, eval e X.env) :: starEach es X.env := by rfl) (hpl : (backTo pos (starEach es X.env)).any (·.1) = false := by rfl) :
    PE (X.suite a ((a, oe) :: pn)) (.Call (.Name x q) (e :: es) [] pos) (tCallZ D a cls d sp t) := by
  refine ⟨?_⟩
  intro pins s σ H Q I h
  obtain ⟨⟨hc, hd⟩, h⟩ := h
  subst hc hd
  refine wpAny_Call_Name_kw (ld_glob I hg hm ?_ hdb)
  refine PySem.W.callWith_K (h₀ := X.base) I.ok.mod.kin hk (thn (ha.run pos pins s σ H _ I h) ?_) he hpl
  rintro us s1 ⟨vs, H1, I1, r, h1⟩
  refine ⟨I1.kIn, ?_⟩
  have el : us.length = ps.length := r.length.symm.trans (F.len _ _ _ _ _ h1)
  have b := hb s1 us I1.kIn (by rw [List.append_nil]; exact el)
  rw [List.append_nil] at b
  obtain ⟨p1, p2, p3, p4, p5⟩ := I1.pin (a, oe) (List.mem_append.mpr (.inl List.mem_cons_self))
  have pin : PinOk (X.suite a ((a, oe) :: pn)).stack H1 s1 (a, oe) := by
    refine ⟨p1, p2, fun hmem => ?_, p5⟩
    cases List.mem_cons.mp (I1.stkSub a hmem) with
    | inl z => exact p3 z
    | inr z => exact p4 z
  refine wpAny_call (codeAny_mono (F.run (X.suite a ((a, oe) :: pn)).A _ s1 H1 ⟨us, []⟩ us vs Q E0 (a, oe) ⟨hr.dp, hr.un⟩ ⟨hz, hf⟩ pin I1.env0 b r h1) ?_)
  intro res s' hq
  cases res with
  | error e => exact False.elim hq
  | ok fl =>
    cases fl with
    | ret u => exact I1.after hq
    | next => exact False.elim hq
    | brk => exact False.elim hq
    | cont => exact False.elim hq
end

/-- isinstance of the exception that was handed on -/
theorem call_isZ {CX : CXT} {P : Program} {w : World} {K : PySem.W.Frag} {mg : Str → Option Value} {base : Heap} {N : List Str} {qual : Str} {scope : Scope} {f D : Addr} {cd : Value} {A : Around} {outer : List Env} {s : Shared} {H : Hp} {E : XK} {p : Addr × Obj}
    (C : ExcC K D) (hp : OfCls D p) : CallR (cxH CX P w K mg base N qual scope f cd A outer s H E p) (.builtin "isinstance") (rIsE K D p.1) := by
  intro pins s σ H xs us Q I r h
  obtain ⟨c, cv, b, ex, hcv, ek, q⟩ := h
  subst ex
  obtain ⟨a, oc, od, oda, osl⟩ := p
  obtain ⟨⟨h1, h2⟩, vs, h3⟩ := hp
  dsimp only at h1 h2 h3
  subst h1 h2 h3
  match us, r with
  | [u1, u2], .cons r1 (.cons r2 .nil) =>
    have e2 := hcv _ r2
    have e1 : u1 = .ref a := r1
    subst e1 e2
    have g := (I.pin (a, ⟨.ref D, none, .fields vs, osl⟩) (List.mem_append.mpr (.inl (List.mem_singleton.mpr rfl)))).1
    have J : PySem.W.InstAt s.heap a ⟨.ref D, none, .fields vs, osl⟩ D none := ⟨g, rfl, rfl, trivial⟩
    refine PySem.W.kia_one (PySem.W.handS_kitx_exc C.hg C.hk C.hs C.hd C.ha C.hn C.ht C.hm) I.kIn J ek (fun z => nomatch z) ?_
    intro tk
    exact ⟨.bl b, H, I.kept (t' := tk) fun _ _ z => z, rfl, q⟩
end My
namespace My
open PySem L2 L2H Evl
theorem rc_isE {K : PySem.W.Frag} {D a : Addr} {c : V} {cv : Value} {b : Bool} {H : Hp} (h : ∀ u, RelV c u → u = cv) (hk : PySem.W.kitOne K (.ref D) cv = some b) : RC (rIsE K D a) [.ref a, c] H (.bl b) :=
  fun H1 _ _ q => ⟨c, cv, b, rfl, h, hk, q H1 (Ex.refl H1)⟩
theorem pe_cdX {X : Cx} {k : Nat} {x : Str} {ps : List Str} {sp : Sp} {E : XK} {e : Expr} {es : List Expr} {t : TA} {p pos : Pos}
    (d : Dk X.prog X.w X.K X.mg X.base (L2.CX X.prog X.w) k x ps sp) (hr : Room k X.A) (hg : Gl X x) (hp : Passes (L2.CX X.prog X.w) X E) (ha : PA X (e :: es) t)
    (hdb : (x == ("__debug__" : Str)) = false := by decide)
    (he : starEach (e :: es) X.env = (false, eval e X.env) :: starEach es X.env := by rfl)
    (hpl : (backTo pos (starEach es X.env)).any (·.1) = false := by rfl) :
    PE X (.Call (.Name x p) (e :: es) [] pos) (tCall sp [] E t) := by
  obtain ⟨f, fd, g, kp, b, F⟩ := d.ex
  exact pe_call F hr hg g kp b .nil hp ha hdb he hpl
theorem pe_cdS {X : Cx} {k : Nat} {x : Str} {ps : List Str} {sp : Sp} {E : L2.St → XK} {e : Expr} {es : List Expr} {t : TA} {p pos : Pos}
    (d : Dk X.prog X.w X.K X.mg X.base (L2.CX X.prog X.w) k x ps sp) (hr : Room k X.A) (hg : Gl X x) (hp : ∀ σ, PassesAt (L2.CX X.prog X.w) X σ (E σ)) (ha : PA X (e :: es) t)
    (hdb : (x == ("__debug__" : Str)) = false := by decide)
    (he : starEach (e :: es) X.env = (false, eval e X.env) :: starEach es X.env := by rfl)
    (hpl : (backTo pos (starEach es X.env)).any (·.1) = false := by rfl) :
    PE X (.Call (.Name x p) (e :: es) [] pos) (tCallS sp E t) := by
  obtain ⟨f, fd, g, kp, b, F⟩ := d.ex
  exact pe_callS F hr hg g kp b hp ha hdb he hpl
end My

namespace My
open PySem PySem.W
theorem kit_own {K : Frag} {D C : Addr} {b : Bool} (s0 : subIn K (.ref D) (.ref D) = some true) (i : isClsIn K C = true) (t : typeIn K (.ref C) = some (.type "type")) (s : subIn K (.ref D) (.ref C) = some b) : kitOne K (.ref D) (.ref C) = some b := by
  unfold kitOne
  by_cases h : (Value.ref D == Value.ref C) = true
  · rw [if_pos h]
    have e : D = C := Value.ref.inj (eq_of_beq h)
    rw [← e, s0] at s
    exact s
  · rw [if_neg h]
    have e : ((clsIn K C).isSome && typeIn K (.ref C) == some (.type "type")) = true := by
      have i' : (clsIn K C).isSome = true := i
      rw [i', t]
      rfl
    show (if ((clsIn K C).isSome && typeIn K (.ref C) == some (.type "type")) = true then subIn K (.ref D) (.ref C) else none) = some b
    rw [if_pos e]
    exact s
theorem kit_base {K : Frag} {D : Addr} {T : String} {b : Bool} (m : kitMeta T = true) (s : subIn K (.ref D) (.type T) = some b) : kitOne K (.ref D) (.type T) = some b := by
  show (if (Value.ref D == Value.type T) = true then some true else if kitMeta T = true then subIn K (.ref D) (.type T) else none) = some b
  rw [if_neg (by intro q; cases eq_of_beq q), if_pos m]
  exact s
end My
set_option Elab.async false
set_option linter.all false
set_option maxRecDepth 100000
set_option maxHeartbeats 2000000
namespace MyG
open PySem PySem.Spec PyProof.Rows L2 GxR

/-- a test of an int, the element of a generator expression that has captured the int z as y -/
def EltI (prog : Program) (w : World) (scope : Scope) (x y : Str) (elt : Expr) (z : Int) (pb : Int → Bool) : Prop :=
  ∀ (ce : Env) (A' : Around) (E' : Value → Shared → Prop) (n : Int) (t tz : Tok) (s' : Shared) (m : Str → Option Value) (cl : Addr),
    ce.scope = scope → s'.heap.Ns ce.locals m → m x = some (.int n t) → ce.cells.lookup y = some cl → s'.heap.IsCell cl (some (.int z tz)) →
    wpAny (model prog w) A' (eval elt ce) (fun r s3 => r = .bool (pb n) ∧ Keeps s' s3) E' s'

/-- x < 0 or x >= y -/
theorem elt_outside {prog : Program} {w : World} {scope : Scope} {x y : Str} {z : Int} {j : Nat} {p1 p2 p3 p4 p5 p6 p7 : Pos}
    (hk : scope.kind = .function) (hx : scope.names.lookup x = some .local) (hy : scope.names.lookup y = some .free)
    (dx : (x == ("__debug__" : Str)) = false := by decide) (dy : (y == ("__debug__" : Str)) = false := by decide) (cy : (y == ("__classdict__" : Str)) = false := by decide) :
    EltI prog w scope x y (.BoolOp .Or [.Compare (.Name x p1) [.Lt] [.Constant (.int 0) j p2] p3, .Compare (.Name x p4) [.GtE] [.Name y p5] p6] p7) z (fun n => decide (n < 0) || decide (n ≥ z)) := by
  intro ce A' E' n t tz s' m cl hs hn hm hc hv
  have kf : ce.scope.kind = .function := by rw [hs]; exact hk
  have kx : ce.kindOf x = some .local := by
    show ce.scope.names.lookup x = some .local
    rw [hs]; exact hx
  have ky : ce.kindOf y = some .free := by
    show ce.scope.names.lookup y = some .free
    rw [hs]; exact hy
  refine BoolOp_or ?_
  refine wpAny_Compare1 ?_
  refine wpAny_Name (wpAny_loadName_local kf kx hn hm ?_) dx
  refine wpAny_Constant_int ?_
  refine lt_int ?_
  refine wpAny_truthy_bool ?_
  cases hd : decide (n < 0) with
  | true =>
    refine ⟨?_, keeps_tok s' _⟩
    show Value.bool true = Value.bool (decide (n < 0) || decide (n ≥ z))
    rw [hd]
    rfl
  | false =>
    refine BoolOp_one ?_
    refine wpAny_Compare1 ?_
    refine wpAny_Name (wpAny_loadName_local kf kx hn hm ?_) dx
    refine wpAny_Name (wpAny_loadName_free kf ky hc hv ?_ cy) dy
    refine PySem.P.ge_int ?_
    refine ⟨?_, keeps_tok s' _⟩
    show _ = Value.bool (decide (n < 0) || decide (n ≥ z))
    rw [hd]
    rfl

def trI (pb : Int → Bool) (l : List Int) (j : Nat) : Bool := match l[j]? with
  | some b => pb b
  | none => false
theorem trI_some {pb : Int → Bool} {l : List Int} {j : Nat} {b : Int} (h : l[j]? = some b) : trI pb l j = pb b := by
  unfold trI
  rw [h]
theorem any_trI (l : List Int) (pb : Int → Bool) : (List.range l.length).any (trI pb l) = l.any pb := by
  rw [Bool.eq_iff_iff, List.any_eq_true, List.any_eq_true]
  refine ⟨?_, ?_⟩
  · rintro ⟨j, hj, h⟩
    have lt := List.mem_range.mp hj
    rw [trI_some (List.getElem?_eq_getElem lt)] at h
    exact ⟨_, List.getElem_mem lt, h⟩
  · rintro ⟨b, hb, h⟩
    obtain ⟨j, lt, e⟩ := List.getElem_of_mem hb
    exact ⟨j, List.mem_range.mpr lt, by rw [trI_some (List.getElem?_eq_getElem lt), e]; exact h⟩

section
variable {X : Cx} {pins : List (Addr × Obj)} {σ : L2.St} {H : Hp} {s : Shared}
/-- what stands ready to be walked behind the generator's making -/
def RdyI (X : Cx) (pins : List (Addr × Obj)) (σ : L2.St) (H1 : Hp) (P : Addr) (ns : List Int) (pb : Int → Bool) (g : Addr) (s5 : Shared) : Prop :=
  ∃ (fp wr : List Addr) (G : Array GenState → Array GenState → Prop) (F : Nat → Value → Prop) (St : Nat → Shared → Prop),
    WalksS X.prog X.w X.A.in1 g fp wr G ns.length F St ∧ St 0 s5 ∧ TruthOf X.prog X.w X.A.in1 F (trI pb ns) ∧
    ∀ s', Moved wr G s5 s' → ∃ H2, Tabbed P H1 H2 ∧ Inv X pins σ H2 s'

theorem gen_tup {c P : Addr} {elt iter : Expr} {x y : Str} {iy : Nat} {px gpos : Pos} {scope : Scope} {pb : Int → Int → Bool} {te : TE} {k : Nat} {Q' : Value → Shared → Prop} {R : Int → List Int → Hp → Prop}
    (hr : Room k X.A) (TB : TabB X.base X.mg c P) (hcode : X.env.code = .ref c) (S : GenS X.env scope x) (hi : PE X iter te) (hel : ∀ z, EltI X.prog X.w scope x y elt z (pb z))
    (hNy : X.N[iy]? = some y) (hvy : X.env.scope.names.lookup y = some .cell) (hfy : (y, NameKind.free) ∈ scope.names)
    (hs : ∀ v, genFold iter X.env v = pure v) (I : Inv X pins σ H s)
    (h : te σ H fun v H1 => ∃ (a : Addr) (z : Int) (ns : List Int), v = .ref a ∧ SqT X.K H1 a (ns.map V.int) ∧ σ[iy]? = some (some (.int z)) ∧ TabG H1 P ∧ R z ns H1)
    (hQ : ∀ z ns H1 g s5, R z ns H1 → RdyI X pins σ H1 P ns (pb z) g s5 → Q' (.ref g) s5) :
    wpAny (model X.prog X.w) X.A (eval (.GeneratorExp elt [⟨.Name x px, iter, [], 0⟩] scope gpos) X.env) Q' X.xe s := by
  refine wpAny_GeneratorExp_walksQ hr.hd S.co
    (closure_ok S.free) S.cell S.dot S.loc S.kind (by have := hr.dp; omega) ?_ hs
  refine thn (hi.run pins s σ H _ I h) ?_
  rintro xv s1 ⟨v, H1, I1, r1, a, z, ns, hv, hq, hz, ⟨ps, hP, ht⟩, q1⟩
  subst hv
  have exv : xv = .ref a := r1
  subst exv
  obtain ⟨its, rv, ip, hzz⟩ := I1.tuple hq
  have itup : s1.heap.IsTuple a its.toArray := ip
  -- the captured cell
  obtain ⟨m0, hm0, hl0⟩ := I1.loc
  obtain ⟨u0, ru, look⟩ := hl0 iy y _ hNy hz (.inr (.inl hvy))
  obtain ⟨tz, eu⟩ := (show ∃ t, u0 = Value.int z t from ru)
  subst eu
  obtain ⟨cl, hcl, hcell⟩ : ∃ cl, X.env.cells.lookup y = some cl ∧ s1.heap.IsCell cl (some (.int z tz)) := by
    rcases look with ⟨hk, _⟩ | ⟨_, cl, h1, h2⟩
    · rw [show X.env.kindOf y = X.env.scope.names.lookup y from rfl, hvy] at hk
      cases hk
    · exact ⟨cl, h1, h2⟩
  have hcl2 : (cloFrom X.env.cells scope.names []).lookup y = some cl := NdefX.clo_has S.free hfy hcl
  refine wpAny_pyIter_tuple itup ?_
  generalize ho : ({ cls := .type "tuple_iterator", data := .fields #[.ref a, .int 0 0] } : Obj) = o
  have tabS : s1.heap.get? P = some { cls := .none, data := .fields ps } := I1.hok P _ hP
  have ltP : P < s1.heap.objs.size := Heap.lt_size tabS
  have tab2 : (s1.heap.push o).get? P = some { cls := .none, data := .fields ps } := Heap.get?_push_of_some _ tabS
  have cd : PySem.W.CodeHd (s1.heap.push o) c P := TB.code.keeps
    (fun b u e => Heap.get?_push_of_some _ (I1.bk b u e))
  have lim2 : (s1.heap.push o).NoLimit := I1.nolimit.push o
  have ane : a ≠ s1.heap.objs.size := by
    obtain ⟨oo, e1, _⟩ := itup
    exact Nat.ne_of_lt (Heap.lt_size e1)
  have len : its.toArray.size = ns.length := by
    rw [List.size_toArray, ← rv.length, List.length_map]
  have st0 : (s1.heap.push o).IsTupleIter s1.heap.objs.size a 0 ∧ (s1.heap.push o).IsTuple a its.toArray := by
    subst ho
    exact ⟨⟨_, Heap.get?_push_size _ rfl, rfl, rfl⟩, itup.at fun oo e => Heap.get?_push_of_some _ e⟩
  have WT : ∀ A' : Around, A'.handled = none → Walks X.prog X.w A' s1.heap.objs.size [s1.heap.objs.size, a] [s1.heap.objs.size] its.toArray.size (fun i v => its.toArray[i]? = some v) (fun i h => h.IsTupleIter s1.heap.objs.size a i ∧ h.IsTuple a its.toArray) :=
    fun A' hh => Walks.tuple hh _ a ane its.toArray
  have aP : a ≠ P := by
    intro e
    obtain ⟨oo, e1, e2, e3⟩ := itup
    rw [e, tabS] at e1
    cases e1
    cases e2
  have item : ∀ (i : Nat) (v : Value), its.toArray[i]? = some v → ∃ n t, ns[i]? = some n ∧ v = .int n t := by
    intro i v e
    have e' : its[i]? = some v := by rw [List.getElem?_toArray] at e; exact e
    have hi : i < its.length := (List.getElem?_eq_some_iff.mp e').1
    have hi2 : i < ns.length := by rw [← len, List.size_toArray]; exact hi
    have g : (ns.map V.int)[i]? = some (V.int ns[i]) := by rw [List.getElem?_map, List.getElem?_eq_getElem hi2]; rfl
    obtain ⟨u, hu, ru⟩ := rv.get g
    rw [e'] at hu
    cases hu
    obtain ⟨t, rfl⟩ := (show ∃ t, v = Value.int ns[i] t from ru)
    exact ⟨_, t, List.getElem?_eq_getElem hi2, rfl⟩
  have cont : ∀ (code : Value) (h3 : Heap) (tk : Nat) (ps' : Array Value), Heap.ExtBut P (s1.heap.push o) h3 → (s1.heap.push o).objs.size ≤ h3.objs.size →
      h3.get? P = some { cls := .none, data := .fields ps' } → (∃ more, ps' = ps ++ more) → TriplesOk ps'.toList →
      wpAny (model X.prog X.w) X.A (builtinsFor X.env.globals X.env.builtins) (fun bi s4 =>
        ∃ Ia fp wr n0 Pf St0 pz F, Value.ref s1.heap.objs.size = .ref Ia ∧ (∀ A' : Around, A'.handled = none → Walks X.prog X.w A' Ia fp wr n0 Pf St0) ∧ St0 0 s4.heap ∧ (∀ b ∈ fp, b < s4.heap.objs.size) ∧ s4.heap.NoLimit ∧ cStatics ∉ wr ∧
          (∀ href : Heap, (∀ b o, s4.heap.get? b = some o → href.get? b = some o) →
            QuietGen X.prog X.w (genEnv scope (cloFrom X.env.cells scope.names []) s4.heap.objs.size code bi X.env) x [] elt (List.range s4.heap.objs.size) wr Pf pz F href) ∧
          (∀ a h5 tk gs, gs.bare = true → s4.heap.objs.size < a → h5.objs.size = a + 1 → (∀ b o, s4.heap.get? b = some o → h5.get? b = some o) →
            WalksS X.prog X.w X.A.in4 a (a :: s4.heap.objs.size :: List.range s4.heap.objs.size) (s4.heap.objs.size :: wr) (GenOnlyQ s4.gens.size) (passing pz n0 0).length
              (fun j y => ∃ i, (passing pz n0 0)[j]? = some i ∧ F i y) (GenAt X.prog X.w X.A.in4 a s4.gens.size s4.heap.objs.size (List.range s4.heap.objs.size) wr pz n0 F) →
            GenAt X.prog X.w X.A.in4 a s4.gens.size s4.heap.objs.size (List.range s4.heap.objs.size) wr pz n0 F 0 { s4 with gens := s4.gens.push gs, toks := tk, heap := h5 } →
            Q' (.ref a) { s4 with gens := s4.gens.push gs, toks := tk, heap := h5 })) X.xe { s1 with heap := h3, toks := tk } := by
    intro code h3 tk ps' hx hsz hP3 hmore ht3
    obtain ⟨bm, ob, b1, b2, b3, b4, b5, b6, b7, b8⟩ := TB.bm
    have stP : cStatics ≠ P := by
      intro e
      obtain ⟨_, hns, _⟩ := I1.nolimit
      obtain ⟨o', es, ep, q1, q2, _⟩ := hns
      rw [e, tabS] at q1
      cases q1
      cases q2
    have stL : cStatics < s1.heap.objs.size := by
      obtain ⟨_, hns, _⟩ := I1.nolimit
      exact hns.lt
    have sz2 : (s1.heap.push o).objs.size = s1.heap.objs.size + 1 := Heap.size_push ..
    have keep3 : ∀ b u, b ≠ P → s1.heap.get? b = some u → h3.get? b = some u := fun b u hb e =>
      hx b u hb (Heap.get?_push_of_some _ e)
    refine wpAny_builtinsFor (m := X.mg)
      (by rw [I1.ok.glob]; exact ((I1.mod.glob.keeps I1.bk).push o).extBut hx TB.gP)
      b1 b2 (keep3 _ _ b4 (I1.bk _ _ b5)) b6 b7 b8 ?_
    refine ⟨s1.heap.objs.size, [s1.heap.objs.size, a], [s1.heap.objs.size], its.toArray.size, (fun i v => its.toArray[i]? = some v), (fun i h => h.IsTupleIter s1.heap.objs.size a i ∧ h.IsTuple a its.toArray),
      (fun _ => true), (fun i y => ∃ n, ns[i]? = some n ∧ y = .bool (pb z n)), rfl, WT, ?_, ?_, lim2.extBut hx stP, ?_, ?_, ?_⟩
    · refine (WT X.A hr.hd).frame _ _ _ st0 ?_
      intro b hb u e
      refine hx b u ?_ e
      rintro rfl
      rcases List.mem_cons.mp hb with q | q
      · exact Nat.ne_of_lt ltP q
      · exact aP (List.mem_singleton.mp q).symm
    · intro b hb
      show b < h3.objs.size
      rcases List.mem_cons.mp hb with q | q
      · rw [q]
        show (s1.heap.objs.size : Nat) < h3.objs.size
        omega
      · rw [List.mem_singleton.mp q]
        obtain ⟨oo, e1, _⟩ := itup
        exact Nat.lt_of_lt_of_le (Heap.lt_size e1) (by omega)
    · intro q
      exact Nat.ne_of_lt stL (List.mem_singleton.mp q)
    · intro href hhref
      refine ⟨?_, ?_⟩
      · intro A' E' i v s2 m2 _ _ _ _ _
        simp only [List.forIn_nil]
        exact wpAny_pure ⟨rfl, keeps_refl _⟩
      · intro A' E' i v s2 m2 hA hPv hp hn hm hk
        obtain ⟨n, t, hn1, rfl⟩ := item i v hPv
        have cellK : s2.heap.IsCell cl (some (.int z tz)) := by
          obtain ⟨oc, ec, dc⟩ := hcell
          have ltc : cl < s1.heap.objs.size := Heap.lt_size ec
          have nP : cl ≠ P := by
            rintro rfl
            rw [tabS] at ec
            cases ec
            cases dc
          refine ⟨oc, hk cl (List.mem_range.mpr ?_) ?_ oc (hhref cl oc (keep3 cl oc nP ec)), dc⟩
          · exact Nat.lt_of_lt_of_le ltc (by show s1.heap.objs.size ≤ h3.objs.size; omega)
          · intro q
            exact Nat.ne_of_lt ltc (List.mem_singleton.mp q)
        refine wpAny_mono (hel z _ A' E' n t tz s2 m2 cl rfl hn hm hcl2 cellK) ?_ (fun _ _ e => e)
        rintro yv s3 ⟨r1, r2⟩
        exact ⟨⟨n, hn1, r1⟩, r2⟩
    · intro g h5 tk5 gs hgb hag hsz5 hk5 W5 hat
      simp only [GxR.passing_true, List.length_range] at W5
      rw [len] at W5
      refine hQ z ns H1 g _ q1 ⟨_, _, _, _, _, W5.in4_1, by rw [len] at hat; exact hat, ?_, ?_⟩
      · intro j yv sj Qj Ej hy hQj
        obtain ⟨i, hij, n, hn, rfl⟩ := hy
        obtain ⟨hj, ej⟩ := List.getElem?_eq_some_iff.mp hij
        rw [List.getElem_range] at ej
        subst ej
        have g2 : Qj (trI (pb z) ns j) sj := hQj
        rw [trI_some hn] at g2
        exact wpAny_truthy_bool g2
      · intro s' hm
        obtain ⟨more, em⟩ := hmore
        have nwr : ∀ b u, s1.heap.get? b = some u → b ∉ h3.objs.size :: [s1.heap.objs.size] := by
          intro b u e hb
          have hl : (b : Nat) < s1.heap.objs.size := Heap.lt_size e
          rcases List.mem_cons.mp hb with q | q
          · rw [q] at hl
            exact Nat.lt_irrefl _ (Nat.lt_of_lt_of_le hl (by show s1.heap.objs.size ≤ h3.objs.size; omega))
          · rw [List.mem_singleton.mp q] at hl
            exact Nat.lt_irrefl _ hl
        have J := inv_tab (more := more) (h' := s'.heap) (g' := s'.gens) (d' := s'.drawn) (t' := s'.toks) I1 hP
          (fun b u hb e => hm.heap b u (nwr b u e) (hk5 b u (keep3 b u hb e)))
          (by rw [← em]; exact hm.heap P _ (nwr P _ tabS) (hk5 P _ hP3))
          (AllBare.movedS (I1.bare.push hgb) hm)
        rw [sh_eta s1 s' hm.os] at J
        exact ⟨_, ⟨⟨ps ++ more, upd_same, by rw [← em]; exact ht3⟩, fun b hb => upd_ne hb⟩, J⟩
  refine ⟨lim2, ?_⟩
  cases hf : codeAmong gpos ps.toList with
  | none =>
    refine wpAny_genexprCodeX hcode (cd.code tab2 ht) (cd.tab tab2) hf ?_
    intro c' h' tk hx hge hlt hco' _ htab' _
    obtain ⟨o1, vs, f1, tf, fl, tg, inF, tx, tt, op, _, _, _, _, _, _, _, _, _, htr, _⟩ := hco'
    exact cont _ h' tk _ hx (Nat.le_trans hge (Nat.le_of_lt hlt)) htab'.2 ⟨_, rfl⟩ htr
  | some cv =>
    refine wpAny_genexprCode_hit hcode (cd.code tab2 ht) hf ?_
    exact cont cv _ s1.toks ps (Heap.ExtBut.refl _ _) (Nat.le_refl _) tab2 ⟨#[], by simp⟩ ht
end
end MyG
namespace MyG
open PySem PySem.Spec PyProof.Rows L2 GxR
section
variable {X : Cx}
/-- any(test of x and y for x in e), e a tuple of ints, y a captured int; behind it the def's table may have grown -/
def tAnyT (K : PySem.W.Frag) (P : Addr) (iy : Nat) (pb : Int → Int → Bool) (te : TE) : TE := fun σ H Q => te σ H fun v H1 =>
  ∃ (a : Addr) (z : Int) (ns : List Int), v = .ref a ∧ SqT K H1 a (ns.map V.int) ∧ σ[iy]? = some (some (.int z)) ∧ TabG H1 P ∧ ∀ H2, Tabbed P H1 H2 → Q (.bl (ns.any (pb z))) H2
theorem pe_anyT {c P : Addr} {elt iter : Expr} {x y : Str} {iy : Nat} {px p pos gpos : Pos} {scope : Scope} {pb : Int → Int → Bool} {te : TE} {k : Nat}
    (hr : Room k X.A) (hg : Gl X "any") (hm : X.mg "any" = none) (TB : TabB X.base X.mg c P) (hcode : X.env.code = .ref c) (S : GenS X.env scope x) (hi : PE X iter te) (hel : ∀ z, EltI X.prog X.w scope x y elt z (pb z))
    (hNy : X.N[iy]? = some y) (hvy : X.env.scope.names.lookup y = some .cell) (hfy : (y, NameKind.free) ∈ scope.names)
    (hs : ∀ v, genFold iter X.env v = pure v)
    (he : starEach [.GeneratorExp elt [⟨.Name x px, iter, [], 0⟩] scope gpos] X.env = (false, eval (.GeneratorExp elt [⟨.Name x px, iter, [], 0⟩] scope gpos) X.env) :: starEach [] X.env := by rfl) :
    PE X (.Call (.Name "any" p) [.GeneratorExp elt [⟨.Name x px, iter, [], 0⟩] scope gpos] [] pos) (tAnyT X.K P iy pb te) := by
  refine ⟨?_⟩
  intro pins s σ H Q I h
  refine wpAny_Call_Name_kw (ld_blt I hg hm boot_any ?_)
  refine PyProof.Rows.callWith_builtin1 ?_ he (by rfl)
  rw [he]
  refine Calls.spliced_cons (gen_tup (R := fun z ns H1 => ∀ H2, Tabbed P H1 H2 → Q (.bl (ns.any (pb z))) H2) hr TB hcode S hi hel hNy hvy hfy hs I h ?_)
  intro z ns H1 g s5 hR hG
  obtain ⟨fp, wr, G, F, St, W, hst, htr, hI⟩ := hG
  refine Calls.spliced_nil ?_
  refine call_any_walkS (W.self 0 _ _ _ hst ⟨g, fp, wr, G, _, F, St, _, rfl, W, hst, htr, ?_⟩)
  intro s' hmv
  obtain ⟨H2, hT, J⟩ := hI s' hmv
  refine ⟨.bl _, H2, J, rfl, ?_⟩
  rw [any_trI ns (pb z)]
  exact hR H2 hT
end
end MyG
namespace MyG
open PySem PySem.Spec PyProof.Rows L2
theorem truth_ints {prog : Program} {w : World} {A : Around} {ns : List Int} {its : List Value} (h : ∀ (i : Nat) (v : Value), its[i]? = some v → ∃ n t, ns[i]? = some n ∧ v = .int n t) :
    TruthOf prog w A (fun i v => its.toArray[i]? = some v) (trI (fun n => n != 0) ns) := by
  intro i v s Q E hv hq
  obtain ⟨n, t, hn, rfl⟩ := h i v (by simpa using hv)
  have q2 : Q (trI (fun n => n != 0) ns i) s := hq
  rw [trI_some hn] at q2
  exact PySem.P.truthy_int q2
/-- any(xs), xs a list of ints -/
def rAnyI (K : PySem.W.Frag) : List V → Hp → VK → Prop := fun vs H Q =>
  ∃ (a : Addr) (ns : List Int), vs = [V.ref a] ∧ SqL K H a (ns.map V.int) ∧ Q (.bl (ns.any fun n => n != 0)) H
theorem cr_anyI {X : Cx} (hc : X.calm = true) : CallR X (.builtin "any") (rAnyI X.K) := by
  intro pins s σ H vs us Q I r h
  obtain ⟨a, ns, hv, hs, q⟩ := h
  subst hv
  obtain ⟨its, rv, hl, _⟩ := I.list hs
  rw [Vals.ref1 r]
  have item : ∀ (i : Nat) (v : Value), its[i]? = some v → ∃ n t, ns[i]? = some n ∧ v = .int n t := by
    intro i v e
    have hi : i < its.length := (List.getElem?_eq_some_iff.mp e).1
    have hi2 : i < ns.length := by
      have := rv.length
      rw [List.length_map] at this
      omega
    have g : (ns.map V.int)[i]? = some (V.int ns[i]) := by rw [List.getElem?_map, List.getElem?_eq_getElem hi2]; rfl
    obtain ⟨u, hu, ru⟩ := rv.get g
    rw [e] at hu
    cases hu
    obtain ⟨t, rfl⟩ := (show ∃ t, v = Value.int ns[i] t from ru)
    exact ⟨_, t, List.getElem?_eq_getElem hi2, rfl⟩
  refine call_any_walk (iter_any hl.isList ?_)
  intro s2 e2 st hne
  subst e2
  refine ⟨_, _, _, _, _, _, _, rfl, Walks.list (A := X.A.in1) (I.ok.hd hc) _ a hne its.toArray, st, truth_ints item, ?_⟩
  intro h' tk hk
  refine ⟨.bl _, H, I.kept ?_, ?_, q⟩
  · intro b o eo
    refine hk b o ?_ (Heap.get?_push_of_some _ eo)
    intro hmem
    rcases List.mem_cons.mp hmem with e1 | e1
    · exact absurd (e1 ▸ Heap.lt_size eo) (Nat.lt_irrefl _)
    · cases e1
  · show Value.bool _ = Value.bool _
    have len : its.length = ns.length := by
      have := rv.length
      rw [List.length_map] at this
      exact this.symm
    rw [← any_trI, List.size_toArray, len]
end MyG
set_option Elab.async false
set_option linter.all false
set_option maxRecDepth 100000
set_option maxHeartbeats 2000000
/-! generator expressions over lists and tuples of any items, the def's table kept as a thing of which only this is said that it is a table: the heap is then the same behind the walk -/
namespace MyG
open PySem PySem.Spec PyProof.Rows L2 GxR
def tabO (P : Addr) : HO := .ext fun h => ∃ ps : Array Value, h.get? P = some { cls := .none, data := .fields ps } ∧ TriplesOk ps.toList
def TabE (H : Hp) (P : Addr) : Prop := H P = some (tabO P)
theorem tabO_ok {Pg : Program} {w : World} {H : Hp} {h : Heap} {P : Addr} {ps : Array Value} (e : h.get? P = some { cls := .none, data := .fields ps }) (t : TriplesOk ps.toList) : ObjOk Pg w H h P (tabO P) :=
  ⟨⟨ps, e, t⟩, ⟨_, e⟩, fun _ _ ⟨qs, e1, t1⟩ k => ⟨qs, k _ e1, t1⟩⟩
theorem TabE.get {X : Cx} {pins : List (Addr × Obj)} {σ : L2.St} {H : Hp} {s : Shared} {P : Addr} (I : Inv X pins σ H s) (h : TabE H P) : ∃ ps : Array Value, s.heap.get? P = some { cls := .none, data := .fields ps } ∧ TriplesOk ps.toList :=
  (I.hok P _ h).1
section
variable {X : Cx} {pins : List (Addr × Obj)} {σ : L2.St} {H : Hp} {s : Shared}
theorem inv_tabE {P : Addr} {qs : Array Value} {h' : Heap} {g' : Array GenState} {d' : Drawn} {t' : Nat} (I : Inv X pins σ H s) (hP : TabE H P)
    (k : ∀ b o, b ≠ P → s.heap.get? b = some o → h'.get? b = some o) (hm : h'.get? P = some { cls := .none, data := .fields qs }) (ht : TriplesOk qs.toList) (hg : AllBare g') :
    Inv X pins σ H { s with heap := h', gens := g', drawn := d', toks := t' } := by
  have neN : ∀ b, H b = none → b ≠ P := fun b e z => by
    rw [z, show H P = some (tabO P) from hP] at e
    cases e
  have neO : ∀ b c, H c = some (.own b) → c ≠ P := fun b c e z => by
    rw [z, show H P = some (tabO P) from hP] at e
    cases e
  refine I.step (ch := []) (fun b hb => by cases hb) (fun b o _ _ _ e n => k b o (neN b n) e) (fun b o _ _ _ e n => ⟨o.slots, k b o (neN b n) e⟩)
    (fun _ _ _ _ n => n) (fun b o _ e => ?_) (fun _ _ e => e) (fun _ _ _ e => e) (fun b ps e => ⟨#[], by rw [e]; simp⟩) (fun m hn => ?_) (fun b u e => ?_) hg
  · by_cases hb : b = P
    · exact ⟨_, hb ▸ hm⟩
    · exact ⟨o, k b o hb e⟩
  · obtain ⟨ob, es, ep, ho, r⟩ := hn
    exact ⟨ob, es, ep, k _ ob (neN _ I.free) ho, r⟩
  · by_cases hb : b = P
    · subst hb
      rw [show H b = some (tabO b) from hP] at e
      cases e
      exact tabO_ok hm ht
    · refine (I.hok b u e).stay (fun c v hc q => k c v ?_ q) (fun _ q => q) fun _ _ q => q
      rcases hc with z | z
      · rw [z]
        exact hb
      · exact neO _ _ z
end
/-- where a generator expression's element runs: made in the def's state s1, the element now in s' -/
structure At (X : Cx) (P : Addr) (scope : Scope) (s1 : Shared) (ce : Env) (s' : Shared) (m : Str → Option Value) : Prop where
  sc : ce.scope = scope
  gl : ce.globals = X.env.globals
  bl : ce.builtins = builtinsNs
  ns : s'.heap.Ns ce.locals m
  cl : ∀ y c, (y, NameKind.free) ∈ scope.names → X.env.cells.lookup y = some c → ce.cells.lookup y = some c
  keep : ∀ b o, b ≠ P → s1.heap.get? b = some o → s'.heap.get? b = some o
/-- the element of a generator expression, at an item v, is the truth b -/
def EltG (X : Cx) (P : Addr) (scope : Scope) (x : Str) (elt : Expr) (σ : L2.St) (H1 : Hp) (v : V) (b : Bool) : Prop :=
  ∀ (pins : List (Addr × Obj)) (s1 : Shared) (ce : Env) (A' : Around) (E' : Value → Shared → Prop) (u : Value) (s' : Shared) (m : Str → Option Value),
    Inv X pins σ H1 s1 → At X P scope s1 ce s' m → RelV v u → m x = some u → (∃ ps : Array Value, s1.heap.get? P = some { cls := .none, data := .fields ps }) → (∀ c v, s1.heap.IsCell c v → c ≠ P) →
    wpAny (model X.prog X.w) A' (eval elt ce) (fun r s3 => r = .bool b ∧ Keeps s' s3) E' s'
/-- a captured int -/
theorem At.cap {X : Cx} {P : Addr} {scope : Scope} {s1 : Shared} {ce : Env} {s' : Shared} {m : Str → Option Value} {pins : List (Addr × Obj)} {σ : L2.St} {H1 : Hp} {i : Nat} {y : Str} {z : Int} (a : At X P scope s1 ce s' m)
    (I : Inv X pins σ H1 s1) (nP : ∀ c v, s1.heap.IsCell c v → c ≠ P) (hN : X.N[i]? = some y) (hz : σ[i]? = some (some (.int z))) (hv : X.env.scope.names.lookup y = some .cell) (hf : (y, NameKind.free) ∈ scope.names) :
    ∃ (tz : Tok) (cl : Addr), ce.cells.lookup y = some cl ∧ s'.heap.IsCell cl (some (.int z tz)) := by
  obtain ⟨m0, hm0, hl0⟩ := I.loc
  obtain ⟨u0, ru, look⟩ := hl0 i y _ hN hz (.inr (.inl hv))
  obtain ⟨tz, eu⟩ := (show ∃ t, u0 = Value.int z t from ru)
  subst eu
  rcases look with ⟨hk, _⟩ | ⟨_, cl, h1, h2⟩
  · rw [show X.env.kindOf y = X.env.scope.names.lookup y from rfl, hv] at hk
    cases hk
  · refine ⟨tz, cl, a.cl y cl hf h1, ?_⟩
    obtain ⟨o, e, d⟩ := id h2
    exact ⟨o, a.keep cl o (nP cl _ h2) e, d⟩
def trV (pb : V → Bool) (l : List V) (j : Nat) : Bool := match l[j]? with
  | some b => pb b
  | none => false
theorem trV_some {pb : V → Bool} {l : List V} {j : Nat} {b : V} (h : l[j]? = some b) : trV pb l j = pb b := by
  unfold trV
  rw [h]
theorem any_trV (l : List V) (pb : V → Bool) : (List.range l.length).any (trV pb l) = l.any pb := by
  rw [Bool.eq_iff_iff, List.any_eq_true, List.any_eq_true]
  refine ⟨?_, ?_⟩
  · rintro ⟨j, hj, h⟩
    have lt := List.mem_range.mp hj
    rw [trV_some (List.getElem?_eq_getElem lt)] at h
    exact ⟨_, List.getElem_mem lt, h⟩
  · rintro ⟨b, hb, h⟩
    obtain ⟨j, lt, e⟩ := List.getElem_of_mem hb
    exact ⟨j, List.mem_range.mpr lt, by rw [trV_some (List.getElem?_eq_getElem lt), e]; exact h⟩
theorem all_trV (l : List V) (pb : V → Bool) : (List.range l.length).all (trV pb l) = l.all pb := by
  rw [Bool.eq_iff_iff, List.all_eq_true, List.all_eq_true]
  refine ⟨?_, ?_⟩
  · intro h b hb
    obtain ⟨j, lt, e⟩ := List.getElem_of_mem hb
    have q := h j (List.mem_range.mpr lt)
    rw [trV_some (List.getElem?_eq_getElem lt), e] at q
    exact q
  · intro h j hj
    have lt := List.mem_range.mp hj
    rw [trV_some (List.getElem?_eq_getElem lt)]
    exact h _ (List.getElem_mem lt)
section
variable {X : Cx} {pins : List (Addr × Obj)} {σ : L2.St} {H : Hp} {s : Shared}
/-- what stands ready to be walked behind the generator's making -/
def RdyV (X : Cx) (pins : List (Addr × Obj)) (σ : L2.St) (H1 : Hp) (xs : List V) (pb : V → Bool) (g : Addr) (s5 : Shared) : Prop :=
  ∃ (fp wr : List Addr) (G : Array GenState → Array GenState → Prop) (F : Nat → Value → Prop) (St : Nat → Shared → Prop),
    WalksS X.prog X.w X.A.in1 g fp wr G xs.length F St ∧ St 0 s5 ∧ TruthOf X.prog X.w X.A.in1 F (trV pb xs) ∧
    ∀ s', Moved wr G s5 s' → Inv X pins σ H1 s'

theorem gen_seq {c P : Addr} {elt iter : Expr} {x : Str} {px gpos : Pos} {scope : Scope} {El : L2.St → Hp → V → Bool → Prop} {te : TE} {k : Nat} {Q' : Value → Shared → Prop} {R : List V → (V → Bool) → Hp → Prop}
    (hr : Room k X.A) (TB : TabB X.base X.mg c P) (hcode : X.env.code = .ref c) (S : GenS X.env scope x) (hi : PE X iter te)
    (he : ∀ σ H1 v b, El σ H1 v b → EltG X P scope x elt σ H1 v b)
    (hs : ∀ v, genFold iter X.env v = pure v) (I : Inv X pins σ H s)
    (h : te σ H fun v H1 => ∃ (a : Addr) (xs : List V) (pb : V → Bool), v = .ref a ∧ (SqL X.K H1 a xs ∨ SqT X.K H1 a xs) ∧ TabE H1 P ∧ (∀ v ∈ xs, El σ H1 v (pb v)) ∧ R xs pb H1)
    (hQ : ∀ xs pb H1 g s5, R xs pb H1 → RdyV X pins σ H1 xs pb g s5 → Q' (.ref g) s5) :
    wpAny (model X.prog X.w) X.A (eval (.GeneratorExp elt [⟨.Name x px, iter, [], 0⟩] scope gpos) X.env) Q' X.xe s := by
  refine wpAny_GeneratorExp_walksQ hr.hd S.co
    (closure_ok S.free) S.cell S.dot S.loc S.kind (by have := hr.dp; omega) ?_ hs
  refine thn (hi.run pins s σ H _ I h) ?_
  rintro xv s1 ⟨v, H1, I1, r1, a, xs, pb, hv, hq, hP, hel, q1⟩
  subst hv
  have exv : xv = .ref a := r1
  subst exv
  obtain ⟨ps, tabS, ht⟩ := TabE.get I1 hP
  have ltP : P < s1.heap.objs.size := Heap.lt_size tabS
  -- list or tuple: what is walked, its state, its size
  have seq : ∃ (its : List Value) (o : Obj) (St : Nat → Heap → Prop), Vals xs its ∧
      (∀ A' : Around, A'.handled = none → Walks X.prog X.w A' s1.heap.objs.size [s1.heap.objs.size, a] [s1.heap.objs.size] its.toArray.size (fun i v => its.toArray[i]? = some v) St) ∧
      St 0 (s1.heap.push o) ∧ a ≠ P ∧ a < s1.heap.objs.size ∧
      ∀ {Q2 : Value → Shared → Prop} {E2 : Value → Shared → Prop}, Q2 (.ref s1.heap.objs.size) { s1 with heap := s1.heap.push o } → wpAny (model X.prog X.w) X.A (pyIter (.ref a)) Q2 E2 s1 := by
    rcases hq with hq | hq
    · obtain ⟨its, rv, ip, hzz⟩ := I1.list hq
      have il : s1.heap.IsList a its.toArray := ip.isList
      have lta : a < s1.heap.objs.size := by
        obtain ⟨oo, _, e1, _⟩ := ip
        exact Heap.lt_size e1
      have ane : a ≠ s1.heap.objs.size := Nat.ne_of_lt lta
      refine ⟨its, { cls := .type "list_iterator", data := .fields #[.ref a, .int 0 0] }, _, rv, fun A' hh => Walks.list hh _ a ane its.toArray, ?_, ?_, lta, fun q => ?_⟩
      · exact ⟨⟨_, Heap.get?_push_size _ rfl, rfl, rfl⟩, il.at fun oo e => Heap.get?_push_of_some _ e⟩
      · intro e
        obtain ⟨oo, n, e1, e2, e3, e4⟩ := ip
        rw [e, tabS] at e1
        cases e1
        cases e2
      · exact wpAny_pyIter_list il q
    · obtain ⟨its, rv, ip, hzz⟩ := I1.tuple hq
      have il : s1.heap.IsTuple a its.toArray := ip
      have lta : a < s1.heap.objs.size := by
        obtain ⟨oo, e1, _⟩ := il
        exact Heap.lt_size e1
      have ane : a ≠ s1.heap.objs.size := Nat.ne_of_lt lta
      refine ⟨its, { cls := .type "tuple_iterator", data := .fields #[.ref a, .int 0 0] }, _, rv, fun A' hh => Walks.tuple hh _ a ane its.toArray, ?_, ?_, lta, fun q => ?_⟩
      · exact ⟨⟨_, Heap.get?_push_size _ rfl, rfl, rfl⟩, il.at fun oo e => Heap.get?_push_of_some _ e⟩
      · intro e
        obtain ⟨oo, e1, e2, e3⟩ := il
        rw [e, tabS] at e1
        cases e1
        cases e2
      · exact wpAny_pyIter_tuple il q
  obtain ⟨its, o, St, rv, WT, st0, aP, lta, hiter⟩ := seq
  refine hiter ?_
  have tab2 : (s1.heap.push o).get? P = some { cls := .none, data := .fields ps } := Heap.get?_push_of_some _ tabS
  have cd : PySem.W.CodeHd (s1.heap.push o) c P := TB.code.keeps
    (fun b u e => Heap.get?_push_of_some _ (I1.bk b u e))
  have lim2 : (s1.heap.push o).NoLimit := I1.nolimit.push o
  have len : its.toArray.size = xs.length := by
    rw [List.size_toArray, ← rv.length]
  have item : ∀ (i : Nat) (u : Value), its.toArray[i]? = some u → ∃ v, xs[i]? = some v ∧ RelV v u := by
    intro i u e
    have e' : its[i]? = some u := by rw [List.getElem?_toArray] at e; exact e
    have hi : i < its.length := (List.getElem?_eq_some_iff.mp e').1
    have hi2 : i < xs.length := by rw [← len, List.size_toArray]; exact hi
    obtain ⟨u', hu, ru⟩ := rv.get (List.getElem?_eq_getElem hi2)
    rw [e'] at hu
    cases hu
    exact ⟨_, List.getElem?_eq_getElem hi2, ru⟩
  have noCell : ∀ c v, s1.heap.IsCell c v → c ≠ P := by
    rintro c v ⟨oc, ec, dc⟩ rfl
    rw [tabS] at ec
    cases ec
    cases dc
  have cont : ∀ (code : Value) (h3 : Heap) (tk : Nat) (ps' : Array Value), Heap.ExtBut P (s1.heap.push o) h3 → (s1.heap.push o).objs.size ≤ h3.objs.size →
      h3.get? P = some { cls := .none, data := .fields ps' } → TriplesOk ps'.toList →
      wpAny (model X.prog X.w) X.A (builtinsFor X.env.globals X.env.builtins) (fun bi s4 =>
        ∃ Ia fp wr n0 Pf St0 pz F, Value.ref s1.heap.objs.size = .ref Ia ∧ (∀ A' : Around, A'.handled = none → Walks X.prog X.w A' Ia fp wr n0 Pf St0) ∧ St0 0 s4.heap ∧ (∀ b ∈ fp, b < s4.heap.objs.size) ∧ s4.heap.NoLimit ∧ cStatics ∉ wr ∧
          (∀ href : Heap, (∀ b o, s4.heap.get? b = some o → href.get? b = some o) →
            QuietGen X.prog X.w (genEnv scope (cloFrom X.env.cells scope.names []) s4.heap.objs.size code bi X.env) x [] elt (List.range s4.heap.objs.size) wr Pf pz F href) ∧
          (∀ a h5 tk gs, gs.bare = true → s4.heap.objs.size < a → h5.objs.size = a + 1 → (∀ b o, s4.heap.get? b = some o → h5.get? b = some o) →
            WalksS X.prog X.w X.A.in4 a (a :: s4.heap.objs.size :: List.range s4.heap.objs.size) (s4.heap.objs.size :: wr) (GenOnlyQ s4.gens.size) (passing pz n0 0).length
              (fun j y => ∃ i, (passing pz n0 0)[j]? = some i ∧ F i y) (GenAt X.prog X.w X.A.in4 a s4.gens.size s4.heap.objs.size (List.range s4.heap.objs.size) wr pz n0 F) →
            GenAt X.prog X.w X.A.in4 a s4.gens.size s4.heap.objs.size (List.range s4.heap.objs.size) wr pz n0 F 0 { s4 with gens := s4.gens.push gs, toks := tk, heap := h5 } →
            Q' (.ref a) { s4 with gens := s4.gens.push gs, toks := tk, heap := h5 })) X.xe { s1 with heap := h3, toks := tk } := by
    intro code h3 tk ps' hx hsz hP3 ht3
    obtain ⟨bm, ob, b1, b2, b3, b4, b5, b6, b7, b8⟩ := TB.bm
    have stP : cStatics ≠ P := by
      intro e
      obtain ⟨_, hns, _⟩ := I1.nolimit
      obtain ⟨o', es, ep, q1, q2, _⟩ := hns
      rw [e, tabS] at q1
      cases q1
      cases q2
    have stL : cStatics < s1.heap.objs.size := by
      obtain ⟨_, hns, _⟩ := I1.nolimit
      exact hns.lt
    have sz2 : (s1.heap.push o).objs.size = s1.heap.objs.size + 1 := Heap.size_push ..
    have keep3 : ∀ b u, b ≠ P → s1.heap.get? b = some u → h3.get? b = some u := fun b u hb e =>
      hx b u hb (Heap.get?_push_of_some _ e)
    refine wpAny_builtinsFor (m := X.mg)
      (by rw [I1.ok.glob]; exact ((I1.mod.glob.keeps I1.bk).push o).extBut hx TB.gP)
      b1 b2 (keep3 _ _ b4 (I1.bk _ _ b5)) b6 b7 b8 ?_
    refine ⟨s1.heap.objs.size, [s1.heap.objs.size, a], [s1.heap.objs.size], its.toArray.size, (fun i v => its.toArray[i]? = some v), St,
      (fun _ => true), (fun i y => ∃ v, xs[i]? = some v ∧ y = .bool (pb v)), rfl, WT, ?_, ?_, lim2.extBut hx stP, ?_, ?_, ?_⟩
    · refine (WT X.A hr.hd).frame _ _ _ st0 ?_
      intro b hb u e
      refine hx b u ?_ e
      rintro rfl
      rcases List.mem_cons.mp hb with q | q
      · exact Nat.ne_of_lt ltP q
      · exact aP (List.mem_singleton.mp q).symm
    · intro b hb
      show b < h3.objs.size
      rcases List.mem_cons.mp hb with q | q
      · rw [q]
        show (s1.heap.objs.size : Nat) < h3.objs.size
        omega
      · rw [List.mem_singleton.mp q]
        exact Nat.lt_of_lt_of_le lta (by omega)
    · intro q
      exact Nat.ne_of_lt stL (List.mem_singleton.mp q)
    · intro href hhref
      refine ⟨?_, ?_⟩
      · intro A' E' i v s2 m2 _ _ _ _ _
        simp only [List.forIn_nil]
        exact wpAny_pure ⟨rfl, keeps_refl _⟩
      · intro A' E' i u s2 m2 hA hPv hp hn hm hk
        obtain ⟨v, hv1, ru⟩ := item i u hPv
        refine wpAny_mono (he _ _ _ _ (hel v (List.mem_of_getElem? hv1)) pins s1 _ A' E' u s2 m2 I1 ⟨rfl, rfl, rfl, hn, fun y c hf hc => ?_, fun b o' hb e => ?_⟩ ru hm ⟨ps, tabS⟩ noCell) ?_ (fun _ _ e => e)
        · exact NdefX.clo_has S.free hf hc
        · have ltb : b < s1.heap.objs.size := Heap.lt_size e
          refine hk b (List.mem_range.mpr ?_) ?_ o' (hhref b o' (keep3 b o' hb e))
          · exact Nat.lt_of_lt_of_le ltb (by show s1.heap.objs.size ≤ h3.objs.size; omega)
          · intro q
            exact Nat.ne_of_lt ltb (List.mem_singleton.mp q)
        · rintro yv s3 ⟨r1, r2⟩
          exact ⟨⟨v, hv1, r1⟩, r2⟩
    · intro g h5 tk5 gs hgb hag hsz5 hk5 W5 hat
      simp only [GxR.passing_true, List.length_range] at W5
      rw [len] at W5
      refine hQ xs pb H1 g _ q1 ⟨_, _, _, _, _, W5.in4_1, by rw [len] at hat; exact hat, ?_, ?_⟩
      · intro j yv sj Qj Ej hy hQj
        obtain ⟨i, hij, n, hn, rfl⟩ := hy
        obtain ⟨hj, ej⟩ := List.getElem?_eq_some_iff.mp hij
        rw [List.getElem_range] at ej
        subst ej
        have g2 : Qj (trV pb xs j) sj := hQj
        rw [trV_some hn] at g2
        exact wpAny_truthy_bool g2
      · intro s' hm
        have nwr : ∀ b u, s1.heap.get? b = some u → b ∉ h3.objs.size :: [s1.heap.objs.size] := by
          intro b u e hb
          have hl : (b : Nat) < s1.heap.objs.size := Heap.lt_size e
          rcases List.mem_cons.mp hb with q | q
          · rw [q] at hl
            exact Nat.lt_irrefl _ (Nat.lt_of_lt_of_le hl (by show s1.heap.objs.size ≤ h3.objs.size; omega))
          · rw [List.mem_singleton.mp q] at hl
            exact Nat.lt_irrefl _ hl
        have J := inv_tabE (qs := ps') (h' := s'.heap) (g' := s'.gens) (d' := s'.drawn) (t' := s'.toks) I1 hP
          (fun b u hb e => hm.heap b u (nwr b u e) (hk5 b u (keep3 b u hb e)))
          (hm.heap P _ (nwr P _ tabS) (hk5 P _ hP3)) ht3
          (AllBare.movedS (I1.bare.push hgb) hm)
        rw [sh_eta s1 s' hm.os] at J
        exact J
  refine ⟨lim2, ?_⟩
  cases hf : codeAmong gpos ps.toList with
  | none =>
    refine wpAny_genexprCodeX hcode (cd.code tab2 ht) (cd.tab tab2) hf ?_
    intro c' h' tk hx hge hlt hco' _ htab' _
    obtain ⟨o1, vs, f1, tf, fl, tg, inF, tx, tt, op, _, _, _, _, _, _, _, _, _, htr, _⟩ := hco'
    exact cont _ h' tk _ hx (Nat.le_trans hge (Nat.le_of_lt hlt)) htab'.2 htr
  | some cv =>
    refine wpAny_genexprCode_hit hcode (cd.code tab2 ht) hf ?_
    exact cont cv _ s1.toks ps (Heap.ExtBut.refl _ _) (Nat.le_refl _) tab2 ht
end
section
variable {X : Cx}
/-- what is known of an element's test, from the slots, the heap, the item -/
abbrev ElP := L2.St → Hp → V → Bool → Prop
/-- any(test for x in e), all(test for x in e), e a list or a tuple -/
def tAnyG (K : PySem.W.Frag) (P : Addr) (El : ElP) (te : TE) : TE := fun σ H Q => te σ H fun v H1 =>
  ∃ (a : Addr) (xs : List V) (pb : V → Bool), v = .ref a ∧ (SqL K H1 a xs ∨ SqT K H1 a xs) ∧ TabE H1 P ∧ (∀ v ∈ xs, El σ H1 v (pb v)) ∧ Q (.bl (xs.any pb)) H1
def tAllG (K : PySem.W.Frag) (P : Addr) (El : ElP) (te : TE) : TE := fun σ H Q => te σ H fun v H1 =>
  ∃ (a : Addr) (xs : List V) (pb : V → Bool), v = .ref a ∧ (SqL K H1 a xs ∨ SqT K H1 a xs) ∧ TabE H1 P ∧ (∀ v ∈ xs, El σ H1 v (pb v)) ∧ Q (.bl (xs.all pb)) H1
theorem pe_anyG {c P : Addr} {elt iter : Expr} {x : Str} {px p pos gpos : Pos} {scope : Scope} {El : ElP} {te : TE} {k : Nat}
    (hr : Room k X.A) (hg : Gl X "any") (hm : X.mg "any" = none) (TB : TabB X.base X.mg c P) (hcode : X.env.code = .ref c) (S : GenS X.env scope x) (hi : PE X iter te)
    (hel : ∀ σ H1 v b, El σ H1 v b → EltG X P scope x elt σ H1 v b)
    (hs : ∀ v, genFold iter X.env v = pure v)
    (he : starEach [.GeneratorExp elt [⟨.Name x px, iter, [], 0⟩] scope gpos] X.env = (false, eval (.GeneratorExp elt [⟨.Name x px, iter, [], 0⟩] scope gpos) X.env) :: starEach [] X.env := by rfl) :
    PE X (.Call (.Name "any" p) [.GeneratorExp elt [⟨.Name x px, iter, [], 0⟩] scope gpos] [] pos) (tAnyG X.K P El te) := by
  refine ⟨?_⟩
  intro pins s σ H Q I h
  refine wpAny_Call_Name_kw (ld_blt I hg hm boot_any ?_)
  refine PyProof.Rows.callWith_builtin1 ?_ he (by rfl)
  rw [he]
  refine Calls.spliced_cons (gen_seq (R := fun xs pb H1 => Q (.bl (xs.any pb)) H1) hr TB hcode S hi hel hs I h ?_)
  intro xs pb H1 g s5 hR hG
  obtain ⟨fp, wr, G, F, St, W, hst, htr, hI⟩ := hG
  refine Calls.spliced_nil ?_
  refine call_any_walkS (W.self 0 _ _ _ hst ⟨g, fp, wr, G, _, F, St, _, rfl, W, hst, htr, ?_⟩)
  intro s' hmv
  refine ⟨.bl _, H1, hI s' hmv, rfl, ?_⟩
  rw [any_trV xs pb]
  exact hR
theorem pe_allG {c P : Addr} {elt iter : Expr} {x : Str} {px p pos gpos : Pos} {scope : Scope} {El : ElP} {te : TE} {k : Nat}
    (hr : Room k X.A) (hg : Gl X "all") (hm : X.mg "all" = none) (TB : TabB X.base X.mg c P) (hcode : X.env.code = .ref c) (S : GenS X.env scope x) (hi : PE X iter te)
    (hel : ∀ σ H1 v b, El σ H1 v b → EltG X P scope x elt σ H1 v b)
    (hs : ∀ v, genFold iter X.env v = pure v)
    (he : starEach [.GeneratorExp elt [⟨.Name x px, iter, [], 0⟩] scope gpos] X.env = (false, eval (.GeneratorExp elt [⟨.Name x px, iter, [], 0⟩] scope gpos) X.env) :: starEach [] X.env := by rfl) :
    PE X (.Call (.Name "all" p) [.GeneratorExp elt [⟨.Name x px, iter, [], 0⟩] scope gpos] [] pos) (tAllG X.K P El te) := by
  refine ⟨?_⟩
  intro pins s σ H Q I h
  refine wpAny_Call_Name_kw (ld_blt I hg hm boot_all ?_)
  refine PyProof.Rows.callWith_builtin1 ?_ he (by rfl)
  rw [he]
  refine Calls.spliced_cons (gen_seq (R := fun xs pb H1 => Q (.bl (xs.all pb)) H1) hr TB hcode S hi hel hs I h ?_)
  intro xs pb H1 g s5 hR hG
  obtain ⟨fp, wr, G, F, St, W, hst, htr, hI⟩ := hG
  refine Calls.spliced_nil ?_
  refine call_all_walkS (W.self 0 _ _ _ hst ⟨g, fp, wr, G, _, F, St, _, rfl, W, hst, htr, ?_⟩)
  intro s' hmv
  refine ⟨.bl _, H1, hI s' hmv, rfl, ?_⟩
  rw [all_trV xs pb]
  exact hR
end
end MyG
set_option linter.all false
set_option maxRecDepth 100000
namespace My
open PySem L2 Evl
theorem CMul_bdl {ns : List Int} {j : Nat} {z : Int} (h : Bd ns) : CMul (ns.getD j 0) z := by
  have := h.getD j
  exact .inl ⟨by omega, by omega⟩
theorem CMul_bdr {ns : List Int} {j : Nat} {z : Int} (h : Bd ns) : CMul z (ns.getD j 0) := by
  have := h.getD j
  exact .inr ⟨by omega, by omega⟩
/-- which places are chosen -/
def sel (n : Nat) (f : Nat → Bool) : List Int := ((List.range n).filter f).map fun (i : Nat) => (i : Int)
theorem sel_zero {f : Nat → Bool} : sel 0 f = [] := rfl
theorem sel_yes {n : Nat} {f : Nat → Bool} (h : f n = true) : sel (n + 1) f = sel n f ++ [(n : Int)] := by
  unfold sel
  rw [List.range_succ, List.filter_append, List.map_append, List.filter_cons, if_pos h] <;> rfl
theorem sel_no {n : Nat} {f : Nat → Bool} (h : f n = false) : sel (n + 1) f = sel n f := by
  unfold sel
  rw [List.range_succ, List.filter_append, List.map_append, List.filter_cons, if_neg (by rw [h]; decide)]
  show _ ++ [] = _
  rw [List.append_nil]
theorem sel_len (n : Nat) (f : Nat → Bool) : (sel n f).length ≤ n := by
  unfold sel
  rw [List.length_map]
  have h := List.length_filter_le f (List.range n)
  rwa [List.length_range] at h
theorem given_sel (n : Nat) (f : Nat → Bool) : given n f (fun i => .int (i : Int)) = (sel n f).map V.int := by
  unfold given sel
  rw [List.map_map]
  rfl
theorem given_len' (n : Nat) (f : Nat → Bool) (v : Nat → V) : (given n f v).length = (sel n f).length := by
  unfold given sel
  rw [List.length_map, List.length_map]
theorem given_all (n : Nat) (v : Nat → Int) : given n (fun _ => true) (fun i => .int (v i)) = ((List.range n).map v).map V.int := by
  unfold given
  rw [List.filter_eq_self.mpr (fun _ _ => rfl), List.map_map]
  rfl
theorem sel_count (fs : List Int) : ∀ n, n ≤ fs.length → ((sel n fun i => !decide (fs.getD i 0 = 0)).length : Int) + (((fs.take n).count 0 : Nat) : Int) = (n : Int)
  | 0, _ => by simp [sel]
  | n + 1, h => by
    have ih := sel_count fs n (by omega)
    have hn : n < fs.length := by omega
    have hg : fs.getD n 0 = fs[n] := by rw [List.getD_eq_getElem?_getD, List.getElem?_eq_getElem hn]; rfl
    rw [List.take_add_one, List.getElem?_eq_getElem hn, Option.toList_some, List.count_append]
    by_cases h0 : fs[n] = 0
    · have hf : (!decide (fs.getD n 0 = 0)) = false := by rw [hg, h0]; rfl
      have e1 : List.count (0 : Int) [fs[n]] = 1 := by rw [h0]; rfl
      rw [sel_no (f := fun i => !decide (fs.getD i 0 = 0)) hf, e1]
      omega
    · have hf : (!decide (fs.getD n 0 = 0)) = true := by rw [hg, decide_eq_false h0]; rfl
      have e1 : List.count (0 : Int) [fs[n]] = 0 := by
        rw [List.count_cons, List.count_nil, if_neg]
        intro q
        exact h0 (eq_of_beq q)
      rw [sel_yes (f := fun i => !decide (fs.getD i 0 = 0)) hf, e1, List.length_append, List.length_singleton]
      omega
/-- an item of a received word -/
def oV : Option Int → V
  | none => .non
  | some z => .int z
theorem oV_non (r : Option Int) : decide (oV r = .non) = r.isNone := by
  cases r with
  | none => exact decide_eq_true rfl
  | some z => exact decide_eq_false (fun h => by cases h)
theorem et_yes {σ : L2.St} {H : Hp} : EvT tYes σ H true := fun H1 _ _ q => q H1 (Ex.refl H1)
theorem rv_isN {x : V} {H : Hp} : RV (fun x y H Q => y = .non ∧ Q (.bl (decide (x = .non))) H) x .non H (.bl (decide (x = .non))) := fun H1 _ _ q => ⟨rfl, q H1 (Ex.refl H1)⟩
theorem rv_notN {x : V} {H : Hp} : RV (fun x y H Q => y = .non ∧ Q (.bl (!decide (x = .non))) H) x .non H (.bl (!decide (x = .non))) := fun H1 _ _ q => ⟨rfl, q H1 (Ex.refl H1)⟩
end My
namespace My
open PySem L2 Evl
theorem dec_int (x y : Int) : decide (V.int x = V.int y) = decide (x = y) := by
  by_cases h : x = y
  · rw [decide_eq_true h, h, decide_eq_true rfl]
  · rw [decide_eq_false h, decide_eq_false (fun q => h (V.int.inj q))]
theorem scal_oV (r : Option Int) (x : Int) : scal (oV r) (.int x) = true := by cases r <;> rfl
def fD (fs ss : List Int) (i : Nat) : Bool := !decide (fs.getD i 0 = ss.getD i 0)
def fE (fs : List Int) (rs : List (Option Int)) (i : Nat) : Bool := !(rs.getD i none).isNone && !decide (oV (rs.getD i none) = .int (fs.getD i 0))
def fN (rs : List (Option Int)) (i : Nat) : Bool := (rs.getD i none).isNone
def fS (fs : List Int) (i : Nat) : Bool := !decide (fs.getD i 0 = 0)
theorem at_oV {rs : List (Option Int)} {i : Nat} (h : i < rs.length) : atI (rs.map oV) (i : Int) = some (oV (rs.getD i none)) := by
  refine atI_nat ?_
  rw [List.getElem?_map, List.getElem?_eq_getElem h, List.getD_eq_getElem?_getD, List.getElem?_eq_getElem h]
  rfl
theorem at_intN {ns : List Int} {i : Nat} (h : i < ns.length) : atI (ns.map V.int) (i : Int) = some (.int (ns.getD i 0)) := by
  refine atI_nat ?_
  rw [List.getElem?_map, List.getElem?_eq_getElem h, List.getD_eq_getElem?_getD, List.getElem?_eq_getElem h]
  rfl
theorem sel_lenYes {n : Nat} {f : Nat → Bool} (h : f n = true) : ((sel (n + 1) f).length : Int) = (sel n f).length + 1 := by
  rw [sel_yes h, List.length_append, List.length_singleton]
  omega
end My

namespace My
theorem dec_nat (m n : Nat) : decide ((m : Int) = (n : Int)) = decide (m = n) := by
  by_cases h : m = n
  · rw [decide_eq_true h, decide_eq_true (by omega)]
  · rw [decide_eq_false h, decide_eq_false (by omega)]
end My
set_option linter.all false
set_option maxRecDepth 100000
namespace My
open PySem L2 Evl
section
variable {K : PySem.W.Frag} {σ : L2.St} {H H' : Hp} {ta tb te tx : TE} {t u : TT} {x y z v : V} {D : Ends} {tu tw tz : TS} {g : TG}
theorem q_asgCg {sp : Sp} {E : XK} {tr : TA} {vs : List V} (h : EvA tr σ H vs)
    (k : ∀ H1, Ex H H1 → sp vs H1 (fun v H2 => g v σ H2 (fun σ2 H3 => tz D σ2 H3)) E) : tSeq (tAsg (tCall sp [] E tr) g) tz D σ H := by
  refine h H (Ex.refl H) _ fun H1 e1 => ?_
  rw [List.append_nil]
  exact k H1 e1
/-- [list(a), list(b), list(c)] -/
theorem q_lists3 {a b c : Addr} {xs ys zs : List V} {ia ib ic i : Nat} (ha : σ[ia]? = some (some (.ref a))) (hb : σ[ib]? = some (some (.ref b))) (hc : σ[ic]? = some (some (.ref c))) (hA : SqL K H a xs) (hB : SqL K H b ys) (hC : SqL K H c zs)
    (k : ∀ p l1 l2 l3 H1, Ex H H1 → H p = none → H1 p = some (.lst [.ref l1, .ref l2, .ref l3]) → H1 l1 = some (.lst xs) → H1 l2 = some (.lst ys) → H1 l3 = some (.lst zs) → tz D (σ.set i (some (.ref p))) H1) :
    tSeq (tAsg (tLst (tCons (tCB (rListS K) (tCons (tVar ia) tNil)) (tCons (tCB (rListS K) (tCons (tVar ib) tNil)) (tCons (tCB (rListS K) (tCons (tVar ic) tNil)) tNil)))) (gName i)) tz D σ H := by
  refine ⟨_, ha, a, xs, rfl, .inl hA, fun l1 n1 => ?_⟩
  have e1 : Ex H (upd H l1 (.lst xs)) := Ex.new n1
  refine ⟨_, hb, b, ys, rfl, .inl (ex_l e1 hB), fun l2 n2 => ?_⟩
  have e2 : Ex (upd H l1 (.lst xs)) (upd (upd H l1 (.lst xs)) l2 (.lst ys)) := Ex.new n2
  refine ⟨_, hc, c, zs, rfl, .inl (ex_l (e1.trans e2) hC), fun l3 n3 => ?_⟩
  have e3 := Ex.new (o := .lst zs) n3
  refine ⟨by show 3 ≤ sizeLine; exact sz_of (by decide), fun p np => ?_⟩
  have e4 := Ex.new (o := .lst [.ref l1, .ref l2, .ref l3]) np
  exact k p l1 l2 l3 _ (((e1.trans e2).trans e3).trans e4) (fresh_back ((e1.trans e2).trans e3) np) upd_same (e4 _ _ (e3 _ _ (e2 _ _ upd_same))) (e4 _ _ (e3 _ _ upd_same)) (e4 _ _ upd_same)
theorem el_cat {l : Addr} {xs ys : List V} (ha : Ev ta σ H (.ref l)) (hl : H l = some (.lst xs)) (hb : EvL tb σ H ys) (hz : xs.length + ys.length ≤ 100000) : EvL (tOp rCat ta tb) σ H (xs ++ ys) := fun H1 e Q q =>
  ha H1 e _ fun H2 e2 => hb H2 (e.trans e2) _ fun p H3 np e3 hp => ⟨l, p, xs, ys, rfl, rfl, e3 _ _ (e2 _ _ (e _ _ hl)), hp, sz_of hz, fun r nr => q r _ (fresh_back (e2.trans e3) nr) ((e2.trans e3).trans (Ex.new nr)) upd_same⟩
theorem el_rep {xs : List V} {n : Int} (ha : EvL ta σ H xs) (hb : Ev tb σ H (.int n)) (h0 : 0 ≤ n ∧ n ≤ 100000) (hz : xs.length * n.toNat ≤ 100000) : EvL (tOp rRep ta tb) σ H (List.replicate n.toNat xs).flatten := fun H1 e Q q =>
  ha H1 e _ fun p H2 np e2 hp => hb H2 (e.trans e2) _ fun H3 e3 => ⟨p, n, xs, rfl, rfl, e3 _ _ hp, by omega, by omega, sz_of hz, fun r nr => q r _ (fresh_back (e2.trans e3) nr) ((e2.trans e3).trans (Ex.new nr)) upd_same⟩
end
theorem cut_last (xs : List V) : cutV xs none (some (-1)) = xs.take (xs.length - 1) := by
  unfold cutV
  rw [HT.sIx_none, List.drop_zero, Nat.sub_zero]
  congr 1
  show (if (-1 : Int) < 0 then ((-1 : Int) + (xs.length : Int)).toNat else min (-1 : Int).toNat xs.length) = xs.length - 1
  rw [if_pos (by decide)]
  omega
theorem fD_comm (fs ss : List Int) : fD fs ss = fD ss fs := by
  funext i
  unfold fD
  by_cases h : fs.getD i 0 = ss.getD i 0
  · rw [decide_eq_true h, decide_eq_true h.symm]
  · rw [decide_eq_false h, decide_eq_false (fun q => h q.symm)]
/-! data: flat lists, a list of flat lists -/
def oP : Option Int → PyData
  | none => .none
  | some z => .int z
theorem dp_ints {K : PySem.W.Frag} {H : Hp} : ∀ ns : List Int, DpAll K H (ns.map V.int) (ns.map PyData.int)
  | [] => .nil
  | n :: r => .cons (.int n) (dp_ints r)
theorem dp_opts {K : PySem.W.Frag} {H : Hp} : ∀ rs : List (Option Int), DpAll K H (rs.map oV) (rs.map oP)
  | [] => .nil
  | none :: r => .cons .non (dp_opts r)
  | some z :: r => .cons (.int z) (dp_opts r)
theorem lay_ints : ∀ ns : List Int, PyData.canLayAll0 (ns.map PyData.int) = true
  | [] => by simp [PyData.canLayAll0]
  | n :: r => by simp [PyData.canLayAll0, PyData.canLay0, lay_ints r]
theorem lay_opts : ∀ rs : List (Option Int), PyData.canLayAll0 (rs.map oP) = true
  | [] => by simp [PyData.canLayAll0]
  | none :: r => by simp [PyData.canLayAll0, PyData.canLay0, oP, lay_opts r]
  | some z :: r => by simp [PyData.canLayAll0, PyData.canLay0, oP, lay_opts r]
theorem dep_ints : ∀ ns : List Int, PyData.depthAll (ns.map PyData.int) ≤ 1
  | [] => by simp [PyData.depthAll]
  | n :: r => by
    have := dep_ints r
    simp [PyData.depthAll, PyData.depth]
    omega
theorem dep_opts : ∀ rs : List (Option Int), PyData.depthAll (rs.map oP) ≤ 1
  | [] => by simp [PyData.depthAll]
  | none :: r => by
    have := dep_opts r
    simp [PyData.depthAll, PyData.depth, oP]
    omega
  | some z :: r => by
    have := dep_opts r
    simp [PyData.depthAll, PyData.depth, oP]
    omega
def dat3 (fs ss : List Int) (rs : List (Option Int)) : PyData := .list [.list (fs.map .int), .list (ss.map .int), .list (rs.map oP)]
theorem dat3_shaped (fs ss : List Int) (rs : List (Option Int)) : SeqAt.shaped (dat3 fs ss rs) = true := by
  have h1 := dep_ints fs
  have h2 := dep_ints ss
  have h3 := dep_opts rs
  unfold SeqAt.shaped dat3
  rw [Bool.and_eq_true]
  refine ⟨?_, decide_eq_true ?_⟩
  · simp [PyData.canLay0, PyData.canLayAll0, lay_ints, lay_opts]
  · simp [PyData.depth, PyData.depthAll]
    omega
theorem dat3_dp {K : PySem.W.Frag} {H : Hp} {p l1 l2 l3 : Addr} {fs ss : List Int} {rs : List (Option Int)} (hp : SqL K H p [.ref l1, .ref l2, .ref l3]) (h1 : SqL K H l1 (fs.map V.int)) (h2 : SqL K H l2 (ss.map V.int)) (h3 : SqL K H l3 (rs.map oV)) : Dp K H (.ref p) (dat3 fs ss rs) :=
  .lst hp (.cons (.lst h1 (dp_ints fs)) (.cons (.lst h2 (dp_ints ss)) (.cons (.lst h3 (dp_opts rs)) .nil)))
theorem dat3_refl (fs ss : List Int) (rs : List (Option Int)) : PyData.eqv (dat3 fs ss rs) (dat3 fs ss rs) = true := SeqAt.eqv_refl _ (SeqAt.canLay_of_shaped (dat3_shaped fs ss rs))
end My
set_option Elab.async false
set_option linter.all false
set_option maxRecDepth 100000
set_option maxHeartbeats 1000000
namespace My
open PySem L2 Evl
/-! lists of ints compared; arguments some of which are new; pairs of lists walked -/
theorem passEz {X : Cx} : Passes (L2.CX X.prog X.w) X (fun _ _ _ => False) := fun _ _ _ _ _ _ _ h => by
  obtain ⟨_, _, _, _, _, _, _, _, _, _, _, _, z⟩ := h
  exact z.elim
theorem shLz (ns : List Int) : SeqAt.shaped (.list (ns.map PyData.int)) = true := by
  have h1 := dep_ints ns
  unfold SeqAt.shaped
  rw [Bool.and_eq_true]
  refine ⟨?_, decide_eq_true ?_⟩
  · simp [PyData.canLay0, lay_ints]
  · simp [PyData.depth]
    omega
section
variable {K : PySem.W.Frag} {H : Hp} {a b : Addr} {ns ms : List Int}
theorem rz_eqL (ha : SqL K H a (ns.map V.int)) (hb : SqL K H b (ms.map V.int)) : RV (rEqD K) (.ref a) (.ref b) H (.bl (decide (ns = ms))) := fun H1 e Q q =>
  ⟨_, _, .lst (ex_l e ha) (dp_ints ns), .lst (ex_l e hb) (dp_ints ms), shLz ns, shLz ms, by rw [PyData.eqv, PySem.W.ked_eqvAll]; exact q H1 (Ex.refl _)⟩
theorem rz_neL (ha : SqL K H a (ns.map V.int)) (hb : SqL K H b (ms.map V.int)) : RV (rNeD K) (.ref a) (.ref b) H (.bl (!decide (ns = ms))) := fun H1 e Q q =>
  ⟨_, _, .lst (ex_l e ha) (dp_ints ns), .lst (ex_l e hb) (dp_ints ms), shLz ns, shLz ms, by rw [PyData.eqv, PySem.W.ked_eqvAll]; exact q H1 (Ex.refl _)⟩
end
/-- arguments some of which are new: what is known of the values -/
def EvQ (ta : TA) (σ : L2.St) (H : Hp) (P : List V → Hp → Prop) : Prop := ∀ H1, Ex H H1 → ∀ Q : List V → Hp → Prop, (∀ vs H2, Ex H1 H2 → P vs H2 → Q vs H2) → ta σ H1 Q
section
variable {σ : L2.St} {H : Hp} {te : TE} {ta tr : TA} {v : V} {xs : List V} {P P1 : List V → Hp → Prop}
theorem aq_nil : EvQ tNil σ H (fun ws _ => ws = []) := fun H1 _ Q q => q [] H1 (Ex.refl _) rfl
theorem aq_cons (h : Ev te σ H v) (hr : EvQ tr σ H P) : EvQ (tCons te tr) σ H (fun ws H => ∃ us, ws = v :: us ∧ P us H) := fun H1 e Q q =>
  h H1 e _ fun H2 e2 => hr H2 (e.trans e2) _ fun us H3 e3 p => q _ H3 (e2.trans e3) ⟨us, rfl, p⟩
theorem aq_consL (h : EvL te σ H xs) (hr : EvQ tr σ H P) : EvQ (tCons te tr) σ H (fun ws H1 => ∃ (p : Addr) (us : List V), ws = .ref p :: us ∧ H p = none ∧ H1 p = some (.lst xs) ∧ P us H1) := fun H1 e Q q =>
  h H1 e _ fun p H2 np e2 h2 => hr H2 (e.trans e2) _ fun us H3 e3 hp => q _ H3 (e2.trans e3) ⟨p, us, rfl, fresh_back e np, e3 _ _ h2, hp⟩
theorem aq_consU (h : EvU te σ H xs) (hr : EvQ tr σ H P) : EvQ (tCons te tr) σ H (fun ws H1 => ∃ (p : Addr) (us : List V), ws = .ref p :: us ∧ H p = none ∧ H1 p = some (.tup xs) ∧ P us H1) := fun H1 e Q q =>
  h H1 e _ fun p H2 np e2 h2 => hr H2 (e.trans e2) _ fun us H3 e3 hp => q _ H3 (e2.trans e3) ⟨p, us, rfl, fresh_back e np, e3 _ _ h2, hp⟩
/-- a list displayed, of items some of which are new, then something about it -/
theorem lq_lst {Q : VK} (h : EvQ ta σ H P) (hl : ∀ vs H1, P vs H1 → vs.length ≤ 1000) (k : ∀ vs p H1, P vs H1 → Ex H H1 → H1 p = none → Q (.ref p) (upd H1 p (.lst vs))) : tLst ta σ H Q :=
  h H (Ex.refl H) _ fun vs H1 e1 hp => ⟨sz_of (by have := hl vs H1 hp; omega), fun p np => k vs p H1 hp e1 np⟩
/-- return [..][e] -/
theorem s_retIx {K : PySem.W.Frag} {D : Ends} {tb : TE} (h : EvQ ta σ H P) (hl : ∀ vs H1, P vs H1 → vs.length ≤ 1000) (k : ∀ vs p H1, P vs H1 → Ex H H1 → H1 p = none → tb σ (upd H1 p (.lst vs)) fun y H2 => rIxL K (.ref p) y H2 (fun v H3 => D.rt v H3)) : tRet (tOp (rIxL K) (tLst ta) tb) D σ H :=
  lq_lst (Q := fun v H1 => tb σ H1 fun y H2 => rIxL K v y H2 (fun v H3 => D.rt v H3)) h hl k
/-- for x in [..], the items some of which are new -/
theorem q_forQ {K : PySem.W.Frag} {D : Ends} {tz tu : TS} {j : Nat} (h : EvQ ta σ H P) (hl : ∀ vs H1, P vs H1 → vs.length ≤ 1000) (Pv : List V → Addr → Nat → L2.St → Hp → Prop) (h0 : ∀ vs p H1, P vs H1 → Ex H H1 → H1 p = none → Pv vs p 0 σ (upd H1 p (.lst vs)))
    (hk : ∀ vs p i σ' H', i ≤ vs.length → Pv vs p i σ' H' → SqL K H' p vs) (hs : ∀ vs p i x σ' H', vs[i]? = some x → Pv vs p i σ' H' → tu { D with nx := Pv vs p (i + 1), ct := Pv vs p (i + 1), bk := tz D } (σ'.set j (some x)) H') (hd : ∀ vs p σ' H', Pv vs p vs.length σ' H' → tz D σ' H') :
    tSeq (tFor (iList K (tLst ta)) (gName j) tu) tz D σ H :=
  lq_lst (Q := fun v H1 => ∃ a, v = .ref a ∧ (∃ xs, SqL K H1 a xs) ∧ tFor (fun _ H R => R (Itl K a) H) (gName j) tu { D with nx := tz D } σ H1) h hl fun vs p H1 hp e1 np =>
    ⟨p, rfl, ⟨vs, sq_of upd_same⟩, for_list (xs := vs) (Pv vs p) (h0 vs p H1 hp e1 np) (hk vs p) (fun i x σ' H' hi q => hs vs p i x σ' H' hi q) (hd vs p)⟩
/-- a call in a try's body -/
theorem q_tryQ {D : Ends} {tz : TS} {t : TA} {sp : Sp} {fE : Ends → L2.St → XK} (h : EvQ t σ H P) (k : ∀ vs H1, P vs H1 → Ex H H1 → sp vs H1 (fun _ H2 => tz D σ H2) (fE { D with nx := tz D } σ)) : tSeq (fun D1 σ H1 => tDrop (tCallS sp (fE D1) t) D1 σ H1) tz D σ H :=
  h H (Ex.refl _) _ fun vs H1 e1 hp => k vs H1 hp e1
end
end My
set_option Elab.async false
set_option linter.all false
set_option maxRecDepth 100000
set_option maxHeartbeats 1000000
namespace My
open PySem L2 Evl
def topS (i : Nat) : Stmt := PySem.Challenge.pw_nearestword_k74_written_fields_and_words.main.body.getD i (.Pass ⟨0, 0, 0, 0⟩)
structure FTxt (mg : Str → Option Value) : Prop where
  z_len : mg "len" = none
  z_abs : mg "abs" = none
  z_int : mg "int" = none
  z_bool : mg "bool" = none
  z_max : mg "max" = none
  z_range : mg "range" = none
  z_list : mg "list" = none
  z_tuple : mg "tuple" = none
  z_isinstance : mg "isinstance" = none
  z_enumerate : mg "enumerate" = none
  z_zip : mg "zip" = none
  z_any : mg "any" = none
  z_reversed : mg "reversed" = none
  z_sorted : mg "sorted" = none
  z_all : mg "all" = none
  z_sum : mg "sum" = none
  z_min : mg "min" = none
  z_set : mg "set" = none
  c_LARGEST_PRIME : ∃ t, mg "LARGEST_PRIME" = some (.int 31 t)
  c_LARGEST_DEGREE : ∃ t, mg "LARGEST_DEGREE" = some (.int 8 t)
  c_LARGEST_ORDER : ∃ t, mg "LARGEST_ORDER" = some (.int 256 t)
local macro_rules | `(tactic| walk_at "ev") => `(tactic| repeat' (first
  | exact ev_c
  | exact ev_var rfl
  | exact ea_nil
  | exact eo_none
  | (refine' ev_cb ?ea (rc_len ?sq); (case ea => walk_at "evs"); (case sq => walk_at "sq"))
  | (refine' ev_op ?a ?b (rv_ixL ?sq ?ix); (case a => walk_at "evs"); (case b => walk_at "evs"); (case sq => walk_at "sq"); (case ix => walk_at "at"))
  | refine' ea_cons ?_ ?_
  | refine' eo_some ?_
  | refine' ev_op ?_ ?_ rv_I0
  | refine' ev_op ?_ ?_ (rv_eq ?_)
  | refine' ev_op ?_ ?_ (rv_ne ?_)
  | refine' ev_op ?_ ?_ (rv_I ?_)
  | refine' ev_un ?_ ru_neg
  | refine' ev_cb ?_ rc_int
  | refine' ev_cb ?_ rc_abs
  | refine' ev_cb ?_ rc_max2
  | refine' ev_andV ?_ ?_
  | refine' ev_notV ?_
  | refine' et_test ?_
  | refine' et_B ?_
  | refine' et_not ?_))
local macro_rules | `(tactic| walk_at "side") => `(tactic| first
  | rfl
  | decide
  | exact ⟨by decide, by decide⟩
  | exact .inr ⟨by decide, by decide⟩
  | exact .inl ⟨by decide, by decide⟩
  | omega
  | exact .inl ⟨by omega, by omega⟩
  | exact ⟨by omega, by omega⟩
  | exact .inr ⟨by omega, by omega⟩)
local macro_rules | `(tactic| walk_at "evs") => `(tactic| (walk_at "ev"; all_goals (walk_at "side")))
local macro_rules | `(tactic| walk_at "ex") => `(tactic| first
  | with_reducible exact Ex.refl _
  | with_reducible assumption
  | (refine' Ex.trans ?_ ?b; (case b => with_reducible assumption); walk_at "ex"))
local macro_rules | `(tactic| walk_at "sq") => `(tactic| first
  | (refine' sq_ex ?h ?e; (case h => with_reducible assumption); (case e => walk_at "ex"))
  | (refine' ex_l ?e ?h; (case h => with_reducible assumption); (case e => walk_at "ex"))
  | (refine' ex_l ?e ?h; (case h => assumption); (case e => walk_at "ex"))
  | assumption
  | exact sq_of (by assumption))
local macro_rules | `(tactic| walk_at "at") => `(tactic| first
  | exact at_int (by omega) (by omega)
  | exact atI_nat (j := 0) rfl
  | exact atI_nat (j := 1) rfl
  | exact atI_nat (j := 2) rfl)
local macro_rules | `(tactic| walk_at "side2") => `(tactic| first | exact CMul_bdl (by assumption) | exact CMul_bdr (by assumption) | walk_at "side")
local macro_rules | `(tactic| walk_at "evb") => `(tactic| (walk_at "ev"; all_goals (walk_at "side2")))

/-! ### powers -/
theorem rv_odd {n : Nat} {H : Hp} : RV (fun x y H Q => ∃ n : Nat, x = .int (n : Int) ∧ y = .int 1 ∧ Q (.int ((n % 2 : Nat) : Int)) H) (.int (n : Int)) (.int 1) H (.int ((n % 2 : Nat) : Int)) := fun H1 _ _ q => ⟨n, rfl, rfl, q H1 (Ex.refl H1)⟩
theorem rv_half {n : Nat} {H : Hp} : RV (fun x y H Q => ∃ n : Nat, x = .int (n : Int) ∧ y = .int 1 ∧ Q (.int ((n / 2 : Nat) : Int)) H) (.int (n : Int)) (.int 1) H (.int ((n / 2 : Nat) : Int)) := fun H1 _ _ q => ⟨n, rfl, rfl, q H1 (Ex.refl H1)⟩
theorem pow_size {b : Int} {r : Nat} (h : b.natAbs < 2 ^ r) (m : Nat) : (b ^ m).natAbs < 2 ^ (r * m + 1) := by
  rw [Int.natAbs_pow]
  have h1 : b.natAbs ^ m ≤ (2 ^ r) ^ m := Nat.pow_le_pow_left (Nat.le_of_lt h) m
  rw [← Nat.pow_mul] at h1
  have h2 : (2 : Nat) ^ (r * m) < 2 ^ (r * m + 1) := Nat.pow_lt_pow_right (by decide) (Nat.lt_succ_self _)
  omega
section
variable {P : Program} {w : World} {K : PySem.W.Frag} {mg : Str → Option Value} {base : Heap}
/-! int_power: 0 base, 1 exponent, 2 result -/
abbrev s_int_power : Stmt := topS 10
theorem sc_int_power : FnScope ["base", "exponent", "result"] ["base", "exponent"] (defScope s_int_power) := ⟨rfl, rfl, rfl, by decide +kernel, rfl, by decide +kernel, by decide +kernel⟩
def spPow : Sp := fun vs H Q _ => ∃ (b : Int) (e : Nat), vs = [.int b, .int (e : Int)] ∧ b.natAbs < 2 ^ 10 ∧ e ≤ 2000 ∧ RetV (.int (b ^ e)) H Q
theorem ok_pow {f : Addr} {fd : FuncData} (F : Fun K "int_power" "int_power" s_int_power f fd) : FnOk P w K mg base CX0 1 f fd ["base", "exponent"] spPow := by
  refine F.ok sc_int_power (fun vs H Q E h => ?_) (fun cdv A outer s H vs Q E hr h => ?_)
  · obtain ⟨_, _, rfl, _⟩ := h
    rfl
  obtain ⟨b, e, rfl, hb, he, k⟩ := h
  refine ⟨_, (pss_cons (ps_set (i := 2) sc_int_power.nd rfl (Or.inl rfl) pe_int)
    (pss_cons (ps_while PassesOwn.never (pt_cmpR op_gt (pv 1) pe_int (nomark _))
      (pss_cons (ps_if (pt_cmpR op_eq (pe_op op_odd (pv 1) pe_int) pe_int (nomark _))
        (pss_one (ps_set (i := 2) sc_int_power.nd rfl (Or.inl rfl) (pe_op op_mulW (pv 2) (pv 0))))
        pss_nil)
      (pss_cons (ps_set (i := 0) sc_int_power.nd rfl (Or.inl rfl) (pe_op op_mulW (pv 0) (pv 0)))
      (pss_one (ps_set (i := 1) sc_int_power.nd rfl (Or.inl rfl) (pe_op op_halfN (pv 1) pe_int))))))
    (pss_one (ps_ret (pv 2))))), ?_⟩
  refine q_asg ev_c fun H1 e1 => ?_
  refine q_while (fun n σ' H' => ∃ (x i j : Nat), n = x ∧ σ' = [some (.int (b ^ (2 ^ i))), some (.int (x : Int)), some (.int (b ^ j))] ∧ j + 2 ^ i * x = e ∧ Ex H H') e ⟨e, 0, 0, rfl, by rw [Int.pow_zero, Nat.pow_zero, Int.pow_one]; rfl, by rw [Nat.pow_zero, Nat.one_mul, Nat.zero_add], e1⟩ ?_
  rintro x σ' H' ⟨_, i, j, rfl, rfl, hj, ex⟩
  refine ⟨decide ((0 : Int) < (x : Int)), by walk_at "evs", fun hx H2 e2 => ?_, fun hx H2 e2 => ?_⟩
  · have hx0 : 0 < x := by have := of_decide_eq_true hx; omega
    have h2i : 2 ^ i ≤ e := by
      have : 2 ^ i * 1 ≤ 2 ^ i * x := Nat.mul_le_mul_left _ hx0
      omega
    have sz0 := pow_size hb (2 ^ i)
    have szj := pow_size hb j
    have hje : j ≤ e := by omega
    refine ⟨fun σ2 H2 => ∃ m', m' < x ∧ ∃ (x i j : Nat), m' = x ∧ σ2 = [some (.int (b ^ (2 ^ i))), some (.int (x : Int)), some (.int (b ^ j))] ∧ j + 2 ^ i * x = e ∧ Ex H H2, fun _ _ h => h, ?_⟩
    refine q_ifAsg (v := .int (if x % 2 = 1 then b ^ j * b ^ 2 ^ i else b ^ j)) (b := decide (x % 2 = 1)) (et_is (et_test (ev_op (ev_op (ev_var rfl) ev_c rv_odd) ev_c (rv_eq rfl))) ?_) (fun h => ?_) (fun h => ?_) fun H3 e3 => ?_
    · rw [dec_int]
      have := dec_nat (x % 2) 1
      exact this
    · rw [if_pos (of_decide_eq_true h)]
      exact ev_op (ev_var rfl) (ev_var rfl) (rv_I (wide_mul szj sz0 (Nat.succ_pos _) (Nat.succ_pos _) (by omega)))
    · rw [if_neg (of_decide_eq_false h)]
      rfl
    refine q_asg (ev_op (ev_var rfl) (ev_var rfl) (rv_I (wide_mul sz0 sz0 (Nat.succ_pos _) (Nat.succ_pos _) (by omega)))) fun H4 e4 => ?_
    refine s_asg (ev_op (ev_var rfl) ev_c rv_half) fun H5 e5 => ?_
    have hsq : b ^ 2 ^ i * b ^ 2 ^ i = b ^ 2 ^ (i + 1) := by rw [← Int.pow_add, Nat.pow_succ]; congr 1; omega
    have e25 : Ex H H5 := ((((ex.trans e2).trans e3).trans e4).trans e5)
    rcases Nat.mod_two_eq_zero_or_one x with hm | hm
    · refine ⟨x / 2, by omega, x / 2, i + 1, j, rfl, ?_, ?_, e25⟩
      · rw [if_neg (by omega), hsq]
        rfl
      · have : 2 ^ (i + 1) * (x / 2) = 2 ^ i * x := by
          rw [Nat.pow_succ, Nat.mul_assoc]
          congr 1
          omega
        omega
    · refine ⟨x / 2, by omega, x / 2, i + 1, j + 2 ^ i, rfl, ?_, ?_, e25⟩
      · rw [if_pos hm, hsq, ← Int.pow_add]
        rfl
      · have : 2 ^ (i + 1) * (x / 2) + 2 ^ i = 2 ^ i * x := by
          rw [Nat.pow_succ, Nat.mul_assoc]
          have h3 : 2 ^ i * x = 2 ^ i * (2 * (x / 2) + 1) := by congr 1; omega
          rw [h3, Nat.mul_add, Nat.mul_one]
        omega
  · have hx0 : x = 0 := by have := of_decide_eq_false hx; omega
    subst hx0
    have hje : j = e := by omega
    subst hje
    exact s_ret (ev_var rfl) fun H3 e3 => k H3 ((ex.trans e2).trans e3)
end
end My
set_option Elab.async false
set_option linter.all false
set_option maxRecDepth 100000
set_option maxHeartbeats 1000000
namespace My
open PySem L2 Evl
local macro_rules | `(tactic| walk_at "ev") => `(tactic| repeat' (first
  | exact ev_c
  | exact ev_var rfl
  | exact ea_nil
  | exact eo_none
  | (refine' ev_cb ?ea (rc_len ?sq); (case ea => walk_at "evs"); (case sq => walk_at "sq"))
  | (refine' ev_op ?a ?b (rv_ixL ?sq ?ix); (case a => walk_at "evs"); (case b => walk_at "evs"); (case sq => walk_at "sq"); (case ix => walk_at "at"))
  | refine' ea_cons ?_ ?_
  | refine' eo_some ?_
  | refine' ev_op ?_ ?_ rv_I0
  | refine' ev_op ?_ ?_ (rv_eq ?_)
  | refine' ev_op ?_ ?_ (rv_ne ?_)
  | refine' ev_op ?_ ?_ (rv_I ?_)
  | refine' ev_un ?_ ru_neg
  | refine' ev_cb ?_ rc_int
  | refine' ev_cb ?_ rc_abs
  | refine' ev_cb ?_ rc_max2
  | refine' ev_andV ?_ ?_
  | refine' ev_notV ?_
  | refine' et_test ?_
  | refine' et_B ?_
  | refine' et_not ?_))
local macro_rules | `(tactic| walk_at "side") => `(tactic| first
  | rfl
  | decide
  | exact ⟨by decide, by decide⟩
  | exact .inr ⟨by decide, by decide⟩
  | exact .inl ⟨by decide, by decide⟩
  | omega
  | exact .inl ⟨by omega, by omega⟩
  | exact ⟨by omega, by omega⟩
  | exact .inr ⟨by omega, by omega⟩)
local macro_rules | `(tactic| walk_at "evs") => `(tactic| (walk_at "ev"; all_goals (walk_at "side")))
local macro_rules | `(tactic| walk_at "ex") => `(tactic| first
  | with_reducible exact Ex.refl _
  | with_reducible assumption
  | (refine' Ex.trans ?_ ?b; (case b => with_reducible assumption); walk_at "ex"))
local macro_rules | `(tactic| walk_at "sq") => `(tactic| first
  | (refine' sq_ex ?h ?e; (case h => with_reducible assumption); (case e => walk_at "ex"))
  | (refine' ex_l ?e ?h; (case h => with_reducible assumption); (case e => walk_at "ex"))
  | (refine' ex_l ?e ?h; (case h => assumption); (case e => walk_at "ex"))
  | assumption
  | exact sq_of (by assumption))
local macro_rules | `(tactic| walk_at "at") => `(tactic| first
  | exact at_int (by omega) (by omega)
  | exact atI_nat (j := 0) rfl
  | exact atI_nat (j := 1) rfl
  | exact atI_nat (j := 2) rfl)
local macro_rules | `(tactic| walk_at "side2") => `(tactic| first | exact CMul_bdl (by assumption) | exact CMul_bdr (by assumption) | walk_at "side")
local macro_rules | `(tactic| walk_at "evb") => `(tactic| (walk_at "ev"; all_goals (walk_at "side2")))

def PrimeP (n : Int) : Prop := 2 ≤ n ∧ ∀ c : Int, 2 ≤ c → c * c ≤ n → n % c ≠ 0
/-- the lowest m digits -/
def digs (b : Int) : Nat → Int → List Int
  | 0, _ => []
  | m + 1, n => n % b :: digs b m (n / b)
theorem digs_len (b : Int) : ∀ (m : Nat) (n : Int), (digs b m n).length = m
  | 0, _ => rfl
  | m + 1, n => congrArg (· + 1) (digs_len b m (n / b))
def restOf (b : Int) : Nat → Int → Int
  | 0, n => n
  | m + 1, n => restOf b m (n / b)
theorem restOf_succ (b : Int) : ∀ (m : Nat) (n : Int), restOf b (m + 1) n = restOf b m n / b
  | 0, _ => rfl
  | m + 1, n => restOf_succ b m (n / b)
theorem digs_snoc (b : Int) : ∀ (m : Nat) (n : Int), digs b (m + 1) n = digs b m n ++ [restOf b m n % b]
  | 0, _ => rfl
  | m + 1, n => by
    show n % b :: digs b (m + 1) (n / b) = (n % b :: digs b m (n / b)) ++ [restOf b m (n / b) % b]
    rw [digs_snoc b m (n / b)]
    rfl
def numOf (b : Int) (ds : List Int) : Int := ds.foldr (fun d acc => acc * b + d) 0
section
variable {P : Program} {w : World} {K : PySem.W.Frag} {mg : Str → Option Value} {base : Heap}
/-! is_prime: 0 n, 1 divisor -/
abbrev s_is_prime : Stmt := topS 11
theorem sc_is_prime : FnScope ["n", "divisor"] ["n"] (defScope s_is_prime) := ⟨rfl, rfl, rfl, by decide +kernel, rfl, by decide +kernel, by decide +kernel⟩
def spPrime : Sp := fun vs H Q _ => ∃ (n : Int), vs = [.int n] ∧ n ≤ 1000000 ∧ ∀ b : Bool, (b = true ↔ PrimeP n) → RetV (.bl b) H Q
theorem ok_prime {f : Addr} {fd : FuncData} (F : Fun K "is_prime" "is_prime" s_is_prime f fd) : FnOk P w K mg base CX0 1 f fd ["n"] spPrime := by
  refine F.ok sc_is_prime (fun vs H Q E h => ?_) (fun cdv A outer s H vs Q E hr h => ?_)
  · obtain ⟨_, rfl, _⟩ := h
    rfl
  obtain ⟨n, rfl, hn, k⟩ := h
  refine ⟨_, (pss_cons (ps_if (pt_cmpR op_lt (pv 0) pe_int (nomark _))
      (pss_one (ps_ret pe_bl))
      pss_nil)
    (pss_cons (ps_set (i := 1) sc_is_prime.nd rfl (Or.inl rfl) pe_int)
    (pss_cons (ps_while PassesOwn.never (pt_cmpR op_le (pe_op op_mul (pv 1) (pv 1)) (pv 0) (nomark _))
      (pss_cons (ps_if (pt_cmpR op_eq (pe_op op_mod (pv 0) (pv 1)) pe_int (nomark _))
        (pss_one (ps_ret pe_bl))
        pss_nil)
      (pss_one (ps_aug (i := 1) sc_is_prime.nd rfl (Or.inl rfl) pe_int ip_add))))
    (pss_one (ps_ret pe_bl))))), ?_⟩
  refine q_when (b := decide (n < 2)) (et_is (by walk_at "evs") rfl) (fun hb H1 e1 => ?_) (fun hb H1 e1 => ?_)
  · refine s_ret ev_c fun H2 e2 => k false ⟨fun q => Bool.noConfusion q, fun q => ?_⟩ H2 (e1.trans e2)
    have := of_decide_eq_true hb
    have := q.1
    omega
  have h2 : 2 ≤ n := by have := of_decide_eq_false hb; omega
  refine q_asg ev_c fun H2 e2 => ?_
  refine q_while (fun m σ' H' => ∃ d : Int, σ' = [some (.int n), some (.int d)] ∧ m = (n + 1 - d).toNat ∧ 2 ≤ d ∧ d ≤ n + 1 ∧ (∀ c : Int, 2 ≤ c → c < d → n % c ≠ 0) ∧ Ex H H') (n + 1 - 2).toNat ⟨2, rfl, rfl, by decide, by omega, fun c h1 h2 => by omega, e1.trans e2⟩ ?_
  rintro m σ' H' ⟨d, rfl, rfl, d2, dn, hall, ex⟩
  refine ⟨decide (d * d ≤ n), by walk_at "evs", fun hd H3 e3 => ?_, fun hd H3 e3 => ?_⟩
  · have hdd := of_decide_eq_true hd
    have dle : d ≤ n := by
      have : 2 * d ≤ d * d := Int.mul_le_mul_of_nonneg_right d2 (by omega)
      omega
    refine ⟨fun σ2 H2 => ∃ m', m' < (n + 1 - d).toNat ∧ ∃ d : Int, σ2 = [some (.int n), some (.int d)] ∧ m' = (n + 1 - d).toNat ∧ 2 ≤ d ∧ d ≤ n + 1 ∧ (∀ c : Int, 2 ≤ c → c < d → n % c ≠ 0) ∧ Ex H H2, fun _ _ h => h, ?_⟩
    refine q_when (b := decide (n % d = 0)) (et_is (by walk_at "evs") (dec_int _ _)) (fun hb H4 e4 => ?_) (fun hb H4 e4 => ?_)
    · refine s_ret ev_c fun H5 e5 => k false ⟨fun q => Bool.noConfusion q, fun q => ?_⟩ H5 (((ex.trans e3).trans e4).trans e5)
      exact absurd (of_decide_eq_true hb) (q.2 d d2 hdd)
    · refine s_aug rfl ev_c fun H5 e5 => ?_
      refine ⟨(n + 1 - (d + 1)).toNat, by omega, d + 1, rfl, rfl, by omega, by omega, fun c h1 h2 => ?_, ((ex.trans e3).trans e4).trans e5⟩
      by_cases hc : c = d
      · rw [hc]
        exact of_decide_eq_false hb
      · exact hall c h1 (by omega)
  · have hdd := of_decide_eq_false hd
    refine s_ret ev_c fun H4 e4 => k true ⟨fun _ => ⟨h2, fun c h1 h3 => hall c h1 ?_⟩, fun _ => rfl⟩ H4 ((ex.trans e3).trans e4)
    by_cases hc : c < d
    · exact hc
    · exfalso
      have : d * d ≤ c * c := Int.mul_le_mul (by omega) (by omega) (by omega) (by omega)
      omega
/-! _digits_of: 0 number, 1 base, 2 many, 3 digits, 4 _ -/
abbrev s_digits_of : Stmt := topS 12
theorem sc_digits_of : FnScope ["number", "base", "many", "digits", "_"] ["number", "base", "many"] (defScope s_digits_of) := ⟨rfl, rfl, rfl, by decide +kernel, rfl, by decide +kernel, by decide +kernel⟩
def spDigs : Sp := fun vs H Q _ => ∃ (n b : Int) (m : Nat), vs = [.int n, .int b, .int (m : Int)] ∧ 0 < b ∧ b ≤ 1000 ∧ m ≤ 1000 ∧ RetL ((digs b m n).map V.int) H Q
theorem ok_digs {f : Addr} {fd : FuncData} (F : Fun K "_digits_of" "_digits_of" s_digits_of f fd) (T : FTxt mg) : FnOk P w K mg base CX0 1 f fd ["number", "base", "many"] spDigs := by
  refine F.ok sc_digits_of (fun vs H Q E h => ?_) (fun cdv A outer s H vs Q E hr h => ?_)
  · obtain ⟨_, _, _, rfl, _⟩ := h
    rfl
  obtain ⟨n, b, m, rfl, b0, b1, hm, k⟩ := h
  refine ⟨_, (pss_cons (ps_set (i := 3) sc_digits_of.nd rfl (Or.inl rfl) (pe_lst pa_nil))
    (pss_cons (ps_for PassesOwn.never rfl (pi_range1 (by rfl) T.z_range (pa_cons (pv 2) pa_nil)) (pg_name (i := 4) sc_digits_of.nd rfl (Or.inl rfl))
      (pss_cons (ps_expr (pe_bm PySem.F.plainAttrs_list PySem.F.slot_list_append PySem.F.type_list_append mt_append (pv 3) (pa_cons (pe_op op_mod (pv 0) (pv 1)) pa_nil)))
      (pss_one (ps_set (i := 0) sc_digits_of.nd rfl (Or.inl rfl) (pe_op op_fdiv (pv 0) (pv 1))))))
    (pss_one (ps_ret (pv 3))))), ?_⟩
  refine q_asgL (el_lst ea_nil (by decide)) fun p H1 np e1 h1 => ?_
  refine q_forR1 (n := (m : Int)) (by walk_at "ev") (by omega) (fun i σ' H' => ∃ y, σ' = [some (.int (restOf b i n)), some (.int b), some (.int (m : Int)), some (.ref p), y] ∧ Ex H H' ∧ H' p = some (.lst ((digs b i n).map V.int))) ?_ ?_ ?_
  · intro H2 e2
    exact ⟨none, rfl, e1.trans e2, e2 _ _ h1⟩
  · rintro i σ' H' hi ⟨y, rfl, ex, hp⟩
    refine q_app hp (by walk_at "ev") (by walk_at "evs") (by rw [List.length_map, digs_len]; omega) fun H2 e2 => ?_
    refine s_asg (by walk_at "evs") fun H3 e3 => ?_
    refine ⟨_, by rw [restOf_succ]; rfl, (Ex.mut (ex.trans e2) np).trans e3, e3 _ _ ?_⟩
    rw [upd_same, digs_snoc, map_snoc]
  · rintro σ' H' ⟨y, rfl, ex, hp⟩
    exact s_ret (ev_var rfl) fun H2 e2 => k p H2 np (ex.trans e2) (e2 _ _ hp)
/-! _number_of: 0 digits, 1 base, 2 number, 3 digit -/
abbrev s_number_of : Stmt := topS 13
theorem sc_number_of : FnScope ["digits", "base", "number", "digit"] ["digits", "base"] (defScope s_number_of) := ⟨rfl, rfl, rfl, by decide +kernel, rfl, by decide +kernel, by decide +kernel⟩
def spNum (K : PySem.W.Frag) : Sp := fun vs H Q _ => ∃ (a : Addr) (ds : List Int) (b : Int), vs = [.ref a, .int b] ∧ SqL K H a (ds.map V.int) ∧ 0 ≤ b ∧ b ≤ 1000 ∧ RetV (.int (numOf b ds)) H Q
theorem ok_num {f : Addr} {fd : FuncData} (F : Fun K "_number_of" "_number_of" s_number_of f fd) (T : FTxt mg) : FnOk P w K mg base CX0 1 f fd ["digits", "base"] (spNum K) := by
  refine F.ok sc_number_of (fun vs H Q E h => ?_) (fun cdv A outer s H vs Q E hr h => ?_)
  · obtain ⟨_, _, _, rfl, _⟩ := h
    rfl
  obtain ⟨a, ds, b, rfl, hS, b0, b1, k⟩ := h
  refine ⟨_, (pss_cons (ps_set (i := 2) sc_number_of.nd rfl (Or.inl rfl) pe_int)
    (pss_cons (ps_for PassesOwn.never rfl (pi_reversed (by rfl) T.z_reversed (pa_cons (pv 0) pa_nil)) (pg_name (i := 3) sc_number_of.nd rfl (Or.inl rfl))
      (pss_one (ps_set (i := 2) sc_number_of.nd rfl (Or.inl rfl) (pe_op op_add (pe_op op_mul (pv 2) (pv 1)) (pv 3)))))
    (pss_one (ps_ret (pv 2))))), ?_⟩
  refine q_asg ev_c fun H1 e1 => ?_
  refine ⟨_, rfl, a, _, rfl, ex_l e1 hS, for_it walk_rev (fun i σ' H' => ∃ y, σ' = [some (.ref a), some (.int b), some (.int (numOf b (ds.drop (ds.length - i)))), y] ∧ Ex H H') ⟨none, ?_, e1⟩ ?_ ?_ ?_⟩
  · rw [Nat.sub_zero, List.drop_length]
    rfl
  · rintro i σ' H' _ ⟨_, _, ex⟩
    exact ex_l ex hS
  · rintro i x σ' H' H'' hi ⟨y, rfl, ex⟩ ⟨rfl, hx⟩
    rw [List.length_map] at hi hx
    have hj : ds.length - 1 - i < ds.length := by omega
    have ex2 : x = .int ds[ds.length - 1 - i] := Option.some.inj (hx.symm.trans (by rw [List.getElem?_map, List.getElem?_eq_getElem hj]; rfl))
    subst ex2
    refine s_asg (by walk_at "evs") fun H2 e2 => ?_
    refine ⟨some (.int ds[ds.length - 1 - i]), ?_, ex.trans e2⟩
    have hd : ds.drop (ds.length - (i + 1)) = ds[ds.length - 1 - i] :: ds.drop (ds.length - i) := by
      have e1 : ds.length - (i + 1) = ds.length - 1 - i := by omega
      have e2 : ds.length - i = ds.length - 1 - i + 1 := by omega
      rw [e1, e2]
      exact List.drop_eq_getElem_cons hj
    rw [hd]
    rfl
  · rintro σ' H' ⟨y, rfl, ex⟩
    have : ds.drop (ds.length - (ds.map V.int).length) = ds := by rw [List.length_map, Nat.sub_self, List.drop_zero]
    rw [this]
    exact s_ret (ev_var rfl) fun H2 e2 => k H2 (ex.trans e2)
end
end My
set_option Elab.async false
set_option linter.all false
set_option maxRecDepth 100000
set_option maxHeartbeats 1000000
namespace My
open PySem L2 Evl
local macro_rules | `(tactic| walk_at "ev") => `(tactic| repeat' (first
  | exact ev_c
  | exact ev_var rfl
  | exact ea_nil
  | exact eo_none
  | (refine' ev_cb ?ea (rc_len ?sq); (case ea => walk_at "evs"); (case sq => walk_at "sq"))
  | (refine' ev_op ?a ?b (rv_ixL ?sq ?ix); (case a => walk_at "evs"); (case b => walk_at "evs"); (case sq => walk_at "sq"); (case ix => walk_at "at"))
  | refine' ea_cons ?_ ?_
  | refine' eo_some ?_
  | refine' ev_op ?_ ?_ rv_I0
  | refine' ev_op ?_ ?_ (rv_eq ?_)
  | refine' ev_op ?_ ?_ (rv_ne ?_)
  | refine' ev_op ?_ ?_ (rv_I ?_)
  | refine' ev_un ?_ ru_neg
  | refine' ev_cb ?_ rc_int
  | refine' ev_cb ?_ rc_abs
  | refine' ev_cb ?_ rc_max2
  | refine' ev_andV ?_ ?_
  | refine' ev_notV ?_
  | refine' et_test ?_
  | refine' et_B ?_
  | refine' et_not ?_))
local macro_rules | `(tactic| walk_at "side") => `(tactic| first
  | rfl
  | decide
  | exact ⟨by decide, by decide⟩
  | exact .inr ⟨by decide, by decide⟩
  | exact .inl ⟨by decide, by decide⟩
  | omega
  | exact .inl ⟨by omega, by omega⟩
  | exact ⟨by omega, by omega⟩
  | exact .inr ⟨by omega, by omega⟩)
local macro_rules | `(tactic| walk_at "evs") => `(tactic| (walk_at "ev"; all_goals (walk_at "side")))
local macro_rules | `(tactic| walk_at "ex") => `(tactic| first
  | with_reducible exact Ex.refl _
  | with_reducible assumption
  | (refine' Ex.trans ?_ ?b; (case b => with_reducible assumption); walk_at "ex"))
local macro_rules | `(tactic| walk_at "sq") => `(tactic| first
  | (refine' sq_ex ?h ?e; (case h => with_reducible assumption); (case e => walk_at "ex"))
  | (refine' ex_l ?e ?h; (case h => with_reducible assumption); (case e => walk_at "ex"))
  | (refine' ex_l ?e ?h; (case h => assumption); (case e => walk_at "ex"))
  | assumption
  | exact sq_of (by assumption))
local macro_rules | `(tactic| walk_at "at") => `(tactic| first
  | exact at_int (by omega) (by omega)
  | exact atI_nat (j := 0) rfl
  | exact atI_nat (j := 1) rfl
  | exact atI_nat (j := 2) rfl)
local macro_rules | `(tactic| walk_at "side2") => `(tactic| first | exact CMul_bdl (by assumption) | exact CMul_bdr (by assumption) | walk_at "side")
local macro_rules | `(tactic| walk_at "evb") => `(tactic| (walk_at "ev"; all_goals (walk_at "side2")))

def subSteps (p : Int) (ds : List Int) (lead : Int) (start : Nat) : Nat → List Int → List Int
  | 0, r => r
  | n + 1, r => (subSteps p ds lead start n r).set (start + n) (((subSteps p ds lead start n r).getD (start + n) 0 - lead * ds.getD n 0) % p)
theorem subSteps_len (p : Int) (ds : List Int) (lead : Int) (start : Nat) : ∀ (n : Nat) (r : List Int), (subSteps p ds lead start n r).length = r.length
  | 0, _ => rfl
  | n + 1, r => by
    show ((subSteps p ds lead start n r).set _ _).length = _
    rw [List.length_set, subSteps_len p ds lead start n r]
def divStep (p : Int) (ds : List Int) (below : Nat) (r : List Int) : List Int := subSteps p ds (r.getD (r.length - 1) 0) (r.length - 1 - below) below r.dropLast
def divLoop (p : Int) (ds : List Int) (below : Nat) : Nat → List Int → List Int
  | 0, r => r
  | f + 1, r => divLoop p ds below f (divStep p ds below r)
/-- the rest of a division by a monic divisor, as the program makes it -/
def divRest (p : Int) (ds m : List Int) : List Int := divLoop p ds (ds.length - 1) (m.length - (ds.length - 1)) m
theorem divStep_len {p : Int} {ds : List Int} {below : Nat} {r : List Int} : (divStep p ds below r).length = r.length - 1 := by
  unfold divStep
  rw [subSteps_len, List.length_dropLast]
section
variable {K : PySem.W.Frag} {σ : L2.St} {H : Hp} {D : Ends} {tz : TS} {ta tb te : TE}
theorem q_asgPop {l : Addr} {xs : List V} {y : V} {i j : Nat} (hl : H l = some (.lst xs)) (hy : xs[xs.length - 1]? = some y) (hv : σ[j]? = some (some (.ref l)))
    (k : tz D (σ.set i (some y)) (upd H l (.lst xs.dropLast))) : tSeq (tAsg (tBM0 K "list" rPop (tVar j)) (gName i)) tz D σ H :=
  ⟨_, hv, .inl ⟨rfl, _, sq_of hl⟩, l, xs, y, rfl, rfl, hl, hy, k⟩
theorem el_listT {p : Addr} {xs : List V} (ha : Ev ta σ H (.ref p)) (h : SqT K H p xs) : EvL (tCB (rListS K) (tCons ta tNil)) σ H xs := fun H1 e Q q =>
  ha H1 e _ fun H2 e2 => ⟨p, xs, rfl, .inr (ex_t (e.trans e2) h), fun l hl => q l _ (fresh_back e2 hl) (e2.trans (Ex.new hl)) upd_same⟩
theorem rc_lenT {a : Addr} {xs : List V} (h : SqT K H a xs) : RC (fun xs H Q => ∃ p ys, xs = [.ref p] ∧ (SqL K H p ys ∨ SqT K H p ys) ∧ Q (.int ys.length) H) [.ref a] H (.int xs.length) :=
  fun H1 e _ q => ⟨a, xs, rfl, .inr (ex_t e h), q H1 (Ex.refl H1)⟩
theorem rc_anyI {a : Addr} {ns : List Int} (h : SqL K H a (ns.map V.int)) : RC (MyG.rAnyI K) [.ref a] H (.bl (ns.any fun n => n != 0)) := fun H1 e _ q => ⟨a, ns, rfl, ex_l e h, q H1 (Ex.refl H1)⟩
end
theorem map_set {ns : List Int} {j : Nat} {z : Int} : (ns.map V.int).set j (.int z) = (ns.set j z).map V.int := by rw [List.map_set]
section
variable {P : Program} {w : World} {K : PySem.W.Frag} {mg : Str → Option Value} {base : Heap}
/-! _divides: 0 prime, 1 divisor, 2 poly, 3 rest, 4 below, 5 lead, 6 start, 7 at -/
abbrev s_divides : Stmt := topS 14
theorem sc_divides : FnScope ["prime", "divisor", "poly", "rest", "below", "lead", "start", "at"] ["prime", "divisor", "poly"] (defScope s_divides) := ⟨rfl, rfl, rfl, by decide +kernel, rfl, by decide +kernel, by decide +kernel⟩
def spDiv (K : PySem.W.Frag) : Sp := fun vs H Q _ => ∃ (p : Int) (a c : Addr) (ds m : List Int), vs = [.int p, .ref a, .ref c] ∧ 0 < p ∧ SqL K H a (ds.map V.int) ∧ SqT K H c (m.map V.int) ∧ (∀ j, (ds.getD j 0).natAbs < 2 ^ 30) ∧ 1 ≤ ds.length ∧ ds.length ≤ 100 ∧ m.length ≤ 100 ∧
  RetV (.bl (!((divRest p ds m).any fun n => n != 0))) H Q
theorem ok_div {f : Addr} {fd : FuncData} (F : Fun K "_divides" "_divides" s_divides f fd) (T : FTxt mg) : FnOk P w K mg base CX0 1 f fd ["prime", "divisor", "poly"] (spDiv K) := by
  refine F.ok sc_divides (fun vs H Q E h => ?_) (fun cdv A outer s H vs Q E hr h => ?_)
  · obtain ⟨_, _, _, _, _, rfl, _⟩ := h
    rfl
  obtain ⟨p, a, c, ds, m, rfl, p0, hA, hC, hb, d1, d2, hm, k⟩ := h
  refine ⟨_, (pss_cons (ps_set (i := 3) sc_divides.nd rfl (Or.inl rfl) (pe_callTy call_list_of (by rfl) T.z_list (by decide +kernel) (pa_cons (pv 2) pa_nil)))
    (pss_cons (ps_set (i := 4) sc_divides.nd rfl (Or.inl rfl) (pe_op op_sub (pe_callB call_len_seq (by rfl) T.z_len PySem.boot_len (pa_cons (pv 1) pa_nil)) pe_int))
    (pss_cons (ps_while PassesOwn.never (pt_cmpR op_gt (pe_callB call_len_seq (by rfl) T.z_len PySem.boot_len (pa_cons (pv 3) pa_nil)) (pv 4) (nomark _))
      (pss_cons (ps_set (i := 5) sc_divides.nd rfl (Or.inl rfl) (pe_bm0 PySem.F.plainAttrs_list PySem.F.slot_list_pop PySem.F.type_list_pop mt_pop (pv 3)))
      (pss_cons (ps_set (i := 6) sc_divides.nd rfl (Or.inl rfl) (pe_op op_sub (pe_callB call_len_seq (by rfl) T.z_len PySem.boot_len (pa_cons (pv 3) pa_nil)) (pv 4)))
      (pss_one (ps_for PassesOwn.never rfl (pi_range1 (by rfl) T.z_range (pa_cons (pv 4) pa_nil)) (pg_name (i := 7) sc_divides.nd rfl (Or.inl rfl))
        (pss_one (ps_asg (pe_op op_mod (pe_op op_sub (pe_ix ix_list (pv 3) (pe_op op_add (pv 6) (pv 7)) (fun _ _ => rfl)) (pe_op op_mul (pv 5) (pe_ix ix_list (pv 1) (pv 7) (fun _ _ => rfl)))) (pv 0)) (pg_sub (pv 3) (pe_op op_add (pv 6) (pv 7)) set_list))))))))
    (pss_one (ps_ret (pe_not (pe_callB (MyG.cr_anyI rfl) (by rfl) T.z_any (by decide +kernel) (pa_cons (pv 3) pa_nil)))))))), ?_⟩
  refine q_asgL (el_listT (ev_var rfl) hC) fun l H1 nl e1 h1 => ?_
  refine q_asg (v := .int ((ds.length - 1 : Nat) : Int)) (ev_is (ev_op (ev_cb (ea_cons (ev_var rfl) ea_nil) (rc_len (ex_l e1 hA))) ev_c rv_I0) (by rw [List.length_map]; congr 1; omega)) fun H2 e2 => ?_
  generalize hbw : ds.length - 1 = below
  have e02 : Ex H H2 := e1.trans e2
  refine q_while (fun n σ' H' => ∃ (r : List Int) (y5 y6 y7 : Option V), σ' = [some (.int p), some (.ref a), some (.ref c), some (.ref l), some (.int (below : Int)), y5, y6, y7] ∧ n = r.length ∧ r.length ≤ 100 ∧ Ex H H' ∧ H' l = some (.lst (r.map V.int)) ∧ divLoop p ds below (r.length - below) r = divRest p ds m) m.length ⟨m, none, none, none, rfl, rfl, hm, e02, e2 _ _ h1, by unfold divRest; rw [hbw]⟩ ?_
  rintro n σ' H' ⟨r, y5, y6, y7, rfl, rfl, hr1, ex, hl, hdr⟩
  refine ⟨decide ((below : Int) < ((r.map V.int).length : Int)), et_test (ev_op (ev_cb (ea_cons (ev_var rfl) ea_nil) (rc_len (sq_of hl))) (ev_var rfl) rv_I0), fun hx H3 e3 => ?_, fun hx H3 e3 => ?_⟩
  · have hx' := of_decide_eq_true hx
    rw [List.length_map] at hx'
    have hlt : below < r.length := by omega
    have hi : r.length - 1 < r.length := by omega
    refine ⟨fun σ2 H2 => ∃ m', m' < r.length ∧ ∃ (r : List Int) (y5 y6 y7 : Option V), σ2 = [some (.int p), some (.ref a), some (.ref c), some (.ref l), some (.int (below : Int)), y5, y6, y7] ∧ m' = r.length ∧ r.length ≤ 100 ∧ Ex H H2 ∧ H2 l = some (.lst (r.map V.int)) ∧ divLoop p ds below (r.length - below) r = divRest p ds m, fun _ _ h => h, ?_⟩
    refine q_asgPop (e3 _ _ hl) (y := .int (r.getD (r.length - 1) 0)) (by rw [List.length_map, List.getElem?_map, List.getElem?_eq_getElem hi, List.getD_eq_getElem?_getD, List.getElem?_eq_getElem hi]; rfl) rfl ?_
    have e4 : Ex H (upd H3 l (.lst (r.map V.int).dropLast)) := Ex.mut (ex.trans e3) nl
    have h4 : upd H3 l (.lst (r.map V.int).dropLast) l = some (.lst (r.dropLast.map V.int)) := by rw [upd_same, List.map_dropLast]
    generalize upd H3 l (.lst (r.map V.int).dropLast) = H4 at e4 h4
    generalize hld : r.getD (r.length - 1) 0 = lead
    refine q_asg (v := .int ((r.length - 1 - below : Nat) : Int)) (ev_is (ev_op (ev_cb (ea_cons (ev_var rfl) ea_nil) (rc_len (sq_of h4))) (ev_var rfl) rv_I0) (by rw [List.length_map, List.length_dropLast]; congr 1; omega)) fun H5 e5 => ?_
    generalize hst : r.length - 1 - below = start
    refine s_forR1 (n := (below : Int)) (by walk_at "ev") (by omega) (fun i σ' H' => ∃ y7, σ' = [some (.int p), some (.ref a), some (.ref c), some (.ref l), some (.int (below : Int)), some (.int lead), some (.int (start : Int)), y7] ∧ Ex H H' ∧ H' l = some (.lst ((subSteps p ds lead start i r.dropLast).map V.int))) ?_ ?_ ?_
    · intro H6 e6
      exact ⟨_, rfl, (e4.trans e5).trans e6, e6 _ _ (e5 _ _ h4)⟩
    · rintro i σ' H' hi ⟨y7, rfl, ex, hl⟩
      have hlen : (subSteps p ds lead start i r.dropLast).length = r.length - 1 := by rw [subSteps_len, List.length_dropLast]
      have hsi : start + i < (subSteps p ds lead start i r.dropLast).length := by rw [hlen]; omega
      have hdi : i < ds.length := by omega
      refine s_setL (j := start + i) hl (ev_op (ev_op (ev_op (ev_var rfl) (ev_op (ev_var rfl) (ev_var rfl) rv_I0) (rv_ixL (sq_of hl) (at_int (by omega) (by omega)))) (ev_op (ev_var rfl) (ev_op (ev_var rfl) (ev_var rfl) (rv_ixL (ex_l ex hA) (at_intN hdi))) (rv_I ?_)) rv_I0) (ev_var rfl) (rv_I p0)) (ev_var rfl) (ev_is (ev_op (ev_var rfl) (ev_var rfl) rv_I0) (by congr 1)) (by rw [List.length_map]; exact hsi) fun H6 e6 => ?_
      · have := hb i
        exact .inr ⟨by omega, by omega⟩
      refine ⟨_, rfl, Ex.mut (ex.trans e6) nl, ?_⟩
      rw [upd_same, map_set, show ((start : Int) + (i : Int)).toNat = start + i by omega]
      rfl
    · rintro σ' H' ⟨y7, rfl, ex, hl⟩
      have hstep : subSteps p ds lead start (below : Int).toNat r.dropLast = divStep p ds below r := by
        unfold divStep
        rw [hld, hst]
        rfl
      rw [hstep] at hl
      refine ⟨r.length - 1, by omega, divStep p ds below r, _, _, _, rfl, divStep_len.symm, by rw [divStep_len]; omega, ex, hl, ?_⟩
      rw [← hdr, divStep_len, show r.length - below = (r.length - 1 - below) + 1 by omega]
      rfl
  · have hx' := of_decide_eq_false hx
    rw [List.length_map] at hx'
    have h0 : r.length - below = 0 := by omega
    rw [h0] at hdr
    have hrr : r = divRest p ds m := hdr
    refine s_ret (ev_notV (ev_cb (ea_cons (ev_var rfl) ea_nil) (rc_anyI (sq_of (e3 _ _ hl))))) fun H4 e4 => ?_
    rw [hrr]
    exact k H4 ((ex.trans e3).trans e4)
end
end My
set_option Elab.async false
set_option linter.all false
set_option maxRecDepth 100000
set_option maxHeartbeats 1000000
namespace My
open PySem L2 Evl GxR MyG
local macro_rules | `(tactic| walk_at "ev") => `(tactic| repeat' (first
  | exact ev_c
  | exact ev_var rfl
  | exact ea_nil
  | exact eo_none
  | (refine' ev_cb ?ea (rc_len ?sq); (case ea => walk_at "evs"); (case sq => walk_at "sq"))
  | (refine' ev_op ?a ?b (rv_ixL ?sq ?ix); (case a => walk_at "evs"); (case b => walk_at "evs"); (case sq => walk_at "sq"); (case ix => walk_at "at"))
  | refine' ea_cons ?_ ?_
  | refine' eo_some ?_
  | refine' ev_op ?_ ?_ rv_I0
  | refine' ev_op ?_ ?_ (rv_eq ?_)
  | refine' ev_op ?_ ?_ (rv_ne ?_)
  | refine' ev_op ?_ ?_ (rv_I ?_)
  | refine' ev_un ?_ ru_neg
  | refine' ev_cb ?_ rc_int
  | refine' ev_cb ?_ rc_abs
  | refine' ev_cb ?_ rc_max2
  | refine' ev_andV ?_ ?_
  | refine' ev_notV ?_
  | refine' et_test ?_
  | refine' et_B ?_
  | refine' et_not ?_))
local macro_rules | `(tactic| walk_at "side") => `(tactic| first
  | rfl
  | decide
  | exact ⟨by decide, by decide⟩
  | exact .inr ⟨by decide, by decide⟩
  | exact .inl ⟨by decide, by decide⟩
  | omega
  | exact .inl ⟨by omega, by omega⟩
  | exact ⟨by omega, by omega⟩
  | exact .inr ⟨by omega, by omega⟩)
local macro_rules | `(tactic| walk_at "evs") => `(tactic| (walk_at "ev"; all_goals (walk_at "side")))
local macro_rules | `(tactic| walk_at "ex") => `(tactic| first
  | with_reducible exact Ex.refl _
  | with_reducible assumption
  | (refine' Ex.trans ?_ ?b; (case b => with_reducible assumption); walk_at "ex"))
local macro_rules | `(tactic| walk_at "sq") => `(tactic| first
  | (refine' sq_ex ?h ?e; (case h => with_reducible assumption); (case e => walk_at "ex"))
  | (refine' ex_l ?e ?h; (case h => with_reducible assumption); (case e => walk_at "ex"))
  | (refine' ex_l ?e ?h; (case h => assumption); (case e => walk_at "ex"))
  | assumption
  | exact sq_of (by assumption))
local macro_rules | `(tactic| walk_at "at") => `(tactic| first
  | exact at_int (by omega) (by omega)
  | exact atI_nat (j := 0) rfl
  | exact atI_nat (j := 1) rfl
  | exact atI_nat (j := 2) rfl)
local macro_rules | `(tactic| walk_at "side2") => `(tactic| first | exact CMul_bdl (by assumption) | exact CMul_bdr (by assumption) | walk_at "side")
local macro_rules | `(tactic| walk_at "evb") => `(tactic| (walk_at "ev"; all_goals (walk_at "side2")))

section
variable {K : PySem.W.Frag} {σ : L2.St} {H : Hp} {D : Ends} {tz tu : TS} {ta tb te : TE} {t : TT}
theorem el_catLL {xs ys : List V} (ha : EvL ta σ H xs) (hb : EvL tb σ H ys) (hz : xs.length + ys.length ≤ 100000) : EvL (tOp rCat ta tb) σ H (xs ++ ys) := fun H1 e Q q =>
  ha H1 e _ fun l H2 nl e2 hl => hb H2 (e.trans e2) _ fun p H3 np e3 hp => ⟨l, p, xs, ys, rfl, rfl, e3 _ _ hl, hp, sz_of hz, fun r nr => q r _ (fresh_back (e2.trans e3) nr) ((e2.trans e3).trans (Ex.new nr)) upd_same⟩
theorem ev_div {p : Int} {c : Addr} {ds m : List Int} {ip ic : Nat} (hp : σ[ip]? = some (some (.int p))) (h : EvL te σ H (ds.map V.int)) (hc : σ[ic]? = some (some (.ref c))) (p0 : 0 < p) (hC : SqT K H c (m.map V.int)) (hb : ∀ j, (ds.getD j 0).natAbs < 2 ^ 30) (d1 : 1 ≤ ds.length) (d2 : ds.length ≤ 100) (hm : m.length ≤ 100) :
    Ev (tCall (spDiv K) [] E0 (tCons (tVar ip) (tCons te (tCons (tVar ic) tNil)))) σ H (.bl (!((divRest p ds m).any fun n => n != 0))) := fun H1 e Q q =>
  ⟨_, hp, h H1 e _ fun l H2 nl e2 hl => ⟨_, hc, p, l, c, ds, m, rfl, p0, sq_of hl, ex_t (e.trans e2) hC, hb, d1, d2, hm, fun H3 e3 => q H3 (e2.trans e3)⟩⟩
end
/-- the def's table, as a thing of which only this is said that it is one -/
def TabG (H : Hp) (P : Addr) : Prop := TabE H P
/-- all but the table at P as it was -/
def ExP (P : Addr) (H H2 : Hp) : Prop := TabG H2 P ∧ ∀ b o, b ≠ P → H b = some o → H2 b = some o
theorem TabG.ex {P : Addr} {H H2 : Hp} (h : TabG H P) (e : Ex H H2) : TabG H2 P := e _ _ h
theorem ExP.all {P : Addr} {H H2 : Hp} (g : TabG H P) (e : ExP P H H2) : Ex H H2 := fun a o h => by
  by_cases ha : a = P
  · subst ha
    rw [show H a = some (tabO a) from g] at h
    cases h
    exact e.1
  · exact e.2 a o ha h
theorem ExP.of {P : Addr} {H H1 H3 : Hp} (g : TabG H P) (e1 : Ex H H1) (e2 : Ex H1 H3) : ExP P H H3 := ⟨e2 _ _ (e1 _ _ g), fun b o _ h => e2 _ _ (e1 _ _ h)⟩
theorem tab_ne {P a : Addr} {H : Hp} {o : HO} (g : TabG H P) (h : H a = some o) (ho : ∀ q, o ≠ .ext q) : a ≠ P := by
  intro e
  rw [e, show H P = some (tabO P) from g] at h
  exact ho _ (Option.some.inj h).symm
/-- item < 0 or item >= limit -/
def ElOut (i : Nat) : ElP := fun σ _ v b => ∃ z n : Int, σ[i]? = some (some (.int z)) ∧ v = .int n ∧ b = (decide (n < 0) || decide (n ≥ z))
theorem elt_out {X : Cx} {Pt : Addr} {scope : Scope} {x y : Str} {i j1 : Nat} {p1 p2 p3 p4 p5 p6 p7 : Pos} {σ : L2.St} {H1 : Hp} {v : V} {b : Bool} (hN : X.N[i]? = some y) (hv : X.env.scope.names.lookup y = some .cell) (hf : (y, NameKind.free) ∈ scope.names)
    (hk : scope.kind = .function) (hx : scope.names.lookup x = some .local) (hy : scope.names.lookup y = some .free) (h : ElOut i σ H1 v b)
    (dx : (x == ("__debug__" : Str)) = false := by decide) (dy : (y == ("__debug__" : Str)) = false := by decide) (cy : (y == ("__classdict__" : Str)) = false := by decide) :
    EltG X Pt scope x (.BoolOp .Or [.Compare (.Name x p1) [.Lt] [.Constant (.int 0) j1 p2] p3, .Compare (.Name x p4) [.GtE] [.Name y p5] p6] p7) σ H1 v b := by
  obtain ⟨z, n, hz, rfl, rfl⟩ := h
  intro pins s1 ce A' E' u s' m I a ru hm _ nP
  obtain ⟨t, rfl⟩ := (show ∃ t, u = Value.int n t from ru)
  obtain ⟨tz, cl, hc, hcv⟩ := a.cap I nP hN hz hv hf
  exact elt_outside hk hx hy dx dy cy ce A' E' n t tz s' m cl a.sc a.ns hm hc hcv
/-- the ways of a test over the items of a list or a tuple -/
theorem ev_anyG {K : PySem.W.Frag} {σ : L2.St} {H : Hp} {te : TE} {a P : Addr} {xs : List V} {El : ElP} {pb : V → Bool} (h : Ev te σ H (.ref a)) (hx : SqL K H a xs ∨ SqT K H a xs) (hT : TabE H P) (he : ∀ H1, Ex H H1 → ∀ v ∈ xs, El σ H1 v (pb v)) : Ev (tAnyG K P El te) σ H (.bl (xs.any pb)) := fun H1 e Q q =>
  h H1 e _ fun H2 e2 => ⟨a, xs, pb, rfl, hx.imp (ex_l (e.trans e2)) (ex_t (e.trans e2)), (e.trans e2) _ _ hT, he H2 (e.trans e2), q H2 e2⟩
theorem ev_allG {K : PySem.W.Frag} {σ : L2.St} {H : Hp} {te : TE} {a P : Addr} {xs : List V} {El : ElP} {pb : V → Bool} (h : Ev te σ H (.ref a)) (hx : SqL K H a xs ∨ SqT K H a xs) (hT : TabE H P) (he : ∀ H1, Ex H H1 → ∀ v ∈ xs, El σ H1 v (pb v)) : Ev (tAllG K P El te) σ H (.bl (xs.all pb)) := fun H1 e Q q =>
  h H1 e _ fun H2 e2 => ⟨a, xs, pb, rfl, hx.imp (ex_l (e.trans e2)) (ex_t (e.trans e2)), (e.trans e2) _ _ hT, he H2 (e.trans e2), q H2 e2⟩
theorem one_le_pow {p : Int} (h : 1 ≤ p) : ∀ m : Nat, 1 ≤ p ^ m
  | 0 => by rw [Int.pow_zero]; exact Int.le_refl 1
  | m + 1 => by
    rw [Int.pow_succ]
    have := Int.mul_le_mul (one_le_pow h m) h (by decide) (by have := one_le_pow h m; omega)
    omega
theorem pow_mono {p : Int} (h : 1 ≤ p) {m n : Nat} (hm : m ≤ n) : p ^ m ≤ p ^ n := by
  have e : n = m + (n - m) := by omega
  rw [e, Int.pow_add]
  have h1 := one_le_pow h m
  have h2 := one_le_pow h (n - m)
  have := Int.mul_le_mul_of_nonneg_left h2 (show 0 ≤ p ^ m by omega)
  omega
theorem digs_bd {b : Int} (hb : 0 < b) : ∀ (m : Nat) (n : Int), ∀ x ∈ digs b m n, 0 ≤ x ∧ x < b
  | 0, _ => fun x hx => by cases hx
  | m + 1, n => fun x hx => by
    rcases List.mem_cons.mp hx with e | e
    · rw [e]
      exact ⟨Int.emod_nonneg _ (by omega), Int.emod_lt_of_pos _ hb⟩
    · exact digs_bd hb m _ x e
theorem monic_bd {b : Int} (hb : 0 < b) (hb2 : b ≤ 1000) (m : Nat) (n : Int) (j : Nat) : ((digs b m n ++ [1]).getD j 0).natAbs < 2 ^ 30 := by
  rw [List.getD_eq_getElem?_getD]
  cases e : (digs b m n ++ [1])[j]? with
  | none => decide
  | some x =>
    show x.natAbs < 2 ^ 30
    rcases List.mem_append.mp (List.mem_of_getElem? e) with q | q
    · have := digs_bd hb m n x q
      omega
    · rw [List.mem_singleton.mp q]
      decide
/-- no monic polynomial of at most half the degree divides m -/
def IrrP (p : Int) (m : List Int) : Prop := ∀ (deg n : Nat), 1 ≤ deg → deg ≤ (m.length - 1) / 2 → (n : Int) < p ^ deg → ((divRest p (digs p deg (n : Int) ++ [1]) m).any fun x => x != 0) = true
section
variable {P : Program} {w : World} {K : PySem.W.Frag} {mg : Str → Option Value} {base : Heap}
/-! _is_irreducible: 0 prime, 1 modulus, 2 half, 3 degree, 4 number -/
abbrev s_is_irreducible : Stmt := topS 15
theorem sc_is_irreducible : FnScope ["prime", "modulus", "half", "degree", "number"] ["prime", "modulus"] (defScope s_is_irreducible) := ⟨rfl, rfl, rfl, by decide +kernel, rfl, by decide +kernel, by decide +kernel⟩
def spIrr (K : PySem.W.Frag) : Sp := fun vs H Q _ => ∃ (p : Int) (c : Addr) (m : List Int), vs = [.int p, .ref c] ∧ 2 ≤ p ∧ p ≤ 31 ∧ SqT K H c (m.map V.int) ∧ 1 ≤ m.length ∧ m.length ≤ 9 ∧ p ^ (m.length - 1) ≤ 256 ∧ IrrP p m ∧ RetV (.bl true) H Q
theorem ok_irr {f : Addr} {fd : FuncData} (F : Fun K "_is_irreducible" "_is_irreducible" s_is_irreducible f fd) (T : FTxt mg) (D_int_power : Dk P w K mg base CX0 1 "int_power" ["base", "exponent"] spPow) (D_digits_of : Dk P w K mg base CX0 1 "_digits_of" ["number", "base", "many"] spDigs)
    (D_divides : Dk P w K mg base CX0 1 "_divides" ["prime", "divisor", "poly"] (spDiv K)) : FnOk P w K mg base CX0 2 f fd ["prime", "modulus"] (spIrr K) := by
  refine F.ok sc_is_irreducible (fun vs H Q E h => ?_) (fun cdv A outer s H vs Q E hr h => ?_)
  · obtain ⟨_, _, _, rfl, _⟩ := h
    rfl
  obtain ⟨p, c, m, rfl, p2, p31, hC, m1, m9, hq, hirr, k⟩ := h
  refine ⟨_, (pss_cons (ps_set (i := 2) sc_is_irreducible.nd rfl (Or.inl rfl) (pe_op op_fdiv (pe_op op_sub (pe_callB call_len_seq (by rfl) T.z_len PySem.boot_len (pa_cons (pv 1) pa_nil)) pe_int) pe_int))
    (pss_cons (ps_for PassesOwn.never rfl (pi_range2 (by rfl) T.z_range (pa_cons pe_int (pa_cons (pe_op op_add (pv 2) pe_int) pa_nil))) (pg_name (i := 3) sc_is_irreducible.nd rfl (Or.inl rfl))
      (pss_one (ps_for PassesOwn.never rfl (pi_range1 (by rfl) T.z_range (pa_cons (pe_cd D_int_power hr (by rfl) (pa_cons (pv 0) (pa_cons (pv 3) pa_nil))) pa_nil)) (pg_name (i := 4) sc_is_irreducible.nd rfl (Or.inl rfl))
        (pss_one (ps_if (pt_val (pe_cd D_divides hr (by rfl) (pa_cons (pv 0) (pa_cons (pe_op op_cat (pe_cd D_digits_of hr (by rfl) (pa_cons (pv 4) (pa_cons (pv 0) (pa_cons (pv 3) pa_nil)))) (pe_lst (pa_cons pe_int pa_nil))) (pa_cons (pv 1) pa_nil)))))
          (pss_one (ps_ret pe_bl))
          pss_nil)))))
    (pss_one (ps_ret pe_bl)))), ?_⟩
  refine q_asg (v := .int (((m.length - 1) / 2 : Nat) : Int)) (ev_is (ev_op (ev_op (ev_cb (ea_cons (ev_var rfl) ea_nil) (rc_lenT hC)) ev_c rv_I0) ev_c (rv_I ⟨by decide, by decide⟩)) (by rw [List.length_map]; congr 1; omega)) fun H1 e1 => ?_
  generalize hh : (m.length - 1) / 2 = half
  refine q_forR2 (lo := 1) (n := (half : Int) + 1) (by walk_at "evs") ⟨by decide, by decide, by omega, by omega⟩ (fun i σ' H' => ∃ y3 y4, σ' = [some (.int p), some (.ref c), some (.int (half : Int)), y3, y4] ∧ Ex H H') ?_ ?_ ?_
  · intro H2 e2
    exact ⟨none, none, rfl, e1.trans e2⟩
  · rintro i σ' H' hi ⟨y3, y4, rfl, ex⟩
    have hpd : p ^ (1 + i) ≤ 256 := by
      have h1 : p ^ (1 + i) ≤ p ^ (m.length - 1) := pow_mono (by omega) (by omega)
      omega
    have hp0 : 0 ≤ p ^ (1 + i) := Int.le_of_lt (Int.pow_pos (by omega))
    refine s_forR1 (n := p ^ (1 + i)) (ea_cons (ev_call (z := .int (p ^ (1 + i))) (ea_cons (ev_var rfl) (ea_cons (ev_var rfl) ea_nil)) (fun H3 e3 Q3 q3 E3 => ⟨p, 1 + i, by show [V.int p, V.int (1 + (i : Int))] = _; rw [show (1 + (i : Int)) = ((1 + i : Nat) : Int) by omega], by omega, by omega, q3⟩)) ea_nil) ⟨hp0, by omega⟩ (fun j σ' H' => ∃ y4, σ' = [some (.int p), some (.ref c), some (.int (half : Int)), some (.int (1 + (i : Int))), y4] ∧ Ex H H') ?_ ?_ ?_
    · intro H2 e2
      exact ⟨_, rfl, ex.trans e2⟩
    · rintro j σ' H' hj ⟨y4, rfl, ex⟩
      have hirr' := hirr (1 + i) j (by omega) (by omega) hj
      refine s_when (b := false) (et_is (et_B (ev_div (ds := digs p (1 + i) (j : Int) ++ [1]) rfl (by
        rw [List.map_append]
        exact el_catLL (el_call (ea_cons (ev_var rfl) (ea_cons (ev_var rfl) (ea_cons (ev_var rfl) ea_nil))) (fun H3 e3 Q3 q3 E3 => ⟨(j : Int), p, 1 + i, by show [V.int (j : Int), V.int p, V.int (1 + (i : Int))] = _; rw [show (1 + (i : Int)) = ((1 + i : Nat) : Int) by omega], by omega, by omega, by omega, q3⟩))
          (el_lst (ea_cons ev_c ea_nil) (by decide)) (by rw [List.length_map, digs_len]; show 1 + i + 1 ≤ _; omega)) rfl (by omega) (ex_t ex hC) (monic_bd (by omega) (by omega) _ _) (by rw [List.length_append]; show 1 ≤ _ + 1; omega) (by rw [List.length_append, digs_len]; show 1 + i + 1 ≤ _; omega) (by omega))) (by rw [hirr']; rfl)) (fun q => Bool.noConfusion q) fun _ H2 e2 => ?_
      exact ⟨_, rfl, ex.trans e2⟩
    · rintro σ' H' ⟨y4, rfl, ex⟩
      exact ⟨_, _, rfl, ex⟩
  · rintro σ' H' ⟨y3, y4, rfl, ex⟩
    exact s_ret ev_c fun H2 e2 => k H2 (ex.trans e2)
end
end My
set_option Elab.async false
set_option linter.all false
set_option maxRecDepth 100000
set_option maxHeartbeats 1000000
namespace My
open PySem L2 Evl GxR MyG
local macro_rules | `(tactic| walk_at "ev") => `(tactic| repeat' (first
  | exact ev_c
  | exact ev_var rfl
  | exact ea_nil
  | exact eo_none
  | (refine' ev_cb ?ea (rc_len ?sq); (case ea => walk_at "evs"); (case sq => walk_at "sq"))
  | (refine' ev_op ?a ?b (rv_ixL ?sq ?ix); (case a => walk_at "evs"); (case b => walk_at "evs"); (case sq => walk_at "sq"); (case ix => walk_at "at"))
  | refine' ea_cons ?_ ?_
  | refine' eo_some ?_
  | refine' ev_op ?_ ?_ rv_I0
  | refine' ev_op ?_ ?_ (rv_eq ?_)
  | refine' ev_op ?_ ?_ (rv_ne ?_)
  | refine' ev_op ?_ ?_ (rv_I ?_)
  | refine' ev_un ?_ ru_neg
  | refine' ev_cb ?_ rc_int
  | refine' ev_cb ?_ rc_abs
  | refine' ev_cb ?_ rc_max2
  | refine' ev_andV ?_ ?_
  | refine' ev_notV ?_
  | refine' et_test ?_
  | refine' et_B ?_
  | refine' et_not ?_))
local macro_rules | `(tactic| walk_at "side") => `(tactic| first
  | rfl
  | decide
  | exact ⟨by decide, by decide⟩
  | exact .inr ⟨by decide, by decide⟩
  | exact .inl ⟨by decide, by decide⟩
  | omega
  | exact .inl ⟨by omega, by omega⟩
  | exact ⟨by omega, by omega⟩
  | exact .inr ⟨by omega, by omega⟩)
local macro_rules | `(tactic| walk_at "evs") => `(tactic| (walk_at "ev"; all_goals (walk_at "side")))
local macro_rules | `(tactic| walk_at "ex") => `(tactic| first
  | with_reducible exact Ex.refl _
  | with_reducible assumption
  | (refine' Ex.trans ?_ ?b; (case b => with_reducible assumption); walk_at "ex"))
local macro_rules | `(tactic| walk_at "sq") => `(tactic| first
  | (refine' sq_ex ?h ?e; (case h => with_reducible assumption); (case e => walk_at "ex"))
  | (refine' ex_l ?e ?h; (case h => with_reducible assumption); (case e => walk_at "ex"))
  | (refine' ex_l ?e ?h; (case h => assumption); (case e => walk_at "ex"))
  | assumption
  | exact sq_of (by assumption))
local macro_rules | `(tactic| walk_at "at") => `(tactic| first
  | exact at_int (by omega) (by omega)
  | exact atI_nat (j := 0) rfl
  | exact atI_nat (j := 1) rfl
  | exact atI_nat (j := 2) rfl)
local macro_rules | `(tactic| walk_at "side2") => `(tactic| first | exact CMul_bdl (by assumption) | exact CMul_bdr (by assumption) | walk_at "side")
local macro_rules | `(tactic| walk_at "evb") => `(tactic| (walk_at "ev"; all_goals (walk_at "side2")))

/-- a def whose code object stands at c0 -/
theorem Fun.okC {P : Program} {w : World} {K : PySem.W.Frag} {mg : Str → Option Value} {base : Heap} {x qual : Str} {st : Stmt} {f c0 : Addr} {N ps : List Str} {k : Nat} {sp : Sp} {oc : Value} {od an : Option Addr} {osl : Array (Option Value)} {kV doc pm ct : Value}
    (lk : K.lookup f = some ⟨oc, od, .func (PySem.W.fnOf x qual (defArgs st) (defBody st) (defScope st) .none kV doc pm an (.ref c0) ct), osl⟩) (hcd : PySem.W.codeIn K (.ref c0) qual = true) (S : FnScope N ps (defScope st)) (len : ∀ vs H Q E, sp vs H Q E → vs.length = ps.length)
    (hbody : ∀ (A : Around) (outer : List Env) (s : Shared) (H : Hp) (vs : List V) (Q : VK) (E : XK), Room k (A.deeper (PyProof.Rows.envOfC qual (defScope st) s.heap.objs.size f (.ref c0))) → sp vs H Q E →
      ∃ t, PSs (cxOf CX0 P w K mg base N qual (defScope st) f (.ref c0) A outer s H E).nox (defBody st) t ∧ t { nx := fun _ H' => Q .non H', rt := Q } (L2.start N vs) H) :
    FnOk P w K mg base CX0 (k + 1) f (PySem.W.fnOf x qual (defArgs st) (defBody st) (defScope st) .none kV doc pm an (.ref c0) ct) ps sp := by
  refine fn_of lk hcd S len ?_
  intro A outer s H vs Q E hr hsp
  obtain ⟨t, h, q⟩ := hbody A outer s H vs Q E hr hsp
  exact ⟨t, h.nox, q⟩
def ValidF (p : Int) (m : List Int) : Prop :=
  PrimeP p ∧ p ≤ 31 ∧ 2 ≤ m.length ∧ m.length ≤ 9 ∧ p ^ (m.length - 1) ≤ 256 ∧ (∃ m', m = m' ++ [1]) ∧ (∀ x ∈ m, 0 ≤ x ∧ x < p) ∧ IrrP p m
theorem ValidF.any {p : Int} {m : List Int} (h : ValidF p m) : (m.any fun n => decide (n < 0) || decide (n ≥ p)) = false := by
  rw [List.any_eq_false]
  intro x hx
  have := h.2.2.2.2.2.2.1 x hx
  rw [decide_eq_false (by omega), decide_eq_false (by omega)]
  decide
section
variable {P : Program} {w : World} {K : PySem.W.Frag} {mg : Str → Option Value} {base : Heap}
/-! _is_field: 0 prime*, 1 modulus, 2 degree, 3 item -/
abbrev s_is_field : Stmt := topS 16
theorem sc_is_field : FnScope ["prime", "modulus", "degree", "item"] ["prime", "modulus"] (defScope s_is_field) := ⟨rfl, rfl, rfl, by decide +kernel, rfl, by decide +kernel, by decide +kernel⟩
def spIsF (K : PySem.W.Frag) (Pt : Addr) : Sp := fun vs H Q _ => ∃ (p : Int) (c : Addr) (m : List Int), vs = [.int p, .ref c] ∧ ValidF p m ∧ SqT K H c (m.map V.int) ∧ TabG H Pt ∧ ∀ H2, ExP Pt H H2 → Q (.bl true) H2
theorem ok_isf {f c0 Pt : Addr} {oc : Value} {od an : Option Addr} {osl : Array (Option Value)} {kV doc pm ct : Value}
    (lk : K.lookup f = some ⟨oc, od, .func (PySem.W.fnOf "_is_field" "_is_field" (defArgs s_is_field) (defBody s_is_field) (defScope s_is_field) .none kV doc pm an (.ref c0) ct), osl⟩) (hcd : PySem.W.codeIn K (.ref c0) "_is_field" = true)
    (T : FTxt mg) (TB : TabB base mg c0 Pt) (D_int_power : Dk P w K mg base CX0 2 "int_power" ["base", "exponent"] spPow) (D_is_prime : Dk P w K mg base CX0 2 "is_prime" ["n"] spPrime)
    (D_is_irreducible : Dk P w K mg base CX0 2 "_is_irreducible" ["prime", "modulus"] (spIrr K)) : FnOk P w K mg base CX0 3 f (PySem.W.fnOf "_is_field" "_is_field" (defArgs s_is_field) (defBody s_is_field) (defScope s_is_field) .none kV doc pm an (.ref c0) ct) ["prime", "modulus"] (spIsF K Pt) := by
  obtain ⟨t1, hP⟩ := T.c_LARGEST_PRIME
  obtain ⟨t2, hD⟩ := T.c_LARGEST_DEGREE
  obtain ⟨t3, hO⟩ := T.c_LARGEST_ORDER
  refine Fun.okC lk hcd sc_is_field (fun vs H Q E h => ?_) (fun A outer s H vs Q E hr h => ?_)
  · obtain ⟨_, _, _, rfl, _⟩ := h
    rfl
  obtain ⟨p, c, m, rfl, hv, hC, hg, k⟩ := h
  obtain ⟨hpr, p31, m2, m9, hq, ⟨m', hm'⟩, hbd, hirr⟩ := id hv
  have p2 := hpr.1
  refine ⟨_, (pss_cons (ps_if (PW.pt (pw_or (pt_cmpR op_gt (pv 0) (pe_glob (v := .int 31) rfl hP ⟨_, rfl⟩) (nomark _)) (pw_or1 (pt_not (pt_val (pe_cd D_is_prime hr (by rfl) (pa_cons (pv 0) pa_nil)))))))
      (pss_one (ps_ret pe_bl))
      pss_nil)
    (pss_cons (ps_set (i := 2) sc_is_field.nd rfl (Or.inl rfl) (pe_op op_sub (pe_callB call_len_seq (by rfl) T.z_len PySem.boot_len (pa_cons (pv 1) pa_nil)) pe_int))
    (pss_cons (ps_if (PW.pt (pw_or (pt_cmpR op_lt (pv 2) pe_int (nomark _)) (pw_or (pt_cmpR op_gt (pv 2) (pe_glob (v := .int 8) rfl hD ⟨_, rfl⟩) (nomark _)) (pw_or1 (pt_cmpR op_gt (pe_cd D_int_power hr (by rfl) (pa_cons (pv 0) (pa_cons (pv 2) pa_nil))) (pe_glob (v := .int 256) rfl hO ⟨_, rfl⟩) (nomark _))))))
      (pss_one (ps_ret pe_bl))
      pss_nil)
    (pss_cons (ps_if (PW.pt (pw_or (pt_cmpR op_ne (pe_ix ix_tup (pv 1) (pe_un un_neg pe_int) (fun _ _ => rfl)) pe_int (nomark _)) (pw_or1 (pt_val (pe_anyG (P := Pt) (El := ElOut 0) hr (by rfl) T.z_any TB rfl ⟨rfl, rfl, by decide, rfl, rfl, by
          intro y hy hf
          refine ⟨s.heap.objs.size + 1, ?_⟩
          have hy2 : y = (("prime" : Str), NameKind.free) := by
            have : ∀ y ∈ ([(".0", NameKind.local), ("item", NameKind.local), ("prime", NameKind.free)] : List (Str × NameKind)), y.2 = .free → y = (("prime" : Str), NameKind.free) := by
              intro y hy hf
              simp at hy
              rcases hy with rfl | rfl | rfl
              · cases hf
              · cases hf
              · rfl
            exact this y hy hf
          rw [hy2]
          rfl⟩ (pv 1) (fun _ _ _ _ h => elt_out rfl rfl (by decide) rfl rfl rfl (h := h)) (by intro _; rfl))))))
      (pss_one (ps_ret pe_bl))
      pss_nil)
    (pss_one (ps_ret (pe_cd D_is_irreducible hr (by rfl) (pa_cons (pv 0) (pa_cons (pv 1) pa_nil))))))))), ?_⟩
  have hlen : ((m.map V.int).length : Int) - 1 = ((m.length - 1 : Nat) : Int) := by rw [List.length_map]; omega
  refine q_when (b := false) (et_is (et_or (a := false) (b := false) (et_is (et_test (ev_op (ev_var rfl) ev_c rv_I0)) (decide_eq_false (by omega))) fun _ => et_is (et_not (et_B (ev_call (z := .bl true) (ea_cons (ev_var rfl) ea_nil) (fun H3 e3 Q3 q3 E3 => ⟨p, rfl, by omega, fun b hb => by
      have : b = true := hb.mpr hpr
      rw [this]
      exact q3⟩)))) rfl) rfl) (fun q => Bool.noConfusion q) fun _ H1 e1 => ?_
  refine q_asg (v := .int ((m.length - 1 : Nat) : Int)) (ev_is (ev_op (ev_cb (ea_cons (ev_var rfl) ea_nil) (rc_lenT (ex_t e1 hC))) ev_c rv_I0) (congrArg V.int hlen)) fun H2 e2 => ?_
  refine q_when (b := false) (et_is (et_or (a := false) (b := false) (et_is (et_test (ev_op (ev_var rfl) ev_c rv_I0)) (decide_eq_false (by omega))) fun _ => et_is (et_or (a := false) (b := false) (et_is (et_test (ev_op (ev_var rfl) ev_c rv_I0)) (decide_eq_false (by omega))) fun _ =>
      et_is (et_test (ev_op (ev_call (z := .int (p ^ (m.length - 1))) (ea_cons (ev_var rfl) (ea_cons (ev_var rfl) ea_nil)) (fun H3 e3 Q3 q3 E3 => ⟨p, m.length - 1, rfl, by omega, by omega, q3⟩)) ev_c rv_I0)) (decide_eq_false (by omega))) rfl) rfl) (fun q => Bool.noConfusion q) fun _ H3 e3 => ?_
  have e03 : Ex H H3 := (e1.trans e2).trans e3
  have hC3 : SqT K H3 c (m.map V.int) := ex_t e03 hC
  refine q_when (b := false) (et_is (et_or (a := false) (b := false) (et_is (et_test (ev_op (ev_op (ev_var rfl) (ev_un ev_c ru_neg) (rv_ixT hC3 (by
      rw [hm', List.map_append]
      exact atI_last _ _))) ev_c (rv_ne rfl))) rfl) fun _ => et_is (et_B (ev_anyG (El := ElOut 0) (pb := fun v => match v with | .int n => decide (n < 0) || decide (n ≥ p) | _ => false) (ev_var rfl) (.inr hC3) (TabG.ex hg e03) (fun H4 e4 v hv4 => ?_))) ?_) rfl) (fun q => Bool.noConfusion q) fun _ H4 e4 => ?_
  · obtain ⟨n, hn, rfl⟩ := List.mem_map.mp hv4
    exact ⟨p, n, rfl, rfl, rfl⟩
  · rw [List.any_map]
    exact hv.any
  refine s_ret (ev_call (z := .bl true) (ea_cons (ev_var rfl) (ea_cons (ev_var rfl) ea_nil)) (fun H6 e6 Q6 q6 E6 => ⟨p, c, m, rfl, p2, p31, ex_t (e4.trans e6) hC3, by omega, m9, hq, hirr, q6⟩)) fun H6 e6 => ?_
  exact k H6 (ExP.of hg (e03.trans e4) e6)
end
end My
set_option linter.all false
set_option maxRecDepth 100000
set_option maxHeartbeats 1000000
namespace My
open PySem L2 Evl
def flat2 (L : Nat) (v : Nat → Nat → V) (n : Nat) : List V := (List.range n).flatMap fun i => (List.range L).map (v i)
theorem flat2_succ (L : Nat) (v : Nat → Nat → V) (n : Nat) : flat2 L v (n + 1) = flat2 L v n ++ (List.range L).map (v n) := by
  unfold flat2
  rw [List.range_succ, List.flatMap_append]
  simp
theorem flat2_len (L : Nat) (v : Nat → Nat → V) : ∀ n, (flat2 L v n).length = n * L
  | 0 => by simp [flat2]
  | n + 1 => by
    rw [flat2_succ, List.length_append, flat2_len L v n, List.length_map, List.length_range, Nat.add_mul, Nat.one_mul]
section
variable {K : PySem.W.Frag} {σ : L2.St} {H : Hp} {te : TE} {ta : TA}
theorem tyes_if {σ : L2.St} {H : Hp} {A B : Hp → Prop} (h : A H) : tYes σ H (fun b H => if b = true then A H else B H) := by
  show (if true = true then A H else B H)
  rw [if_pos rfl]
  exact h
/-- [e for x in range(n) for y in ys] -/
theorem el_lc2 {a : Addr} {xs : List V} {j j1 r : Nat} {vs vs1 : List Nat} {n : Nat} (v : Nat → Nat → V) (h : EvA ta σ H [.int (n : Int)]) (hz : n * xs.length ≤ 40000) (hn : n ≤ 40000)
    (hr : ∀ x, ((wipe σ vs).set j x)[r]? = some (some (.ref a))) (hx : SqL K H a xs)
    (hw : ∀ x, wipe ((wipe σ vs).set j (some x)) vs = wipe σ vs) (hw1 : ∀ i x, wipe ((wipe ((wipe σ vs).set j (some i)) vs1).set j1 (some x)) vs1 = wipe ((wipe σ vs).set j (some i)) vs1)
    (he : ∀ (i k : Nat) (x : V) H1, Ex H H1 → i < n → xs[k]? = some x → Ev te ((wipe ((wipe σ vs).set j (some (.int (i : Int)))) vs1).set j1 (some x)) H1 (v i k)) :
    EvL (tLc2 (iRng1 ta) (gName j) tYes (iList K (tVar r)) (gName j1) tYes te vs vs1) σ H (flat2 xs.length v n) := fun H0 e Q q => h H0 e _ fun H1 e1 => ⟨(n : Int), rfl, by omega, by omega, fun Dl hD => by
  have e01 : Ex H H1 := e.trans e1
  refine ⟨fun i m H' => m = n - i ∧ i ≤ n ∧ Ex H1 H' ∧ H' Dl = some (.lst (flat2 xs.length v i)), ⟨n, rfl, Nat.zero_le _, Ex.new hD, upd_same⟩, ?_⟩
  rintro i m H' ⟨rfl, hi, ex, hl⟩
  by_cases hlt : i < n
  · refine .inr ⟨walk_range.goes i H' (by omega) trivial, fun H' => Ex H1 H' ∧ H' Dl = some (.lst (flat2 xs.length v (i + 1))), fun H' p => ⟨n - (i + 1), by omega, rfl, hlt, p.1, p.2⟩, fun x H2 y => ?_⟩
    obtain ⟨rfl, hx1⟩ := (walk_range (lo := 0) (n := ((n : Int) - 0).toNat)).yields i _ x H2 (by omega) trivial y
    have hx2 : x = .int (i : Int) := hx1.trans (by show V.int (0 + (i : Int)) = _; rw [Int.zero_add])
    subst hx2
    refine ⟨hw _, ?_⟩
    refine tyes_if ?_
    refine ⟨_, hr _, a, rfl, ⟨_, ex_l (e01.trans ex) hx⟩, ?_⟩
    refine ⟨fun k m H' => m = xs.length - k ∧ k ≤ xs.length ∧ Ex H1 H' ∧ H' Dl = some (.lst (flat2 xs.length v i ++ (List.range k).map (v i))), ⟨xs.length, rfl, Nat.zero_le _, ex, by rw [hl]; simp⟩, ?_⟩
    rintro k m H3 ⟨rfl, hk, ex3, hl3⟩
    have hq3 : SqL K H3 a xs := ex_l (e01.trans ex3) hx
    by_cases hkl : k < xs.length
    · refine .inr ⟨walk_list.goes k H3 hkl hq3, fun H' => Ex H1 H' ∧ H' Dl = some (.lst (flat2 xs.length v i ++ (List.range (k + 1)).map (v i))), fun H' p => ⟨xs.length - (k + 1), by omega, rfl, hkl, p.1, p.2⟩, fun x H4 y4 => ?_⟩
      obtain ⟨rfl, hxk⟩ := walk_list.yields k _ x H4 hkl hq3 y4
      refine ⟨hw1 _ _, ?_⟩
      refine tyes_if ?_
      refine he i k x H4 (e01.trans ex3) hlt hxk H4 (Ex.refl _) _ fun H5 e5 => ?_
      refine ⟨_, e5 _ _ hl3, ?_, Ex.mut (ex3.trans e5) hD, ?_⟩
      · refine sz_lt ?_
        rw [List.length_append, flat2_len, List.length_map, List.length_range]
        have : i * xs.length + xs.length ≤ n * xs.length := by
          have := Nat.mul_le_mul_right xs.length (show i + 1 ≤ n from hlt)
          rw [Nat.add_mul, Nat.one_mul] at this
          exact this
        omega
      · rw [upd_same, List.range_succ, List.map_append, List.append_assoc]
        rfl
    · have ek : k = xs.length := by omega
      subst ek
      exact .inl ⟨walk_list.stops H3 hq3, ex3, by rw [hl3, flat2_succ]⟩
  · have ei : i = n := by omega
    subst ei
    exact .inl ⟨Nat.le_of_eq (by omega), q Dl H' (fresh_back e1 hD) (e1.trans ex) hl⟩⟩
end
end My
set_option Elab.async false
set_option linter.all false
set_option maxRecDepth 100000
set_option maxHeartbeats 1000000
namespace My
open PySem L2 Evl GxR MyG
local macro_rules | `(tactic| walk_at "ev") => `(tactic| repeat' (first
  | exact ev_c
  | exact ev_var rfl
  | exact ea_nil
  | exact eo_none
  | (refine' ev_cb ?ea (rc_len ?sq); (case ea => walk_at "evs"); (case sq => walk_at "sq"))
  | (refine' ev_op ?a ?b (rv_ixL ?sq ?ix); (case a => walk_at "evs"); (case b => walk_at "evs"); (case sq => walk_at "sq"); (case ix => walk_at "at"))
  | refine' ea_cons ?_ ?_
  | refine' eo_some ?_
  | refine' ev_op ?_ ?_ rv_I0
  | refine' ev_op ?_ ?_ (rv_eq ?_)
  | refine' ev_op ?_ ?_ (rv_ne ?_)
  | refine' ev_op ?_ ?_ (rv_I ?_)
  | refine' ev_un ?_ ru_neg
  | refine' ev_cb ?_ rc_int
  | refine' ev_cb ?_ rc_abs
  | refine' ev_cb ?_ rc_max2
  | refine' ev_andV ?_ ?_
  | refine' ev_notV ?_
  | refine' et_test ?_
  | refine' et_B ?_
  | refine' et_not ?_))
local macro_rules | `(tactic| walk_at "side") => `(tactic| first
  | rfl
  | decide
  | exact ⟨by decide, by decide⟩
  | exact .inr ⟨by decide, by decide⟩
  | exact .inl ⟨by decide, by decide⟩
  | omega
  | exact .inl ⟨by omega, by omega⟩
  | exact ⟨by omega, by omega⟩
  | exact .inr ⟨by omega, by omega⟩)
local macro_rules | `(tactic| walk_at "evs") => `(tactic| (walk_at "ev"; all_goals (walk_at "side")))
local macro_rules | `(tactic| walk_at "ex") => `(tactic| first
  | with_reducible exact Ex.refl _
  | with_reducible assumption
  | (refine' Ex.trans ?_ ?b; (case b => with_reducible assumption); walk_at "ex"))
local macro_rules | `(tactic| walk_at "sq") => `(tactic| first
  | (refine' sq_ex ?h ?e; (case h => with_reducible assumption); (case e => walk_at "ex"))
  | (refine' ex_l ?e ?h; (case h => with_reducible assumption); (case e => walk_at "ex"))
  | (refine' ex_l ?e ?h; (case h => assumption); (case e => walk_at "ex"))
  | assumption
  | exact sq_of (by assumption))
local macro_rules | `(tactic| walk_at "at") => `(tactic| first
  | exact at_int (by omega) (by omega)
  | exact atI_nat (j := 0) rfl
  | exact atI_nat (j := 1) rfl
  | exact atI_nat (j := 2) rfl)
local macro_rules | `(tactic| walk_at "side2") => `(tactic| first | exact CMul_bdl (by assumption) | exact CMul_bdr (by assumption) | walk_at "side")
local macro_rules | `(tactic| walk_at "evb") => `(tactic| (walk_at "ev"; all_goals (walk_at "side2")))

/-- a list of lists of ints -/
structure TabR (H : Hp) (a : Addr) (rs : List Addr) (T : List (List Int)) : Prop where
  len : rs.length = T.length
  hd : H a = some (.lst (rs.map V.ref))
  row : ∀ (i : Nat) (r : Addr) (q : List Int), rs[i]? = some r → T[i]? = some q → H r = some (.lst (q.map V.int))
  ne : a ∉ rs
def IsTab (H : Hp) (a : Addr) (T : List (List Int)) : Prop := ∃ rs, TabR H a rs T
theorem TabR.ex {H H1 : Hp} {a : Addr} {rs : List Addr} {T : List (List Int)} (h : TabR H a rs T) (e : Ex H H1) : TabR H1 a rs T := ⟨h.len, e _ _ h.hd, fun i r row h1 h2 => e _ _ (h.row i r row h1 h2), h.ne⟩
theorem IsTab.ex {H H1 : Hp} {a : Addr} {T : List (List Int)} (h : IsTab H a T) (e : Ex H H1) : IsTab H1 a T := by
  obtain ⟨rs, h⟩ := h
  exact ⟨rs, h.ex e⟩
theorem TabR.mem {H : Hp} {a : Addr} {rs : List Addr} {T : List (List Int)} (h : TabR H a rs T) {r : Addr} (hr : r ∈ rs) : ∃ row, row ∈ T ∧ H r = some (.lst (row.map V.int)) := by
  obtain ⟨i, hi, e⟩ := List.getElem_of_mem hr
  have hi2 : i < T.length := by rw [← h.len]; exact hi
  exact ⟨T[i], List.getElem_mem hi2, h.row i r _ (by rw [← e]; exact List.getElem?_eq_getElem hi) (List.getElem?_eq_getElem hi2)⟩
theorem TabR.snoc {H H1 : Hp} {a p : Addr} {rs : List Addr} {T : List (List Int)} {row : List Int} (h : TabR H a rs T) (e : Ex H H1) (np : H p = none) (hp : H1 p = some (.lst (row.map V.int))) :
    TabR (upd H1 a (.lst (rs.map V.ref ++ [V.ref p]))) a (rs ++ [p]) (T ++ [row]) := by
  have hap : p ≠ a := by
    intro q
    rw [q, h.hd] at np
    cases np
  refine ⟨by rw [List.length_append, List.length_append, h.len]; rfl, by rw [upd_same, List.map_append]; rfl, ?_, ?_⟩
  · intro i r row' h1 h2
    have hra : r ≠ a := by
      intro q
      rcases List.mem_append.mp (List.mem_of_getElem? h1) with z | z
      · exact h.ne (q ▸ z)
      · exact hap ((List.mem_singleton.mp z).symm.trans q)
    rw [upd_ne hra]
    by_cases hi : i < rs.length
    · rw [List.getElem?_append_left hi] at h1
      rw [List.getElem?_append_left (by rw [← h.len]; exact hi)] at h2
      exact e _ _ (h.row i r row' h1 h2)
    · rw [List.getElem?_append_right (by omega)] at h1
      rw [List.getElem?_append_right (by rw [← h.len]; omega)] at h2
      rw [h.len] at h1
      cases hz : i - T.length with
      | zero =>
        rw [hz] at h1 h2
        have e1 : p = r := Option.some.inj h1
        have e2 : row = row' := Option.some.inj h2
        rw [← e1, ← e2]
        exact hp
      | succ n =>
        rw [hz] at h1
        cases h1
  · intro q
    rcases List.mem_append.mp q with z | z
    · exact h.ne z
    · exact hap (List.mem_singleton.mp z).symm
def cell (T : List (List Int)) (i j : Int) : Int := (T.getD i.toNat []).getD j.toNat 0
theorem IsTab.at {K : PySem.W.Frag} {H : Hp} {a : Addr} {T : List (List Int)} (h : IsTab H a T) {i : Int} (h0 : 0 ≤ i) (h1 : i < T.length) : ∃ (xs : List V) (r : Addr), H a = some (.lst xs) ∧ xs.length = T.length ∧ atI xs i = some (.ref r) ∧ H r = some (.lst ((T.getD i.toNat []).map V.int)) := by
  obtain ⟨rs, h⟩ := h
  have hi : i.toNat < T.length := by omega
  have hi2 : i.toNat < rs.length := by rw [h.len]; exact hi
  refine ⟨_, rs[i.toNat], h.hd, by rw [List.length_map, h.len], at_of (j := i.toNat) (by omega) (by rw [List.getElem?_map, List.getElem?_eq_getElem hi2]; rfl), ?_⟩
  rw [List.getD_eq_getElem?_getD, List.getElem?_eq_getElem hi]
  exact h.row _ _ _ (List.getElem?_eq_getElem hi2) (List.getElem?_eq_getElem hi)
section
variable {K : PySem.W.Frag} {σ : L2.St} {H : Hp} {ta ti tj te : TE}
theorem ev_row {a : Addr} {T : List (List Int)} {i : Int} (ha : Ev ta σ H (.ref a)) (hi : Ev ti σ H (.int i)) (h : IsTab H a T) (h0 : 0 ≤ i) (h1 : i < T.length) : ∃ r, H r = some (.lst ((T.getD i.toNat []).map V.int)) ∧ Ev (tOp (rIxL K) ta ti) σ H (.ref r) := by
  obtain ⟨xs, r, hx, _, hr, hrow⟩ := h.at (K := K) h0 h1
  exact ⟨r, hrow, ev_op ha hi (rv_ixL (sq_of hx) hr)⟩
theorem ev_cell {a : Addr} {T : List (List Int)} {i j : Int} (ha : Ev ta σ H (.ref a)) (hi : Ev ti σ H (.int i)) (hj : Ev tj σ H (.int j)) (h : IsTab H a T) (h0 : 0 ≤ i) (h1 : i < T.length) (j0 : 0 ≤ j) (j1 : j < (T.getD i.toNat []).length) :
    Ev (tOp (rIxL K) (tOp (rIxL K) ta ti) tj) σ H (.int (cell T i j)) := by
  obtain ⟨r, hrow, e⟩ := ev_row (K := K) ha hi h h0 h1
  exact ev_op e hj (rv_ixL (sq_of hrow) (at_int j0 j1))
end
theorem pi_listK {X : Cx} {K : PySem.W.Frag} {tg l : Expr} {tl : TE} (h : X.K = K) (hl : PE X l tl) : PI X tg l (iList K tl) := h ▸ pi_list hl
theorem map_range_getD (c : Int) : ∀ row : List Int, (List.range row.length).map (fun k => V.int (c + row.getD k 0)) = (row.map fun low => c + low).map V.int
  | row => by
    rw [List.map_map]
    apply List.ext_getElem
    · rw [List.length_map, List.length_range, List.length_map]
    · intro i h1 h2
      rw [List.length_map, List.length_range] at h1
      rw [List.getElem_map, List.getElem_map, List.getElem_range, List.getD_eq_getElem?_getD, List.getElem?_eq_getElem h1]
      rfl
/-- a row of the longer table -/
def longRow (p : Nat) (size : Int) (high : Nat) (row : List Int) : List Int := (List.range p).flatMap fun (other : Nat) => row.map fun low => ((high : Int) + (other : Int)) % (p : Int) * size + low
theorem longRow_flat (p : Nat) (size : Int) (high : Nat) (row : List Int) : flat2 row.length (fun i k => V.int (((high : Int) + (i : Int)) % (p : Int) * size + row.getD k 0)) p = (longRow p size high row).map V.int := by
  unfold flat2 longRow
  rw [List.map_flatMap]
  congr 1
  funext i
  exact map_range_getD _ row
def longTab (p : Nat) (S : List (List Int)) : List (List Int) := (List.range p).flatMap fun high => S.map (longRow p (S.length : Int) high)
def sumTab (p : Nat) : Nat → List (List Int)
  | 0 => [[0]]
  | d + 1 => longTab p (sumTab p d)
theorem longRow_len (p : Nat) (size : Int) (high : Nat) (row : List Int) : (longRow p size high row).length = p * row.length := by
  have h := congrArg List.length (longRow_flat p size high row)
  rw [flat2_len, List.length_map] at h
  exact h.symm
theorem flatMap_const_len {α β : Type} (f : α → List β) (c : Nat) : ∀ l : List α, (∀ x ∈ l, (f x).length = c) → (l.flatMap f).length = l.length * c
  | [], _ => by simp
  | x :: r, h => by
    rw [List.flatMap_cons, List.length_append, h x List.mem_cons_self, flatMap_const_len f c r (fun y hy => h y (List.mem_cons_of_mem _ hy)), List.length_cons, Nat.add_mul, Nat.one_mul, Nat.add_comm]
theorem longTab_len (p : Nat) (S : List (List Int)) : (longTab p S).length = p * S.length := by
  unfold longTab
  rw [flatMap_const_len _ S.length _ (fun x _ => List.length_map _), List.length_range]
theorem sumTab_len (p : Nat) : ∀ d, (sumTab p d).length = p ^ d
  | 0 => rfl
  | d + 1 => by
    show (longTab p (sumTab p d)).length = _
    rw [longTab_len, sumTab_len p d, Nat.pow_succ, Nat.mul_comm]
theorem sumTab_row (p : Nat) : ∀ d, ∀ row ∈ sumTab p d, row.length = p ^ d
  | 0, row, h => by
    rw [List.mem_singleton.mp h]
    rfl
  | d + 1, row, h => by
    have h' : row ∈ longTab p (sumTab p d) := h
    unfold longTab at h'
    obtain ⟨high, _, h2⟩ := List.mem_flatMap.mp h'
    obtain ⟨r0, h3, rfl⟩ := List.mem_map.mp h2
    rw [longRow_len, sumTab_row p d r0 h3, Nat.pow_succ, Nat.mul_comm]
end My
set_option Elab.async false
set_option linter.all false
set_option maxRecDepth 100000
set_option maxHeartbeats 1000000
namespace My
open PySem L2 Evl GxR MyG
local macro_rules | `(tactic| walk_at "ev") => `(tactic| repeat' (first
  | exact ev_c
  | exact ev_var rfl
  | exact ea_nil
  | exact eo_none
  | (refine' ev_cb ?ea (rc_len ?sq); (case ea => walk_at "evs"); (case sq => walk_at "sq"))
  | (refine' ev_op ?a ?b (rv_ixL ?sq ?ix); (case a => walk_at "evs"); (case b => walk_at "evs"); (case sq => walk_at "sq"); (case ix => walk_at "at"))
  | refine' ea_cons ?_ ?_
  | refine' eo_some ?_
  | refine' ev_op ?_ ?_ rv_I0
  | refine' ev_op ?_ ?_ (rv_eq ?_)
  | refine' ev_op ?_ ?_ (rv_ne ?_)
  | refine' ev_op ?_ ?_ (rv_I ?_)
  | refine' ev_un ?_ ru_neg
  | refine' ev_cb ?_ rc_int
  | refine' ev_cb ?_ rc_abs
  | refine' ev_cb ?_ rc_max2
  | refine' ev_andV ?_ ?_
  | refine' ev_notV ?_
  | refine' et_test ?_
  | refine' et_B ?_
  | refine' et_not ?_))
local macro_rules | `(tactic| walk_at "side") => `(tactic| first
  | rfl
  | decide
  | exact ⟨by decide, by decide⟩
  | exact .inr ⟨by decide, by decide⟩
  | exact .inl ⟨by decide, by decide⟩
  | omega
  | exact .inl ⟨by omega, by omega⟩
  | exact ⟨by omega, by omega⟩
  | exact .inr ⟨by omega, by omega⟩)
local macro_rules | `(tactic| walk_at "evs") => `(tactic| (walk_at "ev"; all_goals (walk_at "side")))
local macro_rules | `(tactic| walk_at "ex") => `(tactic| first
  | with_reducible exact Ex.refl _
  | with_reducible assumption
  | (refine' Ex.trans ?_ ?b; (case b => with_reducible assumption); walk_at "ex"))
local macro_rules | `(tactic| walk_at "sq") => `(tactic| first
  | (refine' sq_ex ?h ?e; (case h => with_reducible assumption); (case e => walk_at "ex"))
  | (refine' ex_l ?e ?h; (case h => with_reducible assumption); (case e => walk_at "ex"))
  | (refine' ex_l ?e ?h; (case h => assumption); (case e => walk_at "ex"))
  | assumption
  | exact sq_of (by assumption))
local macro_rules | `(tactic| walk_at "at") => `(tactic| first
  | exact at_int (by omega) (by omega)
  | exact atI_nat (j := 0) rfl
  | exact atI_nat (j := 1) rfl
  | exact atI_nat (j := 2) rfl)
local macro_rules | `(tactic| walk_at "side2") => `(tactic| first | exact CMul_bdl (by assumption) | exact CMul_bdr (by assumption) | walk_at "side")
local macro_rules | `(tactic| walk_at "evb") => `(tactic| (walk_at "ev"; all_goals (walk_at "side2")))

theorem s_asgC {σ : L2.St} {H : Hp} {D : Ends} {i : Nat} {sp : Sp} {E : XK} {tr : TA} {vs : List V} (h : EvA tr σ H vs)
    (k : ∀ H1, Ex H H1 → sp vs H1 (fun v H2 => D.nx (σ.set i (some v)) H2) E) : tAsg (tCall sp [] E tr) (gName i) D σ H := by
  refine h H (Ex.refl H) _ fun H1 e1 => ?_
  rw [List.append_nil]
  exact k H1 e1
theorem q_nest {σ : L2.St} {H : Hp} {D : Ends} {tz : TS} {i : Nat} (k : ∀ l H1, H l = none → Ex H H1 → IsTab H1 l [[0]] → tz D (σ.set i (some (.ref l))) H1) :
    tSeq (tAsg (tLst (tCons (tLst (tCons (tC (.int 0)) tNil)) tNil)) (gName i)) tz D σ H := by
  refine ⟨by show 1 ≤ sizeLine; exact sz_of (by decide), fun r nr => ⟨by show 1 ≤ sizeLine; exact sz_of (by decide), fun l nl => ?_⟩⟩
  have e1 : Ex H (upd H r (.lst [.int 0])) := Ex.new nr
  have e2 : Ex (upd H r (.lst [.int 0])) (upd (upd H r (.lst [.int 0])) l (.lst [.ref r])) := Ex.new nl
  have hlr : l ≠ r := by
    intro q
    rw [q, upd_same] at nl
    cases nl
  refine k l _ (fresh_back e1 nl) (e1.trans e2) ⟨[r], rfl, upd_same, ?_, by simpa using hlr⟩
  intro i r' q h1 h2
  cases i with
  | zero =>
    have e1 : r = r' := Option.some.inj h1
    have e2' : [0] = q := Option.some.inj h2
    rw [← e1, ← e2']
    exact e2 _ _ upd_same
  | succ n => cases h1
section
variable {P : Program} {w : World} {K : PySem.W.Frag} {mg : Str → Option Value} {base : Heap}
/-! _longer_sums: 0 prime*, 1 table, 2 size*, 3 longer, 4 high*, 5 row*, 6 other, 7 low -/
abbrev s_longer_sums : Stmt := topS 18
theorem sc_longer_sums : FnScope ["prime", "table", "size", "longer", "high", "row", "other", "low"] ["prime", "table"] (defScope s_longer_sums) := ⟨rfl, rfl, rfl, by decide +kernel, rfl, by decide +kernel, by decide +kernel⟩
def spLong (K : PySem.W.Frag) : Sp := fun vs H Q _ => ∃ (p : Nat) (a : Addr) (S : List (List Int)), vs = [.int (p : Int), .ref a] ∧ IsTab H a S ∧ 1 ≤ p ∧ p ≤ 31 ∧ p * S.length ≤ 256 ∧ (∀ row ∈ S, row.length = S.length) ∧ ∀ l H2, H l = none → Ex H H2 → IsTab H2 l (longTab p S) → Q (.ref l) H2
theorem ok_long {f : Addr} {fd : FuncData} (F : Fun K "_longer_sums" "_longer_sums" s_longer_sums f fd) (T : FTxt mg) : FnOk P w K mg base CX0 1 f fd ["prime", "table"] (spLong K) := by
  refine F.ok sc_longer_sums (fun vs H Q E h => ?_) (fun cdv A outer s H vs Q E hr h => ?_)
  · obtain ⟨_, _, _, rfl, _⟩ := h
    rfl
  obtain ⟨p, a, S, rfl, hS, p1, p31, hq, hrow, k⟩ := h
  obtain ⟨rsT, hT⟩ := hS
  refine ⟨_, (pss_cons (ps_set (i := 2) sc_longer_sums.nd rfl (Or.inr rfl) (pe_callB call_len_seq (by rfl) T.z_len PySem.boot_len (pa_cons (pv 1) pa_nil)))
    (pss_cons (ps_set (i := 3) sc_longer_sums.nd rfl (Or.inl rfl) (pe_lst pa_nil))
    (pss_cons (ps_for PassesOwn.never rfl (pi_range1 (by rfl) T.z_range (pa_cons (pv 0) pa_nil)) (pg_name (i := 4) sc_longer_sums.nd rfl (Or.inr rfl))
      (pss_one (ps_for PassesOwn.never rfl (pi_list (pv 1)) (pg_name (i := 5) sc_longer_sums.nd rfl (Or.inr rfl))
        (pss_one (ps_expr (pe_bm PySem.F.plainAttrs_list PySem.F.slot_list_append PySem.F.type_list_append mt_append (pv 3) (pa_cons (pe_lc2 (own := [("other", 6), ("low", 7)]) (vs1 := [7]) (g := gName 6) (g1 := gName 7) (tt := tYes) (tt1 := tYes) rfl sc_longer_sums.nd (pi_range1 (by rfl) T.z_range (pa_cons (pv 0) pa_nil))
          (blkOk_by (own := [("other", 6), ("low", 7)]) (N := ["prime", "table", "size", "longer", "high", "row", "other", "low"]) (sc := defScope s_longer_sums) (by decide +kernel)) (by decide) (fun _ _ _ _ _ => pg_name (i := 6) sc_longer_sums.nd rfl (Or.inl rfl)) (fun _ _ _ _ _ => pts_nil)
          (fun _ _ _ _ _ => pi_listK (K := K) rfl (pv 5)) (fun _ _ _ _ _ => pg_name (i := 7) sc_longer_sums.nd rfl (Or.inl rfl)) (fun _ _ _ _ _ => pts_nil)
          (fun _ _ _ _ _ => pe_op op_add (pe_op op_mul (pe_op op_mod (pe_op op_add (pv 4) (pv 6)) (pv 0)) (pv 2)) (pv 7))) pa_nil)))))))
    (pss_one (ps_ret (pv 3)))))), ?_⟩
  refine q_asg (v := .int (S.length : Int)) (ev_is (ev_cb (ea_cons (ev_var rfl) ea_nil) (rc_len (sq_of hT.hd))) (by rw [List.length_map, hT.len])) fun H1 e1 => ?_
  refine q_asgL (el_lst ea_nil (by decide)) fun l H2 nl e2 h2 => ?_
  have nlH : H l = none := fresh_back e1 nl
  refine q_forR1 (n := (p : Int)) (by walk_at "ev") (by omega) (fun i σ' H' => ∃ (y4 y5 : Option V) (rs : List Addr), σ' = [some (.int (p : Int)), some (.ref a), some (.int (S.length : Int)), some (.ref l), y4, y5, none, none] ∧ Ex H H' ∧ TabR H' l rs ((List.range i).flatMap fun high => S.map (longRow p (S.length : Int) high))) ?_ ?_ ?_
  · intro H3 e3
    exact ⟨none, none, [], rfl, (e1.trans e2).trans e3, rfl, e3 _ _ h2, fun i r q h _ => (by cases h), by simp⟩
  · rintro i σ' H' hi ⟨y4, y5, rs, rfl, ex, ht⟩
    refine s_forLn (a := a) (xs := rsT.map V.ref) (ev_var rfl) (sq_of (ex _ _ hT.hd)) (fun k σ' H' => ∃ (y5 : Option V) (rs : List Addr), σ' = [some (.int (p : Int)), some (.ref a), some (.int (S.length : Int)), some (.ref l), some (.int (i : Int)), y5, none, none] ∧ Ex H H' ∧ TabR H' l rs (((List.range i).flatMap fun high => S.map (longRow p (S.length : Int) high)) ++ (S.take k).map (longRow p (S.length : Int) i))) ?_ ?_ ?_ ?_
    · intro H3 e3
      exact ⟨_, rs, rfl, ex.trans e3, by rw [List.take_zero, List.map_nil, List.append_nil]; exact ht.ex e3⟩
    · rintro k σ' H' _ ⟨_, _, _, ex, _⟩
      exact sq_of (ex _ _ hT.hd)
    · rintro k x σ' H' hk ⟨y5, rs, rfl, ex, ht⟩
      have hk1 : k < rsT.length := by
        have q := (List.getElem?_eq_some_iff.mp hk).1
        rwa [List.length_map] at q
      have hk2 : k < S.length := by rw [← hT.len]; exact hk1
      have hx : x = .ref rsT[k] := Option.some.inj (hk.symm.trans (by rw [List.getElem?_map, List.getElem?_eq_getElem hk1]; rfl))
      subst hx
      have hrw : H rsT[k] = some (.lst (S[k].map V.int)) := hT.row k _ _ (List.getElem?_eq_getElem hk1) (List.getElem?_eq_getElem hk2)
      have hrl : S[k].length = S.length := hrow _ (List.getElem_mem hk2)
      have hpl : p * (S[k].map V.int).length ≤ 40000 := by rw [List.length_map, hrl]; omega
      have hlen : rs.length < 100000 := by
        have h1 := ht.len
        rw [List.length_append, List.length_map, List.length_take] at h1
        have h3 : ((List.range i).flatMap fun high => S.map (longRow p (S.length : Int) high)).length = i * S.length := by
          rw [flatMap_const_len _ S.length _ (fun x _ => List.length_map _), List.length_range]
        have h4 : i * S.length ≤ p * S.length := Nat.mul_le_mul_right _ (by omega)
        have h5 : S.length ≤ p * S.length := Nat.le_mul_of_pos_left _ (by omega)
        omega
      refine s_appL ht.hd (ev_var rfl) (el_lc2 (a := rsT[k]) (xs := S[k].map V.int) (n := p) (fun i' k' => .int (((i : Int) + (i' : Int)) % (p : Int) * (S.length : Int) + S[k].getD k' 0)) (by walk_at "ev") hpl (by omega) (fun _ => rfl) (sq_of (ex _ _ hrw)) (fun _ => rfl) (fun _ _ => rfl) ?_) (by rw [List.length_map]; exact hlen) fun q H3 nq e3 hq3 => ?_
      · intro i' k' x H3 e3 hi' hk'
        have hk3 : k' < S[k].length := by
          have q := (List.getElem?_eq_some_iff.mp hk').1
          rwa [List.length_map] at q
        have hx : x = .int (S[k].getD k' 0) := Option.some.inj (hk'.symm.trans (by rw [List.getElem?_map, List.getElem?_eq_getElem hk3, List.getD_eq_getElem?_getD, List.getElem?_eq_getElem hk3]; rfl))
        subst hx
        have m0 : 0 ≤ ((i : Int) + (i' : Int)) % (p : Int) := Int.emod_nonneg _ (by omega)
        have m1 : ((i : Int) + (i' : Int)) % (p : Int) < (p : Int) := Int.emod_lt_of_pos _ (by omega)
        exact ev_op (ev_op (ev_op (ev_op (ev_var rfl) (ev_var rfl) rv_I0) (ev_var rfl) (rv_I (by omega))) (ev_var rfl) (rv_I (.inl ⟨by omega, by omega⟩))) (ev_var rfl) rv_I0
      · rw [List.length_map, longRow_flat] at hq3
        have ht2 := ht.snoc (e3) nq hq3
        refine ⟨_, rs ++ [q], rfl, Ex.mut (ex.trans e3) nlH, ?_⟩
        rw [List.take_add_one, List.getElem?_eq_getElem hk2, Option.toList_some, List.map_append, ← List.append_assoc]
        exact ht2
    · rintro σ' H' ⟨y5, rs, rfl, ex, ht⟩
      refine ⟨_, _, rs, rfl, ex, ?_⟩
      rw [List.length_map, hT.len, List.take_length] at ht
      rw [List.range_succ, List.flatMap_append]
      simpa using ht
  · rintro σ' H' ⟨y4, y5, rs, rfl, ex, ht⟩
    exact s_ret (ev_var rfl) fun H3 e3 => k l H3 nlH (ex.trans e3) ⟨rs, ht.ex e3⟩
/-! _sum_table: 0 prime, 1 degree, 2 table, 3 _ -/
abbrev s_sum_table : Stmt := topS 17
theorem sc_sum_table : FnScope ["prime", "degree", "table", "_"] ["prime", "degree"] (defScope s_sum_table) := ⟨rfl, rfl, rfl, by decide +kernel, rfl, by decide +kernel, by decide +kernel⟩
def spSums : Sp := fun vs H Q _ => ∃ (p d : Nat), vs = [.int (p : Int), .int (d : Int)] ∧ 2 ≤ p ∧ p ≤ 31 ∧ d ≤ 8 ∧ p ^ d ≤ 256 ∧ ∀ l H2, H l = none → Ex H H2 → IsTab H2 l (sumTab p d) → Q (.ref l) H2
theorem ok_sums {f : Addr} {fd : FuncData} (F : Fun K "_sum_table" "_sum_table" s_sum_table f fd) (T : FTxt mg) (D_longer_sums : Dk P w K mg base CX0 1 "_longer_sums" ["prime", "table"] (spLong K)) : FnOk P w K mg base CX0 2 f fd ["prime", "degree"] spSums := by
  refine F.ok sc_sum_table (fun vs H Q E h => ?_) (fun cdv A outer s H vs Q E hr h => ?_)
  · obtain ⟨_, _, rfl, _⟩ := h
    rfl
  obtain ⟨p, d, rfl, p2, p31, d8, hq, k⟩ := h
  refine ⟨_, (pss_cons (ps_set (i := 2) sc_sum_table.nd rfl (Or.inl rfl) (pe_lst (pa_cons (pe_lst (pa_cons pe_int pa_nil)) pa_nil)))
    (pss_cons (ps_for PassesOwn.never rfl (pi_range1 (by rfl) T.z_range (pa_cons (pv 1) pa_nil)) (pg_name (i := 3) sc_sum_table.nd rfl (Or.inl rfl))
      (pss_one (ps_set (i := 2) sc_sum_table.nd rfl (Or.inl rfl) (pe_cd D_longer_sums hr (by rfl) (pa_cons (pv 0) (pa_cons (pv 2) pa_nil))))))
    (pss_one (ps_ret (pv 2))))), ?_⟩
  refine q_nest fun l H2 nlH e12 h0 => ?_
  refine q_forR1 (n := (d : Int)) (by walk_at "ev") (by omega) (fun i σ' H' => ∃ (l : Addr) (y : Option V), σ' = [some (.int (p : Int)), some (.int (d : Int)), some (.ref l), y] ∧ H l = none ∧ Ex H H' ∧ IsTab H' l (sumTab p i)) ?_ ?_ ?_
  · intro H3 e3
    exact ⟨l, none, rfl, nlH, e12.trans e3, h0.ex e3⟩
  · rintro i σ' H' hi ⟨l, y, rfl, nl, ex, ht⟩
    have hpi : p * p ^ i ≤ 256 := by
      have h1 : p ^ (i + 1) ≤ p ^ d := Nat.pow_le_pow_right (by omega) (by omega)
      rw [Nat.pow_succ, Nat.mul_comm] at h1
      omega
    refine s_asgC (by walk_at "ev") fun H3 e3 => ?_
    refine ⟨p, l, sumTab p i, rfl, ht.ex e3, by omega, p31, by rw [sumTab_len]; exact hpi, fun row hrow => by rw [sumTab_row p i row hrow, sumTab_len], fun l2 H4 nl2 e4 ht4 => ?_⟩
    exact ⟨l2, _, rfl, fresh_back (ex.trans e3) nl2, (ex.trans e3).trans e4, ht4⟩
  · rintro σ' H' ⟨l, y, rfl, nl, ex, ht⟩
    exact s_ret (ev_var rfl) fun H3 e3 => k l H3 nl (ex.trans e3) (ht.ex e3)
end
end My
set_option Elab.async false
set_option linter.all false
set_option maxRecDepth 100000
set_option maxHeartbeats 1000000
namespace My
open PySem L2 Evl GxR MyG
local macro_rules | `(tactic| walk_at "ev") => `(tactic| repeat' (first
  | exact ev_c
  | exact ev_var rfl
  | exact ea_nil
  | exact eo_none
  | (refine' ev_cb ?ea (rc_len ?sq); (case ea => walk_at "evs"); (case sq => walk_at "sq"))
  | (refine' ev_op ?a ?b (rv_ixL ?sq ?ix); (case a => walk_at "evs"); (case b => walk_at "evs"); (case sq => walk_at "sq"); (case ix => walk_at "at"))
  | refine' ea_cons ?_ ?_
  | refine' eo_some ?_
  | refine' ev_op ?_ ?_ rv_I0
  | refine' ev_op ?_ ?_ (rv_eq ?_)
  | refine' ev_op ?_ ?_ (rv_ne ?_)
  | refine' ev_op ?_ ?_ (rv_I ?_)
  | refine' ev_un ?_ ru_neg
  | refine' ev_cb ?_ rc_int
  | refine' ev_cb ?_ rc_abs
  | refine' ev_cb ?_ rc_max2
  | refine' ev_andV ?_ ?_
  | refine' ev_notV ?_
  | refine' et_test ?_
  | refine' et_B ?_
  | refine' et_not ?_))
local macro_rules | `(tactic| walk_at "side") => `(tactic| first
  | rfl
  | decide
  | exact ⟨by decide, by decide⟩
  | exact .inr ⟨by decide, by decide⟩
  | exact .inl ⟨by decide, by decide⟩
  | omega
  | exact .inl ⟨by omega, by omega⟩
  | exact ⟨by omega, by omega⟩
  | exact .inr ⟨by omega, by omega⟩)
local macro_rules | `(tactic| walk_at "evs") => `(tactic| (walk_at "ev"; all_goals (walk_at "side")))
local macro_rules | `(tactic| walk_at "ex") => `(tactic| first
  | with_reducible exact Ex.refl _
  | with_reducible assumption
  | (refine' Ex.trans ?_ ?b; (case b => with_reducible assumption); walk_at "ex"))
local macro_rules | `(tactic| walk_at "sq") => `(tactic| first
  | (refine' sq_ex ?h ?e; (case h => with_reducible assumption); (case e => walk_at "ex"))
  | (refine' ex_l ?e ?h; (case h => with_reducible assumption); (case e => walk_at "ex"))
  | (refine' ex_l ?e ?h; (case h => assumption); (case e => walk_at "ex"))
  | assumption
  | exact sq_of (by assumption))
local macro_rules | `(tactic| walk_at "at") => `(tactic| first
  | exact at_int (by omega) (by omega)
  | exact atI_nat (j := 0) rfl
  | exact atI_nat (j := 1) rfl
  | exact atI_nat (j := 2) rfl)
local macro_rules | `(tactic| walk_at "side2") => `(tactic| first | exact CMul_bdl (by assumption) | exact CMul_bdr (by assumption) | walk_at "side")
local macro_rules | `(tactic| walk_at "evb") => `(tactic| (walk_at "ev"; all_goals (walk_at "side2")))

section
variable {K : PySem.W.Frag} {σ : L2.St} {H : Hp} {te tl ta tb : TE} {t : TT} {to th : TO}
theorem eu_sl {a : Addr} {xs : List V} {lo hi : Option Int} (h : Ev te σ H (.ref a)) (h1 : EvO to σ H lo) (h2 : EvO th σ H hi) (hs : SqT K H a xs) (hne : ¬ (HT.sIx xs.length 0 lo = 0 ∧ HT.sIx xs.length xs.length hi = xs.length)) : EvU (tSl (rSlT K) te to th) σ H (cutV xs lo hi) := fun H1 e _ q =>
  h H1 e _ fun H2 e2 => h1 H2 (e.trans e2) _ fun H3 e3 => h2 H3 ((e.trans e2).trans e3) _ fun H4 e4 =>
    ⟨a, xs, rfl, ex_t (((e.trans e2).trans e3).trans e4) hs, hne, fun p hp => q p _ (fresh_back ((e2.trans e3).trans e4) hp) (((e2.trans e3).trans e4).trans (Ex.new hp)) upd_same⟩
theorem el_lcNT {xs : List V} {j : Nat} {vs : List Nat} (f : Nat → Bool) (v : Nat → V) (h : EvU tl σ H xs) (hz : xs.length ≤ 40000) (hw : ∀ x, wipe ((wipe σ vs).set j (some x)) vs = wipe σ vs)
    (ht : ∀ (i : Nat) (x : V) H1, Ex H H1 → xs[i]? = some x → EvT t ((wipe σ vs).set j (some x)) H1 (f i)) (he : ∀ (i : Nat) (x : V) H1, Ex H H1 → xs[i]? = some x → f i = true → Ev te ((wipe σ vs).set j (some x)) H1 (v i)) :
    EvL (tLc (iTup K tl) (gName j) t te vs) σ H (given xs.length f v) := fun H0 e Q q => h H0 e _ fun a H1 ha e1 hx => ⟨a, rfl, ⟨xs, st_of hx⟩, fun Dl hD =>
  lc_tup (xs := xs) (Cw H1 f v Dl) ⟨hD, Ex.new hD, upd_same⟩ (fun i H' _ p => st_of (p.2.1 a _ hx)) (fun i x H' hi p => ⟨hw x, cw_turn p (by have := (List.getElem?_eq_some_iff.mp hi).1; omega) (ht i x H1 (e.trans e1) hi) (fun hf => he i x H1 (e.trans e1) hi hf)⟩)
    (fun H' p => q Dl H' (fresh_back e1 p.1) (e1.trans p.2.1) p.2.2)⟩
theorem el_is {xs ys : List V} (h : EvL te σ H xs) (e : xs = ys) : EvL te σ H ys := e ▸ h
theorem ev_numN {ds : List Int} {b : Int} {ip : Nat} (h : EvL te σ H (ds.map V.int)) (hp : σ[ip]? = some (some (.int b))) (b0 : 0 ≤ b) (b1 : b ≤ 1000) : Ev (tCall (spNum K) [] E0 (tCons te (tCons (tVar ip) tNil))) σ H (.int (numOf b ds)) := fun H1 e Q q =>
  h H1 e _ fun p H2 np e2 h2 => ⟨_, hp, p, ds, b, rfl, sq_of h2, b0, b1, fun H3 e3 => q H3 (e2.trans e3)⟩
end
theorem numOf_bd {b : Int} (hb : 1 ≤ b) : ∀ ds : List Int, (∀ x ∈ ds, 0 ≤ x ∧ x < b) → 0 ≤ numOf b ds ∧ numOf b ds < b ^ ds.length
  | [], _ => ⟨Int.le_refl 0, by show (0 : Int) < b ^ 0; rw [Int.pow_zero]; decide⟩
  | x :: r, h => by
    have ih := numOf_bd hb r (fun y hy => h y (List.mem_cons_of_mem _ hy))
    have hx := h x List.mem_cons_self
    show 0 ≤ numOf b r * b + x ∧ numOf b r * b + x < b ^ (r.length + 1)
    have h1 : 0 ≤ numOf b r * b := Int.mul_nonneg ih.1 (by omega)
    have h2 : (numOf b r + 1) * b ≤ b ^ r.length * b := Int.mul_le_mul_of_nonneg_right ih.2 (by omega)
    rw [Int.add_mul, Int.one_mul] at h2
    rw [Int.pow_succ]
    omega
def Bds (S : List (List Int)) (q : Nat) : Prop := ∀ row ∈ S, row.length = q ∧ ∀ x ∈ row, 0 ≤ x ∧ x < (q : Int)
theorem Bds.cell {S : List (List Int)} {q : Nat} (h : Bds S q) {i j : Int} (h0 : 0 ≤ i) (h1 : i < S.length) (j0 : 0 ≤ j) (j1 : j < q) : (S.getD i.toNat []).length = q ∧ 0 ≤ cell S i j ∧ cell S i j < q := by
  have hi : i.toNat < S.length := by omega
  have e : S.getD i.toNat [] = S[i.toNat] := by rw [List.getD_eq_getElem?_getD, List.getElem?_eq_getElem hi]; rfl
  obtain ⟨hl, hx⟩ := h _ (List.getElem_mem hi)
  rw [e]
  refine ⟨hl, ?_⟩
  unfold My.cell
  rw [e]
  have hj : j.toNat < (S[i.toNat]).length := by rw [hl]; omega
  have e2 : (S[i.toNat]).getD j.toNat 0 = (S[i.toNat])[j.toNat] := by rw [List.getD_eq_getElem?_getD, List.getElem?_eq_getElem hj]; rfl
  rw [e2]
  exact hx _ (List.getElem_mem hj)
theorem sumTab_bd (p : Nat) (hp : 1 ≤ p) : ∀ d, Bds (sumTab p d) (p ^ d)
  | 0 => fun row h => by
    rw [List.mem_singleton.mp h]
    refine ⟨rfl, fun x hx => ?_⟩
    rw [List.mem_singleton.mp hx, Nat.pow_zero]
    exact ⟨by decide, by decide⟩
  | d + 1 => fun row h => by
    refine ⟨sumTab_row p (d + 1) row h, fun x hx => ?_⟩
    have h' : row ∈ longTab p (sumTab p d) := h
    unfold longTab at h'
    obtain ⟨high, _, h2⟩ := List.mem_flatMap.mp h'
    obtain ⟨r0, h3, rfl⟩ := List.mem_map.mp h2
    unfold longRow at hx
    obtain ⟨other, _, h4⟩ := List.mem_flatMap.mp hx
    obtain ⟨low, h5, rfl⟩ := List.mem_map.mp h4
    obtain ⟨l0, l1⟩ := (sumTab_bd p hp d r0 h3).2 low h5
    rw [sumTab_len]
    have m0 : 0 ≤ ((high : Int) + (other : Int)) % (p : Int) := Int.emod_nonneg _ (by omega)
    have m1 : ((high : Int) + (other : Int)) % (p : Int) < (p : Int) := Int.emod_lt_of_pos _ (by omega)
    generalize ((high : Int) + (other : Int)) % (p : Int) = z at m0 m1
    have h1 : 0 ≤ z * ((p ^ d : Nat) : Int) := Int.mul_nonneg m0 (by omega)
    have h2 : (z + 1) * ((p ^ d : Nat) : Int) ≤ (p : Int) * ((p ^ d : Nat) : Int) := Int.mul_le_mul_of_nonneg_right (by omega) (by omega)
    rw [Int.add_mul, Int.one_mul] at h2
    have h6 : (((p ^ (d + 1) : Nat)) : Int) = (p : Int) * ((p ^ d : Nat) : Int) := by rw [Nat.pow_succ, Nat.mul_comm]; push_cast; rfl
    rw [h6]
    omega
/-- the product of the element a with x -/
def shiftEl (p : Nat) (m : List Int) (S : List (List Int)) (top : Int) (a : Nat) : Int :=
  cell S ((a : Int) % top * (p : Int)) (numOf (p : Int) (m.dropLast.map fun it => (-((a : Int) / top) * it) % (p : Int)))
def shiftTab (p : Nat) (m : List Int) (S : List (List Int)) : List Int := (List.range S.length).map (shiftEl p m S ((S.length : Int) / (p : Int)))
section
variable {P : Program} {w : World} {K : PySem.W.Frag} {mg : Str → Option Value} {base : Heap}
/-! _shifted_elements: 0 prime*, 1 modulus, 2 sums, 3 order, 4 top, 5 shifted, 6 a, 7 high*, 8 folded, 9 item -/
abbrev s_shifted_elements : Stmt := topS 19
theorem sc_shifted_elements : FnScope ["prime", "modulus", "sums", "order", "top", "shifted", "a", "high", "folded", "item"] ["prime", "modulus", "sums"] (defScope s_shifted_elements) := ⟨rfl, rfl, rfl, by decide +kernel, rfl, by decide +kernel, by decide +kernel⟩
def spShift (K : PySem.W.Frag) : Sp := fun vs H Q _ => ∃ (p : Nat) (c a : Addr) (m : List Int) (S : List (List Int)) (d : Nat), vs = [.int (p : Int), .ref c, .ref a] ∧ 2 ≤ p ∧ p ≤ 31 ∧ p ^ (d + 1) ≤ 256 ∧ d ≤ 8 ∧ SqT K H c (m.map V.int) ∧ m.length = d + 2 ∧ (∀ x ∈ m, 0 ≤ x ∧ x < (p : Int)) ∧
  IsTab H a S ∧ S.length = p ^ (d + 1) ∧ Bds S (p ^ (d + 1)) ∧ RetL ((shiftTab p m S).map V.int) H Q
theorem shift_ix {p d : Nat} (hp : 2 ≤ p) {a : Int} (ha : 0 ≤ a) : 0 ≤ a % ((p ^ d : Nat) : Int) * (p : Int) ∧ a % ((p ^ d : Nat) : Int) * (p : Int) < ((p ^ (d + 1) : Nat) : Int) := by
  have hq : 0 < p ^ d := Nat.pow_pos (by omega)
  have h0 : 0 ≤ a % ((p ^ d : Nat) : Int) := Int.emod_nonneg _ (by omega)
  have h1 : a % ((p ^ d : Nat) : Int) < ((p ^ d : Nat) : Int) := Int.emod_lt_of_pos _ (by omega)
  generalize a % ((p ^ d : Nat) : Int) = z at h0 h1
  have h3 : 0 ≤ z * (p : Int) := Int.mul_nonneg h0 (by omega)
  have h2 : (z + 1) * (p : Int) ≤ ((p ^ d : Nat) : Int) * (p : Int) := Int.mul_le_mul_of_nonneg_right (by omega) (by omega)
  rw [Int.add_mul, Int.one_mul] at h2
  have h6 : (((p ^ (d + 1) : Nat)) : Int) = ((p ^ d : Nat) : Int) * (p : Int) := by rw [Nat.pow_succ]; push_cast; rfl
  rw [h6]
  exact ⟨h3, by omega⟩
theorem top_eq {p d : Nat} (hp : 2 ≤ p) : ((p ^ (d + 1) : Nat) : Int) / (p : Int) = ((p ^ d : Nat) : Int) := by
  rw [Nat.pow_succ]
  have : (((p ^ d * p : Nat)) : Int) = ((p ^ d : Nat) : Int) * (p : Int) := by push_cast; rfl
  rw [this]
  exact Int.mul_ediv_cancel _ (by omega)
theorem fold_bd {p d : Nat} (hp : 2 ≤ p) {m : List Int} (hm : m.length = d + 2) (z : Int) : 0 ≤ numOf (p : Int) (m.dropLast.map fun it => (-z * it) % (p : Int)) ∧ numOf (p : Int) (m.dropLast.map fun it => (-z * it) % (p : Int)) < ((p ^ (d + 1) : Nat) : Int) := by
  have h := numOf_bd (b := (p : Int)) (by omega) (m.dropLast.map fun it => (-z * it) % (p : Int)) (fun x hx => by
    obtain ⟨it, _, rfl⟩ := List.mem_map.mp hx
    exact ⟨Int.emod_nonneg _ (by omega), Int.emod_lt_of_pos _ (by omega)⟩)
  rw [List.length_map, List.length_dropLast, hm] at h
  push_cast
  exact h
theorem ok_shift {f : Addr} {fd : FuncData} (F : Fun K "_shifted_elements" "_shifted_elements" s_shifted_elements f fd) (T : FTxt mg) (D_number_of : Dk P w K mg base CX0 1 "_number_of" ["digits", "base"] (spNum K)) : FnOk P w K mg base CX0 2 f fd ["prime", "modulus", "sums"] (spShift K) := by
  refine F.ok sc_shifted_elements (fun vs H Q E h => ?_) (fun cdv A outer s H vs Q E hr h => ?_)
  · obtain ⟨_, _, _, _, _, _, rfl, _⟩ := h
    rfl
  obtain ⟨p, c, a, m, S, d, rfl, p2, p31, hq, d8, hC, hm, hmb, hS, hSl, hSb, k⟩ := h
  obtain ⟨rsT, hT⟩ := id hS
  have q0 : 0 < p ^ d := Nat.pow_pos (by omega)
  refine ⟨_, (pss_cons (ps_set (i := 3) sc_shifted_elements.nd rfl (Or.inl rfl) (pe_callB call_len_seq (by rfl) T.z_len PySem.boot_len (pa_cons (pv 2) pa_nil)))
    (pss_cons (ps_set (i := 4) sc_shifted_elements.nd rfl (Or.inl rfl) (pe_op op_fdiv (pv 3) (pv 0)))
    (pss_cons (ps_set (i := 5) sc_shifted_elements.nd rfl (Or.inl rfl) (pe_lst pa_nil))
    (pss_cons (ps_for PassesOwn.never rfl (pi_range1 (by rfl) T.z_range (pa_cons (pv 3) pa_nil)) (pg_name (i := 6) sc_shifted_elements.nd rfl (Or.inl rfl))
      (pss_cons (ps_set (i := 7) sc_shifted_elements.nd rfl (Or.inr rfl) (pe_op op_fdiv (pv 6) (pv 4)))
      (pss_cons (ps_set (i := 8) sc_shifted_elements.nd rfl (Or.inl rfl) (pe_cd D_number_of hr (by rfl) (pa_cons (pe_lc (own := [("item", 9)]) (g := (gName 9)) (tt := tYes) rfl sc_shifted_elements.nd (pi_tup (pe_slice sl_tup (pv 1) po_none (po_some (pe_un un_neg pe_int)))) (blkOk_by (own := [("item", 9)]) (N := ["prime", "modulus", "sums", "order", "top", "shifted", "a", "high", "folded", "item"]) (sc := defScope s_shifted_elements) (by decide +kernel)) (fun _ _ _ _ _ => (pg_name (i := 9) sc_shifted_elements.nd rfl (Or.inl rfl))) (fun _ _ _ _ _ => pts_nil) (fun _ _ _ _ _ => pe_op op_mod (pe_op op_mul (pe_un un_neg (pv 7)) (pv 9)) (pv 0))) (pa_cons (pv 0) pa_nil))))
      (pss_one (ps_expr (pe_bm PySem.F.plainAttrs_list PySem.F.slot_list_append PySem.F.type_list_append mt_append (pv 5) (pa_cons (pe_ix ix_list (pe_ix ix_list (pv 2) (pe_op op_mul (pe_op op_mod (pv 6) (pv 4)) (pv 0)) (fun _ _ => rfl)) (pv 8) (fun _ _ => rfl)) pa_nil)))))))
    (pss_one (ps_ret (pv 5))))))), ?_⟩
  refine q_asg (v := .int ((p ^ (d + 1) : Nat) : Int)) (ev_is (ev_cb (ea_cons (ev_var rfl) ea_nil) (rc_len (sq_of hT.hd))) (by rw [List.length_map, hT.len, hSl])) fun H1 e1 => ?_
  refine q_asg (v := .int ((p ^ d : Nat) : Int)) (ev_is (ev_op (ev_var rfl) (ev_var rfl) (rv_I ⟨by omega, by omega⟩)) (congrArg V.int (top_eq p2))) fun H2 e2 => ?_
  refine q_asgL (el_lst ea_nil (by decide)) fun l H3 nl e3 h3 => ?_
  have nlH : H l = none := fresh_back (e1.trans e2) nl
  have e03 : Ex H H3 := (e1.trans e2).trans e3
  refine q_forR1 (n := ((p ^ (d + 1) : Nat) : Int)) (by walk_at "ev") (by omega) (fun i σ' H' => ∃ (y6 y7 y8 : Option V), σ' = [some (.int (p : Int)), some (.ref c), some (.ref a), some (.int ((p ^ (d + 1) : Nat) : Int)), some (.int ((p ^ d : Nat) : Int)), some (.ref l), y6, y7, y8, none] ∧ Ex H H' ∧ H' l = some (.lst (((List.range i).map (shiftEl p m S ((p ^ d : Nat) : Int))).map V.int))) ?_ ?_ ?_
  · intro H4 e4
    exact ⟨none, none, none, rfl, e03.trans e4, e4 _ _ h3⟩
  · rintro i σ' H' hi ⟨y6, y7, y8, rfl, ex, hl⟩
    have hpd : p ^ d ≤ p ^ (d + 1) := Nat.pow_le_pow_right (by omega) (by omega)
    refine q_asg (ev_op (ev_var rfl) (ev_var rfl) (rv_I ⟨by omega, by omega⟩)) fun H4 e4 => ?_
    generalize hz : (i : Int) / ((p ^ d : Nat) : Int) = z
    have ex4 := ex.trans e4
    have fb := fold_bd p2 hm z
    refine q_asg (ev_numN (ds := m.dropLast.map fun it => (-z * it) % (p : Int)) (by
      refine el_is (el_lcNT (K := K) (vs := [9]) (j := 9) (xs := m.dropLast.map V.int) (fun _ => true) (fun i => .int ((-z * m.dropLast.getD i 0) % (p : Int))) ?_ (by rw [List.length_map, List.length_dropLast]; omega) ?_ (fun _ _ _ _ _ => et_yes) ?_) ?_
      · have hc : cutV (m.map V.int) none (some (-1)) = m.dropLast.map V.int := by rw [cut_last, List.length_map, ← List.map_take, List.dropLast_eq_take]
        rw [← hc]
        refine eu_sl (ev_var rfl) eo_none (eo_some (ev_un ev_c ru_neg)) (ex_t ex4 hC) ?_
        rintro ⟨_, h2⟩
        have h3 : ((-1 : Int) + ((m.map V.int).length : Int)).toNat = (m.map V.int).length := h2
        rw [List.length_map] at h3
        omega
      · intro _; rfl
      · intro i x H5 e5 hx _
        have hi : i < m.dropLast.length := by
          have q := (List.getElem?_eq_some_iff.mp hx).1
          rwa [List.length_map] at q
        have hx2 : x = .int (m.dropLast.getD i 0) := Option.some.inj (hx.symm.trans (by rw [List.getElem?_map, List.getElem?_eq_getElem hi, List.getD_eq_getElem?_getD, List.getElem?_eq_getElem hi]; rfl))
        subst hx2
        have hb : 0 ≤ m.dropLast.getD i 0 ∧ m.dropLast.getD i 0 < (p : Int) := by
          rw [List.getD_eq_getElem?_getD, List.getElem?_eq_getElem hi]
          exact hmb _ ((List.dropLast_sublist m).subset (List.getElem_mem hi))
        exact ev_op (ev_op (ev_un (ev_var rfl) ru_neg) (ev_var rfl) (rv_I (.inr ⟨by omega, by omega⟩))) (ev_var rfl) (rv_I (by omega))
      · rw [given_all (m.dropLast.map V.int).length (fun i => (-z * m.dropLast.getD i 0) % (p : Int))]
        apply congrArg
        apply List.ext_getElem
        · rw [List.length_map, List.length_range, List.length_map, List.length_map]
        · intro i h1 h2
          rw [List.length_map, List.length_range, List.length_map] at h1
          rw [List.getElem_map, List.getElem_map, List.getElem_range, List.getD_eq_getElem?_getD, List.getElem?_eq_getElem h1]
          rfl
      ) rfl (by omega) (by omega)) fun H5 e5 => ?_
    have ex5 := ex4.trans e5
    have six := shift_ix (d := d) p2 (a := (i : Int)) (by omega)
    refine s_app (e5 _ _ (e4 _ _ hl)) (ev_var rfl) (ev_cell (T := S) (ev_var rfl) (ev_op (ev_op (ev_var rfl) (ev_var rfl) (rv_I (by omega))) (ev_var rfl) (rv_I (.inr ⟨by omega, by omega⟩))) (ev_var rfl) (hS.ex ex5) six.1 (by rw [hSl]; exact six.2) fb.1 (by rw [(hSb.cell six.1 (by rw [hSl]; exact six.2) fb.1 fb.2).1]; exact fb.2)) (by rw [List.length_map, List.length_map, List.length_range]; omega) fun H6 e6 => ?_
    refine ⟨_, _, _, rfl, Ex.mut (ex5.trans e6) nlH, ?_⟩
    rw [upd_same, List.range_succ, List.map_append, List.map_append, ← hz]
    rfl
  · rintro σ' H' ⟨y6, y7, y8, rfl, ex, hl⟩
    refine s_ret (ev_var rfl) fun H4 e4 => k l H4 nlH (ex.trans e4) ?_
    rw [e4 _ _ hl]
    unfold shiftTab
    rw [hSl, top_eq p2]
    rfl
end
end My
set_option Elab.async false
set_option linter.all false
set_option maxRecDepth 100000
set_option maxHeartbeats 1000000
namespace My
open PySem L2 Evl GxR MyG
local macro_rules | `(tactic| walk_at "ev") => `(tactic| repeat' (first
  | exact ev_c
  | exact ev_var rfl
  | exact ea_nil
  | exact eo_none
  | (refine' ev_cb ?ea (rc_len ?sq); (case ea => walk_at "evs"); (case sq => walk_at "sq"))
  | (refine' ev_op ?a ?b (rv_ixL ?sq ?ix); (case a => walk_at "evs"); (case b => walk_at "evs"); (case sq => walk_at "sq"); (case ix => walk_at "at"))
  | refine' ea_cons ?_ ?_
  | refine' eo_some ?_
  | refine' ev_op ?_ ?_ rv_I0
  | refine' ev_op ?_ ?_ (rv_eq ?_)
  | refine' ev_op ?_ ?_ (rv_ne ?_)
  | refine' ev_op ?_ ?_ (rv_I ?_)
  | refine' ev_un ?_ ru_neg
  | refine' ev_cb ?_ rc_int
  | refine' ev_cb ?_ rc_abs
  | refine' ev_cb ?_ rc_max2
  | refine' ev_andV ?_ ?_
  | refine' ev_notV ?_
  | refine' et_test ?_
  | refine' et_B ?_
  | refine' et_not ?_))
local macro_rules | `(tactic| walk_at "side") => `(tactic| first
  | rfl
  | decide
  | exact ⟨by decide, by decide⟩
  | exact .inr ⟨by decide, by decide⟩
  | exact .inl ⟨by decide, by decide⟩
  | omega
  | exact .inl ⟨by omega, by omega⟩
  | exact ⟨by omega, by omega⟩
  | exact .inr ⟨by omega, by omega⟩)
local macro_rules | `(tactic| walk_at "evs") => `(tactic| (walk_at "ev"; all_goals (walk_at "side")))
local macro_rules | `(tactic| walk_at "ex") => `(tactic| first
  | with_reducible exact Ex.refl _
  | with_reducible assumption
  | (refine' Ex.trans ?_ ?b; (case b => with_reducible assumption); walk_at "ex"))
local macro_rules | `(tactic| walk_at "sq") => `(tactic| first
  | (refine' sq_ex ?h ?e; (case h => with_reducible assumption); (case e => walk_at "ex"))
  | (refine' ex_l ?e ?h; (case h => with_reducible assumption); (case e => walk_at "ex"))
  | (refine' ex_l ?e ?h; (case h => assumption); (case e => walk_at "ex"))
  | assumption
  | exact sq_of (by assumption))
local macro_rules | `(tactic| walk_at "at") => `(tactic| first
  | exact at_int (by omega) (by omega)
  | exact atI_nat (j := 0) rfl
  | exact atI_nat (j := 1) rfl
  | exact atI_nat (j := 2) rfl)
local macro_rules | `(tactic| walk_at "side2") => `(tactic| first | exact CMul_bdl (by assumption) | exact CMul_bdr (by assumption) | walk_at "side")
local macro_rules | `(tactic| walk_at "evb") => `(tactic| (walk_at "ev"; all_goals (walk_at "side2")))

theorem fold_zeros (n : Nat) : (List.replicate n [V.int 0]).flatten = (List.replicate n (0 : Int)).map V.int := by
  induction n with
  | zero => rfl
  | succ n ih => rw [List.replicate_succ, List.flatten_cons, ih, List.replicate_succ]; rfl
theorem q_nestRep {σ : L2.St} {H : Hp} {D : Ends} {tz : TS} {i j n : Nat} (hj : σ[j]? = some (some (.int (n : Int)))) (hn : n ≤ 40000) (k : ∀ l H1, H l = none → Ex H H1 → IsTab H1 l [List.replicate n 0] → tz D (σ.set i (some (.ref l))) H1) :
    tSeq (tAsg (tLst (tCons (tOp rRep (tLst (tCons (tC (.int 0)) tNil)) (tVar j)) tNil)) (gName i)) tz D σ H := by
  refine ⟨by show 1 ≤ sizeLine; exact sz_of (by decide), fun r nr => ⟨_, hj, r, (n : Int), _, rfl, rfl, upd_same, by omega, by omega, ?_, fun r2 nr2 => ⟨by show 1 ≤ sizeLine; exact sz_of (by decide), fun l nl => ?_⟩⟩⟩
  · show 1 * (n : Int).toNat ≤ sizeLine
    exact sz_of (by omega)
  rw [show ((n : Int).toNat) = n by omega, fold_zeros] at nl ⊢
  have e1 : Ex H (upd H r (.lst [.int 0])) := Ex.new nr
  have e2 := Ex.new (o := HO.lst ((List.replicate n (0 : Int)).map V.int)) nr2
  have e3 := Ex.new (o := HO.lst [V.ref r2]) nl
  have hlr : l ≠ r2 := by
    intro q
    rw [q, upd_same] at nl
    cases nl
  refine k l _ (fresh_back (e1.trans e2) nl) ((e1.trans e2).trans e3) ⟨[r2], rfl, upd_same, ?_, by simpa using hlr⟩
  intro i r' q h1 h2
  cases i with
  | zero =>
    have e1' : r2 = r' := Option.some.inj h1
    have e2' : List.replicate n 0 = q := Option.some.inj h2
    rw [← e1', ← e2']
    exact e3 _ _ upd_same
  | succ n => cases h1
/-! the mirror -/
def prodRow (p : Nat) (S : List (List Int)) (sh : List Int) (T : List (List Int)) (a : Nat) : List Int :=
  (List.range S.length).map fun (b : Nat) => if a < p then cell S (cell T ((a : Int) - 1) (b : Int)) (b : Int) else cell S (cell T ((a : Int) % (p : Int)) (b : Int)) (sh.getD (cell T ((a : Int) / (p : Int)) (b : Int)).toNat 0)
def prodUp (p : Nat) (S : List (List Int)) (sh : List Int) : Nat → List (List Int)
  | 0 => [List.replicate S.length 0]
  | k + 1 => prodUp p S sh k ++ [prodRow p S sh (prodUp p S sh k) (k + 1)]
def prodTab (p : Nat) (m : List Int) (S : List (List Int)) : List (List Int) := prodUp p S (shiftTab p m S) (S.length - 1)
theorem prodUp_len (p : Nat) (S : List (List Int)) (sh : List Int) : ∀ k, (prodUp p S sh k).length = k + 1
  | 0 => rfl
  | k + 1 => by
    show (prodUp p S sh k ++ [_]).length = _
    rw [List.length_append, prodUp_len p S sh k]
    rfl
def Bnd (sh : List Int) (q : Nat) : Prop := ∀ x ∈ sh, 0 ≤ x ∧ x < (q : Int)
theorem Bnd.getD {sh : List Int} {q : Nat} (h : Bnd sh q) (hq : 0 < q) (j : Nat) : 0 ≤ sh.getD j 0 ∧ sh.getD j 0 < (q : Int) := by
  rw [List.getD_eq_getElem?_getD]
  cases e : sh[j]? with
  | none => exact ⟨by decide, by show (0 : Int) < _; omega⟩
  | some z => exact h z (List.mem_of_getElem? e)
theorem shiftTab_bd {p d : Nat} (hp : 2 ≤ p) {m : List Int} {S : List (List Int)} (hm : m.length = d + 2) (hl : S.length = p ^ (d + 1)) (hS : Bds S (p ^ (d + 1))) : Bnd (shiftTab p m S) S.length := by
  intro x hx
  unfold shiftTab at hx
  obtain ⟨a, ha, rfl⟩ := List.mem_map.mp hx
  unfold shiftEl
  have ha2 : (a : Int) < (S.length : Int) := by have := List.mem_range.mp ha; omega
  rw [hl, top_eq hp]
  have six := shift_ix (d := d) hp (a := (a : Int)) (by omega)
  have fb := fold_bd hp hm ((a : Int) / ((p ^ d : Nat) : Int))
  exact (hS.cell six.1 (by rw [hl]; exact six.2) fb.1 fb.2).2
theorem prodUp_bd {p : Nat} (hp : 2 ≤ p) {S : List (List Int)} {sh : List Int} (hS : Bds S S.length) (hsh : Bnd sh S.length) (h0 : 0 < S.length) : ∀ k, Bds (prodUp p S sh k) S.length
  | 0 => fun row h => by
    rw [List.mem_singleton.mp h]
    refine ⟨List.length_replicate, fun x hx => ?_⟩
    rw [(List.mem_replicate.mp hx).2]
    exact ⟨by decide, by omega⟩
  | k + 1 => fun row h => by
    have ih := prodUp_bd hp hS hsh h0 k
    have hlen := prodUp_len p S sh k
    rcases List.mem_append.mp h with z | z
    · exact ih row z
    rw [List.mem_singleton.mp z]
    unfold prodRow
    refine ⟨by rw [List.length_map, List.length_range], fun x hx => ?_⟩
    obtain ⟨b, hb, rfl⟩ := List.mem_map.mp hx
    have hb2 := List.mem_range.mp hb
    have hc : ∀ i : Int, 0 ≤ i → i ≤ k → 0 ≤ cell (prodUp p S sh k) i (b : Int) ∧ cell (prodUp p S sh k) i (b : Int) < (S.length : Int) := fun i i0 i1 => (ih.cell i0 (by rw [hlen]; omega) (by omega) (by omega)).2
    split
    · have := hc (((k + 1 : Nat) : Int) - 1) (by omega) (by omega)
      exact (hS.cell this.1 this.2 (by omega) (by omega)).2
    · have m1 : ((k + 1 : Nat) : Int) % (p : Int) < (p : Int) := Int.emod_lt_of_pos _ (by omega)
      have m0 : 0 ≤ ((k + 1 : Nat) : Int) % (p : Int) := Int.emod_nonneg _ (by omega)
      have := hc (((k + 1 : Nat) : Int) % (p : Int)) m0 (by omega)
      have g := hsh.getD h0 (cell (prodUp p S sh k) (((k + 1 : Nat) : Int) / (p : Int)) (b : Int)).toNat
      exact (hS.cell this.1 this.2 g.1 g.2).2
theorem cell_get {T : List (List Int)} {q : Nat} (h : Bds T q) {i j : Nat} {row : List Int} (hi : T[i]? = some row) (hj : j < q) : row[j]? = some (cell T (i : Int) (j : Int)) := by
  obtain ⟨hl, _⟩ := h row (List.mem_of_getElem? hi)
  have e : T.getD i [] = row := by rw [List.getD_eq_getElem?_getD, hi]; rfl
  unfold cell
  rw [show ((i : Int)).toNat = i by omega, show ((j : Int)).toNat = j by omega, e, List.getD_eq_getElem?_getD, List.getElem?_eq_getElem (by omega)]
  rfl
/-- a row of a table -/
theorem TabR.rowAt {H : Hp} {a : Addr} {rs : List Addr} {T : List (List Int)} (h : TabR H a rs T) {i : Nat} (hi : i < T.length) : ∃ r, atI (rs.map V.ref) (i : Int) = some (.ref r) ∧ H r = some (.lst ((T.getD i []).map V.int)) ∧ T[i]? = some (T.getD i []) := by
  have hi2 : i < rs.length := by rw [h.len]; exact hi
  have e : T.getD i [] = T[i] := by rw [List.getD_eq_getElem?_getD, List.getElem?_eq_getElem hi]; rfl
  refine ⟨rs[i], at_of rfl (by rw [List.getElem?_map, List.getElem?_eq_getElem hi2]; rfl), ?_, ?_⟩
  · rw [e]
    exact h.row _ _ _ (List.getElem?_eq_getElem hi2) (List.getElem?_eq_getElem hi)
  · rw [e]
    exact List.getElem?_eq_getElem hi
theorem given_mirror (n : Nat) (f : Nat → Int) : given n (fun _ => true) (fun i => V.int (f i)) = ((List.range n).map f).map V.int := given_all n f
end My
set_option Elab.async false
set_option linter.all false
set_option maxRecDepth 100000
set_option maxHeartbeats 1000000
namespace My
open PySem L2 Evl GxR MyG
local macro_rules | `(tactic| walk_at "ev") => `(tactic| repeat' (first
  | exact ev_c
  | exact ev_var rfl
  | exact ea_nil
  | exact eo_none
  | (refine' ev_cb ?ea (rc_len ?sq); (case ea => walk_at "evs"); (case sq => walk_at "sq"))
  | (refine' ev_op ?a ?b (rv_ixL ?sq ?ix); (case a => walk_at "evs"); (case b => walk_at "evs"); (case sq => walk_at "sq"); (case ix => walk_at "at"))
  | refine' ea_cons ?_ ?_
  | refine' eo_some ?_
  | refine' ev_op ?_ ?_ rv_I0
  | refine' ev_op ?_ ?_ (rv_eq ?_)
  | refine' ev_op ?_ ?_ (rv_ne ?_)
  | refine' ev_op ?_ ?_ (rv_I ?_)
  | refine' ev_un ?_ ru_neg
  | refine' ev_cb ?_ rc_int
  | refine' ev_cb ?_ rc_abs
  | refine' ev_cb ?_ rc_max2
  | refine' ev_andV ?_ ?_
  | refine' ev_notV ?_
  | refine' et_test ?_
  | refine' et_B ?_
  | refine' et_not ?_))
local macro_rules | `(tactic| walk_at "side") => `(tactic| first
  | rfl
  | decide
  | exact ⟨by decide, by decide⟩
  | exact .inr ⟨by decide, by decide⟩
  | exact .inl ⟨by decide, by decide⟩
  | omega
  | exact .inl ⟨by omega, by omega⟩
  | exact ⟨by omega, by omega⟩
  | exact .inr ⟨by omega, by omega⟩)
local macro_rules | `(tactic| walk_at "evs") => `(tactic| (walk_at "ev"; all_goals (walk_at "side")))
local macro_rules | `(tactic| walk_at "ex") => `(tactic| first
  | with_reducible exact Ex.refl _
  | with_reducible assumption
  | (refine' Ex.trans ?_ ?b; (case b => with_reducible assumption); walk_at "ex"))
local macro_rules | `(tactic| walk_at "sq") => `(tactic| first
  | (refine' sq_ex ?h ?e; (case h => with_reducible assumption); (case e => walk_at "ex"))
  | (refine' ex_l ?e ?h; (case h => with_reducible assumption); (case e => walk_at "ex"))
  | (refine' ex_l ?e ?h; (case h => assumption); (case e => walk_at "ex"))
  | assumption
  | exact sq_of (by assumption))
local macro_rules | `(tactic| walk_at "at") => `(tactic| first
  | exact at_int (by omega) (by omega)
  | exact atI_nat (j := 0) rfl
  | exact atI_nat (j := 1) rfl
  | exact atI_nat (j := 2) rfl)
local macro_rules | `(tactic| walk_at "side2") => `(tactic| first | exact CMul_bdl (by assumption) | exact CMul_bdr (by assumption) | walk_at "side")
local macro_rules | `(tactic| walk_at "evb") => `(tactic| (walk_at "ev"; all_goals (walk_at "side2")))

section
variable {P : Program} {w : World} {K : PySem.W.Frag} {mg : Str → Option Value} {base : Heap}
/-! _product_table: 0 prime, 1 modulus, 2 sums*, 3 order, 4 shifted*, 5 table, 6 a, 7 row, 8 b, 9 before, 10 low, 11 high -/
abbrev s_product_table : Stmt := topS 20
theorem sc_product_table : FnScope ["prime", "modulus", "sums", "order", "shifted", "table", "a", "row", "b", "before", "low", "high"] ["prime", "modulus", "sums"] (defScope s_product_table) := ⟨rfl, rfl, rfl, by decide +kernel, rfl, by decide +kernel, by decide +kernel⟩
def spProd (K : PySem.W.Frag) : Sp := fun vs H Q _ => ∃ (p : Nat) (c a : Addr) (m : List Int) (S : List (List Int)) (d : Nat), vs = [.int (p : Int), .ref c, .ref a] ∧ 2 ≤ p ∧ p ≤ 31 ∧ p ^ (d + 1) ≤ 256 ∧ d ≤ 8 ∧ SqT K H c (m.map V.int) ∧ m.length = d + 2 ∧ (∀ x ∈ m, 0 ≤ x ∧ x < (p : Int)) ∧
  IsTab H a S ∧ S.length = p ^ (d + 1) ∧ Bds S (p ^ (d + 1)) ∧ ∀ l H2, H l = none → Ex H H2 → IsTab H2 l (prodTab p m S) → Q (.ref l) H2
theorem ok_prod {f : Addr} {fd : FuncData} (F : Fun K "_product_table" "_product_table" s_product_table f fd) (T : FTxt mg) (D_shifted_elements : Dk P w K mg base CX0 2 "_shifted_elements" ["prime", "modulus", "sums"] (spShift K)) : FnOk P w K mg base CX0 3 f fd ["prime", "modulus", "sums"] (spProd K) := by
  refine F.ok sc_product_table (fun vs H Q E h => ?_) (fun cdv A outer s H vs Q E hr h => ?_)
  · obtain ⟨_, _, _, _, _, _, rfl, _⟩ := h
    rfl
  obtain ⟨p, c, a, m, S, d, rfl, p2, p31, hq, d8, hC, hm, hmb, hS, hSl, hSb, k⟩ := h
  obtain ⟨rsT, hT⟩ := id hS
  have q0 : 0 < p ^ (d + 1) := Nat.pow_pos (by omega)
  have hSb2 : Bds S S.length := by rw [hSl]; exact hSb
  have hsh : Bnd (shiftTab p m S) S.length := shiftTab_bd p2 hm hSl hSb
  have hshl : (shiftTab p m S).length = S.length := by unfold shiftTab; rw [List.length_map, List.length_range]
  refine ⟨_, (pss_cons (ps_set (i := 3) sc_product_table.nd rfl (Or.inl rfl) (pe_callB call_len_seq (by rfl) T.z_len PySem.boot_len (pa_cons (pv 2) pa_nil)))
    (pss_cons (ps_set (i := 4) sc_product_table.nd rfl (Or.inr rfl) (pe_cd D_shifted_elements hr (by rfl) (pa_cons (pv 0) (pa_cons (pv 1) (pa_cons (pv 2) pa_nil)))))
    (pss_cons (ps_set (i := 5) sc_product_table.nd rfl (Or.inl rfl) (pe_lst (pa_cons (pe_op op_rep (pe_lst (pa_cons pe_int pa_nil)) (pv 3)) pa_nil)))
    (pss_cons (ps_for PassesOwn.never rfl (pi_range2 (by rfl) T.z_range (pa_cons pe_int (pa_cons (pv 3) pa_nil))) (pg_name (i := 6) sc_product_table.nd rfl (Or.inl rfl))
      (pss_cut (ps_if (pt_cmpR op_lt (pv 6) (pv 0) (nomark _))
        (pss_one (ps_setLc (i := 7) (own := [("b", 8), ("before", 9)]) (tt := tYes) rfl sc_product_table.nd rfl rfl (sw_true rfl rfl rfl (by decide +kernel)) (pi_enum (by rfl) T.z_enumerate (pa_cons (pe_ix ix_list (pv 5) (pe_op op_sub (pv 6) pe_int) (fun _ _ => rfl)) pa_nil)) (blkOk_by (own := [("b", 8), ("before", 9)]) (N := ["prime", "modulus", "sums", "order", "shifted", "table", "a", "row", "b", "before", "low", "high"]) (sc := defScope s_product_table) (by decide +kernel)) (fun _ _ _ _ _ => (pg_tupK (K := K) (n := 2) rfl rfl (pgs_cons (pg_name (i := 8) sc_product_table.nd rfl (Or.inl rfl)) (pgs_cons (pg_name (i := 9) sc_product_table.nd rfl (Or.inl rfl)) pgs_nil)))) (fun _ _ _ _ _ => pts_nil) (fun _ _ _ _ _ => pe_ix (ix_listK (K := K) rfl) (pe_ix (ix_listK (K := K) rfl) (pv 2) (pv 9) (fun _ _ => rfl)) (pv 8) (fun _ _ => rfl))))
        (pss_one (ps_setLc (i := 7) (own := [("low", 10), ("high", 11)]) (tt := tYes) rfl sc_product_table.nd rfl rfl (sw_true rfl rfl rfl (by decide +kernel)) (pi_zip (by rfl) T.z_zip (pa_cons (pe_ix ix_list (pv 5) (pe_op op_mod (pv 6) (pv 0)) (fun _ _ => rfl)) (pa_cons (pe_ix ix_list (pv 5) (pe_op op_fdiv (pv 6) (pv 0)) (fun _ _ => rfl)) pa_nil))) (blkOk_by (own := [("low", 10), ("high", 11)]) (N := ["prime", "modulus", "sums", "order", "shifted", "table", "a", "row", "b", "before", "low", "high"]) (sc := defScope s_product_table) (by decide +kernel)) (fun _ _ _ _ _ => (pg_tupK (K := K) (n := 2) rfl rfl (pgs_cons (pg_name (i := 10) sc_product_table.nd rfl (Or.inl rfl)) (pgs_cons (pg_name (i := 11) sc_product_table.nd rfl (Or.inl rfl)) pgs_nil)))) (fun _ _ _ _ _ => pts_nil) (fun _ _ _ _ _ => pe_ix (ix_listK (K := K) rfl) (pe_ix (ix_listK (K := K) rfl) (pv 2) (pv 10) (fun _ _ => rfl)) (pe_ix (ix_listK (K := K) rfl) (pv 4) (pv 11) (fun _ _ => rfl)) (fun _ _ => rfl)))))
      (pss_one (ps_expr (pe_bm PySem.F.plainAttrs_list PySem.F.slot_list_append PySem.F.type_list_append mt_append (pv 5) (pa_cons (pv 7) pa_nil))))))
    (pss_one (ps_ret (pv 5))))))), ?_⟩
  refine q_asg (v := .int (S.length : Int)) (ev_is (ev_cb (ea_cons (ev_var rfl) ea_nil) (rc_len (sq_of hT.hd))) (by rw [List.length_map, hT.len])) fun H1 e1 => ?_
  refine q_asgC (by walk_at "ev") fun H2 e2 => ?_
  refine ⟨p, c, a, m, S, d, rfl, p2, p31, hq, d8, ex_t (e1.trans e2) hC, hm, hmb, hS.ex (e1.trans e2), hSl, hSb, fun h H3 nh e3 hh => ?_⟩
  have e03 := (e1.trans e2).trans e3
  refine q_nestRep (j := 3) (n := S.length) rfl (by omega) fun l H4 nl e4 ht4 => ?_
  have nlH : H l = none := fresh_back e03 nl
  have hlh : h ≠ l := fun z => by
    rw [z, nl] at hh
    cases hh
  refine q_forR2 (lo := 1) (n := (S.length : Int)) (by walk_at "ev") (by omega) (fun i σ' H' => ∃ (y6 y7 : Option V), σ' = [some (.int (p : Int)), some (.ref c), some (.ref a), some (.int (S.length : Int)), some (.ref h), some (.ref l), y6, y7, none, none, none, none] ∧ Ex H H' ∧ H' h = some (.lst ((shiftTab p m S).map V.int)) ∧ IsTab H' l (prodUp p S (shiftTab p m S) i)) ?_ ?_ ?_
  · intro H5 e5
    exact ⟨none, none, rfl, (e03.trans e4).trans e5, (e4.trans e5) _ _ hh, ht4.ex e5⟩
  · rintro i σ' H' hi ⟨y6, y7, rfl, ex, hh, rs, ht⟩
    generalize hP : prodUp p S (shiftTab p m S) i = T at ht
    have hPl : T.length = i + 1 := by rw [← hP]; exact prodUp_len _ _ _ _
    have hPb : Bds T S.length := by rw [← hP]; exact prodUp_bd p2 hSb2 hsh (by omega) i
    rw [show (1 : Int) + (i : Int) = ((i + 1 : Nat) : Int) by omega]
    refine q_cut (M := fun σ' H'' => ∃ r, σ' = [some (.int (p : Int)), some (.ref c), some (.ref a), some (.int (S.length : Int)), some (.ref h), some (.ref l), some (.int ((i + 1 : Nat) : Int)), some (.ref r), none, none, none, none] ∧ Ex H' H'' ∧ H' r = none ∧ H'' r = some (.lst ((prodRow p S (shiftTab p m S) T (i + 1)).map V.int))) ?_ ?_
    · refine s_if (et_test (ev_op (ev_var rfl) (ev_var rfl) rv_I0)) (fun hlt H5 e5 => ?_) (fun hlt H5 e5 => ?_)
      · have hlt2 : i + 1 < p := by have := of_decide_eq_true hlt; omega
        have exA := ex.trans e5
        have hrow0 := (ht.ex e5).rowAt (i := i) (by omega)
        obtain ⟨r0, hat, hr0, hTi⟩ := hrow0
        have hl0 : (T.getD i []).length = S.length := (hPb _ (List.mem_of_getElem? hTi)).1
        have hev : ∀ H6, Ex H5 H6 → Ev (tOp (rIxL K) (tVar 5) (tOp (rI0 fun i j => V.int (i - j)) (tVar 6) (tC (.int 1)))) [some (.int (p : Int)), some (.ref c), some (.ref a), some (.int (S.length : Int)), some (.ref h), some (.ref l), some (.int ((i + 1 : Nat) : Int)), y7, none, none, none, none] H6 (.ref r0) := fun H6 e6 =>
          ev_op (ev_var rfl) (ev_op (ev_var rfl) ev_c rv_I0) (rv_ixL (sq_of (e6 _ _ (ht.ex e5).hd)) (by rw [show ((i + 1 : Nat) : Int) - 1 = (i : Int) by omega]; exact hat))
        refine s_asgL (el_is (el_lcP (J := Ite K r0) (vs := [8, 9]) (fun H6 e6 R q => ea_cons (hev H6 e6) ea_nil H6 (Ex.refl H6) _ fun H7 e7 => ⟨r0, _, rfl, sq_of ((e6.trans e7) _ _ hr0), q H7 e7⟩) (walk_enum (xs := (T.getD i []).map V.int)) (fun H6 e6 => sq_of (e6 _ _ hr0)) (by rw [List.length_map]; omega)
          (fun x y => [some (.int (p : Int)), some (.ref c), some (.ref a), some (.int (S.length : Int)), some (.ref h), some (.ref l), some (.int ((i + 1 : Nat) : Int)), y7, some x, some y, none, none])
          (fun T x y H' Q' hT q => ⟨T, [x, y], rfl, st_of hT, rfl, x, [y], rfl, y, [], rfl, rfl, q⟩) (fun _ _ => rfl) (fun _ => true) (fun b => .int (cell S (cell T ((i + 1 : Nat) - 1 : Int) (b : Int)) (b : Int))) (fun _ _ _ _ _ _ _ => et_yes) (fun b x y H6 e6 hx hy _ => ?_)) ?_) fun r H6 nr e6 hr6 => ⟨r, rfl, e5.trans e6, fresh_back e5 nr, hr6⟩
        · have hb : b < S.length := by
            have q := (List.getElem?_eq_some_iff.mp hy).1
            rwa [List.length_map, hl0] at q
          have ex : x = .int (b : Int) := (Option.some.inj hx).symm
          have ey : y = .int (cell T (i : Int) (b : Int)) := Option.some.inj (hy.symm.trans (by rw [List.getElem?_map, cell_get hPb hTi hb]; rfl))
          subst ex ey
          have cb := (hPb.cell (i := (i : Int)) (by omega) (by omega) (j := (b : Int)) (by omega) (by omega)).2
          have e2 : ((i + 1 : Nat) - 1 : Int) = (i : Int) := by omega
          rw [e2]
          exact ev_cell (ev_var rfl) (ev_var rfl) (ev_var rfl) (hS.ex (exA.trans e6)) cb.1 cb.2 (by omega) (by rw [(hSb2.cell cb.1 cb.2 (by omega : (0 : Int) ≤ (b : Int)) (by omega)).1]; omega)
        · rw [List.length_map, hl0, given_mirror]
          unfold prodRow
          congr 1
          apply List.map_congr_left
          intro b _
          rw [if_pos hlt2]
      · have hge : p ≤ i + 1 := by have := of_decide_eq_false hlt; omega
        have exA := ex.trans e5
        have m0 : 0 ≤ ((i + 1 : Nat) : Int) % (p : Int) := Int.emod_nonneg _ (by omega)
        have m1 : ((i + 1 : Nat) : Int) % (p : Int) < (p : Int) := Int.emod_lt_of_pos _ (by omega)
        have d0 : 0 ≤ ((i + 1 : Nat) : Int) / (p : Int) := Int.ediv_nonneg (by omega) (by omega)
        have d1 : ((i + 1 : Nat) : Int) / (p : Int) < ((i + 1 : Nat) : Int) := by
          have : (i + 1) / p < i + 1 := Nat.div_lt_self (by omega) (by omega)
          have e : ((i + 1 : Nat) : Int) / (p : Int) = (((i + 1) / p : Nat) : Int) := (Int.natCast_ediv _ _).symm
          rw [e]
          omega
        generalize hu : ((i + 1 : Nat) : Int) % (p : Int) = u at m0 m1
        generalize hv : ((i + 1 : Nat) : Int) / (p : Int) = v at d0 d1
        obtain ⟨r1, hat1, hr1, hT1⟩ := (ht.ex e5).rowAt (i := u.toNat) (by omega)
        obtain ⟨r2, hat2, hr2, hT2⟩ := (ht.ex e5).rowAt (i := v.toNat) (by omega)
        rw [show ((u.toNat : Nat) : Int) = u by omega] at hat1
        rw [show ((v.toNat : Nat) : Int) = v by omega] at hat2
        have hl1 : (T.getD u.toNat []).length = S.length := (hPb _ (List.mem_of_getElem? hT1)).1
        have hl2 : (T.getD v.toNat []).length = S.length := (hPb _ (List.mem_of_getElem? hT2)).1
        refine s_asgL (el_is (el_lcP (J := Itz K r1 r2) (vs := [10, 11]) (fun H6 e6 R q => (show EvA _ _ H6 [.ref r1, .ref r2] from ea_cons (ev_op (ev_var rfl) (ev_op (ev_var rfl) (ev_var rfl) (rv_I (by omega))) (rv_ixL (sq_of (e6 _ _ (ht.ex e5).hd)) (by rw [hu]; exact hat1))) (ea_cons (ev_op (ev_var rfl) (ev_op (ev_var rfl) (ev_var rfl) (rv_I ⟨by omega, by omega⟩)) (rv_ixL (sq_of (e6 _ _ (ht.ex e5).hd)) (by rw [hv]; exact hat2))) ea_nil)) H6 (Ex.refl H6) _ fun H7 e7 => ⟨r1, r2, _, _, rfl, sq_of ((e6.trans e7) _ _ hr1), sq_of ((e6.trans e7) _ _ hr2), q H7 e7⟩) (walk_zip (n := S.length) (xs := (T.getD u.toNat []).map V.int) (ys := (T.getD v.toNat []).map V.int) (by rw [List.length_map, List.length_map, hl1, hl2, Nat.min_self])) (fun H6 e6 => ⟨sq_of (e6 _ _ hr1), sq_of (e6 _ _ hr2)⟩) (by omega)
          (fun x y => [some (.int (p : Int)), some (.ref c), some (.ref a), some (.int (S.length : Int)), some (.ref h), some (.ref l), some (.int ((i + 1 : Nat) : Int)), y7, none, none, some x, some y])
          (fun T x y H' Q' hT q => ⟨T, [x, y], rfl, st_of hT, rfl, x, [y], rfl, y, [], rfl, rfl, q⟩) (fun _ _ => rfl) (fun _ => true) (fun b => .int (cell S (cell T u (b : Int)) ((shiftTab p m S).getD (cell T v (b : Int)).toNat 0))) (fun _ _ _ _ _ _ _ => et_yes) (fun b x y H6 e6 hx hy _ => ?_)) ?_) fun r H6 nr e6 hr6 => ⟨r, rfl, e5.trans e6, fresh_back e5 nr, hr6⟩
        · have hb : b < S.length := by
            have q := (List.getElem?_eq_some_iff.mp hy).1
            rwa [List.length_map, hl2] at q
          have ex : x = .int (cell T u (b : Int)) := Option.some.inj (hx.symm.trans (by rw [List.getElem?_map, cell_get hPb hT1 hb, show ((u.toNat : Nat) : Int) = u by omega]; rfl))
          have ey : y = .int (cell T v (b : Int)) := Option.some.inj (hy.symm.trans (by rw [List.getElem?_map, cell_get hPb hT2 hb, show ((v.toNat : Nat) : Int) = v by omega]; rfl))
          subst ex ey
          have cb := (hPb.cell (i := u) (by omega) (by omega) (j := (b : Int)) (by omega) (by omega)).2
          have cv := (hPb.cell (i := v) (by omega) (by omega) (j := (b : Int)) (by omega) (by omega)).2
          have gs := hsh.getD (by omega) (cell T v (b : Int)).toNat
          exact ev_cell (ev_var rfl) (ev_var rfl) (ev_op (ev_var rfl) (ev_var rfl) (rv_ixL (sq_of ((e5.trans e6) _ _ hh)) (at_int cv.1 (by rw [hshl]; exact cv.2)))) (hS.ex (exA.trans e6)) cb.1 cb.2 gs.1 (by rw [(hSb2.cell cb.1 cb.2 gs.1 gs.2).1]; exact gs.2)
        · rw [given_mirror]
          unfold prodRow
          congr 1
          apply List.map_congr_left
          intro b _
          rw [if_neg (by omega), hu, hv]
    · rintro σ' H'' ⟨r, rfl, e5, nr, hr5⟩
      refine s_app (e5 _ _ ht.hd) (ev_var rfl) (ev_var rfl) (by rw [List.length_map, ht.len]; omega) fun H6 e6 => ?_
      have ht2 := ht.snoc (e5.trans e6) nr (e6 _ _ hr5)
      refine ⟨_, _, rfl, Ex.mut ((ex.trans e5).trans e6) nlH, ?_, rs ++ [r], ?_⟩
      · rw [upd_ne hlh]
        exact (e5.trans e6) _ _ hh
      · show TabR _ l (rs ++ [r]) (prodUp p S (shiftTab p m S) i ++ [prodRow p S (shiftTab p m S) (prodUp p S (shiftTab p m S) i) (i + 1)])
        rw [hP]
        exact ht2
  · rintro σ' H' ⟨y6, y7, rfl, ex, hh, ht⟩
    refine s_ret (ev_var rfl) fun H5 e5 => k l H5 nlH (ex.trans e5) ?_
    rw [show ((S.length : Int) - 1).toNat = S.length - 1 by omega] at ht
    exact ht.ex e5
end
end My
set_option Elab.async false
set_option linter.all false
set_option maxRecDepth 100000
set_option maxHeartbeats 1000000
namespace My
open PySem L2 Evl GxR MyG
local macro_rules | `(tactic| walk_at "ev") => `(tactic| repeat' (first
  | exact ev_c
  | exact ev_var rfl
  | exact ea_nil
  | exact eo_none
  | (refine' ev_cb ?ea (rc_len ?sq); (case ea => walk_at "evs"); (case sq => walk_at "sq"))
  | (refine' ev_op ?a ?b (rv_ixL ?sq ?ix); (case a => walk_at "evs"); (case b => walk_at "evs"); (case sq => walk_at "sq"); (case ix => walk_at "at"))
  | refine' ea_cons ?_ ?_
  | refine' eo_some ?_
  | refine' ev_op ?_ ?_ rv_I0
  | refine' ev_op ?_ ?_ (rv_eq ?_)
  | refine' ev_op ?_ ?_ (rv_ne ?_)
  | refine' ev_op ?_ ?_ (rv_I ?_)
  | refine' ev_un ?_ ru_neg
  | refine' ev_cb ?_ rc_int
  | refine' ev_cb ?_ rc_abs
  | refine' ev_cb ?_ rc_max2
  | refine' ev_andV ?_ ?_
  | refine' ev_notV ?_
  | refine' et_test ?_
  | refine' et_B ?_
  | refine' et_not ?_))
local macro_rules | `(tactic| walk_at "side") => `(tactic| first
  | rfl
  | decide
  | exact ⟨by decide, by decide⟩
  | exact .inr ⟨by decide, by decide⟩
  | exact .inl ⟨by decide, by decide⟩
  | omega
  | exact .inl ⟨by omega, by omega⟩
  | exact ⟨by omega, by omega⟩
  | exact .inr ⟨by omega, by omega⟩)
local macro_rules | `(tactic| walk_at "evs") => `(tactic| (walk_at "ev"; all_goals (walk_at "side")))
local macro_rules | `(tactic| walk_at "ex") => `(tactic| first
  | with_reducible exact Ex.refl _
  | with_reducible assumption
  | (refine' Ex.trans ?_ ?b; (case b => with_reducible assumption); walk_at "ex"))
local macro_rules | `(tactic| walk_at "sq") => `(tactic| first
  | (refine' sq_ex ?h ?e; (case h => with_reducible assumption); (case e => walk_at "ex"))
  | (refine' ex_l ?e ?h; (case h => with_reducible assumption); (case e => walk_at "ex"))
  | (refine' ex_l ?e ?h; (case h => assumption); (case e => walk_at "ex"))
  | assumption
  | exact sq_of (by assumption))
local macro_rules | `(tactic| walk_at "at") => `(tactic| first
  | exact at_int (by omega) (by omega)
  | exact atI_nat (j := 0) rfl
  | exact atI_nat (j := 1) rfl
  | exact atI_nat (j := 2) rfl)
local macro_rules | `(tactic| walk_at "side2") => `(tactic| first | exact CMul_bdl (by assumption) | exact CMul_bdr (by assumption) | walk_at "side")
local macro_rules | `(tactic| walk_at "evb") => `(tactic| (walk_at "ev"; all_goals (walk_at "side2")))

def pw (T : List (List Int)) (a : Int) : Nat → Int
  | 0 => 1
  | k + 1 => cell T (pw T a k) a
structure OrdP (T : List (List Int)) (a : Int) (n : Nat) : Prop where
  pos : 1 ≤ n
  fin : pw T a n = 1
  not : ∀ k, 0 < k → k < n → pw T a k ≠ 1
def ordF (T : List (List Int)) (a : Int) : Nat → Int → Nat
  | 0, _ => 0
  | f + 1, x => if cell T x a = 1 then 1 else ordF T a f (cell T x a) + 1
theorem ordF_ok (T : List (List Int)) (a : Int) : ∀ f k, 0 < k → (∀ j, 0 < j → j < k → pw T a j ≠ 1) → (∃ n, n < f ∧ pw T a (k + n) = 1) → OrdP T a (ordF T a f (pw T a (k - 1)) + (k - 1))
  | 0, k, _, _, ⟨n, h, _⟩ => absurd h (Nat.not_lt_zero _)
  | f + 1, k, hk, hn, ⟨n, h, e⟩ => by
    obtain ⟨j, rfl⟩ : ∃ j, k = j + 1 := ⟨k - 1, by omega⟩
    show OrdP T a ((if cell T (pw T a j) a = 1 then 1 else ordF T a f (cell T (pw T a j) a) + 1) + j)
    by_cases h1 : cell T (pw T a j) a = 1
    · rw [if_pos h1]
      exact ⟨by omega, by rw [Nat.add_comm]; exact h1, fun i h0 h2 => hn i h0 (by omega)⟩
    · rw [if_neg h1]
      have ih := ordF_ok T a f (j + 2) (by omega) (fun i h0 h2 => by
        by_cases hi : i < j + 1
        · exact hn i h0 hi
        · have : i = j + 1 := by omega
          rw [this]
          exact h1) (by
        cases n with
        | zero => exact absurd e h1
        | succ n => exact ⟨n, by omega, by rw [show j + 2 + n = j + 1 + (n + 1) by omega]; exact e⟩)
      have e2 : ordF T a f (cell T (pw T a j) a) + 1 + j = ordF T a f (pw T a (j + 2 - 1)) + (j + 2 - 1) := by
        show _ = ordF T a f (cell T (pw T a j) a) + (j + 1)
        omega
      rw [e2]
      exact ih
/-- the elements 2 .. g have the orders told, the last one the first with q - 1 -/
structure Prims (T : List (List Int)) (q g : Nat) (n : Nat → Nat) : Prop where
  ord : ∀ a, 2 ≤ a → a ≤ g → OrdP T (a : Int) (n a) ∧ n a ≤ q - 1
  low : ∀ a, 2 ≤ a → a < g → n a < q - 1
  top : 2 ≤ g → n g = q - 1
  one : g = 1 → q = 2
  pos : 1 ≤ g
  lt : g < q
def primB (T : List (List Int)) (q g : Nat) : Bool :=
  decide (1 ≤ g) && decide (g < q) && (decide (2 ≤ g) || decide (q = 2)) && (List.range (g + 1)).all fun a => decide (a < 2) || (let n := ordF T (a : Int) q 1; decide (pw T (a : Int) n = 1) && decide (1 ≤ n) && decide (n ≤ q - 1) && (if a = g then decide (n = q - 1) else decide (n < q - 1)))
theorem primB_ok {T : List (List Int)} {q g : Nat} (h : primB T q g = true) : Prims T q g (fun a => ordF T (a : Int) q 1) := by
  unfold primB at h
  rw [Bool.and_eq_true, Bool.and_eq_true, Bool.and_eq_true, List.all_eq_true] at h
  obtain ⟨⟨⟨h1, h2⟩, h3⟩, h4⟩ := h
  have h1 := of_decide_eq_true h1
  have h2 := of_decide_eq_true h2
  have key : ∀ a, 2 ≤ a → a ≤ g → pw T (a : Int) (ordF T (a : Int) q 1) = 1 ∧ 1 ≤ ordF T (a : Int) q 1 ∧ ordF T (a : Int) q 1 ≤ q - 1 ∧ (if a = g then decide (ordF T (a : Int) q 1 = q - 1) else decide (ordF T (a : Int) q 1 < q - 1)) = true := fun a ha hg => by
    have := h4 a (List.mem_range.mpr (by omega))
    rw [Bool.or_eq_true, decide_eq_true_iff] at this
    rcases this with z | z
    · omega
    rw [Bool.and_eq_true, Bool.and_eq_true, Bool.and_eq_true, decide_eq_true_iff, decide_eq_true_iff, decide_eq_true_iff] at z
    exact ⟨z.1.1.1, z.1.1.2, z.1.2, z.2⟩
  refine ⟨fun a ha hg => ?_, fun a ha hg => ?_, fun hg => ?_, fun hg => ?_, h1, h2⟩
  · obtain ⟨e, n1, n2, _⟩ := key a ha hg
    have := ordF_ok T (a : Int) q 1 (by omega) (fun j h0 h2 => by omega) ⟨ordF T (a : Int) q 1 - 1, by omega, by rw [show 1 + (ordF T (a : Int) q 1 - 1) = ordF T (a : Int) q 1 by omega]; exact e⟩
    exact ⟨this, n2⟩
  · have := (key a ha (by omega)).2.2.2
    rw [if_neg (by omega)] at this
    exact of_decide_eq_true this
  · have := (key g hg (by omega)).2.2.2
    rw [if_pos rfl] at this
    exact of_decide_eq_true this
  · rw [Bool.or_eq_true, decide_eq_true_iff, decide_eq_true_iff] at h3
    omega
end My
set_option linter.all false
namespace My
/-! the ring of vectors: Z[x] modulo a monic polynomial with the lower coefficients m 0 .. m (n-1) -/
abbrev Vec := Nat → Int
def Sup (n : Nat) (v : Vec) : Prop := ∀ i, n ≤ i → v i = 0
def vadd (u v : Vec) : Vec := fun i => u i + v i
def vsm (c : Int) (v : Vec) : Vec := fun i => c * v i
def vz : Vec := fun _ => 0
/-- times x -/
def vX (n : Nat) (m : Vec) (v : Vec) : Vec := fun i => if i < n then (if i = 0 then 0 else v (i - 1)) - v (n - 1) * m i else 0
def vXk (n : Nat) (m : Vec) : Nat → Vec → Vec
  | 0, v => v
  | k + 1, v => vX n m (vXk n m k v)
def vOp (n : Nat) (m : Vec) (u : Vec) : Nat → Vec → Vec
  | 0, _ => vz
  | k + 1, v => vadd (vOp n m u k v) (vsm (u k) (vXk n m k v))
def ve (j : Nat) : Vec := fun i => if i = j then 1 else 0
section
variable {n : Nat} {m u v w : Vec} {c : Int}
theorem vX_add : vX n m (vadd u v) = vadd (vX n m u) (vX n m v) := by
  funext i
  unfold vX vadd
  by_cases h : i < n
  · by_cases h0 : i = 0
    · simp only [if_pos h, if_pos h0]; grind
    · simp only [if_pos h, if_neg h0]; grind
  · simp only [if_neg h]; rfl
theorem vX_sm : vX n m (vsm c v) = vsm c (vX n m v) := by
  funext i
  unfold vX vsm
  by_cases h : i < n
  · by_cases h0 : i = 0
    · simp only [if_pos h, if_pos h0]; grind
    · simp only [if_pos h, if_neg h0]; grind
  · simp only [if_neg h]; omega
theorem vX_z : vX n m vz = vz := by
  funext i
  unfold vX vz
  by_cases h : i < n
  · by_cases h0 : i = 0
    · simp [h, h0]
    · simp [h, h0]
  · simp [h]
theorem vX_sup : Sup n (vX n m v) := fun i h => by unfold vX; rw [if_neg (by omega)]
theorem vXk_add : ∀ k, vXk n m k (vadd u v) = vadd (vXk n m k u) (vXk n m k v)
  | 0 => rfl
  | k + 1 => by show vX n m (vXk n m k (vadd u v)) = _; rw [vXk_add k, vX_add]; rfl
theorem vXk_sm : ∀ k, vXk n m k (vsm c v) = vsm c (vXk n m k v)
  | 0 => rfl
  | k + 1 => by show vX n m (vXk n m k (vsm c v)) = _; rw [vXk_sm k, vX_sm]; rfl
theorem vXk_z : ∀ k, vXk n m k vz = vz
  | 0 => rfl
  | k + 1 => by show vX n m (vXk n m k vz) = _; rw [vXk_z k, vX_z]
theorem vXk_X : ∀ k, vXk n m k (vX n m v) = vX n m (vXk n m k v)
  | 0 => rfl
  | k + 1 => by show vX n m (vXk n m k (vX n m v)) = _; rw [vXk_X k]; rfl
theorem vXk_sup (h : Sup n v) : ∀ k, Sup n (vXk n m k v)
  | 0 => h
  | k + 1 => vX_sup
theorem vadd_comm : vadd u v = vadd v u := by funext i; exact Int.add_comm _ _
theorem vadd_assoc : vadd (vadd u v) w = vadd u (vadd v w) := by funext i; exact Int.add_assoc _ _ _
theorem vadd_z : vadd u vz = u := by funext i; exact Int.add_zero _
theorem vsm_add : vsm c (vadd u v) = vadd (vsm c u) (vsm c v) := by funext i; exact Int.mul_add _ _ _
theorem vsm_z : vsm c vz = vz := by funext i; exact Int.mul_zero _
theorem vsm_sm {a b : Int} : vsm a (vsm b v) = vsm b (vsm a v) := by funext i; unfold vsm; grind
theorem vadd4 {a b c d : Vec} : vadd (vadd a b) (vadd c d) = vadd (vadd a c) (vadd b d) := by funext i; unfold vadd; omega
theorem vOp_add : ∀ k, vOp n m u k (vadd v w) = vadd (vOp n m u k v) (vOp n m u k w)
  | 0 => vadd_z.symm
  | k + 1 => by show vadd (vOp n m u k (vadd v w)) _ = vadd (vadd _ _) (vadd _ _); rw [vOp_add k, vXk_add, vsm_add, vadd4]
theorem vOp_sm : ∀ k, vOp n m u k (vsm c v) = vsm c (vOp n m u k v)
  | 0 => vsm_z.symm
  | k + 1 => by show vadd (vOp n m u k (vsm c v)) _ = vsm c (vadd _ _); rw [vOp_sm k, vXk_sm, vsm_add, vsm_sm]
theorem vOp_z : ∀ k, vOp n m u k vz = vz
  | 0 => rfl
  | k + 1 => by show vadd (vOp n m u k vz) _ = _; rw [vOp_z k, vXk_z, vsm_z, vadd_z]
theorem vOp_X : ∀ k, vOp n m u k (vX n m v) = vX n m (vOp n m u k v)
  | 0 => vX_z.symm
  | k + 1 => by show vadd (vOp n m u k (vX n m v)) _ = vX n m (vadd _ _); rw [vOp_X k, vXk_X, vX_add, vX_sm]
theorem vOp_Xk (k : Nat) : ∀ j, vOp n m u k (vXk n m j v) = vXk n m j (vOp n m u k v)
  | 0 => rfl
  | j + 1 => by show vOp n m u k (vX n m (vXk n m j v)) = _; rw [vOp_X, vOp_Xk k j]; rfl
/-- two of them commute -/
theorem vOp_comm (j : Nat) : ∀ k, vOp n m u j (vOp n m w k v) = vOp n m w k (vOp n m u j v)
  | 0 => vOp_z j
  | k + 1 => by show vOp n m u j (vadd _ _) = vadd _ _; rw [vOp_add, vOp_comm j k, vOp_sm, vOp_Xk]
theorem vOp_sup (h : Sup n v) : ∀ k, Sup n (vOp n m u k v)
  | 0 => fun _ _ => rfl
  | k + 1 => fun i hi => by
    show vOp n m u k v i + u k * vXk n m k v i = 0
    rw [vOp_sup h k i hi, vXk_sup h k i hi]; omega
theorem vOp_uadd : ∀ k, vOp n m (vadd u w) k v = vadd (vOp n m u k v) (vOp n m w k v)
  | 0 => vadd_z.symm
  | k + 1 => by
    show vadd (vOp n m (vadd u w) k v) _ = vadd (vadd _ _) (vadd _ _)
    rw [vOp_uadd k, vadd4]
    congr 1
    funext i; unfold vsm vadd; grind
theorem vOp_usm : ∀ k, vOp n m (vsm c u) k v = vsm c (vOp n m u k v)
  | 0 => vsm_z.symm
  | k + 1 => by
    show vadd (vOp n m (vsm c u) k v) _ = vsm c (vadd _ _)
    rw [vOp_usm k, vsm_add]
    congr 1
    funext i; unfold vsm; grind
theorem vXk_e (hn : 0 < n) : ∀ k, k < n → vXk n m k (ve 0) = ve k
  | 0, _ => rfl
  | k + 1, h => by
    show vX n m (vXk n m k (ve 0)) = _
    rw [vXk_e hn k (by omega)]
    funext i
    unfold vX ve
    by_cases hi : i < n
    · by_cases h0 : i = 0
      · subst h0
        rw [if_pos hi, if_pos rfl, if_neg (by omega), if_neg (by omega)]; omega
      · rw [if_pos hi, if_neg h0, if_neg (show ¬ n - 1 = k by omega)]
        by_cases hk : i = k + 1
        · rw [if_pos (by omega), if_pos hk]; omega
        · rw [if_neg (by omega), if_neg hk]; omega
    · rw [if_neg hi, if_neg (by omega)]
theorem vOp_e (hn : 0 < n) : ∀ k, k ≤ n → vOp n m u k (ve 0) = fun i => if i < k then u i else 0
  | 0, _ => by funext i; rw [if_neg (by omega)]; rfl
  | k + 1, h => by
    show vadd (vOp n m u k (ve 0)) (vsm (u k) (vXk n m k (ve 0))) = _
    rw [vOp_e hn k (by omega), vXk_e hn k (by omega)]
    funext i
    unfold vadd vsm ve
    dsimp only
    by_cases h1 : i < k
    · rw [if_pos h1, if_neg (by omega), if_pos (by omega)]; omega
    · by_cases h2 : i = k
      · subst h2; rw [if_neg h1, if_pos rfl, if_pos (by omega)]; omega
      · rw [if_neg h1, if_neg h2, if_neg (by omega)]; omega
/-- the product -/
def vM (n : Nat) (m u v : Vec) : Vec := vOp n m u n v
theorem vM_one (hn : 0 < n) (h : Sup n u) : vM n m u (ve 0) = u := by
  unfold vM
  rw [vOp_e hn n (Nat.le_refl n)]
  funext i
  by_cases hi : i < n
  · rw [if_pos hi]
  · rw [if_neg hi, h i (by omega)]
theorem vM_comm (hn : 0 < n) (hu : Sup n u) (hv : Sup n v) : vM n m u v = vM n m v u := by
  have h1 : vM n m u v = vM n m u (vM n m v (ve 0)) := by rw [vM_one hn hv]
  rw [h1]
  show vOp n m u n (vOp n m v n (ve 0)) = _
  rw [vOp_comm]
  show vM n m v (vM n m u (ve 0)) = _
  rw [vM_one hn hu]
theorem vM_sup (h : Sup n v) : Sup n (vM n m u v) := vOp_sup h n
theorem vM_assoc (hn : 0 < n) (hu : Sup n u) (hv : Sup n v) (hw : Sup n w) : vM n m (vM n m u v) w = vM n m u (vM n m v w) := by
  rw [vM_comm hn (vM_sup hv) hw, vM_comm hn hv hw]
  exact vOp_comm n n
theorem vM_add : vM n m u (vadd v w) = vadd (vM n m u v) (vM n m u w) := vOp_add n
theorem vM_uadd : vM n m (vadd u w) v = vadd (vM n m u v) (vM n m w v) := vOp_uadd n
theorem vM_usm : vM n m (vsm c u) v = vsm c (vM n m u v) := vOp_usm n
theorem vM_sm : vM n m u (vsm c v) = vsm c (vM n m u v) := vOp_sm n
/-- one step of Horner -/
theorem vOp_low : ∀ k, vOp n m u (k + 1) v = vadd (vsm (u 0) v) (vX n m (vOp n m (fun i => u (i + 1)) k v))
  | 0 => by show vadd vz (vsm (u 0) v) = vadd _ (vX n m vz); rw [vX_z, vadd_comm]
  | k + 1 => by
    show vadd (vOp n m u (k + 1) v) (vsm (u (k + 1)) (vXk n m (k + 1) v)) = vadd _ (vX n m (vadd (vOp n m _ k v) (vsm (u (k + 1)) (vXk n m k v))))
    rw [vOp_low k, vX_add, vX_sm, vadd_assoc]
    rfl
end
/-! modulo p -/
def Cg (p : Int) (u v : Vec) : Prop := ∀ i, u i % p = v i % p
section
variable {p : Int} {u v w u' v' : Vec} {n : Nat} {m : Vec} {c c' : Int}
theorem Cg.refl : Cg p u u := fun _ => rfl
theorem Cg.symm (h : Cg p u v) : Cg p v u := fun i => (h i).symm
theorem Cg.trans (h : Cg p u v) (k : Cg p v w) : Cg p u w := fun i => (h i).trans (k i)
theorem Cg.add (h : Cg p u u') (k : Cg p v v') : Cg p (vadd u v) (vadd u' v') := fun i => by
  show (u i + v i) % p = (u' i + v' i) % p
  rw [Int.add_emod, h i, k i, ← Int.add_emod]
theorem Cg.sm (h : Cg p v v') (hc : c % p = c' % p) : Cg p (vsm c v) (vsm c' v') := fun i => by
  show (c * v i) % p = (c' * v' i) % p
  rw [Int.mul_emod, h i, hc, ← Int.mul_emod]
theorem Cg.X (h : Cg p v v') : Cg p (vX n m v) (vX n m v') := fun i => by
  unfold vX
  by_cases hi : i < n
  · rw [if_pos hi, if_pos hi]
    have e : (v (n - 1) * m i) % p = (v' (n - 1) * m i) % p := by rw [Int.mul_emod, h (n - 1), ← Int.mul_emod]
    by_cases h0 : i = 0
    · rw [if_pos h0, if_pos h0, Int.sub_emod, e, ← Int.sub_emod]
    · rw [if_neg h0, if_neg h0, Int.sub_emod, h (i - 1), e, ← Int.sub_emod]
  · rw [if_neg hi, if_neg hi]
theorem Cg.Xk (h : Cg p v v') : ∀ k, Cg p (vXk n m k v) (vXk n m k v')
  | 0 => h
  | k + 1 => (Cg.Xk h k).X
theorem Cg.Op (hu : Cg p u u') (h : Cg p v v') : ∀ k, Cg p (vOp n m u k v) (vOp n m u' k v')
  | 0 => Cg.refl
  | k + 1 => (Cg.Op hu h k).add ((h.Xk k).sm (hu k))
theorem Cg.M (hu : Cg p u u') (h : Cg p v v') : Cg p (vM n m u v) (vM n m u' v') := Cg.Op hu h n
end
end My
set_option linter.all false
set_option maxRecDepth 100000
set_option maxHeartbeats 1000000
namespace My
/-- the digits of an element -/
def vec (p : Nat) : Int → Vec
  | a, 0 => a % (p : Int)
  | a, i + 1 => vec p (a / (p : Int)) i
theorem vec_bd {p : Nat} (hp : 0 < p) : ∀ (i : Nat) (a : Int), 0 ≤ vec p a i ∧ vec p a i < (p : Int)
  | 0, a => ⟨Int.emod_nonneg _ (by omega), Int.emod_lt_of_pos _ (by omega)⟩
  | i + 1, a => vec_bd hp i _
theorem vec_zero {p : Nat} : ∀ (i : Nat), vec p 0 i = 0
  | 0 => Int.zero_emod _
  | i + 1 => by show vec p (0 / (p : Int)) i = 0; rw [Int.zero_ediv]; exact vec_zero i
theorem div_bd {p d : Nat} (hp : 0 < p) {a : Int} (h0 : 0 ≤ a) (h1 : a < ((p ^ (d + 1) : Nat) : Int)) : 0 ≤ a / (p : Int) ∧ a / (p : Int) < ((p ^ d : Nat) : Int) := by
  refine ⟨Int.ediv_nonneg h0 (by omega), Int.ediv_lt_of_lt_mul (by omega) ?_⟩
  rw [Nat.pow_succ] at h1
  push_cast at h1 ⊢
  exact h1
theorem vec_sup {p : Nat} (hp : 0 < p) : ∀ (n : Nat) {a : Int}, 0 ≤ a → a < ((p ^ n : Nat) : Int) → Sup n (vec p a)
  | 0, a, h0, h1, i, _ => by
    rw [Nat.pow_zero] at h1
    have : a = 0 := by omega
    rw [this]
    exact vec_zero i
  | n + 1, a, h0, h1, i, hi => by
    obtain ⟨j, rfl⟩ : ∃ j, i = j + 1 := ⟨i - 1, by omega⟩
    have d := div_bd hp h0 h1
    exact vec_sup hp n d.1 d.2 j (by omega)
theorem vec_inj {p : Nat} (hp : 0 < p) : ∀ (n : Nat) {a b : Int}, 0 ≤ a → a < ((p ^ n : Nat) : Int) → 0 ≤ b → b < ((p ^ n : Nat) : Int) → (∀ i, vec p a i = vec p b i) → a = b
  | 0, a, b, h0, h1, k0, k1, _ => by
    rw [Nat.pow_zero] at h1 k1
    omega
  | n + 1, a, b, h0, h1, k0, k1, h => by
    have d := div_bd hp h0 h1
    have d' := div_bd hp k0 k1
    have e := vec_inj hp n d.1 d.2 d'.1 d'.2 (fun i => h (i + 1))
    have e0 : a % (p : Int) = b % (p : Int) := h 0
    rw [← Int.mul_ediv_add_emod a (p : Int), ← Int.mul_ediv_add_emod b (p : Int), e, e0]
theorem cg_inj {p : Nat} (hp : 0 < p) {n : Nat} {a b : Int} (h0 : 0 ≤ a) (h1 : a < ((p ^ n : Nat) : Int)) (k0 : 0 ≤ b) (k1 : b < ((p ^ n : Nat) : Int)) (h : Cg (p : Int) (vec p a) (vec p b)) : a = b :=
  vec_inj hp n h0 h1 k0 k1 fun i => by
    have q := h i
    have x := vec_bd hp i a
    have y := vec_bd hp i b
    rwa [Int.emod_eq_of_lt x.1 x.2, Int.emod_eq_of_lt y.1 y.2] at q
/-- the highest digit -/
theorem vec_top {p : Nat} (hp : 0 < p) {h : Int} (h0 : 0 ≤ h) (h1 : h < (p : Int)) : ∀ (d : Nat) (l : Int) (i : Nat), 0 ≤ l → l < ((p ^ d : Nat) : Int) → vec p (h * ((p ^ d : Nat) : Int) + l) i = if i < d then vec p l i else if i = d then h else 0
  | 0, l, i, l0, l1 => by
    rw [Nat.pow_zero] at l1 ⊢
    have : l = 0 := by omega
    subst this
    rw [if_neg (by omega), show h * ((1 : Nat) : Int) + 0 = h by omega]
    cases i with
    | zero => rw [if_pos rfl]; exact Int.emod_eq_of_lt h0 h1
    | succ i =>
      rw [if_neg (by omega)]
      show vec p (h / (p : Int)) i = 0
      rw [Int.ediv_eq_zero_of_lt h0 h1]
      exact vec_zero i
  | d + 1, l, i, l0, l1 => by
    have hd := div_bd hp l0 l1
    have e : h * ((p ^ (d + 1) : Nat) : Int) + l = (p : Int) * (h * ((p ^ d : Nat) : Int)) + l := by
      rw [Nat.pow_succ]; push_cast; grind
    cases i with
    | zero =>
      rw [if_pos (by omega), e]
      show (_ + l) % (p : Int) = l % (p : Int)
      rw [Int.add_comm, Int.add_mul_emod_self_left]
    | succ i =>
      show vec p ((h * ((p ^ (d + 1) : Nat) : Int) + l) / (p : Int)) i = _
      rw [e, Int.mul_add_ediv_left _ _ (by omega), vec_top hp h0 h1 d (l / (p : Int)) i hd.1 hd.2]
      by_cases q : i < d
      · rw [if_pos q, if_pos (by omega)]; rfl
      · rw [if_neg q, if_neg (show ¬ i + 1 < d + 1 by omega)]
        by_cases q2 : i = d
        · rw [if_pos q2, if_pos (by omega)]
        · rw [if_neg q2, if_neg (by omega)]
theorem vec_mul {p : Nat} (hp : 0 < p) (x : Int) (i : Nat) : vec p (x * (p : Int)) i = if i = 0 then 0 else vec p x (i - 1) := by
  cases i with
  | zero => exact Int.mul_emod_left _ _
  | succ i =>
    show vec p (x * (p : Int) / (p : Int)) i = vec p x i
    rw [Int.mul_ediv_cancel _ (by omega)]
theorem vec_mod {p : Nat} (hp : 0 < p) {d : Nat} {a : Int} (h0 : 0 ≤ a) (h1 : a < ((p ^ (d + 1) : Nat) : Int)) : a / ((p ^ d : Nat) : Int) = vec p a d ∧ ∀ i, vec p (a % ((p ^ d : Nat) : Int)) i = if i < d then vec p a i else 0 := by
  have q0 : (0 : Int) < ((p ^ d : Nat) : Int) := by have := Nat.pow_pos (n := d) hp; omega
  have m0 : 0 ≤ a % ((p ^ d : Nat) : Int) := Int.emod_nonneg _ (by omega)
  have m1 : a % ((p ^ d : Nat) : Int) < ((p ^ d : Nat) : Int) := Int.emod_lt_of_pos _ q0
  have t0 : 0 ≤ a / ((p ^ d : Nat) : Int) := Int.ediv_nonneg h0 (by omega)
  have t1 : a / ((p ^ d : Nat) : Int) < (p : Int) := Int.ediv_lt_of_lt_mul q0 (by rw [Nat.pow_succ] at h1; push_cast at h1 ⊢; rw [Int.mul_comm]; exact h1)
  have e : a = a / ((p ^ d : Nat) : Int) * ((p ^ d : Nat) : Int) + a % ((p ^ d : Nat) : Int) := by rw [Int.mul_comm]; exact (Int.mul_ediv_add_emod _ _).symm
  have v := fun i => vec_top hp t0 t1 d _ i m0 m1
  rw [← e] at v
  refine ⟨?_, fun i => ?_⟩
  · rw [v d, if_neg (by omega), if_pos rfl]
  · by_cases hi : i < d
    · rw [if_pos hi, v i, if_pos hi]
    · rw [if_neg hi]
      exact vec_sup hp d m0 m1 i (by omega)
theorem vec_digs {p : Nat} : ∀ (n : Nat) (a : Int) (i : Nat), i < n → (digs (p : Int) n a).getD i 0 = vec p a i
  | 0, _, _, h => absurd h (Nat.not_lt_zero _)
  | n + 1, a, 0, _ => rfl
  | n + 1, a, i + 1, h => by
    show (a % (p : Int) :: digs (p : Int) n (a / (p : Int))).getD (i + 1) 0 = _
    rw [List.getD_cons_succ]
    exact vec_digs n _ i (by omega)
theorem vec_numOf {p : Nat} (hp : 0 < p) : ∀ (ds : List Int), (∀ x ∈ ds, 0 ≤ x ∧ x < (p : Int)) → ∀ i, vec p (numOf (p : Int) ds) i = ds.getD i 0
  | [], _, i => by show vec p 0 i = _; rw [vec_zero]; simp
  | x :: r, h, i => by
    have hx := h x List.mem_cons_self
    show vec p (numOf (p : Int) r * (p : Int) + x) i = _
    cases i with
    | zero =>
      show (numOf (p : Int) r * (p : Int) + x) % (p : Int) = x
      rw [Int.add_comm, Int.add_mul_emod_self_right]
      exact Int.emod_eq_of_lt hx.1 hx.2
    | succ i =>
      show vec p ((numOf (p : Int) r * (p : Int) + x) / (p : Int)) i = _
      rw [Int.add_comm, Int.add_mul_ediv_right _ _ (by omega), Int.ediv_eq_zero_of_lt hx.1 hx.2, Int.zero_add, vec_numOf hp r (fun y hy => h y (List.mem_cons_of_mem _ hy)) i]
      rfl
/-! the table of sums -/
theorem getD_app_l {α : Type} {xs ys : List α} {i : Nat} {z : α} (h : i < xs.length) : (xs ++ ys).getD i z = xs.getD i z := by
  rw [List.getD_eq_getElem?_getD, List.getElem?_append_left h, ← List.getD_eq_getElem?_getD]
theorem getD_app_r {α : Type} {xs ys : List α} {i : Nat} {z : α} (h : xs.length ≤ i) : (xs ++ ys).getD i z = ys.getD (i - xs.length) z := by
  rw [List.getD_eq_getElem?_getD, List.getElem?_append_right h, ← List.getD_eq_getElem?_getD]
theorem fm_getD {α : Type} (f : Nat → List α) (L : Nat) (z : α) : ∀ (n h i : Nat), (∀ x, x < n → (f x).length = L) → h < n → i < L → ((List.range n).flatMap f).getD (h * L + i) z = (f h).getD i z
  | 0, _, _, _, h, _ => absurd h (Nat.not_lt_zero _)
  | n + 1, h, i, hl, hh, hi => by
    have len : ((List.range n).flatMap f).length = n * L := by
      rw [flatMap_const_len f L _ (fun x hx => hl x (by have := List.mem_range.mp hx; omega)), List.length_range]
    rw [List.range_succ, List.flatMap_append]
    have e : List.flatMap f [n] = f n := by simp
    rw [e]
    by_cases q : h < n
    · have lt : h * L + i < n * L := by
        have : (h + 1) * L ≤ n * L := Nat.mul_le_mul_right _ q
        rw [Nat.add_mul, Nat.one_mul] at this
        omega
      rw [getD_app_l (by rw [len]; exact lt)]
      exact fm_getD f L z n h i (fun x hx => hl x (by omega)) q hi
    · have : h = n := by omega
      subst this
      rw [getD_app_r (by rw [len]; omega), len, show h * L + i - h * L = i by omega]
theorem cell_long {p : Nat} {S : List (List Int)} {L : Nat} (hS : S.length = L) (hr : ∀ row ∈ S, row.length = L) {h o : Nat} {i j : Nat} (hh : h < p) (ho : o < p) (hi : i < L) (hj : j < L) :
    cell (longTab p S) ((h * L + i : Nat) : Int) ((o * L + j : Nat) : Int) = ((h : Int) + (o : Int)) % (p : Int) * (L : Int) + cell S (i : Int) (j : Int) := by
  unfold cell longTab
  rw [Int.toNat_natCast, Int.toNat_natCast, Int.toNat_natCast, Int.toNat_natCast, hS]
  rw [fm_getD _ L [] p h i (fun x _ => by rw [List.length_map, hS]) hh hi]
  have e1 : (S.map (longRow p (L : Int) h)).getD i [] = longRow p (L : Int) h (S.getD i []) := by
    rw [List.getD_eq_getElem?_getD, List.getElem?_map, List.getD_eq_getElem?_getD, List.getElem?_eq_getElem (show i < S.length by omega)]
    rfl
  have hl : (S.getD i []).length = L := by
    rw [List.getD_eq_getElem?_getD, List.getElem?_eq_getElem (show i < S.length by omega)]
    exact hr _ (List.getElem_mem _)
  rw [e1]
  generalize S.getD i [] = row at hl
  unfold longRow
  rw [fm_getD _ L 0 p o j (fun x _ => by rw [List.length_map, hl]) ho hj]
  rw [List.getD_eq_getElem?_getD, List.getElem?_map, List.getD_eq_getElem?_getD, List.getElem?_eq_getElem (show j < row.length by omega)]
  rfl
theorem sum_vec {p : Nat} (hp : 0 < p) : ∀ (d : Nat) (a b : Int), 0 ≤ a → a < ((p ^ d : Nat) : Int) → 0 ≤ b → b < ((p ^ d : Nat) : Int) → ∀ i, vec p (cell (sumTab p d) a b) i = (vec p a i + vec p b i) % (p : Int)
  | 0, a, b, a0, a1, b0, b1, i => by
    rw [Nat.pow_zero] at a1 b1
    have e1 : a = 0 := by omega
    have e2 : b = 0 := by omega
    subst e1 e2
    show vec p 0 i = _
    rw [vec_zero]
    exact (Int.zero_emod _).symm
  | d + 1, a, b, a0, a1, b0, b1, i => by
    have ma := vec_mod hp a0 a1
    have mb := vec_mod hp b0 b1
    have q0 : (0 : Int) < ((p ^ d : Nat) : Int) := by have := Nat.pow_pos (n := d) hp; omega
    have la0 : 0 ≤ a % ((p ^ d : Nat) : Int) := Int.emod_nonneg _ (by omega)
    have la1 : a % ((p ^ d : Nat) : Int) < ((p ^ d : Nat) : Int) := Int.emod_lt_of_pos _ q0
    have lb0 : 0 ≤ b % ((p ^ d : Nat) : Int) := Int.emod_nonneg _ (by omega)
    have lb1 : b % ((p ^ d : Nat) : Int) < ((p ^ d : Nat) : Int) := Int.emod_lt_of_pos _ q0
    have ih := sum_vec hp d _ _ la0 la1 lb0 lb1
    have va := vec_bd hp d a
    have vb := vec_bd hp d b
    have ea : a = (((vec p a d).toNat * p ^ d + (a % ((p ^ d : Nat) : Int)).toNat : Nat) : Int) := by
      have e := Int.mul_ediv_add_emod a ((p ^ d : Nat) : Int)
      rw [ma.1, Int.mul_comm] at e
      rw [Int.natCast_add, Int.natCast_mul, Int.toNat_of_nonneg va.1, Int.toNat_of_nonneg la0]
      exact e.symm
    have eb : b = (((vec p b d).toNat * p ^ d + (b % ((p ^ d : Nat) : Int)).toNat : Nat) : Int) := by
      have e := Int.mul_ediv_add_emod b ((p ^ d : Nat) : Int)
      rw [mb.1, Int.mul_comm] at e
      rw [Int.natCast_add, Int.natCast_mul, Int.toNat_of_nonneg vb.1, Int.toNat_of_nonneg lb0]
      exact e.symm
    have e : cell (sumTab p (d + 1)) a b = (vec p a d + vec p b d) % (p : Int) * ((p ^ d : Nat) : Int) + cell (sumTab p d) (a % ((p ^ d : Nat) : Int)) (b % ((p ^ d : Nat) : Int)) := by
      have c := cell_long (p := p) (sumTab_len p d) (sumTab_row p d) (h := (vec p a d).toNat) (o := (vec p b d).toNat) (i := (a % ((p ^ d : Nat) : Int)).toNat) (j := (b % ((p ^ d : Nat) : Int)).toNat) (by omega) (by omega) (by omega) (by omega)
      rw [← ea, ← eb, Int.toNat_of_nonneg va.1, Int.toNat_of_nonneg vb.1, Int.toNat_of_nonneg la0, Int.toNat_of_nonneg lb0] at c
      exact c
    have cb := ((sumTab_bd p hp d).cell (i := a % ((p ^ d : Nat) : Int)) (j := b % ((p ^ d : Nat) : Int)) la0 (by rw [sumTab_len]; exact la1) lb0 lb1).2
    rw [e, vec_top hp (Int.emod_nonneg _ (by omega)) (Int.emod_lt_of_pos _ (by omega)) d _ i cb.1 cb.2]
    by_cases hi : i < d
    · rw [if_pos hi, ih i, ma.2 i, mb.2 i, if_pos hi, if_pos hi]
    · rw [if_neg hi]
      by_cases h2 : i = d
      · rw [if_pos h2, h2]
      · rw [if_neg h2, vec_sup hp (d + 1) a0 a1 i (by omega), vec_sup hp (d + 1) b0 b1 i (by omega)]
        exact (Int.zero_emod _).symm
theorem sum_cg {p : Nat} (hp : 0 < p) {d : Nat} {a b : Int} (a0 : 0 ≤ a) (a1 : a < ((p ^ d : Nat) : Int)) (b0 : 0 ≤ b) (b1 : b < ((p ^ d : Nat) : Int)) : Cg (p : Int) (vec p (cell (sumTab p d) a b)) (vadd (vec p a) (vec p b)) := fun i => by
  rw [sum_vec hp d a b a0 a1 b0 b1 i, Int.emod_emod_of_dvd _ (Int.dvd_refl _)]
  rfl
end My
set_option linter.all false
set_option maxRecDepth 100000
set_option maxHeartbeats 1000000
namespace My
/-- the lower coefficients -/
def mv (m : List Int) : Vec := fun i => m.getD i 0
section
variable {p : Nat} {m : List Int} {e : Nat}
theorem shift_vec (hp : 2 ≤ p) (hm : m.length = e + 2) {a : Nat} (h : a < p ^ (e + 1)) :
    0 ≤ shiftEl p m (sumTab p (e + 1)) ((p ^ e : Nat) : Int) a ∧ shiftEl p m (sumTab p (e + 1)) ((p ^ e : Nat) : Int) a < ((p ^ (e + 1) : Nat) : Int) ∧ Cg (p : Int) (vec p (shiftEl p m (sumTab p (e + 1)) ((p ^ e : Nat) : Int) a)) (vX (e + 1) (mv m) (vec p (a : Int))) := by
  have hSl := sumTab_len p (e + 1)
  have hSb := sumTab_bd p (by omega) (e + 1)
  have six := shift_ix (d := e) hp (a := (a : Int)) (by omega)
  have fb := fold_bd hp hm ((a : Int) / ((p ^ e : Nat) : Int))
  have c := (hSb.cell six.1 (by rw [hSl]; exact six.2) fb.1 fb.2).2
  refine ⟨c.1, c.2, ?_⟩
  refine (sum_cg (by omega) six.1 six.2 fb.1 fb.2).trans ?_
  intro i
  have ma := vec_mod (d := e) (by omega) (show (0 : Int) ≤ (a : Int) by omega) (by omega : (a : Int) < ((p ^ (e + 1) : Nat) : Int))
  have hv := vec_sup (by omega) (e + 1) (show (0 : Int) ≤ (a : Int) by omega) (by omega : (a : Int) < ((p ^ (e + 1) : Nat) : Int))
  unfold vadd vX
  rw [vec_mul (by omega), vec_numOf (by omega) _ (fun x hx => by
    obtain ⟨it, _, rfl⟩ := List.mem_map.mp hx
    exact ⟨Int.emod_nonneg _ (by omega), Int.emod_lt_of_pos _ (by omega)⟩), ma.1]
  have ml : m.dropLast.length = e + 1 := by rw [List.length_dropLast, hm]; omega
  by_cases hi : i < e + 1
  · rw [if_pos hi]
    have e1 : (m.dropLast.map fun it => (-vec p (a : Int) e * it) % (p : Int)).getD i 0 = (-vec p (a : Int) e * mv m i) % (p : Int) := by
      rw [List.getD_eq_getElem?_getD, List.getElem?_map, List.getElem?_eq_getElem (show i < m.dropLast.length by omega)]
      unfold mv
      rw [List.getD_eq_getElem?_getD, List.getElem?_eq_getElem (show i < m.length by omega)]
      show (-vec p (a : Int) e * m.dropLast[i]) % (p : Int) = (-vec p (a : Int) e * m[i]) % (p : Int)
      rw [List.getElem_dropLast]
    rw [e1, show e + 1 - 1 = e by omega]
    have e2 : (if i = 0 then (0 : Int) else vec p ((a : Int) % ((p ^ e : Nat) : Int)) (i - 1)) = if i = 0 then 0 else vec p (a : Int) (i - 1) := by
      by_cases h0 : i = 0
      · rw [if_pos h0, if_pos h0]
      · rw [if_neg h0, if_neg h0, ma.2, if_pos (by omega)]
    rw [e2, Int.add_emod, Int.emod_emod_of_dvd _ (Int.dvd_refl _), ← Int.add_emod, Int.neg_mul]
    rfl
  · rw [if_neg hi]
    have e1 : (m.dropLast.map fun it => (-vec p (a : Int) e * it) % (p : Int)).getD i 0 = 0 := by
      rw [List.getD_eq_getElem?_getD, List.getElem?_eq_none (by rw [List.length_map, ml]; omega)]
      rfl
    rw [e1, if_neg (by omega), ma.2, if_neg (by omega)]
    rfl
theorem vec_small (hp : 2 ≤ p) {c : Int} (c0 : 0 ≤ c) (c1 : c < (p : Int)) : vec p c = vsm c (ve 0) := by
  funext i
  unfold vsm ve
  cases i with
  | zero => rw [if_pos rfl, Int.mul_one]; exact Int.emod_eq_of_lt c0 c1
  | succ i =>
    rw [if_neg (by omega), Int.mul_zero]
    show vec p (c / (p : Int)) i = 0
    rw [Int.ediv_eq_zero_of_lt c0 c1]
    exact vec_zero i
theorem sup_e0 {n : Nat} (hn : 0 < n) : Sup n (ve 0) := fun i hi => by unfold ve; rw [if_neg (by omega)]
theorem vM_e0 {n : Nat} {mm v : Vec} (hn : 0 < n) (h : Sup n v) : vM n mm (ve 0) v = v := by
  rw [vM_comm hn (sup_e0 hn) h, vM_one hn h]
/-- the product table tells products -/
theorem up_vec (hp : 2 ≤ p) (hm : m.length = e + 2) : ∀ (k a : Nat) (b : Int), a ≤ k → k < p ^ (e + 1) → 0 ≤ b → b < ((p ^ (e + 1) : Nat) : Int) →
    Cg (p : Int) (vec p (cell (prodUp p (sumTab p (e + 1)) (shiftTab p m (sumTab p (e + 1))) k) (a : Int) b)) (vM (e + 1) (mv m) (vec p (a : Int)) (vec p b))
  | 0, a, b, ha, hk, b0, b1 => by
    have : a = 0 := by omega
    subst this
    have e1 : cell (prodUp p (sumTab p (e + 1)) (shiftTab p m (sumTab p (e + 1))) 0) ((0 : Nat) : Int) b = 0 := by
      unfold cell prodUp
      show ([List.replicate _ 0].getD 0 []).getD _ 0 = 0
      show (List.replicate _ (0 : Int)).getD _ 0 = 0
      rw [List.getD_eq_getElem?_getD, List.getElem?_replicate]
      split <;> rfl
    have e2 : vec p ((0 : Nat) : Int) = vsm 0 (ve 0) := vec_small hp (by omega) (by omega)
    rw [e1]
    have e3 : vec p 0 = vz := by funext i; exact vec_zero i
    rw [e2, vM_usm, e3]
    intro i
    show (0 : Int) % _ = (0 * _) % _
    rw [Int.zero_mul]
  | k + 1, a, b, ha, hk, b0, b1 => by
    have hSl := sumTab_len p (e + 1)
    have hSb := sumTab_bd p (by omega) (e + 1)
    have hSb2 : Bds (sumTab p (e + 1)) (sumTab p (e + 1)).length := by rw [hSl]; exact hSb
    have hsh := shiftTab_bd hp hm hSl hSb
    have hPl : (prodUp p (sumTab p (e + 1)) (shiftTab p m (sumTab p (e + 1))) k).length = k + 1 := prodUp_len _ _ _ _
    have hPb : Bds (prodUp p (sumTab p (e + 1)) (shiftTab p m (sumTab p (e + 1))) k) (sumTab p (e + 1)).length := prodUp_bd hp hSb2 hsh (by rw [hSl]; omega) k
    have ih := fun a b ha => up_vec hp hm k a b ha (by omega)
    by_cases hak : a ≤ k
    · have e1 : cell (prodUp p (sumTab p (e + 1)) (shiftTab p m (sumTab p (e + 1))) (k + 1)) (a : Int) b = cell (prodUp p (sumTab p (e + 1)) (shiftTab p m (sumTab p (e + 1))) k) (a : Int) b := by
        unfold cell
        show ((prodUp p _ _ k ++ [_]).getD _ []).getD _ 0 = _
        rw [getD_app_l (by rw [prodUp_len]; omega)]
      rw [e1]
      exact ih a b hak b0 b1
    · have : a = k + 1 := by omega
      subst this
      have bn : b = ((b.toNat : Nat) : Int) := by omega
      have e1 : cell (prodUp p (sumTab p (e + 1)) (shiftTab p m (sumTab p (e + 1))) (k + 1)) ((k + 1 : Nat) : Int) b = (if k + 1 < p then cell (sumTab p (e + 1)) (cell (prodUp p (sumTab p (e + 1)) (shiftTab p m (sumTab p (e + 1))) k) (((k + 1 : Nat) : Int) - 1) b) b else cell (sumTab p (e + 1)) (cell (prodUp p (sumTab p (e + 1)) (shiftTab p m (sumTab p (e + 1))) k) (((k + 1 : Nat) : Int) % (p : Int)) b) ((shiftTab p m (sumTab p (e + 1))).getD (cell (prodUp p (sumTab p (e + 1)) (shiftTab p m (sumTab p (e + 1))) k) (((k + 1 : Nat) : Int) / (p : Int)) b).toNat 0)) := by
        have e0 : cell (prodUp p (sumTab p (e + 1)) (shiftTab p m (sumTab p (e + 1))) (k + 1)) ((k + 1 : Nat) : Int) b = (prodRow p (sumTab p (e + 1)) (shiftTab p m (sumTab p (e + 1))) (prodUp p (sumTab p (e + 1)) (shiftTab p m (sumTab p (e + 1))) k) (k + 1)).getD b.toNat 0 := by
          show ((prodUp p _ _ k ++ [_]).getD _ []).getD _ 0 = _
          rw [getD_app_r (by rw [prodUp_len]; omega), prodUp_len, Int.toNat_natCast, Nat.sub_self]
          rfl
        rw [e0]
        unfold prodRow
        rw [List.getD_eq_getElem?_getD, List.getElem?_map, List.getElem?_eq_getElem (show b.toNat < (List.range (sumTab p (e + 1)).length).length by rw [List.length_range, hSl]; omega), List.getElem_range]
        show (if _ then cell _ (cell _ _ ((b.toNat : Nat) : Int)) ((b.toNat : Nat) : Int) else _) = _
        rw [← bn]
      rw [e1]
      generalize prodUp p (sumTab p (e + 1)) (shiftTab p m (sumTab p (e + 1))) k = T at hPl hPb ih
      rw [hSl] at hPb
      have bdT := fun (x : Nat) (hx : x ≤ k) => (hPb.cell (i := (x : Int)) (j := b) (by omega) (by rw [hPl]; omega) b0 b1).2
      have sb := vec_sup (by omega) (e + 1) b0 b1
      by_cases hkp : k + 1 < p
      · rw [if_pos hkp, show ((k + 1 : Nat) : Int) - 1 = (k : Int) by omega]
        have t := bdT k (Nat.le_refl k)
        refine (sum_cg (by omega) t.1 t.2 b0 b1).trans (((ih k b (Nat.le_refl k) b0 b1).add Cg.refl).trans ?_)
        have q1 := vec_small (p := p) hp (c := ((k + 1 : Nat) : Int)) (by omega) (by omega)
        have q2 := vec_small (p := p) hp (c := (k : Int)) (by omega) (by omega)
        rw [q1, q2, vM_usm, vM_usm, vM_e0 (by omega) sb]
        intro i
        unfold vadd vsm
        have : (k : Int) * vec p b i + vec p b i = ((k + 1 : Nat) : Int) * vec p b i := by push_cast; grind
        rw [this]
      · rw [if_neg hkp]
        have r0 : 0 ≤ ((k + 1 : Nat) : Int) % (p : Int) := Int.emod_nonneg _ (by omega)
        have r1 : ((k + 1 : Nat) : Int) % (p : Int) < (p : Int) := Int.emod_lt_of_pos _ (by omega)
        have dv := div_bd (p := p) (d := e) (by omega) (a := ((k + 1 : Nat) : Int)) (by omega) (by omega)
        have dlt : ((k + 1 : Nat) : Int) / (p : Int) < ((k + 1 : Nat) : Int) := Int.ediv_lt_of_lt_mul (by omega) (by
          have : ((k + 1 : Nat) : Int) * 2 ≤ ((k + 1 : Nat) : Int) * (p : Int) := Int.mul_le_mul_of_nonneg_left (by omega) (by omega)
          omega)
        obtain ⟨r, hr⟩ : ∃ r : Nat, ((k + 1 : Nat) : Int) % (p : Int) = (r : Int) := ⟨(((k + 1 : Nat) : Int) % (p : Int)).toNat, by omega⟩
        obtain ⟨h, hh⟩ : ∃ h : Nat, ((k + 1 : Nat) : Int) / (p : Int) = (h : Int) := ⟨(((k + 1 : Nat) : Int) / (p : Int)).toNat, by omega⟩
        have hdm := Int.mul_ediv_add_emod ((k + 1 : Nat) : Int) (p : Int)
        rw [hr] at r1
        rw [hh] at dv dlt
        rw [hr, hh]
        have tr := bdT r (by omega)
        have th := bdT h (by omega)
        have ihr := ih r b (by omega) b0 b1
        have ihh := ih h b (by omega) b0 b1
        generalize cell T (r : Int) b = x at tr ihr
        generalize cell T (h : Int) b = y at th ihh
        have esh : (shiftTab p m (sumTab p (e + 1))).getD y.toNat 0 = shiftEl p m (sumTab p (e + 1)) ((p ^ e : Nat) : Int) y.toNat := by
          unfold shiftTab
          rw [hSl, top_eq hp, List.getD_eq_getElem?_getD, List.getElem?_map, List.getElem?_eq_getElem (show y.toNat < (List.range (p ^ (e + 1))).length by rw [List.length_range]; omega), List.getElem_range]
          rfl
        rw [esh]
        have sv := shift_vec (m := m) hp hm (a := y.toNat) (by omega)
        rw [Int.toNat_of_nonneg th.1] at sv
        refine (sum_cg (by omega) tr.1 tr.2 sv.1 sv.2.1).trans ((ihr.add (sv.2.2.trans ihh.X)).trans ?_)
        have q1 := vec_small (p := p) hp (c := (r : Int)) (by omega) (by omega)
        rw [q1, vM_usm, vM_e0 (by omega) sb]
        have hs : Sup (e + 1) (vec p (h : Int)) := fun i hi => vec_sup (by omega) e dv.1 dv.2 i (by omega)
        have v0 : vec p ((k + 1 : Nat) : Int) 0 = (r : Int) := hr
        have v1 : (fun i => vec p ((k + 1 : Nat) : Int) (i + 1)) = vec p (h : Int) := by funext i; show vec p (((k + 1 : Nat) : Int) / (p : Int)) i = _; rw [hh]
        have low := vOp_low (n := e + 1) (m := mv m) (u := vec p ((k + 1 : Nat) : Int)) (v := vec p b) e
        rw [v0, v1] at low
        have h0 : vec p (h : Int) e = 0 := vec_sup (by omega) e dv.1 dv.2 e (Nat.le_refl e)
        have last : vM (e + 1) (mv m) (vec p (h : Int)) (vec p b) = vOp (e + 1) (mv m) (vec p (h : Int)) e (vec p b) := by
          show vadd (vOp (e + 1) (mv m) (vec p (h : Int)) e (vec p b)) (vsm (vec p (h : Int) e) _) = _
          rw [h0]
          funext i
          unfold vadd vsm
          omega
        rw [last]
        intro i
        show _ = (vOp (e + 1) (mv m) (vec p ((k + 1 : Nat) : Int)) (e + 1) (vec p b) i) % _
        rw [low]
theorem prod_cg (hp : 2 ≤ p) (hm : m.length = e + 2) {a b : Int} (a0 : 0 ≤ a) (a1 : a < ((p ^ (e + 1) : Nat) : Int)) (b0 : 0 ≤ b) (b1 : b < ((p ^ (e + 1) : Nat) : Int)) :
    Cg (p : Int) (vec p (cell (prodTab p m (sumTab p (e + 1))) a b)) (vM (e + 1) (mv m) (vec p a) (vec p b)) := by
  obtain ⟨n, rfl⟩ : ∃ n : Nat, a = n := ⟨a.toNat, by omega⟩
  unfold prodTab
  rw [sumTab_len]
  exact up_vec hp hm _ n b (by omega) (by omega) b0 b1
end
end My
set_option linter.all false
set_option maxRecDepth 100000
set_option maxHeartbeats 1000000
namespace My
/-- sum and product of elements -/
abbrev fA (p e : Nat) (a b : Int) : Int := cell (sumTab p (e + 1)) a b
abbrev fP (p : Nat) (m : List Int) (e : Nat) (a b : Int) : Int := cell (prodTab p m (sumTab p (e + 1))) a b
abbrev inF (p e : Nat) (a : Int) : Prop := 0 ≤ a ∧ a < ((p ^ (e + 1) : Nat) : Int)
theorem prodTab_bd {p : Nat} {m : List Int} {e : Nat} (p2 : 2 ≤ p) (hm : m.length = e + 2) : (prodTab p m (sumTab p (e + 1))).length = p ^ (e + 1) ∧ Bds (prodTab p m (sumTab p (e + 1))) (p ^ (e + 1)) := by
  have hSl := sumTab_len p (e + 1)
  have hSb := sumTab_bd p (by omega) (e + 1)
  have q0 : 1 ≤ p ^ (e + 1) := Nat.pow_pos (by omega)
  refine ⟨?_, ?_⟩
  · unfold prodTab
    rw [prodUp_len, hSl]
    omega
  · have h1 := prodUp_bd p2 (S := sumTab p (e + 1)) (sh := shiftTab p m (sumTab p (e + 1))) (by rw [hSl]; exact hSb) (shiftTab_bd p2 hm hSl hSb) (by rw [hSl]; omega) ((sumTab p (e + 1)).length - 1)
    rw [hSl] at h1
    unfold prodTab
    rw [hSl]
    exact h1
section
variable {p : Nat} {m : List Int} {e : Nat} {a b c : Int}
theorem fA_in (hp : 2 ≤ p) (ha : inF p e a) (hb : inF p e b) : inF p e (fA p e a b) :=
  ((sumTab_bd p (by omega) (e + 1)).cell ha.1 (by rw [sumTab_len]; exact ha.2) hb.1 hb.2).2
theorem fP_in (hp : 2 ≤ p) (hm : m.length = e + 2) (ha : inF p e a) (hb : inF p e b) : inF p e (fP p m e a b) := by
  obtain ⟨hl, h⟩ := prodTab_bd hp hm
  exact (h.cell ha.1 (by rw [hl]; exact ha.2) hb.1 hb.2).2
theorem fA_cg (hp : 2 ≤ p) (ha : inF p e a) (hb : inF p e b) : Cg (p : Int) (vec p (fA p e a b)) (vadd (vec p a) (vec p b)) := sum_cg (by omega) ha.1 ha.2 hb.1 hb.2
theorem fP_cg (hp : 2 ≤ p) (hm : m.length = e + 2) (ha : inF p e a) (hb : inF p e b) : Cg (p : Int) (vec p (fP p m e a b)) (vM (e + 1) (mv m) (vec p a) (vec p b)) := prod_cg hp hm ha.1 ha.2 hb.1 hb.2
theorem f_eq (hp : 2 ≤ p) (ha : inF p e a) (hb : inF p e b) (h : Cg (p : Int) (vec p a) (vec p b)) : a = b := cg_inj (by omega) ha.1 ha.2 hb.1 hb.2 h
theorem f_sup (hp : 2 ≤ p) (ha : inF p e a) : Sup (e + 1) (vec p a) := vec_sup (by omega) (e + 1) ha.1 ha.2
theorem p_le {p e : Nat} (p2 : 2 ≤ p) : p ≤ p ^ (e + 1) := by
  have : p ^ 1 ≤ p ^ (e + 1) := Nat.pow_le_pow_right (by omega) (by omega)
  rwa [Nat.pow_one] at this
theorem in_small (hp : 2 ≤ p) (h0 : 0 ≤ a) (h1 : a < (p : Int)) : inF p e a := ⟨h0, by have := p_le (e := e) hp; omega⟩
theorem in_zero (hp : 2 ≤ p) : inF p e 0 := in_small hp (by decide) (by omega)
theorem in_one (hp : 2 ≤ p) : inF p e 1 := in_small hp (by decide) (by omega)
theorem vec_one (hp : 2 ≤ p) : vec p 1 = ve 0 := by
  rw [vec_small hp (by decide) (by omega)]
  funext i
  exact Int.one_mul _
theorem vec_zv : vec p 0 = vz := by funext i; exact vec_zero i
theorem fA_comm (hp : 2 ≤ p) (ha : inF p e a) (hb : inF p e b) : fA p e a b = fA p e b a :=
  f_eq hp (fA_in hp ha hb) (fA_in hp hb ha) ((fA_cg hp ha hb).trans (by rw [vadd_comm]; exact (fA_cg hp hb ha).symm))
theorem fA_assoc (hp : 2 ≤ p) (ha : inF p e a) (hb : inF p e b) (hc : inF p e c) : fA p e (fA p e a b) c = fA p e a (fA p e b c) :=
  f_eq hp (fA_in hp (fA_in hp ha hb) hc) (fA_in hp ha (fA_in hp hb hc)) ((fA_cg hp (fA_in hp ha hb) hc).trans (((fA_cg hp ha hb).add Cg.refl).trans (by
    rw [vadd_assoc]
    exact ((fA_cg hp ha (fA_in hp hb hc)).trans (Cg.refl.add (fA_cg hp hb hc))).symm)))
theorem fA_zero (hp : 2 ≤ p) (ha : inF p e a) : fA p e a 0 = a :=
  f_eq hp (fA_in hp ha (in_zero hp)) ha ((fA_cg hp ha (in_zero hp)).trans (by rw [vec_zv, vadd_z]; exact Cg.refl))
theorem fP_comm (hp : 2 ≤ p) (hm : m.length = e + 2) (ha : inF p e a) (hb : inF p e b) : fP p m e a b = fP p m e b a :=
  f_eq hp (fP_in hp hm ha hb) (fP_in hp hm hb ha) ((fP_cg hp hm ha hb).trans (by rw [vM_comm (by omega) (f_sup hp ha) (f_sup hp hb)]; exact (fP_cg hp hm hb ha).symm))
theorem fP_assoc (hp : 2 ≤ p) (hm : m.length = e + 2) (ha : inF p e a) (hb : inF p e b) (hc : inF p e c) : fP p m e (fP p m e a b) c = fP p m e a (fP p m e b c) :=
  f_eq hp (fP_in hp hm (fP_in hp hm ha hb) hc) (fP_in hp hm ha (fP_in hp hm hb hc)) ((fP_cg hp hm (fP_in hp hm ha hb) hc).trans (((fP_cg hp hm ha hb).M Cg.refl).trans (by
    rw [vM_assoc (by omega) (f_sup hp ha) (f_sup hp hb) (f_sup hp hc)]
    exact ((fP_cg hp hm ha (fP_in hp hm hb hc)).trans (Cg.refl.M (fP_cg hp hm hb hc))).symm)))
theorem fP_dist (hp : 2 ≤ p) (hm : m.length = e + 2) (ha : inF p e a) (hb : inF p e b) (hc : inF p e c) : fP p m e a (fA p e b c) = fA p e (fP p m e a b) (fP p m e a c) :=
  f_eq hp (fP_in hp hm ha (fA_in hp hb hc)) (fA_in hp (fP_in hp hm ha hb) (fP_in hp hm ha hc)) ((fP_cg hp hm ha (fA_in hp hb hc)).trans ((Cg.refl.M (fA_cg hp hb hc)).trans (by
    rw [vM_add]
    exact ((fA_cg hp (fP_in hp hm ha hb) (fP_in hp hm ha hc)).trans ((fP_cg hp hm ha hb).add (fP_cg hp hm ha hc))).symm)))
theorem fP_one (hp : 2 ≤ p) (hm : m.length = e + 2) (ha : inF p e a) : fP p m e a 1 = a :=
  f_eq hp (fP_in hp hm ha (in_one hp)) ha ((fP_cg hp hm ha (in_one hp)).trans (by rw [vec_one hp, vM_one (by omega) (f_sup hp ha)]; exact Cg.refl))
theorem fP_one' (hp : 2 ≤ p) (hm : m.length = e + 2) (ha : inF p e a) : fP p m e 1 a = a := by rw [fP_comm hp hm (in_one hp) ha, fP_one hp hm ha]
theorem fP_zero (hp : 2 ≤ p) (hm : m.length = e + 2) (ha : inF p e a) : fP p m e a 0 = 0 :=
  f_eq hp (fP_in hp hm ha (in_zero hp)) (in_zero hp) ((fP_cg hp hm ha (in_zero hp)).trans (by
    have : vM (e + 1) (mv m) (vec p a) vz = vz := vOp_z _
    rw [vec_zv, this]; exact Cg.refl))
theorem fP_zero' (hp : 2 ≤ p) (hm : m.length = e + 2) (ha : inF p e a) : fP p m e 0 a = 0 := by rw [fP_comm hp hm (in_zero hp) ha, fP_zero hp hm ha]
/-- (p - 1) a is the negative -/
theorem fA_neg (hp : 2 ≤ p) (hm : m.length = e + 2) (ha : inF p e a) : fA p e a (fP p m e ((p - 1 : Nat) : Int) a) = 0 := by
  have hq : inF p e ((p - 1 : Nat) : Int) := in_small hp (by omega) (by omega)
  refine f_eq hp (fA_in hp ha (fP_in hp hm hq ha)) (in_zero hp) ((fA_cg hp ha (fP_in hp hm hq ha)).trans ((Cg.refl.add (fP_cg hp hm hq ha)).trans ?_))
  rw [vec_small hp (c := ((p - 1 : Nat) : Int)) (by omega) (by omega), vM_usm, vM_e0 (by omega) (f_sup hp ha), vec_zv]
  intro i
  show (vec p a i + ((p - 1 : Nat) : Int) * vec p a i) % (p : Int) = 0 % (p : Int)
  have : vec p a i + ((p - 1 : Nat) : Int) * vec p a i = (p : Int) * vec p a i := by
    rw [show ((p - 1 : Nat) : Int) = (p : Int) - 1 by omega]; grind
  rw [this, Int.mul_emod_right, Int.zero_emod]
end
/-! the product as the law computes it -/
def stepT (p : Int) (m : List Int) (d : Nat) (first : List Int) (digit : Int) (t : List Int) : List Int :=
  (List.range d).map fun (j : Nat) => (((0 :: t.take (d - 1)).getD j 0 - t.getD (d - 1) 0 * m.getD j 0) + digit * first.getD j 0) % p
def totT (p : Int) (m : List Int) (d : Nat) (first second : List Int) : Nat → List Int
  | 0 => List.replicate d 0
  | k + 1 => stepT p m d first (second.getD (d - 1 - k) 0) (totT p m d first second k)
def lawTimes (p : Int) (m : List Int) (d : Nat) (a b : Int) : Int := numOf p (totT p m d (digs p d a) (digs p d b) d)
theorem totT_len (p : Int) (m : List Int) (d : Nat) (F S : List Int) : ∀ k, (totT p m d F S k).length = d
  | 0 => List.length_replicate
  | k + 1 => by
    show (stepT _ _ _ _ _ _).length = d
    unfold stepT
    rw [List.length_map, List.length_range]
theorem totT_bd {p : Int} (hp : 0 < p) (m : List Int) (d : Nat) (F S : List Int) : ∀ k, ∀ x ∈ totT p m d F S k, 0 ≤ x ∧ x < p
  | 0, x, h => by
    rw [(List.mem_replicate.mp h).2]
    exact ⟨by decide, hp⟩
  | k + 1, x, h => by
    have h' : x ∈ stepT p m d F (S.getD (d - 1 - k) 0) (totT p m d F S k) := h
    unfold stepT at h'
    obtain ⟨j, _, rfl⟩ := List.mem_map.mp h'
    exact ⟨Int.emod_nonneg _ (by omega), Int.emod_lt_of_pos _ hp⟩
theorem lv_out {l : List Int} {i : Nat} (h : l.length ≤ i) : mv l i = 0 := by
  unfold mv
  rw [List.getD_eq_getElem?_getD, List.getElem?_eq_none h]
  rfl
theorem tot_cg {p : Nat} {m : List Int} {e : Nat} (hp : 2 ≤ p) {F S : List Int} (hF : F.length = e + 1) : ∀ k, k ≤ e + 1 → Cg (p : Int) (mv (totT (p : Int) m (e + 1) F S k)) (vOp (e + 1) (mv m) (fun i => mv S (e + 1 - k + i)) k (mv F))
  | 0, _ => by
    intro i
    show (mv (List.replicate (e + 1) 0) i) % _ = (vz i) % _
    unfold mv
    rw [List.getD_eq_getElem?_getD, List.getElem?_replicate]
    split <;> rfl
  | k + 1, hk => by
    have ih := tot_cg hp hF k (by omega) (S := S) (m := m)
    have low := vOp_low (n := e + 1) (m := mv m) (u := fun i => mv S (e + 1 - (k + 1) + i)) (v := mv F) k
    have e1 : (fun i => (fun i => mv S (e + 1 - (k + 1) + i)) (i + 1)) = fun i => mv S (e + 1 - k + i) := by
      funext i
      show mv S (e + 1 - (k + 1) + (i + 1)) = mv S (e + 1 - k + i)
      rw [show e + 1 - (k + 1) + (i + 1) = e + 1 - k + i by omega]
    rw [e1] at low
    rw [low]
    refine Cg.trans ?_ (Cg.refl.add (ih.X (n := e + 1) (m := mv m)))
    have tl := totT_len (p : Int) m (e + 1) F S k
    show Cg _ (mv (stepT (p : Int) m (e + 1) F (S.getD (e + 1 - 1 - k) 0) (totT (p : Int) m (e + 1) F S k))) _
    generalize totT (p : Int) m (e + 1) F S k = t at tl
    intro i
    by_cases hi : i < e + 1
    · have e2 : mv (stepT (p : Int) m (e + 1) F (S.getD (e + 1 - 1 - k) 0) t) i = (((0 :: t.take (e + 1 - 1)).getD i 0 - t.getD (e + 1 - 1) 0 * m.getD i 0) + S.getD (e + 1 - 1 - k) 0 * F.getD i 0) % (p : Int) := by
        unfold mv stepT
        rw [List.getD_eq_getElem?_getD, List.getElem?_map, List.getElem?_eq_getElem (show i < (List.range (e + 1)).length by rw [List.length_range]; exact hi), List.getElem_range]
        rfl
      have e3 : (0 :: t.take (e + 1 - 1)).getD i 0 = if i = 0 then 0 else mv t (i - 1) := by
        cases i with
        | zero => rfl
        | succ j =>
          rw [List.getD_cons_succ, if_neg (by omega)]
          unfold mv
          rw [List.getD_eq_getElem?_getD, List.getElem?_take_of_lt (by omega), ← List.getD_eq_getElem?_getD]
          rfl
      rw [e2, Int.emod_emod_of_dvd _ (Int.dvd_refl _), e3]
      unfold vadd vsm vX
      rw [if_pos hi]
      show _ = (mv S (e + 1 - (k + 1) + 0) * mv F i + _) % _
      rw [show e + 1 - (k + 1) + 0 = e + 1 - 1 - k by omega, Int.add_comm]
      rfl
    · have h1 : mv (stepT (p : Int) m (e + 1) F (S.getD (e + 1 - 1 - k) 0) t) i = 0 := lv_out (by unfold stepT; rw [List.length_map, List.length_range]; omega)
      rw [h1]
      unfold vadd vsm vX
      rw [if_neg hi, lv_out (l := F) (by omega)]
      show _ = (_ * 0 + 0) % _
      rw [Int.mul_zero]
      rfl
theorem mv_digs {p n : Nat} {a : Int} (hs : Sup n (vec p a)) : mv (digs (p : Int) n a) = vec p a := by
  funext i
  by_cases hi : i < n
  · exact vec_digs n a i hi
  · rw [lv_out (by rw [digs_len]; omega), hs i (by omega)]
theorem law_times {p : Nat} {m : List Int} {e : Nat} {a b : Int} (hp : 2 ≤ p) (hm : m.length = e + 2) (ha : inF p e a) (hb : inF p e b) : lawTimes (p : Int) m (e + 1) a b = fP p m e a b := by
  have bd := totT_bd (p := (p : Int)) (by omega) m (e + 1) (digs (p : Int) (e + 1) a) (digs (p : Int) (e + 1) b) (e + 1)
  have len := totT_len (p : Int) m (e + 1) (digs (p : Int) (e + 1) a) (digs (p : Int) (e + 1) b) (e + 1)
  have nb := numOf_bd (b := (p : Int)) (by omega) _ bd
  rw [len] at nb
  refine f_eq hp ⟨nb.1, by rw [Int.natCast_pow]; exact nb.2⟩ (fP_in hp hm ha hb) ?_
  have e1 : vec p (lawTimes (p : Int) m (e + 1) a b) = mv (totT (p : Int) m (e + 1) (digs (p : Int) (e + 1) a) (digs (p : Int) (e + 1) b) (e + 1)) := by
    funext i
    exact vec_numOf (by omega) _ bd i
  rw [e1]
  refine (tot_cg hp (digs_len _ _ _) (e + 1) (Nat.le_refl _)).trans ?_
  have e2 : (fun i => mv (digs (p : Int) (e + 1) b) (e + 1 - (e + 1) + i)) = vec p b := by
    funext i
    rw [Nat.sub_self, Nat.zero_add, mv_digs (f_sup hp hb)]
  rw [e2, mv_digs (f_sup hp ha)]
  show Cg _ (vM (e + 1) (mv m) (vec p b) (vec p a)) _
  rw [vM_comm (by omega) (f_sup hp hb) (f_sup hp ha)]
  exact (fP_cg hp hm ha hb).symm
end My
set_option Elab.async false
set_option linter.all false
set_option maxRecDepth 100000
set_option maxHeartbeats 1000000
namespace My
open PySem L2 Evl GxR MyG
local macro_rules | `(tactic| walk_at "ev") => `(tactic| repeat' (first
  | exact ev_c
  | exact ev_var rfl
  | exact ea_nil
  | exact eo_none
  | (refine' ev_cb ?ea (rc_len ?sq); (case ea => walk_at "evs"); (case sq => walk_at "sq"))
  | (refine' ev_op ?a ?b (rv_ixL ?sq ?ix); (case a => walk_at "evs"); (case b => walk_at "evs"); (case sq => walk_at "sq"); (case ix => walk_at "at"))
  | refine' ea_cons ?_ ?_
  | refine' eo_some ?_
  | refine' ev_op ?_ ?_ rv_I0
  | refine' ev_op ?_ ?_ (rv_eq ?_)
  | refine' ev_op ?_ ?_ (rv_ne ?_)
  | refine' ev_op ?_ ?_ (rv_I ?_)
  | refine' ev_un ?_ ru_neg
  | refine' ev_cb ?_ rc_int
  | refine' ev_cb ?_ rc_abs
  | refine' ev_cb ?_ rc_max2
  | refine' ev_andV ?_ ?_
  | refine' ev_notV ?_
  | refine' et_test ?_
  | refine' et_B ?_
  | refine' et_not ?_))
local macro_rules | `(tactic| walk_at "side") => `(tactic| first
  | rfl
  | decide
  | exact ⟨by decide, by decide⟩
  | exact .inr ⟨by decide, by decide⟩
  | exact .inl ⟨by decide, by decide⟩
  | omega
  | exact .inl ⟨by omega, by omega⟩
  | exact ⟨by omega, by omega⟩
  | exact .inr ⟨by omega, by omega⟩)
local macro_rules | `(tactic| walk_at "evs") => `(tactic| (walk_at "ev"; all_goals (walk_at "side")))
local macro_rules | `(tactic| walk_at "ex") => `(tactic| first
  | with_reducible exact Ex.refl _
  | with_reducible assumption
  | (refine' Ex.trans ?_ ?b; (case b => with_reducible assumption); walk_at "ex"))
local macro_rules | `(tactic| walk_at "sq") => `(tactic| first
  | (refine' sq_ex ?h ?e; (case h => with_reducible assumption); (case e => walk_at "ex"))
  | (refine' ex_l ?e ?h; (case h => with_reducible assumption); (case e => walk_at "ex"))
  | (refine' ex_l ?e ?h; (case h => assumption); (case e => walk_at "ex"))
  | assumption
  | exact sq_of (by assumption))
local macro_rules | `(tactic| walk_at "at") => `(tactic| first
  | exact at_int (by omega) (by omega)
  | exact atI_nat (j := 0) rfl
  | exact atI_nat (j := 1) rfl
  | exact atI_nat (j := 2) rfl)
local macro_rules | `(tactic| walk_at "side2") => `(tactic| first | exact CMul_bdl (by assumption) | exact CMul_bdr (by assumption) | walk_at "side")
local macro_rules | `(tactic| walk_at "evb") => `(tactic| (walk_at "ev"; all_goals (walk_at "side2")))

section
variable {P : Program} {w : World} {K : PySem.W.Frag} {mg : Str → Option Value} {base : Heap}
theorem last_pw (f : Nat → Int) (k : Nat) : atI (((List.range (k + 1)).map f).map V.int) (-1) = some (.int (f k)) := by
  rw [List.range_succ, List.map_append, List.map_append]
  exact atI_last _ _
theorem pw_bd {T : List (List Int)} {q : Nat} (h : Bds T q) (hl : T.length = q) (h2 : 2 ≤ q) {a : Int} (a0 : 0 ≤ a) (a1 : a < q) : ∀ k, 0 ≤ pw T a k ∧ pw T a k < (q : Int)
  | 0 => ⟨by show (0 : Int) ≤ 1; decide, by show (1 : Int) < _; omega⟩
  | k + 1 => by
    have ih := pw_bd h hl h2 a0 a1 k
    exact (h.cell ih.1 (by rw [hl]; exact ih.2) a0 a1).2
/-! _powers_of: 0 products, 1 a, 2 powers -/
abbrev s_powers_of : Stmt := topS 21
theorem sc_powers_of : FnScope ["products", "a", "powers"] ["products", "a"] (defScope s_powers_of) := ⟨rfl, rfl, rfl, by decide +kernel, rfl, by decide +kernel, by decide +kernel⟩
def spPows (K : PySem.W.Frag) : Sp := fun vs H Q _ => ∃ (t : Addr) (T : List (List Int)) (q n : Nat) (a : Int), vs = [.ref t, .int a] ∧ IsTab H t T ∧ Bds T q ∧ T.length = q ∧ 2 ≤ q ∧ q ≤ 256 ∧ 0 ≤ a ∧ a < q ∧ OrdP T a n ∧ n ≤ q ∧ RetL (((List.range n).map (pw T a)).map V.int) H Q
theorem ok_pows {f : Addr} {fd : FuncData} (F : Fun K "_powers_of" "_powers_of" s_powers_of f fd) (T : FTxt mg) : FnOk P w K mg base CX0 1 f fd ["products", "a"] (spPows K) := by
  refine F.ok sc_powers_of (fun vs H Q E h => ?_) (fun cdv A outer s H vs Q E hr h => ?_)
  · obtain ⟨_, _, _, _, _, rfl, _⟩ := h
    rfl
  obtain ⟨t, S, q, n, a, rfl, hT, hb, hl, q2, q256, a0, a1, ho, hn, k⟩ := h
  have bd := pw_bd hb hl q2 a0 a1
  have ev : ∀ (σ : L2.St) (H1 : Hp) (l : Addr) (i : Nat), σ = [some (.ref t), some (.int a), some (.ref l)] → Ex H H1 → H1 l = some (.lst (((List.range (i + 1)).map (pw S a)).map V.int)) → Ev (tOp (rIxL K) (tOp (rIxL K) (tVar 0) (tOp (rIxL K) (tVar 2) (tUn (rU fun i => V.int (-i)) (tC (.int 1))))) (tVar 1)) σ H1 (.int (pw S a (i + 1))) := by
    rintro σ H1 l i rfl ex hl1
    exact ev_cell (ev_var rfl) (ev_op (ev_var rfl) (ev_un ev_c ru_neg) (rv_ixL (sq_of hl1) (last_pw _ _))) (ev_var rfl) (hT.ex ex) (bd i).1 (by rw [hl]; exact (bd i).2) a0 (by rw [(hb.cell (bd i).1 (by rw [hl]; exact (bd i).2) a0 a1).1]; exact a1)
  refine ⟨_, (pss_cons (ps_set (i := 2) sc_powers_of.nd rfl (Or.inl rfl) (pe_lst (pa_cons pe_int pa_nil)))
    (pss_cons (ps_while PassesOwn.never (pt_cmpR op_ne (pe_ix ix_list (pe_ix ix_list (pv 0) (pe_ix ix_list (pv 2) (pe_un un_neg pe_int) (fun _ _ => rfl)) (fun _ _ => rfl)) (pv 1) (fun _ _ => rfl)) pe_int (nomark _))
      (pss_one (ps_expr (pe_bm PySem.F.plainAttrs_list PySem.F.slot_list_append PySem.F.type_list_append mt_append (pv 2) (pa_cons (pe_ix ix_list (pe_ix ix_list (pv 0) (pe_ix ix_list (pv 2) (pe_un un_neg pe_int) (fun _ _ => rfl)) (fun _ _ => rfl)) (pv 1) (fun _ _ => rfl)) pa_nil)))))
    (pss_one (ps_ret (pv 2))))), ?_⟩
  refine q_asgL (el_lst (ea_cons ev_c ea_nil) (by decide)) fun l H1 nl e1 h1 => ?_
  refine q_while (fun m σ' H' => ∃ i : Nat, m = n - i ∧ i < n ∧ σ' = [some (.ref t), some (.int a), some (.ref l)] ∧ Ex H H' ∧ H' l = some (.lst (((List.range (i + 1)).map (pw S a)).map V.int))) n ⟨0, rfl, ho.pos, rfl, e1, h1⟩ ?_
  rintro m σ' H' ⟨i, rfl, hi, rfl, ex, hl1⟩
  refine ⟨!decide (pw S a (i + 1) = 1), et_is (et_test (ev_op (ev _ _ l i rfl ex hl1) ev_c (rv_ne rfl))) (by rw [dec_int]), fun hb H2 e2 => ?_, fun hb H2 e2 => ?_⟩
  · have hne : pw S a (i + 1) ≠ 1 := by simpa using hb
    have hi2 : i + 1 < n := by
      rcases Nat.lt_or_ge (i + 1) n with z | z
      · exact z
      · exact absurd (by rw [show i + 1 = n by omega]; exact ho.fin) hne
    refine ⟨fun σ2 H2 => ∃ i' : Nat, n - i' < n - i ∧ i' < n ∧ σ2 = [some (.ref t), some (.int a), some (.ref l)] ∧ Ex H H2 ∧ H2 l = some (.lst (((List.range (i' + 1)).map (pw S a)).map V.int)), fun σ2 H2 ⟨i', h1, h2, h3, h4, h5⟩ => ⟨n - i', h1, i', rfl, h2, h3, h4, h5⟩, ?_⟩
    refine s_app (e2 _ _ hl1) (ev_var rfl) (ev _ _ l i rfl (ex.trans e2) (e2 _ _ hl1)) (by rw [List.length_map, List.length_map, List.length_range]; omega) fun H3 e3 => ?_
    refine ⟨i + 1, by omega, hi2, rfl, Ex.mut ((ex.trans e2).trans e3) nl, ?_⟩
    rw [upd_same, List.range_succ (n := i + 1), List.map_append, List.map_append]
    rfl
  · have he : pw S a (i + 1) = 1 := by simpa using hb
    have hin : i + 1 = n := by
      rcases Nat.lt_or_ge (i + 1) n with z | z
      · exact absurd he (ho.not (i + 1) (by omega) z)
      · omega
    refine s_ret (ev_var rfl) fun H3 e3 => k l H3 nl ((ex.trans e2).trans e3) ?_
    rw [← hin]
    exact (e2.trans e3) _ _ hl1
/-! _primitive_powers: 0 products, 1 a, 2 powers -/
abbrev s_primitive_powers : Stmt := topS 22
theorem sc_primitive_powers : FnScope ["products", "a", "powers"] ["products"] (defScope s_primitive_powers) := ⟨rfl, rfl, rfl, by decide +kernel, rfl, by decide +kernel, by decide +kernel⟩
def spPrims (K : PySem.W.Frag) : Sp := fun vs H Q _ => ∃ (t : Addr) (T : List (List Int)) (q g : Nat) (n : Nat → Nat), vs = [.ref t] ∧ IsTab H t T ∧ Bds T q ∧ T.length = q ∧ 2 ≤ q ∧ q ≤ 256 ∧ Prims T q g n ∧ RetL (((List.range (q - 1)).map (pw T (g : Int))).map V.int) H Q
theorem ok_prims {f : Addr} {fd : FuncData} (F : Fun K "_primitive_powers" "_primitive_powers" s_primitive_powers f fd) (T : FTxt mg) (D_powers_of : Dk P w K mg base CX0 1 "_powers_of" ["products", "a"] (spPows K)) : FnOk P w K mg base CX0 2 f fd ["products"] (spPrims K) := by
  refine F.ok sc_primitive_powers (fun vs H Q E h => ?_) (fun cdv A outer s H vs Q E hr h => ?_)
  · obtain ⟨_, _, _, _, _, rfl, _⟩ := h
    rfl
  obtain ⟨t, S, q, g, n, rfl, hT, hb, hl, q2, q256, pr, k⟩ := h
  obtain ⟨rsT, hTr⟩ := id hT
  refine ⟨_, (pss_cons (ps_set (i := 1) sc_primitive_powers.nd rfl (Or.inl rfl) pe_int)
    (pss_cons (ps_set (i := 2) sc_primitive_powers.nd rfl (Or.inl rfl) (pe_lst (pa_cons pe_int pa_nil)))
    (pss_cons (ps_while PassesOwn.never (pt_cmpR op_lt (pe_callB call_len_seq (by rfl) T.z_len PySem.boot_len (pa_cons (pv 2) pa_nil)) (pe_op op_sub (pe_callB call_len_seq (by rfl) T.z_len PySem.boot_len (pa_cons (pv 0) pa_nil)) pe_int) (nomark _))
      (pss_cons (ps_aug (i := 1) sc_primitive_powers.nd rfl (Or.inl rfl) pe_int ip_add)
      (pss_one (ps_set (i := 2) sc_primitive_powers.nd rfl (Or.inl rfl) (pe_cd D_powers_of hr (by rfl) (pa_cons (pv 0) (pa_cons (pv 1) pa_nil)))))))
    (pss_one (ps_ret (pv 2)))))), ?_⟩
  refine q_asg ev_c fun H1 e1 => ?_
  refine q_asgL (el_lst (ea_cons ev_c ea_nil) (by decide)) fun l H2 nl e2 h2 => ?_
  refine q_while (fun m σ' H' => ∃ (a : Nat) (l : Addr), m = g - a ∧ 1 ≤ a ∧ a ≤ g ∧ σ' = [some (.ref t), some (.int (a : Int)), some (.ref l)] ∧ H l = none ∧ Ex H H' ∧ H' l = some (.lst (((List.range (if a = 1 then 1 else n a)).map (pw S (a : Int))).map V.int))) (g - 1) ⟨1, l, rfl, by omega, pr.pos, rfl, fresh_back e1 nl, e1.trans e2, h2⟩ ?_
  rintro m σ' H' ⟨a, l, rfl, ha1, hag, rfl, nl, ex, hl1⟩
  refine ⟨decide (((if a = 1 then 1 else n a : Nat) : Int) < (q : Int) - 1), et_is (et_test (ev_op (ev_cb (ea_cons (ev_var rfl) ea_nil) (rc_len (sq_of hl1))) (ev_op (ev_cb (ea_cons (ev_var rfl) ea_nil) (rc_len (sq_of (ex _ _ hTr.hd)))) ev_c rv_I0) rv_I0)) ?_, fun hb1 H3 e3 => ?_, fun hb1 H3 e3 => ?_⟩
  · rw [List.length_map, List.length_map, List.length_range, List.length_map, hTr.len, hl]
  · have hlt := of_decide_eq_true hb1
    have hag2 : a < g := by
      rcases Nat.lt_or_ge a g with z | z
      · exact z
      · have : a = g := by omega
        subst this
        by_cases h1 : a = 1
        · have := pr.one h1
          rw [if_pos h1] at hlt
          omega
        · rw [if_neg h1, pr.top (by omega)] at hlt
          omega
    refine ⟨fun σ2 H2 => ∃ (l : Addr), σ2 = [some (.ref t), some (.int ((a + 1 : Nat) : Int)), some (.ref l)] ∧ H l = none ∧ Ex H H2 ∧ H2 l = some (.lst (((List.range (n (a + 1))).map (pw S ((a + 1 : Nat) : Int))).map V.int)), fun σ2 H2 ⟨l', h3, h4, h5, h6⟩ => ⟨g - (a + 1), by omega, a + 1, l', rfl, by omega, by omega, h3, h4, h5, by rw [if_neg (by omega)]; exact h6⟩, ?_⟩
    refine q_aug rfl ev_c fun H4 e4 => ?_
    refine s_asgC (by walk_at "ev") fun H5 e5 => ?_
    have ex5 := ((ex.trans e3).trans e4).trans e5
    have ho := pr.ord (a + 1) (by omega) (by omega)
    have hgq := pr.lt
    refine ⟨t, S, q, n (a + 1), ((a + 1 : Nat) : Int), rfl, hT.ex ex5, hb, hl, q2, q256, by omega, by omega, ho.1, by omega, fun l2 H6 nl2 e6 h6 => ⟨l2, rfl, fresh_back ex5 nl2, ex5.trans e6, h6⟩⟩
  · have hge := of_decide_eq_false hb1
    have hag2 : a = g := by
      rcases Nat.lt_or_ge a g with z | z
      · by_cases h1 : a = 1
        · subst h1
          rw [if_pos rfl] at hge
          have o := pr.ord 2 (by omega) (by omega)
          have p1 := o.1.pos
          have hq : q = 2 := by omega
          have := pr.lt
          omega
        · rw [if_neg h1] at hge
          have := pr.low a (by omega) z
          omega
      · omega
    subst hag2
    have hn : (if a = 1 then 1 else n a) = q - 1 := by
      by_cases h1 : a = 1
      · rw [if_pos h1, pr.one h1]
      · rw [if_neg h1, pr.top (by omega)]
    rw [hn] at hl1
    exact s_ret (ev_var rfl) fun H4 e4 => k l H4 nl ((ex.trans e3).trans e4) ((e3.trans e4) _ _ hl1)
end
end My
set_option Elab.async false
set_option linter.all false
set_option maxRecDepth 100000
set_option maxHeartbeats 1000000
namespace My
open PySem L2 Evl GxR MyG
local macro_rules | `(tactic| walk_at "ev") => `(tactic| repeat' (first
  | exact ev_c
  | exact ev_var rfl
  | exact ea_nil
  | exact eo_none
  | (refine' ev_cb ?ea (rc_len ?sq); (case ea => walk_at "evs"); (case sq => walk_at "sq"))
  | (refine' ev_op ?a ?b (rv_ixL ?sq ?ix); (case a => walk_at "evs"); (case b => walk_at "evs"); (case sq => walk_at "sq"); (case ix => walk_at "at"))
  | refine' ea_cons ?_ ?_
  | refine' eo_some ?_
  | refine' ev_op ?_ ?_ rv_I0
  | refine' ev_op ?_ ?_ (rv_eq ?_)
  | refine' ev_op ?_ ?_ (rv_ne ?_)
  | refine' ev_op ?_ ?_ (rv_I ?_)
  | refine' ev_un ?_ ru_neg
  | refine' ev_cb ?_ rc_int
  | refine' ev_cb ?_ rc_abs
  | refine' ev_cb ?_ rc_max2
  | refine' ev_andV ?_ ?_
  | refine' ev_notV ?_
  | refine' et_test ?_
  | refine' et_B ?_
  | refine' et_not ?_))
local macro_rules | `(tactic| walk_at "side") => `(tactic| first
  | rfl
  | decide
  | exact ⟨by decide, by decide⟩
  | exact .inr ⟨by decide, by decide⟩
  | exact .inl ⟨by decide, by decide⟩
  | omega
  | exact .inl ⟨by omega, by omega⟩
  | exact ⟨by omega, by omega⟩
  | exact .inr ⟨by omega, by omega⟩)
local macro_rules | `(tactic| walk_at "evs") => `(tactic| (walk_at "ev"; all_goals (walk_at "side")))
local macro_rules | `(tactic| walk_at "ex") => `(tactic| first
  | with_reducible exact Ex.refl _
  | with_reducible assumption
  | (refine' Ex.trans ?_ ?b; (case b => with_reducible assumption); walk_at "ex"))
local macro_rules | `(tactic| walk_at "sq") => `(tactic| first
  | (refine' sq_ex ?h ?e; (case h => with_reducible assumption); (case e => walk_at "ex"))
  | (refine' ex_l ?e ?h; (case h => with_reducible assumption); (case e => walk_at "ex"))
  | (refine' ex_l ?e ?h; (case h => assumption); (case e => walk_at "ex"))
  | assumption
  | exact sq_of (by assumption))
local macro_rules | `(tactic| walk_at "at") => `(tactic| first
  | exact at_int (by omega) (by omega)
  | exact atI_nat (j := 0) rfl
  | exact atI_nat (j := 1) rfl
  | exact atI_nat (j := 2) rfl)
local macro_rules | `(tactic| walk_at "side2") => `(tactic| first | exact CMul_bdl (by assumption) | exact CMul_bdr (by assumption) | walk_at "side")
local macro_rules | `(tactic| walk_at "evb") => `(tactic| (walk_at "ev"; all_goals (walk_at "side2")))

theorem ps_never {X : Cx} {st : Stmt} : PS X st (fun _ _ _ => False) := ⟨fun _ _ _ _ _ _ h => h.elim⟩
structure CTxt (K : PySem.W.Frag) (mg : Str → Option Value) (C : Addr) : Prop where
  cl : Cls K C
  mgC : mg "Field" = some (.ref C)
  n_prime : NoAttr K C "prime"
  n_modulus : NoAttr K C "modulus"
  n_degree : NoAttr K C "degree"
  n_order : NoAttr K C "order"
  n_sums : NoAttr K C "_sums"
  n_products : NoAttr K C "_products"
  n_negatives : NoAttr K C "_negatives"
  n_powers : NoAttr K C "_powers"
  n_logs : NoAttr K C "_logs"
/-! fields of an object -/
section
variable {K : PySem.W.Frag} {σ : L2.St} {H : Hp} {D : Ends} {tz tu : TS} {tv : TE} {ta : TA} {v y : V} {x C dx : Addr} {fs : List (Str × V)} {f : Str} {i : Nat}
theorem ev_fld (h0 : σ[i]? = some (some (.ref x))) (hx : H x = some (.ins C dx fs)) (c : Cls K C) (n : NoAttr K C f) (hl : fs.lookup f = some v) : Ev (tFld K (tVar i) f) σ H v :=
  fun H1 e _ q => ⟨_, h0, x, C, dx, fs, v, rfl, e _ _ hx, c, n, hl, q H1 (Ex.refl H1)⟩
theorem s_fld (h : Ev tv σ H y) (h0 : σ[i]? = some (some (.ref x))) (hx : H x = some (.ins C dx fs)) (c : Cls K C) (n : NoAttr K C f) (hl : fs.length < 1000) (k : ∀ H1, Ex H H1 → D.nx σ (upd H1 x (.ins C dx (putF f y fs)))) : sFld K (tVar i) tv f D σ H :=
  h H (Ex.refl H) _ fun H1 e1 => ⟨_, h0, x, C, dx, fs, rfl, e1 _ _ hx, c, n, hl, k H1 e1⟩
theorem q_fld (h : Ev tv σ H y) (h0 : σ[i]? = some (some (.ref x))) (hx : H x = some (.ins C dx fs)) (c : Cls K C) (n : NoAttr K C f) (hl : fs.length < 1000) (k : ∀ H1, Ex H H1 → tz D σ (upd H1 x (.ins C dx (putF f y fs)))) : tSeq (sFld K (tVar i) tv f) tz D σ H :=
  s_fld (D := { D with nx := tz D }) h h0 hx c n hl k
theorem rc_tupT {a : Addr} {xs : List V} (h : SqT K H a xs) : RC (fun xs H Q => ∃ p ys, xs = [.ref p] ∧ ((SqL K H p ys ∧ ∀ l, H l = none → Q (.ref l) (upd H l (.tup ys))) ∨ (SqT K H p ys ∧ Q (.ref p) H))) [.ref a] H (.ref a) :=
  fun H1 e _ q => ⟨a, xs, rfl, .inr ⟨ex_t e h, q H1 (Ex.refl H1)⟩⟩
end
/-! {a: exponent for exponent, a in enumerate(list of ints)} -/
def logsOf (ns : List Int) (i : Nat) : List (Key × V) := (List.range i).foldl (fun kvs j => putK kvs (.inl (ns.getD j 0)) (.int (j : Int))) []
theorem logsOf_succ (ns : List Int) (i : Nat) : logsOf ns (i + 1) = putK (logsOf ns i) (.inl (ns.getD i 0)) (.int (i : Int)) := by
  unfold logsOf
  rw [List.range_succ, List.foldl_append]
  rfl
theorem logsOf_len (ns : List Int) : ∀ i, (logsOf ns i).length ≤ i
  | 0 => Nat.le_refl _
  | i + 1 => by
    rw [logsOf_succ]
    have := length_putK (logsOf ns i) (.inl (ns.getD i 0)) (V.int (i : Int))
    have := logsOf_len ns i
    omega
section
variable {K : PySem.W.Frag} {σ : L2.St} {H : Hp} {ta : TA} {r : Addr} {ns : List Int} {vs : List Nat} {g : TG} {ie ia : Nat}
theorem dc_enum (h : EvA ta σ H [.ref r]) (hr : H r = some (.lst (ns.map V.int))) (hz : ns.length ≤ 1000) (σ2 : V → V → L2.St) (hgt : ∀ T x y H' (Q' : L2.St → Hp → Prop), H' T = some (.tup [x, y]) → Q' (σ2 x y) H' → g (.ref T) (wipe σ vs) H' Q') (hw : ∀ x y, wipe (σ2 x y) vs = wipe σ vs)
    (hie : ∀ x y, (σ2 x y)[ie]? = some (some x)) (hia : ∀ x y, (σ2 x y)[ia]? = some (some y)) {Q : VK} (k : ∀ D H1, H D = none → Ex H H1 → H1 D = some (.dK (logsOf ns ns.length)) → Q (.ref D) H1) : tDc (iEnum K ta) g tYes (tVar ia) (tVar ie) vs σ H Q := by
  refine h H (Ex.refl H) _ fun H1 e1 => ⟨r, _, rfl, sq_of (e1 _ _ hr), fun D hD => ?_⟩
  refine ⟨fun i m H' => m = ns.length - i ∧ i ≤ ns.length ∧ Ex H1 H' ∧ H' D = some (.dK (logsOf ns i)), ⟨ns.length, rfl, Nat.zero_le _, Ex.new hD, upd_same⟩, ?_⟩
  rintro i m H' ⟨rfl, hi, ex, hl⟩
  have hq : SqL K H' r (ns.map V.int) := sq_of (ex _ _ (e1 _ _ hr))
  have wk := walk_enum (K := K) (a := r) (xs := ns.map V.int)
  by_cases hlt : i < ns.length
  · refine .inr ⟨wk.goes i H' (by rw [List.length_map]; exact hlt) hq, fun H' => Ex H1 H' ∧ H' D = some (.dK (logsOf ns (i + 1))), fun H' p => ⟨ns.length - (i + 1), by omega, rfl, hlt, p.1, p.2⟩, fun x H2 yl => ?_⟩
    obtain ⟨T, x1, y1, rfl, hT, rfl, hx, hy⟩ := wk.yields i _ x H2 (by rw [List.length_map]; exact hlt) hq yl
    have hx1 : x1 = .int (i : Int) := (Option.some.inj hx).symm
    have hy1 : y1 = .int (ns.getD i 0) := Option.some.inj (hy.symm.trans (by show (ns.map V.int)[i]? = _; rw [List.getElem?_map, List.getElem?_eq_getElem hlt, List.getD_eq_getElem?_getD, List.getElem?_eq_getElem hlt]; rfl))
    subst hx1 hy1
    have eT : Ex H' (upd H' T (.tup [.int (i : Int), .int (ns.getD i 0)])) := Ex.new hT
    refine hgt T _ _ _ _ upd_same ⟨hw _ _, ?_⟩
    refine tyes_if ?_
    refine ⟨_, hia _ _, _, hie _ _, logsOf ns i, .inl (ns.getD i 0), rfl, eT _ _ hl, sz_lt (by have := logsOf_len ns i; omega), Ex.mut (ex.trans eT) hD, ?_⟩
    rw [upd_same, logsOf_succ]
  · have ei : i = ns.length := by omega
    subst ei
    have hst := wk.stops H' hq
    rw [List.length_map] at hst
    exact .inl ⟨hst, k D H' (fresh_back e1 hD) (e1.trans ex) hl⟩
end
/-! what stands while the object at x is being made -/
structure Run (Pt x : Addr) (Hb H : Hp) : Prop where
  g : TabG H Pt
  keep : ∀ b o, b ≠ Pt → b ≠ x → Hb b = some o → H b = some o
theorem Run.ex {Pt x : Addr} {Hb H H1 : Hp} (r : Run Pt x Hb H) (e : Ex H H1) : Run Pt x Hb H1 := ⟨TabG.ex r.g e, fun b o h1 h2 h => e _ _ (r.keep b o h1 h2 h)⟩
theorem Run.exP {Pt x : Addr} {Hb H H1 : Hp} (r : Run Pt x Hb H) (e : ExP Pt H H1) : Run Pt x Hb H1 := ⟨e.1, fun b o h1 h2 h => e.2 b o h1 (r.keep b o h1 h2 h)⟩
theorem Run.put {Pt x : Addr} {Hb H : Hp} {o' : HO} (r : Run Pt x Hb H) (hx : x ≠ Pt) : Run Pt x Hb (upd H x o') := by
  obtain ⟨g, kp⟩ := r
  exact ⟨by show upd H x o' Pt = _; rw [upd_ne (fun z => hx z.symm)]; exact g, fun b o h1 h2 h => by rw [upd_ne h2]; exact kp b o h1 h2 h⟩
theorem Run.done {Pt x : Addr} {Hb H : Hp} (r : Run Pt x Hb H) (hx : Hb x = none) : ExP Pt Hb H := ⟨r.g, fun b o h1 h => r.keep b o h1 (ne_of_none h hx) h⟩
/-- all but x as it was -/
structure Own (x : Addr) (H H' : Hp) : Prop where
  ins : ∃ C dx fs, H x = some (.ins C dx fs)
  keep : ∀ b o, b ≠ x → H b = some o → H' b = some o
theorem Own.put {x : Addr} {H H1 : Hp} {o' : HO} {C dx : Addr} {fs : List (Str × V)} (hx : H x = some (.ins C dx fs)) (e : Ex H H1) : Own x H (upd H1 x o') := ⟨⟨C, dx, fs, hx⟩, fun b o hb h => by rw [upd_ne hb]; exact e _ _ h⟩
theorem Own.lst {x a : Addr} {H H' : Hp} {l : List V} (w : Own x H H') (h : H a = some (.lst l)) : H' a = some (.lst l) := by
  obtain ⟨C, dx, fs, hx⟩ := w.ins
  refine w.keep _ _ (fun z => ?_) h
  rw [z, hx] at h
  cases h
theorem Own.tab {x a : Addr} {H H' : Hp} {T : List (List Int)} (w : Own x H H') (h : IsTab H a T) : IsTab H' a T := by
  obtain ⟨rs, h1, h2, h3, h4⟩ := h
  exact ⟨rs, h1, w.lst h2, fun i r q e1 e2 => w.lst (h3 i r q e1 e2), h4⟩
theorem Own.sqt {K : PySem.W.Frag} {x a : Addr} {H H' : Hp} {xs : List V} (w : Own x H H') (h : SqT K H a xs) : SqT K H' a xs := by
  obtain ⟨C, dx, fs, hx⟩ := w.ins
  rcases h with (h | ⟨o, h⟩) | h
  · refine .inl (.inl (w.keep _ _ (fun z => ?_) h))
    rw [z, hx] at h
    cases h
  · refine .inl (.inr ⟨o, w.keep _ _ (fun z => ?_) h⟩)
    rw [z, hx] at h
    cases h
  · exact .inr h
theorem sqT_exP {K : PySem.W.Frag} {P a : Addr} {H H2 : Hp} {xs : List V} (g : TabG H P) (e : ExP P H H2) (h : SqT K H a xs) : SqT K H2 a xs := by
  rcases h with (h | ⟨o, h⟩) | h
  · exact .inl (.inl (e.2 a _ (tab_ne g h fun q z => by cases z) h))
  · exact .inl (.inr ⟨o, e.2 a _ (tab_ne g h fun q z => by cases z) h⟩)
  · exact .inr h
theorem lst_exP {P a : Addr} {H H2 : Hp} {xs : List V} (g : TabG H P) (e : ExP P H H2) (h : H a = some (.lst xs)) : H2 a = some (.lst xs) := e.2 a _ (tab_ne g h fun q z => by cases z) h
theorem tab_exP {P a : Addr} {H H2 : Hp} {T : List (List Int)} (g : TabG H P) (e : ExP P H H2) (h : IsTab H a T) : IsTab H2 a T := by
  obtain ⟨rs, h1, h2, h3, h4⟩ := h
  exact ⟨rs, h1, lst_exP g e h2, fun i r q e1 e2 => lst_exP g e (h3 i r q e1 e2), h4⟩
/-! a field -/
def FsOf (p : Nat) (c : Addr) (d : Nat) (as ap an aw al : Addr) : List (Str × V) :=
  putF "_logs" (.ref al) (putF "_powers" (.ref aw) (putF "_negatives" (.ref an) (putF "_products" (.ref ap) (putF "_sums" (.ref as) (putF "order" (.int ((p ^ d : Nat) : Int)) (putF "degree" (.int (d : Int)) (putF "modulus" (.ref c) (putF "prime" (.int (p : Int)) []))))))))
def pwL (p : Nat) (m : List Int) (d g : Nat) : List Int := (List.range (p ^ d - 1)).map (pw (prodTab p m (sumTab p d)) (g : Int))
structure FldR (K : PySem.W.Frag) (C : Addr) (H : Hp) (x : Addr) (p : Nat) (m : List Int) (d g : Nat) (dx c as ap an aw al : Addr) : Prop where
  ob : H x = some (.ins C dx (FsOf p c d as ap an aw al))
  mod : SqT K H c (m.map V.int)
  sums : IsTab H as (sumTab p d)
  prods : IsTab H ap (prodTab p m (sumTab p d))
  negs : H an = some (.lst (((prodTab p m (sumTab p d)).getD (p - 1) []).map V.int))
  pows : H aw = some (.lst ((pwL p m d g).map V.int))
  logs : H al = some (.dK (logsOf (pwL p m d g) (pwL p m d g).length))
def Fld (K : PySem.W.Frag) (C : Addr) (H : Hp) (x : Addr) (p : Nat) (m : List Int) (d g : Nat) : Prop := ∃ dx c as ap an aw al, FldR K C H x p m d g dx c as ap an aw al
theorem Fld.ex {K : PySem.W.Frag} {C x : Addr} {H H1 : Hp} {p d g : Nat} {m : List Int} (h : Fld K C H x p m d g) (e : Ex H H1) : Fld K C H1 x p m d g := by
  obtain ⟨dx, c, as, ap, an, aw, al, h⟩ := h
  exact ⟨dx, c, as, ap, an, aw, al, e _ _ h.ob, ex_t e h.mod, h.sums.ex e, h.prods.ex e, e _ _ h.negs, e _ _ h.pows, e _ _ h.logs⟩
theorem Fld.exP {K : PySem.W.Frag} {C x Pt : Addr} {H H1 : Hp} {p d g : Nat} {m : List Int} (h : Fld K C H x p m d g) (gt : TabG H Pt) (e : ExP Pt H H1) : Fld K C H1 x p m d g := by
  obtain ⟨dx, c, as, ap, an, aw, al, h⟩ := h
  exact ⟨dx, c, as, ap, an, aw, al, e.2 _ _ (tab_ne gt h.ob fun q z => by cases z) h.ob, sqT_exP gt e h.mod, tab_exP gt e h.sums, tab_exP gt e h.prods, lst_exP gt e h.negs, lst_exP gt e h.pows, e.2 _ _ (tab_ne gt h.logs fun q z => by cases z) h.logs⟩
/-- the numbers of a field -/
structure FOK (p : Nat) (m : List Int) (e g : Nat) : Prop where
  val : ValidF (p : Int) m
  p2 : 2 ≤ p
  len : m.length = e + 2
  sz : p ^ (e + 1) ≤ 256
  pr : ∃ n, Prims (prodTab p m (sumTab p (e + 1))) (p ^ (e + 1)) g n
end My
set_option linter.all false
set_option maxRecDepth 100000
set_option maxHeartbeats 1000000
namespace My
/-! no more than n different numbers below n -/
theorem no_inj : ∀ (n : Nat) (f : Nat → Nat), (∀ i, i < n + 1 → f i < n) → ¬ ∀ i j, i < j → j < n + 1 → f i ≠ f j
  | 0, f, h, _ => absurd (h 0 (by omega)) (by omega)
  | n + 1, f, h, hi => by
    refine no_inj n (fun i => if f (n + 1) < f i then f i - 1 else f i) (fun i hn => ?_) (fun i j hij hj => ?_)
    · have h1 := h i (by omega)
      have h2 := h (n + 1) (by omega)
      have h3 := hi i (n + 1) hn (by omega)
      split <;> omega
    · have h1 := hi i j hij (by omega)
      have h2 := hi i (n + 1) (by omega) (by omega)
      have h3 := hi j (n + 1) hj (by omega)
      split <;> split <;> omega
/-- n different numbers below n are all of them -/
theorem inj_surj {n : Nat} {f : Nat → Nat} (h : ∀ i, i < n → f i < n) (hi : ∀ i j, i < j → j < n → f i ≠ f j) {v : Nat} (hv : v < n) : ∃ i, i < n ∧ f i = v := by
  obtain ⟨k, rfl⟩ : ∃ k, n = k + 1 := ⟨n - 1, by omega⟩
  by_cases hk : ∃ i, i < k + 1 ∧ f i = v
  · exact hk
  · exfalso
    have hk' : ∀ i, i < k + 1 → f i ≠ v := fun i h1 h2 => hk ⟨i, h1, h2⟩
    refine no_inj k (fun i => if v < f i then f i - 1 else f i) (fun i hn => ?_) (fun i j hij hj => ?_)
    · have h1 := h i hn
      have h2 := hk' i hn
      split <;> omega
    · have h1 := hi i j hij hj
      have h2 := hk' i (by omega)
      have h3 := hk' j hj
      split <;> split <;> omega
/-- the powers of an element -/
abbrev fW (p : Nat) (m : List Int) (e : Nat) (a : Int) (k : Nat) : Int := pw (prodTab p m (sumTab p (e + 1))) a k
section
variable {p : Nat} {m : List Int} {e g : Nat} {a b : Int}
theorem fW_in (hp : 2 ≤ p) (hm : m.length = e + 2) (ha : inF p e a) : ∀ k, inF p e (fW p m e a k)
  | 0 => in_one hp
  | k + 1 => fP_in hp hm (fW_in hp hm ha k) ha
theorem fW_add (hp : 2 ≤ p) (hm : m.length = e + 2) (ha : inF p e a) (i : Nat) : ∀ j, fW p m e a (i + j) = fP p m e (fW p m e a i) (fW p m e a j)
  | 0 => (fP_one hp hm (fW_in hp hm ha i)).symm
  | j + 1 => by
    show fP p m e (fW p m e a (i + j)) a = fP p m e (fW p m e a i) (fP p m e (fW p m e a j) a)
    rw [fW_add hp hm ha i j, fP_assoc hp hm (fW_in hp hm ha i) (fW_in hp hm ha j) ha]
theorem fW_mul (hp : 2 ≤ p) (hm : m.length = e + 2) (ha : inF p e a) (i : Nat) : ∀ j, fW p m e (fW p m e a i) j = fW p m e a (i * j)
  | 0 => rfl
  | j + 1 => by
    show fP p m e (fW p m e (fW p m e a i) j) (fW p m e a i) = _
    rw [fW_mul hp hm ha i j, Nat.mul_succ, fW_add hp hm ha]
theorem fW_one (hp : 2 ≤ p) (hm : m.length = e + 2) : ∀ k, fW p m e 1 k = 1
  | 0 => rfl
  | k + 1 => by
    show fP p m e (fW p m e 1 k) 1 = 1
    rw [fW_one hp hm k, fP_one hp hm (in_one hp)]
theorem fW_1 (hp : 2 ≤ p) (hm : m.length = e + 2) (ha : inF p e a) : fW p m e a 1 = a := fP_one' hp hm ha
theorem fW_zero (hp : 2 ≤ p) (hm : m.length = e + 2) {k : Nat} (hk : 0 < k) : fW p m e 0 k = 0 := by
  obtain ⟨j, rfl⟩ : ∃ j, k = j + 1 := ⟨k - 1, by omega⟩
  exact fP_zero hp hm (fW_in hp hm (in_zero hp) j)
theorem fW_dbl (hp : 2 ≤ p) (hm : m.length = e + 2) (ha : inF p e a) (k : Nat) : fW p m e (fP p m e a a) k = fW p m e a (2 * k) := by
  have h : fP p m e a a = fW p m e a 2 := by
    show _ = fP p m e (fW p m e a 1) a
    rw [fW_1 hp hm ha]
  rw [h, fW_mul hp hm ha]
/-- a primitive element -/
structure PrimE (p : Nat) (m : List Int) (e : Nat) (g : Nat) : Prop where
  lt : g < p ^ (e + 1)
  q2 : 2 ≤ p ^ (e + 1)
  ord : OrdP (prodTab p m (sumTab p (e + 1))) (g : Int) (p ^ (e + 1) - 1)
theorem FOK.prim (o : FOK p m e g) : PrimE p m e g := by
  obtain ⟨n, P⟩ := o.pr
  have q2 : 2 ≤ p ^ (e + 1) := Nat.le_trans o.p2 (p_le o.p2)
  refine ⟨P.lt, q2, ?_⟩
  by_cases hg : 2 ≤ g
  · have h := (P.ord g hg (Nat.le_refl g)).1
    rw [P.top hg] at h
    exact h
  · have : g = 1 := by have := P.pos; omega
    subst this
    rw [P.one rfl]
    exact ⟨by decide, fW_one o.p2 o.len 1, fun k h0 h1 => by omega⟩
variable (hp : 2 ≤ p) (hm : m.length = e + 2) (P : PrimE p m e g)
include hp hm P
theorem PrimE.inn : inF p e (g : Int) := ⟨by omega, by have := P.lt; omega⟩
/-- exponents count modulo q - 1 -/
theorem PrimE.mod (k : Nat) : fW p m e (g : Int) k = fW p m e (g : Int) (k % (p ^ (e + 1) - 1)) := by
  have hg := P.inn hp hm
  have h := Nat.div_add_mod k (p ^ (e + 1) - 1)
  have h1 : fW p m e (g : Int) ((p ^ (e + 1) - 1) * (k / (p ^ (e + 1) - 1)) + k % (p ^ (e + 1) - 1)) = fW p m e (g : Int) (k % (p ^ (e + 1) - 1)) := by
    rw [fW_add hp hm hg, ← fW_mul hp hm hg, show fW p m e (g : Int) (p ^ (e + 1) - 1) = 1 from P.ord.fin, fW_one hp hm, fP_one' hp hm (fW_in hp hm hg _)]
  rw [h] at h1
  exact h1
theorem PrimE.inj {i j : Nat} (hij : i < j) (hj : j < p ^ (e + 1) - 1) : fW p m e (g : Int) i ≠ fW p m e (g : Int) j := fun h => by
  have hg := P.inn hp hm
  have h1 := congrArg (fun x => fP p m e x (fW p m e (g : Int) (p ^ (e + 1) - 1 - i))) h
  rw [← fW_add hp hm hg, ← fW_add hp hm hg, show i + (p ^ (e + 1) - 1 - i) = p ^ (e + 1) - 1 by omega] at h1
  have h2 : fW p m e (g : Int) (p ^ (e + 1) - 1) = 1 := P.ord.fin
  rw [h2, P.mod hp hm, show j + (p ^ (e + 1) - 1 - i) = (j - i) + (p ^ (e + 1) - 1) by omega, Nat.add_mod_right, Nat.mod_eq_of_lt (by omega)] at h1
  exact P.ord.not (j - i) (by omega) (by omega) h1.symm
theorem PrimE.ne (k : Nat) : fW p m e (g : Int) k ≠ 0 := fun h => by
  have hg := P.inn hp hm
  rw [P.mod hp hm] at h
  have q0 : 0 < p ^ (e + 1) - 1 := P.ord.pos
  have hlt := Nat.mod_lt k q0
  generalize k % (p ^ (e + 1) - 1) = j at h hlt
  have h2 : fW p m e (g : Int) (p ^ (e + 1) - 1) = 1 := P.ord.fin
  rw [show p ^ (e + 1) - 1 = j + (p ^ (e + 1) - 1 - j) by omega, fW_add hp hm hg, h, fP_zero' hp hm (fW_in hp hm hg _)] at h2
  exact absurd h2 (by decide)
/-- each element but 0 is a power -/
theorem PrimE.all (ha : inF p e a) (h0 : a ≠ 0) : ∃ k, k < p ^ (e + 1) - 1 ∧ fW p m e (g : Int) k = a := by
  have hg := P.inn hp hm
  have inW := fun k => fW_in hp hm hg k
  have h := inj_surj (n := p ^ (e + 1) - 1) (f := fun k => (fW p m e (g : Int) k).toNat - 1) (fun i hi => by
    have h1 := inW i
    have h2 := P.ne hp hm i
    have := P.q2
    unfold My.inF at h1
    omega) (fun i j hij hj q => by
    have h1 := inW i
    have h2 := P.ne hp hm i
    have h3 := inW j
    have h4 := P.ne hp hm j
    unfold My.inF at h1 h3

    exact P.inj hp hm hij hj (by omega)) (v := a.toNat - 1) (by
    unfold My.inF at ha
    omega)
  obtain ⟨k, hk, e1⟩ := h
  refine ⟨k, hk, ?_⟩
  have h1 := inW k
  have h2 := P.ne hp hm k
  unfold My.inF at h1 ha
  omega
end
/-! what the dict of logarithms tells -/
section
open PySem L2
theorem logs_val (ns : List Int) : ∀ (n : Nat) (i : Nat), i < n → (∀ j, j < n → i < j → ns.getD j 0 ≠ ns.getD i 0) → valV (logsOf ns n) (.inl (ns.getD i 0)) = some (.int (i : Int))
  | 0, _, h, _ => absurd h (Nat.not_lt_zero _)
  | n + 1, i, hi, hd => by
    rw [logsOf_succ, valV_put]
    by_cases q : i = n
    · subst q
      rw [if_pos rfl]
    · have hne := hd n (by omega) (by omega)
      rw [if_neg (fun z => hne (Sum.inl.inj z).symm)]
      exact logs_val ns n i (by omega) (fun j h1 h2 => hd j (by omega) h2)
end
end My
set_option linter.all false
set_option maxRecDepth 100000
set_option maxHeartbeats 1000000
namespace My
/-! the elements of a field table as a ring -/
structure FPar where
  p : Nat
  m : List Int
  e : Nat
  hp : 2 ≤ p
  hm : m.length = e + 2
abbrev Fe (f : FPar) : Type := { a : Int // inF f.p f.e a }
section
variable {f : FPar}
def feAdd (a b : Fe f) : Fe f := ⟨fA f.p f.e a.1 b.1, fA_in f.hp a.2 b.2⟩
def feMul (a b : Fe f) : Fe f := ⟨fP f.p f.m f.e a.1 b.1, fP_in f.hp f.hm a.2 b.2⟩
def feInt (z : Int) : Fe f := ⟨z % (f.p : Int), in_small f.hp (Int.emod_nonneg _ (by have := f.hp; omega)) (Int.emod_lt_of_pos _ (by have := f.hp; omega))⟩
def feNeg (a : Fe f) : Fe f := ⟨fP f.p f.m f.e ((f.p - 1 : Nat) : Int) a.1, fP_in f.hp f.hm (in_small f.hp (by omega) (by have := f.hp; omega)) a.2⟩
def fePow (a : Fe f) : Nat → Fe f
  | 0 => feInt 1
  | n + 1 => feMul (fePow a n) a
theorem feInt_val (z : Int) (h0 : 0 ≤ z) (h1 : z < (f.p : Int)) : (feInt z : Fe f).1 = z := Int.emod_eq_of_lt h0 h1
theorem feInt_zero : (feInt 0 : Fe f).1 = 0 := Int.zero_emod _
theorem feInt_one : (feInt 1 : Fe f).1 = 1 := feInt_val 1 (by decide) (by have := f.hp; omega)
theorem feInt_add (x y : Int) : (feInt (x + y) : Fe f) = feAdd (feInt x) (feInt y) := by
  have hp := f.hp
  have bx := Int.emod_nonneg x (show (f.p : Int) ≠ 0 by omega)
  have bx1 := Int.emod_lt_of_pos x (show (0 : Int) < f.p by omega)
  have by0 := Int.emod_nonneg y (show (f.p : Int) ≠ 0 by omega)
  have by1 := Int.emod_lt_of_pos y (show (0 : Int) < f.p by omega)
  have bz := Int.emod_nonneg (x + y) (show (f.p : Int) ≠ 0 by omega)
  have bz1 := Int.emod_lt_of_pos (x + y) (show (0 : Int) < f.p by omega)
  refine Subtype.ext (f_eq hp (feInt (x + y)).2 (feAdd (feInt x) (feInt y)).2 ?_)
  refine Cg.trans ?_ (fA_cg hp (feInt x).2 (feInt y).2).symm
  show Cg _ (vec f.p ((x + y) % (f.p : Int))) (vadd (vec f.p (x % (f.p : Int))) (vec f.p (y % (f.p : Int))))
  rw [vec_small hp bz bz1, vec_small hp bx bx1, vec_small hp by0 by1]
  intro i
  unfold vadd vsm
  have h : (x + y) % (f.p : Int) % (f.p : Int) = (x % (f.p : Int) + y % (f.p : Int)) % (f.p : Int) := by rw [Int.emod_emod_of_dvd _ (Int.dvd_refl _), Int.add_emod]
  rw [← Int.add_mul, Int.mul_emod, h, ← Int.mul_emod]
theorem fe_add_zero (a : Fe f) : feAdd a (feInt 0) = a := by
  refine Subtype.ext ?_
  show fA f.p f.e a.1 (feInt 0 : Fe f).1 = a.1
  rw [feInt_zero]
  exact fA_zero f.hp a.2
theorem fe_add_comm (a b : Fe f) : feAdd a b = feAdd b a := Subtype.ext (fA_comm f.hp a.2 b.2)
theorem fe_add_assoc (a b c : Fe f) : feAdd (feAdd a b) c = feAdd a (feAdd b c) := Subtype.ext (fA_assoc f.hp a.2 b.2 c.2)
theorem fe_mul_comm (a b : Fe f) : feMul a b = feMul b a := Subtype.ext (fP_comm f.hp f.hm a.2 b.2)
theorem fe_mul_assoc (a b c : Fe f) : feMul (feMul a b) c = feMul a (feMul b c) := Subtype.ext (fP_assoc f.hp f.hm a.2 b.2 c.2)
theorem fe_mul_one (a : Fe f) : feMul a (feInt 1) = a := by
  refine Subtype.ext ?_
  show fP f.p f.m f.e a.1 (feInt 1 : Fe f).1 = a.1
  rw [feInt_one]
  exact fP_one f.hp f.hm a.2
theorem fe_mul_zero (a : Fe f) : feMul a (feInt 0) = feInt 0 := by
  refine Subtype.ext ?_
  show fP f.p f.m f.e a.1 (feInt 0 : Fe f).1 = (feInt 0 : Fe f).1
  rw [feInt_zero]
  exact fP_zero f.hp f.hm a.2
theorem fe_dist (a b c : Fe f) : feMul a (feAdd b c) = feAdd (feMul a b) (feMul a c) := Subtype.ext (fP_dist f.hp f.hm a.2 b.2 c.2)
theorem fe_neg_add (a : Fe f) : feAdd (feNeg a) a = feInt 0 := by
  rw [fe_add_comm]
  refine Subtype.ext ?_
  rw [feInt_zero]
  exact fA_neg f.hp f.hm a.2
theorem fe_neg_uniq {a b : Fe f} (h : feAdd a b = feInt 0) : a = feNeg b := by
  have h1 : feAdd (feAdd a b) (feNeg b) = feAdd (feInt 0) (feNeg b) := by rw [h]
  rw [fe_add_assoc, fe_add_comm b, fe_neg_add, fe_add_zero, fe_add_comm (feInt 0), fe_add_zero] at h1
  exact h1
theorem feInt_neg (i : Int) : (feInt (-i) : Fe f) = feNeg (feInt i) := fe_neg_uniq (by rw [← feInt_add, Int.add_left_neg])
instance (f : FPar) : Add (Fe f) := ⟨feAdd⟩
instance (f : FPar) : Mul (Fe f) := ⟨feMul⟩
instance (f : FPar) : Neg (Fe f) := ⟨feNeg⟩
instance (f : FPar) : Sub (Fe f) := ⟨fun a b => feAdd a (feNeg b)⟩
instance (f : FPar) : NatCast (Fe f) := ⟨fun n => feInt (n : Int)⟩
instance (f : FPar) : IntCast (Fe f) := ⟨feInt⟩
instance (f : FPar) (n : Nat) : OfNat (Fe f) n := ⟨feInt (n : Int)⟩
instance (f : FPar) : SMul Nat (Fe f) := ⟨fun n a => feMul (feInt (n : Int)) a⟩
instance (f : FPar) : SMul Int (Fe f) := ⟨fun n a => feMul (feInt n) a⟩
instance (f : FPar) : HPow (Fe f) Nat (Fe f) := ⟨fePow⟩
instance (f : FPar) : Lean.Grind.CommRing (Fe f) where
  add_zero := fe_add_zero
  add_comm := fe_add_comm
  add_assoc := fe_add_assoc
  mul_assoc := fe_mul_assoc
  mul_one := fe_mul_one
  one_mul := fun a => (fe_mul_comm _ _).trans (fe_mul_one a)
  left_distrib := fe_dist
  right_distrib := fun a b c => by
    show feMul (feAdd a b) c = feAdd (feMul a c) (feMul b c)
    rw [fe_mul_comm, fe_dist, fe_mul_comm c a, fe_mul_comm c b]
  zero_mul := fun a => (fe_mul_comm _ _).trans (fe_mul_zero a)
  mul_zero := fe_mul_zero
  pow_zero := fun _ => rfl
  pow_succ := fun _ _ => rfl
  ofNat_succ := fun n => by
    show feInt ((n + 1 : Nat) : Int) = feAdd (feInt (n : Int)) (feInt ((1 : Nat) : Int))
    rw [← feInt_add]
    rfl
  neg_add_cancel := fe_neg_add
  sub_eq_add_neg := fun _ _ => rfl
  neg_zsmul := fun i a => fe_neg_uniq (by
    show feAdd (feMul (feInt (-i)) a) (feMul (feInt i) a) = feInt 0
    rw [fe_mul_comm (feInt (-i)), fe_mul_comm (feInt i), ← fe_dist, ← feInt_add, Int.add_left_neg, fe_mul_zero])
  intCast_neg := feInt_neg
  mul_comm := fe_mul_comm
theorem fe_zero : (0 : Fe f).1 = 0 := feInt_zero
theorem fe_one : (1 : Fe f).1 = 1 := feInt_one
theorem fe_add (a b : Fe f) : (a + b).1 = fA f.p f.e a.1 b.1 := rfl
theorem fe_mul (a b : Fe f) : (a * b).1 = fP f.p f.m f.e a.1 b.1 := rfl
theorem fe_neg (a : Fe f) : (-a).1 = fP f.p f.m f.e ((f.p - 1 : Nat) : Int) a.1 := rfl
theorem fe_ext {a b : Fe f} (h : a.1 = b.1) : a = b := Subtype.ext h
example (a b c : Fe f) : (a + b) * (a - b) + c * 0 = a * a - b * b := by grind
end
end My
set_option linter.all false
set_option maxHeartbeats 1000000
namespace My
/-! polynomials by their coefficients -/
section
variable {R : Type} [Lean.Grind.CommRing R]
def cf (xs : List R) : Nat → R := fun i => xs.getD i 0
theorem cf_out {xs : List R} {i : Nat} (h : xs.length ≤ i) : cf xs i = 0 := by
  unfold cf
  rw [List.getD_eq_getElem?_getD, List.getElem?_eq_none h]
  rfl
theorem cf_ext {xs ys : List R} (hl : xs.length = ys.length) (h : ∀ i, i < xs.length → cf xs i = cf ys i) : xs = ys := by
  refine List.ext_getElem hl ?_
  intro i h1 h2
  have q := h i h1
  unfold cf at q
  rw [List.getD_eq_getElem?_getD, List.getD_eq_getElem?_getD, List.getElem?_eq_getElem h1, List.getElem?_eq_getElem h2] at q
  exact q
/-- no zero at the end -/
def Trimd (xs : List R) : Prop := ∀ n, xs.length = n + 1 → cf xs n ≠ 0
theorem Trimd.nil : Trimd ([] : List R) := fun n h => by cases h
theorem trimd_eq {xs ys : List R} (hx : Trimd xs) (hy : Trimd ys) (h : ∀ i, cf xs i = cf ys i) : xs = ys := by
  have hl : xs.length = ys.length := by
    rcases Nat.lt_trichotomy xs.length ys.length with z | z | z
    · exfalso
      refine hy (ys.length - 1) (by omega) ?_
      rw [← h, cf_out (by omega)]
    · exact z
    · exfalso
      refine hx (xs.length - 1) (by omega) ?_
      rw [h, cf_out (by omega)]
  exact cf_ext hl fun i _ => h i
variable [DecidableEq R]
def trimTo (xs : List R) : Nat → Nat
  | 0 => 0
  | n + 1 => if cf xs n = 0 then trimTo xs n else n + 1
def trimL (xs : List R) : List R := xs.take (trimTo xs xs.length)
theorem trimTo_le (xs : List R) : ∀ n, trimTo xs n ≤ n
  | 0 => Nat.le_refl 0
  | n + 1 => by
    unfold trimTo
    have := trimTo_le xs n
    split <;> omega
theorem trimTo_zero (xs : List R) : ∀ n i, trimTo xs n ≤ i → i < n → cf xs i = 0
  | 0, i, _, h => absurd h (Nat.not_lt_zero _)
  | n + 1, i, h1, h2 => by
    unfold trimTo at h1
    by_cases hz : cf xs n = 0
    · rw [if_pos hz] at h1
      by_cases hi : i = n
      · rw [hi]; exact hz
      · exact trimTo_zero xs n i h1 (by omega)
    · rw [if_neg hz] at h1
      omega
theorem trimTo_last (xs : List R) : ∀ n k, trimTo xs n = k + 1 → cf xs k ≠ 0
  | 0, k, h => by cases h
  | n + 1, k, h => by
    unfold trimTo at h
    by_cases hz : cf xs n = 0
    · rw [if_pos hz] at h
      exact trimTo_last xs n k h
    · rw [if_neg hz] at h
      have : k = n := by omega
      rw [this]
      exact hz
theorem cf_take {xs : List R} {n i : Nat} : cf (xs.take n) i = if i < n then cf xs i else 0 := by
  unfold cf
  by_cases h : i < n
  · rw [if_pos h, List.getD_eq_getElem?_getD, List.getElem?_take_of_lt h, ← List.getD_eq_getElem?_getD]
  · rw [if_neg h, List.getD_eq_getElem?_getD, List.getElem?_eq_none (by rw [List.length_take]; omega)]
    rfl
theorem cf_trimL (xs : List R) (i : Nat) : cf (trimL xs) i = cf xs i := by
  unfold trimL
  rw [cf_take]
  by_cases h : i < trimTo xs xs.length
  · rw [if_pos h]
  · rw [if_neg h]
    by_cases hi : i < xs.length
    · exact (trimTo_zero xs xs.length i (by omega) hi).symm
    · exact (cf_out (by omega)).symm
theorem trimL_trimd (xs : List R) : Trimd (trimL xs) := fun n h => by
  unfold trimL at h ⊢
  have hle := trimTo_le xs xs.length
  rw [List.length_take, Nat.min_eq_left hle] at h
  rw [cf_take, if_pos (by omega)]
  exact trimTo_last xs xs.length n h
theorem trimL_len (xs : List R) : (trimL xs).length ≤ xs.length := by
  unfold trimL
  rw [List.length_take]
  omega
theorem trimL_eq {xs ys : List R} (hx : Trimd xs) (h : ∀ i, cf xs i = cf ys i) : trimL ys = xs := trimd_eq (trimL_trimd ys) hx fun i => (cf_trimL ys i).trans (h i).symm
theorem trimL_self {xs : List R} (hx : Trimd xs) : trimL xs = xs := trimL_eq hx fun _ => rfl
theorem trimL_congr {xs ys : List R} (h : ∀ i, cf xs i = cf ys i) : trimL xs = trimL ys := trimd_eq (trimL_trimd xs) (trimL_trimd ys) fun i => by rw [cf_trimL, cf_trimL, h]
end
/-! products -/
section
variable {R : Type} [Lean.Grind.CommRing R]
/-- g moved up by i places -/
def sh (i : Nat) (g : Nat → R) : Nat → R := fun k => if k < i then 0 else g (k - i)
def conv (f g : Nat → R) : Nat → Nat → R
  | 0, _ => 0
  | n + 1, k => conv f g n k + f n * sh n g k
theorem conv_more (f g : Nat → R) {n : Nat} (h : ∀ i, n ≤ i → f i = 0) : ∀ d k, conv f g (n + d) k = conv f g n k
  | 0, k => rfl
  | d + 1, k => by
    show conv f g (n + d) k + f (n + d) * sh (n + d) g k = _
    rw [conv_more f g h d k, h (n + d) (by omega)]
    grind
theorem conv_len (f g : Nat → R) {n m : Nat} (h : ∀ i, n ≤ i → f i = 0) (hm : n ≤ m) (k : Nat) : conv f g m k = conv f g n k := by
  rw [show m = n + (m - n) by omega]
  exact conv_more f g h _ k
theorem conv_congr {f f' g g' : Nat → R} (hf : ∀ i, f i = f' i) (hg : ∀ i, g i = g' i) : ∀ n k, conv f g n k = conv f' g' n k
  | 0, k => rfl
  | n + 1, k => by
    have e : g = g' := funext hg
    have e2 : f = f' := funext hf
    rw [e, e2]
/-- the value -/
def sumE (g : Nat → R) (x : R) : Nat → R
  | 0 => 0
  | n + 1 => sumE g x n + g n * x ^ n
theorem sumE_more {g : Nat → R} {x : R} {n : Nat} (h : ∀ i, n ≤ i → g i = 0) : ∀ d, sumE g x (n + d) = sumE g x n
  | 0 => rfl
  | d + 1 => by
    show sumE g x (n + d) + g (n + d) * x ^ (n + d) = _
    rw [sumE_more h d, h (n + d) (by omega)]
    grind
theorem sumE_len {g : Nat → R} {x : R} {n m : Nat} (h : ∀ i, n ≤ i → g i = 0) (hm : n ≤ m) : sumE g x m = sumE g x n := by
  rw [show m = n + (m - n) by omega]
  exact sumE_more h _
theorem pow_addR (x : R) (i : Nat) : ∀ j, x ^ (i + j) = x ^ i * x ^ j
  | 0 => by rw [Nat.add_zero, Lean.Grind.Semiring.pow_zero]; grind
  | j + 1 => by
    rw [← Nat.add_assoc, Lean.Grind.Semiring.pow_succ, pow_addR x i j, Lean.Grind.Semiring.pow_succ]
    grind
theorem sumE_low {g : Nat → R} {x : R} : ∀ n i, (∀ k, k < n → i ≤ k → False) → sumE (sh i g) x n = 0
  | 0, i, _ => rfl
  | n + 1, i, h => by
    show sumE (sh i g) x n + sh i g n * x ^ n = 0
    rw [sumE_low n i (fun k h1 h2 => h k (by omega) h2)]
    have : sh i g n = 0 := by
      unfold sh
      exact if_pos (Decidable.byContradiction fun z => h n (by omega) (by omega))
    rw [this]
    grind
theorem sumE_sh {g : Nat → R} {x : R} (i : Nat) : ∀ n, sumE (sh i g) x (i + n) = x ^ i * sumE g x n
  | 0 => by
    rw [Nat.add_zero, sumE_low i i (fun k h1 h2 => by omega)]
    show (0 : R) = x ^ i * 0
    grind
  | n + 1 => by
    show sumE (sh i g) x (i + n) + sh i g (i + n) * x ^ (i + n) = x ^ i * (sumE g x n + g n * x ^ n)
    rw [sumE_sh i n]
    have : sh i g (i + n) = g n := by
      unfold sh
      rw [if_neg (by omega), show i + n - i = n by omega]
    rw [this, pow_addR]
    grind
theorem sumE_add {g h : Nat → R} {x : R} : ∀ n, sumE (fun k => g k + h k) x n = sumE g x n + sumE h x n
  | 0 => by show (0 : R) = 0 + 0; grind
  | n + 1 => by
    show sumE (fun k => g k + h k) x n + (g n + h n) * x ^ n = (sumE g x n + g n * x ^ n) + (sumE h x n + h n * x ^ n)
    rw [sumE_add n]
    grind
theorem sumE_sm {g : Nat → R} {c x : R} : ∀ n, sumE (fun k => c * g k) x n = c * sumE g x n
  | 0 => by show (0 : R) = c * 0; grind
  | n + 1 => by
    show sumE (fun k => c * g k) x n + c * g n * x ^ n = c * (sumE g x n + g n * x ^ n)
    rw [sumE_sm n]
    grind
/-- the value of a product -/
theorem sumE_conv {f g : Nat → R} {x : R} {lb : Nat} (hg : ∀ i, lb ≤ i → g i = 0) (N : Nat) : ∀ n, n + lb ≤ N → sumE (conv f g n) x N = sumE f x n * sumE g x lb
  | 0, _ => by
    have h : conv f g 0 = fun k => (0 : R) * g k := by
      funext k
      show (0 : R) = 0 * g k
      grind
    rw [h, sumE_sm]
    show (0 : R) * _ = 0 * _
    grind
  | n + 1, hN => by
    have h : conv f g (n + 1) = fun k => conv f g n k + f n * sh n g k := rfl
    rw [h, sumE_add, sumE_sm (g := sh n g), sumE_conv hg N n (by omega)]
    have h2 : sumE (sh n g) x N = x ^ n * sumE g x lb := by
      rw [show N = n + (N - n) by omega, sumE_sh, sumE_len hg (by omega)]
    rw [h2]
    show _ = (sumE f x n + f n * x ^ n) * _
    grind
/-- n as an element -/
def nc (n : Nat) : R := OfNat.ofNat (α := R) n
theorem nc_zero : (nc 0 : R) = 0 := rfl
theorem nc_succ (n : Nat) : (nc (n + 1) : R) = nc n + 1 := Lean.Grind.Semiring.ofNat_succ n
theorem nc_add (a : Nat) : ∀ b, (nc (a + b) : R) = nc a + nc b
  | 0 => by rw [nc_zero, Nat.add_zero]; grind
  | b + 1 => by rw [← Nat.add_assoc, nc_succ, nc_succ, nc_add a b]; grind
/-- the derivative -/
def der (g : Nat → R) : Nat → R := fun k => nc (k + 1) * g (k + 1)
theorem der_conv (f g : Nat → R) (k : Nat) : ∀ n, der (conv f g n) k = conv f (der g) n k + conv (der f) g (n - 1) k
  | 0 => by
    show nc (k + 1) * 0 = 0 + 0
    grind
  | n + 1 => by
    have ih := der_conv f g k n
    unfold der at ih ⊢
    show nc (k + 1) * (conv f g n (k + 1) + f n * sh n g (k + 1)) = (conv f _ n k + f n * sh n _ k) + conv _ g n k
    have key : nc (k + 1) * (f n * sh n g (k + 1)) = f n * sh n (fun k => nc (k + 1) * g (k + 1)) k + (conv (fun k => nc (k + 1) * f (k + 1)) g n k - conv (fun k => nc (k + 1) * f (k + 1)) g (n - 1) k) := by
      cases n with
      | zero =>
        have e1 : sh 0 g (k + 1) = g (k + 1) := rfl
        have e2 : sh 0 (fun k => nc (k + 1) * g (k + 1)) k = nc (k + 1) * g (k + 1) := rfl
        rw [e1, e2]
        show _ = _ + ((0 : R) - 0)
        grind
      | succ n =>
        show _ = _ + ((conv _ g n k + nc (n + 1) * f (n + 1) * sh n g k) - conv _ g n k)
        unfold sh
        by_cases h1 : k < n
        · rw [if_pos (by omega), if_pos (by omega), if_pos h1]
          grind
        · by_cases h2 : k = n
          · subst h2
            rw [if_neg (by omega), if_pos (by omega), if_neg (by omega), Nat.sub_self, Nat.sub_self]
            grind
          · rw [if_neg (by omega), if_neg (by omega), if_neg (by omega)]
            have e1 : k + 1 - (n + 1) = k - n := by omega
            have e2 : k - (n + 1) + 1 = k - n := by omega
            rw [e1]
            show _ = f (n + 1) * (nc (k - (n + 1) + 1) * g (k - (n + 1) + 1)) + _
            rw [e2]
            have e3 : (nc (k + 1) : R) = nc (k - n) + nc (n + 1) := by
              rw [← nc_add, show k - n + (n + 1) = k + 1 by omega]
            rw [e3]
            grind
    generalize conv (fun k => nc (k + 1) * f (k + 1)) g n k = A at *
    generalize conv (fun k => nc (k + 1) * f (k + 1)) g (n - 1) k = B at *
    grind
end
end My
set_option linter.all false
set_option maxRecDepth 100000
set_option maxHeartbeats 1000000
namespace My
/-! power series over a ring: the ring in which identities of polynomials are proved -/
structure PS (R : Type) where
  at' : Nat → R
section
variable {R : Type} [Lean.Grind.CommRing R]
def tl (f : Nat → R) : Nat → R := fun i => f (i + 1)
def cau (f g : Nat → R) : Nat → R
  | 0 => f 0 * g 0
  | k + 1 => f 0 * g (k + 1) + cau (tl f) g k
theorem cau_addl (g : Nat → R) : ∀ k (f f' : Nat → R), cau (fun i => f i + f' i) g k = cau f g k + cau f' g k
  | 0, f, f' => by show (f 0 + f' 0) * g 0 = f 0 * g 0 + f' 0 * g 0; grind
  | k + 1, f, f' => by
    show (f 0 + f' 0) * g (k + 1) + cau (fun i => tl f i + tl f' i) g k = _
    rw [cau_addl g k]
    show _ = f 0 * g (k + 1) + cau (tl f) g k + (f' 0 * g (k + 1) + cau (tl f') g k)
    grind
theorem cau_sml (g : Nat → R) (c : R) : ∀ k (f : Nat → R), cau (fun i => c * f i) g k = c * cau f g k
  | 0, f => by show c * f 0 * g 0 = c * (f 0 * g 0); grind
  | k + 1, f => by
    show c * f 0 * g (k + 1) + cau (fun i => c * tl f i) g k = c * (f 0 * g (k + 1) + cau (tl f) g k)
    rw [cau_sml g c k]
    grind
theorem cau_right (g : Nat → R) : ∀ k (f : Nat → R), cau f g (k + 1) = cau f (tl g) k + f (k + 1) * g 0
  | 0, f => rfl
  | k + 1, f => by
    show f 0 * g (k + 2) + cau (tl f) g (k + 1) = f 0 * tl g (k + 1) + cau (tl f) (tl g) k + f (k + 2) * g 0
    rw [cau_right g k]
    show f 0 * g (k + 2) + (_ + f (k + 2) * g 0) = f 0 * g (k + 2) + _ + _
    grind
theorem cau_comm : ∀ k (f g : Nat → R), cau f g k = cau g f k
  | 0, f, g => by show f 0 * g 0 = g 0 * f 0; grind
  | k + 1, f, g => by
    rw [cau_right f k g]
    show f 0 * g (k + 1) + cau (tl f) g k = _
    rw [cau_comm k (tl f) g]
    grind
theorem cau_assoc (g h : Nat → R) : ∀ k (f : Nat → R), cau (cau f g) h k = cau f (cau g h) k
  | 0, f => by show f 0 * g 0 * h 0 = f 0 * (g 0 * h 0); grind
  | k + 1, f => by
    show f 0 * g 0 * h (k + 1) + cau (tl (cau f g)) h k = f 0 * (g 0 * h (k + 1) + cau (tl g) h k) + cau (tl f) (cau g h) k
    have e : tl (cau f g) = fun i => (fun i => f 0 * tl g i) i + cau (tl f) g i := rfl
    rw [e, cau_addl, cau_sml, cau_assoc g h k (tl f)]
    grind
theorem cau_zero (g : Nat → R) : ∀ k, cau (fun _ => 0) g k = 0
  | 0 => by show (0 : R) * g 0 = 0; grind
  | k + 1 => by
    show (0 : R) * g (k + 1) + cau (fun _ => 0) g k = 0
    rw [cau_zero g k]
    grind
def dl (n : Nat) : Nat → R := fun i => if i = n then 1 else 0
theorem cau_dl (g : Nat → R) : ∀ n k, cau (dl n) g k = sh n g k
  | 0, 0 => by show (1 : R) * g 0 = _; unfold sh; rw [if_neg (by omega)]; show _ = g 0; grind
  | 0, k + 1 => by
    show (if (0 : Nat) = 0 then (1 : R) else 0) * g (k + 1) + cau (tl (dl 0)) g k = _
    have e : tl (dl 0 : Nat → R) = fun _ => 0 := by funext i; unfold tl dl; rw [if_neg (by omega)]
    rw [e, cau_zero, if_pos rfl]
    unfold sh
    rw [if_neg (by omega)]
    show _ = g (k + 1)
    grind
  | n + 1, 0 => by
    show (if (0 : Nat) = n + 1 then (1 : R) else 0) * g 0 = _
    rw [if_neg (by omega)]
    unfold sh
    rw [if_pos (by omega)]
    grind
  | n + 1, k + 1 => by
    show (if (0 : Nat) = n + 1 then (1 : R) else 0) * g (k + 1) + cau (tl (dl (n + 1))) g k = _
    have e : tl (dl (n + 1) : Nat → R) = dl n := by
      funext i
      unfold tl dl
      by_cases h : i = n
      · rw [if_pos h, if_pos (by omega)]
      · rw [if_neg h, if_neg (by omega)]
    rw [e, cau_dl g n k, if_neg (by omega)]
    unfold sh
    by_cases h : k < n
    · rw [if_pos h, if_pos (by omega)]
      grind
    · rw [if_neg h, if_neg (by omega), Nat.add_sub_add_right]
      grind
theorem conv_cut (f g : Nat → R) (k : Nat) : ∀ n, conv f g n k = cau (fun i => if i < n then f i else 0) g k
  | 0 => by
    have e : (fun i => if i < 0 then f i else (0 : R)) = fun _ => 0 := by funext i; rw [if_neg (by omega)]
    rw [e, cau_zero]
    rfl
  | n + 1 => by
    have e : (fun i => if i < n + 1 then f i else (0 : R)) = fun i => (fun i => if i < n then f i else 0) i + (fun i => f n * dl n i) i := by
      funext i
      show _ = (if i < n then f i else 0) + f n * (if i = n then 1 else 0)
      rcases Nat.lt_trichotomy i n with h | h | h
      · rw [if_pos (by omega), if_pos h, if_neg (by omega)]
        grind
      · subst h
        rw [if_pos (by omega), if_neg (by omega), if_pos rfl]
        grind
      · rw [if_neg (by omega), if_neg (by omega), if_neg (by omega)]
        grind
    rw [e, cau_addl, cau_sml, cau_dl, ← conv_cut f g k n]
    rfl
theorem conv_cau (f g : Nat → R) {n : Nat} (h : ∀ i, n ≤ i → f i = 0) (k : Nat) : conv f g n k = cau f g k := by
  rw [conv_cut]
  have e : (fun i => if i < n then f i else (0 : R)) = f := by
    funext i
    by_cases q : i < n
    · rw [if_pos q]
    · rw [if_neg q, h i (by omega)]
  rw [e]
theorem ps_ext {a b : PS R} (h : ∀ i, a.at' i = b.at' i) : a = b := by
  cases a
  cases b
  congr
  exact funext h
end
end My
set_option linter.all false
set_option maxRecDepth 100000
set_option maxHeartbeats 1000000
namespace My
/-! the power series over a field's numbers are a ring -/
section
variable {f : FPar}
abbrev Ps (f : FPar) : Type := PS (Fe f)
def psInt (z : Int) : Ps f := ⟨fun i => if i = 0 then feInt z else 0⟩
def psAdd (a b : Ps f) : Ps f := ⟨fun i => a.at' i + b.at' i⟩
def psMul (a b : Ps f) : Ps f := ⟨cau a.at' b.at'⟩
def psNeg (a : Ps f) : Ps f := ⟨fun i => -a.at' i⟩
def psPow (a : Ps f) : Nat → Ps f
  | 0 => psInt 1
  | n + 1 => psMul (psPow a n) a
instance (f : FPar) : Add (Ps f) := ⟨psAdd⟩
instance (f : FPar) : Mul (Ps f) := ⟨psMul⟩
instance (f : FPar) : Neg (Ps f) := ⟨psNeg⟩
instance (f : FPar) : Sub (Ps f) := ⟨fun a b => psAdd a (psNeg b)⟩
instance (f : FPar) : NatCast (Ps f) := ⟨fun n => psInt (n : Int)⟩
instance (f : FPar) : IntCast (Ps f) := ⟨psInt⟩
instance (f : FPar) (n : Nat) : OfNat (Ps f) n := ⟨psInt (n : Int)⟩
instance (f : FPar) : SMul Nat (Ps f) := ⟨fun n a => psMul (psInt (n : Int)) a⟩
instance (f : FPar) : SMul Int (Ps f) := ⟨fun n a => psMul (psInt n) a⟩
instance (f : FPar) : HPow (Ps f) Nat (Ps f) := ⟨psPow⟩
theorem psInt_zero (i : Nat) : (psInt 0 : Ps f).at' i = 0 := by
  show (if i = 0 then (feInt 0 : Fe f) else 0) = 0
  split <;> rfl
theorem psInt_one (i : Nat) : (psInt 1 : Ps f).at' i = dl 0 i := by
  show (if i = 0 then (feInt 1 : Fe f) else 0) = (if i = 0 then 1 else 0)
  rfl
theorem ps_mul_comm (a b : Ps f) : psMul a b = psMul b a := ps_ext fun i => cau_comm i _ _
theorem ps_mul_one (a : Ps f) : psMul a (psInt 1) = a := ps_ext fun i => by
  show cau a.at' (psInt 1 : Ps f).at' i = _
  rw [cau_comm, show (psInt 1 : Ps f).at' = dl 0 from funext psInt_one, cau_dl]
  unfold sh
  rw [if_neg (by omega)]
  rfl
theorem ps_mul_zero (a : Ps f) : psMul a (psInt 0) = psInt 0 := ps_ext fun i => by
  show cau a.at' (psInt 0 : Ps f).at' i = _
  rw [cau_comm, show (psInt 0 : Ps f).at' = fun _ => 0 from funext psInt_zero, cau_zero]
theorem ps_dist (a b c : Ps f) : psMul a (psAdd b c) = psAdd (psMul a b) (psMul a c) := ps_ext fun i => by
  show cau a.at' (fun i => b.at' i + c.at' i) i = cau a.at' b.at' i + cau a.at' c.at' i
  rw [cau_comm i a.at', cau_addl, cau_comm i a.at', cau_comm i a.at']
theorem psInt_add (x y : Int) : (psInt (x + y) : Ps f) = psAdd (psInt x) (psInt y) := ps_ext fun i => by
  show (if i = 0 then (feInt (x + y) : Fe f) else 0) = (if i = 0 then feInt x else 0) + (if i = 0 then feInt y else 0)
  by_cases h : i = 0
  · rw [if_pos h, if_pos h, if_pos h]
    exact feInt_add x y
  · rw [if_neg h, if_neg h, if_neg h]
    grind
theorem ps_neg_add (a : Ps f) : psAdd (psNeg a) a = psInt 0 := ps_ext fun i => by
  rw [psInt_zero]
  show -a.at' i + a.at' i = 0
  grind
theorem ps_neg_uniq {a b : Ps f} (h : psAdd a b = psInt 0) : a = psNeg b := ps_ext fun i => by
  have h1 : a.at' i + b.at' i = 0 := by
    have := congrArg (fun s : Ps f => s.at' i) h
    exact this.trans (psInt_zero i)
  show a.at' i = -b.at' i
  grind
instance (f : FPar) : Lean.Grind.CommRing (Ps f) where
  add_zero := fun a => ps_ext fun i => by
    show a.at' i + (psInt 0 : Ps f).at' i = a.at' i
    rw [psInt_zero]
    grind
  add_comm := fun a b => ps_ext fun i => by
    show a.at' i + b.at' i = b.at' i + a.at' i
    grind
  add_assoc := fun a b c => ps_ext fun i => by
    show a.at' i + b.at' i + c.at' i = a.at' i + (b.at' i + c.at' i)
    grind
  mul_assoc := fun a b c => ps_ext fun i => cau_assoc _ _ i _
  mul_one := ps_mul_one
  one_mul := fun a => (ps_mul_comm _ _).trans (ps_mul_one a)
  left_distrib := ps_dist
  right_distrib := fun a b c => by
    show psMul (psAdd a b) c = psAdd (psMul a c) (psMul b c)
    rw [ps_mul_comm, ps_dist, ps_mul_comm c a, ps_mul_comm c b]
  zero_mul := fun a => (ps_mul_comm _ _).trans (ps_mul_zero a)
  mul_zero := ps_mul_zero
  pow_zero := fun _ => rfl
  pow_succ := fun _ _ => rfl
  ofNat_succ := fun n => by
    show psInt ((n + 1 : Nat) : Int) = psAdd (psInt (n : Int)) (psInt ((1 : Nat) : Int))
    rw [← psInt_add]
    rfl
  neg_add_cancel := ps_neg_add
  sub_eq_add_neg := fun _ _ => rfl
  neg_zsmul := fun i a => ps_neg_uniq (by
    show psAdd (psMul (psInt (-i)) a) (psMul (psInt i) a) = psInt 0
    rw [ps_mul_comm (psInt (-i)), ps_mul_comm (psInt i), ← ps_dist, ← psInt_add, Int.add_left_neg, ps_mul_zero])
  intCast_neg := fun i => ps_neg_uniq (by
    show psAdd (psInt (-i)) (psInt i) = psInt 0
    rw [← psInt_add, Int.add_left_neg])
  mul_comm := ps_mul_comm
theorem psz_at (i : Nat) : (0 : Ps f).at' i = 0 := psInt_zero i
theorem ps1_at (i : Nat) : (1 : Ps f).at' i = dl 0 i := psInt_one i
theorem psa_at (a b : Ps f) (i : Nat) : (a + b).at' i = a.at' i + b.at' i := rfl
theorem psm_at (a b : Ps f) (i : Nat) : (a * b).at' i = cau a.at' b.at' i := rfl
theorem psn_at (a : Ps f) (i : Nat) : (-a).at' i = -a.at' i := rfl
theorem pss_at (a b : Ps f) (i : Nat) : (a - b).at' i = a.at' i - b.at' i := by
  show a.at' i + -b.at' i = _
  grind
/-- the series of a polynomial -/
def po (xs : List (Fe f)) : Ps f := ⟨cf xs⟩
theorem po_trim (xs : List (Fe f)) : po (trimL xs) = po xs := ps_ext fun i => cf_trimL xs i
theorem po_inj {xs ys : List (Fe f)} (hx : Trimd xs) (hy : Trimd ys) (h : po xs = po ys) : xs = ys := trimd_eq hx hy fun i => congrArg (fun s : Ps f => s.at' i) h
theorem po_nil : po ([] : List (Fe f)) = 0 := ps_ext fun i => by
  rw [psz_at]
  exact cf_out (xs := ([] : List (Fe f))) (by show 0 ≤ i; omega)
theorem po_one : po ([1] : List (Fe f)) = 1 := ps_ext fun i => by
  rw [ps1_at]
  show cf ([1] : List (Fe f)) i = dl 0 i
  cases i with
  | zero => rfl
  | succ i => exact (cf_out (xs := ([1] : List (Fe f))) (by show 1 ≤ i + 1; omega)).trans (by unfold dl; rw [if_neg (by omega)])
end
end My
set_option Elab.async false
set_option linter.all false
set_option maxRecDepth 100000
set_option maxHeartbeats 1000000
namespace My
open PySem L2 Evl GxR MyG
local macro_rules | `(tactic| walk_at "ev") => `(tactic| repeat' (first
  | exact ev_c
  | exact ev_var rfl
  | exact ea_nil
  | exact eo_none
  | (refine' ev_cb ?ea (rc_len ?sq); (case ea => walk_at "evs"); (case sq => walk_at "sq"))
  | (refine' ev_op ?a ?b (rv_ixL ?sq ?ix); (case a => walk_at "evs"); (case b => walk_at "evs"); (case sq => walk_at "sq"); (case ix => walk_at "at"))
  | refine' ea_cons ?_ ?_
  | refine' eo_some ?_
  | refine' ev_op ?_ ?_ rv_I0
  | refine' ev_op ?_ ?_ (rv_eq ?_)
  | refine' ev_op ?_ ?_ (rv_ne ?_)
  | refine' ev_op ?_ ?_ (rv_I ?_)
  | refine' ev_un ?_ ru_neg
  | refine' ev_cb ?_ rc_int
  | refine' ev_cb ?_ rc_abs
  | refine' ev_cb ?_ rc_max2
  | refine' ev_andV ?_ ?_
  | refine' ev_notV ?_
  | refine' et_test ?_
  | refine' et_B ?_
  | refine' et_not ?_))
local macro_rules | `(tactic| walk_at "side") => `(tactic| first
  | rfl
  | decide
  | exact ⟨by decide, by decide⟩
  | exact .inr ⟨by decide, by decide⟩
  | exact .inl ⟨by decide, by decide⟩
  | omega
  | exact .inl ⟨by omega, by omega⟩
  | exact ⟨by omega, by omega⟩
  | exact .inr ⟨by omega, by omega⟩)
local macro_rules | `(tactic| walk_at "evs") => `(tactic| (walk_at "ev"; all_goals (walk_at "side")))
local macro_rules | `(tactic| walk_at "ex") => `(tactic| first
  | with_reducible exact Ex.refl _
  | with_reducible assumption
  | (refine' Ex.trans ?_ ?b; (case b => with_reducible assumption); walk_at "ex"))
local macro_rules | `(tactic| walk_at "sq") => `(tactic| first
  | (refine' sq_ex ?h ?e; (case h => with_reducible assumption); (case e => walk_at "ex"))
  | (refine' ex_l ?e ?h; (case h => with_reducible assumption); (case e => walk_at "ex"))
  | (refine' ex_l ?e ?h; (case h => assumption); (case e => walk_at "ex"))
  | assumption
  | exact sq_of (by assumption))
local macro_rules | `(tactic| walk_at "at") => `(tactic| first
  | exact at_int (by omega) (by omega)
  | exact atI_nat (j := 0) rfl
  | exact atI_nat (j := 1) rfl
  | exact atI_nat (j := 2) rfl)
local macro_rules | `(tactic| walk_at "side2") => `(tactic| first | exact CMul_bdl (by assumption) | exact CMul_bdr (by assumption) | walk_at "side")
local macro_rules | `(tactic| walk_at "evb") => `(tactic| (walk_at "ev"; all_goals (walk_at "side2")))

local macro_rules | `(tactic| walk_at "fl") => `(tactic| (repeat (first | rw [lookup_putF, if_pos rfl] | rw [lookup_putF, if_neg (by decide +kernel)])))
theorem putF_len (f : Str) (v : V) (fs : List (Str × V)) (n : Nat) (h : fs.length ≤ n) : (putF f v fs).length ≤ n + 1 := by
  have := length_putF f v fs
  omega
section
variable {K : PySem.W.Frag} {σ : L2.St} {H : Hp} {D : Ends} {tz tu : TS} {tv : TE} {tr : TA} {vs : List V} {f : Str} {i : Nat} {sp : Sp} {E : XK}
theorem q_unlessC (h : EvA tr σ H vs) (k : ∀ H1, Ex H H1 → sp vs H1 (fun v H2 => ∃ c, v = .bl c ∧ (if (!c) = true then tu { D with nx := tz D } σ H2 else tz D σ H2)) E) : tSeq (tIfS (tNot (tB (tCall sp [] E tr))) tu tNext) tz D σ H := by
  refine h H (Ex.refl H) _ fun H1 e1 => ?_
  rw [List.append_nil]
  exact k H1 e1
theorem q_fldC (h : EvA tr σ H vs) (k : ∀ H1, Ex H H1 → sp vs H1 (fun y H2 => ∃ v, σ[i]? = some (some v) ∧ ∃ a C dx fs, v = .ref a ∧ H2 a = some (.ins C dx fs) ∧ Cls K C ∧ NoAttr K C f ∧ fs.length < 1000 ∧ tz D σ (upd H2 a (.ins C dx (putF f y fs)))) E) : tSeq (sFld K (tVar i) (tCall sp [] E tr) f) tz D σ H := by
  refine h H (Ex.refl H) _ fun H1 e1 => ?_
  rw [List.append_nil]
  exact k H1 e1
theorem s_fldX (h : tv σ H (fun y H2 => ∃ v, σ[i]? = some (some v) ∧ ∃ a C dx fs, v = .ref a ∧ H2 a = some (.ins C dx fs) ∧ Cls K C ∧ NoAttr K C f ∧ fs.length < 1000 ∧ D.nx σ (upd H2 a (.ins C dx (putF f y fs))))) : sFld K (tVar i) tv f D σ H := h
end
section
variable {P : Program} {w : World} {K : PySem.W.Frag} {mg : Str → Option Value} {base : Heap}
/-! Field_init: 0 self, 1 prime, 2 modulus, 3 exponent, 4 a -/
abbrev s_Field_init : Stmt := inClass (topS 23) 0
theorem sc_Field_init : FnScope ["self", "prime", "modulus", "exponent", "a"] ["self", "prime", "modulus"] (defScope s_Field_init) := ⟨rfl, rfl, rfl, by decide +kernel, rfl, by decide +kernel, by decide +kernel⟩
def spInit (K : PySem.W.Frag) (C Pt : Addr) : Sp := fun vs H Q _ => ∃ (Hb : Hp) (x dx c : Addr) (p e g : Nat) (m : List Int), vs = [.ref x, .int (p : Int), .ref c] ∧ FOK p m e g ∧ Hb x = none ∧ H x = some (.ins C dx []) ∧ Run Pt x Hb H ∧ SqT K H c (m.map V.int) ∧
  ∀ H2, ExP Pt Hb H2 → Fld K C H2 x p m (e + 1) g → Q .non H2
theorem ok_init {f c0 Pt C : Addr} {fd : FuncData} {dvs : List V} (F : FunD K "__init__" "Field.__init__" (defArgs s_Field_init) (defBody s_Field_init) (defScope s_Field_init) dvs [] f fd) (T : FTxt mg) (TC : CTxt K mg C)
    (D_is_field : Dk P w K mg base CX0 3 "_is_field" ["prime", "modulus"] (spIsF K Pt)) (D_int_power : Dk P w K mg base CX0 3 "int_power" ["base", "exponent"] spPow) (D_sum_table : Dk P w K mg base CX0 3 "_sum_table" ["prime", "degree"] spSums)
    (D_product_table : Dk P w K mg base CX0 3 "_product_table" ["prime", "modulus", "sums"] (spProd K)) (D_primitive_powers : Dk P w K mg base CX0 3 "_primitive_powers" ["products"] (spPrims K)) : FnOk P w K mg base CX0 4 f fd ["self", "prime", "modulus"] (spInit K C Pt) := by
  refine F.ok sc_Field_init (fun vs H Q E h => ?_) (fun cdv A outer s H vs Q E hr h => ?_)
  · obtain ⟨_, _, _, _, _, _, _, _, rfl, _⟩ := h
    rfl
  obtain ⟨Hb, x, dx, c, p, e, g, m, rfl, ok, nx, hx, run, hC, k⟩ := h
  obtain ⟨hv, p2, hm, hq, n, pr⟩ := id ok
  obtain ⟨hpr, p31', m2, m9, hq', _, hbd, hirr⟩ := id hv
  have p31 : p ≤ 31 := by omega
  have hSl := sumTab_len p (e + 1)
  have hSb := sumTab_bd p (by omega) (e + 1)
  have q2 : 2 ≤ p ^ (e + 1) := by
    have : 1 ≤ p ^ e := Nat.pow_pos (by omega)
    rw [Nat.pow_succ]
    exact Nat.le_trans (by omega : 2 ≤ 1 * p) (Nat.mul_le_mul_right p this)
  have hxP : x ≠ Pt := tab_ne run.g hx fun q z => by cases z
  have hPl : (prodTab p m (sumTab p (e + 1))).length = p ^ (e + 1) := by
    unfold prodTab
    rw [prodUp_len, hSl]
    omega
  have hPb : Bds (prodTab p m (sumTab p (e + 1))) (p ^ (e + 1)) := by
    have h1 := prodUp_bd p2 (S := sumTab p (e + 1)) (sh := shiftTab p m (sumTab p (e + 1))) (by rw [hSl]; exact hSb) (shiftTab_bd p2 hm hSl hSb) (by rw [hSl]; omega) ((sumTab p (e + 1)).length - 1)
    rw [hSl] at h1
    unfold prodTab
    rw [hSl]
    exact h1
  refine ⟨_, (pss_cons (ps_if (pt_not (pt_val (pe_cd D_is_field hr (by rfl) (pa_cons (pv 1) (pa_cons (pv 2) pa_nil)))))
      (pss_one (ps_never))
      pss_nil)
    (pss_cons (ps_fld (pv 0) (pv 1) rfl)
    (pss_cons (ps_fld (pv 0) (pe_callTy call_tuple_of (by rfl) T.z_tuple (by decide +kernel) (pa_cons (pv 2) pa_nil)) rfl)
    (pss_cons (ps_fld (pv 0) (pe_op op_sub (pe_callB call_len_seq (by rfl) T.z_len PySem.boot_len (pa_cons (pv 2) pa_nil)) pe_int) rfl)
    (pss_cons (ps_fld (pv 0) (pe_cd D_int_power hr (by rfl) (pa_cons (pv 1) (pa_cons (pe_fld (pv 0) rfl) pa_nil))) rfl)
    (pss_cons (ps_fld (pv 0) (pe_cd D_sum_table hr (by rfl) (pa_cons (pv 1) (pa_cons (pe_fld (pv 0) rfl) pa_nil))) rfl)
    (pss_cons (ps_fld (pv 0) (pe_cd D_product_table hr (by rfl) (pa_cons (pv 1) (pa_cons (pe_fld (pv 0) rfl) (pa_cons (pe_fld (pv 0) rfl) pa_nil)))) rfl)
    (pss_cons (ps_fld (pv 0) (pe_ix ix_list (pe_fld (pv 0) rfl) (pe_op op_sub (pv 1) pe_int) (fun _ _ => rfl)) rfl)
    (pss_cons (ps_fld (pv 0) (pe_cd D_primitive_powers hr (by rfl) (pa_cons (pe_fld (pv 0) rfl) pa_nil)) rfl)
    (pss_one (ps_fld (pv 0) (pe_dc (own := [("exponent", 3), ("a", 4)]) (tt := tYes) rfl sc_Field_init.nd (pi_enum (by rfl) T.z_enumerate (pa_cons (pe_fld (pv 0) rfl) pa_nil)) (blkOk_by (own := [("exponent", 3), ("a", 4)]) (N := ["self", "prime", "modulus", "exponent", "a"]) (sc := defScope s_Field_init) (by decide +kernel)) (fun _ _ _ _ _ => (pg_tupK (K := K) (n := 2) rfl rfl (pgs_cons (pg_name (i := 3) sc_Field_init.nd rfl (Or.inl rfl)) (pgs_cons (pg_name (i := 4) sc_Field_init.nd rfl (Or.inl rfl)) pgs_nil)))) (fun _ _ _ _ _ => pts_nil) (fun _ _ _ _ _ => pv 4) (fun _ _ _ _ _ => pv 3)) rfl))))))))))), ?_⟩
  -- the test
  refine q_unlessC (vs := [.int (p : Int), .ref c]) (ea_cons (ev_var rfl) (ea_cons (ev_var rfl) ea_nil)) fun H0 e0 => ?_
  refine ⟨(p : Int), c, m, rfl, hv, ex_t e0 hC, TabG.ex run.g e0, fun H1 x1 => ⟨true, rfl, ?_⟩⟩
  rw [if_neg (by decide)]
  have g0 : TabG H0 Pt := TabG.ex run.g e0
  have hx1 : H1 x = some (.ins C dx []) := x1.2 _ _ hxP (e0 _ _ hx)
  have run1 : Run Pt x Hb H1 := (run.ex e0).exP x1
  have hC1 : SqT K H1 c (m.map V.int) := sqT_exP g0 x1 (ex_t e0 hC)
  clear hx run hC g0
  -- prime
  refine q_fld (ev_var rfl) rfl hx1 TC.cl TC.n_prime (by decide) fun H2 e2 => ?_
  generalize hH2 : upd H2 x (.ins C dx (putF "prime" (.int (p : Int)) [])) = G2
  have hx2 : G2 x = some (.ins C dx (putF "prime" (.int (p : Int)) [])) := by rw [← hH2, upd_same]
  have w2 : Own x H1 G2 := by rw [← hH2]; exact Own.put hx1 e2
  have run2 : Run Pt x Hb G2 := by rw [← hH2]; exact (run1.ex e2).put hxP
  have hC2 := w2.sqt hC1
  clear hH2 w2 run1 hx1 hC1 e2 H2
  -- modulus
  refine q_fld (ev_cb (ea_cons (ev_var (i := 2) rfl) ea_nil) (rc_tupT hC2)) rfl hx2 TC.cl TC.n_modulus (Nat.lt_of_le_of_lt (putF_len _ _ _ 0 (Nat.le_refl _)) (by decide)) fun H3 e3 => ?_
  generalize hH3 : upd H3 x _ = G3
  have hx3 : G3 x = some (.ins C dx (putF "modulus" (.ref c) (putF "prime" (.int (p : Int)) []))) := by rw [← hH3, upd_same]
  have w3 : Own x G2 G3 := by rw [← hH3]; exact Own.put hx2 e3
  have run3 : Run Pt x Hb G3 := by rw [← hH3]; exact (run2.ex e3).put hxP
  have hC3 := w3.sqt hC2
  clear hH3 w3 run2 hx2 hC2 e3 H3
  -- degree
  refine q_fld (y := .int ((e + 1 : Nat) : Int)) (ev_is (ev_op (ev_cb (ea_cons (ev_var rfl) ea_nil) (rc_lenT hC3)) ev_c rv_I0) (congrArg V.int (by rw [List.length_map, hm]; omega))) rfl hx3 TC.cl TC.n_degree (Nat.lt_of_le_of_lt (putF_len _ _ _ 1 (putF_len _ _ _ 0 (Nat.le_refl _))) (by decide)) fun H4 e4 => ?_
  generalize hH4 : upd H4 x _ = G4
  have hx4 : G4 x = some (.ins C dx (putF "degree" (.int ((e + 1 : Nat) : Int)) (putF "modulus" (.ref c) (putF "prime" (.int (p : Int)) [])))) := by rw [← hH4, upd_same]
  have w4 : Own x G3 G4 := by rw [← hH4]; exact Own.put hx3 e4
  have run4 : Run Pt x Hb G4 := by rw [← hH4]; exact (run3.ex e4).put hxP
  have hC4 := w4.sqt hC3
  clear hH4 w4 run3 hx3 hC3 e4 H4
  -- order
  refine q_fld (y := .int ((p ^ (e + 1) : Nat) : Int)) (ev_is (ev_call (z := .int ((p : Int) ^ (e + 1))) (ea_cons (ev_var rfl) (ea_cons (ev_fld rfl hx4 TC.cl TC.n_degree (by walk_at "fl")) ea_nil)) (fun H3 e3 Q3 q3 E3 => ⟨(p : Int), e + 1, rfl, by omega, by omega, q3⟩)) (congrArg V.int (by push_cast; rfl))) rfl hx4 TC.cl TC.n_order (Nat.lt_of_le_of_lt (putF_len _ _ _ 2 (putF_len _ _ _ 1 (putF_len _ _ _ 0 (Nat.le_refl _)))) (by decide)) fun H5 e5 => ?_
  generalize hH5 : upd H5 x _ = G5
  have hx5 : G5 x = some (.ins C dx (putF "order" (.int ((p ^ (e + 1) : Nat) : Int)) (putF "degree" (.int ((e + 1 : Nat) : Int)) (putF "modulus" (.ref c) (putF "prime" (.int (p : Int)) []))))) := by rw [← hH5, upd_same]
  have w5 : Own x G4 G5 := by rw [← hH5]; exact Own.put hx4 e5
  have run5 : Run Pt x Hb G5 := by rw [← hH5]; exact (run4.ex e5).put hxP
  have hC5 := w5.sqt hC4
  clear hH5 w5 run4 hx4 hC4 e5 H5
  -- sums
  refine q_fldC (vs := [.int (p : Int), .int ((e + 1 : Nat) : Int)]) (ea_cons (ev_var rfl) (ea_cons (ev_fld rfl hx5 TC.cl TC.n_degree (by walk_at "fl")) ea_nil)) fun H6 e6 => ?_
  refine ⟨p, e + 1, rfl, p2, p31, by omega, hq, fun as H7 nas e7 hS => ⟨_, rfl, x, C, dx, _, rfl, (e6.trans e7) _ _ hx5, TC.cl, TC.n_sums, (Nat.lt_of_le_of_lt (putF_len _ _ _ 3 (putF_len _ _ _ 2 (putF_len _ _ _ 1 (putF_len _ _ _ 0 (Nat.le_refl _))))) (by decide)), ?_⟩⟩
  generalize hH7 : upd H7 x _ = G7
  have hx7 : G7 x = some (.ins C dx (putF "_sums" (.ref as) (putF "order" (.int ((p ^ (e + 1) : Nat) : Int)) (putF "degree" (.int ((e + 1 : Nat) : Int)) (putF "modulus" (.ref c) (putF "prime" (.int (p : Int)) [])))))) := by rw [← hH7, upd_same]
  have w7 : Own x G5 G7 := by rw [← hH7]; exact Own.put hx5 (e6.trans e7)
  have w7' : Own x H7 G7 := by rw [← hH7]; exact Own.put ((e6.trans e7) _ _ hx5) (Ex.refl _)
  have run7 : Run Pt x Hb G7 := by rw [← hH7]; exact (run5.ex (e6.trans e7)).put hxP
  have hC7 := w7.sqt hC5
  have hS7 := w7'.tab hS
  clear hH7 w7 w7' run5 hx5 hC5 hS nas e6 e7 H6 H7
  -- products
  refine q_fldC (vs := [.int (p : Int), .ref c, .ref as]) (ea_cons (ev_var rfl) (ea_cons (ev_fld rfl hx7 TC.cl TC.n_modulus (by walk_at "fl")) (ea_cons (ev_fld rfl hx7 TC.cl TC.n_sums (by walk_at "fl")) ea_nil))) fun H8 e8 => ?_
  refine ⟨p, c, as, m, sumTab p (e + 1), e, rfl, p2, p31, hq, by omega, ex_t e8 hC7, hm, hbd, hS7.ex e8, hSl, hSb, fun ap H9 nap e9 hP => ⟨_, rfl, x, C, dx, _, rfl, (e8.trans e9) _ _ hx7, TC.cl, TC.n_products, (Nat.lt_of_le_of_lt (putF_len _ _ _ 4 (putF_len _ _ _ 3 (putF_len _ _ _ 2 (putF_len _ _ _ 1 (putF_len _ _ _ 0 (Nat.le_refl _)))))) (by decide)), ?_⟩⟩
  generalize hH9 : upd H9 x _ = G9
  have hx9 : G9 x = some (.ins C dx (putF "_products" (.ref ap) (putF "_sums" (.ref as) (putF "order" (.int ((p ^ (e + 1) : Nat) : Int)) (putF "degree" (.int ((e + 1 : Nat) : Int)) (putF "modulus" (.ref c) (putF "prime" (.int (p : Int)) []))))))) := by rw [← hH9, upd_same]
  have w9 : Own x G7 G9 := by rw [← hH9]; exact Own.put hx7 (e8.trans e9)
  have w9' : Own x H9 G9 := by rw [← hH9]; exact Own.put ((e8.trans e9) _ _ hx7) (Ex.refl _)
  have run9 : Run Pt x Hb G9 := by rw [← hH9]; exact (run7.ex (e8.trans e9)).put hxP
  have hC9 := w9.sqt hC7
  have hS9 := w9.tab hS7
  have hP9 := w9'.tab hP
  clear hH9 w9 w9' run7 hx7 hC7 hS7 hP nap e8 e9 H8 H9
  -- negatives
  obtain ⟨an, hn9, evn⟩ := ev_row (K := K) (ta := tFld K (tVar 0) "_products") (ti := tOp (rI0 fun i j => V.int (i - j)) (tVar 1) (tC (.int 1))) (σ := [some (.ref x), some (.int (p : Int)), some (.ref c), none, none]) (i := ((p - 1 : Nat) : Int)) (ev_fld (i := 0) rfl hx9 TC.cl TC.n_products (by walk_at "fl")) (ev_is (ev_op (ev_var (i := 1) rfl) ev_c rv_I0) (congrArg V.int (show (p : Int) - 1 = ((p - 1 : Nat) : Int) by omega))) hP9 (by omega) (by
    rw [hPl]
    have : p ^ 1 ≤ p ^ (e + 1) := Nat.pow_le_pow_right (by omega) (by omega)
    rw [Nat.pow_one] at this
    omega)
  rw [show (((p - 1 : Nat) : Int)).toNat = p - 1 by omega] at hn9
  refine q_fld evn rfl hx9 TC.cl TC.n_negatives (Nat.lt_of_le_of_lt (putF_len _ _ _ 5 (putF_len _ _ _ 4 (putF_len _ _ _ 3 (putF_len _ _ _ 2 (putF_len _ _ _ 1 (putF_len _ _ _ 0 (Nat.le_refl _))))))) (by decide)) fun H10 e10 => ?_
  generalize hH10 : upd H10 x _ = G10
  have hx10 : G10 x = some (.ins C dx (putF "_negatives" (.ref an) (putF "_products" (.ref ap) (putF "_sums" (.ref as) (putF "order" (.int ((p ^ (e + 1) : Nat) : Int)) (putF "degree" (.int ((e + 1 : Nat) : Int)) (putF "modulus" (.ref c) (putF "prime" (.int (p : Int)) [])))))))) := by rw [← hH10, upd_same]
  have w10 : Own x G9 G10 := by rw [← hH10]; exact Own.put hx9 e10
  have run10 : Run Pt x Hb G10 := by rw [← hH10]; exact (run9.ex e10).put hxP
  have hC10 := w10.sqt hC9
  have hS10 := w10.tab hS9
  have hP10 := w10.tab hP9
  have hn10 := w10.lst hn9
  clear hH10 w10 run9 hx9 hC9 hS9 hP9 hn9 evn e10 H10
  -- powers
  refine q_fldC (vs := [.ref ap]) (ea_cons (ev_fld rfl hx10 TC.cl TC.n_products (by walk_at "fl")) ea_nil) fun H11 e11 => ?_
  refine ⟨ap, prodTab p m (sumTab p (e + 1)), p ^ (e + 1), g, n, rfl, hP10.ex e11, hPb, hPl, q2, hq, pr, fun aw H12 naw e12 hw => ⟨_, rfl, x, C, dx, _, rfl, (e11.trans e12) _ _ hx10, TC.cl, TC.n_powers, (Nat.lt_of_le_of_lt (putF_len _ _ _ 6 (putF_len _ _ _ 5 (putF_len _ _ _ 4 (putF_len _ _ _ 3 (putF_len _ _ _ 2 (putF_len _ _ _ 1 (putF_len _ _ _ 0 (Nat.le_refl _)))))))) (by decide)), ?_⟩⟩
  generalize hH12 : upd H12 x _ = G12
  have hx12 : G12 x = some (.ins C dx (putF "_powers" (.ref aw) (putF "_negatives" (.ref an) (putF "_products" (.ref ap) (putF "_sums" (.ref as) (putF "order" (.int ((p ^ (e + 1) : Nat) : Int)) (putF "degree" (.int ((e + 1 : Nat) : Int)) (putF "modulus" (.ref c) (putF "prime" (.int (p : Int)) []))))))))) := by rw [← hH12, upd_same]
  have w12 : Own x G10 G12 := by rw [← hH12]; exact Own.put hx10 (e11.trans e12)
  have w12' : Own x H12 G12 := by rw [← hH12]; exact Own.put ((e11.trans e12) _ _ hx10) (Ex.refl _)
  have run12 : Run Pt x Hb G12 := by rw [← hH12]; exact (run10.ex (e11.trans e12)).put hxP
  have hC12 := w12.sqt hC10
  have hS12 := w12.tab hS10
  have hP12 := w12.tab hP10
  have hn12 := w12.lst hn10
  have hw12 := w12'.lst hw
  clear hH12 w12 w12' run10 hx10 hC10 hS10 hP10 hn10 hw naw e11 e12 H11 H12
  -- logs
  have hpl : (pwL p m (e + 1) g).length ≤ 256 := by
    unfold pwL
    rw [List.length_map, List.length_range]
    omega
  refine s_fldX ?_
  refine dc_enum (K := K) (ns := pwL p m (e + 1) g) (ea_cons (ev_fld rfl hx12 TC.cl TC.n_powers (by walk_at "fl")) ea_nil) hw12 (by omega) (fun a b => [some (.ref x), some (.int (p : Int)), some (.ref c), some a, some b])
    (fun T x y H' Q' hT q => ⟨T, [x, y], rfl, st_of hT, rfl, x, [y], rfl, y, [], rfl, rfl, q⟩) (fun _ _ => rfl) (fun _ _ => rfl) (fun _ _ => rfl) fun al H13 nal e13 hal => ?_
  refine ⟨_, rfl, x, C, dx, _, rfl, e13 _ _ hx12, TC.cl, TC.n_logs, (Nat.lt_of_le_of_lt (putF_len _ _ _ 7 (putF_len _ _ _ 6 (putF_len _ _ _ 5 (putF_len _ _ _ 4 (putF_len _ _ _ 3 (putF_len _ _ _ 2 (putF_len _ _ _ 1 (putF_len _ _ _ 0 (Nat.le_refl _))))))))) (by decide)), ?_⟩
  have w13 : Own x G12 (upd H13 x (.ins C dx (FsOf p c (e + 1) as ap an aw al))) := Own.put hx12 e13
  have hax : al ≠ x := fun z => by
    rw [z, hx12] at nal
    cases nal
  exact k _ (((run12.ex e13).put hxP).done nx) ⟨dx, c, as, ap, an, aw, al, upd_same, w13.sqt hC12, w13.tab hS12, w13.tab hP12, w13.lst hn12, w13.lst hw12, by rw [upd_ne hax]; exact hal⟩
end
end My
set_option Elab.async false
set_option linter.all false
set_option maxRecDepth 100000
set_option maxHeartbeats 1000000
namespace My
open PySem L2 Evl GxR MyG
local macro_rules | `(tactic| walk_at "ev") => `(tactic| repeat' (first
  | exact ev_c
  | exact ev_var rfl
  | exact ea_nil
  | exact eo_none
  | (refine' ev_cb ?ea (rc_len ?sq); (case ea => walk_at "evs"); (case sq => walk_at "sq"))
  | (refine' ev_op ?a ?b (rv_ixL ?sq ?ix); (case a => walk_at "evs"); (case b => walk_at "evs"); (case sq => walk_at "sq"); (case ix => walk_at "at"))
  | refine' ea_cons ?_ ?_
  | refine' eo_some ?_
  | refine' ev_op ?_ ?_ rv_I0
  | refine' ev_op ?_ ?_ (rv_eq ?_)
  | refine' ev_op ?_ ?_ (rv_ne ?_)
  | refine' ev_op ?_ ?_ (rv_I ?_)
  | refine' ev_un ?_ ru_neg
  | refine' ev_cb ?_ rc_int
  | refine' ev_cb ?_ rc_abs
  | refine' ev_cb ?_ rc_max2
  | refine' ev_andV ?_ ?_
  | refine' ev_notV ?_
  | refine' et_test ?_
  | refine' et_B ?_
  | refine' et_not ?_))
local macro_rules | `(tactic| walk_at "side") => `(tactic| first
  | rfl
  | decide
  | exact ⟨by decide, by decide⟩
  | exact .inr ⟨by decide, by decide⟩
  | exact .inl ⟨by decide, by decide⟩
  | omega
  | exact .inl ⟨by omega, by omega⟩
  | exact ⟨by omega, by omega⟩
  | exact .inr ⟨by omega, by omega⟩)
local macro_rules | `(tactic| walk_at "evs") => `(tactic| (walk_at "ev"; all_goals (walk_at "side")))
local macro_rules | `(tactic| walk_at "ex") => `(tactic| first
  | with_reducible exact Ex.refl _
  | with_reducible assumption
  | (refine' Ex.trans ?_ ?b; (case b => with_reducible assumption); walk_at "ex"))
local macro_rules | `(tactic| walk_at "sq") => `(tactic| first
  | (refine' sq_ex ?h ?e; (case h => with_reducible assumption); (case e => walk_at "ex"))
  | (refine' ex_l ?e ?h; (case h => with_reducible assumption); (case e => walk_at "ex"))
  | (refine' ex_l ?e ?h; (case h => assumption); (case e => walk_at "ex"))
  | assumption
  | exact sq_of (by assumption))
local macro_rules | `(tactic| walk_at "at") => `(tactic| first
  | exact at_int (by omega) (by omega)
  | exact atI_nat (j := 0) rfl
  | exact atI_nat (j := 1) rfl
  | exact atI_nat (j := 2) rfl)
local macro_rules | `(tactic| walk_at "side2") => `(tactic| first | exact CMul_bdl (by assumption) | exact CMul_bdr (by assumption) | walk_at "side")
local macro_rules | `(tactic| walk_at "evb") => `(tactic| (walk_at "ev"; all_goals (walk_at "side2")))

local macro_rules | `(tactic| walk_at "fl") => `(tactic| (unfold FsOf; repeat (first | rw [lookup_putF, if_pos rfl] | rw [lookup_putF, if_neg (by decide +kernel)])))
/-! == of lists and tuples of ints -/
theorem shL (ns : List Int) : SeqAt.shaped (.list (ns.map PyData.int)) = true := by
  have h1 := dep_ints ns
  unfold SeqAt.shaped
  rw [Bool.and_eq_true]
  refine ⟨?_, decide_eq_true ?_⟩
  · simp [PyData.canLay0, lay_ints]
  · simp [PyData.depth]
    omega
theorem shT (ns : List Int) : SeqAt.shaped (.tuple (ns.map PyData.int)) = true := by
  have h1 := dep_ints ns
  unfold SeqAt.shaped
  rw [Bool.and_eq_true]
  refine ⟨?_, decide_eq_true ?_⟩
  · simp [PyData.canLay0, lay_ints]
  · simp [PyData.depth]
    omega
section
variable {K : PySem.W.Frag} {H : Hp} {a b : Addr} {ns ms : List Int}
theorem rv_eqL (ha : SqL K H a (ns.map V.int)) (hb : SqL K H b (ms.map V.int)) : RV (rEqD K) (.ref a) (.ref b) H (.bl (decide (ns = ms))) := fun H1 e Q q =>
  ⟨_, _, .lst (ex_l e ha) (dp_ints ns), .lst (ex_l e hb) (dp_ints ms), shL ns, shL ms, by rw [PyData.eqv, PySem.W.ked_eqvAll]; exact q H1 (Ex.refl _)⟩
theorem rv_neL (ha : SqL K H a (ns.map V.int)) (hb : SqL K H b (ms.map V.int)) : RV (rNeD K) (.ref a) (.ref b) H (.bl (!decide (ns = ms))) := fun H1 e Q q =>
  ⟨_, _, .lst (ex_l e ha) (dp_ints ns), .lst (ex_l e hb) (dp_ints ms), shL ns, shL ms, by rw [PyData.eqv, PySem.W.ked_eqvAll]; exact q H1 (Ex.refl _)⟩
theorem rv_eqT (ha : SqT K H a (ns.map V.int)) (hb : SqT K H b (ms.map V.int)) : RV (rEqD K) (.ref a) (.ref b) H (.bl (decide (ns = ms))) := fun H1 e Q q =>
  ⟨_, _, .tup (ex_t e ha) (dp_ints ns), .tup (ex_t e hb) (dp_ints ms), shT ns, shT ms, by rw [PyData.eqv, PySem.W.ked_eqvAll]; exact q H1 (Ex.refl _)⟩
theorem rv_neT (ha : SqT K H a (ns.map V.int)) (hb : SqT K H b (ms.map V.int)) : RV (rNeD K) (.ref a) (.ref b) H (.bl (!decide (ns = ms))) := fun H1 e Q q =>
  ⟨_, _, .tup (ex_t e ha) (dp_ints ns), .tup (ex_t e hb) (dp_ints ms), shT ns, shT ms, by rw [PyData.eqv, PySem.W.ked_eqvAll]; exact q H1 (Ex.refl _)⟩
end
/-! methods -/
structure Md (P : Program) (w : World) (K : PySem.W.Frag) (mg : Str → Option Value) (base : Heap) (CX : CXT) (k : Nat) (C : Addr) (m : Str) (ps : List Str) (sp : Sp) : Prop where
  ex : ∃ (f : Addr) (fd : FuncData), Meth K C m f ∧ Binds K fd ps [] ∧ FnOk P w K mg base CX k f fd ps sp
theorem Md.up {P : Program} {w : World} {K : PySem.W.Frag} {mg : Str → Option Value} {base : Heap} {CX : CXT} {j k : Nat} {C : Addr} {m : Str} {ps : List Str} {sp : Sp} (d : Md P w K mg base CX j C m ps sp) (h : j ≤ k) : Md P w K mg base CX k C m ps sp := by
  obtain ⟨f, fd, a, b, F⟩ := d.ex
  exact ⟨f, fd, a, b, F.mono h⟩
theorem pe_md {X : Cx} {k : Nat} {C : Addr} {m : Str} {ps : List Str} {sp : Sp} {o e : Expr} {es : List Expr} {ta : TE} {t : TA} {pos apos : Pos} {pl : Sem Bool} (d : Md X.prog X.w X.K X.mg X.base CX0 k C m ps sp) (c : Cls X.K C) (hr : Room k X.A) (he : PE X o ta) (ha : PA X (e :: es) t)
    (hst : starEach (e :: es) X.env = (false, eval e X.env) :: starEach es X.env := by rfl) (hpl : (backTo pos (starEach es X.env)).any (·.1) = false := by rfl)
    (ht : eval (.Call (.Attribute o m apos) (e :: es) [] pos) X.env = (do
      let ov ← eval o X.env
      standAt apos.atName
      let (f, first) ← holding [ov] (getMethod ov m pl)
      callWith pos f first (backTo pos (starEach (e :: es) X.env)) (backToKw pos (keywordEach [] X.env))) := by rfl) : PE X (.Call (.Attribute o m apos) (e :: es) [] pos) (tMeth C m sp [] E0 ta t) := by
  obtain ⟨f, fd, hm, b, F⟩ := d.ex
  exact pe_meth he c hm F hr b .nil pass0 ha hst hpl ht
theorem pe_md0 {X : Cx} {k : Nat} {C : Addr} {m : Str} {ps : List Str} {sp : Sp} {o : Expr} {ta : TE} {pos apos : Pos} {pl : Sem Bool} (d : Md X.prog X.w X.K X.mg X.base CX0 k C m ps sp) (c : Cls X.K C) (hr : Room k X.A) (he : PE X o ta)
    (ht : eval (.Call (.Attribute o m apos) [] [] pos) X.env = (do
      let ov ← eval o X.env
      standAt apos.atName
      let (f, first) ← holding [ov] (getMethod ov m pl)
      callWith pos f first (backTo pos (starEach [] X.env)) (backToKw pos (keywordEach [] X.env))) := by rfl) : PE X (.Call (.Attribute o m apos) [] [] pos) (tMeth C m sp [] E0 ta tNil) := by
  obtain ⟨f, fd, hm, b, F⟩ := d.ex
  exact pe_meth0 he c hm F hr b .nil pass0 ht
section
variable {K : PySem.W.Frag} {σ : L2.St} {H : Hp} {ta : TA} {vs : List V} {v : V} {sp : Sp} {E : XK} {x C dx : Addr} {fs : List (Str × V)} {m : Str} {i : Nat}
theorem ev_meth (h0 : σ[i]? = some (some (.ref x))) (hx : H x = some (.ins C dx fs)) (hl : fs.lookup m = none) (h : EvA ta σ H vs) (hs : SpV sp (.ref x :: vs) H v) : Ev (tMeth C m sp [] E (tVar i) ta) σ H v := fun H1 e Q q =>
  ⟨_, h0, x, dx, fs, rfl, e _ _ hx, hl, h H1 e _ fun H2 e2 => by rw [List.append_nil]; exact hs H2 (e.trans e2) Q (fun H3 e3 => q H3 (e2.trans e3)) E⟩
theorem el_meth {xs : List V} (h0 : σ[i]? = some (some (.ref x))) (hx : H x = some (.ins C dx fs)) (hl : fs.lookup m = none) (h : EvA ta σ H vs) (hs : SpL sp (.ref x :: vs) H xs) : EvL (tMeth C m sp [] E (tVar i) ta) σ H xs := fun H1 e Q q =>
  ⟨_, h0, x, dx, fs, rfl, e _ _ hx, hl, h H1 e _ fun H2 e2 => by rw [List.append_nil]; exact hs H2 (e.trans e2) Q (fun p H3 np e3 h3 => q p H3 (fresh_back e2 np) (e2.trans e3) h3) E⟩
end
end My
set_option Elab.async false
set_option linter.all false
set_option maxRecDepth 100000
set_option maxHeartbeats 1000000
namespace My
open PySem L2 Evl GxR MyG
/-! methods that may raise -/
theorem passE0 {X : Cx} : Passes (L2.CX X.prog X.w) X (fun _ _ _ => False) := fun _ _ _ _ _ _ _ h => by
  obtain ⟨_, _, _, _, _, _, _, _, _, _, _, _, z⟩ := h
  exact z.elim
theorem pe_mdX {X : Cx} {k : Nat} {C : Addr} {m : Str} {ps : List Str} {sp : Sp} {E : XK} {o e : Expr} {es : List Expr} {ta : TE} {t : TA} {pos apos : Pos} {pl : Sem Bool} (d : Md X.prog X.w X.K X.mg X.base (L2.CX X.prog X.w) k C m ps sp) (c : Cls X.K C) (hr : Room k X.A) (hp : Passes (L2.CX X.prog X.w) X E) (he : PE X o ta) (ha : PA X (e :: es) t)
    (hst : starEach (e :: es) X.env = (false, eval e X.env) :: starEach es X.env := by rfl) (hpl : (backTo pos (starEach es X.env)).any (·.1) = false := by rfl)
    (ht : eval (.Call (.Attribute o m apos) (e :: es) [] pos) X.env = (do
      let ov ← eval o X.env
      standAt apos.atName
      let (f, first) ← holding [ov] (getMethod ov m pl)
      callWith pos f first (backTo pos (starEach (e :: es) X.env)) (backToKw pos (keywordEach [] X.env))) := by rfl) : PE X (.Call (.Attribute o m apos) (e :: es) [] pos) (tMeth C m sp [] E ta t) := by
  obtain ⟨f, fd, hm, b, F⟩ := d.ex
  exact pe_meth he c hm F hr b .nil hp ha hst hpl ht
/-- a method's call in a try's body: what it lets out speaks of the slots -/
def tMethV (C : Addr) (m : Str) (sp : Sp) (E : L2.St → XK) (ta : TE) (t : TA) : TE := fun σ H Q => ta σ H fun x H1 => ∃ a dx fs, x = .ref a ∧ H1 a = some (.ins C dx fs) ∧ fs.lookup m = none ∧ t σ H1 fun vs H2 => sp (x :: vs) H2 Q (E σ)
theorem pe_mdS {X : Cx} {k : Nat} {C : Addr} {m : Str} {ps : List Str} {sp : Sp} {E : L2.St → XK} {o e : Expr} {es : List Expr} {ta : TE} {t : TA} {pos apos : Pos} {pl : Sem Bool} (d : Md X.prog X.w X.K X.mg X.base (L2.CX X.prog X.w) k C m ps sp) (c : Cls X.K C) (hr : Room k X.A) (hp : ∀ σ, PassesAt (L2.CX X.prog X.w) X σ (E σ)) (he : PE X o ta) (ha : PA X (e :: es) t)
    (hst : starEach (e :: es) X.env = (false, eval e X.env) :: starEach es X.env := by rfl) (hpl : (backTo pos (starEach es X.env)).any (·.1) = false := by rfl)
    (ht : eval (.Call (.Attribute o m apos) (e :: es) [] pos) X.env = (do
      let ov ← eval o X.env
      standAt apos.atName
      let (f, first) ← holding [ov] (getMethod ov m pl)
      callWith pos f first (backTo pos (starEach (e :: es) X.env)) (backToKw pos (keywordEach [] X.env))) := by rfl) : PE X (.Call (.Attribute o m apos) (e :: es) [] pos) (tMethV C m sp E ta t) := by
  obtain ⟨f, fd, hm, b, F⟩ := d.ex
  refine ⟨?_⟩
  intro pins s σ H Q I h
  refine PySem.W.methodCall_KW (pl := pl) (thn (he.run pins s σ H _ I h) ?_) ht
  rintro u s1 ⟨x, H1, I1, rx, a, dx, fs, ex, ea, l, q⟩
  subst ex
  obtain rfl : u = Value.ref a := rx
  refine getmeth_ok I1 ea c hm l ?_
  refine PySem.W.callWith_K (first := [.ref a]) I1.ok.mod.kin hm.kp (thn (ha.run pos pins s1 σ H1 _ I1 q) ?_) hst hpl
  rintro us s2 ⟨vs, H2, I2, r, q2⟩
  have hv : Vals (V.ref a :: vs) (Value.ref a :: us) := .cons rfl r
  exact ⟨I2.kIn, run_fnS F hr b (hp σ) I2 hv q2⟩
/-! raising, told by what it asks of the heap -/
def EvR (te : TE) (σ : L2.St) (H : Hp) (W : Hp → Prop) : Prop := ∀ H1, Ex H H1 → (∀ H2, Ex H1 H2 → W H2) → ∀ Q : VK, te σ H1 Q
def EvRA (ta : TA) (σ : L2.St) (H : Hp) (W : Hp → Prop) : Prop := ∀ H1, Ex H H1 → (∀ H2, Ex H1 H2 → W H2) → ∀ Q : List V → Hp → Prop, ta σ H1 Q
section
variable {K : PySem.W.Frag} {σ : L2.St} {H : Hp} {W : Hp → Prop} {r : R2} {ru : V → Hp → VK → Prop} {ta tb te : TE} {tr : TA} {v x : V} {D : Ends} {tz : TS} {i : Nat}
theorem er_opL (h : EvR ta σ H W) : EvR (tOp r ta tb) σ H W := fun H1 e w _ => h H1 e w _
theorem er_opR (h : Ev ta σ H v) (hb : EvR tb σ H W) : EvR (tOp r ta tb) σ H W := fun H1 e w _ => h H1 e _ fun H2 e2 => hb H2 (e.trans e2) (fun H3 e3 => w H3 (e2.trans e3)) _
theorem er_un (h : EvR ta σ H W) : EvR (tUn ru ta) σ H W := fun H1 e w _ => h H1 e w _
theorem era_head (h : EvR te σ H W) : EvRA (tCons te tr) σ H W := fun H1 e w _ => h H1 e w _
theorem era_tail (h : Ev te σ H v) (hr : EvRA tr σ H W) : EvRA (tCons te tr) σ H W := fun H1 e w _ => h H1 e _ fun H2 e2 => hr H2 (e.trans e2) (fun H3 e3 => w H3 (e2.trans e3)) _
theorem s_retR (h : EvR te σ H W) (w : ∀ H1, Ex H H1 → W H1) : tRet te D σ H := h H (Ex.refl H) w _
theorem s_asgR {g : TG} (h : EvR te σ H W) (w : ∀ H1, Ex H H1 → W H1) : tAsg te g D σ H := h H (Ex.refl H) w _
theorem q_asgR {g : TG} (h : EvR te σ H W) (w : ∀ H1, Ex H H1 → W H1) : tSeq (tAsg te g) tz D σ H := h H (Ex.refl H) w _
theorem er_meth {x C dx : Addr} {fs : List (Str × V)} {m : Str} {sp : Sp} {E : XK} {ta : TA} {vs : List V} (h0 : σ[i]? = some (some (.ref x))) (hx : H x = some (.ins C dx fs)) (hl : fs.lookup m = none) (h : EvA ta σ H vs)
    (hs : ∀ H1, Ex H H1 → (∀ H2, Ex H1 H2 → W H2) → ∀ Q : VK, sp (.ref x :: vs) H1 Q E) : EvR (tMeth C m sp [] E (tVar i) ta) σ H W := fun H1 e w Q =>
  ⟨_, h0, x, dx, fs, rfl, e _ _ hx, hl, h H1 e _ fun H2 e2 => by rw [List.append_nil]; exact hs H2 (e.trans e2) (fun H3 e3 => w H3 (e2.trans e3)) Q⟩
theorem er_methV {x C dx : Addr} {fs : List (Str × V)} {m : Str} {sp : Sp} {E : L2.St → XK} {ta : TA} {vs : List V} (h0 : σ[i]? = some (some (.ref x))) (hx : H x = some (.ins C dx fs)) (hl : fs.lookup m = none) (h : EvA ta σ H vs)
    (hs : ∀ H1, Ex H H1 → (∀ H2, Ex H1 H2 → W H2) → ∀ Q : VK, sp (.ref x :: vs) H1 Q (E σ)) : EvR (tMethV C m sp E (tVar i) ta) σ H W := fun H1 e w Q =>
  ⟨_, h0, x, dx, fs, rfl, e _ _ hx, hl, h H1 e _ fun H2 e2 => hs H2 (e.trans e2) (fun H3 e3 => w H3 (e2.trans e3)) Q⟩
theorem er_methA {x C dx : Addr} {fs : List (Str × V)} {m : Str} {sp : Sp} {E : XK} {ta : TA} (h0 : σ[i]? = some (some (.ref x))) (hx : H x = some (.ins C dx fs)) (hl : fs.lookup m = none) (h : EvRA ta σ H W) : EvR (tMeth C m sp [] E (tVar i) ta) σ H W := fun H1 e w Q =>
  ⟨_, h0, x, dx, fs, rfl, e _ _ hx, hl, h H1 e w _⟩
/-- d[k], an int -/
theorem ev_dget {al : Addr} {kvs : List (Key × V)} {k : Int} {v : V} (ha : Ev ta σ H (.ref al)) (hk : Ev tb σ H (.int k)) (hl : H al = some (.dK kvs)) (hv : valV kvs (.inl k) = some v) : Ev (tDGet ta tb) σ H v := fun H1 e Q q =>
  ha H1 e _ fun H2 e2 => hk H2 (e.trans e2) _ fun H3 e3 => ⟨al, v, rfl, by
    have g := DGet.k (k := (.inl k : Key)) (((e.trans e2).trans e3) _ _ hl)
    rw [hv] at g
    exact g, q H3 (e2.trans e3)⟩
end
end My
set_option Elab.async false
set_option linter.all false
set_option maxRecDepth 100000
set_option maxHeartbeats 1000000
namespace My
open PySem L2 Evl GxR MyG
local macro_rules | `(tactic| walk_at "ev") => `(tactic| repeat' (first
  | exact ev_c
  | exact ev_var rfl
  | exact ea_nil
  | exact eo_none
  | (refine' ev_cb ?ea (rc_len ?sq); (case ea => walk_at "evs"); (case sq => walk_at "sq"))
  | (refine' ev_op ?a ?b (rv_ixL ?sq ?ix); (case a => walk_at "evs"); (case b => walk_at "evs"); (case sq => walk_at "sq"); (case ix => walk_at "at"))
  | refine' ea_cons ?_ ?_
  | refine' eo_some ?_
  | refine' ev_op ?_ ?_ rv_I0
  | refine' ev_op ?_ ?_ (rv_eq ?_)
  | refine' ev_op ?_ ?_ (rv_ne ?_)
  | refine' ev_op ?_ ?_ (rv_I ?_)
  | refine' ev_un ?_ ru_neg
  | refine' ev_cb ?_ rc_int
  | refine' ev_cb ?_ rc_abs
  | refine' ev_cb ?_ rc_max2
  | refine' ev_andV ?_ ?_
  | refine' ev_notV ?_
  | refine' et_test ?_
  | refine' et_B ?_
  | refine' et_not ?_))
local macro_rules | `(tactic| walk_at "side") => `(tactic| first
  | rfl
  | decide
  | exact ⟨by decide, by decide⟩
  | exact .inr ⟨by decide, by decide⟩
  | exact .inl ⟨by decide, by decide⟩
  | omega
  | exact .inl ⟨by omega, by omega⟩
  | exact ⟨by omega, by omega⟩
  | exact .inr ⟨by omega, by omega⟩)
local macro_rules | `(tactic| walk_at "evs") => `(tactic| (walk_at "ev"; all_goals (walk_at "side")))
local macro_rules | `(tactic| walk_at "ex") => `(tactic| first
  | with_reducible exact Ex.refl _
  | with_reducible assumption
  | (refine' Ex.trans ?_ ?b; (case b => with_reducible assumption); walk_at "ex"))
local macro_rules | `(tactic| walk_at "sq") => `(tactic| first
  | (refine' sq_ex ?h ?e; (case h => with_reducible assumption); (case e => walk_at "ex"))
  | (refine' ex_l ?e ?h; (case h => with_reducible assumption); (case e => walk_at "ex"))
  | (refine' ex_l ?e ?h; (case h => assumption); (case e => walk_at "ex"))
  | assumption
  | exact sq_of (by assumption))
local macro_rules | `(tactic| walk_at "at") => `(tactic| first
  | exact at_int (by omega) (by omega)
  | exact atI_nat (j := 0) rfl
  | exact atI_nat (j := 1) rfl
  | exact atI_nat (j := 2) rfl)
local macro_rules | `(tactic| walk_at "side2") => `(tactic| first | exact CMul_bdl (by assumption) | exact CMul_bdr (by assumption) | walk_at "side")
local macro_rules | `(tactic| walk_at "evb") => `(tactic| (walk_at "ev"; all_goals (walk_at "side2")))

local macro_rules | `(tactic| walk_at "fl") => `(tactic| (unfold FsOf; repeat (first | rw [lookup_putF, if_pos rfl] | rw [lookup_putF, if_neg (by decide +kernel)])))
theorem fs_no {p : Nat} {c : Addr} {d : Nat} {as ap an aw al : Addr} {m : Str} (h : ∀ y ∈ (["_logs", "_powers", "_negatives", "_products", "_sums", "order", "degree", "modulus", "prime"] : List Str), ¬ m = y) : (FsOf p c d as ap an aw al).lookup m = none := by
  unfold FsOf
  rw [lookup_putF, if_neg (h _ (by simp)), lookup_putF, if_neg (h _ (by simp)), lookup_putF, if_neg (h _ (by simp)), lookup_putF, if_neg (h _ (by simp)), lookup_putF, if_neg (h _ (by simp)), lookup_putF, if_neg (h _ (by simp)), lookup_putF, if_neg (h _ (by simp)), lookup_putF, if_neg (h _ (by simp)), lookup_putF, if_neg (h _ (by simp))]
  rfl
/-- the class that a field raises -/
structure ZTxt (K : PySem.W.Frag) (mg : Str → Option Value) (D : Addr) : Prop where
  g : mg "ZeroElement" = some (.ref D)
  x : PySem.W.excIn K D [.type "ValueError", .type "Exception", .type "BaseException", .type "object"] "ValueError.__new__" = true
  k : PySem.W.keepIn K (.ref D) = true
  b : PySem.W.subIn K (.ref D) (.type "BaseException") = some true
  t : PySem.W.typeIn K (.ref D) = some (.type "type")
/-- a field that stands, with its numbers -/
structure FX (K : PySem.W.Frag) (C : Addr) (H : Hp) (x : Addr) (p e g : Nat) (m : List Int) : Prop where
  fld : Fld K C H x p m (e + 1) g
  p2 : 2 ≤ p
  len : m.length = e + 2
  q : p ^ (e + 1) ≤ 256
  pr : PrimE p m e g
theorem FX.ex {K : PySem.W.Frag} {C : Addr} {H H1 : Hp} {x : Addr} {p e g : Nat} {m : List Int} (h : FX K C H x p e g m) (e1 : Ex H H1) : FX K C H1 x p e g m := ⟨h.fld.ex e1, h.p2, h.len, h.q, h.pr⟩
theorem FX.of {K : PySem.W.Frag} {C : Addr} {H : Hp} {x : Addr} {p e g : Nat} {m : List Int} (h : Fld K C H x p m (e + 1) g) (o : FOK p m e g) : FX K C H x p e g m := ⟨h, o.p2, o.len, o.sz, o.prim⟩
theorem pwL_len (p : Nat) (m : List Int) (d g : Nat) : (pwL p m d g).length = p ^ d - 1 := by
  unfold pwL
  rw [List.length_map, List.length_range]
theorem pwL_get {p : Nat} {m : List Int} {d g k : Nat} (h : k < p ^ d - 1) : (pwL p m d g).getD k 0 = pw (prodTab p m (sumTab p d)) (g : Int) k := by
  unfold pwL
  rw [List.getD_eq_getElem?_getD, List.getElem?_map, List.getElem?_eq_getElem (by rw [List.length_range]; exact h), List.getElem_range]
  rfl
section
variable {P : Program} {w : World} {K : PySem.W.Frag} {mg : Str → Option Value} {base : Heap}
/-! Field_log: 0 self, 1 a -/
abbrev s_Field_log : Stmt := inClass (topS 23) 12
theorem sc_Field_log : FnScope ["self", "a"] ["self", "a"] (defScope s_Field_log) := ⟨rfl, rfl, rfl, by decide +kernel, rfl, by decide +kernel, by decide +kernel⟩
def spMLog (K : PySem.W.Frag) (C D : Addr) : Sp := fun vs H Q E => ∃ (x : Addr) (p e g : Nat) (m : List Int) (a : Int), vs = [.ref x, .int a] ∧ FX K C H x p e g m ∧ inF p e a ∧
  (a ≠ 0 → ∀ k : Nat, k < p ^ (e + 1) - 1 → fW p m e (g : Int) k = a → RetV (.int (k : Int)) H Q) ∧ (a = 0 → ∀ H', Ex H H' → E (.ref D) none H')
theorem ok_mlog {f C D : Addr} {fd : FuncData} (F : Fun K "log" "Field.log" s_Field_log f fd) (T : FTxt mg) (TC : CTxt K mg C) (TZ : ZTxt K mg D) : FnOk P w K mg base (L2.CX P w) 1 f fd ["self", "a"] (spMLog K C D) := by
  refine F.okX sc_Field_log (fun vs H Q E h => ?_) (fun cdv A outer s H vs Q E hr h => ?_)
  · obtain ⟨_, _, _, _, _, _, rfl, _⟩ := h
    rfl
  obtain ⟨x, p, e, g, m, a, rfl, hF, ha, k1, k2⟩ := h
  obtain ⟨dx, c, as, ap, an, aw, al, h⟩ := hF.fld
  have hu := hu_of hr
  refine ⟨_, (pss_cons (ps_if (pt_cmpR op_eq (pv 1) pe_int (nomark _))
      (pss_one (ps_raise rfl (takes_of rfl rfl rfl rfl) (pmk_own PySem.F.excBase_ValueError TZ.x TZ.g TZ.k (raises_own TZ.b TZ.t) rfl)))
      pss_nil)
    (pss_one (ps_ret (pe_dget hu (pe_fld (pv 0) rfl) (pv 1) (fun _ _ => rfl))))), ?_⟩
  refine q_when (b := decide (a = 0)) (et_is (et_test (ev_op (ev_var rfl) ev_c (rv_eq rfl))) (dec_int _ _)) (fun hb H1 e1 => ?_) (fun hb H1 e1 => ?_)
  · exact k2 (of_decide_eq_true hb) H1 e1
  · have h0 : a ≠ 0 := of_decide_eq_false hb
    obtain ⟨k, hk, hw⟩ := hF.pr.all hF.p2 hF.len ha h0
    refine s_ret (ev_dget (ev_fld rfl (e1 _ _ h.ob) TC.cl TC.n_logs (by walk_at "fl")) (ev_var rfl) (e1 _ _ h.logs) (v := .int (k : Int)) ?_) fun H2 e2 => k1 h0 k hk hw H2 (e1.trans e2)
    have q := logs_val (pwL p m (e + 1) g) (pwL p m (e + 1) g).length k (by rw [pwL_len]; exact hk) (fun j hj hkj => by
      rw [pwL_len] at hj
      rw [pwL_get hj, pwL_get hk]
      exact (hF.pr.inj hF.p2 hF.len hkj hj).symm)
    rw [pwL_get hk] at q
    have hw' : pw (prodTab p m (sumTab p (e + 1))) (g : Int) k = a := hw
    rw [hw'] at q
    exact q
end
end My
set_option Elab.async false
set_option linter.all false
set_option maxRecDepth 100000
set_option maxHeartbeats 1000000
namespace My
open PySem L2 Evl GxR MyG
local macro_rules | `(tactic| walk_at "ev") => `(tactic| repeat' (first
  | exact ev_c
  | exact ev_var rfl
  | exact ea_nil
  | exact eo_none
  | (refine' ev_cb ?ea (rc_len ?sq); (case ea => walk_at "evs"); (case sq => walk_at "sq"))
  | (refine' ev_op ?a ?b (rv_ixL ?sq ?ix); (case a => walk_at "evs"); (case b => walk_at "evs"); (case sq => walk_at "sq"); (case ix => walk_at "at"))
  | refine' ea_cons ?_ ?_
  | refine' eo_some ?_
  | refine' ev_op ?_ ?_ rv_I0
  | refine' ev_op ?_ ?_ (rv_eq ?_)
  | refine' ev_op ?_ ?_ (rv_ne ?_)
  | refine' ev_op ?_ ?_ (rv_I ?_)
  | refine' ev_un ?_ ru_neg
  | refine' ev_cb ?_ rc_int
  | refine' ev_cb ?_ rc_abs
  | refine' ev_cb ?_ rc_max2
  | refine' ev_andV ?_ ?_
  | refine' ev_notV ?_
  | refine' et_test ?_
  | refine' et_B ?_
  | refine' et_not ?_))
local macro_rules | `(tactic| walk_at "side") => `(tactic| first
  | rfl
  | decide
  | exact ⟨by decide, by decide⟩
  | exact .inr ⟨by decide, by decide⟩
  | exact .inl ⟨by decide, by decide⟩
  | omega
  | exact .inl ⟨by omega, by omega⟩
  | exact ⟨by omega, by omega⟩
  | exact .inr ⟨by omega, by omega⟩)
local macro_rules | `(tactic| walk_at "evs") => `(tactic| (walk_at "ev"; all_goals (walk_at "side")))
local macro_rules | `(tactic| walk_at "ex") => `(tactic| first
  | with_reducible exact Ex.refl _
  | with_reducible assumption
  | (refine' Ex.trans ?_ ?b; (case b => with_reducible assumption); walk_at "ex"))
local macro_rules | `(tactic| walk_at "sq") => `(tactic| first
  | (refine' sq_ex ?h ?e; (case h => with_reducible assumption); (case e => walk_at "ex"))
  | (refine' ex_l ?e ?h; (case h => with_reducible assumption); (case e => walk_at "ex"))
  | (refine' ex_l ?e ?h; (case h => assumption); (case e => walk_at "ex"))
  | assumption
  | exact sq_of (by assumption))
local macro_rules | `(tactic| walk_at "at") => `(tactic| first
  | exact at_int (by omega) (by omega)
  | exact atI_nat (j := 0) rfl
  | exact atI_nat (j := 1) rfl
  | exact atI_nat (j := 2) rfl)
local macro_rules | `(tactic| walk_at "side2") => `(tactic| first | exact CMul_bdl (by assumption) | exact CMul_bdr (by assumption) | walk_at "side")
local macro_rules | `(tactic| walk_at "evb") => `(tactic| (walk_at "ev"; all_goals (walk_at "side2")))

local macro_rules | `(tactic| walk_at "fl") => `(tactic| (unfold FsOf; repeat (first | rw [lookup_putF, if_pos rfl] | rw [lookup_putF, if_neg (by decide +kernel)])))
/-- an inverse -/
def isInv (p : Nat) (m : List Int) (e : Nat) (a b : Int) : Prop := inF p e b ∧ fP p m e a b = 1
theorem isInv.ne {p : Nat} {m : List Int} {e : Nat} {a b : Int} (h : isInv p m e a b) (hp : 2 ≤ p) (hm : m.length = e + 2) (ha : inF p e a) : 1 ≤ b := by
  obtain ⟨⟨h0, h1⟩, h2⟩ := h
  by_cases hb : b = 0
  · rw [hb, fP_zero hp hm ha] at h2
    exact absurd h2 (by decide)
  · omega
theorem inv_at {p e g : Nat} {m : List Int} (hp : 2 ≤ p) (hm : m.length = e + 2) (P : PrimE p m e g) {k : Nat} (hk : k < p ^ (e + 1) - 1) : ∃ j : Nat, (-(k : Int)) % ((p ^ (e + 1) : Nat) - 1 : Int) = (j : Int) ∧ j < p ^ (e + 1) - 1 ∧ isInv p m e (fW p m e (g : Int) k) (fW p m e (g : Int) j) := by
  have q2 := P.q2
  have hg := P.inn hp hm
  refine ⟨(p ^ (e + 1) - 1 - k) % (p ^ (e + 1) - 1), ?_, Nat.mod_lt _ (by omega), fW_in hp hm hg _, ?_⟩
  · have e1 : ((p ^ (e + 1) : Nat) - 1 : Int) = ((p ^ (e + 1) - 1 : Nat) : Int) := by omega
    rw [e1, Int.natCast_emod, show ((p ^ (e + 1) - 1 - k : Nat) : Int) = -(k : Int) + ((p ^ (e + 1) - 1 : Nat) : Int) by omega, Int.add_emod_right]
  · rw [← P.mod hp hm, ← fW_add hp hm hg, show k + (p ^ (e + 1) - 1 - k) = p ^ (e + 1) - 1 by omega]
    exact P.ord.fin
theorem ev_order {K : PySem.W.Frag} {mg : Str → Option Value} {C : Addr} {σ : L2.St} {H : Hp} {x i : Addr} {p e g : Nat} {m : List Int} (hF : FX K C H x p e g m) (h0 : σ[i]? = some (some (.ref x))) (TC : CTxt K mg C) : Ev (tFld K (tVar i) "order") σ H (.int ((p ^ (e + 1) : Nat) : Int)) := by
  obtain ⟨dx, cm, as, ap, an, aw, al, h⟩ := hF.fld
  exact ev_fld h0 h.ob TC.cl TC.n_order (by walk_at "fl")
theorem ev_pwl {K : PySem.W.Frag} {mg : Str → Option Value} {C : Addr} {σ : L2.St} {H : Hp} {x i : Addr} {p e g : Nat} {m : List Int} {te : TE} {k : Nat} (hF : FX K C H x p e g m) (h0 : σ[i]? = some (some (.ref x))) (TC : CTxt K mg C) (hk : k < p ^ (e + 1) - 1) (h : Ev te σ H (.int (k : Int))) : Ev (tOp (rIxL K) (tFld K (tVar i) "_powers") te) σ H (.int (fW p m e (g : Int) k)) := by
  obtain ⟨dx, cm, as, ap, an, aw, al, hh⟩ := hF.fld
  refine ev_op (ev_fld h0 hh.ob TC.cl TC.n_powers (by walk_at "fl")) h (rv_ixL (sq_of hh.pows) ?_)
  have := at_int (ns := pwL p m (e + 1) g) (z := (k : Int)) (by omega) (by rw [pwL_len]; omega)
  rw [show ((k : Int)).toNat = k by omega, pwL_get hk] at this
  exact this
end My
set_option Elab.async false
set_option linter.all false
set_option maxRecDepth 100000
set_option maxHeartbeats 1000000
namespace My
open PySem L2 Evl GxR MyG
local macro_rules | `(tactic| walk_at "ev") => `(tactic| repeat' (first
  | exact ev_c
  | exact ev_var rfl
  | exact ea_nil
  | exact eo_none
  | (refine' ev_cb ?ea (rc_len ?sq); (case ea => walk_at "evs"); (case sq => walk_at "sq"))
  | (refine' ev_op ?a ?b (rv_ixL ?sq ?ix); (case a => walk_at "evs"); (case b => walk_at "evs"); (case sq => walk_at "sq"); (case ix => walk_at "at"))
  | refine' ea_cons ?_ ?_
  | refine' eo_some ?_
  | refine' ev_op ?_ ?_ rv_I0
  | refine' ev_op ?_ ?_ (rv_eq ?_)
  | refine' ev_op ?_ ?_ (rv_ne ?_)
  | refine' ev_op ?_ ?_ (rv_I ?_)
  | refine' ev_un ?_ ru_neg
  | refine' ev_cb ?_ rc_int
  | refine' ev_cb ?_ rc_abs
  | refine' ev_cb ?_ rc_max2
  | refine' ev_andV ?_ ?_
  | refine' ev_notV ?_
  | refine' et_test ?_
  | refine' et_B ?_
  | refine' et_not ?_))
local macro_rules | `(tactic| walk_at "side") => `(tactic| first
  | rfl
  | decide
  | exact ⟨by decide, by decide⟩
  | exact .inr ⟨by decide, by decide⟩
  | exact .inl ⟨by decide, by decide⟩
  | omega
  | exact .inl ⟨by omega, by omega⟩
  | exact ⟨by omega, by omega⟩
  | exact .inr ⟨by omega, by omega⟩)
local macro_rules | `(tactic| walk_at "evs") => `(tactic| (walk_at "ev"; all_goals (walk_at "side")))
local macro_rules | `(tactic| walk_at "ex") => `(tactic| first
  | with_reducible exact Ex.refl _
  | with_reducible assumption
  | (refine' Ex.trans ?_ ?b; (case b => with_reducible assumption); walk_at "ex"))
local macro_rules | `(tactic| walk_at "sq") => `(tactic| first
  | (refine' sq_ex ?h ?e; (case h => with_reducible assumption); (case e => walk_at "ex"))
  | (refine' ex_l ?e ?h; (case h => with_reducible assumption); (case e => walk_at "ex"))
  | (refine' ex_l ?e ?h; (case h => assumption); (case e => walk_at "ex"))
  | assumption
  | exact sq_of (by assumption))
local macro_rules | `(tactic| walk_at "at") => `(tactic| first
  | exact at_int (by omega) (by omega)
  | exact atI_nat (j := 0) rfl
  | exact atI_nat (j := 1) rfl
  | exact atI_nat (j := 2) rfl)
local macro_rules | `(tactic| walk_at "side2") => `(tactic| first | exact CMul_bdl (by assumption) | exact CMul_bdr (by assumption) | walk_at "side")
local macro_rules | `(tactic| walk_at "evb") => `(tactic| (walk_at "ev"; all_goals (walk_at "side2")))

local macro_rules | `(tactic| walk_at "fl") => `(tactic| (unfold FsOf; repeat (first | rw [lookup_putF, if_pos rfl] | rw [lookup_putF, if_neg (by decide +kernel)])))
/-- an element as a value -/
def fv {f : FPar} (a : Fe f) : V := .int a.1
/-- a field on the heap -/
abbrev FXF (K : PySem.W.Frag) (C : Addr) (H : Hp) (x : Addr) (f : FPar) (g : Nat) : Prop := FX K C H x f.p f.e g f.m
section
variable {f : FPar}
theorem fv_zero : fv (0 : Fe f) = .int 0 := congrArg V.int fe_zero
theorem fv_one : fv (1 : Fe f) = .int 1 := congrArg V.int fe_one
theorem fe_bd (a : Fe f) {q : Nat} (h : f.p ^ (f.e + 1) ≤ q) : 0 ≤ a.1 ∧ a.1 < (q : Int) := ⟨a.2.1, by have := a.2.2; omega⟩
theorem at_fe {xs : List (Fe f)} {i : Nat} (h : i < xs.length) : atI (xs.map fv) (i : Int) = some (fv (cf xs i)) := by
  refine atI_nat ?_
  unfold cf
  rw [List.getElem?_map, List.getElem?_eq_getElem h, List.getD_eq_getElem?_getD, List.getElem?_eq_getElem h]
  rfl
theorem getv_fe {xs : List (Fe f)} {i : Nat} {v : V} (h : (xs.map fv)[i]? = some v) : i < xs.length ∧ v = fv (cf xs i) := by
  have hi : i < xs.length := by
    have q := (List.getElem?_eq_some_iff.mp h).1
    rwa [List.length_map] at q
  refine ⟨hi, ?_⟩
  unfold cf
  rw [List.getElem?_map, List.getElem?_eq_getElem hi] at h
  rw [List.getD_eq_getElem?_getD, List.getElem?_eq_getElem hi]
  exact (Option.some.inj h).symm
theorem given_fe (n : Nat) (g : Nat → Fe f) : given n (fun _ => true) (fun i => fv (g i)) = ((List.range n).map g).map fv := by
  unfold given
  rw [List.filter_eq_self.mpr (fun _ _ => rfl), List.map_map]
  rfl
theorem fe_zero_iff (a : Fe f) : decide (a.1 = 0) = decide (a = 0) := by
  by_cases h : a = 0
  · rw [decide_eq_true h, h, fe_zero, decide_eq_true rfl]
  · rw [decide_eq_false h, decide_eq_false (fun q => h (fe_ext (q.trans fe_zero.symm)))]
/-- xs + c ys, so far as both go -/
def zipM (xs : List (Fe f)) (c : Fe f) (ys : List (Fe f)) : List (Fe f) := (List.range (min xs.length ys.length)).map fun i => cf xs i + c * cf ys i
theorem cf_range {n i : Nat} (g : Nat → Fe f) : cf ((List.range n).map g) i = if i < n then g i else 0 := by
  unfold cf
  by_cases h : i < n
  · rw [if_pos h, List.getD_eq_getElem?_getD, List.getElem?_map, List.getElem?_eq_getElem (by rw [List.length_range]; exact h), List.getElem_range]
    rfl
  · rw [if_neg h, List.getD_eq_getElem?_getD, List.getElem?_eq_none (by rw [List.length_map, List.length_range]; omega)]
    rfl
end
section
variable {K : PySem.W.Frag} {C : Addr} {mg : Str → Option Value} {σ : L2.St} {H : Hp} {x i j as r : Addr} {f : FPar} {g : Nat} {te : TE} {a b c : Fe f}
/-- a row of the products -/
theorem ev_prow (hF : FXF K C H x f g) (h0 : σ[i]? = some (some (.ref x))) (TC : CTxt K mg C) (hc : Ev te σ H (fv c)) : ∃ r, H r = some (.lst (((prodTab f.p f.m (sumTab f.p (f.e + 1))).getD c.1.toNat []).map V.int)) ∧ Ev (tOp (rIxL K) (tFld K (tVar i) "_products") te) σ H (.ref r) := by
  obtain ⟨dx, cm, as, ap, an, aw, al, h⟩ := hF.fld
  obtain ⟨hl, hb⟩ := prodTab_bd f.hp f.hm
  exact ev_row (K := K) (ev_fld h0 h.ob TC.cl TC.n_products (by walk_at "fl")) hc h.prods c.2.1 (by rw [hl]; exact c.2.2)
theorem ev_pitem (hr : H r = some (.lst (((prodTab f.p f.m (sumTab f.p (f.e + 1))).getD c.1.toNat []).map V.int))) (h0 : Ev (tVar i) σ H (.ref r)) (ha : Ev te σ H (fv a)) : Ev (tOp (rIxL K) (tVar i) te) σ H (fv (c * a)) := by
  obtain ⟨hl, hb⟩ := prodTab_bd f.hp f.hm
  have h := (hb.cell c.2.1 (by rw [hl]; exact c.2.2) a.2.1 a.2.2)
  exact ev_op h0 ha (rv_ixL (sq_of hr) (at_int a.2.1 (by rw [h.1]; exact a.2.2)))
theorem ev_sitem {t1 t2 : TE} (hS : IsTab H as (sumTab f.p (f.e + 1))) (h0 : Ev (tVar i) σ H (.ref as)) (ha : Ev t1 σ H (fv a)) (hb : Ev t2 σ H (fv b)) : Ev (tOp (rIxL K) (tOp (rIxL K) (tVar i) t1) t2) σ H (fv (a + b)) := by
  have hSl := sumTab_len f.p (f.e + 1)
  have hSb := sumTab_bd f.p (by have := f.hp; omega) (f.e + 1)
  exact ev_cell h0 ha hb hS a.2.1 (by rw [hSl]; exact a.2.2) b.2.1 (by rw [(hSb.cell a.2.1 (by rw [hSl]; exact a.2.2) b.2.1 b.2.2).1]; exact b.2.2)
end
section
variable {P : Program} {w : World} {K : PySem.W.Frag} {mg : Str → Option Value} {base : Heap}
def spMNeg (K : PySem.W.Frag) (C : Addr) : Sp := fun vs H Q _ => ∃ (x : Addr) (f : FPar) (g : Nat) (a : Fe f), vs = [.ref x, fv a] ∧ FXF K C H x f g ∧ RetV (fv (-a)) H Q
def spMAdd (K : PySem.W.Frag) (C : Addr) : Sp := fun vs H Q _ => ∃ (x : Addr) (f : FPar) (g : Nat) (a b : Fe f), vs = [.ref x, fv a, fv b] ∧ FXF K C H x f g ∧ RetV (fv (a + b)) H Q
/-! Field_times: 0 self, 1 a, 2 b -/
abbrev s_Field_times : Stmt := inClass (topS 23) 7
theorem sc_Field_times : FnScope ["self", "a", "b"] ["self", "a", "b"] (defScope s_Field_times) := ⟨rfl, rfl, rfl, by decide +kernel, rfl, by decide +kernel, by decide +kernel⟩
def spMMul (K : PySem.W.Frag) (C : Addr) : Sp := fun vs H Q _ => ∃ (x : Addr) (f : FPar) (g : Nat) (a b : Fe f), vs = [.ref x, fv a, fv b] ∧ FXF K C H x f g ∧ RetV (fv (a * b)) H Q
theorem ok_mmul {fa C : Addr} {fd : FuncData} (F : Fun K "times" "Field.times" s_Field_times fa fd) (T : FTxt mg) (TC : CTxt K mg C) : FnOk P w K mg base CX0 1 fa fd ["self", "a", "b"] (spMMul K C) := by
  refine F.ok sc_Field_times (fun vs H Q E h => ?_) (fun cdv A outer s H vs Q E hr h => ?_)
  · obtain ⟨_, _, _, _, _, rfl, _⟩ := h
    rfl
  obtain ⟨x, f, g, a, b, rfl, hF, k⟩ := h
  obtain ⟨dx, c, as, ap, an, aw, al, h⟩ := id hF.fld
  obtain ⟨hl, hb⟩ := prodTab_bd f.hp f.hm
  refine ⟨_, (pss_one (ps_ret (pe_ix ix_list (pe_ix ix_list (pe_fld (pv 0) rfl) (pv 1) (fun _ _ => rfl)) (pv 2) (fun _ _ => rfl)))), ?_⟩
  exact s_ret (v := fv (a * b)) (ev_cell (ev_fld rfl h.ob TC.cl TC.n_products (by walk_at "fl")) (ev_var rfl) (ev_var rfl) h.prods a.2.1 (by rw [hl]; exact a.2.2) b.2.1 (by rw [(hb.cell a.2.1 (by rw [hl]; exact a.2.2) b.2.1 b.2.2).1]; exact b.2.2)) fun H1 e1 => k H1 e1
def spMMult (K : PySem.W.Frag) (C : Addr) : Sp := fun vs H Q _ => ∃ (x r : Addr) (f : FPar) (g : Nat) (c : Fe f) (xs : List (Fe f)), vs = [.ref x, fv c, .ref r] ∧ FXF K C H x f g ∧ SqL K H r (xs.map fv) ∧ xs.length ≤ 1000 ∧ RetL ((xs.map (c * ·)).map fv) H Q
def spMPM (K : PySem.W.Frag) (C : Addr) : Sp := fun vs H Q _ => ∃ (x r1 r2 : Addr) (f : FPar) (g : Nat) (c : Fe f) (xs ys : List (Fe f)), vs = [.ref x, .ref r1, fv c, .ref r2] ∧ FXF K C H x f g ∧ SqL K H r1 (xs.map fv) ∧ SqL K H r2 (ys.map fv) ∧ xs.length ≤ 1000 ∧ RetL ((zipM xs c ys).map fv) H Q
end
end My
set_option Elab.async false
set_option linter.all false
set_option maxRecDepth 100000
set_option maxHeartbeats 2000000
namespace My
open PySem L2 Evl GxR MyG
local macro_rules | `(tactic| walk_at "ev") => `(tactic| repeat' (first
  | exact ev_c
  | exact ev_var rfl
  | exact ea_nil
  | exact eo_none
  | (refine' ev_cb ?ea (rc_len ?sq); (case ea => walk_at "evs"); (case sq => walk_at "sq"))
  | (refine' ev_op ?a ?b (rv_ixL ?sq ?ix); (case a => walk_at "evs"); (case b => walk_at "evs"); (case sq => walk_at "sq"); (case ix => walk_at "at"))
  | refine' ea_cons ?_ ?_
  | refine' eo_some ?_
  | refine' ev_op ?_ ?_ rv_I0
  | refine' ev_op ?_ ?_ (rv_eq ?_)
  | refine' ev_op ?_ ?_ (rv_ne ?_)
  | refine' ev_op ?_ ?_ (rv_I ?_)
  | refine' ev_un ?_ ru_neg
  | refine' ev_cb ?_ rc_int
  | refine' ev_cb ?_ rc_abs
  | refine' ev_cb ?_ rc_max2
  | refine' ev_andV ?_ ?_
  | refine' ev_notV ?_
  | refine' et_test ?_
  | refine' et_B ?_
  | refine' et_not ?_))
local macro_rules | `(tactic| walk_at "side") => `(tactic| first
  | rfl
  | decide
  | exact ⟨by decide, by decide⟩
  | exact .inr ⟨by decide, by decide⟩
  | exact .inl ⟨by decide, by decide⟩
  | omega
  | exact .inl ⟨by omega, by omega⟩
  | exact ⟨by omega, by omega⟩
  | exact .inr ⟨by omega, by omega⟩)
local macro_rules | `(tactic| walk_at "evs") => `(tactic| (walk_at "ev"; all_goals (walk_at "side")))
local macro_rules | `(tactic| walk_at "ex") => `(tactic| first
  | with_reducible exact Ex.refl _
  | with_reducible assumption
  | (refine' Ex.trans ?_ ?b; (case b => with_reducible assumption); walk_at "ex"))
local macro_rules | `(tactic| walk_at "sq") => `(tactic| first
  | (refine' sq_ex ?h ?e; (case h => with_reducible assumption); (case e => walk_at "ex"))
  | (refine' ex_l ?e ?h; (case h => with_reducible assumption); (case e => walk_at "ex"))
  | (refine' ex_l ?e ?h; (case h => assumption); (case e => walk_at "ex"))
  | assumption
  | exact sq_of (by assumption))
local macro_rules | `(tactic| walk_at "at") => `(tactic| first
  | exact at_int (by omega) (by omega)
  | exact atI_nat (j := 0) rfl
  | exact atI_nat (j := 1) rfl
  | exact atI_nat (j := 2) rfl)
local macro_rules | `(tactic| walk_at "side2") => `(tactic| first | exact CMul_bdl (by assumption) | exact CMul_bdr (by assumption) | walk_at "side")
local macro_rules | `(tactic| walk_at "evb") => `(tactic| (walk_at "ev"; all_goals (walk_at "side2")))

section
variable {P : Program} {w : World} {K : PySem.W.Frag} {mg : Str → Option Value} {base : Heap}
/-! _law_row: 0 cell, 1 many, 2 row, 3 rest, 4 state, 5 k -/
abbrev s_law_row : Stmt := topS 38
theorem sc_law_row : FnScope ["cell", "many", "row", "rest", "state", "k"] ["cell", "many"] (defScope s_law_row) := ⟨rfl, rfl, rfl, by decide +kernel, rfl, by decide +kernel, by decide +kernel⟩
def spRow : Sp := fun vs H Q _ => ∃ (c m : Int), vs = [.int c, .int m] ∧ 0 ≤ m ∧ m ≤ 2000 ∧
  ∀ (ns : List Int) p H2, (ns.length : Int) = m → Bd ns → H p = none → Ex H H2 → H2 p = some (.lst (ns.map V.int)) → Q (.ref p) H2
theorem ok_row {f : Addr} {fd : FuncData} (F : Fun K "_law_row" "_law_row" s_law_row f fd) (T : FTxt mg) : FnOk P w K mg base CX0 1 f fd ["cell", "many"] spRow := by
  refine F.ok sc_law_row (fun vs H Q E h => ?_) (fun cdv A outer s H vs Q E hr h => ?_)
  · obtain ⟨c, m, rfl, _⟩ := h
    rfl
  obtain ⟨c, m, rfl, m0, m1, k⟩ := h
  refine ⟨_, (pss_cons (ps_set (i := 2) sc_law_row.nd rfl (Or.inl rfl) (pe_lst pa_nil))
    (pss_cons (ps_set (i := 3) sc_law_row.nd rfl (Or.inl rfl) pe_int)
    (pss_cons (ps_if (pt_cmpR op_ge (pe_callB call_abs (by rfl) T.z_abs (by decide +kernel) (pa_cons (pv 0) pa_nil)) (pe_op op_pow pe_int pe_int) (nomark _))
      (pss_one (ps_set (i := 3) sc_law_row.nd rfl (Or.inl rfl) (pe_callB call_abs (by rfl) T.z_abs (by decide +kernel) (pa_cons (pv 0) pa_nil))))
      pss_nil)
    (pss_cons (ps_set (i := 4) sc_law_row.nd rfl (Or.inl rfl) (pe_op op_mod (pe_callTy call_int1 (by rfl) T.z_int (by decide +kernel) (pa_cons (pe_callB call_abs (by rfl) T.z_abs (by decide +kernel) (pa_cons (pv 0) pa_nil)) pa_nil)) pe_int))
    (pss_cons (ps_for PassesOwn.never rfl (pi_range1 (by rfl) T.z_range (pa_cons (pv 1) pa_nil)) (pg_name (i := 5) sc_law_row.nd rfl (Or.inl rfl))
      (pss_cons (ps_set (i := 4) sc_law_row.nd rfl (Or.inl rfl) (pe_op op_mod (pe_callTy call_int1 (by rfl) T.z_int (by decide +kernel) (pa_cons (pe_op op_add (pe_op op_mul (pe_op op_add (pv 4) pe_int) pe_int) (pe_op op_mul pe_int (pv 5))) pa_nil)) pe_int))
      (pss_one (ps_if (pt_cmpR op_gt (pv 3) pe_int (nomark _))
        (pss_cons (ps_expr (pe_bm PySem.F.plainAttrs_list PySem.F.slot_list_append PySem.F.type_list_append mt_append (pv 2) (pa_cons (pe_op op_mod (pe_callTy call_int1 (by rfl) T.z_int (by decide +kernel) (pa_cons (pv 3) pa_nil)) pe_int) pa_nil)))
        (pss_one (ps_set (i := 3) sc_law_row.nd rfl (Or.inl rfl) (pe_op op_fdiv (pv 3) pe_int))))
        (pss_one (ps_expr (pe_bm PySem.F.plainAttrs_list PySem.F.slot_list_append PySem.F.type_list_append mt_append (pv 2) (pa_cons (pe_op op_mod (pe_callTy call_int1 (by rfl) T.z_int (by decide +kernel) (pa_cons (pe_op op_fdiv (pv 4) pe_int) pa_nil)) pe_int) pa_nil))))))))
    (pss_one (ps_ret (pv 2)))))))), ?_⟩
  refine q_asgL (el_lst ea_nil (by decide)) fun p H1 np e1 h1 => ?_
  refine q_asg ev_c fun H2 e2 => ?_
  refine q_ifAsg (v := .int (if (10 : Int) ^ 18 ≤ (if c < 0 then -c else c) then (if c < 0 then -c else c) else 0)) (b := decide ((10 : Int) ^ 18 ≤ (if c < 0 then -c else c))) (et_is (by walk_at "evs") (by rfl)) (fun hb => ?_) (fun hb => ?_) fun H3 e3 => ?_
  · rw [if_pos (of_decide_eq_true hb)]
    exact ev_is (by walk_at "ev") (by rfl)
  · rw [if_neg (of_decide_eq_false hb)]
    rfl
  generalize (if (10 : Int) ^ 18 ≤ (if c < 0 then -c else c) then (if c < 0 then -c else c) else 0) = r0
  refine q_asg (by walk_at "evs") fun H4 e4 => ?_
  refine q_forR1 (n := m) (by walk_at "ev") (by omega) (fun i σ' H' => ∃ (r st : Int) (y : Option V) (ns : List Int), σ' = [some (.int c), some (.int m), some (.ref p), some (.int r), some (.int st), y] ∧ ns.length = i ∧ Bd ns ∧ Ex H H' ∧ H' p = some (.lst (ns.map V.int)) ∧ 0 ≤ st ∧ st < 2147483647) ?_ ?_ ?_
  · intro H5 e5
    exact ⟨r0, _, none, [], rfl, rfl, Bd.nil, (((e1.trans e2).trans e3).trans e4).trans e5, e5 _ _ (e4 _ _ (e3 _ _ (e2 _ _ h1))), Int.emod_nonneg _ (by decide), Int.emod_lt_of_pos _ (by decide)⟩
  · rintro i σ' H' hi ⟨r, st, y, ns, rfl, hl, hb, ex, hp, s0, s1⟩
    have hn : (ns.map V.int).length < 100000 := by rw [List.length_map]; omega
    refine q_asg (by walk_at "evs") fun H5 e5 => ?_
    generalize hst : ((st + 1) * 48271 + 69621 * (i : Int)) % 2147483647 = st'
    have t0 : 0 ≤ st' := by rw [← hst]; exact Int.emod_nonneg _ (by decide)
    have t1 : st' < 2147483647 := by rw [← hst]; exact Int.emod_lt_of_pos _ (by decide)
    refine s_if (by walk_at "ev") (fun hb1 H6 e6 => ?_) (fun hb1 H6 e6 => ?_)
    · refine q_app (e6 _ _ (e5 _ _ hp)) (by walk_at "ev") (by walk_at "evs") hn fun H7 e7 => ?_
      refine s_asg (by walk_at "evs") fun H8 e8 => ?_
      refine ⟨r / 1009, st', _, ns ++ [r % 1009], rfl, by rw [List.length_append]; exact congrArg (· + 1) hl, hb.snoc (Int.emod_nonneg _ (by decide)) (Int.emod_lt_of_pos _ (by decide)), (Ex.mut (((ex.trans e5).trans e6).trans e7) np).trans e8, ?_, t0, t1⟩
      refine e8 _ _ ?_
      rw [upd_same, map_snoc]
    · refine s_app (e6 _ _ (e5 _ _ hp)) (by walk_at "ev") (by walk_at "evs") hn fun H7 e7 => ?_
      refine ⟨r, st', _, ns ++ [st' / 2048 % 1009], rfl, by rw [List.length_append]; exact congrArg (· + 1) hl, hb.snoc (Int.emod_nonneg _ (by decide)) (Int.emod_lt_of_pos _ (by decide)), Ex.mut (((ex.trans e5).trans e6).trans e7) np, ?_, t0, t1⟩
      rw [upd_same, map_snoc]
  · rintro σ' H' ⟨r, st, y, ns, rfl, hl, hb, ex, hp, s0, s1⟩
    exact s_ret (ev_var rfl) fun H5 e5 => k ns p H5 (by omega) hb np (ex.trans e5) (e5 _ _ hp)
/-! _law_numbers: 0 script, 1 many, 2 cells, 3 each, 4 numbers, 5 cell, 6 number -/
abbrev s_law_numbers : Stmt := topS 39
theorem sc_law_numbers : FnScope ["script", "many", "cells", "each", "numbers", "cell", "number"] ["script", "many"] (defScope s_law_numbers) := ⟨rfl, rfl, rfl, by decide +kernel, rfl, by decide +kernel, by decide +kernel⟩
def spNumbers (K : PySem.W.Frag) : Sp := fun vs H Q _ => ∃ (a : Addr) (cs : List Int) (m : Int), vs = [.ref a, .int m] ∧ SqL K H a (cs.map V.int) ∧ 0 ≤ m ∧ m ≤ 500 ∧
  ∀ (ns : List Int) p H2, (ns.length : Int) = m → Bd ns → H p = none → Ex H H2 → H2 p = some (.lst (ns.map V.int)) → Q (.ref p) H2
theorem ok_numbers {f : Addr} {fd : FuncData} (F : Fun K "_law_numbers" "_law_numbers" s_law_numbers f fd) (T : FTxt mg) (D_law_row : Dk P w K mg base CX0 1 "_law_row" ["cell", "many"] spRow) : FnOk P w K mg base CX0 2 f fd ["script", "many"] (spNumbers K) := by
  refine F.ok sc_law_numbers (fun vs H Q E h => ?_) (fun cdv A outer s H vs Q E hr h => ?_)
  · obtain ⟨a, cs, m, rfl, _⟩ := h
    rfl
  obtain ⟨a, cs, m, rfl, hS, m0, m1, k⟩ := h
  refine ⟨_, (pss_cons (ps_set (i := 2) sc_law_numbers.nd rfl (Or.inl rfl) (pe_slice sl_list (pv 0) po_none (po_some pe_int)))
    (pss_cons (ps_set (i := 3) sc_law_numbers.nd rfl (Or.inl rfl) (pe_op op_add pe_int (pe_op op_fdiv (pv 1) (pe_callB (call_max2 rfl) (by rfl) T.z_max (by decide +kernel) (pa_cons pe_int (pa_cons (pe_callB call_len_seq (by rfl) T.z_len PySem.boot_len (pa_cons (pv 2) pa_nil)) pa_nil))))))
    (pss_cons (ps_set (i := 4) sc_law_numbers.nd rfl (Or.inl rfl) (pe_lst pa_nil))
    (pss_cons (ps_for PassesOwn.never rfl (pi_list (pv 2)) (pg_name (i := 5) sc_law_numbers.nd rfl (Or.inl rfl))
      (pss_one (ps_for PassesOwn.never rfl (pi_list (pe_cd D_law_row hr (by rfl) (pa_cons (pv 5) (pa_cons (pv 3) pa_nil)))) (pg_name (i := 6) sc_law_numbers.nd rfl (Or.inl rfl))
        (pss_one (ps_expr (pe_bm PySem.F.plainAttrs_list PySem.F.slot_list_append PySem.F.type_list_append mt_append (pv 4) (pa_cons (pv 6) pa_nil)))))))
    (pss_cons (ps_while PassesOwn.never (pt_cmpR op_lt (pe_callB call_len_seq (by rfl) T.z_len PySem.boot_len (pa_cons (pv 4) pa_nil)) (pv 1) (nomark _))
      (pss_one (ps_expr (pe_bm PySem.F.plainAttrs_list PySem.F.slot_list_append PySem.F.type_list_append mt_append (pv 4) (pa_cons pe_int pa_nil)))))
    (pss_one (ps_ret (pe_slice sl_list (pv 4) po_none (po_some (pv 1)))))))))), ?_⟩
  refine q_asgL (el_sl (ev_var rfl) eo_none (eo_some ev_c) hS) fun c H1 nc e1 h1 => ?_
  rw [show cutV (cs.map V.int) none (some 63) = (cs.take 63).map V.int from by rw [List.map_take]; exact cut_pre _ 63] at h1
  have hL : ((cs.take 63).map V.int).length ≤ 63 := by rw [List.length_map, List.length_take]; omega
  generalize cs.take 63 = ds at h1 hL
  rw [List.length_map] at hL
  have hmx : ∀ z : Int, z = (if (((ds.map V.int).length : Nat) : Int) > 1 then (((ds.map V.int).length : Nat) : Int) else 1) → 1 ≤ z ∧ z ≤ 63 := by
    intro z hz
    rw [List.length_map] at hz
    split at hz <;> omega
  refine q_asg (by
    refine ev_op ev_c (ev_op (ev_var rfl) (ev_cb (ea_cons ev_c (ea_cons (ev_cb (ea_cons (ev_var rfl) ea_nil) (rc_len (sq_of h1))) ea_nil)) rc_max2) (rv_I ?_)) rv_I0
    have q := hmx _ rfl
    exact ⟨by omega, by omega⟩) fun H2 e2 => ?_
  generalize hz : (if (((ds.map V.int).length : Nat) : Int) > 1 then (((ds.map V.int).length : Nat) : Int) else 1) = z
  obtain ⟨z0, z1⟩ := hmx z hz.symm
  have hd0 : 0 ≤ m / z := Int.ediv_nonneg m0 (by omega)
  have hd1 : m / z ≤ m := Int.ediv_le_self z m0
  refine q_asgL (el_lst ea_nil (by decide)) fun p H3 np e3 h3 => ?_
  have npH : H p = none := fresh_back (e1.trans e2) np
  have e13 : Ex H H3 := (e1.trans e2).trans e3
  have hc3 : H3 c = some (.lst (ds.map V.int)) := e3 _ _ (e2 _ _ h1)
  have npc : ¬ p = c := fun q => by
    rw [q, e2 _ _ h1] at np
    cases np
  refine q_forLn (a := c) (xs := ds.map V.int) (ev_var rfl) (sq_of hc3) (fun i σ' H' => ∃ (y5 y6 : Option V) (ns : List Int), σ' = [some (.ref a), some (.int m), some (.ref c), some (.int (1 + m / z)), some (.ref p), y5, y6] ∧ ns.length ≤ i * 600 ∧ Bd ns ∧ Ex H H' ∧ H' c = some (.lst (ds.map V.int)) ∧ H' p = some (.lst (ns.map V.int))) ?_ ?_ ?_ ?_
  · intro H4 e4
    exact ⟨none, none, [], rfl, Nat.zero_le _, Bd.nil, e13.trans e4, e4 _ _ hc3, e4 _ _ h3⟩
  · rintro i σ' H' _ ⟨_, _, _, _, _, _, _, hc, _⟩
    exact sq_of hc
  · rintro i x σ' H' hi ⟨y5, y6, ns, rfl, hl, hb, ex, hc, hp⟩
    obtain ⟨u, rfl⟩ : ∃ u, x = V.int u := by
      rw [List.getElem?_map] at hi
      cases e : ds[i]? with
      | none => rw [e] at hi; cases hi
      | some u => rw [e] at hi; exact ⟨u, (Option.some.inj hi).symm⟩
    have hi63 : i < 63 := by
      have q := (List.getElem?_eq_some_iff.mp hi).1
      rw [List.length_map] at q
      omega
    refine s_forC (by walk_at "ev") fun H4 e4 => ?_
    refine ⟨u, 1 + m / z, rfl, by omega, by omega, fun rs r H5 hrl hrb hr0 e5 hr => ?_⟩
    have hrp : ¬ p = r := fun q => by
      rw [← q, e4 _ _ hp] at hr0
      cases hr0
    have hrH : H r = none := fresh_back (ex.trans e4) hr0
    refine ⟨r, rfl, ⟨_, sq_of hr⟩, for_list (xs := rs.map V.int) (fun j σ' H' => ∃ (y6 : Option V) (ns : List Int), σ' = [some (.ref a), some (.int m), some (.ref c), some (.int (1 + m / z)), some (.ref p), some (.int u), y6] ∧ ns.length ≤ i * 600 + j ∧ Bd ns ∧ Ex H H' ∧ H' c = some (.lst (ds.map V.int)) ∧ H' p = some (.lst (ns.map V.int)) ∧ H' r = some (.lst (rs.map V.int))) ?_ ?_ ?_ ?_⟩
    · exact ⟨y6, ns, rfl, hl, hb, (ex.trans e4).trans e5, e5 _ _ (e4 _ _ hc), e5 _ _ (e4 _ _ hp), hr⟩
    · rintro j σ' H' _ ⟨_, _, _, _, _, _, _, _, hr⟩
      exact sq_of hr
    · rintro j x σ' H' hj ⟨y6, ns, rfl, hl, hb, ex, hc, hp, hr⟩
      have hjm : x ∈ rs.map V.int := List.mem_of_getElem? hj
      have hj600 : j < 600 := by
        have q := (List.getElem?_eq_some_iff.mp hj).1
        rw [List.length_map] at q
        omega
      obtain ⟨v, hv, rfl⟩ := List.mem_map.mp hjm
      have hn : (ns.map V.int).length < 100000 := by rw [List.length_map]; omega
      refine s_app hp (by walk_at "ev") (by walk_at "ev") hn fun H7 e7 => ?_
      refine ⟨_, ns ++ [v], rfl, by rw [List.length_append, List.length_singleton]; omega, hb.snoc (hrb v hv).1 (hrb v hv).2, Ex.mut (ex.trans e7) npH, ?_, ?_, ?_⟩
      · rw [upd_ne (Ne.symm npc)]
        exact e7 _ _ hc
      · rw [upd_same, map_snoc]
      · rw [upd_ne (Ne.symm hrp)]
        exact e7 _ _ hr
    · rintro σ' H' ⟨y6, ns, rfl, hl, hb, ex, hc, hp, hr⟩
      refine ⟨_, _, ns, rfl, ?_, hb, ex, hc, hp⟩
      rw [List.length_map] at hl
      omega
  · rintro σ' H' ⟨y5, y6, ns, rfl, hl, hb, ex, hc, hp⟩
    have hl' : ns.length ≤ 63 * 600 := by
      rw [List.length_map] at hl
      have : ds.length * 600 ≤ 63 * 600 := Nat.mul_le_mul_right _ hL
      omega
    refine q_while (fun n σ' H' => ∃ (ns : List Int), σ' = [some (.ref a), some (.int m), some (.ref c), some (.int (1 + m / z)), some (.ref p), y5, y6] ∧ n = m.toNat - ns.length ∧ ns.length ≤ 40000 ∧ Bd ns ∧ Ex H H' ∧ H' p = some (.lst (ns.map V.int))) (m.toNat - ns.length) ⟨ns, rfl, rfl, by omega, hb, ex, hp⟩ ?_
    rintro n σ' H' ⟨ns, rfl, rfl, hl, hb, ex, hp⟩
    have hn : (ns.map V.int).length < 100000 := by rw [List.length_map]; omega
    refine ⟨decide (((ns.map V.int).length : Int) < m), by walk_at "ev", fun hlt H4 e4 => ?_, fun hge H4 e4 => ?_⟩
    · have hlt := of_decide_eq_true hlt
      rw [List.length_map] at hlt
      refine ⟨fun σ2 H2 => ∃ m', m' < m.toNat - ns.length ∧ (∃ (ns : List Int), σ2 = [some (.ref a), some (.int m), some (.ref c), some (.int (1 + m / z)), some (.ref p), y5, y6] ∧ m' = m.toNat - ns.length ∧ ns.length ≤ 40000 ∧ Bd ns ∧ Ex H H2 ∧ H2 p = some (.lst (ns.map V.int))), fun _ _ h => h, ?_⟩
      refine s_app (e4 _ _ hp) (by walk_at "ev") (by walk_at "ev") hn fun H7 e7 => ?_
      refine ⟨m.toNat - (ns.length + 1), by omega, ns ++ [0], rfl, by rw [List.length_append]; rfl, by rw [List.length_append, List.length_singleton]; omega, hb.snoc (by decide) (by decide), Ex.mut ((ex.trans e4).trans e7) npH, ?_⟩
      rw [upd_same, map_snoc]
    · have hge := of_decide_eq_false hge
      rw [List.length_map] at hge
      refine s_retL (el_sl (ev_var rfl) eo_none (eo_some (ev_var rfl)) (sq_of (e4 _ _ hp))) fun q H5 nq e5 h5 => ?_
      refine k (ns.take m.toNat) q H5 (by rw [List.length_take]; omega) (hb.take _) (fresh_back (ex.trans e4) nq) ((ex.trans e4).trans e5) ?_
      rw [h5, List.map_take, ← cut_pre, Int.toNat_of_nonneg m0]
end
end My
set_option Elab.async false
set_option linter.all false
set_option maxRecDepth 100000
set_option maxHeartbeats 1000000
namespace My
open PySem L2 Evl GxR MyG
local macro_rules | `(tactic| walk_at "ev") => `(tactic| repeat' (first
  | exact ev_c
  | exact ev_var rfl
  | exact ea_nil
  | exact eo_none
  | (refine' ev_cb ?ea (rc_len ?sq); (case ea => walk_at "evs"); (case sq => walk_at "sq"))
  | (refine' ev_op ?a ?b (rv_ixL ?sq ?ix); (case a => walk_at "evs"); (case b => walk_at "evs"); (case sq => walk_at "sq"); (case ix => walk_at "at"))
  | refine' ea_cons ?_ ?_
  | refine' eo_some ?_
  | refine' ev_op ?_ ?_ rv_I0
  | refine' ev_op ?_ ?_ (rv_eq ?_)
  | refine' ev_op ?_ ?_ (rv_ne ?_)
  | refine' ev_op ?_ ?_ (rv_I ?_)
  | refine' ev_un ?_ ru_neg
  | refine' ev_cb ?_ rc_int
  | refine' ev_cb ?_ rc_abs
  | refine' ev_cb ?_ rc_max2
  | refine' ev_andV ?_ ?_
  | refine' ev_notV ?_
  | refine' et_test ?_
  | refine' et_B ?_
  | refine' et_not ?_))
local macro_rules | `(tactic| walk_at "side") => `(tactic| first
  | rfl
  | decide
  | exact ⟨by decide, by decide⟩
  | exact .inr ⟨by decide, by decide⟩
  | exact .inl ⟨by decide, by decide⟩
  | omega
  | exact .inl ⟨by omega, by omega⟩
  | exact ⟨by omega, by omega⟩
  | exact .inr ⟨by omega, by omega⟩)
local macro_rules | `(tactic| walk_at "evs") => `(tactic| (walk_at "ev"; all_goals (walk_at "side")))
local macro_rules | `(tactic| walk_at "ex") => `(tactic| first
  | with_reducible exact Ex.refl _
  | with_reducible assumption
  | (refine' Ex.trans ?_ ?b; (case b => with_reducible assumption); walk_at "ex"))
local macro_rules | `(tactic| walk_at "sq") => `(tactic| first
  | (refine' sq_ex ?h ?e; (case h => with_reducible assumption); (case e => walk_at "ex"))
  | (refine' ex_l ?e ?h; (case h => with_reducible assumption); (case e => walk_at "ex"))
  | (refine' ex_l ?e ?h; (case h => assumption); (case e => walk_at "ex"))
  | assumption
  | exact sq_of (by assumption))
local macro_rules | `(tactic| walk_at "at") => `(tactic| first
  | exact at_int (by omega) (by omega)
  | exact atI_nat (j := 0) rfl
  | exact atI_nat (j := 1) rfl
  | exact atI_nat (j := 2) rfl)
local macro_rules | `(tactic| walk_at "side2") => `(tactic| first | exact CMul_bdl (by assumption) | exact CMul_bdr (by assumption) | walk_at "side")
local macro_rules | `(tactic| walk_at "evb") => `(tactic| (walk_at "ev"; all_goals (walk_at "side2")))

section
variable {P : Program} {w : World} {K : PySem.W.Frag} {mg : Str → Option Value} {base : Heap}
def spLDigs : Sp := fun vs H Q _ => ∃ (b a : Int) (m : Nat), vs = [.int b, .int (m : Int), .int a] ∧ 0 < b ∧ b ≤ 1000 ∧ m ≤ 1000 ∧ RetL ((digs b m a).map V.int) H Q
def spLElem (K : PySem.W.Frag) : Sp := fun vs H Q _ => ∃ (a : Addr) (ds : List Int) (b : Int), vs = [.int b, .ref a] ∧ SqL K H a (ds.map V.int) ∧ 0 ≤ b ∧ b ≤ 1000 ∧ ds.length ≤ 1000 ∧ RetV (.int (numOf b ds)) H Q
end
end My
set_option Elab.async false
set_option linter.all false
set_option maxRecDepth 100000
set_option maxHeartbeats 1000000
namespace My
open PySem L2 Evl GxR MyG
local macro_rules | `(tactic| walk_at "ev") => `(tactic| repeat' (first
  | exact ev_c
  | exact ev_var rfl
  | exact ea_nil
  | exact eo_none
  | (refine' ev_cb ?ea (rc_len ?sq); (case ea => walk_at "evs"); (case sq => walk_at "sq"))
  | (refine' ev_op ?a ?b (rv_ixL ?sq ?ix); (case a => walk_at "evs"); (case b => walk_at "evs"); (case sq => walk_at "sq"); (case ix => walk_at "at"))
  | refine' ea_cons ?_ ?_
  | refine' eo_some ?_
  | refine' ev_op ?_ ?_ rv_I0
  | refine' ev_op ?_ ?_ (rv_eq ?_)
  | refine' ev_op ?_ ?_ (rv_ne ?_)
  | refine' ev_op ?_ ?_ (rv_I ?_)
  | refine' ev_un ?_ ru_neg
  | refine' ev_cb ?_ rc_int
  | refine' ev_cb ?_ rc_abs
  | refine' ev_cb ?_ rc_max2
  | refine' ev_andV ?_ ?_
  | refine' ev_notV ?_
  | refine' et_test ?_
  | refine' et_B ?_
  | refine' et_not ?_))
local macro_rules | `(tactic| walk_at "side") => `(tactic| first
  | rfl
  | decide
  | exact ⟨by decide, by decide⟩
  | exact .inr ⟨by decide, by decide⟩
  | exact .inl ⟨by decide, by decide⟩
  | omega
  | exact .inl ⟨by omega, by omega⟩
  | exact ⟨by omega, by omega⟩
  | exact .inr ⟨by omega, by omega⟩)
local macro_rules | `(tactic| walk_at "evs") => `(tactic| (walk_at "ev"; all_goals (walk_at "side")))
local macro_rules | `(tactic| walk_at "ex") => `(tactic| first
  | with_reducible exact Ex.refl _
  | with_reducible assumption
  | (refine' Ex.trans ?_ ?b; (case b => with_reducible assumption); walk_at "ex"))
local macro_rules | `(tactic| walk_at "sq") => `(tactic| first
  | (refine' sq_ex ?h ?e; (case h => with_reducible assumption); (case e => walk_at "ex"))
  | (refine' ex_l ?e ?h; (case h => with_reducible assumption); (case e => walk_at "ex"))
  | (refine' ex_l ?e ?h; (case h => assumption); (case e => walk_at "ex"))
  | assumption
  | exact sq_of (by assumption))
local macro_rules | `(tactic| walk_at "at") => `(tactic| first
  | exact at_int (by omega) (by omega)
  | exact atI_nat (j := 0) rfl
  | exact atI_nat (j := 1) rfl
  | exact atI_nat (j := 2) rfl)
local macro_rules | `(tactic| walk_at "side2") => `(tactic| first | exact CMul_bdl (by assumption) | exact CMul_bdr (by assumption) | walk_at "side")
local macro_rules | `(tactic| walk_at "evb") => `(tactic| (walk_at "ev"; all_goals (walk_at "side2")))

theorem ix_tupK {X : Cx} {K : PySem.W.Frag} (h : X.K = K) : IxR X (rIxT K) := h ▸ ix_tup
theorem digs_bdB {b : Int} (hb : 0 < b) : ∀ (m : Nat) (n : Int), ∀ x ∈ digs b m n, 0 ≤ x ∧ x < b
  | 0, _, x, h => by cases h
  | m + 1, n, x, h => by
    rcases List.mem_cons.mp (show x ∈ n % b :: digs b m (n / b) from h) with rfl | h
    · exact ⟨Int.emod_nonneg _ (by omega), Int.emod_lt_of_pos _ hb⟩
    · exact digs_bdB hb m (n / b) x h
theorem getD_bd {b : Int} (hb : 0 < b) {l : List Int} (h : ∀ x ∈ l, 0 ≤ x ∧ x < b) (j : Nat) : 0 ≤ l.getD j 0 ∧ l.getD j 0 < b := by
  rw [List.getD_eq_getElem?_getD]
  cases e : l[j]? with
  | none => exact ⟨by decide, hb⟩
  | some z => exact h z (List.mem_of_getElem? e)
theorem el_zeros {σ : L2.St} {H : Hp} {j n : Nat} (hj : σ[j]? = some (some (.int (n : Int)))) (hn : n ≤ 40000) : EvL (tOp rRep (tLst (tCons (tC (.int 0)) tNil)) (tVar j)) σ H ((List.replicate n (0 : Int)).map V.int) := by
  intro H1 e Q q
  refine ⟨by show 1 ≤ sizeLine; exact sz_of (by decide), fun r nr => ⟨_, hj, r, (n : Int), _, rfl, rfl, upd_same, by omega, by omega, ?_, fun r2 nr2 => ?_⟩⟩
  · show 1 * (n : Int).toNat ≤ sizeLine
    exact sz_of (by omega)
  rw [show ((n : Int).toNat) = n by omega, fold_zeros]
  exact q r2 _ (fresh_back (Ex.new nr) nr2) ((Ex.new nr).trans (Ex.new nr2)) upd_same
section
variable {P : Program} {w : World} {K : PySem.W.Frag} {mg : Str → Option Value} {base : Heap}
def spLTimes (K : PySem.W.Frag) : Sp := fun vs H Q _ => ∃ (p : Int) (c : Addr) (m : List Int) (d : Nat) (a b : Int), vs = [.int p, .ref c, .int a, .int b] ∧ SqT K H c (m.map V.int) ∧ m.length = d + 1 ∧ 1 ≤ d ∧ d ≤ 100 ∧ 0 < p ∧ p ≤ 100 ∧ (∀ x ∈ m, 0 ≤ x ∧ x < p) ∧ RetV (.int (lawTimes p m d a b)) H Q
end
end My
set_option Elab.async false
set_option linter.all false
set_option maxRecDepth 100000
set_option maxHeartbeats 1000000
namespace MyS
open PySem PySem.Spec PyProof.Rows L2
/-- xs[a:c] = ys, where ys is another list -/
def gSlc (to : TE) (tl th : TO) : TG := fun v σ H Q => to σ H fun x H1 => tl σ H1 fun lo H2 => th σ H2 fun hi H3 => ∃ (l b : Addr) (xs ys : List V) (i j : Int), x = .ref l ∧ v = .ref b ∧ lo = some i ∧ hi = some j ∧
  H3 l = some (.lst xs) ∧ H3 b = some (.lst ys) ∧ l ≠ b ∧ 0 ≤ i ∧ i ≤ j ∧ j ≤ xs.length ∧ xs.length + ys.length ≤ sizeLine ∧ Q σ (upd H3 l (.lst (xs.take i.toNat ++ ys ++ xs.drop j.toNat)))
theorem pg_slc {X : Cx} {o : Expr} {lo hi : Option Expr} {pos p2 : Pos} {to : TE} {tl th : TO} (ho : PE X o to) (hl : PO X lo tl) (hh : PO X hi th)
    (ha : ∀ v, assign (.Subscript o (.Slice lo hi none p2) pos) X.env v = (do
      let ov ← holding [v] (eval o X.env)
      let iv ← holding [v, ov] (eval (.Slice lo hi none p2) X.env)
      standAt pos
      holding [v, ov, iv] (setItem ov iv v)
      release [iv, v, ov] []) := by intro _; rfl) : PG X (.Subscript o (.Slice lo hi none p2) pos) (gSlc to tl th) := by
  refine ⟨?_⟩
  intro pins s σ H v u Q I r h
  rw [ha]
  refine wpAny_bind (wpAny_holding (thn (ho.run pins s σ H _ I h) ?_))
  rintro ov s1 ⟨x, H1, I1, r1, h1⟩
  refine wpAny_bind (wpAny_holding ?_)
  refine wpAny_Slice (thn (hl.run pins s1 σ H1 _ I1 h1) ?_)
  rintro vl s2 ⟨a, H2, I2, pl, h2⟩
  refine thn (hh.run pins s2 σ H2 _ I2 h2) ?_
  rintro vu s3 ⟨c, H3, I3, pu, h3⟩
  rw [evalPart_none]
  refine wpAny_pure ?_
  obtain ⟨l, b, xs, ys, i, j, ex, ev, ea, ec, hL, hB, hne, h0, hij, hj, hz, q⟩ := h3
  subst ex ev ea ec
  obtain rfl : ov = Value.ref l := r1
  obtain rfl : u = Value.ref b := r
  have I4 : Inv X pins σ H3 { s3 with heap := s3.heap.push { cls := .type "slice", data := .fields #[vl, vu, .none] } } := I3.kept (t' := s3.toks) fun _ _ z => Heap.get?_push_of_some _ z
  refine wpAny_bind (wpAny_standAt (wpAny_bind (wpAny_holding ?_)))
  refine set_slice (sl := s3.heap.objs.size) (vl := vl) (vu := vu) I4 hL hB hne (Heap.IsSliceOf.new ..) ?ra ?rc h0 hij hj hz ?_
  case ra => cases pl; exact ⟨_, rfl⟩
  case rc => cases pu; exact ⟨_, rfl⟩
  intro s' J
  exact wpAny_release ⟨σ, _, J, q⟩
end MyS
set_option Elab.async false
set_option linter.all false
set_option maxRecDepth 100000
set_option maxHeartbeats 1000000
namespace My
open PySem L2 Evl GxR MyG MyS
local macro_rules | `(tactic| walk_at "ev") => `(tactic| repeat' (first
  | exact ev_c
  | exact ev_var rfl
  | exact ea_nil
  | exact eo_none
  | (refine' ev_cb ?ea (rc_len ?sq); (case ea => walk_at "evs"); (case sq => walk_at "sq"))
  | (refine' ev_op ?a ?b (rv_ixL ?sq ?ix); (case a => walk_at "evs"); (case b => walk_at "evs"); (case sq => walk_at "sq"); (case ix => walk_at "at"))
  | refine' ea_cons ?_ ?_
  | refine' eo_some ?_
  | refine' ev_op ?_ ?_ rv_I0
  | refine' ev_op ?_ ?_ (rv_eq ?_)
  | refine' ev_op ?_ ?_ (rv_ne ?_)
  | refine' ev_op ?_ ?_ (rv_I ?_)
  | refine' ev_un ?_ ru_neg
  | refine' ev_cb ?_ rc_int
  | refine' ev_cb ?_ rc_abs
  | refine' ev_cb ?_ rc_max2
  | refine' ev_andV ?_ ?_
  | refine' ev_notV ?_
  | refine' et_test ?_
  | refine' et_B ?_
  | refine' et_not ?_))
local macro_rules | `(tactic| walk_at "side") => `(tactic| first
  | rfl
  | decide
  | exact ⟨by decide, by decide⟩
  | exact .inr ⟨by decide, by decide⟩
  | exact .inl ⟨by decide, by decide⟩
  | omega
  | exact .inl ⟨by omega, by omega⟩
  | exact ⟨by omega, by omega⟩
  | exact .inr ⟨by omega, by omega⟩)
local macro_rules | `(tactic| walk_at "evs") => `(tactic| (walk_at "ev"; all_goals (walk_at "side")))
local macro_rules | `(tactic| walk_at "ex") => `(tactic| first
  | with_reducible exact Ex.refl _
  | with_reducible assumption
  | (refine' Ex.trans ?_ ?b; (case b => with_reducible assumption); walk_at "ex"))
local macro_rules | `(tactic| walk_at "sq") => `(tactic| first
  | (refine' sq_ex ?h ?e; (case h => with_reducible assumption); (case e => walk_at "ex"))
  | (refine' ex_l ?e ?h; (case h => with_reducible assumption); (case e => walk_at "ex"))
  | (refine' ex_l ?e ?h; (case h => assumption); (case e => walk_at "ex"))
  | assumption
  | exact sq_of (by assumption))
local macro_rules | `(tactic| walk_at "at") => `(tactic| first
  | exact at_int (by omega) (by omega)
  | exact atI_nat (j := 0) rfl
  | exact atI_nat (j := 1) rfl
  | exact atI_nat (j := 2) rfl)
local macro_rules | `(tactic| walk_at "side2") => `(tactic| first | exact CMul_bdl (by assumption) | exact CMul_bdr (by assumption) | walk_at "side")
local macro_rules | `(tactic| walk_at "evb") => `(tactic| (walk_at "ev"; all_goals (walk_at "side2")))

section
variable {K : PySem.W.Frag} {σ : L2.St} {H : Hp} {D : Ends} {tz tu : TS} {ta : TA} {te tn tb : TE} {g : TG}
theorem el_callN {sp : Sp} {E : XK} {xs ys : List V} (h : EvL te σ H xs) (hs : ∀ p H1, Ex H H1 → H1 p = some (.lst xs) → SpL sp [.ref p] H1 ys) : EvL (tCall sp [] E (tCons te tNil)) σ H ys := fun H1 e Q q =>
  h H1 e _ fun p H2 np e2 h2 => by
    show sp ([V.ref p] ++ []) H2 Q E
    rw [List.append_nil]
    exact hs p H2 (e.trans e2) h2 H2 (Ex.refl _) Q (fun p' H3 np' e3 h3 => q p' H3 (fresh_back e2 np') (e2.trans e3) h3) E
theorem el_zerosE {n : Nat} (hn : Ev tn σ H (.int (n : Int))) (hz : n ≤ 40000) : EvL (tOp rRep (tLst (tCons (tC (.int 0)) tNil)) tn) σ H ((List.replicate n (0 : Int)).map V.int) := by
  intro H1 e Q q
  refine ⟨by show 1 ≤ sizeLine; exact sz_of (by decide), fun r nr => ?_⟩
  refine hn _ (e.trans (Ex.new nr)) _ fun H2 e2 => ?_
  refine ⟨r, (n : Int), _, rfl, rfl, e2 _ _ upd_same, by omega, by omega, ?_, fun r2 nr2 => ?_⟩
  · show 1 * (n : Int).toNat ≤ sizeLine
    exact sz_of (by omega)
  rw [show ((n : Int).toNat) = n by omega, fold_zeros]
  exact q r2 _ (fresh_back ((Ex.new nr).trans e2) nr2) (((Ex.new nr).trans e2).trans (Ex.new nr2)) upd_same
theorem q_forE {a : Addr} {xs : List V} (h : EvA ta σ H [.ref a]) (hx : SqL K H a xs) (Pv : Nat → L2.St → Hp → Prop) (h0 : ∀ H1, Ex H H1 → Pv 0 σ H1) (hl : ∀ i σ' H', i ≤ xs.length → Pv i σ' H' → SqL K H' a xs)
    (hs : ∀ i y σ' H' T, xs[i]? = some y → Pv i σ' H' → H' T = none → g (.ref T) σ' (upd H' T (.tup [.int (i : Int), y])) fun σ2 H2 => tu { D with nx := Pv (i + 1), ct := Pv (i + 1), bk := tz D } σ2 H2) (hd : ∀ σ' H', Pv xs.length σ' H' → tz D σ' H') : tSeq (tFor (iEnum K ta) g tu) tz D σ H :=
  h H (Ex.refl H) _ fun H1 e1 => ⟨a, _, rfl, ex_l e1 hx, for_it (walk_enum (xs := xs)) Pv (h0 H1 e1) hl (fun i x σ' H' H'' hi p y => by
    obtain ⟨T, x1, y1, rfl, hT, rfl, hx1, hy1⟩ := y
    have : x1 = .int (i : Int) := (Option.some.inj hx1).symm
    subst this
    exact hs i y1 σ' H' T hy1 p hT) hd⟩
theorem cut_mid (xs : List V) {i j : Nat} (hij : i ≤ j) (hj : j ≤ xs.length) : cutV xs (some (i : Int)) (some (j : Int)) = (xs.drop i).take (j - i) := by
  unfold cutV
  rw [HT.sIx_nat, HT.sIx_nat, Nat.min_eq_left hj, Nat.min_eq_left (show i ≤ xs.length by omega)]
theorem cut_from (xs : List V) {i : Nat} (hi : i ≤ xs.length) : cutV xs (some (i : Int)) none = xs.drop i := by
  unfold cutV
  rw [HT.sIx_nat, HT.sIx_none, Nat.min_eq_left hi, List.take_of_length_le (by rw [List.length_drop]; omega)]
end
section
variable {f : FPar}
/-- xs filled up with zeros -/
def padL (xs : List (Fe f)) (n : Nat) : List (Fe f) := xs ++ List.replicate (n - xs.length) 0
theorem cf_pad (xs : List (Fe f)) (n i : Nat) : cf (padL xs n) i = cf xs i := by
  unfold padL cf
  by_cases h : i < xs.length
  · rw [getD_app_l h]
  · rw [getD_app_r (by omega), List.getD_eq_getElem?_getD, List.getElem?_replicate, List.getD_eq_getElem?_getD, List.getElem?_eq_none (by omega)]
    split <;> rfl
theorem pad_len (xs : List (Fe f)) {n : Nat} (h : xs.length ≤ n) : (padL xs n).length = n := by
  unfold padL
  rw [List.length_append, List.length_replicate]
  omega
theorem pad_fv (xs : List (Fe f)) (n : Nat) : xs.map fv ++ (List.replicate (n - xs.length) (0 : Int)).map V.int = (padL xs n).map fv := by
  unfold padL
  rw [List.map_append, List.map_replicate, List.map_replicate, fv_zero]
/-- a + c b -/
def addL (a : List (Fe f)) (c : Fe f) (b : List (Fe f)) : List (Fe f) := zipM (padL a (max a.length b.length)) c (padL b (max a.length b.length))
theorem cf_addL (a : List (Fe f)) (c : Fe f) (b : List (Fe f)) (i : Nat) : cf (addL a c b) i = cf a i + c * cf b i := by
  unfold addL zipM
  rw [pad_len a (Nat.le_max_left _ _), pad_len b (Nat.le_max_right _ _), Nat.min_self, cf_range, cf_pad, cf_pad]
  by_cases h : i < max a.length b.length
  · rw [if_pos h]
  · rw [if_neg h, cf_out (xs := a) (by omega), cf_out (xs := b) (by omega)]
    grind
theorem addL_len (a : List (Fe f)) (c : Fe f) (b : List (Fe f)) : (addL a c b).length = max a.length b.length := by
  unfold addL zipM
  rw [List.length_map, List.length_range, pad_len a (Nat.le_max_left _ _), pad_len b (Nat.le_max_right _ _), Nat.min_self]
def convL (a b : List (Fe f)) (i : Nat) : List (Fe f) := (List.range (a.length + b.length)).map (conv (cf a) (cf b) i)
def mulL (a b : List (Fe f)) : List (Fe f) := convL a b a.length
theorem conv_out {a b : List (Fe f)} {k : Nat} (h : a.length + b.length ≤ k) : ∀ n, n ≤ a.length → conv (cf a) (cf b) n k = 0
  | 0, _ => rfl
  | n + 1, hn => by
    show conv (cf a) (cf b) n k + cf a n * sh n (cf b) k = 0
    have : sh n (cf b) k = 0 := by
      unfold sh
      rw [if_neg (by omega), cf_out (by omega)]
    rw [conv_out h n (by omega), this]
    grind
theorem cf_mulL (a b : List (Fe f)) (k : Nat) : cf (mulL a b) k = conv (cf a) (cf b) a.length k := by
  unfold mulL convL
  rw [cf_range]
  by_cases h : k < a.length + b.length
  · rw [if_pos h]
  · rw [if_neg h, conv_out (by omega) _ (Nat.le_refl _)]
theorem conv_step (a b : List (Fe f)) {i : Nat} (hi : i < a.length) : (convL a b i).take i ++ zipM (((convL a b i).drop i).take b.length) (cf a i) b ++ (convL a b i).drop (i + b.length) = convL a b (i + 1) := by
  have l0 : (convL a b i).length = a.length + b.length := by unfold convL; rw [List.length_map, List.length_range]
  have l1 : (convL a b (i + 1)).length = a.length + b.length := by unfold convL; rw [List.length_map, List.length_range]
  have ld : (((convL a b i).drop i).take b.length).length = b.length := by rw [List.length_take, List.length_drop, l0]; omega
  have lz : (zipM (((convL a b i).drop i).take b.length) (cf a i) b).length = b.length := by unfold zipM; rw [List.length_map, List.length_range, ld, Nat.min_self]
  have lt : ((convL a b i).take i).length = i := by rw [List.length_take, l0]; omega
  have cc : ∀ n k, cf (convL a b n) k = if k < a.length + b.length then conv (cf a) (cf b) n k else 0 := fun n k => cf_range _
  obtain ⟨Z, hZ⟩ : ∃ Z, Z = zipM (((convL a b i).drop i).take b.length) (cf a i) b := ⟨_, rfl⟩
  rw [← hZ] at lz ⊢
  refine cf_ext (by rw [List.length_append, List.length_append, lt, lz, List.length_drop, l0, l1]; omega) fun k hk => ?_
  rw [List.length_append, List.length_append, lt, lz, List.length_drop, l0] at hk
  have hk2 : k < a.length + b.length := by omega
  rw [cc, if_pos hk2]
  show _ = conv (cf a) (cf b) i k + cf a i * sh i (cf b) k
  by_cases h1 : k < i
  · have e1 : cf ((convL a b i).take i ++ Z ++ (convL a b i).drop (i + b.length)) k = cf ((convL a b i).take i) k := by
      unfold cf
      rw [getD_app_l (by rw [List.length_append, lt]; omega), getD_app_l (by rw [lt]; exact h1)]
    rw [e1, cf_take, if_pos h1, cc, if_pos hk2]
    unfold sh
    rw [if_pos h1]
    grind
  · by_cases h2 : k < i + b.length
    · have e1 : cf ((convL a b i).take i ++ Z ++ (convL a b i).drop (i + b.length)) k = cf (Z) (k - i) := by
        unfold cf
        rw [getD_app_l (by rw [List.length_append, lt, lz]; omega), getD_app_r (by rw [lt]; omega), lt]
      have e2 : cf (((convL a b i).drop i).take b.length) (k - i) = cf (convL a b i) k := by
        rw [cf_take, if_pos (by omega)]
        unfold cf
        rw [List.getD_eq_getElem?_getD, List.getElem?_drop, ← List.getD_eq_getElem?_getD, show i + (k - i) = k by omega]
      rw [e1, hZ]
      unfold zipM
      rw [ld, Nat.min_self, cf_range, if_pos (by omega), e2, cc, if_pos hk2]
      unfold sh
      rw [if_neg h1]
    · have e1 : cf ((convL a b i).take i ++ Z ++ (convL a b i).drop (i + b.length)) k = cf (convL a b i) k := by
        unfold cf
        rw [getD_app_r (by rw [List.length_append, lt, lz]; omega), List.length_append, lt, lz, List.getD_eq_getElem?_getD, List.getElem?_drop, ← List.getD_eq_getElem?_getD, show i + b.length + (k - (i + b.length)) = k by omega]
      rw [e1, cc, if_pos hk2]
      unfold sh
      rw [if_neg h1, cf_out (xs := b) (by omega)]
      grind
def scaleL (c : Fe f) (xs : List (Fe f)) : List (Fe f) := xs.map (c * ·)
theorem cf_scaleL (c : Fe f) (xs : List (Fe f)) (i : Nat) : cf (scaleL c xs) i = c * cf xs i := by
  unfold scaleL cf
  rw [List.getD_eq_getElem?_getD, List.getElem?_map, List.getD_eq_getElem?_getD]
  by_cases h : i < xs.length
  · rw [List.getElem?_eq_getElem h]
    rfl
  · rw [List.getElem?_eq_none (by omega)]
    show (0 : Fe f) = c * 0
    grind
def derL (xs : List (Fe f)) : List (Fe f) := (List.range (xs.length - 1)).map (der (cf xs))
theorem cf_derL (xs : List (Fe f)) (i : Nat) : cf (derL xs) i = der (cf xs) i := by
  unfold derL
  rw [cf_range]
  by_cases h : i < xs.length - 1
  · rw [if_pos h]
  · rw [if_neg h]
    unfold der
    rw [cf_out (by omega)]
    grind
end
end My
set_option Elab.async false
set_option linter.all false
set_option maxRecDepth 100000
set_option maxHeartbeats 2000000
namespace My
open PySem L2 Evl GxR MyG MyS
local macro_rules | `(tactic| walk_at "ev") => `(tactic| repeat' (first
  | exact ev_c
  | exact ev_var rfl
  | exact ea_nil
  | exact eo_none
  | (refine' ev_cb ?ea (rc_len ?sq); (case ea => walk_at "evs"); (case sq => walk_at "sq"))
  | (refine' ev_op ?a ?b (rv_ixL ?sq ?ix); (case a => walk_at "evs"); (case b => walk_at "evs"); (case sq => walk_at "sq"); (case ix => walk_at "at"))
  | refine' ea_cons ?_ ?_
  | refine' eo_some ?_
  | refine' ev_op ?_ ?_ rv_I0
  | refine' ev_op ?_ ?_ (rv_eq ?_)
  | refine' ev_op ?_ ?_ (rv_ne ?_)
  | refine' ev_op ?_ ?_ (rv_I ?_)
  | refine' ev_un ?_ ru_neg
  | refine' ev_cb ?_ rc_int
  | refine' ev_cb ?_ rc_abs
  | refine' ev_cb ?_ rc_max2
  | refine' ev_andV ?_ ?_
  | refine' ev_notV ?_
  | refine' et_test ?_
  | refine' et_B ?_
  | refine' et_not ?_))
local macro_rules | `(tactic| walk_at "side") => `(tactic| first
  | rfl
  | decide
  | exact ⟨by decide, by decide⟩
  | exact .inr ⟨by decide, by decide⟩
  | exact .inl ⟨by decide, by decide⟩
  | omega
  | exact .inl ⟨by omega, by omega⟩
  | exact ⟨by omega, by omega⟩
  | exact .inr ⟨by omega, by omega⟩)
local macro_rules | `(tactic| walk_at "evs") => `(tactic| (walk_at "ev"; all_goals (walk_at "side")))
local macro_rules | `(tactic| walk_at "ex") => `(tactic| first
  | with_reducible exact Ex.refl _
  | with_reducible assumption
  | (refine' Ex.trans ?_ ?b; (case b => with_reducible assumption); walk_at "ex"))
local macro_rules | `(tactic| walk_at "sq") => `(tactic| first
  | (refine' sq_ex ?h ?e; (case h => with_reducible assumption); (case e => walk_at "ex"))
  | (refine' ex_l ?e ?h; (case h => with_reducible assumption); (case e => walk_at "ex"))
  | (refine' ex_l ?e ?h; (case h => assumption); (case e => walk_at "ex"))
  | assumption
  | exact sq_of (by assumption))
local macro_rules | `(tactic| walk_at "at") => `(tactic| first
  | exact at_int (by omega) (by omega)
  | exact atI_nat (j := 0) rfl
  | exact atI_nat (j := 1) rfl
  | exact atI_nat (j := 2) rfl)
local macro_rules | `(tactic| walk_at "side2") => `(tactic| first | exact CMul_bdl (by assumption) | exact CMul_bdr (by assumption) | walk_at "side")
local macro_rules | `(tactic| walk_at "evb") => `(tactic| (walk_at "ev"; all_goals (walk_at "side2")))

local macro_rules | `(tactic| walk_at "fl") => `(tactic| (unfold FsOf; repeat (first | rw [lookup_putF, if_pos rfl] | rw [lookup_putF, if_neg (by decide +kernel)])))
section
variable {K : PySem.W.Frag} {C : Addr} {σ : L2.St} {H : Hp} {x i : Addr} {f : FPar} {g : Nat} {t1 t2 : TE} {a b c : Fe f} {xs ys : List (Fe f)}
theorem ev_add (hF : FXF K C H x f g) (hi : σ[i]? = some (some (.ref x))) (h1 : Ev t1 σ H (fv a)) (h2 : Ev t2 σ H (fv b)) : Ev (tMeth C "plus" (spMAdd K C) [] E0 (tVar i) (tCons t1 (tCons t2 tNil))) σ H (fv (a + b)) := by
  obtain ⟨dx, cm, as, ap, an, aw, al, h⟩ := id hF.fld
  exact ev_meth hi h.ob (fs_no (by decide +kernel)) (ea_cons h1 (ea_cons h2 ea_nil)) (fun H1 e1 Q1 q1 E1 => ⟨x, f, g, a, b, rfl, hF.ex e1, q1⟩)
theorem ev_mul (hF : FXF K C H x f g) (hi : σ[i]? = some (some (.ref x))) (h1 : Ev t1 σ H (fv a)) (h2 : Ev t2 σ H (fv b)) : Ev (tMeth C "times" (spMMul K C) [] E0 (tVar i) (tCons t1 (tCons t2 tNil))) σ H (fv (a * b)) := by
  obtain ⟨dx, cm, as, ap, an, aw, al, h⟩ := id hF.fld
  exact ev_meth hi h.ob (fs_no (by decide +kernel)) (ea_cons h1 (ea_cons h2 ea_nil)) (fun H1 e1 Q1 q1 E1 => ⟨x, f, g, a, b, rfl, hF.ex e1, q1⟩)
theorem ev_neg (hF : FXF K C H x f g) (hi : σ[i]? = some (some (.ref x))) (h1 : Ev t1 σ H (fv a)) : Ev (tMeth C "negative" (spMNeg K C) [] E0 (tVar i) (tCons t1 tNil)) σ H (fv (-a)) := by
  obtain ⟨dx, cm, as, ap, an, aw, al, h⟩ := id hF.fld
  exact ev_meth hi h.ob (fs_no (by decide +kernel)) (ea_cons h1 ea_nil) (fun H1 e1 Q1 q1 E1 => ⟨x, f, g, a, rfl, hF.ex e1, q1⟩)
theorem el_mult {r : Addr} {t1 t2 : TE} (hF : FXF K C H x f g) (hi : σ[i]? = some (some (.ref x))) (h1 : Ev t1 σ H (fv c)) (h2 : Ev t2 σ H (.ref r)) (hx : SqL K H r (xs.map fv)) (hl : xs.length ≤ 1000) : EvL (tMeth C "multiple" (spMMult K C) [] E0 (tVar i) (tCons t1 (tCons t2 tNil))) σ H ((scaleL c xs).map fv) := by
  obtain ⟨dx, cm, as, ap, an, aw, al, h⟩ := id hF.fld
  exact el_meth hi h.ob (fs_no (by decide +kernel)) (ea_cons h1 (ea_cons h2 ea_nil)) (fun H1 e1 Q1 q1 E1 => ⟨x, r, f, g, c, xs, rfl, hF.ex e1, ex_l e1 hx, hl, q1⟩)
theorem el_pm {r1 r2 : Addr} {t1 t2 t3 : TE} (hF : FXF K C H x f g) (hi : σ[i]? = some (some (.ref x))) (h1 : Ev t1 σ H (.ref r1)) (h2 : Ev t2 σ H (fv c)) (h3 : Ev t3 σ H (.ref r2)) (hx : SqL K H r1 (xs.map fv)) (hy : SqL K H r2 (ys.map fv)) (hl : xs.length ≤ 1000) : EvL (tMeth C "plus_multiple" (spMPM K C) [] E0 (tVar i) (tCons t1 (tCons t2 (tCons t3 tNil)))) σ H ((zipM xs c ys).map fv) := by
  obtain ⟨dx, cm, as, ap, an, aw, al, h⟩ := id hF.fld
  exact el_meth hi h.ob (fs_no (by decide +kernel)) (ea_cons h1 (ea_cons h2 (ea_cons h3 ea_nil))) (fun H1 e1 Q1 q1 E1 => ⟨x, r1, r2, f, g, c, xs, ys, rfl, hF.ex e1, ex_l e1 hx, ex_l e1 hy, hl, q1⟩)
/-- the first row a new list -/
theorem el_pmN {r2 : Addr} {t1 t2 t3 : TE} (hF : FXF K C H x f g) (hi : σ[i]? = some (some (.ref x))) (h1 : EvL t1 σ H (xs.map fv)) (h2 : Ev t2 σ H (fv c)) (h3 : Ev t3 σ H (.ref r2)) (hy : SqL K H r2 (ys.map fv)) (hl : xs.length ≤ 1000) : EvL (tMeth C "plus_multiple" (spMPM K C) [] E0 (tVar i) (tCons t1 (tCons t2 (tCons t3 tNil)))) σ H ((zipM xs c ys).map fv) := by
  obtain ⟨dx, cm, as, ap, an, aw, al, h⟩ := id hF.fld
  intro H1 e1 Q q
  refine ⟨_, hi, x, dx, _, rfl, e1 _ _ h.ob, fs_no (by decide +kernel), ?_⟩
  refine h1 H1 e1 _ fun r1 H2 nr e2 hr1 => h2 H2 (e1.trans e2) _ fun H3 e3 => h3 H3 ((e1.trans e2).trans e3) _ fun H4 e4 => ?_
  have e14 := (e2.trans e3).trans e4
  show spMPM K C ([V.ref x, V.ref r1, fv c, V.ref r2] ++ []) H4 Q E0
  rw [List.append_nil]
  exact ⟨x, r1, r2, f, g, c, xs, ys, rfl, hF.ex (e1.trans e14), sq_of ((e3.trans e4) _ _ hr1), ex_l (e1.trans e14) hy, hl, fun p H5 np e5 h5 => q p H5 (fresh_back e14 np) (e14.trans e5) h5⟩
end
section
variable {P : Program} {w : World} {K : PySem.W.Frag} {mg : Str → Option Value} {base : Heap}
def spDeg (K : PySem.W.Frag) : Sp := fun vs H Q _ => ∃ (a : Addr) (vs0 : List V), vs = [.ref a] ∧ SqL K H a vs0 ∧ RetV (.int ((vs0.length : Int) - 1)) H Q
def spTrim (K : PySem.W.Frag) : Sp := fun vs H Q _ => ∃ (a : Addr) (f : FPar) (xs : List (Fe f)), vs = [.ref a] ∧ H a = some (.lst (xs.map fv)) ∧ xs.length ≤ 1000 ∧ RetL ((trimL xs).map fv) H Q
def spPPM (K : PySem.W.Frag) (C : Addr) : Sp := fun vs H Q _ => ∃ (x r1 r2 : Addr) (f : FPar) (g : Nat) (c : Fe f) (xs ys : List (Fe f)), vs = [.ref x, .ref r1, fv c, .ref r2] ∧ FXF K C H x f g ∧ H r1 = some (.lst (xs.map fv)) ∧ H r2 = some (.lst (ys.map fv)) ∧ xs.length ≤ 400 ∧ ys.length ≤ 400 ∧ RetL ((trimL (addL xs c ys)).map fv) H Q
def spAdd (K : PySem.W.Frag) (C : Addr) : Sp := fun vs H Q _ => ∃ (x r1 r2 : Addr) (f : FPar) (g : Nat) (xs ys : List (Fe f)), vs = [.ref x, .ref r1, .ref r2] ∧ FXF K C H x f g ∧ H r1 = some (.lst (xs.map fv)) ∧ H r2 = some (.lst (ys.map fv)) ∧ xs.length ≤ 400 ∧ ys.length ≤ 400 ∧ RetL ((trimL (addL xs 1 ys)).map fv) H Q
def spSub (K : PySem.W.Frag) (C : Addr) : Sp := fun vs H Q _ => ∃ (x r1 r2 : Addr) (f : FPar) (g : Nat) (xs ys : List (Fe f)), vs = [.ref x, .ref r1, .ref r2] ∧ FXF K C H x f g ∧ H r1 = some (.lst (xs.map fv)) ∧ H r2 = some (.lst (ys.map fv)) ∧ xs.length ≤ 400 ∧ ys.length ≤ 400 ∧ RetL ((trimL (addL xs (-1) ys)).map fv) H Q
def spScale (K : PySem.W.Frag) (C : Addr) : Sp := fun vs H Q _ => ∃ (x r : Addr) (f : FPar) (g : Nat) (c : Fe f) (xs : List (Fe f)), vs = [.ref x, .ref r, fv c] ∧ FXF K C H x f g ∧ H r = some (.lst (xs.map fv)) ∧ xs.length ≤ 400 ∧ RetL ((trimL (scaleL c xs)).map fv) H Q
def spMulP (K : PySem.W.Frag) (C : Addr) : Sp := fun vs H Q _ => ∃ (x r1 r2 : Addr) (f : FPar) (g : Nat) (xs ys : List (Fe f)), vs = [.ref x, .ref r1, .ref r2] ∧ FXF K C H x f g ∧ H r1 = some (.lst (xs.map fv)) ∧ H r2 = some (.lst (ys.map fv)) ∧ xs.length ≤ 400 ∧ ys.length ≤ 400 ∧ RetL ((trimL (mulL xs ys)).map fv) H Q
end
end My
set_option Elab.async false
set_option linter.all false
set_option maxRecDepth 100000
set_option maxHeartbeats 2000000
namespace My
open PySem L2 Evl GxR MyG MyS
local macro_rules | `(tactic| walk_at "ev") => `(tactic| repeat' (first
  | exact ev_c
  | exact ev_var rfl
  | exact ea_nil
  | exact eo_none
  | (refine' ev_cb ?ea (rc_len ?sq); (case ea => walk_at "evs"); (case sq => walk_at "sq"))
  | (refine' ev_op ?a ?b (rv_ixL ?sq ?ix); (case a => walk_at "evs"); (case b => walk_at "evs"); (case sq => walk_at "sq"); (case ix => walk_at "at"))
  | refine' ea_cons ?_ ?_
  | refine' eo_some ?_
  | refine' ev_op ?_ ?_ rv_I0
  | refine' ev_op ?_ ?_ (rv_eq ?_)
  | refine' ev_op ?_ ?_ (rv_ne ?_)
  | refine' ev_op ?_ ?_ (rv_I ?_)
  | refine' ev_un ?_ ru_neg
  | refine' ev_cb ?_ rc_int
  | refine' ev_cb ?_ rc_abs
  | refine' ev_cb ?_ rc_max2
  | refine' ev_andV ?_ ?_
  | refine' ev_notV ?_
  | refine' et_test ?_
  | refine' et_B ?_
  | refine' et_not ?_))
local macro_rules | `(tactic| walk_at "side") => `(tactic| first
  | rfl
  | decide
  | exact ⟨by decide, by decide⟩
  | exact .inr ⟨by decide, by decide⟩
  | exact .inl ⟨by decide, by decide⟩
  | omega
  | exact .inl ⟨by omega, by omega⟩
  | exact ⟨by omega, by omega⟩
  | exact .inr ⟨by omega, by omega⟩)
local macro_rules | `(tactic| walk_at "evs") => `(tactic| (walk_at "ev"; all_goals (walk_at "side")))
local macro_rules | `(tactic| walk_at "ex") => `(tactic| first
  | with_reducible exact Ex.refl _
  | with_reducible assumption
  | (refine' Ex.trans ?_ ?b; (case b => with_reducible assumption); walk_at "ex"))
local macro_rules | `(tactic| walk_at "sq") => `(tactic| first
  | (refine' sq_ex ?h ?e; (case h => with_reducible assumption); (case e => walk_at "ex"))
  | (refine' ex_l ?e ?h; (case h => with_reducible assumption); (case e => walk_at "ex"))
  | (refine' ex_l ?e ?h; (case h => assumption); (case e => walk_at "ex"))
  | assumption
  | exact sq_of (by assumption))
local macro_rules | `(tactic| walk_at "at") => `(tactic| first
  | exact at_int (by omega) (by omega)
  | exact atI_nat (j := 0) rfl
  | exact atI_nat (j := 1) rfl
  | exact atI_nat (j := 2) rfl)
local macro_rules | `(tactic| walk_at "side2") => `(tactic| first | exact CMul_bdl (by assumption) | exact CMul_bdr (by assumption) | walk_at "side")
local macro_rules | `(tactic| walk_at "evb") => `(tactic| (walk_at "ev"; all_goals (walk_at "side2")))

local macro_rules | `(tactic| walk_at "fl") => `(tactic| (unfold FsOf; repeat (first | rw [lookup_putF, if_pos rfl] | rw [lookup_putF, if_neg (by decide +kernel)])))
theorem sumE_head {R : Type} [Lean.Grind.CommRing R] (h : Nat → R) (t : R) : ∀ n, sumE h t (n + 1) = h 0 + sumE (fun k => h (k + 1)) t n * t
  | 0 => by
    show (0 : R) + h 0 * t ^ 0 = h 0 + 0 * t
    rw [Lean.Grind.Semiring.pow_zero]
    grind
  | n + 1 => by
    show sumE h t (n + 1) + h (n + 1) * t ^ (n + 1) = h 0 + (sumE (fun k => h (k + 1)) t n + h (n + 1) * t ^ n) * t
    rw [sumE_head h t n, Lean.Grind.Semiring.pow_succ]
    grind
section
variable {P : Program} {w : World} {K : PySem.W.Frag} {mg : Str → Option Value} {base : Heap}
def spEval (K : PySem.W.Frag) (C : Addr) : Sp := fun vs H Q _ => ∃ (x r : Addr) (f : FPar) (g : Nat) (t : Fe f) (xs : List (Fe f)), vs = [.ref x, .ref r, fv t] ∧ FXF K C H x f g ∧ SqL K H r (xs.map fv) ∧ RetV (fv (sumE (cf xs) t xs.length)) H Q
def spDer (K : PySem.W.Frag) (C : Addr) : Sp := fun vs H Q _ => ∃ (x r : Addr) (f : FPar) (g : Nat) (xs : List (Fe f)), vs = [.ref x, .ref r] ∧ FXF K C H x f g ∧ H r = some (.lst (xs.map fv)) ∧ xs.length ≤ 400 ∧ RetL ((trimL (derL xs)).map fv) H Q
end
end My
set_option Elab.async false
set_option linter.all false
set_option maxRecDepth 100000
set_option maxHeartbeats 1000000
namespace My
open PySem L2 Evl GxR MyG
local macro_rules | `(tactic| walk_at "ev") => `(tactic| repeat' (first
  | exact ev_c
  | exact ev_var rfl
  | exact ea_nil
  | exact eo_none
  | (refine' ev_cb ?ea (rc_len ?sq); (case ea => walk_at "evs"); (case sq => walk_at "sq"))
  | (refine' ev_op ?a ?b (rv_ixL ?sq ?ix); (case a => walk_at "evs"); (case b => walk_at "evs"); (case sq => walk_at "sq"); (case ix => walk_at "at"))
  | refine' ea_cons ?_ ?_
  | refine' eo_some ?_
  | refine' ev_op ?_ ?_ rv_I0
  | refine' ev_op ?_ ?_ (rv_eq ?_)
  | refine' ev_op ?_ ?_ (rv_ne ?_)
  | refine' ev_op ?_ ?_ (rv_I ?_)
  | refine' ev_un ?_ ru_neg
  | refine' ev_cb ?_ rc_int
  | refine' ev_cb ?_ rc_abs
  | refine' ev_cb ?_ rc_max2
  | refine' ev_andV ?_ ?_
  | refine' ev_notV ?_
  | refine' et_test ?_
  | refine' et_B ?_
  | refine' et_not ?_))
local macro_rules | `(tactic| walk_at "side") => `(tactic| first
  | rfl
  | decide
  | exact ⟨by decide, by decide⟩
  | exact .inr ⟨by decide, by decide⟩
  | exact .inl ⟨by decide, by decide⟩
  | omega
  | exact .inl ⟨by omega, by omega⟩
  | exact ⟨by omega, by omega⟩
  | exact .inr ⟨by omega, by omega⟩)
local macro_rules | `(tactic| walk_at "evs") => `(tactic| (walk_at "ev"; all_goals (walk_at "side")))
local macro_rules | `(tactic| walk_at "ex") => `(tactic| first
  | with_reducible exact Ex.refl _
  | with_reducible assumption
  | (refine' Ex.trans ?_ ?b; (case b => with_reducible assumption); walk_at "ex"))
local macro_rules | `(tactic| walk_at "sq") => `(tactic| first
  | (refine' sq_ex ?h ?e; (case h => with_reducible assumption); (case e => walk_at "ex"))
  | (refine' ex_l ?e ?h; (case h => with_reducible assumption); (case e => walk_at "ex"))
  | (refine' ex_l ?e ?h; (case h => assumption); (case e => walk_at "ex"))
  | assumption
  | exact sq_of (by assumption))
local macro_rules | `(tactic| walk_at "at") => `(tactic| first
  | exact at_int (by omega) (by omega)
  | exact atI_nat (j := 0) rfl
  | exact atI_nat (j := 1) rfl
  | exact atI_nat (j := 2) rfl)
local macro_rules | `(tactic| walk_at "side2") => `(tactic| first | exact CMul_bdl (by assumption) | exact CMul_bdr (by assumption) | walk_at "side")
local macro_rules | `(tactic| walk_at "evb") => `(tactic| (walk_at "ev"; all_goals (walk_at "side2")))

/-- a field as the law holds it -/
structure FL (K : PySem.W.Frag) (H : Hp) (c : Addr) (p e : Nat) (m : List Int) : Prop where
  tup : SqT K H c (m.map V.int)
  p2 : 2 ≤ p
  p31 : p ≤ 31
  e7 : e ≤ 7
  len : m.length = e + 2
  bd : ∀ x ∈ m, 0 ≤ x ∧ x < (p : Int)
theorem FL.ex {K : PySem.W.Frag} {H H1 : Hp} {c : Addr} {p e : Nat} {m : List Int} (h : FL K H c p e m) (x : Ex H H1) : FL K H1 c p e m := ⟨ex_t x h.tup, h.p2, h.p31, h.e7, h.len, h.bd⟩
theorem FL.of {K : PySem.W.Frag} {H : Hp} {c : Addr} {p e g : Nat} {m : List Int} (h : SqT K H c (m.map V.int)) (o : FOK p m e g) : FL K H c p e m := by
  have h1 := o.val.2.1
  have h2 := o.val.2.2.2.1
  have h3 := o.len
  exact ⟨h, o.p2, by omega, by omega, h3, o.val.2.2.2.2.2.2.1⟩
theorem ev_ltimes {K : PySem.W.Frag} {σ : L2.St} {H : Hp} {ta : TA} {c : Addr} {p e : Nat} {m : List Int} {a b : Int} (h : EvA ta σ H [.int (p : Int), .ref c, .int a, .int b]) (f : FL K H c p e m) (ha : inF p e a) (hb : inF p e b) : Ev (tCall (spLTimes K) [] E0 ta) σ H (.int (fP p m e a b)) := by
  refine ev_call (z := .int (fP p m e a b)) h ?_
  intro H1 e1 Q q E
  have p2 := f.p2
  have p31 := f.p31
  have e7 := f.e7
  refine ⟨(p : Int), c, m, e + 1, a, b, rfl, ex_t e1 f.tup, f.len, by omega, by omega, by omega, by omega, f.bd, ?_⟩
  rw [law_times f.p2 f.len ha hb]
  exact q
end My
set_option Elab.async false
set_option linter.all false
set_option maxRecDepth 100000
set_option maxHeartbeats 2000000
namespace My
open PySem L2 Evl GxR MyG MyS
local macro_rules | `(tactic| walk_at "ev") => `(tactic| repeat' (first
  | exact ev_c
  | exact ev_var rfl
  | exact ea_nil
  | exact eo_none
  | (refine' ev_cb ?ea (rc_len ?sq); (case ea => walk_at "evs"); (case sq => walk_at "sq"))
  | (refine' ev_op ?a ?b (rv_ixL ?sq ?ix); (case a => walk_at "evs"); (case b => walk_at "evs"); (case sq => walk_at "sq"); (case ix => walk_at "at"))
  | refine' ea_cons ?_ ?_
  | refine' eo_some ?_
  | refine' ev_op ?_ ?_ rv_I0
  | refine' ev_op ?_ ?_ (rv_eq ?_)
  | refine' ev_op ?_ ?_ (rv_ne ?_)
  | refine' ev_op ?_ ?_ (rv_I ?_)
  | refine' ev_un ?_ ru_neg
  | refine' ev_cb ?_ rc_int
  | refine' ev_cb ?_ rc_abs
  | refine' ev_cb ?_ rc_max2
  | refine' ev_andV ?_ ?_
  | refine' ev_notV ?_
  | refine' et_test ?_
  | refine' et_B ?_
  | refine' et_not ?_))
local macro_rules | `(tactic| walk_at "side") => `(tactic| first
  | rfl
  | decide
  | exact ⟨by decide, by decide⟩
  | exact .inr ⟨by decide, by decide⟩
  | exact .inl ⟨by decide, by decide⟩
  | omega
  | exact .inl ⟨by omega, by omega⟩
  | exact ⟨by omega, by omega⟩
  | exact .inr ⟨by omega, by omega⟩)
local macro_rules | `(tactic| walk_at "evs") => `(tactic| (walk_at "ev"; all_goals (walk_at "side")))
local macro_rules | `(tactic| walk_at "ex") => `(tactic| first
  | with_reducible exact Ex.refl _
  | with_reducible assumption
  | (refine' Ex.trans ?_ ?b; (case b => with_reducible assumption); walk_at "ex"))
local macro_rules | `(tactic| walk_at "sq") => `(tactic| first
  | (refine' sq_ex ?h ?e; (case h => with_reducible assumption); (case e => walk_at "ex"))
  | (refine' ex_l ?e ?h; (case h => with_reducible assumption); (case e => walk_at "ex"))
  | (refine' ex_l ?e ?h; (case h => assumption); (case e => walk_at "ex"))
  | assumption
  | exact sq_of (by assumption))
local macro_rules | `(tactic| walk_at "at") => `(tactic| first
  | exact at_int (by omega) (by omega)
  | exact atI_nat (j := 0) rfl
  | exact atI_nat (j := 1) rfl
  | exact atI_nat (j := 2) rfl)
local macro_rules | `(tactic| walk_at "side2") => `(tactic| first | exact CMul_bdl (by assumption) | exact CMul_bdr (by assumption) | walk_at "side")
local macro_rules | `(tactic| walk_at "evb") => `(tactic| (walk_at "ev"; all_goals (walk_at "side2")))

/-- a field as the law holds it -/
abbrev FLF (K : PySem.W.Frag) (H : Hp) (c : Addr) (f : FPar) : Prop := FL K H c f.p f.e f.m
section
variable {f : FPar}
theorem vec_digsF (a : Fe f) (i : Nat) : (digs (f.p : Int) (f.e + 1) a.1).getD i 0 = vec f.p a.1 i := by
  have := mv_digs (p := f.p) (f_sup f.hp a.2)
  exact congrFun this i
/-- digits that are those of an element -/
theorem num_fe {a : Fe f} {g : Nat → Int} (h : ∀ i, i < f.e + 1 → g i % (f.p : Int) = vec f.p a.1 i % (f.p : Int)) : numOf (f.p : Int) ((List.range (f.e + 1)).map fun i => g i % (f.p : Int)) = a.1 := by
  have hp := f.hp
  have bd : ∀ x ∈ ((List.range (f.e + 1)).map fun i => g i % (f.p : Int)), 0 ≤ x ∧ x < (f.p : Int) := fun x hx => by
    obtain ⟨i, _, rfl⟩ := List.mem_map.mp hx
    exact ⟨Int.emod_nonneg _ (by omega), Int.emod_lt_of_pos _ (by omega)⟩
  have nb := numOf_bd (b := (f.p : Int)) (by omega) _ bd
  rw [List.length_map, List.length_range] at nb
  refine f_eq hp ⟨nb.1, by rw [Int.natCast_pow]; exact nb.2⟩ a.2 ?_
  intro i
  rw [vec_numOf (by omega) _ bd i]
  by_cases hi : i < f.e + 1
  · rw [List.getD_eq_getElem?_getD, List.getElem?_map, List.getElem?_eq_getElem (by rw [List.length_range]; exact hi), List.getElem_range]
    show g i % (f.p : Int) % (f.p : Int) = _
    rw [Int.emod_emod_of_dvd _ (Int.dvd_refl _), h i hi]
  · rw [List.getD_eq_getElem?_getD, List.getElem?_eq_none (by rw [List.length_map, List.length_range]; omega), f_sup hp a.2 i (by omega)]
    rfl
theorem num_add (a b : Fe f) : numOf (f.p : Int) ((List.range (f.e + 1)).map fun i => ((digs (f.p : Int) (f.e + 1) a.1).getD i 0 + (digs (f.p : Int) (f.e + 1) b.1).getD i 0) % (f.p : Int)) = (a + b).1 :=
  num_fe fun i _ => by
    rw [vec_digsF, vec_digsF]
    exact (fA_cg f.hp a.2 b.2 i).symm
theorem num_sub (a b : Fe f) : numOf (f.p : Int) ((List.range (f.e + 1)).map fun i => ((digs (f.p : Int) (f.e + 1) a.1).getD i 0 - (digs (f.p : Int) (f.e + 1) b.1).getD i 0) % (f.p : Int)) = (a - b).1 :=
  num_fe fun i _ => by
    rw [vec_digsF, vec_digsF]
    have hp := f.hp
    have h1 := fA_cg f.hp a.2 (feNeg b).2 i
    have h2 := fP_cg f.hp f.hm (in_small (e := f.e) f.hp (a := ((f.p - 1 : Nat) : Int)) (by omega) (by omega)) b.2 i
    rw [vec_small hp (c := ((f.p - 1 : Nat) : Int)) (by omega) (by omega), vM_usm, vM_e0 (by omega) (f_sup hp b.2)] at h2
    have h3 : vec f.p (a - b).1 i % (f.p : Int) = (vec f.p a.1 i + vec f.p (feNeg b).1 i) % (f.p : Int) := h1
    have h4 : vec f.p (feNeg b).1 i % (f.p : Int) = (((f.p - 1 : Nat) : Int) * vec f.p b.1 i) % (f.p : Int) := h2
    rw [h3, Int.add_emod, h4, ← Int.add_emod]
    have h5 : vec f.p a.1 i + ((f.p - 1 : Nat) : Int) * vec f.p b.1 i = (vec f.p a.1 i - vec f.p b.1 i) + (f.p : Int) * vec f.p b.1 i := by
      rw [show ((f.p - 1 : Nat) : Int) = (f.p : Int) - 1 by omega]
      grind
    rw [h5, Int.add_mul_emod_self_left]
end
section
variable {K : PySem.W.Frag} {σ : L2.St} {H : Hp} {ta : TA} {c : Addr} {f : FPar} {a b : Fe f}
theorem ev_lmul (h : EvA ta σ H [.int (f.p : Int), .ref c, fv a, fv b]) (hL : FLF K H c f) : Ev (tCall (spLTimes K) [] E0 ta) σ H (fv (a * b)) := ev_ltimes h hL a.2 b.2
end
section
variable {P : Program} {w : World} {K : PySem.W.Frag} {mg : Str → Option Value} {base : Heap}
def spLCnt (K : PySem.W.Frag) : Sp := fun vs H Q _ => ∃ (c : Addr) (f : FPar), vs = [.int (f.p : Int), .ref c] ∧ FLF K H c f ∧ RetV (.int ((f.p ^ (f.e + 1) : Nat) : Int)) H Q
def spLAdd (K : PySem.W.Frag) : Sp := fun vs H Q _ => ∃ (c : Addr) (f : FPar) (a b : Fe f), vs = [.int (f.p : Int), .ref c, fv a, fv b] ∧ FLF K H c f ∧ RetV (fv (a + b)) H Q
def spLSub (K : PySem.W.Frag) : Sp := fun vs H Q _ => ∃ (c : Addr) (f : FPar) (a b : Fe f), vs = [.int (f.p : Int), .ref c, fv a, fv b] ∧ FLF K H c f ∧ RetV (fv (a - b)) H Q
end
end My
set_option Elab.async false
set_option linter.all false
set_option maxRecDepth 100000
set_option maxHeartbeats 2000000
namespace My
open PySem L2 Evl GxR MyG MyS
local macro_rules | `(tactic| walk_at "ev") => `(tactic| repeat' (first
  | exact ev_c
  | exact ev_var rfl
  | exact ea_nil
  | exact eo_none
  | (refine' ev_cb ?ea (rc_len ?sq); (case ea => walk_at "evs"); (case sq => walk_at "sq"))
  | (refine' ev_op ?a ?b (rv_ixL ?sq ?ix); (case a => walk_at "evs"); (case b => walk_at "evs"); (case sq => walk_at "sq"); (case ix => walk_at "at"))
  | refine' ea_cons ?_ ?_
  | refine' eo_some ?_
  | refine' ev_op ?_ ?_ rv_I0
  | refine' ev_op ?_ ?_ (rv_eq ?_)
  | refine' ev_op ?_ ?_ (rv_ne ?_)
  | refine' ev_op ?_ ?_ (rv_I ?_)
  | refine' ev_un ?_ ru_neg
  | refine' ev_cb ?_ rc_int
  | refine' ev_cb ?_ rc_abs
  | refine' ev_cb ?_ rc_max2
  | refine' ev_andV ?_ ?_
  | refine' ev_notV ?_
  | refine' et_test ?_
  | refine' et_B ?_
  | refine' et_not ?_))
local macro_rules | `(tactic| walk_at "side") => `(tactic| first
  | rfl
  | decide
  | exact ⟨by decide, by decide⟩
  | exact .inr ⟨by decide, by decide⟩
  | exact .inl ⟨by decide, by decide⟩
  | omega
  | exact .inl ⟨by omega, by omega⟩
  | exact ⟨by omega, by omega⟩
  | exact .inr ⟨by omega, by omega⟩)
local macro_rules | `(tactic| walk_at "evs") => `(tactic| (walk_at "ev"; all_goals (walk_at "side")))
local macro_rules | `(tactic| walk_at "ex") => `(tactic| first
  | with_reducible exact Ex.refl _
  | with_reducible assumption
  | (refine' Ex.trans ?_ ?b; (case b => with_reducible assumption); walk_at "ex"))
local macro_rules | `(tactic| walk_at "sq") => `(tactic| first
  | (refine' sq_ex ?h ?e; (case h => with_reducible assumption); (case e => walk_at "ex"))
  | (refine' ex_l ?e ?h; (case h => with_reducible assumption); (case e => walk_at "ex"))
  | (refine' ex_l ?e ?h; (case h => assumption); (case e => walk_at "ex"))
  | assumption
  | exact sq_of (by assumption))
local macro_rules | `(tactic| walk_at "at") => `(tactic| first
  | exact at_int (by omega) (by omega)
  | exact atI_nat (j := 0) rfl
  | exact atI_nat (j := 1) rfl
  | exact atI_nat (j := 2) rfl)
local macro_rules | `(tactic| walk_at "side2") => `(tactic| first | exact CMul_bdl (by assumption) | exact CMul_bdr (by assumption) | walk_at "side")
local macro_rules | `(tactic| walk_at "evb") => `(tactic| (walk_at "ev"; all_goals (walk_at "side2")))

section
variable {f : FPar}
theorem take_succ_fv (xs : List (Fe f)) {n : Nat} (h : n < xs.length) : (xs.take (n + 1)).map fv = (xs.take n).map fv ++ [fv (cf xs n)] := by
  rw [List.take_add_one, List.getElem?_eq_getElem h, Option.toList_some, List.map_append]
  unfold cf
  rw [List.getD_eq_getElem?_getD, List.getElem?_eq_getElem h]
  rfl
def subL (a b : List (Fe f)) : List (Fe f) := (List.range (max a.length b.length)).map fun i => cf a i - cf b i
theorem cf_subL (a b : List (Fe f)) (i : Nat) : cf (subL a b) i = cf a i - cf b i := by
  unfold subL
  rw [cf_range]
  by_cases h : i < max a.length b.length
  · rw [if_pos h]
  · rw [if_neg h, cf_out (xs := a) (by omega), cf_out (xs := b) (by omega)]
    grind
/-- the table of products behind i rows and j items of the next one -/
def accL (a b : List (Fe f)) (i j : Nat) : List (Fe f) := (List.range (a.length + b.length - 1)).map fun k => conv (cf a) (cf b) i k + cf a i * (if i ≤ k ∧ k < i + j then cf b (k - i) else 0)
theorem accL_len (a b : List (Fe f)) (i j : Nat) : (accL a b i j).length = a.length + b.length - 1 := by
  unfold accL
  rw [List.length_map, List.length_range]
theorem cf_accL (a b : List (Fe f)) (i j : Nat) {k : Nat} (h : k < a.length + b.length - 1) : cf (accL a b i j) k = conv (cf a) (cf b) i k + cf a i * (if i ≤ k ∧ k < i + j then cf b (k - i) else 0) := by
  unfold accL
  rw [cf_range, if_pos h]
theorem accL_next (a b : List (Fe f)) {i j : Nat} (hi : i < a.length) (hj : j < b.length) : (accL a b i j).set (i + j) (cf (accL a b i j) (i + j) + cf a i * cf b j) = accL a b i (j + 1) := by
  refine cf_ext (by rw [List.length_set, accL_len, accL_len]) fun k hk => ?_
  rw [List.length_set, accL_len] at hk
  rw [cf_accL a b i (j + 1) hk]
  have e : cf ((accL a b i j).set (i + j) (cf (accL a b i j) (i + j) + cf a i * cf b j)) k = if k = i + j then cf (accL a b i j) (i + j) + cf a i * cf b j else cf (accL a b i j) k := by
    generalize cf (accL a b i j) (i + j) + cf a i * cf b j = z
    unfold cf
    rw [List.getD_eq_getElem?_getD, List.getElem?_set, accL_len]
    by_cases h : k = i + j
    · rw [if_pos h.symm, if_pos h, if_pos (by omega)]
      rfl
    · rw [if_neg (fun q => h q.symm), if_neg h, List.getD_eq_getElem?_getD]
  rw [e]
  by_cases h : k = i + j
  · subst h
    rw [if_pos rfl, cf_accL a b i j hk, if_neg (by omega), if_pos ⟨by omega, by omega⟩, show i + j - i = j by omega]
    grind
  · rw [if_neg h, cf_accL a b i j hk]
    congr 2
    by_cases h1 : i ≤ k ∧ k < i + j
    · rw [if_pos h1, if_pos ⟨h1.1, by omega⟩]
    · rw [if_neg h1, if_neg (by omega)]
theorem accL_row (a b : List (Fe f)) (i : Nat) : accL a b i b.length = accL a b (i + 1) 0 := by
  refine cf_ext (by rw [accL_len, accL_len]) fun k hk => ?_
  rw [accL_len] at hk
  rw [cf_accL a b i b.length hk, cf_accL a b (i + 1) 0 hk]
  show _ = conv (cf a) (cf b) i k + cf a i * sh i (cf b) k + _
  rw [if_neg (show ¬(i + 1 ≤ k ∧ k < i + 1 + 0) by omega)]
  unfold sh
  by_cases h1 : k < i
  · rw [if_neg (by omega), if_pos h1]
    grind
  · rw [if_neg h1]
    by_cases h2 : k < i + b.length
    · rw [if_pos ⟨by omega, h2⟩]
      grind
    · rw [if_neg (by omega), cf_out (xs := b) (by omega)]
      grind
theorem accL_zero (a b : List (Fe f)) : accL a b 0 0 = List.replicate (a.length + b.length - 1) 0 := by
  refine cf_ext (by rw [accL_len, List.length_replicate]) fun k hk => ?_
  rw [accL_len] at hk
  rw [cf_accL a b 0 0 hk, if_neg (by omega)]
  have e : cf (List.replicate (a.length + b.length - 1) (0 : Fe f)) k = 0 := by
    unfold cf
    rw [List.getD_eq_getElem?_getD, List.getElem?_replicate, if_pos hk]
    rfl
  rw [e]
  show (0 : Fe f) + _ * 0 = 0
  grind
theorem trim_acc {a b : List (Fe f)} (hb : 0 < b.length) : trimL (accL a b a.length 0) = trimL (mulL a b) := trimL_congr fun k => by
  rw [cf_mulL]
  by_cases h : k < a.length + b.length - 1
  · rw [cf_accL a b a.length 0 h, if_neg (by omega)]
    grind
  · rw [cf_out (by rw [accL_len]; omega)]
    by_cases h2 : k < a.length + b.length
    · have hk : k = a.length + b.length - 1 := by omega
      have : ∀ n, n ≤ a.length → conv (cf a) (cf b) n k = 0 := by
        intro n
        induction n with
        | zero => intro _; rfl
        | succ n ih =>
          intro hn
          show conv (cf a) (cf b) n k + cf a n * sh n (cf b) k = 0
          have hs : sh n (cf b) k = 0 := by
            unfold sh
            rw [if_neg (by omega), cf_out (by omega)]
          rw [ih (by omega), hs]
          grind
      exact (this _ (Nat.le_refl _)).symm
    · exact (conv_out (by omega) _ (Nat.le_refl _)).symm
theorem trim_nil {xs : List (Fe f)} (h : ∀ k, cf xs k = 0) : trimL xs = [] := trimL_eq Trimd.nil fun k => by
  rw [h, cf_out (by show 0 ≤ k; omega)]
theorem mul_nilL (b : List (Fe f)) : trimL (mulL [] b) = [] := trim_nil fun k => by
  rw [cf_mulL]
  rfl
theorem mul_nilR (a : List (Fe f)) : trimL (mulL a []) = [] := trim_nil fun k => by
  rw [cf_mulL]
  generalize a.length = n
  induction n with
  | zero => rfl
  | succ n ih =>
    show conv (cf a) (cf []) n k + cf a n * sh n (cf []) k = 0
    have : sh n (cf ([] : List (Fe f))) k = 0 := by
      unfold sh
      split
      · rfl
      · exact cf_out (by show 0 ≤ _; omega)
    rw [ih, this]
    grind
end
section
variable {K : PySem.W.Frag} {σ : L2.St} {H : Hp} {D : Ends} {tz : TS} {j : Nat}
theorem s_dropPop {l : Addr} {xs : List V} {y : V} (hl : H l = some (.lst xs)) (hy : xs[xs.length - 1]? = some y) (hv : σ[j]? = some (some (.ref l))) (k : D.nx σ (upd H l (.lst xs.dropLast))) : tDrop (tBM0 K "list" rPop (tVar j)) D σ H :=
  ⟨_, hv, .inl ⟨rfl, _, sq_of hl⟩, l, xs, y, rfl, rfl, hl, hy, k⟩
end
section
variable {P : Program} {w : World} {K : PySem.W.Frag} {mg : Str → Option Value} {base : Heap}
def spLTrim (K : PySem.W.Frag) : Sp := fun vs H Q _ => ∃ (a : Addr) (f : FPar) (xs : List (Fe f)), vs = [.ref a] ∧ H a = some (.lst (xs.map fv)) ∧ xs.length ≤ 2000 ∧ RetL ((trimL xs).map fv) H Q
def spLPSub (K : PySem.W.Frag) : Sp := fun vs H Q _ => ∃ (c r1 r2 : Addr) (f : FPar) (xs ys : List (Fe f)), vs = [.int (f.p : Int), .ref c, .ref r1, .ref r2] ∧ FLF K H c f ∧ H r1 = some (.lst (xs.map fv)) ∧ H r2 = some (.lst (ys.map fv)) ∧ xs.length ≤ 400 ∧ ys.length ≤ 400 ∧ RetL ((trimL (subL xs ys)).map fv) H Q
end
end My
set_option linter.all false
set_option maxRecDepth 100000
set_option maxHeartbeats 1000000
namespace My
/-! polynomials over a field: degrees, divisors -/
section
variable {R : Type} [Lean.Grind.CommRing R]
theorem cau_one {g : Nat → R} : ∀ (k : Nat) (f : Nat → R), (∀ i, 0 < i → f i = 0) → cau f g k = f 0 * g k
  | 0, f, _ => rfl
  | k + 1, f, h => by
    have e : tl f = fun _ => 0 := by funext i; exact h (i + 1) (by omega)
    show f 0 * g (k + 1) + cau (tl f) g k = _
    rw [e, cau_zero]
    grind
theorem cau_top {g : Nat → R} {m : Nat} (hg : ∀ i, m < i → g i = 0) : ∀ (n : Nat) (f : Nat → R), (∀ i, n < i → f i = 0) → cau f g (n + m) = f n * g m
  | 0, f, h => by
    rw [Nat.zero_add]
    exact cau_one m f h
  | n + 1, f, h => by
    rw [show n + 1 + m = (n + m) + 1 by omega]
    show f 0 * g (n + m + 1) + cau (tl f) g (n + m) = f (n + 1) * g m
    rw [hg _ (by omega), cau_top hg n (tl f) (fun i hi => h (i + 1) (by omega))]
    show f 0 * 0 + f (n + 1) * g m = _
    grind
theorem cau_over {g : Nat → R} {m : Nat} (hg : ∀ i, m < i → g i = 0) : ∀ (n : Nat) (f : Nat → R), (∀ i, n < i → f i = 0) → ∀ k, n + m < k → cau f g k = 0
  | 0, f, h, k, hk => by
    rw [cau_one k f h, hg k (by omega)]
    grind
  | n + 1, f, h, k, hk => by
    obtain ⟨j, rfl⟩ : ∃ j, k = j + 1 := ⟨k - 1, by omega⟩
    show f 0 * g (j + 1) + cau (tl f) g j = 0
    rw [hg _ (by omega), cau_over hg n (tl f) (fun i hi => h (i + 1) (by omega)) j (by omega)]
    grind
end
section
variable {f : FPar}
theorem po_at (xs : List (Fe f)) (i : Nat) : (po xs).at' i = cf xs i := rfl
theorem po_addc (a : List (Fe f)) (c : Fe f) (b : List (Fe f)) : po (addL a c b) = po a + po [c] * po b := ps_ext fun i => by
  rw [psa_at, psm_at, po_at, cf_addL]
  show cf a i + c * cf b i = cf a i + cau (cf [c]) (cf b) i
  rw [cau_one i (cf [c]) fun j hj => cf_out (xs := [c]) (by show 1 ≤ j; omega)]
  rfl
theorem po_add (a b : List (Fe f)) : po (addL a 1 b) = po a + po b := by
  rw [po_addc, po_one]
  grind
theorem po_m1 : po ([-1] : List (Fe f)) = -1 := ps_ext fun i => by
  rw [psn_at, ps1_at]
  cases i with
  | zero => rfl
  | succ i =>
    refine (cf_out (xs := ([-1] : List (Fe f))) (by show 1 ≤ i + 1; omega)).trans ?_
    unfold dl
    rw [if_neg (by omega)]
    grind
theorem po_less (a b : List (Fe f)) : po (addL a (-1) b) = po a - po b := by
  rw [po_addc, po_m1]
  grind
theorem po_sub (a b : List (Fe f)) : po (subL a b) = po a - po b := ps_ext fun i => by
  rw [pss_at]
  exact cf_subL a b i
theorem po_mul (a b : List (Fe f)) : po (mulL a b) = po a * po b := ps_ext fun i => by
  show cf (mulL a b) i = cau (cf a) (cf b) i
  rw [cf_mulL]
  exact conv_cau _ _ (fun j hj => cf_out hj) i
theorem po_scale (c : Fe f) (a : List (Fe f)) : po (scaleL c a) = po [c] * po a := ps_ext fun i => by
  rw [psm_at, po_at, cf_scaleL]
  show c * cf a i = cau (cf [c]) (cf a) i
  rw [cau_one i (cf [c]) fun j hj => cf_out (xs := [c]) (by show 1 ≤ j; omega)]
  rfl
/-- every number but 0 has an inverse -/
def Inv1 (f : FPar) : Prop := ∀ a : Fe f, a ≠ 0 → ∃ b : Fe f, a * b = 1
theorem fe_ne {a : Fe f} (h : a ≠ 0) : a.1 ≠ 0 := fun z => h (fe_ext (z.trans fe_zero.symm))
theorem PrimE.inv1 {f : FPar} {g : Nat} (P : PrimE f.p f.m f.e g) : Inv1 f := fun a ha => by
  obtain ⟨k, hk, hw⟩ := P.all f.hp f.hm a.2 (fe_ne ha)
  refine ⟨⟨fW f.p f.m f.e (g : Int) (f.p ^ (f.e + 1) - 1 - k), fW_in f.hp f.hm (P.inn f.hp f.hm) _⟩, fe_ext ?_⟩
  rw [fe_mul, fe_one]
  show fP f.p f.m f.e a.1 (fW f.p f.m f.e (g : Int) (f.p ^ (f.e + 1) - 1 - k)) = 1
  rw [← hw, ← fW_add f.hp f.hm (P.inn f.hp f.hm), show k + (f.p ^ (f.e + 1) - 1 - k) = f.p ^ (f.e + 1) - 1 by omega, P.mod f.hp f.hm, Nat.mod_self]
  rfl
theorem Inv1.dom (h : Inv1 f) {a b : Fe f} (ha : a ≠ 0) (hb : b ≠ 0) : a * b ≠ 0 := fun z => by
  obtain ⟨c, hc⟩ := h a ha
  exact hb (by grind)
/-- the length of a product -/
theorem len_mul (h : Inv1 f) {a b c : List (Fe f)} (ha : Trimd a) (hb : Trimd b) (hc : Trimd c) (e : po c = po a * po b) (a0 : a ≠ []) (b0 : b ≠ []) : c.length + 1 = a.length + b.length := by
  obtain ⟨n, hn⟩ : ∃ n, a.length = n + 1 := ⟨a.length - 1, by have := List.length_pos_iff.mpr a0; omega⟩
  obtain ⟨m, hm⟩ : ∃ m, b.length = m + 1 := ⟨b.length - 1, by have := List.length_pos_iff.mpr b0; omega⟩
  have hc1 : ∀ i, cf c i = cau (cf a) (cf b) i := fun i => congrArg (fun s : Ps f => s.at' i) e
  have h1 : cf c (n + m) ≠ 0 := by
    rw [hc1, cau_top (m := m) (fun i hi => cf_out (by omega)) n (cf a) (fun i hi => cf_out (by omega))]
    exact h.dom (ha n hn) (hb m hm)
  have h2 : n + m < c.length := by
    rcases Nat.lt_or_ge (n + m) c.length with q | q
    · exact q
    · exact absurd (cf_out q) h1
  have h3 : ¬ n + m + 1 < c.length := fun q => by
    refine hc (c.length - 1) (by omega) ?_
    rw [hc1, cau_over (m := m) (fun i hi => cf_out (by omega)) n (cf a) (fun i hi => cf_out (by omega)) _ (by omega)]
  omega
/-- one polynomial divides another one -/
def PDvd (a b : List (Fe f)) : Prop := ∃ q : List (Fe f), Trimd q ∧ po b = po a * po q
theorem PDvd.zero (a : List (Fe f)) : PDvd a [] := ⟨[], Trimd.nil, by rw [po_nil]; grind⟩
theorem PDvd.refl (a : List (Fe f)) : PDvd a a := ⟨trimL [1], trimL_trimd _, by rw [po_trim, po_one]; grind⟩
theorem PDvd.comb {d a b c q : List (Fe f)} (ha : PDvd d a) (hb : PDvd d b) (e : po c = po q * po a + po b) : PDvd d c := by
  obtain ⟨x, hx, ex⟩ := ha
  obtain ⟨y, hy, ey⟩ := hb
  refine ⟨trimL (addL (mulL q x) 1 y), trimL_trimd _, ?_⟩
  rw [po_trim, po_add, po_mul, e, ex, ey]
  grind
theorem PDvd.less {d a b c q : List (Fe f)} (ha : PDvd d a) (hb : PDvd d b) (e : po c = po b - po q * po a) : PDvd d c := by
  obtain ⟨x, hx, ex⟩ := ha
  obtain ⟨y, hy, ey⟩ := hb
  refine ⟨trimL (addL y (-1) (mulL q x)), trimL_trimd _, ?_⟩
  rw [po_trim, po_less, po_mul, e, ex, ey]
  grind
theorem PDvd.lin {d a b c u v : List (Fe f)} (ha : PDvd d a) (hb : PDvd d b) (e : po c = po u * po a + po v * po b) : PDvd d c := by
  obtain ⟨x, hx, ex⟩ := ha
  obtain ⟨y, hy, ey⟩ := hb
  refine ⟨trimL (addL (mulL u x) 1 (mulL v y)), trimL_trimd _, ?_⟩
  rw [po_trim, po_add, po_mul, po_mul, e, ex, ey]
  grind
theorem ne_po {a : List (Fe f)} (ha : Trimd a) (h : a ≠ []) : po a ≠ 0 := fun z => h (po_inj ha Trimd.nil (z.trans po_nil.symm))
theorem PDvd.len (h : Inv1 f) {a b : List (Fe f)} (ha : Trimd a) (hb : Trimd b) (d : PDvd a b) (b0 : b ≠ []) : a.length ≤ b.length ∧ a ≠ [] := by
  obtain ⟨q, hq, e⟩ := d
  have a0 : a ≠ [] := fun z => by
    subst z
    refine ne_po hb b0 ?_
    rw [e, po_nil]
    grind
  have q0 : q ≠ [] := fun z => by
    subst z
    refine ne_po hb b0 ?_
    rw [e, po_nil]
    grind
  have := len_mul h ha hq hb e a0 q0
  have := List.length_pos_iff.mpr q0
  exact ⟨by omega, a0⟩
def Monic (a : List (Fe f)) : Prop := ∀ n, a.length = n + 1 → cf a n = 1
/-- two monic polynomials that divide each other -/
theorem PDvd.anti (h : Inv1 f) {a b : List (Fe f)} (ha : Trimd a) (hb : Trimd b) (ma : Monic a) (mb : Monic b) (d1 : PDvd a b) (d2 : PDvd b a) (b0 : b ≠ []) : a = b := by
  have l1 := d1.len h ha hb b0
  have l2 := d2.len h hb ha l1.2
  obtain ⟨q, hq, e⟩ := d1
  have q0 : q ≠ [] := fun z => by
    subst z
    refine ne_po hb b0 ?_
    rw [e, po_nil]
    grind
  have hl := len_mul h ha hq hb e l1.2 q0
  obtain ⟨c, rfl⟩ : ∃ c, q = [c] := by
    match q, q0, (show q.length = 1 by omega) with
    | [c], _, _ => exact ⟨c, rfl⟩
  obtain ⟨n, hn⟩ : ∃ n, a.length = n + 1 := ⟨a.length - 1, by have := List.length_pos_iff.mpr l1.2; omega⟩
  have hc : cf b n = cf a n * c := by
    have h1 : (po b).at' n = cau (cf a) (cf [c]) n := congrArg (fun s : Ps f => s.at' n) e
    rw [show n = n + 0 by omega, cau_top (m := 0) (fun i hi => cf_out (xs := [c]) (by show 1 ≤ i; omega)) n (cf a) (fun i hi => cf_out (by omega))] at h1
    exact h1
  rw [ma n hn, mb n (by omega)] at hc
  have c1 : c = 1 := by grind
  subst c1
  refine po_inj ha hb ?_
  rw [e, po_one]
  grind
end
end My
set_option linter.all false
set_option maxRecDepth 100000
set_option maxHeartbeats 1000000
namespace My
/-! division with remainder, and the steps to the greatest common divisor -/
section
variable {f : FPar}
structure DivP (a d q r : List (Fe f)) : Prop where
  tq : Trimd q
  tr : Trimd r
  lr : r.length < d.length
  eq : po a = po d * po q + po r
  lq : q = [] ∨ q.length + d.length ≤ a.length + 1
def scM (a : List (Fe f)) : Nat := a.length
theorem mul_len (a b : List (Fe f)) : (trimL (mulL a b)).length + 1 ≤ a.length + b.length ∨ trimL (mulL a b) = [] := by
  rcases Nat.eq_zero_or_pos a.length with h | h
  · right
    refine (trimL_congr (ys := []) fun i => ?_).trans rfl
    have : a = [] := List.length_eq_zero_iff.mp h
    subst this
    have h1 : (po (mulL ([] : List (Fe f)) b)).at' i = 0 := by
      rw [po_mul, po_nil, ← psz_at (f := f) i]
      congr 1
      grind
    rw [cf_out (xs := ([] : List (Fe f))) (by show 0 ≤ i; omega)]
    exact h1
  · rcases Nat.eq_zero_or_pos b.length with h' | h'
    · right
      refine (trimL_congr (ys := []) fun i => ?_).trans rfl
      have : b = [] := List.length_eq_zero_iff.mp h'
      subst this
      have h1 : (po (mulL a ([] : List (Fe f)))).at' i = 0 := by
        rw [po_mul, po_nil, ← psz_at (f := f) i]
        congr 1
        grind
      rw [cf_out (xs := ([] : List (Fe f))) (by show 0 ≤ i; omega)]
      exact h1
    · left
      rcases Nat.lt_or_ge (trimL (mulL a b)).length (a.length + b.length) with q | q
      · omega
      · exfalso
        refine trimL_trimd (mulL a b) ((trimL (mulL a b)).length - 1) (by omega) ?_
        rw [cf_trimL]
        have h1 : (po (mulL a b)).at' ((trimL (mulL a b)).length - 1) = 0 := by
          rw [po_mul, psm_at]
          exact cau_over (m := b.length - 1) (fun i hi => cf_out (by omega)) (a.length - 1) _ (fun i hi => cf_out (by omega)) _ (by omega)
        exact h1
theorem sub_len (a b : List (Fe f)) : (trimL (addL a (-1) b)).length ≤ max a.length b.length := by
  have := trimL_len (addL a (-1) b)
  rw [addL_len] at this
  exact this
/-- what a step makes of a factor -/
def nextW (w0 q w1 : List (Fe f)) : List (Fe f) := trimL (addL w0 (-1) (trimL (mulL q w1)))
theorem po_nextW (w0 q w1 : List (Fe f)) : po (nextW w0 q w1) = po w0 - po q * po w1 := by
  unfold nextW
  rw [po_trim, po_less, po_trim, po_mul]
theorem nextW_trimd (w0 q w1 : List (Fe f)) : Trimd (nextW w0 q w1) := trimL_trimd _
/-- bounds of a factor beside the two remainders -/
structure Wb (M : Nat) (r0 r1 w0 w1 : List (Fe f)) : Prop where
  b01 : w0.length + r1.length ≤ M + 1
  b10 : w1.length + r0.length ≤ M + 1
  b11 : w1.length + r1.length ≤ M + 1
theorem nextW_len {w0 q w1 r0 r1 r2 : List (Fe f)} {M : Nat} (d : DivP r0 r1 q r2) (h0 : w0.length + r1.length ≤ M) (h1 : w1.length + r0.length ≤ M) : (nextW w0 q w1).length + r1.length ≤ M := by
  have h2 := sub_len w0 (trimL (mulL q w1))
  have h3 := mul_len q w1
  unfold nextW
  rcases h3 with h3 | h3
  · rcases d.lq with z | z
    · subst z
      have : (trimL (mulL ([] : List (Fe f)) w1)).length ≤ w1.length := by
        have := h3
        show _
        simp only [List.length_nil] at this
        omega
      have h4 : (trimL (mulL ([] : List (Fe f)) w1)).length + 1 ≤ w1.length := by
        have := h3
        simp only [List.length_nil] at this
        omega
      rcases mul_len ([] : List (Fe f)) w1 with _ | h5
      · have h6 : trimL (mulL ([] : List (Fe f)) w1) = [] := by
          refine po_inj (trimL_trimd _) Trimd.nil ?_
          rw [po_trim, po_mul, po_nil]
          grind
        rw [h6] at h2 ⊢
        simp only [List.length_nil] at h2
        omega
      · rw [h5] at h2 ⊢
        simp only [List.length_nil] at h2
        omega
    · omega
  · rw [h3] at h2 ⊢
    simp only [List.length_nil] at h2
    omega
theorem Wb.next {M : Nat} {r0 r1 r2 q w0 w1 : List (Fe f)} (h : Wb M r0 r1 w0 w1) (d : DivP r0 r1 q r2) : Wb M r1 r2 w1 (nextW w0 q w1) := by
  have h1 := nextW_len (M := M + 1) d h.b01 h.b10
  have h2 := d.lr
  exact ⟨by have := h.b11; omega, h1, by omega⟩
structure EucP (a b r0 u0 v0 r1 u1 v1 : List (Fe f)) : Prop where
  t0 : Trimd r0
  t1 : Trimd r1
  tu0 : Trimd u0
  tu1 : Trimd u1
  tv0 : Trimd v0
  tv1 : Trimd v1
  e0 : po r0 = po u0 * po a + po v0 * po b
  e1 : po r1 = po u1 * po a + po v1 * po b
  dv : ∀ d : List (Fe f), PDvd d r0 → PDvd d r1 → PDvd d a ∧ PDvd d b
  bu : Wb (max a.length b.length) r0 r1 u0 u1
  bv : Wb (max a.length b.length) r0 r1 v0 v1
  fin : (r0 = a ∧ u0 = trimL [1] ∧ v0 = [] ∧ r1 = b ∧ u1 = [] ∧ v1 = trimL [1]) ∨ (b ≠ [] ∧ r0 ≠ [] ∧ r1.length < r0.length ∧ u0.length + r0.length ≤ b.length ∧ u1.length + r0.length ≤ b.length + 1)
  l0 : r0.length ≤ max a.length b.length
  l1 : r1.length ≤ max a.length b.length
theorem one_len : (trimL ([1] : List (Fe f))).length ≤ 1 := trimL_len _
theorem EucP.start {a b : List (Fe f)} (ha : Trimd a) (hb : Trimd b) : EucP a b a (trimL [1]) [] b [] (trimL [1]) := by
  have h1 := one_len (f := f)
  refine ⟨ha, hb, trimL_trimd _, Trimd.nil, Trimd.nil, trimL_trimd _, ?_, ?_, fun d h1 h2 => ⟨h1, h2⟩, ⟨?_, ?_, ?_⟩, ⟨?_, ?_, ?_⟩, .inl ⟨rfl, rfl, rfl, rfl, rfl, rfl⟩, by omega, by omega⟩
  · rw [po_trim, po_one, po_nil]
    grind
  · rw [po_trim, po_one, po_nil]
    grind
  all_goals try simp only [List.length_nil]
  all_goals omega
theorem EucP.step {a b r0 u0 v0 r1 u1 v1 q r2 : List (Fe f)} (h : EucP a b r0 u0 v0 r1 u1 v1) (n : r1 ≠ []) (d : DivP r0 r1 q r2) : EucP a b r1 u1 v1 r2 (nextW u0 q u1) (nextW v0 q v1) := by
  have e := d.eq
  refine ⟨h.t1, d.tr, h.tu1, nextW_trimd _ _ _, h.tv1, nextW_trimd _ _ _, h.e1, ?_, ?_, h.bu.next d, h.bv.next d, .inr ?_, h.l1, by have := d.lr; have := h.l1; omega⟩
  · rw [po_nextW, po_nextW]
    have := h.e0
    have := h.e1
    grind
  · intro c h1 h2
    exact h.dv c (h1.comb (q := q) h2 (by rw [e]; grind)) h1
  · rcases h.fin with ⟨rfl, rfl, rfl, rfl, rfl, rfl⟩ | ⟨b0, r0n, lt, f0, f1⟩
    · refine ⟨n, n, d.lr, by simp only [List.length_nil]; omega, ?_⟩
      have h1 := one_len (f := f)
      have h3 : (nextW (trimL ([1] : List (Fe f))) q []).length ≤ 1 := by
        unfold nextW
        have h4 : trimL (mulL q ([] : List (Fe f))) = [] := by
          refine po_inj (trimL_trimd _) Trimd.nil ?_
          rw [po_trim, po_mul, po_nil]
          grind
        rw [h4]
        have := sub_len (trimL ([1] : List (Fe f))) []
        simp only [List.length_nil] at this
        omega
      omega
    · refine ⟨b0, n, d.lr, by omega, ?_⟩
      exact nextW_len (M := b.length + 1) d (by omega) f1
/-- the answer -/
structure BezP (a b g u v : List (Fe f)) : Prop where
  tg : Trimd g
  tu : Trimd u
  tv : Trimd v
  eq : po g = po u * po a + po v * po b
  da : PDvd g a
  db : PDvd g b
  mo : Monic g
  z0 : a = [] → b = [] → g = [] ∧ u = [] ∧ v = []
  nz : ¬ (a = [] ∧ b = []) → g ≠ []
  lu : b ≠ [] → u.length + g.length ≤ b.length
  l1 : b = [] → v = [] ∧ u.length = min 1 a.length
  sg : g.length ≤ max a.length b.length
  su : u.length ≤ max a.length b.length + 1
  sv : v.length ≤ max a.length b.length + 1
theorem BezP.uniq (h : Inv1 f) {a b g u v g' u' v' : List (Fe f)} (x : BezP a b g u v) (y : BezP b a g' u' v') : g = g' := by
  by_cases z : a = [] ∧ b = []
  · rw [(x.z0 z.1 z.2).1, (y.z0 z.2 z.1).1]
  · have d1 : PDvd g g' := x.db.lin x.da y.eq
    have d2 : PDvd g' g := y.db.lin y.da x.eq
    exact d1.anti h x.tg y.tg x.mo y.mo d2 (y.nz fun q => z ⟨q.2, q.1⟩)
end
end My
set_option linter.all false
set_option maxRecDepth 100000
set_option maxHeartbeats 1000000
namespace My
section
variable {f : FPar}
theorem fe_10 : (1 : Fe f) ≠ 0 := fun h => by
  have := congrArg (fun a : Fe f => a.1) h
  simp only [fe_one, fe_zero] at this
  omega
theorem trimd_one : Trimd ([1] : List (Fe f)) := fun n h => by
  have : n = 0 := by simp only [List.length_cons, List.length_nil] at h; omega
  subst this
  exact fe_10
theorem PDvd.of_zero {a : List (Fe f)} (ha : Trimd a) (h : PDvd [] a) : a = [] := by
  obtain ⟨q, _, e⟩ := h
  refine po_inj ha Trimd.nil ?_
  rw [e, po_nil]
  grind
theorem BezP.zero : BezP (f := f) [] [] [] [] [] :=
  ⟨Trimd.nil, Trimd.nil, Trimd.nil, by rw [po_nil]; grind, PDvd.zero _, PDvd.zero _, (fun n h => by cases h), (fun _ _ => ⟨rfl, rfl, rfl⟩), (fun h => absurd ⟨rfl, rfl⟩ h), (fun h => absurd rfl h), (fun _ => ⟨rfl, rfl⟩), Nat.zero_le _, Nat.zero_le _, Nat.zero_le _⟩
theorem EucP.none {a b u0 v0 u1 v1 : List (Fe f)} (ha : Trimd a) (hb : Trimd b) (h : EucP a b [] u0 v0 [] u1 v1) : a = [] ∧ b = [] :=
  ⟨PDvd.of_zero ha (h.dv [] (.refl _) (.refl _)).1, PDvd.of_zero hb (h.dv [] (.refl _) (.refl _)).2⟩
theorem scale_len (c : Fe f) (a : List (Fe f)) : (trimL (scaleL c a)).length ≤ a.length := by
  have := trimL_len (scaleL c a)
  unfold scaleL at this ⊢
  rw [List.length_map] at this
  exact this
theorem EucP.done {a b r0 u0 v0 u1 v1 : List (Fe f)} (h : EucP a b r0 u0 v0 [] u1 v1) (n : r0 ≠ []) {c : Fe f} (hc : cf r0 (r0.length - 1) * c = 1) : BezP a b (trimL (scaleL c r0)) (trimL (scaleL c u0)) (trimL (scaleL c v0)) := by
  have lp := List.length_pos_iff.mpr n
  have sl : (scaleL c r0).length = r0.length := by unfold scaleL; rw [List.length_map]
  have top : cf (scaleL c r0) (r0.length - 1) = 1 := by
    rw [cf_scaleL]
    grind
  have ts : Trimd (scaleL c r0) := fun k hk => by
    rw [show k = r0.length - 1 by omega, top]
    exact fe_10
  have hs : trimL (scaleL c r0) = scaleL c r0 := trimL_self ts
  have hl : (trimL (scaleL c r0)).length = r0.length := by rw [hs, sl]
  have pg : po r0 = po (trimL (scaleL c r0)) * po [cf r0 (r0.length - 1)] := by
    rw [po_trim, po_scale]
    have h1 : po [c] * po [cf r0 (r0.length - 1)] = (1 : Ps f) := by
      rw [← po_scale, ← po_one]
      refine congrArg po ?_
      show [c * cf r0 (r0.length - 1)] = [1]
      rw [show c * cf r0 (r0.length - 1) = 1 by grind]
    grind
  have dvd : ∀ {x : List (Fe f)}, PDvd r0 x → PDvd (trimL (scaleL c r0)) x := fun {x} hx => by
    obtain ⟨q, _, e⟩ := hx
    refine ⟨trimL (mulL [cf r0 (r0.length - 1)] q), trimL_trimd _, ?_⟩
    have h2 : po (trimL (mulL [cf r0 (r0.length - 1)] q)) = po [cf r0 (r0.length - 1)] * po q := by rw [po_trim, po_mul]
    rw [h2, e]
    have := pg
    grind
  obtain ⟨d1, d2⟩ := h.dv r0 (.refl _) (.zero _)
  have l0 := h.l0
  have hu := scale_len c u0
  have hv := scale_len c v0
  refine ⟨trimL_trimd _, trimL_trimd _, trimL_trimd _, ?_, dvd d1, dvd d2, fun k hk => ?_, fun x y => ?_, fun _ z => ?_, fun hb => ?_, fun hb => ?_, by omega, ?_, ?_⟩
  · rw [po_trim, po_trim, po_trim, po_scale, po_scale, po_scale, h.e0]
    grind
  · rw [show k = r0.length - 1 by omega, hs]
    exact top
  · subst x y
    simp only [List.length_nil] at l0
    omega
  · have := congrArg List.length z
    simp only [List.length_nil] at this
    omega
  · rcases h.fin with ⟨_, _, _, hb', _, _⟩ | ⟨_, _, _, f0, _⟩
    · exact absurd hb'.symm hb
    · omega
  · rcases h.fin with ⟨ra, ru, rv, _, _, _⟩ | ⟨b0, _⟩
    · subst rv ru
      have c0 : c ≠ 0 := fun z => by
        subst z
        exact fe_10 (f := f) (by grind)
      refine ⟨po_inj (trimL_trimd _) Trimd.nil (by rw [po_trim, po_scale, po_nil]; grind), ?_⟩
      rw [trimL_self trimd_one, trimL_self (xs := scaleL c [1])]
      · show 1 = _
        rw [← ra]
        omega
      · intro k hk
        have : k = 0 := by
          have : (scaleL c ([1] : List (Fe f))).length = 1 := rfl
          omega
        subst this
        show c * 1 ≠ 0
        intro z
        exact c0 (by grind)
    · exact absurd hb b0
  · have := h.bu.b01
    simp only [List.length_nil] at this
    omega
  · have := h.bv.b01
    simp only [List.length_nil] at this
    omega
end
end My
set_option Elab.async false
set_option linter.all false
set_option maxRecDepth 100000
set_option maxHeartbeats 1000000
namespace MyS
open PySem PySem.Spec PyProof.Rows L2
theorem open_bounds {a n : Nat} (h : a ≤ n) : sliceBounds (some (a : Int)) none none n = ((a : Int), (n : Int), 1) := by
  simp only [sliceBounds, Option.getD_none, show ¬ ((a : Int) < 0) by omega, if_false, show (1 : Int) > 0 by decide, if_true]
  congr 1
  omega
theorem open_splice (its its2 : List Value) (a : Nat) : its.toArray.extract 0 a ++ its2.toArray ++ its.toArray.extract its.toArray.size its.toArray.size = (its.take a ++ its2).toArray := by
  apply Array.toList_inj.mp
  simp
section
variable {w : World} {prog : Program} {s : Shared} {A : Around} {E : Value → Shared → Prop}
theorem setOpen {l b sl : Addr} {xs ys : Array Value} {n n2 : Nat} {vl vu : Value} {a : Nat} {Q : Unit → Shared → Prop} (e : s.heap.get? l = some { cls := .type "list", data := .seq xs n }) (e2 : s.heap.get? b = some { cls := .type "list", data := .seq ys n2 })
    (hne : l ≠ b) (hs : s.heap.IsSliceOf sl vl vu .none) (pl : IsPart vl (some (a : Int))) (pu : IsPart vu none) (ha : a ≤ xs.size) (hz : xs.size + ys.size ≤ sizeLine) (h : Q () { s with heap := s.heap.update l (Obj.mapSeq fun zs => zs.extract 0 a ++ ys ++ zs.extract xs.size zs.size) }) : wpAny (model prog w) A (setItem (.ref l) (.ref sl) (.ref b)) Q E s := by
  have L := PySem.IsL.isList e; have B := PySem.IsL.isList e2
  obtain ⟨o, ho, hc, hd⟩ := id hs
  have S : s.TypeIs (.ref sl) "slice" := ⟨o, ho, hc⟩
  have R : Builtin.List.listSameRef (.ref l) (.ref b) = false := by unfold Builtin.List.listSameRef; exact beq_eq_false_iff_ne.mpr hne
  have M : (max (a : Int) (xs.size : Int)).toNat = xs.size := by omega
  unfold setItem; (try with_reducible refine wpAny_holding ?_); (first | refine wpAny_bind (wpAny_pure ?_) | skip)
  refine wpAny_bind (wpAny_sequenceKey L.typeIs (by decide) (wpAny_bind (wpAny_callSpecial?_slot (name := Str.ofString "__setitem__") L.typeIs slot_list_setitem (wpAny_call_entry slot_list_setitem L.typeIs entry_list_setitem ?_ (args_list_setitem _ _ _)))))
  show wpAny _ _ (Builtin.List.listSubscript? (.ref sl) >>= _) _ _ s; refine wpAny_bind ?_; unfold Builtin.List.listSubscript?; refine wpAny_bind (wpAny_specialOf S slice_no_index ?_); simp only [Option.isNone_none, if_true]; refine wpAny_pure ?_
  show wpAny _ _ (typeOf (.ref sl) >>= _) _ _ s; refine wpAny_bind (wpAny_typeOf S ?_)
  first | rw [if_neg (by decide)] | refine PySem.W.KFB.if_not (by decide) ?_
  rw [listSliceParts_eq]; refine wpAny_bind (wpAny_bind (wpAny_field ho hd (x := .none) rfl (wpAny_bind (wpAny_listPart .none ?_)))); rw [if_neg (show ¬ ((rawPart none == rawInt 0) = true) from Bool.false_ne_true)]
  refine wpAny_bind (wpAny_field ho hd (x := vl) rfl (wpAny_bind (wpAny_listPart pl (wpAny_bind (wpAny_field ho hd (x := vu) rfl (wpAny_bind (wpAny_listPart pu (wpAny_pure ?_))))))))
  first | simp only [R, Bool.false_eq_true, if_false] | refine PySem.W.KFB.if_not R ?_ | (dsimp only; rw [if_neg (by rw [R]; exact Bool.false_ne_true)])
  refine wpAny_bind (m := Builtin.List.listAllItems (.ref b) "must assign iterable to extended slice") ?_; unfold Builtin.List.listAllItems; refine wpAny_bind (wpAny_typeOf B.typeIs ?_)
  first | refine PySem.W.KFB.if_so (by decide) ?_ | rw [if_pos (by decide)] | simp only [beq_self_eq_true, Bool.true_or, if_true]
  unfold Builtin.List.listItems; refine wpAny_bind (wpAny_seqItems e2 rfl (wpAny_pure (wpAny_bind (wpAny_bind (wpAny_seqItems e rfl (wpAny_pure ?_))))))
  refine wpAny_bind (wpAny_of_eq ((sliceIndices_raw (some (a : Int)) none none xs.size (by simp)).trans (congrArg (pure : Int × Int × Int → Sem (Int × Int × Int)) (open_bounds ha))) ?_)
  show wpAny _ _ (if ((1 : Int) == 1) = true then _ else _) _ _ s; rw [if_pos (by decide)]; refine wpAny_bind (wpAny_rule ?_)
  first | simp only [notLongL hz, Bool.false_eq_true, if_false] | refine PySem.W.KFB.if_not (notLongL hz) ?_
  (first | refine wpAny_bind (wpAny_pure ?_) | skip); show wpAny _ _ (updateSeq l (fun zs => zs.extract 0 ((a : Int)).toNat ++ ys ++ zs.extract (max (a : Int) (xs.size : Int)).toNat zs.size) >>= _) _ _ s
  rw [M, Int.toNat_natCast]
  refine wpAny_bind (wpAny_updateSeq (hz := Nat.le_trans (Nat.le_add_right _ _) hz) (_hz' := by simp only [Array.size_append, Array.size_extract]; omega) e rfl (wpAny_bind (wpAny_letGo ?_)))
  first | exact wpAny_bind (wpAny_pure (wpAny_pure ⟨.none, rfl, wpAny_pure h⟩)) | exact wpAny_pure ⟨.none, rfl, wpAny_pure h⟩
end
/-- xs[a:] = ys, where ys is another list -/
def gSlo (to : TE) (tl : TO) : TG := fun v σ H Q => to σ H fun x H1 => tl σ H1 fun lo H2 => ∃ (l b : Addr) (xs ys : List V) (i : Nat), x = .ref l ∧ v = .ref b ∧ lo = some (i : Int) ∧ H2 l = some (.lst xs) ∧ H2 b = some (.lst ys) ∧ l ≠ b ∧ i ≤ xs.length ∧ xs.length + ys.length ≤ sizeLine ∧ Q σ (upd H2 l (.lst (xs.take i ++ ys)))
theorem pg_slo {X : Cx} {o : Expr} {lo : Option Expr} {pos p2 : Pos} {to : TE} {tl : TO} (ho : PE X o to) (hl : PO X lo tl)
    (ha : ∀ v, assign (.Subscript o (.Slice lo none none p2) pos) X.env v = (do
      let ov ← holding [v] (eval o X.env)
      let iv ← holding [v, ov] (eval (.Slice lo none none p2) X.env)
      standAt pos
      holding [v, ov, iv] (setItem ov iv v)
      release [iv, v, ov] []) := by intro _; rfl) : PG X (.Subscript o (.Slice lo none none p2) pos) (gSlo to tl) := by
  refine ⟨?_⟩
  intro pins s σ H v u Q I r h
  rw [ha]
  refine wpAny_bind (wpAny_holding (thn (ho.run pins s σ H _ I h) ?_))
  rintro ov s1 ⟨x, H1, I1, r1, h1⟩
  refine wpAny_bind (wpAny_holding ?_)
  refine wpAny_Slice (thn (hl.run pins s1 σ H1 _ I1 h1) ?_)
  rintro vl s2 ⟨a, H2, I2, pl, h2⟩
  rw [evalPart_none]
  refine wpAny_pure (wpAny_pure ?_)
  obtain ⟨l, b, xs, ys, i, ex, ev, ea, hL, hB, hne, hi, hz, q⟩ := h2
  subst ex ev ea
  obtain rfl : ov = Value.ref l := r1
  obtain rfl : u = Value.ref b := r
  have I4 : Inv X pins σ H2 { s2 with heap := s2.heap.push { cls := .type "slice", data := .fields #[vl, .none, .none] } } := I2.kept (t' := s2.toks) fun _ _ z => Heap.get?_push_of_some _ z
  refine wpAny_bind (wpAny_standAt (wpAny_bind (wpAny_holding ?_)))
  obtain ⟨z, its, n, r, hl, e⟩ := I4.lstM hL
  obtain ⟨z2, its2, n2, r2, hl2, e2⟩ := I4.lstM hB
  refine setOpen (sl := s2.heap.objs.size) (vl := vl) (vu := .none) (a := i) e e2 hne (Heap.IsSliceOf.new ..) pl .none (by rw [List.size_toArray]; omega) (by rw [List.size_toArray, List.size_toArray]; omega) ?_
  refine wpAny_release ⟨σ, _, I4.lset (its' := its.take i ++ its2) (t' := _) hL e ?_ (Vals.append (r.take _) r2) ?_, q⟩
  · exact open_splice its its2 i
  · rw [List.length_append, List.length_take]
    omega
end MyS
set_option linter.all false
set_option maxRecDepth 100000
set_option maxHeartbeats 1000000
namespace My
section
variable {f : FPar}
theorem cf_append (xs ys : List (Fe f)) (i : Nat) : cf (xs ++ ys) i = if i < xs.length then cf xs i else cf ys (i - xs.length) := by
  unfold cf
  rw [List.getD_eq_getElem?_getD, List.getElem?_append]
  split <;> rw [List.getD_eq_getElem?_getD]
theorem cf_drop (xs : List (Fe f)) (s i : Nat) : cf (xs.drop s) i = cf xs (s + i) := by
  unfold cf
  rw [List.getD_eq_getElem?_getD, List.getElem?_drop, List.getD_eq_getElem?_getD]
theorem cf_init (xs : List (Fe f)) (i : Nat) : cf xs.dropLast i = if i < xs.length - 1 then cf xs i else 0 := by
  rw [List.dropLast_eq_take, cf_take]
/-- the rest after a step of the division -/
def divR (d : List (Fe f)) (nb : Nat) (t : Fe f) (r : List (Fe f)) : List (Fe f) := r.dropLast.take (r.length - 1 - nb) ++ zipM (r.dropLast.drop (r.length - 1 - nb)) (-t) (d.take nb)
theorem divR_len {d : List (Fe f)} {nb : Nat} {t : Fe f} {r : List (Fe f)} (hd : d.length = nb + 1) (h : nb < r.length) : (divR d nb t r).length = r.length - 1 := by
  unfold divR zipM
  rw [List.length_append, List.length_take, List.length_map, List.length_range, List.length_drop, List.length_take, List.length_dropLast]
  omega
def mono (s : Nat) (t : Fe f) : Ps f := ⟨fun i => t * dl s i⟩
theorem mono_at (d : List (Fe f)) (s : Nat) (t : Fe f) (i : Nat) : (po d * mono s t).at' i = t * sh s (cf d) i := by
  rw [psm_at]
  show cau (cf d) (fun i => t * dl s i) i = _
  rw [cau_comm, cau_sml, cau_dl]
theorem div_step {d r : List (Fe f)} {nb : Nat} {iv : Fe f} (hd : d.length = nb + 1) (hi : cf d nb * iv = 1) (h : nb < r.length) : po r = po d * mono (r.length - 1 - nb) (cf r (r.length - 1) * iv) + po (divR d nb (cf r (r.length - 1) * iv) r) := ps_ext fun i => by
  rw [psa_at, mono_at, po_at, po_at]
  generalize ht : cf r (r.length - 1) * iv = t
  have hl := divR_len (t := t) hd h
  unfold divR
  have lt : (r.dropLast.take (r.length - 1 - nb)).length = r.length - 1 - nb := by rw [List.length_take, List.length_dropLast]; omega
  rw [cf_append, lt, cf_take, cf_init]
  unfold sh
  by_cases h1 : i < r.length - 1 - nb
  · rw [if_pos h1, if_pos h1, if_pos h1, if_pos (by omega)]
    grind
  · rw [if_neg h1, if_neg h1]
    unfold zipM
    rw [cf_range]
    have lm : min (r.dropLast.drop (r.length - 1 - nb)).length (d.take nb).length = nb := by
      rw [List.length_drop, List.length_dropLast, List.length_take]
      omega
    rw [lm]
    by_cases h2 : i < r.length - 1
    · rw [if_pos (by omega), cf_drop, cf_init, cf_take, if_pos (by omega), if_pos (by omega), show r.length - 1 - nb + (i - (r.length - 1 - nb)) = i by omega]
      grind
    · rw [if_neg (by omega)]
      by_cases h3 : i = r.length - 1
      · rw [h3, show r.length - 1 - (r.length - 1 - nb) = nb by omega, ← ht]
        grind
      · rw [cf_out (xs := r) (by omega), cf_out (xs := d) (by omega)]
        grind
/-- the quotient so far -/
def quoS (qs : List (Fe f)) (s : Nat) : Ps f := ⟨sh s (cf qs.reverse)⟩
theorem quoS_nil (s : Nat) : quoS ([] : List (Fe f)) s = 0 := ps_ext fun i => by
  rw [psz_at]
  show sh s (cf []) i = 0
  unfold sh
  split
  · rfl
  · exact cf_out (xs := ([] : List (Fe f))) (by show 0 ≤ _; omega)
theorem quoS_next (qs : List (Fe f)) (s : Nat) (t : Fe f) : quoS (qs ++ [t]) s = mono s t + quoS qs (s + 1) := ps_ext fun i => by
  rw [psa_at]
  show sh s (cf (qs ++ [t]).reverse) i = t * dl s i + sh (s + 1) (cf qs.reverse) i
  rw [List.reverse_append]
  show sh s (cf ([t] ++ qs.reverse)) i = _
  unfold sh dl
  rcases Nat.lt_trichotomy i s with h | h | h
  · rw [if_pos h, if_neg (by omega), if_pos (by omega)]
    grind
  · subst h
    rw [if_neg (by omega), if_pos rfl, if_pos (by omega), cf_append, if_pos (by rw [Nat.sub_self]; show 0 < 1; decide), Nat.sub_self]
    show t = t * 1 + 0
    grind
  · rw [if_neg (by omega), if_neg (by omega), if_neg (by omega), cf_append, if_neg (by show ¬ i - s < 1; omega)]
    rw [show i - s - [t].length = i - (s + 1) by show i - s - 1 = _; omega]
    grind
theorem quoS_zero (qs : List (Fe f)) : quoS qs 0 = po qs.reverse := ps_ext fun i => by
  show sh 0 (cf qs.reverse) i = cf qs.reverse i
  unfold sh
  rw [if_neg (by omega)]
  rfl
/-- where the division stands -/
structure DivS (a d : List (Fe f)) (nb : Nat) (qs r : List (Fe f)) : Prop where
  len : qs.length + r.length = a.length
  eq : po a = po d * quoS qs (r.length - nb) + po r
  top : ∀ n, qs.length = n + 1 → cf qs 0 ≠ 0
  rn : qs ≠ [] → nb ≤ r.length
theorem DivS.start (a d : List (Fe f)) (nb : Nat) : DivS a d nb [] a := ⟨Nat.zero_add _, by rw [quoS_nil]; grind, fun n h => (by cases h), fun h => absurd rfl h⟩
theorem DivS.step (dm : Inv1 f) {a d qs r : List (Fe f)} {nb : Nat} {iv : Fe f} (ta : Trimd a) (hd : d.length = nb + 1) (hi : cf d nb * iv = 1) (h : DivS a d nb qs r) (hr : nb < r.length) :
    DivS a d nb (qs ++ [cf r (r.length - 1) * iv]) (divR d nb (cf r (r.length - 1) * iv) r) := by
  have hl := divR_len (t := cf r (r.length - 1) * iv) hd hr
  have iv0 : iv ≠ 0 := fun z => by
    subst z
    exact fe_10 (f := f) (by grind)
  refine ⟨by rw [List.length_append, hl]; have := h.len; show _ + 1 + _ = _; omega, ?_, fun n hn => ?_, fun _ => by omega⟩
  · rw [hl, quoS_next, h.eq]
    have h1 := div_step hd hi hr
    rw [show r.length - 1 - nb + 1 = r.length - nb by omega]
    grind
  · by_cases q : qs = []
    · subst q
      have hra : po a = po r := by
        rw [h.eq, quoS_nil]
        grind
      show cf r (r.length - 1) * iv ≠ 0
      refine dm.dom ?_ iv0
      rw [← po_at r, ← hra]
      refine ta (r.length - 1) ?_
      have := h.len
      simp only [List.length_nil] at this
      omega
    · rw [cf_append, if_pos (List.length_pos_iff.mpr q)]
      exact h.top (qs.length - 1) (by have := List.length_pos_iff.mpr q; omega)
theorem DivS.done {a d qs r : List (Fe f)} {nb : Nat} (hd : d.length = nb + 1) (h : DivS a d nb qs r) (hr : ¬ nb < r.length) : DivP a d qs.reverse (trimL r) := by
  have hq : quoS qs (r.length - nb) = po qs.reverse := by rw [show r.length - nb = 0 by omega, quoS_zero]
  refine ⟨fun n hn => ?_, trimL_trimd _, by have := trimL_len r; omega, by rw [po_trim, h.eq, hq], ?_⟩
  · rw [List.length_reverse] at hn
    have h1 := h.top n hn
    unfold cf at h1 ⊢
    rw [List.getD_eq_getElem?_getD, List.getElem?_reverse (by omega), ← List.getD_eq_getElem?_getD, show qs.length - 1 - n = 0 by omega]
    exact h1
  · by_cases q : qs = []
    · left
      rw [q]
      rfl
    · right
      have := h.rn q
      have := h.len
      rw [List.length_reverse]
      omega
/-- a divisor's remainder is zero -/
theorem DivP.exact (dm : Inv1 f) {a d q r : List (Fe f)} (td : Trimd d) (h : DivP a d q r) (hd : PDvd d a) : r = [] := by
  by_cases z : r = []
  · exact z
  · obtain ⟨x, hx, e⟩ := hd
    have h1 : PDvd d r := by
      refine ⟨trimL (addL x (-1) q), trimL_trimd _, ?_⟩
      have := h.eq
      rw [po_trim, po_less]
      grind
    have := (h1.len dm td h.tr z).1
    have := h.lr
    omega
end
end My
set_option Elab.async false
set_option linter.all false
set_option maxRecDepth 100000
set_option maxHeartbeats 2000000
namespace My
open PySem L2 Evl GxR MyG MyS
local macro_rules | `(tactic| walk_at "ev") => `(tactic| repeat' (first
  | exact ev_c
  | exact ev_var rfl
  | exact ea_nil
  | exact eo_none
  | (refine' ev_cb ?ea (rc_len ?sq); (case ea => walk_at "evs"); (case sq => walk_at "sq"))
  | (refine' ev_op ?a ?b (rv_ixL ?sq ?ix); (case a => walk_at "evs"); (case b => walk_at "evs"); (case sq => walk_at "sq"); (case ix => walk_at "at"))
  | refine' ea_cons ?_ ?_
  | refine' eo_some ?_
  | refine' ev_op ?_ ?_ rv_I0
  | refine' ev_op ?_ ?_ (rv_eq ?_)
  | refine' ev_op ?_ ?_ (rv_ne ?_)
  | refine' ev_op ?_ ?_ (rv_I ?_)
  | refine' ev_un ?_ ru_neg
  | refine' ev_cb ?_ rc_int
  | refine' ev_cb ?_ rc_abs
  | refine' ev_cb ?_ rc_max2
  | refine' ev_andV ?_ ?_
  | refine' ev_notV ?_
  | refine' et_test ?_
  | refine' et_B ?_
  | refine' et_not ?_))
local macro_rules | `(tactic| walk_at "side") => `(tactic| first
  | rfl
  | decide
  | exact ⟨by decide, by decide⟩
  | exact .inr ⟨by decide, by decide⟩
  | exact .inl ⟨by decide, by decide⟩
  | omega
  | exact .inl ⟨by omega, by omega⟩
  | exact ⟨by omega, by omega⟩
  | exact .inr ⟨by omega, by omega⟩)
local macro_rules | `(tactic| walk_at "evs") => `(tactic| (walk_at "ev"; all_goals (walk_at "side")))
local macro_rules | `(tactic| walk_at "ex") => `(tactic| first
  | with_reducible exact Ex.refl _
  | with_reducible assumption
  | (refine' Ex.trans ?_ ?b; (case b => with_reducible assumption); walk_at "ex"))
local macro_rules | `(tactic| walk_at "sq") => `(tactic| first
  | (refine' sq_ex ?h ?e; (case h => with_reducible assumption); (case e => walk_at "ex"))
  | (refine' ex_l ?e ?h; (case h => with_reducible assumption); (case e => walk_at "ex"))
  | (refine' ex_l ?e ?h; (case h => assumption); (case e => walk_at "ex"))
  | assumption
  | exact sq_of (by assumption))
local macro_rules | `(tactic| walk_at "at") => `(tactic| first
  | exact at_int (by omega) (by omega)
  | exact atI_nat (j := 0) rfl
  | exact atI_nat (j := 1) rfl
  | exact atI_nat (j := 2) rfl)
local macro_rules | `(tactic| walk_at "side2") => `(tactic| first | exact CMul_bdl (by assumption) | exact CMul_bdr (by assumption) | walk_at "side")
local macro_rules | `(tactic| walk_at "evb") => `(tactic| (walk_at "ev"; all_goals (walk_at "side2")))

section
variable {P : Program} {w : World} {K : PySem.W.Frag} {mg : Str → Option Value} {base : Heap}
def spLPMul (K : PySem.W.Frag) : Sp := fun vs H Q _ => ∃ (c r1 r2 : Addr) (f : FPar) (xs ys : List (Fe f)), vs = [.int (f.p : Int), .ref c, .ref r1, .ref r2] ∧ FLF K H c f ∧ H r1 = some (.lst (xs.map fv)) ∧ H r2 = some (.lst (ys.map fv)) ∧ xs.length ≤ 400 ∧ ys.length ≤ 400 ∧ RetL ((trimL (mulL xs ys)).map fv) H Q
def spLVal (K : PySem.W.Frag) : Sp := fun vs H Q _ => ∃ (c r : Addr) (f : FPar) (t : Fe f) (xs : List (Fe f)), vs = [.int (f.p : Int), .ref c, .ref r, fv t] ∧ FLF K H c f ∧ SqL K H r (xs.map fv) ∧ RetV (fv (sumE (cf xs) t xs.length)) H Q
def spIsP (K : PySem.W.Frag) : Sp := fun vs H Q _ => ∃ (a : Addr) (f : FPar) (xs : List (Fe f)), vs = [.ref a, .int ((f.p ^ (f.e + 1) : Nat) : Int)] ∧ H a = some (.lst (xs.map fv)) ∧ Trimd xs ∧ RetV (.bl true) H Q
end
end My
set_option Elab.async false
set_option linter.all false
set_option maxRecDepth 100000
set_option maxHeartbeats 2000000
namespace My
open PySem L2 Evl GxR MyG MyS
local macro_rules | `(tactic| walk_at "ev") => `(tactic| repeat' (first
  | exact ev_c
  | exact ev_var rfl
  | exact ea_nil
  | exact eo_none
  | (refine' ev_cb ?ea (rc_len ?sq); (case ea => walk_at "evs"); (case sq => walk_at "sq"))
  | (refine' ev_op ?a ?b (rv_ixL ?sq ?ix); (case a => walk_at "evs"); (case b => walk_at "evs"); (case sq => walk_at "sq"); (case ix => walk_at "at"))
  | refine' ea_cons ?_ ?_
  | refine' eo_some ?_
  | refine' ev_op ?_ ?_ rv_I0
  | refine' ev_op ?_ ?_ (rv_eq ?_)
  | refine' ev_op ?_ ?_ (rv_ne ?_)
  | refine' ev_op ?_ ?_ (rv_I ?_)
  | refine' ev_un ?_ ru_neg
  | refine' ev_cb ?_ rc_int
  | refine' ev_cb ?_ rc_abs
  | refine' ev_cb ?_ rc_max2
  | refine' ev_andV ?_ ?_
  | refine' ev_notV ?_
  | refine' et_test ?_
  | refine' et_B ?_
  | refine' et_not ?_))
local macro_rules | `(tactic| walk_at "side") => `(tactic| first
  | rfl
  | decide
  | exact ⟨by decide, by decide⟩
  | exact .inr ⟨by decide, by decide⟩
  | exact .inl ⟨by decide, by decide⟩
  | omega
  | exact .inl ⟨by omega, by omega⟩
  | exact ⟨by omega, by omega⟩
  | exact .inr ⟨by omega, by omega⟩)
local macro_rules | `(tactic| walk_at "evs") => `(tactic| (walk_at "ev"; all_goals (walk_at "side")))
local macro_rules | `(tactic| walk_at "ex") => `(tactic| first
  | with_reducible exact Ex.refl _
  | with_reducible assumption
  | (refine' Ex.trans ?_ ?b; (case b => with_reducible assumption); walk_at "ex"))
local macro_rules | `(tactic| walk_at "sq") => `(tactic| first
  | (refine' sq_ex ?h ?e; (case h => with_reducible assumption); (case e => walk_at "ex"))
  | (refine' ex_l ?e ?h; (case h => with_reducible assumption); (case e => walk_at "ex"))
  | (refine' ex_l ?e ?h; (case h => assumption); (case e => walk_at "ex"))
  | assumption
  | exact sq_of (by assumption))
local macro_rules | `(tactic| walk_at "at") => `(tactic| first
  | exact at_int (by omega) (by omega)
  | exact atI_nat (j := 0) rfl
  | exact atI_nat (j := 1) rfl
  | exact atI_nat (j := 2) rfl)
local macro_rules | `(tactic| walk_at "side2") => `(tactic| first | exact CMul_bdl (by assumption) | exact CMul_bdr (by assumption) | walk_at "side")
local macro_rules | `(tactic| walk_at "evb") => `(tactic| (walk_at "ev"; all_goals (walk_at "side2")))

/-! arguments some of which are new -/
def EvAX (ta : TA) (σ : L2.St) (H : Hp) (P : List V → Hp → Prop) : Prop := ∀ H1, Ex H H1 → ∀ Q : List V → Hp → Prop, (∀ vs H2, Ex H1 H2 → P vs H2 → Q vs H2) → ta σ H1 Q
section
variable {K : PySem.W.Frag} {σ : L2.St} {H : Hp} {D : Ends} {tz : TS} {te ta tb : TE} {tr tA : TA} {v : V} {xs ys vs : List V} {P : List V → Hp → Prop} {sp : Sp} {E : XK}
theorem ax_nil : EvAX tNil σ H (fun ws _ => ws = []) := fun H1 _ Q q => q [] H1 (Ex.refl _) rfl
theorem ax_cons (h : Ev te σ H v) (hr : EvAX tr σ H P) : EvAX (tCons te tr) σ H (fun ws H => ∃ us, ws = v :: us ∧ P us H) := fun H1 e Q q =>
  h H1 e _ fun H2 e2 => hr H2 (e.trans e2) _ fun us H3 e3 p => q _ H3 (e2.trans e3) ⟨us, rfl, p⟩
theorem ax_consL (h : EvL te σ H xs) (hr : EvAX tr σ H P) : EvAX (tCons te tr) σ H (fun ws H => ∃ (p : Addr) (us : List V), ws = .ref p :: us ∧ H p = some (.lst xs) ∧ P us H) := fun H1 e Q q =>
  h H1 e _ fun p H2 np e2 h2 => hr H2 (e.trans e2) _ fun us H3 e3 hp => q _ H3 (e2.trans e3) ⟨p, us, rfl, e3 _ _ h2, hp⟩
theorem el_callX (h : EvAX tA σ H P) (hs : ∀ vs H1, Ex H H1 → P vs H1 → SpL sp vs H1 xs) : EvL (tCall sp [] E tA) σ H xs := fun H1 e Q q =>
  h H1 e _ fun vs H2 e2 hp => by
    rw [List.append_nil]
    exact hs vs H2 (e.trans e2) hp H2 (Ex.refl _) Q (fun p H3 np e3 h3 => q p H3 (fresh_back e2 np) (e2.trans e3) h3) E
theorem ev_callX {z : V} (h : EvAX tA σ H P) (hs : ∀ vs H1, Ex H H1 → P vs H1 → SpV sp vs H1 z) : Ev (tCall sp [] E tA) σ H z := fun H1 e Q q =>
  h H1 e _ fun vs H2 e2 hp => by
    rw [List.append_nil]
    exact hs vs H2 (e.trans e2) hp H2 (Ex.refl _) Q (fun H3 e3 => q H3 (e2.trans e3)) E
/-- a comprehension over a written list -/
theorem el_lcAX {j n : Nat} {ws : List Nat} (val : Nat → V) (h : EvAX tA σ H P) (hl : ∀ vs H1, P vs H1 → vs.length = n) (hn : n ≤ 1000) (hw : ∀ x, wipe ((wipe σ ws).set j (some x)) ws = wipe σ ws)
    (he : ∀ (us : List V) (H1 : Hp), Ex H H1 → P us H1 → ∀ (i : Nat) (x : V) (H2 : Hp), Ex H1 H2 → us[i]? = some x → Ev te ((wipe σ ws).set j (some x)) H2 (val i)) : EvL (tLc (iList K (tLst tA)) (gName j) tYes te ws) σ H (given n (fun _ => true) val) := fun H0 e Q q => h H0 e _ fun us H1 e1 hp => by
  have hlen := hl us H1 hp
  refine ⟨sz_of (by omega), fun a na => ?_⟩
  have ea : Ex H1 (upd H1 a (.lst us)) := Ex.new na
  have hx : (upd H1 a (.lst us)) a = some (.lst us) := upd_same
  generalize upd H1 a (.lst us) = G at ea hx
  refine ⟨a, rfl, ⟨us, sq_of hx⟩, fun Dl hD => ?_⟩
  have := lc_list (K := K) (g := gName j) (tt := tYes) (te := te) (vs := ws) (σ := σ) (H1 := G) (D := Dl) (Qd := fun H' => Q (.ref Dl) H') (xs := us) (Cw G (fun _ => true) val Dl) ⟨hD, Ex.new hD, upd_same⟩ (fun i H' _ p => sq_of (p.2.1 a _ hx)) (fun i x H' hi p => ⟨hw x, cw_turn p (by have := (List.getElem?_eq_some_iff.mp hi).1; omega) et_yes (fun _ => (he us H1 (e.trans e1) hp i x G ea hi))⟩)
    (fun H' p => by
      have := p.2.2
      rw [hlen] at this
      exact q Dl H' (fresh_back (e1.trans ea) p.1) ((e1.trans ea).trans p.2.1) this)
  exact this
end
section
variable {K : PySem.W.Frag} {σ : L2.St} {H : Hp} {ta tb : TE} {f : FPar} {r : Addr} {zs ys : List (Fe f)}
theorem map_fvI (xs : List (Fe f)) : xs.map fv = (xs.map fun a => a.1).map V.int := by
  rw [List.map_map]
  rfl
/-- a list against a new one, the same -/
theorem ev_neF (ha : Ev ta σ H (.ref r)) (hr : H r = some (.lst (zs.map fv))) (hb : EvL tb σ H (ys.map fv)) (h : zs = ys) : Ev (tOp (rNeD K) ta tb) σ H (.bl false) := fun H1 e Q q =>
  ha H1 e _ fun H2 e2 => hb H2 (e.trans e2) _ fun p H3 np e3 h3 => by
    have hr3 := (e.trans (e2.trans e3)) _ _ hr
    rw [map_fvI] at hr3 h3
    rw [h] at hr3
    have := rv_neL (K := K) (sq_of hr3) (sq_of h3) H3 (Ex.refl _) Q
    rw [decide_eq_true rfl] at this
    exact this fun H4 e4 => q H4 ((e2.trans e3).trans e4)
theorem ev_eqF (ha : Ev ta σ H (.ref r)) (hr : H r = some (.lst (zs.map fv))) (hb : EvL tb σ H (ys.map fv)) (h : zs = ys) : Ev (tOp (rEqD K) ta tb) σ H (.bl true) := fun H1 e Q q =>
  ha H1 e _ fun H2 e2 => hb H2 (e.trans e2) _ fun p H3 np e3 h3 => by
    have hr3 := (e.trans (e2.trans e3)) _ _ hr
    rw [map_fvI] at hr3 h3
    rw [h] at hr3
    have := rv_eqL (K := K) (sq_of hr3) (sq_of h3) H3 (Ex.refl _) Q
    rw [decide_eq_true rfl] at this
    exact this fun H4 e4 => q H4 ((e2.trans e3).trans e4)
theorem ev_eqFL (ha : EvL ta σ H (zs.map fv)) (hb : Ev tb σ H (.ref r)) (hr : H r = some (.lst (ys.map fv))) (h : zs = ys) : Ev (tOp (rEqD K) ta tb) σ H (.bl true) := fun H1 e Q q =>
  ha H1 e _ fun p H2 np e2 h2 => hb H2 (e.trans e2) _ fun H3 e3 => by
    have hr3 := (e.trans (e2.trans e3)) _ _ hr
    have hp3 := e3 _ _ h2
    rw [map_fvI] at hr3 hp3
    rw [h] at hp3
    have := rv_eqL (K := K) (sq_of hp3) (sq_of hr3) H3 (Ex.refl _) Q
    rw [decide_eq_true rfl] at this
    exact this fun H4 e4 => q H4 ((e2.trans e3).trans e4)
theorem ev_neFF (ha : EvL ta σ H (zs.map fv)) (hb : EvL tb σ H (ys.map fv)) (h : zs = ys) : Ev (tOp (rNeD K) ta tb) σ H (.bl false) := fun H1 e Q q =>
  ha H1 e _ fun p H2 np e2 h2 => hb H2 (e.trans e2) _ fun p' H3 np' e3 h3 => by
    have hp3 := e3 _ _ h2
    rw [map_fvI] at h3 hp3
    rw [h] at hp3
    have := rv_neL (K := K) (sq_of hp3) (sq_of h3) H3 (Ex.refl _) Q
    rw [decide_eq_true rfl] at this
    exact this fun H4 e4 => q H4 ((e2.trans e3).trans e4)
end
section
variable {f : FPar}
/-- an element out of a drawn number -/
def feOf (f : FPar) (z : Int) : Fe f := ⟨z % ((f.p ^ (f.e + 1) : Nat) : Int), by
  have hq : 0 < f.p ^ (f.e + 1) := Nat.pow_pos (by have := f.hp; omega)
  exact ⟨Int.emod_nonneg _ (by omega), Int.emod_lt_of_pos _ (by omega)⟩⟩
theorem conv_const {R : Type} [Lean.Grind.CommRing R] (g h : Nat → R) (hh : ∀ i, 1 ≤ i → h i = 0) (k : Nat) : ∀ n, conv g h n k = if k < n then g k * h 0 else 0
  | 0 => by rw [if_neg (by omega)]; rfl
  | n + 1 => by
    show conv g h n k + g n * sh n h k = _
    rw [conv_const g h hh k n]
    unfold sh
    by_cases h1 : k < n
    · rw [if_pos h1, if_pos h1, if_pos (by omega)]
      grind
    · by_cases h2 : k = n
      · subst h2
        rw [if_neg h1, if_neg h1, if_pos (by omega), Nat.sub_self]
        grind
      · rw [if_neg h1, if_neg h1, if_neg (by omega), hh _ (by omega)]
        grind
/-! what the law asks of sums, differences, multiples, products -/
theorem plain_total (a b : List (Fe f)) : trimL (addL a 1 b) = trimL (subL a (trimL (subL [] b))) := trimL_congr fun i => by
  rw [cf_addL, cf_subL, cf_trimL, cf_subL, cf_out (xs := ([] : List (Fe f))) (by show 0 ≤ i; omega)]
  grind
theorem plain_less (a b : List (Fe f)) : trimL (addL a (-1) b) = trimL (subL a b) := trimL_congr fun i => by
  rw [cf_addL, cf_subL]
  grind
theorem plain_scaled (a : List (Fe f)) (c : Fe f) : trimL (scaleL c a) = trimL (mulL a (trimL [c])) := trimL_congr fun i => by
  rw [cf_scaleL, cf_mulL, conv_const _ _ (fun j hj => by rw [cf_trimL]; exact cf_out hj)]
  rw [cf_trimL]
  by_cases h : i < a.length
  · rw [if_pos h]
    show c * cf a i = cf a i * c
    grind
  · rw [if_neg h, cf_out (xs := a) (by omega)]
    grind
theorem deep_value (a b : List (Fe f)) (t : Fe f) : sumE (cf (trimL (mulL a b))) t (trimL (mulL a b)).length = sumE (cf a) t a.length * sumE (cf b) t b.length := by
  have h1 : sumE (cf (trimL (mulL a b))) t (a.length + b.length) = sumE (cf (trimL (mulL a b))) t (trimL (mulL a b)).length := sumE_len (fun i hi => cf_out hi) (by
    have := trimL_len (mulL a b)
    unfold mulL convL at this ⊢
    rw [List.length_map, List.length_range] at this
    exact this)
  have h2 : cf (trimL (mulL a b)) = conv (cf a) (cf b) a.length := by
    funext k
    rw [cf_trimL, cf_mulL]
  rw [← h1, h2, sumE_conv (fun i hi => cf_out hi) _ _ (Nat.le_refl _)]
theorem deep_rule (a b : List (Fe f)) : trimL (derL (trimL (mulL a b))) = trimL (addL (trimL (mulL (trimL (derL a)) b)) 1 (trimL (mulL a (trimL (derL b))))) := trimL_congr fun k => by
  have e1 : cf (trimL (mulL a b)) = conv (cf a) (cf b) a.length := by
    funext k
    rw [cf_trimL, cf_mulL]
  have e2 : cf (trimL (derL a)) = der (cf a) := by
    funext k
    rw [cf_trimL, cf_derL]
  have e3 : cf (trimL (derL b)) = der (cf b) := by
    funext k
    rw [cf_trimL, cf_derL]
  rw [cf_derL, cf_addL, cf_trimL, cf_trimL, cf_mulL, cf_mulL, e1, e2, e3, der_conv]
  have z1 : ∀ i, (trimL (derL a)).length ≤ i → der (cf a) i = 0 := fun i hi => by
    rw [← congrFun e2 i]
    exact cf_out hi
  have z2 : ∀ i, a.length - 1 ≤ i → der (cf a) i = 0 := fun i hi => by
    unfold der
    rw [cf_out (by omega)]
    grind
  have e4 : conv (der (cf a)) (cf b) (a.length - 1) k = conv (der (cf a)) (cf b) (trimL (derL a)).length k := by
    have l1 : (trimL (derL a)).length ≤ a.length - 1 := by
      have := trimL_len (derL a)
      unfold derL at this ⊢
      rw [List.length_map, List.length_range] at this
      exact this
    exact conv_len _ _ z1 l1 k
  rw [e4]
  grind
end
end My
set_option Elab.async false
set_option linter.all false
set_option maxRecDepth 100000
set_option maxHeartbeats 1000000
namespace My
open PySem L2 Evl GxR MyG
local macro_rules | `(tactic| walk_at "ev") => `(tactic| repeat' (first
  | exact ev_c
  | exact ev_var rfl
  | exact ea_nil
  | exact eo_none
  | (refine' ev_cb ?ea (rc_len ?sq); (case ea => walk_at "evs"); (case sq => walk_at "sq"))
  | (refine' ev_op ?a ?b (rv_ixL ?sq ?ix); (case a => walk_at "evs"); (case b => walk_at "evs"); (case sq => walk_at "sq"); (case ix => walk_at "at"))
  | refine' ea_cons ?_ ?_
  | refine' eo_some ?_
  | refine' ev_op ?_ ?_ rv_I0
  | refine' ev_op ?_ ?_ (rv_eq ?_)
  | refine' ev_op ?_ ?_ (rv_ne ?_)
  | refine' ev_op ?_ ?_ (rv_I ?_)
  | refine' ev_un ?_ ru_neg
  | refine' ev_cb ?_ rc_int
  | refine' ev_cb ?_ rc_abs
  | refine' ev_cb ?_ rc_max2
  | refine' ev_andV ?_ ?_
  | refine' ev_notV ?_
  | refine' et_test ?_
  | refine' et_B ?_
  | refine' et_not ?_))
local macro_rules | `(tactic| walk_at "side") => `(tactic| first
  | rfl
  | decide
  | exact ⟨by decide, by decide⟩
  | exact .inr ⟨by decide, by decide⟩
  | exact .inl ⟨by decide, by decide⟩
  | omega
  | exact .inl ⟨by omega, by omega⟩
  | exact ⟨by omega, by omega⟩
  | exact .inr ⟨by omega, by omega⟩)
local macro_rules | `(tactic| walk_at "evs") => `(tactic| (walk_at "ev"; all_goals (walk_at "side")))
local macro_rules | `(tactic| walk_at "ex") => `(tactic| first
  | with_reducible exact Ex.refl _
  | with_reducible assumption
  | (refine' Ex.trans ?_ ?b; (case b => with_reducible assumption); walk_at "ex"))
local macro_rules | `(tactic| walk_at "sq") => `(tactic| first
  | (refine' sq_ex ?h ?e; (case h => with_reducible assumption); (case e => walk_at "ex"))
  | (refine' ex_l ?e ?h; (case h => with_reducible assumption); (case e => walk_at "ex"))
  | (refine' ex_l ?e ?h; (case h => assumption); (case e => walk_at "ex"))
  | assumption
  | exact sq_of (by assumption))
local macro_rules | `(tactic| walk_at "at") => `(tactic| first
  | exact at_int (by omega) (by omega)
  | exact atI_nat (j := 0) rfl
  | exact atI_nat (j := 1) rfl
  | exact atI_nat (j := 2) rfl)
local macro_rules | `(tactic| walk_at "side2") => `(tactic| first | exact CMul_bdl (by assumption) | exact CMul_bdr (by assumption) | walk_at "side")
local macro_rules | `(tactic| walk_at "evb") => `(tactic| (walk_at "ev"; all_goals (walk_at "side2")))

local macro_rules | `(tactic| walk_at "fl") => `(tactic| (unfold FsOf; repeat (first | rw [lookup_putF, if_pos rfl] | rw [lookup_putF, if_neg (by decide +kernel)])))
section
variable {P : Program} {w : World} {K : PySem.W.Frag} {mg : Str → Option Value} {base : Heap}
/-! Field_inverse: 0 self, 1 a -/
abbrev s_Field_inverse : Stmt := inClass (topS 23) 8
theorem sc_Field_inverse : FnScope ["self", "a"] ["self", "a"] (defScope s_Field_inverse) := ⟨rfl, rfl, rfl, by decide +kernel, rfl, by decide +kernel, by decide +kernel⟩
def spMInv (K : PySem.W.Frag) (C D : Addr) : Sp := fun vs H Q E => ∃ (x : Addr) (p e g : Nat) (m : List Int) (a : Int), vs = [.ref x, .int a] ∧ FX K C H x p e g m ∧ inF p e a ∧
  (a ≠ 0 → ∀ b, isInv p m e a b → RetV (.int b) H Q) ∧ (a = 0 → ∀ H', Ex H H' → E (.ref D) none H')
theorem ok_minv {f C D : Addr} {fd : FuncData} (F : Fun K "inverse" "Field.inverse" s_Field_inverse f fd) (T : FTxt mg) (TC : CTxt K mg C) (M_log : Md P w K mg base (L2.CX P w) 1 C "log" ["self", "a"] (spMLog K C D)) : FnOk P w K mg base (L2.CX P w) 2 f fd ["self", "a"] (spMInv K C D) := by
  refine F.okX sc_Field_inverse (fun vs H Q E h => ?_) (fun cdv A outer s H vs Q E hr h => ?_)
  · obtain ⟨_, _, _, _, _, _, rfl, _⟩ := h
    rfl
  obtain ⟨x, p, e, g, m, a, rfl, hF, ha, k1, k2⟩ := h
  obtain ⟨dx, c, as, ap, an, aw, al, h⟩ := id hF.fld
  have q2 := hF.pr.q2
  refine ⟨_, (pss_one (ps_ret (pe_ix ix_list (pe_fld (pv 0) rfl) (pe_op op_mod (pe_un un_neg (pe_mdX M_log TC.cl hr (passes_call (takes_of rfl rfl rfl rfl) (fun _ _ _ _ z => z)) (pv 0) (pa_cons (pv 1) pa_nil))) (pe_op op_sub (pe_fld (pv 0) rfl) pe_int)) (fun _ _ => rfl)))), ?_⟩
  by_cases h0 : a = 0
  · exact s_retR (er_opR (ev_fld rfl h.ob TC.cl TC.n_powers (by walk_at "fl")) (er_opL (er_un (er_meth rfl h.ob (fs_no (by decide +kernel)) (ea_cons (ev_var rfl) ea_nil) fun H1 e1 w Q1 => ⟨x, p, e, g, m, a, rfl, hF.ex e1, ha, fun q => absurd h0 q, fun _ H2 e2 => w H2 e2⟩)))) fun H1 e1 => k2 h0 H1 e1
  · obtain ⟨k, hk, hw⟩ := hF.pr.all hF.p2 hF.len ha h0
    obtain ⟨j, ej, hj, hi⟩ := inv_at hF.p2 hF.len hF.pr hk
    rw [hw] at hi
    refine s_ret (ev_pwl hF rfl TC hj (ev_is (ev_op (ev_un (ev_meth rfl h.ob (fs_no (by decide +kernel)) (ea_cons (ev_var rfl) ea_nil) (fun H1 e1 Q1 q1 E1 => ⟨x, p, e, g, m, a, rfl, hF.ex e1, ha, fun _ k' hk' hw' => ?_, fun q => absurd q h0⟩)) ru_neg) (ev_op (ev_order hF rfl TC) ev_c rv_I0) (rv_I (by omega))) (congrArg V.int ej))) fun H1 e1 => k1 h0 _ hi H1 e1
    have : k' = k := by
      rcases Nat.lt_trichotomy k' k with z | z | z
      · exact absurd (hw'.trans hw.symm) (hF.pr.inj hF.p2 hF.len z hk)
      · exact z
      · exact absurd (hw.trans hw'.symm) (hF.pr.inj hF.p2 hF.len z hk')
    rw [this]
    exact q1
end
end My
set_option Elab.async false
set_option linter.all false
set_option maxRecDepth 100000
set_option maxHeartbeats 1000000
namespace My
open PySem L2 Evl GxR MyG MyS
local macro_rules | `(tactic| walk_at "ev") => `(tactic| repeat' (first
  | exact ev_c
  | exact ev_var rfl
  | exact ea_nil
  | exact eo_none
  | (refine' ev_cb ?ea (rc_len ?sq); (case ea => walk_at "evs"); (case sq => walk_at "sq"))
  | (refine' ev_op ?a ?b (rv_ixL ?sq ?ix); (case a => walk_at "evs"); (case b => walk_at "evs"); (case sq => walk_at "sq"); (case ix => walk_at "at"))
  | refine' ea_cons ?_ ?_
  | refine' eo_some ?_
  | refine' ev_op ?_ ?_ rv_I0
  | refine' ev_op ?_ ?_ (rv_eq ?_)
  | refine' ev_op ?_ ?_ (rv_ne ?_)
  | refine' ev_op ?_ ?_ (rv_I ?_)
  | refine' ev_un ?_ ru_neg
  | refine' ev_cb ?_ rc_int
  | refine' ev_cb ?_ rc_abs
  | refine' ev_cb ?_ rc_max2
  | refine' ev_andV ?_ ?_
  | refine' ev_notV ?_
  | refine' et_test ?_
  | refine' et_B ?_
  | refine' et_not ?_))
local macro_rules | `(tactic| walk_at "side") => `(tactic| first
  | rfl
  | decide
  | exact ⟨by decide, by decide⟩
  | exact .inr ⟨by decide, by decide⟩
  | exact .inl ⟨by decide, by decide⟩
  | omega
  | exact .inl ⟨by omega, by omega⟩
  | exact ⟨by omega, by omega⟩
  | exact .inr ⟨by omega, by omega⟩)
local macro_rules | `(tactic| walk_at "evs") => `(tactic| (walk_at "ev"; all_goals (walk_at "side")))
local macro_rules | `(tactic| walk_at "ex") => `(tactic| first
  | with_reducible exact Ex.refl _
  | with_reducible assumption
  | (refine' Ex.trans ?_ ?b; (case b => with_reducible assumption); walk_at "ex"))
local macro_rules | `(tactic| walk_at "sq") => `(tactic| first
  | (refine' sq_ex ?h ?e; (case h => with_reducible assumption); (case e => walk_at "ex"))
  | (refine' ex_l ?e ?h; (case h => with_reducible assumption); (case e => walk_at "ex"))
  | (refine' ex_l ?e ?h; (case h => assumption); (case e => walk_at "ex"))
  | assumption
  | exact sq_of (by assumption))
local macro_rules | `(tactic| walk_at "at") => `(tactic| first
  | exact at_int (by omega) (by omega)
  | exact atI_nat (j := 0) rfl
  | exact atI_nat (j := 1) rfl
  | exact atI_nat (j := 2) rfl)
local macro_rules | `(tactic| walk_at "side2") => `(tactic| first | exact CMul_bdl (by assumption) | exact CMul_bdr (by assumption) | walk_at "side")
local macro_rules | `(tactic| walk_at "evb") => `(tactic| (walk_at "ev"; all_goals (walk_at "side2")))

local macro_rules | `(tactic| walk_at "fl") => `(tactic| (unfold FsOf; repeat (first | rw [lookup_putF, if_pos rfl] | rw [lookup_putF, if_neg (by decide +kernel)])))
local macro_rules | `(tactic| walk_at "nm") => `(tactic| (try simp only [List.set_cons_zero, List.set_cons_succ]))
/-- a class that the program raises -/
structure XTxt (K : PySem.W.Frag) (mg : Str → Option Value) (n : Str) (D : Addr) : Prop where
  g : mg n = some (.ref D)
  x : PySem.W.excIn K D [.type "ValueError", .type "Exception", .type "BaseException", .type "object"] "ValueError.__new__" = true
  k : PySem.W.keepIn K (.ref D) = true
  b : PySem.W.subIn K (.ref D) (.type "BaseException") = some true
  t : PySem.W.typeIn K (.ref D) = some (.type "type")
section
variable {K : PySem.W.Frag} {σ : L2.St} {H : Hp} {D : Ends} {tz : TS} {te tb : TE} {ta tr : TA} {W : Hp → Prop} {sp : Sp} {E : XK} {vs xs : List V} {P : List V → Hp → Prop} {i j n : Nat}
theorem er_call (h : EvA ta σ H vs) (hs : ∀ H1, Ex H H1 → (∀ H2, Ex H1 H2 → W H2) → ∀ Q : VK, sp vs H1 Q E) : EvR (tCall sp [] E ta) σ H W := fun H1 e w Q =>
  h H1 e _ fun H2 e2 => by
    rw [List.append_nil]
    exact hs H2 (e.trans e2) (fun H3 e3 => w H3 (e2.trans e3)) Q
theorem q_dropR (h : EvR te σ H W) (w : ∀ H1, Ex H H1 → W H1) : tSeq (tDrop te) tz D σ H := h H (Ex.refl H) w _
theorem el_revL {p : Addr} (ha : Ev te σ H (.ref p)) (h : SqL K H p xs) : EvL (tRevL K te) σ H xs.reverse := fun H1 e Q q =>
  ha H1 e _ fun H2 e2 => ⟨p, xs, rfl, ex_l (e.trans e2) h, fun l nl => q l _ (fresh_back e2 nl) (e2.trans (Ex.new nl)) upd_same⟩
theorem ax_consF (h : EvL te σ H xs) (hr : EvAX tr σ H P) : EvAX (tCons te tr) σ H (fun ws H1 => ∃ (p : Addr) (us : List V), ws = .ref p :: us ∧ H p = none ∧ H1 p = some (.lst xs) ∧ P us H1) := fun H1 e Q q =>
  h H1 e _ fun p H2 np e2 h2 => hr H2 (e.trans e2) _ fun us H3 e3 hp => q _ H3 (e2.trans e3) ⟨p, us, rfl, fresh_back e np, e3 _ _ h2, hp⟩
theorem s_retTX (h : EvAX ta σ H P) (hl : ∀ vs H1, P vs H1 → vs.length ≤ 1000) (k : ∀ vs p H1, P vs H1 → H1 p = none → Ex H H1 → D.rt (.ref p) (upd H1 p (.tup vs))) : tRet (tTup ta) D σ H := by
  show tTup ta σ H (fun v H1 => D.rt v H1)
  exact h H (Ex.refl _) _ fun vs H1 e1 hp => ⟨sz_of (by have := hl vs H1 hp; omega), fun p np => k vs p H1 hp np e1⟩
end
section
variable {K : PySem.W.Frag} {σ : L2.St} {H : Hp} {D : Ends} {tz : TS} {f : FPar} {C x r : Addr} {g i j k n : Nat} {tb te : TE} {zs : List (Fe f)}
theorem ev_eqNil {ta : TE} (ha : Ev ta σ H (.ref r)) (hr : H r = some (.lst (zs.map fv))) (hb : EvL tb σ H []) : Ev (tOp (rEqD K) ta tb) σ H (.bl (decide (zs = []))) := fun H1 e Q q =>
  ha H1 e _ fun H2 e2 => hb H2 (e.trans e2) _ fun p H3 np e3 h3 => by
    have hr3 := (e.trans (e2.trans e3)) _ _ hr
    rw [map_fvI] at hr3
    have := rv_eqL (K := K) (ms := []) (sq_of hr3) (sq_of h3) H3 (Ex.refl _) Q
    refine this fun H4 e4 => ?_
    have hd : decide (zs.map (·.1) = []) = decide (zs = []) := by cases zs <;> rfl
    show Q (.bl (decide (zs.map (·.1) = []))) H4
    rw [hd]
    exact q H4 ((e2.trans e3).trans e4)
theorem at_lastF (h : zs ≠ []) : atI (zs.map fv) (-1) = some (fv (cf zs (zs.length - 1))) := by
  have hl := List.length_pos_iff.mpr h
  obtain ⟨ys, y, rfl⟩ : ∃ ys y, zs = ys ++ [y] := ⟨zs.dropLast, zs.getLast h, (List.dropLast_concat_getLast h).symm⟩
  rw [List.map_append]
  refine (atI_last _ _).trans ?_
  rw [cf_append, if_neg (by rw [List.length_append]; show ¬ ys.length + 1 - 1 < ys.length; omega), List.length_append]
  show _ = some (fv (cf [y] (ys.length + 1 - 1 - ys.length)))
  rw [show ys.length + 1 - 1 - ys.length = 0 by omega]
  rfl
/-- name = field.times(rest.pop(), other) -/
theorem q_asgTP {l : Addr} {rs : List (Fe f)} {iv : Fe f} (hF : FXF K C H x f g) (hF' : FXF K C (upd H l (.lst (rs.map fv).dropLast)) x f g) (h0 : σ[i]? = some (some (.ref x))) (hl : H l = some (.lst (rs.map fv))) (hn : rs ≠ []) (hv : σ[j]? = some (some (.ref l))) (h4 : σ[k]? = some (some (fv iv)))
    (kk : ∀ H1, Ex (upd H l (.lst (rs.map fv).dropLast)) H1 → tz D (σ.set n (some (fv (cf rs (rs.length - 1) * iv)))) H1) : tSeq (tAsg (tMeth C "times" (spMMul K C) [] E0 (tVar i) (tCons (tBM0 K "list" rPop (tVar j)) (tCons (tVar k) tNil))) (gName n)) tz D σ H := by
  obtain ⟨dx, cm, as, ap, an, aw, al, h⟩ := id hF.fld
  have hp := List.length_pos_iff.mpr hn
  refine ⟨_, h0, x, dx, _, rfl, h.ob, fs_no (by decide +kernel), ?_⟩
  refine ⟨_, hv, .inl ⟨rfl, _, sq_of hl⟩, l, rs.map fv, fv (cf rs (rs.length - 1)), rfl, rfl, hl, ?_, ?_⟩
  · rw [List.length_map, List.getElem?_map, List.getElem?_eq_getElem (by omega)]
    unfold cf
    rw [List.getD_eq_getElem?_getD, List.getElem?_eq_getElem (by omega)]
    rfl
  · refine ⟨_, h4, ?_⟩
    exact ⟨x, f, g, _, iv, rfl, hF', kk⟩
end
section
variable {P : Program} {w : World} {K : PySem.W.Frag} {mg : Str → Option Value} {base : Heap}
def spReqNZ (D : Addr) : Sp := fun vs H Q E => ∃ (a : Addr) (f : FPar) (xs : List (Fe f)), vs = [.ref a] ∧ H a = some (.lst (xs.map fv)) ∧ (xs ≠ [] → RetV .non H Q) ∧ (xs = [] → ∀ H', Ex H H' → E (.ref D) none H')
def RetT2 (q r : List V) (H : Hp) (Q : VK) : Prop := ∀ (T pq pr : Addr) H2, H T = none → H pq = none → H pr = none → Ex H H2 → H2 T = some (.tup [.ref pq, .ref pr]) → H2 pq = some (.lst q) → H2 pr = some (.lst r) → Q (.ref T) H2
def spPDiv (K : PySem.W.Frag) (C D : Addr) : Sp := fun vs H Q E => ∃ (x ra rd : Addr) (f : FPar) (g : Nat) (a d : List (Fe f)), vs = [.ref x, .ref ra, .ref rd] ∧ FXF K C H x f g ∧ H ra = some (.lst (a.map fv)) ∧ H rd = some (.lst (d.map fv)) ∧ Trimd a ∧ Trimd d ∧ a.length ≤ 300 ∧ d.length ≤ 300 ∧
  (d ≠ [] → ∀ q r : List (Fe f), DivP a d q r → RetT2 (q.map fv) (r.map fv) H Q) ∧ (d = [] → ∀ H', Ex H H' → E (.ref D) none H')
end
end My
set_option linter.all false
set_option maxRecDepth 100000
set_option maxHeartbeats 1000000
namespace My
open PySem L2 Evl GxR MyG MyS
/-! values, roots, products of x - root, interpolation -/
section
variable {f : FPar}
def val (xs : List (Fe f)) (t : Fe f) : Fe f := sumE (cf xs) t xs.length
theorem val_more (xs : List (Fe f)) (t : Fe f) {N : Nat} (h : xs.length ≤ N) : sumE (cf xs) t N = val xs t := sumE_len (fun i hi => cf_out hi) h
theorem val_congr {xs ys : List (Fe f)} (h : ∀ i, cf xs i = cf ys i) (t : Fe f) : val xs t = val ys t := by
  rw [← val_more xs t (Nat.le_max_left xs.length ys.length), ← val_more ys t (Nat.le_max_right xs.length ys.length), show cf xs = cf ys from funext h]
theorem val_trim (xs : List (Fe f)) (t : Fe f) : val (trimL xs) t = val xs t := val_congr (cf_trimL xs) t
theorem val_nil (t : Fe f) : val ([] : List (Fe f)) t = 0 := rfl
theorem val_cons (a : Fe f) (as : List (Fe f)) (t : Fe f) : val (a :: as) t = a + val as t * t := by
  show sumE (cf (a :: as)) t (as.length + 1) = _
  rw [sumE_head]
  rfl
theorem val_add (a : List (Fe f)) (c : Fe f) (b : List (Fe f)) (t : Fe f) : val (addL a c b) t = val a t + c * val b t := by
  have hN1 : a.length ≤ max a.length b.length := Nat.le_max_left _ _
  have hN2 : b.length ≤ max a.length b.length := Nat.le_max_right _ _
  show sumE (cf (addL a c b)) t (addL a c b).length = _
  rw [addL_len, show cf (addL a c b) = fun k => cf a k + (fun k => c * cf b k) k from funext (cf_addL a c b), sumE_add, sumE_sm, val_more a t hN1, val_more b t hN2]
theorem val_mul (a b : List (Fe f)) (t : Fe f) : val (trimL (mulL a b)) t = val a t * val b t := deep_value a b t
theorem val_der (a b : List (Fe f)) (t : Fe f) : val (trimL (derL (trimL (mulL a b)))) t = val (trimL (derL a)) t * val b t + val a t * val (trimL (derL b)) t := by
  rw [deep_rule, val_trim, val_add, val_mul, val_mul]
  grind
/-- the factor x - s -/
def lin (s : Fe f) : List (Fe f) := [-s, 1]
theorem val_lin (s t : Fe f) : val (lin s) t = t - s := by
  unfold lin
  rw [val_cons, val_cons, val_nil]
  grind
theorem val_dlin (s t : Fe f) : val (trimL (derL (lin s))) t = 1 := by
  rw [val_trim]
  have e : derL (lin s) = [1] := by
    show [der (cf [-s, 1]) 0] = [1]
    congr 1
    show nc (0 + 1) * (1 : Fe f) = 1
    rw [nc_succ, nc_zero]
    grind
  rw [e, val_cons, val_nil]
  grind
/-- the quotient by x - r -/
def sd (r : Fe f) : List (Fe f) → List (Fe f)
  | [] => []
  | [_] => []
  | _ :: b :: bs => val (b :: bs) r :: sd r (b :: bs)
theorem sd_len (r : Fe f) : ∀ xs : List (Fe f), (sd r xs).length = xs.length - 1
  | [] => rfl
  | [_] => rfl
  | _ :: b :: bs => by
    show (sd r (b :: bs)).length + 1 = _
    rw [sd_len r (b :: bs)]
    rfl
theorem sd_val (r t : Fe f) : ∀ xs : List (Fe f), val xs t = val xs r + (t - r) * val (sd r xs) t
  | [] => by
    rw [val_nil, val_nil]
    show (0 : Fe f) = 0 + (t - r) * val [] t
    rw [val_nil]
    grind
  | [a] => by
    rw [val_cons, val_cons, val_nil, val_nil]
    show _ = _ + (t - r) * val [] t
    rw [val_nil]
    grind
  | a :: b :: bs => by
    show val (a :: b :: bs) t = val (a :: b :: bs) r + (t - r) * val (val (b :: bs) r :: sd r (b :: bs)) t
    rw [val_cons a (b :: bs) t, val_cons a (b :: bs) r, val_cons _ (sd r (b :: bs)) t, sd_val r t (b :: bs)]
    grind
theorem sd_last (r : Fe f) : ∀ (xs : List (Fe f)) (n : Nat), xs.length = n + 2 → cf (sd r xs) n = cf xs (n + 1)
  | [a, b], 0, _ => by
    show val [b] r = b
    rw [val_cons, val_nil]
    grind
  | a :: b :: c :: cs, n + 1, h => by
    show cf (val (b :: c :: cs) r :: sd r (b :: c :: cs)) (n + 1) = cf (a :: b :: c :: cs) (n + 1 + 1)
    show cf (sd r (b :: c :: cs)) n = cf (b :: c :: cs) (n + 1)
    exact sd_last r (b :: c :: cs) n (Nat.succ.inj h)
  | [], _, h => by cases h
  | [_], _, h => by cases h
  | [_, _], n + 1, h => by cases h
/-- fewer roots than coefficients -/
theorem roots_few (h : Inv1 f) : ∀ (n : Nat) (xs : List (Fe f)), xs.length = n + 1 → cf xs n ≠ 0 → ∀ rs : List (Fe f), rs.Nodup → (∀ r ∈ rs, val xs r = 0) → rs.length ≤ n
  | n, xs, _, _, [], _, _ => Nat.zero_le _
  | 0, xs, hl, h0, r :: rs, _, hr => by
    obtain ⟨a, rfl⟩ : ∃ a, xs = [a] := by
      match xs, hl with
      | [a], _ => exact ⟨a, rfl⟩
    have := hr r List.mem_cons_self
    rw [val_cons, val_nil] at this
    refine absurd ?_ h0
    show a = 0
    grind
  | n + 1, xs, hl, h0, r :: rs, hd, hr => by
    have hl2 : (sd r xs).length = n + 1 := by rw [sd_len, hl]; rfl
    have h1 : cf (sd r xs) n ≠ 0 := by rw [sd_last r xs n hl]; exact h0
    obtain ⟨hn, hd2⟩ := List.nodup_cons.mp hd
    have := roots_few h n (sd r xs) hl2 h1 rs hd2 fun s hs => by
      have h2 := sd_val r s xs
      rw [hr r List.mem_cons_self, hr s (List.mem_cons_of_mem _ hs)] at h2
      have h3 : s - r ≠ 0 := fun z => hn (by
        have : s = r := by grind
        rw [← this]
        exact hs)
      refine Decidable.byContradiction fun z => h.dom h3 z ?_
      grind
    show rs.length + 1 ≤ n + 1
    omega
theorem roots_lt (h : Inv1 f) {xs : List (Fe f)} (ht : Trimd xs) (h0 : xs ≠ []) {rs : List (Fe f)} (hd : rs.Nodup) (hr : ∀ r ∈ rs, val xs r = 0) : rs.length < xs.length := by
  have hp := List.length_pos_iff.mpr h0
  have := roots_few h (xs.length - 1) xs (by omega) (ht (xs.length - 1) (by omega)) rs hd hr
  omega
/-! the product of x - root -/
def prF : List (Fe f) → List (Fe f) → List (Fe f)
  | acc, [] => acc
  | acc, r :: rs => prF (trimL (mulL acc (lin r))) rs
theorem lin_trimd (h10 : (1 : Fe f) ≠ 0) (s : Fe f) : Trimd (lin s) := fun n hn => by
  have : n = 1 := by
    have : (lin s).length = 2 := rfl
    omega
  subst this
  exact h10
theorem mul_lin (h : Inv1 f) (h10 : (1 : Fe f) ≠ 0) {acc : List (Fe f)} (ht : Trimd acc) (h0 : acc ≠ []) (s : Fe f) : (trimL (mulL acc (lin s))).length = acc.length + 1 := by
  have := len_mul h ht (lin_trimd h10 s) (trimL_trimd (mulL acc (lin s))) (by rw [po_trim, po_mul]) h0 (by intro z; cases z)
  have h2 : (lin s).length = 2 := rfl
  omega
theorem prF_ok (h : Inv1 f) (h10 : (1 : Fe f) ≠ 0) : ∀ (rs acc : List (Fe f)), Trimd acc → acc ≠ [] → Trimd (prF acc rs) ∧ (prF acc rs).length = acc.length + rs.length
  | [], acc, ht, _ => ⟨ht, rfl⟩
  | r :: rs, acc, ht, h0 => by
    have hl := mul_lin h h10 ht h0 r
    have := prF_ok h h10 rs (trimL (mulL acc (lin r))) (trimL_trimd _) (by intro z; rw [z] at hl; cases hl)
    refine ⟨this.1, ?_⟩
    show (prF (trimL (mulL acc (lin r))) rs).length = _
    rw [this.2, hl, List.length_cons]
    omega
theorem g_back (p y : Fe f) : p + (y - p) = y := by grind
theorem g_cz (y c : Fe f) : y + c * 0 = y := by grind
theorem g_ss (A s : Fe f) : A * (s - s) = 0 := by grind
theorem g_ssa (A D s : Fe f) : D * (s - s) + A = A := by grind
theorem g_zm (u : Fe f) : 0 * u = 0 := by grind
theorem g_az (u : Fe f) : u + 0 = u := by grind
theorem g_sub {r s : Fe f} (h : r - s = 0) : s = r := by grind
theorem g_z1 {z t : Fe f} (h : z + 0 * t = 0) : z = 0 := by grind
/-- how often r is a root: value and slope -/
def Rep (xs : List (Fe f)) (r : Fe f) (n : Nat) : Prop := (n = 0 → val xs r ≠ 0) ∧ (n = 1 → val xs r = 0 ∧ val (trimL (derL xs)) r ≠ 0) ∧ (2 ≤ n → val xs r = 0 ∧ val (trimL (derL xs)) r = 0)
theorem prF_rep (h : Inv1 f) (r : Fe f) : ∀ (rs acc : List (Fe f)) (n : Nat), Rep acc r n → Rep (prF acc rs) r (n + rs.count r)
  | [], acc, n, q => q
  | s :: rs, acc, n, q => by
    obtain ⟨q0, q1, q2⟩ := q
    have v1 : val (trimL (mulL acc (lin s))) r = val acc r * (r - s) := by rw [val_mul, val_lin]
    have v2 : val (trimL (derL (trimL (mulL acc (lin s))))) r = val (trimL (derL acc)) r * (r - s) + val acc r := by rw [val_der, val_lin, val_dlin]; grind
    rw [List.count_cons]
    by_cases e : s = r
    · subst e
      rw [if_pos (beq_self_eq_true _), ← Nat.add_assoc, Nat.add_right_comm]
      refine prF_rep h s rs _ (n + 1) ⟨fun z => absurd z (by omega), fun z => ?_, fun z => ?_⟩
      · rw [v1, v2, g_ss, g_ssa]
        exact ⟨rfl, q0 (by omega)⟩
      · rw [v1, v2, g_ss, g_ssa]
        refine ⟨rfl, ?_⟩
        rcases (show n = 1 ∨ 2 ≤ n by omega) with h1 | h1
        · exact (q1 h1).1
        · exact (q2 h1).1
    · have hne : r - s ≠ 0 := fun z => e (g_sub z)
      rw [if_neg (fun z => e (eq_of_beq z)), Nat.add_zero]
      refine prF_rep h r rs _ n ⟨fun z => ?_, fun z => ?_, fun z => ?_⟩
      · rw [v1]
        exact h.dom (q0 z) hne
      · rw [v1, v2, (q1 z).1, g_zm, g_az]
        exact ⟨rfl, h.dom (q1 z).2 hne⟩
      · rw [v1, v2, (q2 z).1, (q2 z).2, g_zm, g_az]
        exact ⟨rfl, rfl⟩
theorem rep_one (h10 : (1 : Fe f) ≠ 0) (r : Fe f) : Rep [1] r 0 := by
  refine ⟨fun _ => ?_, ⟨fun z => absurd z (by decide), fun z => absurd z (by decide)⟩⟩
  rw [val_cons, val_nil]
  exact fun z => h10 (g_z1 z)
/-- the slope at a root -/
theorem prF_slope (h : Inv1 f) (h10 : (1 : Fe f) ≠ 0) {rs : List (Fe f)} {r : Fe f} (hr : r ∈ rs) : (val (trimL (derL (prF [1] rs))) r = 0) ↔ 1 < rs.count r := by
  have q := prF_rep h r rs [1] 0 (rep_one h10 r)
  rw [Nat.zero_add] at q
  have hc : 0 < rs.count r := List.count_pos_iff.mpr hr
  refine ⟨fun z => ?_, fun z => (q.2.2 (by omega)).2⟩
  rcases (show rs.count r = 1 ∨ 1 < rs.count r by omega) with h1 | h1
  · exact absurd z (q.2.1 h1).2
  · exact h1
/-! a polynomial through points -/
structure Thr (pts vls : List (Fe f)) (i : Nat) (p v : List (Fe f)) : Prop where
  tp : Trimd p
  tv : Trimd v
  lp : p.length ≤ i
  lv : v.length = i + 1
  at' : ∀ j, j < i → val p (cf pts j) = cf vls j
  van : ∀ j, j < i → val v (cf pts j) = 0
  non : ∀ t, (∀ j, j < i → cf pts j ≠ t) → val v t ≠ 0
theorem Thr.start (h10 : (1 : Fe f) ≠ 0) (pts vls : List (Fe f)) : Thr pts vls 0 [] [1] := by
  refine ⟨Trimd.nil, fun n hn => ?_, Nat.le_refl _, rfl, fun j hj => absurd hj (Nat.not_lt_zero _), fun j hj => absurd hj (Nat.not_lt_zero _), fun t _ z => h10 ?_⟩
  · have : n = 0 := by
      have h1 : ([1] : List (Fe f)).length = 1 := rfl
      omega
    subst this
    exact h10
  · rw [val_cons, val_nil] at z
    exact g_z1 z
theorem Thr.next (h : Inv1 f) (h10 : (1 : Fe f) ≠ 0) {pts vls : List (Fe f)} {i : Nat} {p v : List (Fe f)} (q : Thr pts vls i p v) (hne : ∀ j, j < i → cf pts j ≠ cf pts i) {c : Fe f} (hc : c * val v (cf pts i) = cf vls i - val p (cf pts i)) :
    Thr pts vls (i + 1) (trimL (addL p c v)) (trimL (mulL v (lin (cf pts i)))) := by
  have hv0 : v ≠ [] := by
    intro z
    have := q.lv
    rw [z] at this
    cases this
  refine ⟨trimL_trimd _, trimL_trimd _, ?_, ?_, fun j hj => ?_, fun j hj => ?_, fun t ht => ?_⟩
  · have h1 := trimL_len (addL p c v)
    rw [addL_len] at h1
    have := q.lp
    have := q.lv
    omega
  · rw [mul_lin h h10 q.tv hv0, q.lv]
  · rw [val_trim, val_add]
    by_cases e : j = i
    · subst e
      rw [hc]
      exact g_back _ _
    · rw [q.van j (by omega), q.at' j (by omega)]
      exact g_cz _ _
  · rw [val_mul, val_lin]
    by_cases e : j = i
    · subst e
      exact g_ss _ _
    · rw [q.van j (by omega)]
      exact g_zm _
  · rw [val_mul, val_lin]
    exact h.dom (q.non t fun j hj => ht j (by omega)) fun z => ht i (by omega) (g_sub z)
end
end My
set_option Elab.async false
set_option linter.all false
set_option maxRecDepth 100000
set_option maxHeartbeats 2000000
/-! words over a field: is_word, require_word, require_between -/
namespace My
open PySem PySem.Spec PyProof.Rows L2 L2H Evl GxR MyG MyS
local macro_rules | `(tactic| walk_at "ev") => `(tactic| repeat' (first
  | exact ev_c
  | exact ev_var rfl
  | exact ea_nil
  | exact eo_none
  | (refine' ev_cb ?ea (rc_len ?sq); (case ea => walk_at "evs"); (case sq => walk_at "sq"))
  | (refine' ev_op ?a ?b (rv_ixL ?sq ?ix); (case a => walk_at "evs"); (case b => walk_at "evs"); (case sq => walk_at "sq"); (case ix => walk_at "at"))
  | refine' ea_cons ?_ ?_
  | refine' eo_some ?_
  | refine' ev_op ?_ ?_ rv_I0
  | refine' ev_op ?_ ?_ (rv_eq ?_)
  | refine' ev_op ?_ ?_ (rv_ne ?_)
  | refine' ev_op ?_ ?_ (rv_I ?_)
  | refine' ev_un ?_ ru_neg
  | refine' ev_cb ?_ rc_int
  | refine' ev_cb ?_ rc_abs
  | refine' ev_cb ?_ rc_max2
  | refine' ev_andV ?_ ?_
  | refine' ev_notV ?_
  | refine' et_test ?_
  | refine' et_B ?_
  | refine' et_not ?_))
local macro_rules | `(tactic| walk_at "side") => `(tactic| first
  | rfl
  | decide
  | exact ⟨by decide, by decide⟩
  | exact .inr ⟨by decide, by decide⟩
  | exact .inl ⟨by decide, by decide⟩
  | omega
  | exact .inl ⟨by omega, by omega⟩
  | exact ⟨by omega, by omega⟩
  | exact .inr ⟨by omega, by omega⟩)
local macro_rules | `(tactic| walk_at "evs") => `(tactic| (walk_at "ev"; all_goals (walk_at "side")))
local macro_rules | `(tactic| walk_at "ex") => `(tactic| first
  | with_reducible exact Ex.refl _
  | with_reducible assumption
  | (refine' Ex.trans ?_ ?b; (case b => with_reducible assumption); walk_at "ex"))
local macro_rules | `(tactic| walk_at "sq") => `(tactic| first
  | (refine' sq_ex ?h ?e; (case h => with_reducible assumption); (case e => walk_at "ex"))
  | (refine' ex_l ?e ?h; (case h => with_reducible assumption); (case e => walk_at "ex"))
  | (refine' ex_l ?e ?h; (case h => assumption); (case e => walk_at "ex"))
  | assumption
  | exact sq_of (by assumption))
local macro_rules | `(tactic| walk_at "at") => `(tactic| first
  | exact at_int (by omega) (by omega)
  | exact atI_nat (j := 0) rfl
  | exact atI_nat (j := 1) rfl
  | exact atI_nat (j := 2) rfl)
local macro_rules | `(tactic| walk_at "side2") => `(tactic| first | exact CMul_bdl (by assumption) | exact CMul_bdr (by assumption) | walk_at "side")
local macro_rules | `(tactic| walk_at "evb") => `(tactic| (walk_at "ev"; all_goals (walk_at "side2")))

local macro_rules | `(tactic| walk_at "fl") => `(tactic| (unfold FsOf; repeat (first | rw [lookup_putF, if_pos rfl] | rw [lookup_putF, if_neg (by decide +kernel)])))
local macro_rules | `(tactic| walk_at "nm") => `(tactic| (try simp only [List.set_cons_zero, List.set_cons_succ]))
/-- item is not None and 0 <= item < order -/
def ElWord (i : Nat) : ElP := fun σ _ v b => ∃ z : Int, σ[i]? = some (some (.int z)) ∧ ((v = .non ∧ b = false) ∨ ∃ n : Int, v = .int n ∧ b = (decide (0 ≤ n) && decide (n < z)))
theorem elt_word {X : Cx} {Pt : Addr} {scope : Scope} {x y : Str} {i j1 j2 : Nat} {p1 p2 p3 p4 p5 p6 p7 p8 : Pos} {σ : L2.St} {H1 : Hp} {v : V} {b : Bool} (hN : X.N[i]? = some y) (hv : X.env.scope.names.lookup y = some .cell) (hf : (y, NameKind.free) ∈ scope.names)
    (hk : scope.kind = .function) (hx : scope.names.lookup x = some .local) (hy : scope.names.lookup y = some .free)
    (dx : (x == ("__debug__" : Str)) = false := by decide) (dy : (y == ("__debug__" : Str)) = false := by decide) (cy : (y == ("__classdict__" : Str)) = false := by decide) (h : ElWord i σ H1 v b) :
    EltG X Pt scope x (.BoolOp .And [.Compare (.Name x p1) [.IsNot] [.Constant .none j1 p2] p3, .Compare (.Constant (.int 0) j2 p4) [.LtE, .Lt] [.Name x p5, .Name y p6] p7] p8) σ H1 v b := by
  obtain ⟨z, hz, h⟩ := h
  intro pins s1 ce A' E' u s' m I a ru hm _ nP
  obtain ⟨tz, cl, hc, hcv⟩ := a.cap I nP hN hz hv hf
  have kf : ce.scope.kind = .function := by rw [a.sc]; exact hk
  have kx : ce.kindOf x = some .local := by
    show ce.scope.names.lookup x = some .local
    rw [a.sc]; exact hx
  have ky : ce.kindOf y = some .free := by
    show ce.scope.names.lookup y = some .free
    rw [a.sc]; exact hy
  refine BoolOp_and ?_
  refine wpAny_Compare1 ?_
  refine wpAny_Name (wpAny_loadName_local kf kx a.ns hm ?_) dx
  refine wpAny_Constant_none ?_
  rcases h with ⟨rfl, rfl⟩ | ⟨n, rfl, rfl⟩
  · cases ru
    refine isNot_none ?_
    refine wpAny_truthy_bool ?_
    exact ⟨rfl, keeps_tok s' s'.toks⟩
  · obtain ⟨t, rfl⟩ := (show ∃ t, u = Value.int n t from ru)
    refine isNot_none ?_
    refine wpAny_truthy_bool ?_
    refine BoolOp_one ?_
    refine Compare_chain ?_
    refine wpAny_Constant_int ?_
    refine chain_link ?_
    refine wpAny_Name (wpAny_loadName_local kf kx a.ns hm ?_) dx
    refine PySem.P.le_int ?_
    refine wpAny_truthy_bool ?_
    cases hd : decide (0 ≤ n) with
    | false => exact ⟨rfl, keeps_tok s' _⟩
    | true =>
      refine chain_last ?_
      refine wpAny_Name (wpAny_loadName_free kf ky hc hcv ?_ cy) dy
      refine PySem.P.lt_int ?_
      exact ⟨by rw [Bool.true_and], keeps_tok s' _⟩
/-- what is_word asks of an item -/
def wordV (q : Int) : V → Bool
  | .int n => decide (0 ≤ n) && decide (n < q)
  | _ => false
section
variable {f : FPar}
theorem word_fe (xs : List (Fe f)) : (xs.map fv).all (wordV ((f.p ^ (f.e + 1) : Nat) : Int)) = true := List.all_eq_true.mpr fun v hv => by
  obtain ⟨a, _, rfl⟩ := List.mem_map.mp hv
  show (decide (0 ≤ a.1) && decide (a.1 < _)) = true
  rw [decide_eq_true a.2.1, decide_eq_true a.2.2]
  rfl
end
section
variable {P : Program} {w : World} {K : PySem.W.Frag} {mg : Str → Option Value} {base : Heap}
def Plain (xs : List V) : Prop := ∀ v ∈ xs, v = .non ∨ ∃ n : Int, v = .int n
def spReqW (K : PySem.W.Frag) (C Pt : Addr) : Sp := fun vs H Q _ => ∃ (x a : Addr) (f : FPar) (g : Nat) (xs : List (Fe f)), vs = [.ref x, .int (xs.length : Int), .ref a] ∧ FXF K C H x f g ∧ SqL K H a (xs.map fv) ∧ TabE H Pt ∧ RetV .non H Q
def spBetw : Sp := fun vs H Q _ => ∃ (z : V) (n a b : Int), vs = [z, .int n, .int a, .int b] ∧ a ≤ n ∧ n ≤ b ∧ RetV .non H Q
end
end My
set_option Elab.async false
set_option linter.all false
set_option maxRecDepth 100000
set_option maxHeartbeats 1000000
namespace My
open PySem L2 Evl GxR MyG MyS
local macro_rules | `(tactic| walk_at "ev") => `(tactic| repeat' (first
  | exact ev_c
  | exact ev_var rfl
  | exact ea_nil
  | exact eo_none
  | (refine' ev_cb ?ea (rc_len ?sq); (case ea => walk_at "evs"); (case sq => walk_at "sq"))
  | (refine' ev_op ?a ?b (rv_ixL ?sq ?ix); (case a => walk_at "evs"); (case b => walk_at "evs"); (case sq => walk_at "sq"); (case ix => walk_at "at"))
  | refine' ea_cons ?_ ?_
  | refine' eo_some ?_
  | refine' ev_op ?_ ?_ rv_I0
  | refine' ev_op ?_ ?_ (rv_eq ?_)
  | refine' ev_op ?_ ?_ (rv_ne ?_)
  | refine' ev_op ?_ ?_ (rv_I ?_)
  | refine' ev_un ?_ ru_neg
  | refine' ev_cb ?_ rc_int
  | refine' ev_cb ?_ rc_abs
  | refine' ev_cb ?_ rc_max2
  | refine' ev_andV ?_ ?_
  | refine' ev_notV ?_
  | refine' et_test ?_
  | refine' et_B ?_
  | refine' et_not ?_))
local macro_rules | `(tactic| walk_at "side") => `(tactic| first
  | rfl
  | decide
  | exact ⟨by decide, by decide⟩
  | exact .inr ⟨by decide, by decide⟩
  | exact .inl ⟨by decide, by decide⟩
  | omega
  | exact .inl ⟨by omega, by omega⟩
  | exact ⟨by omega, by omega⟩
  | exact .inr ⟨by omega, by omega⟩)
local macro_rules | `(tactic| walk_at "evs") => `(tactic| (walk_at "ev"; all_goals (walk_at "side")))
local macro_rules | `(tactic| walk_at "ex") => `(tactic| first
  | with_reducible exact Ex.refl _
  | with_reducible assumption
  | (refine' Ex.trans ?_ ?b; (case b => with_reducible assumption); walk_at "ex"))
local macro_rules | `(tactic| walk_at "sq") => `(tactic| first
  | (refine' sq_ex ?h ?e; (case h => with_reducible assumption); (case e => walk_at "ex"))
  | (refine' ex_l ?e ?h; (case h => with_reducible assumption); (case e => walk_at "ex"))
  | (refine' ex_l ?e ?h; (case h => assumption); (case e => walk_at "ex"))
  | assumption
  | exact sq_of (by assumption))
local macro_rules | `(tactic| walk_at "at") => `(tactic| first
  | exact at_int (by omega) (by omega)
  | exact atI_nat (j := 0) rfl
  | exact atI_nat (j := 1) rfl
  | exact atI_nat (j := 2) rfl)
local macro_rules | `(tactic| walk_at "side2") => `(tactic| first | exact CMul_bdl (by assumption) | exact CMul_bdr (by assumption) | walk_at "side")
local macro_rules | `(tactic| walk_at "evb") => `(tactic| (walk_at "ev"; all_goals (walk_at "side2")))

local macro_rules | `(tactic| walk_at "fl") => `(tactic| (unfold FsOf; repeat (first | rw [lookup_putF, if_pos rfl] | rw [lookup_putF, if_neg (by decide +kernel)])))
local macro_rules | `(tactic| walk_at "nm") => `(tactic| (try simp only [List.set_cons_zero, List.set_cons_succ]))
/-- how many different ints -/
def met (ns : List Int) : List Int := PyProof.Rows.firstMet (fun i => ns.getD i 0) ns.length
def tLenSetG (K : PySem.W.Frag) (ta : TE) : TE := fun σ H Q => ta σ H fun x H1 => ∃ (l : Addr) (ns : List Int), x = .ref l ∧ SqL K H1 l (ns.map V.int) ∧ ns.length ≤ 4000 ∧ Q (.int ((met ns).length : Nat)) H1
theorem pe_lenSetG {X : Cx} {a : Expr} {ta : TE} {p p2 q pos : Pos} (hg : Gl X "len") (hm : X.mg "len" = none) (hg2 : Gl X "set") (hm2 : X.mg "set" = none) (ha : PE X a ta) (hc : X.calm = true := by rfl)
    (na : starEach [a] X.env = (false, eval a X.env) :: starEach [] X.env := by rfl) : PE X (.Call (.Name "len" p) [.Call (.Name "set" p2) [a] [] q] [] pos) (tLenSetG X.K ta) := by
  refine ⟨?_⟩
  intro pins s σ H Q I h
  have inner : ∀ (R : Value → Shared → Prop), (∀ u s2, (∃ (l : Addr) (ns : List Int) (H1 : Hp) (its : List Value), Inv X pins σ H1 s2 ∧ u = .ref l ∧ s2.heap.IsList l its.toArray ∧ PyProof.Rows.IntsAre its ns ∧ its.length = ns.length ∧ ns.length ≤ 4000 ∧ Q (.int ((met ns).length : Nat)) H1) → R u s2) →
      wpAny (model X.prog X.w) X.A (eval a X.env) R X.xe s := by
    intro R hR
    refine thn (ha.run pins s σ H _ I h) ?_
    rintro v s1 ⟨x, H1, I1, r1, l, ns, rfl, hq, hl, q1⟩
    obtain ⟨its, r, pl, hz⟩ := I1.list hq
    cases r1
    exact hR _ _ ⟨l, ns, H1, its, I1, rfl, pl.isList, RZ.intsAre_vals r, by rw [← r.length, List.length_map], hl, q1⟩
  refine PyProof.Rows.Call_ (ld_blt I hg hm PySem.boot_len ?_)
  refine PyProof.Rows.callWith_builtin1
    (PyProof.Rows.args_cons ?_ rfl) rfl rfl
  refine PyProof.Rows.Call_
    (ld_blt I hg2 hm2 PyProof.Rows.boot_set ?_)
  refine PyProof.Rows.callWith_type1
    (PyProof.Rows.args_cons (inner _ ?_) na) na rfl
  rintro _ s1 ⟨l, ns, H1, its, I1, rfl, il, ia, len, hl, q1⟩
  refine PyProof.Rows.args_nil ?_
  have size : its.toArray.size = ns.length := by rw [List.size_toArray, len]
  refine call_set_list (I1.ok.hd hc) il (by simpa using ia)
    (by rw [size]; unfold scanBound; omega) ?_
  intro h' tk hS hk
  refine PyProof.Rows.args_nil ?_
  rw [size] at hS
  obtain ⟨o, es, ep, t, ho, hex, hd, _, _, _, hf, hn⟩ := hS
  have I2 : Inv X pins σ H1 { s1 with heap := h', toks := tk } :=
    I1.kept fun b o e => hk b o (Heap.lt_size e) e
  have small : (met ns).length ≤ ns.length := by
    unfold met
    generalize (fun i => ns.getD i 0) = g
    generalize ns.length = n
    induction n with
    | zero => exact Nat.le_refl _
    | succ n ih =>
      rw [PyProof.Rows.firstMet_succ]
      unfold PyProof.Rows.step_dedup
      split
      · omega
      · rw [List.length_append]
        show _ + 1 ≤ _
        omega
  have hn' : (met ns).length = _ := rfl
  unfold met at small hn' q1
  refine call_len_set ho hex hd hf (by rw [hn] <;> omega) ?_
  exact ⟨.int _, H1, I2.tok _, ⟨_, by rw [hn]⟩, q1⟩
theorem met_mem (g : Nat → Int) (x : Int) : ∀ n, x ∈ PyProof.Rows.firstMet g n ↔ ∃ j, j < n ∧ g j = x
  | 0 => ⟨fun h => absurd h (by show x ∉ ([] : List Int); simp), fun ⟨j, h, _⟩ => absurd h (Nat.not_lt_zero _)⟩
  | n + 1 => by
    rw [PyProof.Rows.firstMet_succ]
    unfold PyProof.Rows.step_dedup
    have ih := met_mem g x n
    split
    · rename_i hb
      rw [ih]
      obtain ⟨y, hy, ey⟩ := List.any_eq_true.mp hb
      have ey2 : y = g n := eq_of_beq ey
      rw [ey2] at hy
      obtain ⟨i, hi, ei⟩ := (met_mem g (g n) n).mp hy
      refine ⟨fun ⟨j, h1, h2⟩ => ⟨j, by omega, h2⟩, fun ⟨j, h1, h2⟩ => ?_⟩
      by_cases e : j = n
      · subst e
        exact ⟨i, hi, by rw [ei]; exact h2⟩
      · exact ⟨j, by omega, h2⟩
    · rw [List.mem_append, ih, List.mem_singleton]
      refine ⟨?_, fun ⟨j, h1, h2⟩ => ?_⟩
      · rintro (⟨j, h1, h2⟩ | h)
        · exact ⟨j, by omega, h2⟩
        · exact ⟨n, by omega, h.symm⟩
      · by_cases e : j = n
        · subst e
          exact .inr h2.symm
        · exact .inl ⟨j, by omega, h2⟩
theorem met_len (g : Nat → Int) : ∀ n, (PyProof.Rows.firstMet g n).length ≤ n ∧ ((PyProof.Rows.firstMet g n).length = n ↔ ∀ j k, j < k → k < n → g j ≠ g k)
  | 0 => ⟨Nat.le_refl _, fun _ j k _ h => absurd h (Nat.not_lt_zero _), fun _ => rfl⟩
  | n + 1 => by
    obtain ⟨ih1, ih2⟩ := met_len g n
    rw [PyProof.Rows.firstMet_succ]
    unfold PyProof.Rows.step_dedup
    split
    · rename_i hb
      obtain ⟨y, hy, ey⟩ := List.any_eq_true.mp hb
      have ey2 : y = g n := eq_of_beq ey
      rw [ey2] at hy
      obtain ⟨i, hi, ei⟩ := (met_mem g (g n) n).mp hy
      exact ⟨by omega, fun z => absurd z (by omega), fun z => absurd ei (z i n hi (by omega))⟩
    · rename_i hb
      rw [List.length_append]
      show _ + 1 ≤ _ ∧ (_ + 1 = _ ↔ _)
      refine ⟨by omega, fun z j k h1 h2 => ?_, fun z => ?_⟩
      · by_cases e : k = n
        · subst e
          intro he
          exact hb (List.any_eq_true.mpr ⟨g j, (met_mem g (g j) k).mpr ⟨j, h1, rfl⟩, by rw [he]; exact beq_self_eq_true _⟩)
        · exact ih2.mp (by omega) j k h1 (by omega)
      · rw [ih2.mpr fun j k h1 h2 => z j k h1 (by omega)]
section
variable {f : FPar}
def elems (f : FPar) : List (Fe f) := (List.range (f.p ^ (f.e + 1))).map fun (k : Nat) => feOf f (k : Int)
theorem feOf_val {k : Nat} (h : k < f.p ^ (f.e + 1)) : (feOf f (k : Int)).1 = (k : Int) := Int.emod_eq_of_lt (Int.natCast_nonneg k) (Int.ofNat_lt.mpr h)
theorem elems_fv (f : FPar) : (elems f).map fv = ((List.range (f.p ^ (f.e + 1))).map fun (k : Nat) => V.int (k : Int)) := by
  unfold elems
  rw [List.map_map]
  refine List.map_congr_left fun k hk => ?_
  show V.int (feOf f (k : Int)).1 = _
  rw [feOf_val (List.mem_range.mp hk)]
theorem mem_elems (a : Fe f) : a ∈ elems f := by
  have h := a.2
  refine List.mem_map.mpr ⟨a.1.toNat, List.mem_range.mpr (by have := h.2; have := h.1; omega), fe_ext ?_⟩
  rw [feOf_val (by have := h.2; have := h.1; omega)]
  have := h.1
  omega
theorem elems_nodup (f : FPar) : (elems f).Nodup := by
  unfold elems List.Nodup
  refine List.pairwise_map.mpr (List.Pairwise.imp_of_mem ?_ List.nodup_range)
  intro a b ha hb hne e
  have h1 := congrArg (fun x : Fe f => x.1) e
  simp only [feOf_val (List.mem_range.mp ha), feOf_val (List.mem_range.mp hb)] at h1
  exact hne (by omega)
/-- the roots -/
def rootsL (xs : List (Fe f)) : List (Fe f) := (elems f).filter fun t => decide (val xs t = 0)
theorem one_ne (h : 2 ≤ f.p) : (1 : Fe f) ≠ 0 := fun z => by
  have h1 := congrArg (fun x : Fe f => x.1) z
  simp only [fe_one, fe_zero] at h1
  exact absurd h1 (by decide)
theorem fv_dec (a b : Fe f) : decide (fv a = fv b) = decide (a = b) := by
  by_cases h : a = b
  · rw [h, decide_eq_true rfl, decide_eq_true rfl]
  · rw [decide_eq_false h]
    exact decide_eq_false fun z => h (fe_ext (V.int.inj z))
theorem fv_zero' : fv (0 : Fe f) = V.int 0 := fv_zero
end
section
variable {P : Program} {w : World} {K : PySem.W.Frag} {mg : Str → Option Value} {base : Heap}
def spMAllF (K : PySem.W.Frag) (C : Addr) : Sp := fun vs H Q _ => ∃ (x : Addr) (f : FPar) (g : Nat), vs = [.ref x] ∧ FXF K C H x f g ∧ f.p ^ (f.e + 1) ≤ 256 ∧ RetL ((elems f).map fv) H Q
def spMSubF (K : PySem.W.Frag) (C : Addr) : Sp := fun vs H Q _ => ∃ (x : Addr) (f : FPar) (g : Nat) (a b : Fe f), vs = [.ref x, fv a, fv b] ∧ FXF K C H x f g ∧ RetV (fv (a - b)) H Q
/-! Field_over: 0 self, 1 a, 2 b -/
abbrev s_Field_over : Stmt := inClass (topS 23) 9
theorem sc_Field_over : FnScope ["self", "a", "b"] ["self", "a", "b"] (defScope s_Field_over) := ⟨rfl, rfl, rfl, by decide +kernel, rfl, by decide +kernel, by decide +kernel⟩
def spMOverF (K : PySem.W.Frag) (C D : Addr) : Sp := fun vs H Q E => ∃ (x : Addr) (f : FPar) (g : Nat) (a b : Fe f), vs = [.ref x, fv a, fv b] ∧ FXF K C H x f g ∧ (b ≠ 0 → ∀ c : Fe f, c * b = a → RetV (fv c) H Q) ∧ (b = 0 → ∀ H', Ex H H' → E (.ref D) none H')
theorem ok_moverF {fa C D : Addr} {fd : FuncData} (F : Fun K "over" "Field.over" s_Field_over fa fd) (T : FTxt mg) (TC : CTxt K mg C) (M_times : Md P w K mg base CX0 2 C "times" ["self", "a", "b"] (spMMul K C)) (M_inverse : Md P w K mg base (L2.CX P w) 2 C "inverse" ["self", "a"] (spMInv K C D)) : FnOk P w K mg base (L2.CX P w) 3 fa fd ["self", "a", "b"] (spMOverF K C D) := by
  refine F.okX sc_Field_over (fun vs H Q E h => ?_) (fun cdv A outer s H vs Q E hr h => ?_)
  · obtain ⟨_, _, _, _, _, rfl, _⟩ := h
    rfl
  obtain ⟨x, f, g, a, b, rfl, hF, k1, k2⟩ := h
  obtain ⟨dx, c, as, ap, an, aw, al, h⟩ := id hF.fld
  refine ⟨_, (pss_one (ps_ret (pe_md M_times TC.cl hr (pv 0) (pa_cons (pv 1) (pa_cons (pe_mdX M_inverse TC.cl hr (passes_call (takes_of rfl rfl rfl rfl) (fun _ _ _ _ z => z)) (pv 0) (pa_cons (pv 2) pa_nil)) pa_nil))))), ?_⟩
  by_cases h0 : b = 0
  · have h0' : b.1 = 0 := by rw [h0]; exact fe_zero
    exact s_retR (er_methA rfl h.ob (fs_no (by decide +kernel)) (era_tail (ev_var rfl) (era_head (er_meth rfl h.ob (fs_no (by decide +kernel)) (ea_cons (ev_var rfl) ea_nil) fun H1 e1 w Q1 => ⟨x, f.p, f.e, g, f.m, b.1, rfl, hF.ex e1, b.2, fun q => absurd h0' q, fun _ H2 e2 => w H2 e2⟩)))) fun H1 e1 => k2 h0 H1 e1
  · obtain ⟨y, hy⟩ := hF.pr.inv1 b h0
    refine s_ret (v := fv (a * y)) (ev_mul hF rfl (ev_var rfl) (ev_meth rfl h.ob (fs_no (by decide +kernel)) (ea_cons (ev_var rfl) ea_nil) (v := fv y) (fun H1 e1 Q1 q1 E1 => ⟨x, f.p, f.e, g, f.m, b.1, rfl, hF.ex e1, b.2, fun _ y' hy' => ?_, fun q => absurd q (fe_ne h0)⟩))) fun H1 e1 => k1 h0 (a * y) (by
      have : a * y * b = a * (b * y) := by grind
      rw [this, hy]
      grind) H1 e1
    have e2 : (⟨y', hy'.1⟩ : Fe f) = y := by
      have h1 : b * (⟨y', hy'.1⟩ : Fe f) = 1 := fe_ext (by rw [fe_one]; exact hy'.2)
      have h2 : (⟨y', hy'.1⟩ : Fe f) = (⟨y', hy'.1⟩ : Fe f) * (b * y) := by rw [hy]; grind
      have h3 : (⟨y', hy'.1⟩ : Fe f) * (b * y) = (b * (⟨y', hy'.1⟩ : Fe f)) * y := by grind
      rw [h2, h3, h1]
      grind
    have e3 : y' = y.1 := congrArg (fun x : Fe f => x.1) e2
    rw [e3]
    exact q1
end
end My
set_option Elab.async false
set_option linter.all false
set_option maxRecDepth 100000
set_option maxHeartbeats 1000000
namespace My
open PySem L2 Evl GxR MyG MyS
local macro_rules | `(tactic| walk_at "ev") => `(tactic| repeat' (first
  | exact ev_c
  | exact ev_var rfl
  | exact ea_nil
  | exact eo_none
  | (refine' ev_cb ?ea (rc_len ?sq); (case ea => walk_at "evs"); (case sq => walk_at "sq"))
  | (refine' ev_op ?a ?b (rv_ixL ?sq ?ix); (case a => walk_at "evs"); (case b => walk_at "evs"); (case sq => walk_at "sq"); (case ix => walk_at "at"))
  | refine' ea_cons ?_ ?_
  | refine' eo_some ?_
  | refine' ev_op ?_ ?_ rv_I0
  | refine' ev_op ?_ ?_ (rv_eq ?_)
  | refine' ev_op ?_ ?_ (rv_ne ?_)
  | refine' ev_op ?_ ?_ (rv_I ?_)
  | refine' ev_un ?_ ru_neg
  | refine' ev_cb ?_ rc_int
  | refine' ev_cb ?_ rc_abs
  | refine' ev_cb ?_ rc_max2
  | refine' ev_andV ?_ ?_
  | refine' ev_notV ?_
  | refine' et_test ?_
  | refine' et_B ?_
  | refine' et_not ?_))
local macro_rules | `(tactic| walk_at "side") => `(tactic| first
  | rfl
  | decide
  | exact ⟨by decide, by decide⟩
  | exact .inr ⟨by decide, by decide⟩
  | exact .inl ⟨by decide, by decide⟩
  | omega
  | exact .inl ⟨by omega, by omega⟩
  | exact ⟨by omega, by omega⟩
  | exact .inr ⟨by omega, by omega⟩)
local macro_rules | `(tactic| walk_at "evs") => `(tactic| (walk_at "ev"; all_goals (walk_at "side")))
local macro_rules | `(tactic| walk_at "ex") => `(tactic| first
  | with_reducible exact Ex.refl _
  | with_reducible assumption
  | (refine' Ex.trans ?_ ?b; (case b => with_reducible assumption); walk_at "ex"))
local macro_rules | `(tactic| walk_at "sq") => `(tactic| first
  | (refine' sq_ex ?h ?e; (case h => with_reducible assumption); (case e => walk_at "ex"))
  | (refine' ex_l ?e ?h; (case h => with_reducible assumption); (case e => walk_at "ex"))
  | (refine' ex_l ?e ?h; (case h => assumption); (case e => walk_at "ex"))
  | assumption
  | exact sq_of (by assumption))
local macro_rules | `(tactic| walk_at "at") => `(tactic| first
  | exact at_int (by omega) (by omega)
  | exact atI_nat (j := 0) rfl
  | exact atI_nat (j := 1) rfl
  | exact atI_nat (j := 2) rfl)
local macro_rules | `(tactic| walk_at "side2") => `(tactic| first | exact CMul_bdl (by assumption) | exact CMul_bdr (by assumption) | walk_at "side")
local macro_rules | `(tactic| walk_at "evb") => `(tactic| (walk_at "ev"; all_goals (walk_at "side2")))

local macro_rules | `(tactic| walk_at "fl") => `(tactic| (unfold FsOf; repeat (first | rw [lookup_putF, if_pos rfl] | rw [lookup_putF, if_neg (by decide +kernel)])))
local macro_rules | `(tactic| walk_at "nm") => `(tactic| (try simp only [List.set_cons_zero, List.set_cons_succ]))
section
variable {f : FPar}
theorem given_filter (xs : List (Fe f)) (p : Fe f → Bool) : given xs.length (fun i => p (cf xs i)) (fun i => fv (cf xs i)) = (xs.filter p).map fv := by
  unfold given
  have e : xs = (List.range xs.length).map (cf xs) := cf_ext (by rw [List.length_map, List.length_range]) fun i hi => by rw [cf_range, if_pos hi]
  conv => rhs; rw [e, List.filter_map, List.map_map]
  rfl
theorem lin_fv (s : Fe f) : [fv (-s), V.int 1] = (lin s).map fv := by
  show [fv (-s), V.int 1] = [fv (-s), fv 1]
  rw [fv_one]
end
section
variable {K : PySem.W.Frag} {σ : L2.St} {H : Hp} {D : Ends} {tz : TS} {t1 t2 : TE} {C x : Addr} {f : FPar} {g i : Nat} {a b : Fe f}
theorem ev_subF (hF : FXF K C H x f g) (hi : σ[i]? = some (some (.ref x))) (h1 : Ev t1 σ H (fv a)) (h2 : Ev t2 σ H (fv b)) : Ev (tMeth C "minus" (spMSubF K C) [] E0 (tVar i) (tCons t1 (tCons t2 tNil))) σ H (fv (a - b)) := by
  obtain ⟨dx, cm, as, ap, an, aw, al, h⟩ := id hF.fld
  exact ev_meth hi h.ob (fs_no (by decide +kernel)) (ea_cons h1 (ea_cons h2 ea_nil)) (fun H1 e1 Q1 q1 E1 => ⟨x, f, g, a, b, rfl, hF.ex e1, q1⟩)
theorem ev_overF {D0 : Addr} {c : Fe f} (hF : FXF K C H x f g) (hi : σ[i]? = some (some (.ref x))) (h1 : Ev t1 σ H (fv a)) (h2 : Ev t2 σ H (fv b)) (hb : b ≠ 0) (hc : c * b = a) : Ev (tMeth C "over" (spMOverF K C D0) [] E0 (tVar i) (tCons t1 (tCons t2 tNil))) σ H (fv c) := by
  obtain ⟨dx, cm, as, ap, an, aw, al, h⟩ := id hF.fld
  refine ev_meth hi h.ob (fs_no (by decide +kernel)) (ea_cons h1 (ea_cons h2 ea_nil)) (fun H1 e1 Q1 q1 E1 => ⟨x, f, g, a, b, rfl, hF.ex e1, fun _ c' hc' => ?_, fun z => absurd z hb⟩)
  have : c' = c := by
    obtain ⟨y, hy⟩ := hF.pr.inv1 b hb
    have h3 : c' * b * y = c * b * y := by rw [hc', hc]
    have h4 : c' * b * y = c' * (b * y) := by grind
    have h5 : c * b * y = c * (b * y) := by grind
    rw [h4, h5, hy] at h3
    grind
  rw [this]
  exact q1
theorem ev_eval {r : Addr} {t : Fe f} {zs : List (Fe f)} {ta : TA} (hF : FXF K C H x f g) (h : EvA ta σ H [.ref x, .ref r, fv t]) (hz : SqL K H r (zs.map fv)) : Ev (tCall (spEval K C) [] E0 ta) σ H (fv (val zs t)) :=
  ev_call h (fun H1 e1 Q1 q1 E1 => ⟨x, r, f, g, t, zs, rfl, hF.ex e1, ex_l e1 hz, q1⟩)
end
section
variable {P : Program} {w : World} {K : PySem.W.Frag} {mg : Str → Option Value} {base : Heap}
def spRoots (K : PySem.W.Frag) (C D : Addr) : Sp := fun vs H Q E => ∃ (x r : Addr) (f : FPar) (g : Nat) (xs : List (Fe f)), vs = [.ref x, .ref r] ∧ FXF K C H x f g ∧ H r = some (.lst (xs.map fv)) ∧ (xs ≠ [] → RetL ((rootsL xs).map fv) H Q) ∧ (xs = [] → ∀ H', Ex H H' → E (.ref D) none H')
def spFromR (K : PySem.W.Frag) (C : Addr) : Sp := fun vs H Q _ => ∃ (x r : Addr) (f : FPar) (g : Nat) (rs : List (Fe f)), vs = [.ref x, .ref r] ∧ FXF K C H x f g ∧ H r = some (.lst (rs.map fv)) ∧ rs.length ≤ 300 ∧ RetL ((prF [1] rs).map fv) H Q
end
end My
set_option Elab.async false
set_option linter.all false
set_option maxRecDepth 100000
set_option maxHeartbeats 1000000
namespace My
open PySem L2 Evl
/-! pairs of lists walked; a list walked from its end -/
/-- two lists as arguments -/
def EvZ (K : PySem.W.Frag) (ta : TA) (σ : L2.St) (H : Hp) (xs ys : List V) : Prop := ∀ H1, Ex H H1 → ∀ Q : List V → Hp → Prop, (∀ a b H2, Ex H1 H2 → SqL K H2 a xs → SqL K H2 b ys → Q [.ref a, .ref b] H2) → ta σ H1 Q
section
variable {K : PySem.W.Frag} {σ : L2.St} {H : Hp} {ta tb te : TE} {t : TT} {tA : TA} {g : TG} {n : Nat} {vs : List Nat} {xs ys : List V}
theorem ez_nn (ha : EvL ta σ H xs) (hb : EvL tb σ H ys) : EvZ K (tCons ta (tCons tb tNil)) σ H xs ys := fun H1 e Q q =>
  ha H1 e _ fun a H2 na e2 h2 => hb H2 (e.trans e2) _ fun b H3 nb e3 h3 => q a b H3 (e2.trans e3) (sq_of (e3 _ _ h2)) (sq_of h3)
theorem ez_nv {b : Addr} (ha : EvL ta σ H xs) (hb : Ev tb σ H (.ref b)) (hy : SqL K H b ys) : EvZ K (tCons ta (tCons tb tNil)) σ H xs ys := fun H1 e Q q =>
  ha H1 e _ fun a H2 na e2 h2 => hb H2 (e.trans e2) _ fun H3 e3 => q a b H3 (e2.trans e3) (sq_of (e3 _ _ h2)) (ex_l (e.trans (e2.trans e3)) hy)
theorem ez_vv {a b : Addr} (ha : Ev ta σ H (.ref a)) (hx : SqL K H a xs) (hb : Ev tb σ H (.ref b)) (hy : SqL K H b ys) : EvZ K (tCons ta (tCons tb tNil)) σ H xs ys := fun H1 e Q q =>
  ha H1 e _ fun H2 e2 => hb H2 (e.trans e2) _ fun H3 e3 => q a b H3 (e2.trans e3) (ex_l (e.trans (e2.trans e3)) hx) (ex_l (e.trans (e2.trans e3)) hy)
theorem el_catNV {b : Addr} (ha : EvL ta σ H xs) (hb : Ev tb σ H (.ref b)) (hl : H b = some (.lst ys)) (hz : xs.length + ys.length ≤ 100000) : EvL (tOp rCat ta tb) σ H (xs ++ ys) := fun H1 e Q q =>
  ha H1 e _ fun l H2 nl e2 hl2 => hb H2 (e.trans e2) _ fun H3 e3 => ⟨l, b, xs, ys, rfl, rfl, e3 _ _ hl2, (e.trans (e2.trans e3)) _ _ hl, sz_of hz, fun r nr => q r _ (fresh_back (e2.trans e3) nr) ((e2.trans e3).trans (Ex.new nr)) upd_same⟩
/-- a comprehension over the pairs of two lists -/
theorem el_lcZ (hz : EvZ K tA σ H xs ys) (hn : n = min xs.length ys.length) (hn2 : n ≤ 40000)
    (σ2 : V → V → L2.St) (hgt : ∀ T x y H' (Q' : L2.St → Hp → Prop), H' T = some (.tup [x, y]) → Q' (σ2 x y) H' → g (.ref T) (wipe σ vs) H' Q') (hw : ∀ x y, wipe (σ2 x y) vs = wipe σ vs)
    (v : Nat → V) (he : ∀ i x y H1, Ex H H1 → xs[i]? = some x → ys[i]? = some y → Ev te (σ2 x y) H1 (v i)) : EvL (tLc (iZip K tA) g tYes te vs) σ H (given n (fun _ => true) v) := fun H0 e Q q =>
  hz H0 e _ fun a b H1 e1 h1 h2 => ⟨a, b, xs, ys, rfl, h1, h2, fun Dl hD => lc_it (walk_zip (K := K) (xs := xs) (ys := ys) hn) (Cw H1 (fun _ => true) v Dl) ⟨hD, Ex.new hD, upd_same⟩ (fun i H' _ p => ⟨ex_l p.2.1 h1, ex_l p.2.1 h2⟩) (fun i x H' H'' hi p y => by
    obtain ⟨T, x1, y1, rfl, hT, rfl, hx, hy⟩ := y
    have eT : Ex H' (upd H' T (.tup [x1, y1])) := Ex.new hT
    have p' : Cw H1 (fun _ => true) v Dl i (upd H' T (.tup [x1, y1])) := ⟨p.1, p.2.1.trans eT, eT _ _ p.2.2⟩
    have e9 : Ex H H1 := e.trans e1
    refine hgt T x1 y1 _ _ upd_same ⟨hw _ _, ?_⟩
    exact cw_turn p' (by omega) et_yes (fun _ => he i x1 y1 H1 e9 hx hy)) (fun H' p => q Dl H' (fresh_back e1 p.1) (e1.trans p.2.1) p.2.2)⟩
end
theorem q_forRev {K : PySem.W.Frag} {σ : L2.St} {H : Hp} {te : TE} {D : Ends} {tz tu : TS} {xs : List V} {j : Nat} (h : EvL te σ H xs) (Pv : Addr → Nat → L2.St → Hp → Prop) (h0 : ∀ p H1, H p = none → Ex H H1 → H1 p = some (.lst xs) → Pv p 0 σ H1) (hl : ∀ p i σ' H', i ≤ xs.length → Pv p i σ' H' → SqL K H' p xs)
    (hs : ∀ p i x σ' H', i < xs.length → xs[xs.length - 1 - i]? = some x → Pv p i σ' H' → tu { D with nx := Pv p (i + 1), ct := Pv p (i + 1), bk := tz D } (σ'.set j (some x)) H') (hd : ∀ p σ' H', Pv p xs.length σ' H' → tz D σ' H') : tSeq (tFor (iRev K (tCons te tNil)) (gName j) tu) tz D σ H :=
  h H (Ex.refl H) _ fun p H1 np e1 h1 => ⟨p, xs, rfl, sq_of h1, for_it (walk_rev (K := K) (xs := xs)) (Pv p) (h0 p H1 np e1 h1) (hl p) (fun i x σ' H' H'' hi pv y => by
    obtain ⟨rfl, hx⟩ := y
    exact hs p i x σ' _ hi hx pv) (hd p)⟩
theorem q_forZ {K : PySem.W.Frag} {σ : L2.St} {H : Hp} {tA : TA} {D : Ends} {tz tu : TS} {g : TG} {xs ys : List V} {a b : Addr} {n : Nat} (h : EvA tA σ H [.ref a, .ref b]) (hx : SqL K H a xs) (hy : SqL K H b ys) (hn : n = min xs.length ys.length) (Pv : Nat → L2.St → Hp → Prop) (h0 : ∀ H1, Ex H H1 → Pv 0 σ H1) (hl : ∀ i σ' H', i ≤ n → Pv i σ' H' → SqL K H' a xs ∧ SqL K H' b ys)
    (hs : ∀ i x y σ' H' T, xs[i]? = some x → ys[i]? = some y → Pv i σ' H' → H' T = none → g (.ref T) σ' (upd H' T (.tup [x, y])) fun σ2 H2 => tu { D with nx := Pv (i + 1), ct := Pv (i + 1), bk := tz D } σ2 H2) (hd : ∀ σ' H', Pv n σ' H' → tz D σ' H') : tSeq (tFor (iZip K tA) g tu) tz D σ H :=
  h H (Ex.refl H) _ fun H1 e1 => ⟨a, b, xs, ys, rfl, ex_l e1 hx, ex_l e1 hy, for_it (walk_zip (K := K) hn) Pv (h0 H1 e1) hl (fun i x σ' H' H'' hi p y => by
    obtain ⟨T, x1, y1, rfl, hT, rfl, hx1, hy1⟩ := y
    exact hs i x1 y1 σ' H' T hx1 hy1 p hT) hd⟩
end My
set_option Elab.async false
set_option linter.all false
set_option maxRecDepth 100000
set_option maxHeartbeats 2000000
namespace My
open PySem L2 Evl GxR MyG MyS
local macro_rules | `(tactic| walk_at "ev") => `(tactic| repeat' (first
  | exact ev_c
  | exact ev_var rfl
  | exact ea_nil
  | exact eo_none
  | (refine' ev_cb ?ea (rc_len ?sq); (case ea => walk_at "evs"); (case sq => walk_at "sq"))
  | (refine' ev_op ?a ?b (rv_ixL ?sq ?ix); (case a => walk_at "evs"); (case b => walk_at "evs"); (case sq => walk_at "sq"); (case ix => walk_at "at"))
  | refine' ea_cons ?_ ?_
  | refine' eo_some ?_
  | refine' ev_op ?_ ?_ rv_I0
  | refine' ev_op ?_ ?_ (rv_eq ?_)
  | refine' ev_op ?_ ?_ (rv_ne ?_)
  | refine' ev_op ?_ ?_ (rv_I ?_)
  | refine' ev_un ?_ ru_neg
  | refine' ev_cb ?_ rc_int
  | refine' ev_cb ?_ rc_abs
  | refine' ev_cb ?_ rc_max2
  | refine' ev_andV ?_ ?_
  | refine' ev_notV ?_
  | refine' et_test ?_
  | refine' et_B ?_
  | refine' et_not ?_))
local macro_rules | `(tactic| walk_at "side") => `(tactic| first
  | rfl
  | decide
  | exact ⟨by decide, by decide⟩
  | exact .inr ⟨by decide, by decide⟩
  | exact .inl ⟨by decide, by decide⟩
  | omega
  | exact .inl ⟨by omega, by omega⟩
  | exact ⟨by omega, by omega⟩
  | exact .inr ⟨by omega, by omega⟩)
local macro_rules | `(tactic| walk_at "evs") => `(tactic| (walk_at "ev"; all_goals (walk_at "side")))
local macro_rules | `(tactic| walk_at "ex") => `(tactic| first
  | with_reducible exact Ex.refl _
  | with_reducible assumption
  | (refine' Ex.trans ?_ ?b; (case b => with_reducible assumption); walk_at "ex"))
local macro_rules | `(tactic| walk_at "sq") => `(tactic| first
  | (refine' sq_ex ?h ?e; (case h => with_reducible assumption); (case e => walk_at "ex"))
  | (refine' ex_l ?e ?h; (case h => with_reducible assumption); (case e => walk_at "ex"))
  | (refine' ex_l ?e ?h; (case h => assumption); (case e => walk_at "ex"))
  | assumption
  | exact sq_of (by assumption))
local macro_rules | `(tactic| walk_at "at") => `(tactic| first
  | exact at_int (by omega) (by omega)
  | exact atI_nat (j := 0) rfl
  | exact atI_nat (j := 1) rfl
  | exact atI_nat (j := 2) rfl)
local macro_rules | `(tactic| walk_at "side2") => `(tactic| first | exact CMul_bdl (by assumption) | exact CMul_bdr (by assumption) | walk_at "side")
local macro_rules | `(tactic| walk_at "evb") => `(tactic| (walk_at "ev"; all_goals (walk_at "side2")))

local macro_rules | `(tactic| walk_at "fl") => `(tactic| (unfold FsOf; repeat (first | rw [lookup_putF, if_pos rfl] | rw [lookup_putF, if_neg (by decide +kernel)])))
local macro_rules | `(tactic| walk_at "nm") => `(tactic| (try simp only [List.set_cons_zero, List.set_cons_succ]))
section
variable {K : PySem.W.Frag} {σ : L2.St} {H : Hp} {D : Ends} {tz : TS} {f : FPar} {C D0 x r : Addr} {g i j k n : Nat} {ta tb te : TE} {t : TA} {zs : List (Fe f)} {P : List V → Hp → Prop} {a : Fe f}
theorem ev_neNil (ha : Ev ta σ H (.ref r)) (hr : H r = some (.lst (zs.map fv))) (hb : EvL tb σ H []) : Ev (tOp (rNeD K) ta tb) σ H (.bl (!decide (zs = []))) := fun H1 e Q q =>
  ha H1 e _ fun H2 e2 => hb H2 (e.trans e2) _ fun p H3 np e3 h3 => by
    have hr3 := (e.trans (e2.trans e3)) _ _ hr
    rw [map_fvI] at hr3
    have := rv_neL (K := K) (ms := []) (sq_of hr3) (sq_of h3) H3 (Ex.refl _) Q
    refine this fun H4 e4 => ?_
    have hd : decide (zs.map (·.1) = []) = decide (zs = []) := by cases zs <;> rfl
    show Q (.bl (!decide (zs.map (·.1) = []))) H4
    rw [hd]
    exact q H4 ((e2.trans e3).trans e4)
/-- name = (.., new lists, ..) -/
theorem q_asgTX (h : EvAX t σ H P) (hl : ∀ vs H1, P vs H1 → vs.length ≤ 1000) (k : ∀ vs p H1, P vs H1 → H1 p = none → Ex H H1 → tz D (σ.set i (some (.ref p))) (upd H1 p (.tup vs))) : tSeq (tAsg (tTup t) (gName i)) tz D σ H := by
  show tTup t σ H (fun v H1 => tz D (σ.set i (some v)) H1)
  exact h H (Ex.refl _) _ fun vs H1 e1 hp => ⟨sz_of (by have := hl vs H1 hp; omega), fun p np => k vs p H1 hp np e1⟩
/-- return f(..)[i], f's answer a tuple -/
theorem s_retCI {sp : Sp} {E : XK} {vs : List V} {z : Int} (h : EvA t σ H vs) (kk : ∀ H1, Ex H H1 → sp vs H1 (fun v H2 => rIxT K v (.int z) H2 D.rt) E) : tRet (tOp (rIxT K) (tCall sp [] E t) (tC (.int z))) D σ H := by
  refine h H (Ex.refl H) _ fun H1 e1 => ?_
  rw [List.append_nil]
  exact kk H1 e1
/-- the inverse of a number that is not 0 -/
theorem ev_inv1 {iv : Fe f} (hF : FXF K C H x f g) (hi : σ[i]? = some (some (.ref x))) (h1 : Ev te σ H (fv a)) (ha : a ≠ 0) (hv : a * iv = 1) : Ev (tMeth C "inverse" (spMInv K C D0) [] E0 (tVar i) (tCons te tNil)) σ H (fv iv) := by
  obtain ⟨dx, cm, as, ap, an, aw, al, h⟩ := id hF.fld
  refine ev_meth hi h.ob (fs_no (by decide +kernel)) (ea_cons (x := fv a) h1 ea_nil) (fun H3 e3 Q3 q3 E3 => ⟨x, f.p, f.e, g, f.m, a.1, rfl, hF.ex e3, a.2, fun _ b hb => ?_, fun z => absurd z (fe_ne ha)⟩)
  have hb1 : (⟨b, hb.1⟩ : Fe f) = iv := by
    have h1 : a * (⟨b, hb.1⟩ : Fe f) = 1 := fe_ext (by rw [fe_mul, fe_one]; exact hb.2)
    grind
  have hb2 : b = iv.1 := congrArg (fun z : Fe f => z.1) hb1
  rw [hb2]
  exact q3
end
section
variable {P : Program} {w : World} {K : PySem.W.Frag} {mg : Str → Option Value} {base : Heap}
def RetT3 (a b c : List V) (H : Hp) (Q : VK) : Prop := ∀ (T pa pb pc : Addr) H2, H T = none → H pa = none → H pb = none → H pc = none → Ex H H2 → H2 T = some (.tup [.ref pa, .ref pb, .ref pc]) → H2 pa = some (.lst a) → H2 pb = some (.lst b) → H2 pc = some (.lst c) → Q (.ref T) H2
def spBez (K : PySem.W.Frag) (C : Addr) : Sp := fun vs H Q _ => ∃ (x ra rb : Addr) (f : FPar) (g : Nat) (a b : List (Fe f)), vs = [.ref x, .ref ra, .ref rb] ∧ FXF K C H x f g ∧ H ra = some (.lst (a.map fv)) ∧ H rb = some (.lst (b.map fv)) ∧ Trimd a ∧ Trimd b ∧ a.length ≤ 120 ∧ b.length ≤ 120 ∧
  ∀ d u v : List (Fe f), BezP a b d u v → RetT3 (d.map fv) (u.map fv) (v.map fv) H Q
def spGcd (K : PySem.W.Frag) (C : Addr) : Sp := fun vs H Q _ => ∃ (x ra rb : Addr) (f : FPar) (g : Nat) (a b : List (Fe f)), vs = [.ref x, .ref ra, .ref rb] ∧ FXF K C H x f g ∧ H ra = some (.lst (a.map fv)) ∧ H rb = some (.lst (b.map fv)) ∧ Trimd a ∧ Trimd b ∧ a.length ≤ 120 ∧ b.length ≤ 120 ∧
  ∀ d u v : List (Fe f), BezP a b d u v → RetL (d.map fv) H Q
end
end My
set_option Elab.async false
set_option linter.all false
set_option maxRecDepth 100000
set_option maxHeartbeats 2000000
namespace My
open PySem L2 Evl GxR MyG MyS
local macro_rules | `(tactic| walk_at "ev") => `(tactic| repeat' (first
  | exact ev_c
  | exact ev_var rfl
  | exact ea_nil
  | exact eo_none
  | (refine' ev_cb ?ea (rc_len ?sq); (case ea => walk_at "evs"); (case sq => walk_at "sq"))
  | (refine' ev_op ?a ?b (rv_ixL ?sq ?ix); (case a => walk_at "evs"); (case b => walk_at "evs"); (case sq => walk_at "sq"); (case ix => walk_at "at"))
  | refine' ea_cons ?_ ?_
  | refine' eo_some ?_
  | refine' ev_op ?_ ?_ rv_I0
  | refine' ev_op ?_ ?_ (rv_eq ?_)
  | refine' ev_op ?_ ?_ (rv_ne ?_)
  | refine' ev_op ?_ ?_ (rv_I ?_)
  | refine' ev_un ?_ ru_neg
  | refine' ev_cb ?_ rc_int
  | refine' ev_cb ?_ rc_abs
  | refine' ev_cb ?_ rc_max2
  | refine' ev_andV ?_ ?_
  | refine' ev_notV ?_
  | refine' et_test ?_
  | refine' et_B ?_
  | refine' et_not ?_))
local macro_rules | `(tactic| walk_at "side") => `(tactic| first
  | rfl
  | decide
  | exact ⟨by decide, by decide⟩
  | exact .inr ⟨by decide, by decide⟩
  | exact .inl ⟨by decide, by decide⟩
  | omega
  | exact .inl ⟨by omega, by omega⟩
  | exact ⟨by omega, by omega⟩
  | exact .inr ⟨by omega, by omega⟩)
local macro_rules | `(tactic| walk_at "evs") => `(tactic| (walk_at "ev"; all_goals (walk_at "side")))
local macro_rules | `(tactic| walk_at "ex") => `(tactic| first
  | with_reducible exact Ex.refl _
  | with_reducible assumption
  | (refine' Ex.trans ?_ ?b; (case b => with_reducible assumption); walk_at "ex"))
local macro_rules | `(tactic| walk_at "sq") => `(tactic| first
  | (refine' sq_ex ?h ?e; (case h => with_reducible assumption); (case e => walk_at "ex"))
  | (refine' ex_l ?e ?h; (case h => with_reducible assumption); (case e => walk_at "ex"))
  | (refine' ex_l ?e ?h; (case h => assumption); (case e => walk_at "ex"))
  | assumption
  | exact sq_of (by assumption))
local macro_rules | `(tactic| walk_at "at") => `(tactic| first
  | exact at_int (by omega) (by omega)
  | exact atI_nat (j := 0) rfl
  | exact atI_nat (j := 1) rfl
  | exact atI_nat (j := 2) rfl)
local macro_rules | `(tactic| walk_at "side2") => `(tactic| first | exact CMul_bdl (by assumption) | exact CMul_bdr (by assumption) | walk_at "side")
local macro_rules | `(tactic| walk_at "evb") => `(tactic| (walk_at "ev"; all_goals (walk_at "side2")))

local macro_rules | `(tactic| walk_at "nm") => `(tactic| (try simp only [List.set_cons_zero, List.set_cons_succ]))
section
variable {K : PySem.W.Frag} {σ : L2.St} {H : Hp} {f : FPar} {r p1 p2 : Addr} {ta tb : TE} {zs ys : List (Fe f)}
theorem rc_isTup {a : Addr} {xs : List V} {T : String} {b : Bool} (ha : SqT K H a xs) (h : kitB "tuple" T = some b) : RC (rIsi K) [.ref a, .ty T] H (.bl b) := fun H1 e _ q => by
  have hb : TyX K H1 (.ref a) (.type "tuple") := by
    rcases ex_t e ha with (z | ⟨o, z⟩) | ⟨o, its, n, hk, hc, _⟩
    · exact .base (.tup z)
    · exact .fTuple z
    · exact .kTuple hk hc
  exact ⟨.ref a, .ty T, .type "tuple", .type T, b, rfl, .ty T, hb, kit_ty h, q H1 (Ex.refl H1)⟩
/-- a new list against one that stands, the same -/
theorem ev_neFR (ha : EvL ta σ H (zs.map fv)) (hb : Ev tb σ H (.ref r)) (hr : H r = some (.lst (ys.map fv))) (h : zs = ys) : Ev (tOp (rNeD K) ta tb) σ H (.bl false) := fun H1 e Q q =>
  ha H1 e _ fun p H2 np e2 h2 => hb H2 (e.trans e2) _ fun H3 e3 => by
    have hr3 := (e.trans (e2.trans e3)) _ _ hr
    have hp3 := e3 _ _ h2
    rw [map_fvI] at hr3 hp3
    rw [h] at hp3
    have := rv_neL (K := K) (sq_of hp3) (sq_of hr3) H3 (Ex.refl _) Q
    rw [decide_eq_true rfl] at this
    exact this fun H4 e4 => q H4 ((e2.trans e3).trans e4)
/-- two that stand, the same -/
theorem ev_neRR (ha : Ev ta σ H (.ref p1)) (h1 : H p1 = some (.lst (zs.map fv))) (hb : Ev tb σ H (.ref p2)) (h2 : H p2 = some (.lst (ys.map fv))) (h : zs = ys) : Ev (tOp (rNeD K) ta tb) σ H (.bl false) := by
  subst h
  rw [map_fvI] at h1 h2
  have := ev_op ha hb (rv_neL (K := K) (sq_of h1) (sq_of h2))
  rw [decide_eq_true rfl] at this
  exact this
end
section
variable {f : FPar}
theorem DivP.back {a d q r : List (Fe f)} (h : DivP a d q r) : trimL (subL a (trimL (mulL q d))) = r := po_inj (trimL_trimd _) h.tr (by
  have := h.eq
  rw [po_trim, po_sub, po_trim, po_mul]
  grind)
theorem BezP.same (h : Inv1 f) {a b g u v g' u' v' : List (Fe f)} (x : BezP a b g u v) (y : BezP a b g' u' v') : g = g' := by
  by_cases z : a = [] ∧ b = []
  · rw [(x.z0 z.1 z.2).1, (y.z0 z.1 z.2).1]
  · have d1 : PDvd g g' := x.da.lin x.db y.eq
    have d2 : PDvd g' g := y.da.lin y.db x.eq
    exact d1.anti h x.tg y.tg x.mo y.mo d2 (y.nz z)
theorem BezP.back {a b g u v : List (Fe f)} (h : BezP a b g u v) : trimL (subL g (trimL (mulL u a))) = trimL (mulL v b) := po_inj (trimL_trimd _) (trimL_trimd _) (by
  have := h.eq
  rw [po_trim, po_sub, po_trim, po_mul, po_trim, po_mul]
  grind)
end
section
variable {P : Program} {w : World} {K : PySem.W.Frag} {mg : Str → Option Value} {base : Heap}
def BaseT (H : Hp) (t c : Addr) (f : FPar) : Prop := H t = some (.tup [.int (f.p : Int), .ref c, .int ((f.p ^ (f.e + 1) : Nat) : Int)])
def spQuo (K : PySem.W.Frag) (C : Addr) : Sp := fun vs H Q _ => ∃ (x t rp rd c : Addr) (f : FPar) (g : Nat) (a d : List (Fe f)), vs = [.ref x, .ref t, .ref rp, .ref rd] ∧ FXF K C H x f g ∧ FLF K H c f ∧ BaseT H t c f ∧ H rp = some (.lst (a.map fv)) ∧ H rd = some (.lst (d.map fv)) ∧ Trimd a ∧ Trimd d ∧ a.length ≤ 120 ∧ d.length ≤ 120 ∧ d ≠ [] ∧
  ∀ q r : List (Fe f), DivP a d q r → RetT2 (q.map fv) (r.map fv) H Q
def spLDvd (K : PySem.W.Frag) (C : Addr) : Sp := fun vs H Q _ => ∃ (x t rd rp c : Addr) (f : FPar) (g : Nat) (d a : List (Fe f)), vs = [.ref x, .ref t, .ref rd, .ref rp] ∧ FXF K C H x f g ∧ FLF K H c f ∧ BaseT H t c f ∧ H rp = some (.lst (a.map fv)) ∧ H rd = some (.lst (d.map fv)) ∧ Trimd a ∧ Trimd d ∧ a.length ≤ 120 ∧ d.length ≤ 120 ∧ PDvd d a ∧ RetV (.bl true) H Q
end
end My
set_option Elab.async false
set_option linter.all false
set_option maxRecDepth 100000
set_option maxHeartbeats 1000000
namespace MyT
open PySem PySem.Spec PyProof.Rows L2
/-- the wish of a clause «except x as n» whose class is met -/
def wMet (K : PySem.W.Frag) (c : Value) (i : Nat) (ts : Addr → Value → Option Addr → TS) (D : Ends) : WX := fun cls d σ H =>
  PySem.W.exmOne K cls c = some true ∧ ∀ a, H a = none →
    ts a cls d { nx := fun σ1 H1 => D.nx (σ1.set i none) H1, rt := D.rt, bk := fun σ1 H1 => D.bk (σ1.set i none) H1, ct := fun σ1 H1 => D.ct (σ1.set i none) H1 } (σ.set i (some (.ref a))) H
/-- what stands behind an exception of the body -/
def behind (X : Cx) (R : Flow → Shared → Prop) (hd : ExceptHandler) : Value → Shared → Prop := fun ev =>
  wpAny (model X.prog X.w) X.A (noteFrame ev X.env) (fun _ => wpAny (model X.prog X.w) X.A (setFlight ev none) (fun _ => wpAny (model X.prog X.w) X.A (handleBy ev X.env [hd]) R X.xe) X.xe) X.xe
section
variable {X : Cx} {x n : Str} {c : Value} {i : Nat} {body suite els : List Stmt} {b0 : Stmt} {np q1 q2 : Pos} {tb : WX → TS} {ts : Addr → Value → Option Addr → TS}
/-- try: body / except x as n: suite / else: els, where the body always raises what is caught -/
theorem ps_try_else (hs : X.stack = X.env :: X.outer) (hf : X.env.frame = some X.env.locals) (hN : X.N.Nodup) (hi : X.N[i]? = some n) (hln : X.env.kindOf n = some .local) (hc : Names X x c)
    (hb : ∀ (W : WX) (pn : List (Addr × Obj)) (xe : Value → Shared → Prop), Takes (X.tr pn xe) W → PassesOwn (model X.prog X.w) X.A X.env xe → PSs (X.tr pn xe) body (tb W))
    (hsu : ∀ (a : Addr) (oe : Obj) (cls : Value) (d : Option Addr) (pn : List (Addr × Obj)), Zc cls d oe → (∃ vs, oe.data = .fields vs) → PSs (X.suite a ((a, oe) :: pn)) (b0 :: suite) (ts a cls d)) :
    PS X (.Try body [.ExceptHandler (some (.Name x np)) (some n) (b0 :: suite) q1] els [] q2) (fun D σ H => tb (wMet X.K c i ts D) { D with nx := fun _ _ => False } σ H) := by
  refine ⟨?_⟩
  intro pins s σ H D I h
  have ok := I.ok
  have top : X.A.frames = some (X.env :: X.outer) := ok.frames.trans (congrArg some hs)
  refine (fun run => ?_ : (wpAny _ _ _ _ _ _) → _) ((hb (wMet X.K c i ts D) (X.pn ++ pins) (behind X (SP X pins D) (.ExceptHandler (some (.Name x np)) (some n) (b0 :: suite) q1)) ?_ PassesOwn.looking).run [] s σ H { D with nx := fun _ _ => False } (I.toTry _) h)
  · refine wpAny_Try_except (wpAny_mono run ?_ fun _ _ z => z)
    intro fl s1 z
    cases fl with
    | next =>
      obtain ⟨_, _, _, no⟩ := z
      exact no.elim
    | ret v =>
      obtain ⟨w, σ1, H1, J1, r1, z1⟩ := z
      exact ⟨w, σ1, H1, J1.ofTry ok, r1, z1⟩
    | brk =>
      obtain ⟨σ1, H1, J1, z1⟩ := z
      exact ⟨σ1, H1, J1.ofTry ok, z1⟩
    | cont =>
      obtain ⟨σ1, H1, J1, z1⟩ := z
      exact ⟨σ1, H1, J1.ofTry ok, z1⟩
  · intro u s' xx
    obtain ⟨a, B, s0, ps, σ1, H1, cls, d, rfl, I0, below, slots, sky0, fresh, osE, bareE, met, wish⟩ := xx
    have I1 : Inv X pins σ1 H1 s0 := I0.ofTry ok
    have sky1 : Sky B (X.env :: X.outer) a (Zc cls d) X.env.locals s'.heap := hs ▸ sky0
    show wpAny (model X.prog X.w) X.A (noteFrame (.ref a) X.env) _ _ _
    refine Sky.land Zc.steady top hf sky1 ?_
    intro hp fly slots2
    have I2 : Inv X pins σ1 H1 { s' with heap := hp } := I1.landed below fly.1 (slots.trans slots2) osE bareE
    obtain ⟨o2, v2, at2, z2, data2⟩ := fly.there
    have away : a ∉ frs (X.env :: X.outer) := by
      intro hm
      obtain ⟨_, o', at', nd⟩ := fly.2.2.1.mem hm
      have same : o' = o2 := Option.some.inj (at'.symm.trans at2)
      exact nd _ (same ▸ data2)
    have offL : a ≠ X.env.locals := by
      intro z
      refine away (List.mem_filterMap.mpr ⟨X.env, .head _, ?_⟩)
      rw [hf, z]
    have offF : a ∉ X.fs := by
      intro hm
      obtain ⟨ev, hev, z⟩ := List.mem_filterMap.mp hm
      exact away (List.mem_filterMap.mpr ⟨ev, .tail _ hev, z⟩)
    have inSuite := I2.suite at2 data2 fresh offL offF
    refine wpAny_handleBy_cons (codeAny_handlers_test ?_) (fun z => by cases z)
    have looks : PySem.W.Looks (model X.prog X.w) hp (typeOf (.ref a)) cls := by
      intro A1 R1 E1 t1 keep r1
      exact wpAny_typeOf_ref (keep _ _ at2) (by rw [z2.1]; exact r1)
    have named : ∀ {R1 E1 : Value → Shared → Prop}, R1 c { s' with heap := hp } → wpAny (model X.prog X.w) (X.A.mark (some (.ref a))) (eval (.Name x np) X.env) R1 E1 { s' with heap := hp } := by
      intro R1 E1 r1
      rcases hc with ⟨gl, nodbg, mgx | ⟨mgx, bt, nn⟩⟩
      · exact ld_glob (X := X.suite a ((a, o2) :: (X.pn ++ pins))) inSuite gl mgx r1 nodbg
      · exact ld_blt (X := X.suite a ((a, o2) :: (X.pn ++ pins))) inSuite gl mgx bt r1 nn nodbg
    refine named ((PySem.W.exm_one (M := model X.prog X.w) I2.kIn looks met).here ?_)
    refine codeAny_handlers_suite_as ?_
    refine HandSPX.lands_againZ fly ?_
    intro hq fly2 slots3
    have I3 : Inv X pins σ1 H1 { s' with heap := hq } := I1.landed below fly2.1 ((slots.trans slots2).trans slots3) osE bareE
    obtain ⟨o3, v3, at3, z3, data3⟩ := fly2.there
    refine store_ok (X := X.suite a ((a, o3) :: (X.pn ++ pins))) (v := .ref a) (I3.suite at3 data3 fresh offL offF) hN hi (.inl hln) rfl ?_ (.inr hln)
    intro s5 I5
    have ran := (hsu a o3 cls d (X.pn ++ pins) z3 ⟨_, data3⟩).run [] s5 _ H1 _ I5 (wish a fresh)
    refine wpAny_mono ran ?_ (fun _ _ z => z.elim)
    intro fl s6 z
    have unbound : ∀ {σ6 : L2.St} {H6 : Hp} {R : Shared → Prop}, Inv (X.suite a ((a, o3) :: (X.pn ++ pins))) [] σ6 H6 s6 → (∀ s7, Inv X pins (σ6.set i none) H6 s7 → R s7) →
        wpAny (model X.prog X.w) X.A (do bindName X.env n .none; unbindBehindTheSuite X.env n q1) (fun _ s7 => R s7) X.xe s6 :=
      fun J6 k => gone_ok (J6.unsuite ok) hN hi hln k
    cases fl with
    | ret v =>
      obtain ⟨w, σ6, H6, J6, r6, z6⟩ := z
      exact unbound J6 fun _ J7 => ⟨_, _, _, J7, r6, z6⟩
    | next =>
      obtain ⟨σ6, H6, J6, z6⟩ := z
      exact unbound J6 fun _ J7 => ⟨_, _, J7, z6⟩
    | brk =>
      obtain ⟨σ6, H6, J6, z6⟩ := z
      exact unbound J6 fun _ J7 => ⟨_, _, J7, z6⟩
    | cont =>
      obtain ⟨σ6, H6, J6, z6⟩ := z
      exact unbound J6 fun _ J7 => ⟨_, _, J7, z6⟩
end
end MyT
set_option Elab.async false
set_option linter.all false
set_option maxRecDepth 100000
set_option maxHeartbeats 2000000
namespace My
open PySem L2 L2H Evl GxR MyG MyS MyT
local macro_rules | `(tactic| walk_at "ev") => `(tactic| repeat' (first
  | exact ev_c
  | exact ev_var rfl
  | exact ea_nil
  | exact eo_none
  | (refine' ev_cb ?ea (rc_len ?sq); (case ea => walk_at "evs"); (case sq => walk_at "sq"))
  | (refine' ev_op ?a ?b (rv_ixL ?sq ?ix); (case a => walk_at "evs"); (case b => walk_at "evs"); (case sq => walk_at "sq"); (case ix => walk_at "at"))
  | refine' ea_cons ?_ ?_
  | refine' eo_some ?_
  | refine' ev_op ?_ ?_ rv_I0
  | refine' ev_op ?_ ?_ (rv_eq ?_)
  | refine' ev_op ?_ ?_ (rv_ne ?_)
  | refine' ev_op ?_ ?_ (rv_I ?_)
  | refine' ev_un ?_ ru_neg
  | refine' ev_cb ?_ rc_int
  | refine' ev_cb ?_ rc_abs
  | refine' ev_cb ?_ rc_max2
  | refine' ev_andV ?_ ?_
  | refine' ev_notV ?_
  | refine' et_test ?_
  | refine' et_B ?_
  | refine' et_not ?_))
local macro_rules | `(tactic| walk_at "side") => `(tactic| first
  | rfl
  | decide
  | exact ⟨by decide, by decide⟩
  | exact .inr ⟨by decide, by decide⟩
  | exact .inl ⟨by decide, by decide⟩
  | omega
  | exact .inl ⟨by omega, by omega⟩
  | exact ⟨by omega, by omega⟩
  | exact .inr ⟨by omega, by omega⟩)
local macro_rules | `(tactic| walk_at "evs") => `(tactic| (walk_at "ev"; all_goals (walk_at "side")))
local macro_rules | `(tactic| walk_at "ex") => `(tactic| first
  | with_reducible exact Ex.refl _
  | with_reducible assumption
  | (refine' Ex.trans ?_ ?b; (case b => with_reducible assumption); walk_at "ex"))
local macro_rules | `(tactic| walk_at "sq") => `(tactic| first
  | (refine' sq_ex ?h ?e; (case h => with_reducible assumption); (case e => walk_at "ex"))
  | (refine' ex_l ?e ?h; (case h => with_reducible assumption); (case e => walk_at "ex"))
  | (refine' ex_l ?e ?h; (case h => assumption); (case e => walk_at "ex"))
  | assumption
  | exact sq_of (by assumption))
local macro_rules | `(tactic| walk_at "at") => `(tactic| first
  | exact at_int (by omega) (by omega)
  | exact atI_nat (j := 0) rfl
  | exact atI_nat (j := 1) rfl
  | exact atI_nat (j := 2) rfl)
local macro_rules | `(tactic| walk_at "side2") => `(tactic| first | exact CMul_bdl (by assumption) | exact CMul_bdr (by assumption) | walk_at "side")
local macro_rules | `(tactic| walk_at "evb") => `(tactic| (walk_at "ev"; all_goals (walk_at "side2")))

local macro_rules | `(tactic| walk_at "nm") => `(tactic| (try simp only [List.set_cons_zero, List.set_cons_succ]))
/-- isinstance of the exception in its own suite -/
def rIsZ (K : PySem.W.Frag) (D a : Addr) (cls : Value) (d : Option Addr) : List V → Hp → VK → Prop := fun xs H Q => (cls = .ref D ∧ d = none) ∧ rIsE K D a xs H Q
theorem call_isS {X : Cx} {a D : Addr} {oe : Obj} {pn : List (Addr × Obj)} {cls : Value} {d : Option Addr} (C : ExcC X.K D) (hz : Zc cls d oe) (hf : ∃ vs, oe.data = .fields vs) : CallR (X.suite a ((a, oe) :: pn)) (.builtin "isinstance") (rIsZ X.K D a cls d) := by
  intro pins s σ H xs us Q I r h
  obtain ⟨⟨h1, h2⟩, h3⟩ := h
  subst h1 h2
  exact call_isE C hz hf pins s σ H xs us Q I r h3
theorem rc_isZ {K : PySem.W.Frag} {D a : Addr} {c : V} {cv : Value} {b : Bool} {H : Hp} (h : ∀ u, RelV c u → u = cv) (hk : PySem.W.kitOne K (.ref D) cv = some b) : RC (rIsZ K D a (.ref D) none) [.ref a, c] H (.bl b) :=
  fun H1 _ _ q => ⟨⟨rfl, rfl⟩, c, cv, b, rfl, h, hk, q H1 (Ex.refl H1)⟩
/-- a class of the program, raised and caught, and another class beside it -/
structure XErr (K : PySem.W.Frag) (mg : Str → Option Value) (D cE cI : Addr) (nI : Str) : Prop where
  c : ExcC K D
  e : PySem.W.exmOne K (.ref D) (.ref D) = some true
  gE : mg "CodeError" = some (.ref cE)
  gI : mg nI = some (.ref cI)
  k1 : PySem.W.kitOne K (.ref D) (.ref cE) = some true
  k3 : PySem.W.kitOne K (.ref D) (.ref cI) = some false
theorem q_tryCall {σ : L2.St} {H : Hp} {D : Ends} {tz : TS} {t : TA} {sp : Sp} {fE : Ends → L2.St → XK} {PP : List V → Hp → Prop} (h : EvAX t σ H PP) (k : ∀ vs H1, PP vs H1 → Ex H H1 → sp vs H1 (fun _ H2 => tz D σ H2) (fE { D with nx := tz D } σ)) : tSeq (fun D1 σ H1 => tDrop (tCallS sp (fE D1) t) D1 σ H1) tz D σ H :=
  h H (Ex.refl _) _ fun vs H1 e1 hp => k vs H1 hp e1
end My
set_option Elab.async false
set_option linter.all false
set_option maxRecDepth 100000
set_option maxHeartbeats 1000000
namespace My
open PySem L2 L2H Evl GxR MyG MyS MyT
local macro_rules | `(tactic| walk_at "ev") => `(tactic| repeat' (first
  | exact ev_c
  | exact ev_var rfl
  | exact ea_nil
  | exact eo_none
  | (refine' ev_cb ?ea (rc_len ?sq); (case ea => walk_at "evs"); (case sq => walk_at "sq"))
  | (refine' ev_op ?a ?b (rv_ixL ?sq ?ix); (case a => walk_at "evs"); (case b => walk_at "evs"); (case sq => walk_at "sq"); (case ix => walk_at "at"))
  | refine' ea_cons ?_ ?_
  | refine' eo_some ?_
  | refine' ev_op ?_ ?_ rv_I0
  | refine' ev_op ?_ ?_ (rv_eq ?_)
  | refine' ev_op ?_ ?_ (rv_ne ?_)
  | refine' ev_op ?_ ?_ (rv_I ?_)
  | refine' ev_un ?_ ru_neg
  | refine' ev_cb ?_ rc_int
  | refine' ev_cb ?_ rc_abs
  | refine' ev_cb ?_ rc_max2
  | refine' ev_andV ?_ ?_
  | refine' ev_notV ?_
  | refine' et_test ?_
  | refine' et_B ?_
  | refine' et_not ?_))
local macro_rules | `(tactic| walk_at "side") => `(tactic| first
  | rfl
  | decide
  | exact ⟨by decide, by decide⟩
  | exact .inr ⟨by decide, by decide⟩
  | exact .inl ⟨by decide, by decide⟩
  | omega
  | exact .inl ⟨by omega, by omega⟩
  | exact ⟨by omega, by omega⟩
  | exact .inr ⟨by omega, by omega⟩)
local macro_rules | `(tactic| walk_at "evs") => `(tactic| (walk_at "ev"; all_goals (walk_at "side")))
local macro_rules | `(tactic| walk_at "ex") => `(tactic| first
  | with_reducible exact Ex.refl _
  | with_reducible assumption
  | (refine' Ex.trans ?_ ?b; (case b => with_reducible assumption); walk_at "ex"))
local macro_rules | `(tactic| walk_at "sq") => `(tactic| first
  | (refine' sq_ex ?h ?e; (case h => with_reducible assumption); (case e => walk_at "ex"))
  | (refine' ex_l ?e ?h; (case h => with_reducible assumption); (case e => walk_at "ex"))
  | (refine' ex_l ?e ?h; (case h => assumption); (case e => walk_at "ex"))
  | assumption
  | exact sq_of (by assumption))
local macro_rules | `(tactic| walk_at "at") => `(tactic| first
  | exact at_int (by omega) (by omega)
  | exact atI_nat (j := 0) rfl
  | exact atI_nat (j := 1) rfl
  | exact atI_nat (j := 2) rfl)
local macro_rules | `(tactic| walk_at "side2") => `(tactic| first | exact CMul_bdl (by assumption) | exact CMul_bdr (by assumption) | walk_at "side")
local macro_rules | `(tactic| walk_at "evb") => `(tactic| (walk_at "ev"; all_goals (walk_at "side2")))

local macro_rules | `(tactic| walk_at "fl") => `(tactic| (unfold FsOf; repeat (first | rw [lookup_putF, if_pos rfl] | rw [lookup_putF, if_neg (by decide +kernel)])))
local macro_rules | `(tactic| walk_at "nm") => `(tactic| (try simp only [List.set_cons_zero, List.set_cons_succ]))
section
variable {K : PySem.W.Frag} {σ : L2.St} {H : Hp} {te : TE} {a : Addr} {ns : List Int}
theorem ev_lenSet (h : Ev te σ H (.ref a)) (hx : SqL K H a (ns.map V.int)) (hl : ns.length ≤ 4000) : Ev (tLenSetG K te) σ H (.int ((met ns).length : Nat)) := fun H1 e Q q =>
  h H1 e _ fun H2 e2 => ⟨a, ns, rfl, ex_l (e.trans e2) hx, hl, q H2 e2⟩
end
/-- the points are different -/
def Diff {f : FPar} (pts : List (Fe f)) : Prop := ∀ j k, j < k → k < pts.length → cf pts j ≠ cf pts k
instance {f : FPar} (pts : List (Fe f)) : Decidable (Diff pts) := by
  have e : Diff pts ↔ pts.Nodup := by
    unfold Diff List.Nodup
    rw [List.pairwise_iff_getElem]
    have g : ∀ i, (h : i < pts.length) → cf pts i = pts[i] := fun i h => by
      unfold cf
      rw [List.getD_eq_getElem?_getD, List.getElem?_eq_getElem h]
      rfl
    constructor
    · intro h i j hi hj hij
      have := h i j hij hj
      rw [g i hi, g j hj] at this
      exact this
    · intro h j k hjk hk
      rw [g j (by omega), g k hk]
      exact h j k (by omega) hk hjk
  exact decidable_of_iff _ e.symm
theorem met_diff {f : FPar} (pts : List (Fe f)) : (met (pts.map (·.1))).length = pts.length ↔ Diff pts := by
  unfold met
  rw [List.length_map]
  refine (met_len _ pts.length).2.trans ?_
  have g : ∀ i, i < pts.length → (pts.map (·.1)).getD i 0 = (cf pts i).1 := fun i h => by
    unfold cf
    rw [List.getD_eq_getElem?_getD, List.getD_eq_getElem?_getD, List.getElem?_map, List.getElem?_eq_getElem h]
    rfl
  constructor
  · intro h j k h1 h2 z
    refine h j k h1 h2 ?_
    rw [g j (by omega), g k h2, z]
  · intro h j k h1 h2 z
    rw [g j (by omega), g k h2] at z
    exact h j k h1 h2 (fe_ext z)
section
variable {P : Program} {w : World} {K : PySem.W.Frag} {mg : Str → Option Value} {base : Heap}
def spInter (K : PySem.W.Frag) (C D : Addr) : Sp := fun vs H Q E => ∃ (x ra rb : Addr) (f : FPar) (g : Nat) (pts vls : List (Fe f)), vs = [.ref x, .ref ra, .ref rb] ∧ FXF K C H x f g ∧ H ra = some (.lst (pts.map fv)) ∧ H rb = some (.lst (vls.map fv)) ∧ pts.length ≤ 100 ∧ vls.length ≤ 100 ∧
  (pts.length = vls.length → Diff pts → ∀ p v : List (Fe f), Thr pts vls pts.length p v → RetL (p.map fv) H Q) ∧ (¬(pts.length = vls.length ∧ Diff pts) → ∀ H', Ex H H' → E (.ref D) none H')
end
end My
set_option Elab.async false
set_option linter.all false
set_option maxRecDepth 100000
set_option maxHeartbeats 1000000
namespace My
open PySem L2 Evl GxR MyG
local macro_rules | `(tactic| walk_at "ev") => `(tactic| repeat' (first
  | exact ev_c
  | exact ev_var rfl
  | exact ea_nil
  | exact eo_none
  | (refine' ev_cb ?ea (rc_len ?sq); (case ea => walk_at "evs"); (case sq => walk_at "sq"))
  | (refine' ev_op ?a ?b (rv_ixL ?sq ?ix); (case a => walk_at "evs"); (case b => walk_at "evs"); (case sq => walk_at "sq"); (case ix => walk_at "at"))
  | refine' ea_cons ?_ ?_
  | refine' eo_some ?_
  | refine' ev_op ?_ ?_ rv_I0
  | refine' ev_op ?_ ?_ (rv_eq ?_)
  | refine' ev_op ?_ ?_ (rv_ne ?_)
  | refine' ev_op ?_ ?_ (rv_I ?_)
  | refine' ev_un ?_ ru_neg
  | refine' ev_cb ?_ rc_int
  | refine' ev_cb ?_ rc_abs
  | refine' ev_cb ?_ rc_max2
  | refine' ev_andV ?_ ?_
  | refine' ev_notV ?_
  | refine' et_test ?_
  | refine' et_B ?_
  | refine' et_not ?_))
local macro_rules | `(tactic| walk_at "side") => `(tactic| first
  | rfl
  | decide
  | exact ⟨by decide, by decide⟩
  | exact .inr ⟨by decide, by decide⟩
  | exact .inl ⟨by decide, by decide⟩
  | omega
  | exact .inl ⟨by omega, by omega⟩
  | exact ⟨by omega, by omega⟩
  | exact .inr ⟨by omega, by omega⟩)
local macro_rules | `(tactic| walk_at "evs") => `(tactic| (walk_at "ev"; all_goals (walk_at "side")))
local macro_rules | `(tactic| walk_at "ex") => `(tactic| first
  | with_reducible exact Ex.refl _
  | with_reducible assumption
  | (refine' Ex.trans ?_ ?b; (case b => with_reducible assumption); walk_at "ex"))
local macro_rules | `(tactic| walk_at "sq") => `(tactic| first
  | (refine' sq_ex ?h ?e; (case h => with_reducible assumption); (case e => walk_at "ex"))
  | (refine' ex_l ?e ?h; (case h => with_reducible assumption); (case e => walk_at "ex"))
  | (refine' ex_l ?e ?h; (case h => assumption); (case e => walk_at "ex"))
  | assumption
  | exact sq_of (by assumption))
local macro_rules | `(tactic| walk_at "at") => `(tactic| first
  | exact at_int (by omega) (by omega)
  | exact atI_nat (j := 0) rfl
  | exact atI_nat (j := 1) rfl
  | exact atI_nat (j := 2) rfl)
local macro_rules | `(tactic| walk_at "side2") => `(tactic| first | exact CMul_bdl (by assumption) | exact CMul_bdr (by assumption) | walk_at "side")
local macro_rules | `(tactic| walk_at "evb") => `(tactic| (walk_at "ev"; all_goals (walk_at "side2")))

/-- pairs of an int and a tuple of ints -/
def Pairs (H : Hp) : List V → List (Int × List Int) → Prop
  | [], [] => True
  | v :: vs, f :: fs => (∃ t c, v = .ref t ∧ H t = some (.tup [.int f.1, .ref c]) ∧ H c = some (.tup (f.2.map V.int))) ∧ Pairs H vs fs
  | _, _ => False
theorem Pairs.ex {H H1 : Hp} (e : Ex H H1) : ∀ {vs : List V} {fs : List (Int × List Int)}, Pairs H vs fs → Pairs H1 vs fs
  | [], [], _ => True.intro
  | v :: vs, f :: fs, ⟨⟨t, c, h1, h2, h3⟩, h⟩ => ⟨⟨t, c, h1, e _ _ h2, e _ _ h3⟩, Pairs.ex e h⟩
  | [], _ :: _, h => h.elim
  | _ :: _, [], h => h.elim
theorem Pairs.len {H : Hp} : ∀ {vs : List V} {fs : List (Int × List Int)}, Pairs H vs fs → vs.length = fs.length
  | [], [], _ => rfl
  | v :: vs, f :: fs, ⟨_, h⟩ => congrArg (· + 1) (Pairs.len h)
  | [], _ :: _, h => h.elim
  | _ :: _, [], h => h.elim
theorem Pairs.app {H : Hp} {ws : List V} {gs : List (Int × List Int)} (g : Pairs H ws gs) : ∀ {vs : List V} {fs : List (Int × List Int)}, Pairs H vs fs → Pairs H (vs ++ ws) (fs ++ gs)
  | [], [], _ => g
  | v :: vs, f :: fs, ⟨h1, h⟩ => ⟨h1, Pairs.app g h⟩
  | [], _ :: _, h => h.elim
  | _ :: _, [], h => h.elim
theorem Pairs.get {H : Hp} : ∀ {vs : List V} {fs : List (Int × List Int)} {i : Nat} {f : Int × List Int}, Pairs H vs fs → fs[i]? = some f → ∃ t c, vs[i]? = some (.ref t) ∧ H t = some (.tup [.int f.1, .ref c]) ∧ H c = some (.tup (f.2.map V.int))
  | [], [], _, _, _, e => by cases e
  | v :: vs, g :: fs, 0, f, ⟨⟨t, c, h1, h2, h3⟩, _⟩, e => by
    have : g = f := Option.some.inj e
    subst this
    exact ⟨t, c, congrArg some h1, h2, h3⟩
  | v :: vs, g :: fs, i + 1, f, ⟨_, h⟩, e => Pairs.get (i := i) h e
  | [], _ :: _, _, _, h, _ => h.elim
  | _ :: _, [], _, _, h, _ => h.elim
def EvAP (ta : TA) (σ : L2.St) (H : Hp) (fs : List (Int × List Int)) : Prop := ∀ H1, Ex H H1 → ∀ Q : List V → Hp → Prop, (∀ vs H2, Ex H1 H2 → Pairs H2 vs fs → Q vs H2) → ta σ H1 Q
def EvLP (te : TE) (σ : L2.St) (H : Hp) (fs : List (Int × List Int)) : Prop := ∀ H1, Ex H H1 → ∀ Q : VK, (∀ l vs H2, H1 l = none → Ex H1 H2 → H2 l = some (.lst vs) → Pairs H2 vs fs → Q (.ref l) H2) → te σ H1 Q
section
variable {K : PySem.W.Frag} {σ : L2.St} {H : Hp} {ta tr : TA} {te : TE} {fs gs : List (Int × List Int)} {D : Ends} {tz : TS}
theorem eap_nil : EvAP tNil σ H [] := fun H1 _ _ q => q [] H1 (Ex.refl _) True.intro
theorem eap_cons {p : Int} {m : List Int} (hm : EvA ta σ H (m.map V.int)) (hl : m.length ≤ 1000) (hr : EvAP tr σ H fs) : EvAP (tCons (tTup (tCons (tC (.int p)) (tCons (tTup ta) tNil))) tr) σ H ((p, m) :: fs) := fun H1 e Q q =>
by
  show tTup ta σ H1 (fun x H2 => ([V.int p, x] : List V).length ≤ sizeLine ∧ ∀ t, H2 t = none → tr σ (upd H2 t (.tup [.int p, x])) (fun ws H3 => Q (.ref t :: ws) H3))
  refine eu_tup (H := H) hm (by rw [List.length_map]; omega) H1 e _ fun c H2 nc e2 hc => ?_
  refine ⟨by show 2 ≤ sizeLine; exact sz_of (by decide), fun t nt => ?_⟩
  exact hr _ ((e.trans e2).trans (Ex.new nt)) _ fun vs H3 e3 h3 => q _ H3 ((e2.trans (Ex.new nt)).trans e3) ⟨⟨t, c, rfl, e3 _ _ upd_same, e3 _ _ (Ex.new nt _ _ hc)⟩, h3⟩
theorem elp_lst (h : EvAP ta σ H fs) (hl : fs.length ≤ 1000) : EvLP (tLst ta) σ H fs := fun H1 e Q q =>
  h H1 e _ fun vs H2 e2 h2 => ⟨sz_of (by rw [h2.len]; omega), fun l nl => q l vs _ (fresh_back e2 nl) (e2.trans (Ex.new nl)) upd_same (h2.ex (Ex.new nl))⟩
theorem elp_cat {i : Nat} {l : Addr} {xs : List V} (hi : σ[i]? = some (some (.ref l))) (hl : H l = some (.lst xs)) (hp : Pairs H xs fs) (hb : EvLP te σ H gs) (hz : fs.length + gs.length ≤ 1000) : EvLP (tOp rCat (tVar i) te) σ H (fs ++ gs) := fun H1 e Q q =>
  ⟨_, hi, hb H1 e _ fun r vs H2 nr e2 hr h2 => ⟨l, r, xs, vs, rfl, rfl, (e.trans e2) _ _ hl, hr, sz_of (by rw [h2.len, hp.len]; omega), fun t nt => q t _ _ (fresh_back e2 nt) (e2.trans (Ex.new nt)) upd_same (((h2.app (hp.ex (e.trans e2)))).ex (Ex.new nt))⟩⟩
theorem q_asgLP {i : Nat} (h : EvLP te σ H fs) (k : ∀ l vs H1, H l = none → Ex H H1 → H1 l = some (.lst vs) → Pairs H1 vs fs → tz D (σ.set i (some (.ref l))) H1) : tSeq (tAsg te (gName i)) tz D σ H := h H (Ex.refl H) _ k
end
def flds : List (Int × List Int) := [(2, [0, 1]), (3, [0, 1]), (2, [1, 1, 1]), (5, [0, 1]), (13, [0, 1]), (7, [0, 1]), (3, [1, 0, 1]), (2, [1, 1, 0, 1])] ++ [(31, [0, 1]), (2, [1, 1, 0, 1, 0, 1, 0, 0, 1]), (13, [12, 1]), (11, [1, 0, 1])]
local macro_rules | `(tactic| walk_at "fp") => `(tactic| (repeat' (first | exact eap_nil | refine' eap_cons (by walk_at "ev") (by decide) ?_)))
section
variable {P : Program} {w : World} {K : PySem.W.Frag} {mg : Str → Option Value} {base : Heap}
/-! _law_field: 0 number, 1 choices -/
abbrev s_law_field : Stmt := topS 40
theorem sc_law_field : FnScope ["number", "choices"] ["number"] (defScope s_law_field) := ⟨rfl, rfl, rfl, by decide +kernel, rfl, by decide +kernel, by decide +kernel⟩
def spLFld : Sp := fun vs H Q _ => ∃ z : Int, vs = [.int z] ∧ 0 ≤ z ∧ ∀ (f : Int × List Int) (t c : Addr) H2, f ∈ flds → Ex H H2 → H2 t = some (.tup [.int f.1, .ref c]) → H2 c = some (.tup (f.2.map V.int)) → Q (.ref t) H2
theorem ok_lfld {f : Addr} {fd : FuncData} (F : Fun K "_law_field" "_law_field" s_law_field f fd) (T : FTxt mg) : FnOk P w K mg base CX0 1 f fd ["number"] spLFld := by
  refine F.ok sc_law_field (fun vs H Q E h => ?_) (fun cdv A outer s H vs Q E hr h => ?_)
  · obtain ⟨_, rfl, _⟩ := h
    rfl
  obtain ⟨z, rfl, z0, k⟩ := h
  refine ⟨_, (pss_cons (ps_set (i := 1) sc_law_field.nd rfl (Or.inl rfl) (pe_lst (pa_cons (pe_tup (pa_cons pe_int (pa_cons (pe_tup (pa_cons pe_int (pa_cons pe_int pa_nil))) pa_nil))) (pa_cons (pe_tup (pa_cons pe_int (pa_cons (pe_tup (pa_cons pe_int (pa_cons pe_int pa_nil))) pa_nil))) (pa_cons (pe_tup (pa_cons pe_int (pa_cons (pe_tup (pa_cons pe_int (pa_cons pe_int (pa_cons pe_int pa_nil)))) pa_nil))) (pa_cons (pe_tup (pa_cons pe_int (pa_cons (pe_tup (pa_cons pe_int (pa_cons pe_int pa_nil))) pa_nil))) (pa_cons (pe_tup (pa_cons pe_int (pa_cons (pe_tup (pa_cons pe_int (pa_cons pe_int pa_nil))) pa_nil))) (pa_cons (pe_tup (pa_cons pe_int (pa_cons (pe_tup (pa_cons pe_int (pa_cons pe_int pa_nil))) pa_nil))) (pa_cons (pe_tup (pa_cons pe_int (pa_cons (pe_tup (pa_cons pe_int (pa_cons pe_int (pa_cons pe_int pa_nil)))) pa_nil))) (pa_cons (pe_tup (pa_cons pe_int (pa_cons (pe_tup (pa_cons pe_int (pa_cons pe_int (pa_cons pe_int (pa_cons pe_int pa_nil))))) pa_nil))) pa_nil))))))))))
    (pss_cons (ps_set (i := 1) sc_law_field.nd rfl (Or.inl rfl) (pe_op op_cat (pv 1) (pe_lst (pa_cons (pe_tup (pa_cons pe_int (pa_cons (pe_tup (pa_cons pe_int (pa_cons pe_int pa_nil))) pa_nil))) (pa_cons (pe_tup (pa_cons pe_int (pa_cons (pe_tup (pa_cons pe_int (pa_cons pe_int (pa_cons pe_int (pa_cons pe_int (pa_cons pe_int (pa_cons pe_int (pa_cons pe_int (pa_cons pe_int (pa_cons pe_int pa_nil)))))))))) pa_nil))) (pa_cons (pe_tup (pa_cons pe_int (pa_cons (pe_tup (pa_cons pe_int (pa_cons pe_int pa_nil))) pa_nil))) (pa_cons (pe_tup (pa_cons pe_int (pa_cons (pe_tup (pa_cons pe_int (pa_cons pe_int (pa_cons pe_int pa_nil)))) pa_nil))) pa_nil)))))))
    (pss_one (ps_ret (pe_ix ix_list (pv 1) (pe_op op_mod (pe_callTy call_int1 (by rfl) T.z_int (by decide +kernel) (pa_cons (pv 0) pa_nil)) pe_int) (fun _ _ => rfl)))))), ?_⟩
  refine q_asgLP (fs := [(2, [0, 1]), (3, [0, 1]), (2, [1, 1, 1]), (5, [0, 1]), (13, [0, 1]), (7, [0, 1]), (3, [1, 0, 1]), (2, [1, 1, 0, 1])]) (elp_lst (by walk_at "fp") (by decide)) fun l1 v1 H1 n1 e1 h1 p1 => ?_
  refine q_asgLP (elp_cat rfl h1 p1 (gs := [(31, [0, 1]), (2, [1, 1, 0, 1, 0, 1, 0, 0, 1]), (13, [12, 1]), (11, [1, 0, 1])]) (elp_lst (by walk_at "fp") (by decide)) (by decide)) fun l2 v2 H2 n2 e2 h2 p2 => ?_
  have p5 : Pairs H2 v2 flds := p2
  have hlen : v2.length = 12 := p5.len
  have m0 : 0 ≤ z % 12 := Int.emod_nonneg _ (by decide)
  have m1 : z % 12 < 12 := Int.emod_lt_of_pos _ (by decide)
  have hi : (z % 12).toNat < flds.length := by show (z % 12).toNat < 12; omega
  obtain ⟨t, c, g1, g2, g3⟩ := p5.get (List.getElem?_eq_getElem hi)
  have ex := e1.trans e2
  refine s_ret (v := .ref t) (ev_op (ev_var rfl) (ev_op (ev_cb (ea_cons (ev_var rfl) ea_nil) rc_int) ev_c (rv_I (by decide))) (rv_ixL (sq_of h2) (at_of (j := (z % 12).toNat) (by show z % 12 = _; omega) g1))) fun H5 e5 => ?_
  exact k _ t c H5 (List.getElem_mem hi) (ex.trans e5) (e5 _ _ g2) (e5 _ _ g3)
end
end My
set_option Elab.async false
set_option linter.all false
set_option maxRecDepth 100000
set_option maxHeartbeats 2000000
namespace My
open PySem L2 Evl GxR MyG
local macro_rules | `(tactic| walk_at "ev") => `(tactic| repeat' (first
  | exact ev_c
  | exact ev_var rfl
  | exact ea_nil
  | exact eo_none
  | (refine' ev_cb ?ea (rc_len ?sq); (case ea => walk_at "evs"); (case sq => walk_at "sq"))
  | (refine' ev_op ?a ?b (rv_ixL ?sq ?ix); (case a => walk_at "evs"); (case b => walk_at "evs"); (case sq => walk_at "sq"); (case ix => walk_at "at"))
  | refine' ea_cons ?_ ?_
  | refine' eo_some ?_
  | refine' ev_op ?_ ?_ rv_I0
  | refine' ev_op ?_ ?_ (rv_eq ?_)
  | refine' ev_op ?_ ?_ (rv_ne ?_)
  | refine' ev_op ?_ ?_ (rv_I ?_)
  | refine' ev_un ?_ ru_neg
  | refine' ev_cb ?_ rc_int
  | refine' ev_cb ?_ rc_abs
  | refine' ev_cb ?_ rc_max2
  | refine' ev_andV ?_ ?_
  | refine' ev_notV ?_
  | refine' et_test ?_
  | refine' et_B ?_
  | refine' et_not ?_))
local macro_rules | `(tactic| walk_at "side") => `(tactic| first
  | rfl
  | decide
  | exact ⟨by decide, by decide⟩
  | exact .inr ⟨by decide, by decide⟩
  | exact .inl ⟨by decide, by decide⟩
  | omega
  | exact .inl ⟨by omega, by omega⟩
  | exact ⟨by omega, by omega⟩
  | exact .inr ⟨by omega, by omega⟩)
local macro_rules | `(tactic| walk_at "evs") => `(tactic| (walk_at "ev"; all_goals (walk_at "side")))
local macro_rules | `(tactic| walk_at "ex") => `(tactic| first
  | with_reducible exact Ex.refl _
  | with_reducible assumption
  | (refine' Ex.trans ?_ ?b; (case b => with_reducible assumption); walk_at "ex"))
local macro_rules | `(tactic| walk_at "sq") => `(tactic| first
  | (refine' sq_ex ?h ?e; (case h => with_reducible assumption); (case e => walk_at "ex"))
  | (refine' ex_l ?e ?h; (case h => with_reducible assumption); (case e => walk_at "ex"))
  | (refine' ex_l ?e ?h; (case h => assumption); (case e => walk_at "ex"))
  | assumption
  | exact sq_of (by assumption))
local macro_rules | `(tactic| walk_at "at") => `(tactic| first
  | exact at_int (by omega) (by omega)
  | exact atI_nat (j := 0) rfl
  | exact atI_nat (j := 1) rfl
  | exact atI_nat (j := 2) rfl)
local macro_rules | `(tactic| walk_at "side2") => `(tactic| first | exact CMul_bdl (by assumption) | exact CMul_bdr (by assumption) | walk_at "side")
local macro_rules | `(tactic| walk_at "evb") => `(tactic| (walk_at "ev"; all_goals (walk_at "side2")))

local macro_rules | `(tactic| walk_at "fl") => `(tactic| (unfold FsOf; repeat (first | rw [lookup_putF, if_pos rfl] | rw [lookup_putF, if_neg (by decide +kernel)])))
theorem ExP.ofEx {P : Addr} {H H1 : Hp} (g : TabG H P) (e : Ex H H1) : ExP P H H1 := ⟨TabG.ex g e, fun b o _ h => e _ _ h⟩
theorem ExP.trans {P : Addr} {H H1 H2 : Hp} (e1 : ExP P H H1) (e2 : ExP P H1 H2) : ExP P H H2 := ⟨e2.1, fun b o hb h => e2.2 _ _ hb (e1.2 _ _ hb h)⟩
theorem tup_exP {P a : Addr} {H H2 : Hp} {xs : List V} (g : TabG H P) (e : ExP P H H2) (h : H a = some (.tup xs)) : H2 a = some (.tup xs) := e.2 a _ (tab_ne g h fun q z => by cases z) h
section
variable {K : PySem.W.Frag} {σ : L2.St} {H : Hp} {D : Ends} {tz : TS} {ta : TA} {vs dvs : List V} {C Pt c : Addr} {p e g i : Nat} {m : List Int}
/-- name = Field(..) -/
theorem k_make (h : EvA ta σ H vs) (hv : vs ++ dvs = [.int (p : Int), .ref c]) (ok : FOK p m e g) (hC : SqT K H c (m.map V.int)) (gt : TabG H Pt) (Q : VK) (k : ∀ x H2, ExP Pt H H2 → Fld K C H2 x p m (e + 1) g → Q (.ref x) H2) : tMake C (spInit K C Pt) dvs E0 ta σ H Q := by
  refine h H (Ex.refl H) _ fun H1 e1 => fun x dx nx ndx ne => ?_
  rw [hv]
  have e2 : Ex H1 (upd H1 dx (.own x)) := Ex.new ndx
  have nx2 : (upd H1 dx (.own x)) x = none := by rw [upd_ne (fun z => ne z.symm)]; exact nx
  have e3 : Ex H1 (upd (upd H1 dx (.own x)) x (.ins C dx [])) := e2.trans (Ex.new nx2)
  have g1 : TabG H1 Pt := TabG.ex gt e1
  refine ⟨H1, x, dx, c, p, e, g, m, rfl, ok, nx, upd_same, ⟨TabG.ex g1 e3, fun b o _ _ hb => e3 _ _ hb⟩, ex_t (e1.trans e3) hC, fun H2 ex hF => ⟨rfl, k x H2 ((ExP.ofEx gt e1).trans ex) hF⟩⟩
theorem q_asgMk (h : EvA ta σ H vs) (hv : vs ++ dvs = [.int (p : Int), .ref c]) (ok : FOK p m e g) (hC : SqT K H c (m.map V.int)) (gt : TabG H Pt) (k : ∀ x H2, ExP Pt H H2 → Fld K C H2 x p m (e + 1) g → tz D (σ.set i (some (.ref x))) H2) :
    tSeq (tAsg (tMake C (spInit K C Pt) dvs E0 ta) (gName i)) tz D σ H := by
  show tMake C (spInit K C Pt) dvs E0 ta σ H (fun v H1 => tz D (σ.set i (some v)) H1)
  exact k_make h hv ok hC gt _ k
theorem q_asgFld {gg : TG} {z : Int} (σ2 : V → V → L2.St) (h : EvA ta σ H [.int z]) (z0 : 0 ≤ z) (hg : ∀ (t : Addr) (x y : V) (H' : Hp) (Q' : L2.St → Hp → Prop), H' t = some (.tup [x, y]) → Q' (σ2 x y) H' → gg (.ref t) σ H' Q')
    (k : ∀ (f : Int × List Int) (c : Addr) H1, f ∈ flds → Ex H H1 → H1 c = some (.tup (f.2.map V.int)) → tz D (σ2 (.int f.1) (.ref c)) H1) : tSeq (tAsg (tCall spLFld [] E0 ta) gg) tz D σ H := by
  refine h H (Ex.refl H) _ fun H1 e1 => ?_
  rw [List.append_nil]
  exact ⟨z, rfl, z0, fun f t c H2 hf e2 ht hc => hg t _ _ H2 _ ht (k f c H2 hf (e1.trans e2) hc)⟩
end
end My
set_option Elab.async false
set_option linter.all false
set_option maxRecDepth 100000
set_option maxHeartbeats 2000000
/-! codes of values: the constructor, the words -/
namespace My
open PySem PySem.Spec PyProof.Rows L2 L2H Evl GxR MyG MyS
local macro_rules | `(tactic| walk_at "ev") => `(tactic| repeat' (first
  | exact ev_c
  | exact ev_var rfl
  | exact ea_nil
  | exact eo_none
  | (refine' ev_cb ?ea (rc_len ?sq); (case ea => walk_at "evs"); (case sq => walk_at "sq"))
  | (refine' ev_op ?a ?b (rv_ixL ?sq ?ix); (case a => walk_at "evs"); (case b => walk_at "evs"); (case sq => walk_at "sq"); (case ix => walk_at "at"))
  | refine' ea_cons ?_ ?_
  | refine' eo_some ?_
  | refine' ev_op ?_ ?_ rv_I0
  | refine' ev_op ?_ ?_ (rv_eq ?_)
  | refine' ev_op ?_ ?_ (rv_ne ?_)
  | refine' ev_op ?_ ?_ (rv_I ?_)
  | refine' ev_un ?_ ru_neg
  | refine' ev_cb ?_ rc_int
  | refine' ev_cb ?_ rc_abs
  | refine' ev_cb ?_ rc_max2
  | refine' ev_andV ?_ ?_
  | refine' ev_notV ?_
  | refine' et_test ?_
  | refine' et_B ?_
  | refine' et_not ?_))
local macro_rules | `(tactic| walk_at "side") => `(tactic| first
  | rfl
  | decide
  | exact ⟨by decide, by decide⟩
  | exact .inr ⟨by decide, by decide⟩
  | exact .inl ⟨by decide, by decide⟩
  | omega
  | exact .inl ⟨by omega, by omega⟩
  | exact ⟨by omega, by omega⟩
  | exact .inr ⟨by omega, by omega⟩)
local macro_rules | `(tactic| walk_at "evs") => `(tactic| (walk_at "ev"; all_goals (walk_at "side")))
local macro_rules | `(tactic| walk_at "ex") => `(tactic| first
  | with_reducible exact Ex.refl _
  | with_reducible assumption
  | (refine' Ex.trans ?_ ?b; (case b => with_reducible assumption); walk_at "ex"))
local macro_rules | `(tactic| walk_at "sq") => `(tactic| first
  | (refine' sq_ex ?h ?e; (case h => with_reducible assumption); (case e => walk_at "ex"))
  | (refine' ex_l ?e ?h; (case h => with_reducible assumption); (case e => walk_at "ex"))
  | (refine' ex_l ?e ?h; (case h => assumption); (case e => walk_at "ex"))
  | assumption
  | exact sq_of (by assumption))
local macro_rules | `(tactic| walk_at "at") => `(tactic| first
  | exact at_int (by omega) (by omega)
  | exact atI_nat (j := 0) rfl
  | exact atI_nat (j := 1) rfl
  | exact atI_nat (j := 2) rfl)
local macro_rules | `(tactic| walk_at "side2") => `(tactic| first | exact CMul_bdl (by assumption) | exact CMul_bdr (by assumption) | walk_at "side")
local macro_rules | `(tactic| walk_at "evb") => `(tactic| (walk_at "ev"; all_goals (walk_at "side2")))

local macro_rules | `(tactic| walk_at "nm") => `(tactic| (try simp only [List.set_cons_zero, List.set_cons_succ]))
structure ETxt (K : PySem.W.Frag) (mg : Str → Option Value) (C : Addr) : Prop where
  cl : Cls K C
  mgC : mg "EvaluationCode" = some (.ref C)
  n_field : NoAttr K C "field"
  n_length : NoAttr K C "length"
  n_dimension : NoAttr K C "dimension"
  n_points : NoAttr K C "_points"
def EcF (x rp : Addr) (n k : Nat) : List (Str × V) := putF "_points" (.ref rp) (putF "dimension" (.int (k : Int)) (putF "length" (.int (n : Int)) (putF "field" (.ref x) [])))
local macro_rules | `(tactic| walk_at "fl") => `(tactic| (unfold EcF; repeat (first | rw [lookup_putF, if_pos rfl] | rw [lookup_putF, if_neg (by decide +kernel)])))
/-- an evaluation code on the heap -/
structure EC (K : PySem.W.Frag) (C CE : Addr) (H : Hp) (y : Addr) (f : FPar) (g : Nat) (pts : List (Fe f)) (k : Nat) : Prop where
  ex : ∃ dx x rp : Addr, H y = some (.ins CE dx (EcF x rp pts.length k)) ∧ FXF K C H x f g ∧ H rp = some (.lst (pts.map fv))
theorem EC.up {K : PySem.W.Frag} {C CE : Addr} {H H' : Hp} {y : Addr} {f : FPar} {g k : Nat} {pts : List (Fe f)} (h : EC K C CE H y f g pts k) (e : Ex H H') : EC K C CE H' y f g pts k := by
  obtain ⟨dx, x, rp, h1, h2, h3⟩ := h.ex
  exact ⟨dx, x, rp, e _ _ h1, h2.ex e, e _ _ h3⟩
theorem map_cf {f : FPar} {α : Type} (xs : List (Fe f)) (h : Fe f → α) : (List.range xs.length).map (fun i => h (cf xs i)) = xs.map h := by
  refine List.ext_getElem (by rw [List.length_map, List.length_range, List.length_map]) fun i h1 h2 => ?_
  rw [List.getElem_map, List.getElem_map, List.getElem_range]
  unfold cf
  rw [List.length_map] at h2
  rw [List.getD_eq_getElem?_getD, List.getElem?_eq_getElem h2]
  rfl
theorem el_methX {σ : L2.St} {H : Hp} {i : Nat} {x C dx : Addr} {fs : List (Str × V)} {m : Str} {sp : Sp} {E : XK} {ta : TA} {P : List V → Hp → Prop} {xs : List V} (h0 : σ[i]? = some (some (.ref x))) (hx : H x = some (.ins C dx fs)) (hl : fs.lookup m = none) (h : EvAX ta σ H P) (hs : ∀ vs H1, Ex H H1 → P vs H1 → SpL sp (.ref x :: vs) H1 xs) : EvL (tMeth C m sp [] E (tVar i) ta) σ H xs := fun H1 e Q q =>
  ⟨_, h0, x, dx, fs, rfl, e _ _ hx, hl, h H1 e _ fun vs H2 e2 hp => by rw [List.append_nil]; exact hs vs H2 (e.trans e2) hp H2 (Ex.refl _) Q (fun p H3 np e3 h3 => q p H3 (fresh_back e2 np) (e2.trans e3) h3) E⟩
theorem fs_noE {x rp : Addr} {n k : Nat} {m : Str} (h1 : m ≠ ("_points" : Str)) (h2 : m ≠ ("dimension" : Str)) (h3 : m ≠ ("length" : Str)) (h4 : m ≠ ("field" : Str)) : (EcF x rp n k).lookup m = none := by
  unfold EcF
  rw [lookup_putF, if_neg h1, lookup_putF, if_neg h2, lookup_putF, if_neg h3, lookup_putF, if_neg h4]
  rfl
section
variable {P : Program} {w : World} {K : PySem.W.Frag} {mg : Str → Option Value} {base : Heap}
def spReqP (K : PySem.W.Frag) (C Pt : Addr) : Sp := fun vs H Q _ => ∃ (x a : Addr) (f : FPar) (g : Nat) (pts : List (Fe f)), vs = [.ref x, .ref a] ∧ FXF K C H x f g ∧ H a = some (.lst (pts.map fv)) ∧ 1 ≤ pts.length ∧ pts.length ≤ 255 ∧ Diff pts ∧ TabE H Pt ∧ RetV .non H Q
def spECI (K : PySem.W.Frag) (C CE Pt : Addr) : Sp := fun vs H Q _ => ∃ (Hb : Hp) (y dx x a : Addr) (f : FPar) (g k : Nat) (pts : List (Fe f)), vs = [.ref y, .ref x, .ref a, .int (k : Int)] ∧ Hb y = none ∧ Ex Hb H ∧ H y = some (.ins CE dx []) ∧ FXF K C Hb x f g ∧ Hb a = some (.lst (pts.map fv)) ∧ 1 ≤ k ∧ k ≤ pts.length ∧ pts.length ≤ 255 ∧ Diff pts ∧ TabE Hb Pt ∧
  ∀ H2, Ex Hb H2 → EC K C CE H2 y f g pts k → Q .non H2
def spECV (K : PySem.W.Frag) (C CE : Addr) : Sp := fun vs H Q _ => ∃ (y r : Addr) (f : FPar) (g k : Nat) (pts zs : List (Fe f)), vs = [.ref y, .ref r] ∧ EC K C CE H y f g pts k ∧ H r = some (.lst (zs.map fv)) ∧ pts.length ≤ 255 ∧ RetL ((pts.map fun t => val zs t).map fv) H Q
def spECW (K : PySem.W.Frag) (C CE Pt : Addr) : Sp := fun vs H Q _ => ∃ (y r : Addr) (f : FPar) (g k : Nat) (pts ms : List (Fe f)), vs = [.ref y, .ref r] ∧ EC K C CE H y f g pts k ∧ H r = some (.lst (ms.map fv)) ∧ ms.length = k ∧ k ≤ 255 ∧ pts.length ≤ 255 ∧ TabE H Pt ∧ RetL ((pts.map fun t => val ms t).map fv) H Q
def spECM (K : PySem.W.Frag) (C CE : Addr) : Sp := fun vs H Q _ => ∃ (y : Addr) (f : FPar) (g k : Nat) (pts : List (Fe f)) (z : Int), vs = [.ref y, .int z] ∧ EC K C CE H y f g pts k ∧ RetV (.int (((pts.length : Int) - z - (k : Int)) / 2)) H Q
end
end My
set_option Elab.async false
set_option linter.all false
set_option maxRecDepth 100000
set_option maxHeartbeats 2000000
/-! received words: is_received, require_received -/
namespace My
open PySem PySem.Spec PyProof.Rows L2 L2H Evl GxR MyG MyS
local macro_rules | `(tactic| walk_at "ev") => `(tactic| repeat' (first
  | exact ev_c
  | exact ev_var rfl
  | exact ea_nil
  | exact eo_none
  | (refine' ev_cb ?ea (rc_len ?sq); (case ea => walk_at "evs"); (case sq => walk_at "sq"))
  | (refine' ev_op ?a ?b (rv_ixL ?sq ?ix); (case a => walk_at "evs"); (case b => walk_at "evs"); (case sq => walk_at "sq"); (case ix => walk_at "at"))
  | refine' ea_cons ?_ ?_
  | refine' eo_some ?_
  | refine' ev_op ?_ ?_ rv_I0
  | refine' ev_op ?_ ?_ (rv_eq ?_)
  | refine' ev_op ?_ ?_ (rv_ne ?_)
  | refine' ev_op ?_ ?_ (rv_I ?_)
  | refine' ev_un ?_ ru_neg
  | refine' ev_cb ?_ rc_int
  | refine' ev_cb ?_ rc_abs
  | refine' ev_cb ?_ rc_max2
  | refine' ev_andV ?_ ?_
  | refine' ev_notV ?_
  | refine' et_test ?_
  | refine' et_B ?_
  | refine' et_not ?_))
local macro_rules | `(tactic| walk_at "side") => `(tactic| first
  | rfl
  | decide
  | exact ⟨by decide, by decide⟩
  | exact .inr ⟨by decide, by decide⟩
  | exact .inl ⟨by decide, by decide⟩
  | omega
  | exact .inl ⟨by omega, by omega⟩
  | exact ⟨by omega, by omega⟩
  | exact .inr ⟨by omega, by omega⟩)
local macro_rules | `(tactic| walk_at "evs") => `(tactic| (walk_at "ev"; all_goals (walk_at "side")))
local macro_rules | `(tactic| walk_at "ex") => `(tactic| first
  | with_reducible exact Ex.refl _
  | with_reducible assumption
  | (refine' Ex.trans ?_ ?b; (case b => with_reducible assumption); walk_at "ex"))
local macro_rules | `(tactic| walk_at "sq") => `(tactic| first
  | (refine' sq_ex ?h ?e; (case h => with_reducible assumption); (case e => walk_at "ex"))
  | (refine' ex_l ?e ?h; (case h => with_reducible assumption); (case e => walk_at "ex"))
  | (refine' ex_l ?e ?h; (case h => assumption); (case e => walk_at "ex"))
  | assumption
  | exact sq_of (by assumption))
local macro_rules | `(tactic| walk_at "at") => `(tactic| first
  | exact at_int (by omega) (by omega)
  | exact atI_nat (j := 0) rfl
  | exact atI_nat (j := 1) rfl
  | exact atI_nat (j := 2) rfl)
local macro_rules | `(tactic| walk_at "side2") => `(tactic| first | exact CMul_bdl (by assumption) | exact CMul_bdr (by assumption) | walk_at "side")
local macro_rules | `(tactic| walk_at "evb") => `(tactic| (walk_at "ev"; all_goals (walk_at "side2")))

local macro_rules | `(tactic| walk_at "fl") => `(tactic| (unfold FsOf; repeat (first | rw [lookup_putF, if_pos rfl] | rw [lookup_putF, if_neg (by decide +kernel)])))
local macro_rules | `(tactic| walk_at "nm") => `(tactic| (try simp only [List.set_cons_zero, List.set_cons_succ]))
/-- item is None or 0 <= item < order -/
def ElRecv (i : Nat) : ElP := fun σ _ v b => ∃ z : Int, σ[i]? = some (some (.int z)) ∧ ((v = .non ∧ b = true) ∨ ∃ n : Int, v = .int n ∧ b = (decide (0 ≤ n) && decide (n < z)))
theorem elt_recv {X : Cx} {Pt : Addr} {scope : Scope} {x y : Str} {i j1 j2 : Nat} {p1 p2 p3 p4 p5 p6 p7 p8 : Pos} {σ : L2.St} {H1 : Hp} {v : V} {b : Bool} (hN : X.N[i]? = some y) (hv : X.env.scope.names.lookup y = some .cell) (hf : (y, NameKind.free) ∈ scope.names)
    (hk : scope.kind = .function) (hx : scope.names.lookup x = some .local) (hy : scope.names.lookup y = some .free)
    (dx : (x == ("__debug__" : Str)) = false := by decide) (dy : (y == ("__debug__" : Str)) = false := by decide) (cy : (y == ("__classdict__" : Str)) = false := by decide) (h : ElRecv i σ H1 v b) :
    EltG X Pt scope x (.BoolOp .Or [.Compare (.Name x p1) [.Is] [.Constant .none j1 p2] p3, .Compare (.Constant (.int 0) j2 p4) [.LtE, .Lt] [.Name x p5, .Name y p6] p7] p8) σ H1 v b := by
  obtain ⟨z, hz, h⟩ := h
  intro pins s1 ce A' E' u s' m I a ru hm _ nP
  obtain ⟨tz, cl, hc, hcv⟩ := a.cap I nP hN hz hv hf
  have kf : ce.scope.kind = .function := by rw [a.sc]; exact hk
  have kx : ce.kindOf x = some .local := by
    show ce.scope.names.lookup x = some .local
    rw [a.sc]; exact hx
  have ky : ce.kindOf y = some .free := by
    show ce.scope.names.lookup y = some .free
    rw [a.sc]; exact hy
  refine BoolOp_or ?_
  refine wpAny_Compare1 ?_
  refine wpAny_Name (wpAny_loadName_local kf kx a.ns hm ?_) dx
  refine wpAny_Constant_none ?_
  rcases h with ⟨rfl, rfl⟩ | ⟨n, rfl, rfl⟩
  · cases ru
    refine is_none ?_
    refine wpAny_truthy_bool ?_
    exact ⟨rfl, keeps_tok s' s'.toks⟩
  · obtain ⟨t, rfl⟩ := (show ∃ t, u = Value.int n t from ru)
    refine is_none ?_
    refine wpAny_truthy_bool ?_
    refine BoolOp_one ?_
    refine Compare_chain ?_
    refine wpAny_Constant_int ?_
    refine chain_link ?_
    refine wpAny_Name (wpAny_loadName_local kf kx a.ns hm ?_) dx
    refine PySem.P.le_int ?_
    refine wpAny_truthy_bool ?_
    cases hd : decide (0 ≤ n) with
    | false => exact ⟨rfl, keeps_tok s' _⟩
    | true =>
      refine chain_last ?_
      refine wpAny_Name (wpAny_loadName_free kf ky hc hcv ?_ cy) dy
      refine PySem.P.lt_int ?_
      exact ⟨by rw [Bool.true_and], keeps_tok s' _⟩
/-- what is_received asks of an item -/
def recvV (q : Int) : V → Bool
  | .int n => decide (0 ≤ n) && decide (n < q)
  | .non => true
  | _ => false
section
variable {f : FPar}
/-- a received item -/
def rv {f : FPar} : Option (Fe f) → V
  | some a => fv a
  | none => .non
theorem recv_fe (xs : List (Option (Fe f))) : (xs.map rv).all (recvV ((f.p ^ (f.e + 1) : Nat) : Int)) = true := List.all_eq_true.mpr fun v hv => by
  obtain ⟨a, _, rfl⟩ := List.mem_map.mp hv
  cases a with
  | none => rfl
  | some a =>
    show (decide (0 ≤ a.1) && decide (a.1 < _)) = true
    rw [decide_eq_true a.2.1, decide_eq_true a.2.2]
    rfl
theorem plain_rv (xs : List (Option (Fe f))) : Plain (xs.map rv) := fun v hv => by
  obtain ⟨a, _, rfl⟩ := List.mem_map.mp hv
  cases a with
  | none => exact .inl rfl
  | some a => exact .inr ⟨_, rfl⟩
end
section
variable {P : Program} {w : World} {K : PySem.W.Frag} {mg : Str → Option Value} {base : Heap}
/-! is_received: 0 field, 1 length, 2 received, 3 order*, 4 item -/
abbrev s_is_received : Stmt := topS 26
theorem sc_is_received : FnScope ["field", "length", "received", "order", "item"] ["field", "length", "received"] (defScope s_is_received) := ⟨rfl, rfl, rfl, by decide +kernel, rfl, by decide +kernel, by decide +kernel⟩
def spIsR (K : PySem.W.Frag) (C Pt : Addr) : Sp := fun vs H Q _ => ∃ (x a : Addr) (f : FPar) (g : Nat) (n : Int) (xs : List V), vs = [.ref x, .int n, .ref a] ∧ FXF K C H x f g ∧ SqL K H a xs ∧ Plain xs ∧ TabE H Pt ∧ RetV (.bl (decide ((xs.length : Int) = n) && xs.all (recvV ((f.p ^ (f.e + 1) : Nat) : Int)))) H Q
theorem ok_isr {f c1 Pt C : Addr} {oc : Value} {od an : Option Addr} {osl : Array (Option Value)} {kV doc pm ct : Value}
    (lk : K.lookup f = some ⟨oc, od, .func (PySem.W.fnOf "is_received" "is_received" (defArgs s_is_received) (defBody s_is_received) (defScope s_is_received) .none kV doc pm an (.ref c1) ct), osl⟩) (hcd : PySem.W.codeIn K (.ref c1) "is_received" = true)
    (T : FTxt mg) (TC : CTxt K mg C) (TB : TabB base mg c1 Pt) : FnOk P w K mg base CX0 2 f (PySem.W.fnOf "is_received" "is_received" (defArgs s_is_received) (defBody s_is_received) (defScope s_is_received) .none kV doc pm an (.ref c1) ct) ["field", "length", "received"] (spIsR K C Pt) := by
  refine Fun.okC lk hcd sc_is_received (fun vs H Q E h => ?_) (fun A outer s H vs Q E hr h => ?_)
  · obtain ⟨_, _, _, _, _, _, rfl, _⟩ := h
    rfl
  obtain ⟨x, a, f, g, n, xs, rfl, hF, hA, hP, hT, k⟩ := h
  obtain ⟨dx, cm, as, ap, an', aw, al, h⟩ := id hF.fld
  refine ⟨_, (pss_cons (ps_set (i := 3) sc_is_received.nd rfl (Or.inr rfl) (pe_fld (pv 0) rfl))
    (pss_one (ps_ret (pe_and (pe_cmpR op_eq (pe_callB call_len_seq (by rfl) T.z_len PySem.boot_len (pa_cons (pv 2) pa_nil)) (pv 1) (nomark _)) (pe_one (pe_allG (P := Pt) (El := ElRecv 3) hr (by rfl) T.z_all TB rfl ⟨rfl, rfl, by decide, rfl, rfl, by
          intro y hy hf
          refine ⟨s.heap.objs.size + 1, ?_⟩
          have hy2 : y = (("order" : Str), NameKind.free) := by
            have : ∀ y ∈ ([(".0", NameKind.local), ("item", NameKind.local), ("order", NameKind.free)] : List (Str × NameKind)), y.2 = .free → y = (("order" : Str), NameKind.free) := by
              intro y hy hf
              simp at hy
              rcases hy with rfl | rfl | rfl
              · cases hf
              · cases hf
              · rfl
            exact this y hy hf
          rw [hy2]
          rfl⟩ (pv 2) (fun _ _ _ _ h => elt_recv rfl rfl (by decide) rfl rfl rfl (h := h)) (by intro _; rfl))))))), ?_⟩
  refine q_asg (v := .int ((f.p ^ (f.e + 1) : Nat) : Int)) (ev_fld rfl h.ob TC.cl TC.n_order (by walk_at "fl")) fun H1 e1 => ?_
  walk_at "nm"
  exact s_ret (ev_andV (a := decide ((xs.length : Int) = n)) (b := xs.all (recvV ((f.p ^ (f.e + 1) : Nat) : Int))) (ev_is (ev_op (ev_cb (ea_cons (ev_var rfl) ea_nil) (rc_len (ex_l e1 hA))) (ev_var rfl) (rv_eq rfl)) (congrArg V.bl (dec_int _ _))) fun _ => ev_allG (El := ElRecv 3) (ev_var rfl) (.inl (ex_l e1 hA)) (e1 _ _ hT) fun H2 e2 v hv => ⟨_, rfl, by
    rcases hP v hv with rfl | ⟨n, rfl⟩
    · exact .inl ⟨rfl, rfl⟩
    · exact .inr ⟨n, rfl, rfl⟩⟩) fun H2 e2 => k H2 (e1.trans e2)
def spReqR (K : PySem.W.Frag) (C Pt : Addr) : Sp := fun vs H Q _ => ∃ (x a : Addr) (f : FPar) (g : Nat) (xs : List (Option (Fe f))), vs = [.ref x, .int (xs.length : Int), .ref a] ∧ FXF K C H x f g ∧ SqL K H a (xs.map rv) ∧ TabE H Pt ∧ RetV .non H Q
end
end My
set_option Elab.async false
set_option linter.all false
set_option maxRecDepth 100000
set_option maxHeartbeats 400000
/-! received words: the items at their places -/
namespace My
open PySem L2 L2H Evl GxR MyG MyS
section
variable {f : FPar}
/-- the item at a place, the places that are not erased -/
def at0 (xs : List (Option (Fe f))) (i : Nat) : Option (Fe f) := xs.getD i none
theorem getv_rv {xs : List (Option (Fe f))} {i : Nat} {v : V} (h : (xs.map rv)[i]? = some v) : i < xs.length ∧ v = rv (at0 xs i) := by
  have hi : i < xs.length := by
    have q := (List.getElem?_eq_some_iff.mp h).1
    rwa [List.length_map] at q
  refine ⟨hi, ?_⟩
  unfold at0
  rw [List.getElem?_map, List.getElem?_eq_getElem hi] at h
  rw [List.getD_eq_getElem?_getD, List.getElem?_eq_getElem hi]
  exact (Option.some.inj h).symm
theorem at_rv {xs : List (Option (Fe f))} {i : Nat} (h : i < xs.length) : atI (xs.map rv) (i : Int) = some (rv (at0 xs i)) := by
  refine atI_nat ?_
  unfold at0
  rw [List.getElem?_map, List.getElem?_eq_getElem h, List.getD_eq_getElem?_getD, List.getElem?_eq_getElem h]
  rfl
theorem at0_set (xs : List (Option (Fe f))) (k : Nat) (v : Option (Fe f)) (i : Nat) (hk : k < xs.length) : at0 (xs.set k v) i = if i = k then v else at0 xs i := by
  unfold at0
  rw [List.getD_eq_getElem?_getD, List.getElem?_set]
  by_cases h : k = i
  · subst h
    rw [if_pos rfl, if_pos hk, if_pos rfl]
    rfl
  · rw [if_neg h, if_neg (fun z => h z.symm), List.getD_eq_getElem?_getD]
theorem at0_some (se : List (Fe f)) {i : Nat} (h : i < se.length) : at0 (se.map some) i = some (cf se i) := by
  unfold at0 cf
  rw [List.getD_eq_getElem?_getD, List.getElem?_map, List.getElem?_eq_getElem h, List.getD_eq_getElem?_getD, List.getElem?_eq_getElem h]
  rfl
/-- not erased and other -/
def off (xs : List (Option (Fe f))) (v : List (Fe f)) (k : Nat) : Bool := match at0 xs k with
  | none => false
  | some a => !decide (a = cf v k)
def dst (xs : List (Option (Fe f))) (v : List (Fe f)) : Nat := ((List.range v.length).filter (off xs v)).length
theorem off_eq (xs : List (Option (Fe f))) (v : List (Fe f)) (k : Nat) : (!decide (rv (at0 xs k) = V.non) && !decide (fv (cf v k) = rv (at0 xs k))) = off xs v k := by
  unfold off
  cases at0 xs k with
  | none => rfl
  | some a =>
    show (!decide (V.int a.1 = V.non) && !decide (V.int (cf v k).1 = V.int a.1)) = !decide (a = cf v k)
    have h1 : decide (V.int a.1 = V.non) = false := decide_eq_false (by simp)
    rw [h1, Bool.not_false, Bool.true_and]
    congr 1
    refine decide_eq_decide.mpr ⟨fun h => ?_, fun h => by rw [h]⟩
    injection h with h
    exact (fe_ext h).symm
theorem scal_rv (a : Fe f) (o : Option (Fe f)) : scal (fv a) (rv o) = true := by cases o <;> rfl
theorem scal_vr (a : Fe f) (o : Option (Fe f)) : scal (rv o) (fv a) = true := by cases o <;> rfl
theorem given_len (n : Nat) (h : Nat → Bool) (v : Nat → V) : (given n h v).length = ((List.range n).filter h).length := by
  unfold given
  rw [List.length_map]
theorem off_eq2 (xs : List (Option (Fe f))) (v : List (Fe f)) (k : Nat) : (!decide (rv (at0 xs k) = V.non) && !decide (rv (at0 xs k) = fv (cf v k))) = off xs v k := by
  rw [← off_eq]
  congr 2
  exact decide_eq_decide.mpr eq_comm
end
end My
set_option Elab.async false
set_option linter.all false
set_option maxRecDepth 100000
set_option maxHeartbeats 1000000
/-! texts: joined, split, numbers written and read -/
namespace My
open PySem PySem.Spec PyProof.Rows L2 L2H Evl TL
/-- a number written -/
def numS (n : Nat) : Str := Str.ofString (toString ((n : Nat) : Int))
def sp1 : Str := Str.ofString " "
def zeroS : Str := Str.ofString "0"
theorem numOK : ∀ n : Nat, n < 1000 → Txt.isdigit (numS n) = true ∧ (numS n).length ≤ 3 ∧ (numS n = zeroS ∨ Txt.startswith (numS n) zeroS = false) ∧ intText? (numS n) = some (n : Int) ∧ numS n ≠ Str.ofString "?" := by decide +kernel
theorem num_free {n s : Nat} (h : s < 48 ∨ 57 < s) : s ∉ TL.tl (numS n) := by
  unfold numS
  rw [tl_num]
  exact numL_free h
theorem split_sp {parts : List Str} (hne : parts ≠ []) (hp : ∀ p ∈ parts, 32 ∉ TL.tl p) : Txt.split (Txt.join sp1 parts) sp1 = parts := split_join (s := 32) (S := []) (by decide +kernel) (by decide +kernel) hne hp
/-- a text without the separator is one piece -/
theorem split_one {y p : Str} {s : Nat} (ey : TL.tl y = [s]) (hk : y.cps.all (· < 256) = true) (hp : s ∉ TL.tl p) : Txt.split p y = [p] := by
  have h := split_join (s := s) (S := []) ey hk (parts := [p]) (by simp) (fun q hq => by rw [List.mem_singleton.mp hq]; exact hp)
  rwa [show Txt.join y [p] = p by rw [join_eq]; rfl] at h
theorem join_tl_free {s : Nat} {parts : List Str} (hs : s ≠ 32) (hp : ∀ p ∈ parts, s ∉ TL.tl p) : s ∉ TL.tl (Txt.join sp1 parts) := by
  rw [join_eq, tl_join]
  have h : ∀ l : List (List Nat), (∀ p ∈ l, s ∉ p) → s ∉ joinL (TL.tl sp1) l := by
    intro l
    induction l with
    | nil => exact fun _ h => by cases h
    | cons p l ih =>
      cases l with
      | nil => exact fun hp => hp p List.mem_cons_self
      | cons q r =>
        intro hp hm
        rcases List.mem_append.mp (show s ∈ p ++ (TL.tl sp1 ++ joinL (TL.tl sp1) (q :: r)) from hm) with h1 | h1
        · exact hp p List.mem_cons_self h1
        · rcases List.mem_append.mp h1 with h2 | h2
          · have : s = 32 := by
              have e : TL.tl sp1 = [32] := by decide +kernel
              rw [e] at h2
              exact List.mem_singleton.mp h2
            exact hs this
          · exact ih (fun z hz => hp z (List.mem_cons_of_mem _ hz)) h2
  exact h _ fun q hq => by
    obtain ⟨p, h1, rfl⟩ := List.mem_map.mp hq
    exact hp p h1
theorem join_len (parts : List Str) (m : Nat) (h : ∀ p ∈ parts, p.length ≤ m) : (Txt.join sp1 parts).length ≤ parts.length * (m + 1) := by
  rw [join_eq]
  induction parts with
  | nil => exact Nat.zero_le _
  | cons p l ih =>
    have hp := h p List.mem_cons_self
    have hl := ih fun q hq => h q (List.mem_cons_of_mem _ hq)
    cases l with
    | nil =>
      show p.length ≤ 1 * (m + 1)
      omega
    | cons q r =>
      have e : Str.join sp1 (p :: q :: r) = p ++ sp1 ++ Str.join sp1 (q :: r) := rfl
      rw [e, len_tl, tl_append, tl_append, List.length_append, List.length_append, ← len_tl, ← len_tl, ← len_tl]
      have e1 : sp1.length = 1 := by decide +kernel
      rw [e1]
      show _ ≤ ((q :: r).length + 1) * (m + 1)
      rw [Nat.add_mul, Nat.one_mul]
      generalize (q :: r).length * (m + 1) = z at *
      omega
theorem sum_le (parts : List Str) (m : Nat) (h : ∀ p ∈ parts, p.length ≤ m) : (parts.map (·.length)).sum ≤ parts.length * m := by
  induction parts with
  | nil => exact Nat.zero_le _
  | cons p l ih =>
    have hp := h p List.mem_cons_self
    have hl := ih fun q hq => h q (List.mem_cons_of_mem _ hq)
    rw [List.map_cons, List.sum_cons, List.length_cons, Nat.add_mul, Nat.one_mul]
    generalize l.length * m = z at *
    omega
/-- joined, one after another -/
theorem join_snoc {parts : List Str} {p : Str} (h : parts ≠ []) : Txt.join sp1 (parts ++ [p]) = Txt.join sp1 parts ++ sp1 ++ p := by
  rw [join_eq, join_eq]
  refine ext_tl ?_
  rw [tl_append, tl_append]
  induction parts with
  | nil => exact absurd rfl h
  | cons q l ih =>
    cases l with
    | nil =>
      show TL.tl (q ++ sp1 ++ p) = _
      rw [tl_append, tl_append]
      rfl
    | cons r l =>
      show TL.tl (q ++ sp1 ++ Str.join sp1 (r :: l ++ [p])) = TL.tl (q ++ sp1 ++ Str.join sp1 (r :: l)) ++ TL.tl sp1 ++ TL.tl p
      rw [tl_append, tl_append, tl_append, tl_append, ih (by simp)]
      simp only [List.append_assoc]
section
variable {K : PySem.W.Frag} {σ : L2.St} {H : Hp} {to te : TE} {a b : Str} {ys : List Str}
theorem ev_joinL (h : Ev to σ H (.str a)) (he : EvL te σ H (ys.map V.str)) (hz : (ys.map (·.length)).sum + ys.length * a.length ≤ 16777216) :
    Ev (tM1 (fun x xs H Q => ∃ a p, ∃ ys : List Str, x = .str a ∧ xs = [.ref p] ∧ (SqL K H p (ys.map V.str) ∨ SqT K H p (ys.map V.str)) ∧ (ys.map (·.length)).sum + ys.length * a.length ≤ 16777216 ∧ Q (.str (Txt.join a ys)) H) to te) σ H (.str (Txt.join a ys)) := fun H1 e1 Q q =>
  h H1 e1 _ fun H2 e2 => ⟨⟨a, rfl⟩, he H2 (e1.trans e2) _ fun p H3 np e3 hp => ⟨a, p, ys, rfl, rfl, .inl (sq_of hp), hz, q H3 (e2.trans e3)⟩⟩
theorem ev_join {p : Addr} (h : Ev to σ H (.str a)) (he : Ev te σ H (.ref p)) (hp : SqL K H p (ys.map V.str)) (hz : (ys.map (·.length)).sum + ys.length * a.length ≤ 16777216) :
    Ev (tM1 (fun x xs H Q => ∃ a p, ∃ ys : List Str, x = .str a ∧ xs = [.ref p] ∧ (SqL K H p (ys.map V.str) ∨ SqT K H p (ys.map V.str)) ∧ (ys.map (·.length)).sum + ys.length * a.length ≤ 16777216 ∧ Q (.str (Txt.join a ys)) H) to te) σ H (.str (Txt.join a ys)) := fun H1 e1 Q q =>
  h H1 e1 _ fun H2 e2 => ⟨⟨a, rfl⟩, he H2 (e1.trans e2) _ fun H3 e3 => ⟨a, p, ys, rfl, rfl, .inl (ex_l (e1.trans (e2.trans e3)) hp), hz, q H3 (e2.trans e3)⟩⟩
theorem el_split (h : Ev to σ H (.str a)) (he : Ev te σ H (.str b)) (hb : (b.length == 0) = false) (hz : a.length + 2 ≤ sizeLine) :
    EvL (tM1 (fun x xs H Q => ∃ a b, x = .str a ∧ xs = [.str b] ∧ (b.length == 0) = false ∧ a.length + 2 ≤ sizeLine ∧ rNewStrs (Txt.split a b) H Q) to te) σ H ((Txt.split a b).map V.str) := fun H1 e1 Q q =>
  h H1 e1 _ fun H2 e2 => ⟨⟨a, rfl⟩, he H2 (e1.trans e2) _ fun H3 e3 => ⟨a, b, rfl, rfl, hb, hz, fun p np => q p _ (fresh_back (e2.trans e3) np) ((e2.trans e3).trans (Ex.new np)) upd_same⟩⟩
theorem ev_isdigit (h : Ev to σ H (.str a)) : Ev (tM0 (fun x xs H Q => ∃ a, x = .str a ∧ xs = [] ∧ True ∧ Q (.bl (Txt.isdigit a)) H) to) σ H (.bl (Txt.isdigit a)) := fun H1 e1 Q q =>
  h H1 e1 _ fun H2 e2 => ⟨⟨a, rfl⟩, a, rfl, rfl, trivial, q H2 e2⟩
theorem ev_startswith (h : Ev to σ H (.str a)) (he : Ev te σ H (.str b)) : Ev (tM1 (fun x xs H Q => ∃ a b, x = .str a ∧ xs = [.str b] ∧ Q (.bl (Txt.startswith a b)) H) to te) σ H (.bl (Txt.startswith a b)) := fun H1 e1 Q q =>
  h H1 e1 _ fun H2 e2 => ⟨⟨a, rfl⟩, he H2 (e1.trans e2) _ fun H3 e3 => ⟨a, b, rfl, rfl, q H3 (e2.trans e3)⟩⟩
theorem rc_str {n : Nat} (h : n < 1000) : RC (fun xs H Q => ∃ i : Int, xs = [.int i] ∧ i.natAbs.log2 < 1920 ∧ Q (.str (toString i)) H) [.int (n : Int)] H (.str (numS n)) := fun H1 _ Q q => ⟨(n : Int), rfl, by
  have : ∀ m : Nat, m < 1000 → (m : Int).natAbs.log2 < 1920 := by decide +kernel
  exact this n h, q H1 (Ex.refl _)⟩
theorem rc_intS {n : Nat} (h : n < 1000) : RC (fun xs H Q => ∃ a n, xs = [.str a] ∧ PySem.intText? a = some n ∧ a.length ≤ 640 ∧ Q (.int n) H) [.str (numS n)] H (.int (n : Int)) := fun H1 _ Q q => ⟨numS n, (n : Int), rfl, (numOK n h).2.2.2.1, Nat.le_trans (numOK n h).2.1 (by decide), q H1 (Ex.refl _)⟩
theorem rv_catS (h : a.length + b.length ≤ 100000) : RV (fun x y H Q => ∃ i j, x = .str i ∧ y = .str j ∧ i.length + j.length ≤ sizeLine ∧ Q (.str (i ++ j)) H) (.str a) (.str b) H (.str (a ++ b)) := fun H1 _ Q q => ⟨a, b, rfl, rfl, sz_of h, q H1 (Ex.refl _)⟩
theorem ev_allL {bs : List Bool} (h : EvL te σ H (bs.map V.bl)) : Ev (tCB (rAll K) (tCons te tNil)) σ H (.bl (bs.all id)) := fun H1 e1 Q q =>
  h H1 e1 _ fun p H2 np e2 hp => ⟨p, bs, rfl, sq_of hp, q H2 e2⟩
end
end My
set_option Elab.async false
set_option linter.all false
set_option maxRecDepth 100000
set_option maxHeartbeats 1000000
/-! Field.same_as -/
namespace My
open PySem L2 Evl GxR MyG
local macro_rules | `(tactic| walk_at "ev") => `(tactic| repeat' (first
  | exact ev_c
  | exact ev_var rfl
  | exact ea_nil
  | exact eo_none
  | (refine' ev_cb ?ea (rc_len ?sq); (case ea => walk_at "evs"); (case sq => walk_at "sq"))
  | (refine' ev_op ?a ?b (rv_ixL ?sq ?ix); (case a => walk_at "evs"); (case b => walk_at "evs"); (case sq => walk_at "sq"); (case ix => walk_at "at"))
  | refine' ea_cons ?_ ?_
  | refine' eo_some ?_
  | refine' ev_op ?_ ?_ rv_I0
  | refine' ev_op ?_ ?_ (rv_eq ?_)
  | refine' ev_op ?_ ?_ (rv_ne ?_)
  | refine' ev_op ?_ ?_ (rv_I ?_)
  | refine' ev_un ?_ ru_neg
  | refine' ev_cb ?_ rc_int
  | refine' ev_cb ?_ rc_abs
  | refine' ev_cb ?_ rc_max2
  | refine' ev_andV ?_ ?_
  | refine' ev_notV ?_
  | refine' et_test ?_
  | refine' et_B ?_
  | refine' et_not ?_))
local macro_rules | `(tactic| walk_at "side") => `(tactic| first
  | rfl
  | decide
  | exact ⟨by decide, by decide⟩
  | exact .inr ⟨by decide, by decide⟩
  | exact .inl ⟨by decide, by decide⟩
  | omega
  | exact .inl ⟨by omega, by omega⟩
  | exact ⟨by omega, by omega⟩
  | exact .inr ⟨by omega, by omega⟩)
local macro_rules | `(tactic| walk_at "evs") => `(tactic| (walk_at "ev"; all_goals (walk_at "side")))
local macro_rules | `(tactic| walk_at "ex") => `(tactic| first
  | with_reducible exact Ex.refl _
  | with_reducible assumption
  | (refine' Ex.trans ?_ ?b; (case b => with_reducible assumption); walk_at "ex"))
local macro_rules | `(tactic| walk_at "sq") => `(tactic| first
  | (refine' sq_ex ?h ?e; (case h => with_reducible assumption); (case e => walk_at "ex"))
  | (refine' ex_l ?e ?h; (case h => with_reducible assumption); (case e => walk_at "ex"))
  | (refine' ex_l ?e ?h; (case h => assumption); (case e => walk_at "ex"))
  | assumption
  | exact sq_of (by assumption))
local macro_rules | `(tactic| walk_at "at") => `(tactic| first
  | exact at_int (by omega) (by omega)
  | exact atI_nat (j := 0) rfl
  | exact atI_nat (j := 1) rfl
  | exact atI_nat (j := 2) rfl)
local macro_rules | `(tactic| walk_at "side2") => `(tactic| first | exact CMul_bdl (by assumption) | exact CMul_bdr (by assumption) | walk_at "side")
local macro_rules | `(tactic| walk_at "evb") => `(tactic| (walk_at "ev"; all_goals (walk_at "side2")))

local macro_rules | `(tactic| walk_at "fl") => `(tactic| (unfold FsOf; repeat (first | rw [lookup_putF, if_pos rfl] | rw [lookup_putF, if_neg (by decide +kernel)])))
section
variable {P : Program} {w : World} {K : PySem.W.Frag} {mg : Str → Option Value} {base : Heap}
/-! Field_same_as: 0 self, 1 other -/
abbrev s_Field_same_as : Stmt := inClass (topS 23) 14
theorem sc_Field_same_as : FnScope ["self", "other"] ["self", "other"] (defScope s_Field_same_as) := ⟨rfl, rfl, rfl, by decide +kernel, rfl, by decide +kernel, by decide +kernel⟩
def spMSame (K : PySem.W.Frag) (C : Addr) : Sp := fun vs H Q _ => ∃ (x y : Addr) (p d g p' d' g' : Nat) (m m' : List Int), vs = [.ref x, .ref y] ∧ Fld K C H x p m d g ∧ Fld K C H y p' m' d' g' ∧ RetV (.bl (decide ((p : Int) = (p' : Int)) && decide (m = m'))) H Q
theorem ok_msame {f C : Addr} {fd : FuncData} (F : Fun K "same_as" "Field.same_as" s_Field_same_as f fd) (T : FTxt mg) (TC : CTxt K mg C) : FnOk P w K mg base CX0 1 f fd ["self", "other"] (spMSame K C) := by
  refine F.ok sc_Field_same_as (fun vs H Q E h => ?_) (fun cdv A outer s H vs Q E hr h => ?_)
  · obtain ⟨_, _, _, _, _, _, _, _, _, _, rfl, _⟩ := h
    rfl
  obtain ⟨x, y, p, d, g, p', d', g', m, m', rfl, ⟨dx, c, as, ap, an, aw, al, h⟩, ⟨dx', c', as', ap', an', aw', al', h'⟩, k⟩ := h
  refine ⟨_, (pss_one (ps_ret (pe_and (pe_cmpR op_eq (pe_fld (pv 0) rfl) (pe_fld (pv 1) rfl) (nomark _)) (pe_one (pe_cmpR (op_eqD hr.units) (pe_fld (pv 0) rfl) (pe_fld (pv 1) rfl) (nomark _)))))), ?_⟩
  exact s_ret (ev_andV (ev_is (ev_op (ev_fld rfl h.ob TC.cl TC.n_prime (by walk_at "fl")) (ev_fld rfl h'.ob TC.cl TC.n_prime (by walk_at "fl")) (rv_eq rfl)) (by rw [dec_int])) fun _ => ev_op (ev_fld rfl h.ob TC.cl TC.n_modulus (by walk_at "fl")) (ev_fld rfl h'.ob TC.cl TC.n_modulus (by walk_at "fl")) (rv_eqT h.mod h'.mod)) fun H1 e1 => k H1 e1
end
end My
set_option Elab.async false
set_option linter.all false
set_option maxRecDepth 100000
set_option maxHeartbeats 1000000
/-! try: body / except x as n: suite / except y as m: suite / .. (names or none) -/
namespace MyT
open PySem PySem.Spec PyProof.Rows L2
/-- the wish of the clauses: class, the name's slot (if any), the suite -/
def wClauses (K : PySem.W.Frag) (Wout : WX) (D : Ends) : List (Value × Option Nat × (Addr → Value → Option Addr → TS)) → WX
  | [] => Wout
  | (c, some i, ts) :: r => fun cls d σ H => ∃ b, PySem.W.exmOne K cls c = some b ∧ (b = true → ∀ a, H a = none →
      ts a cls d { nx := fun σ1 H1 => D.nx (σ1.set i none) H1, rt := D.rt, bk := fun σ1 H1 => D.bk (σ1.set i none) H1, ct := fun σ1 H1 => D.ct (σ1.set i none) H1 } (σ.set i (some (.ref a))) H) ∧ (b = false → wClauses K Wout D r cls d σ H)
  | (c, none, ts) :: r => fun cls d σ H => ∃ b, PySem.W.exmOne K cls c = some b ∧ (b = true → ∀ a, H a = none → ts a cls d D σ H) ∧ (b = false → wClauses K Wout D r cls d σ H)
inductive Clauses (X : Cx) : List ExceptHandler → List (Value × Option Nat × (Addr → Value → Option Addr → TS)) → Prop
  | nil : Clauses X [] []
  | named {x n : Str} {c : Value} {i : Nat} {ts : Addr → Value → Option Addr → TS} {b0 : Stmt} {suite : List Stmt} {np q1 : Pos} {hds : List ExceptHandler} {l : List (Value × Option Nat × (Addr → Value → Option Addr → TS))} (hi : X.N[i]? = some n) (hln : X.env.kindOf n = some .local) (hc : Names X x c)
      (hsu : ∀ (a : Addr) (oe : Obj) (cls : Value) (d : Option Addr) (pn : List (Addr × Obj)), Zc cls d oe → (∃ vs, oe.data = .fields vs) → PSs (X.suite a ((a, oe) :: pn)) (b0 :: suite) (ts a cls d)) (r : Clauses X hds l) :
      Clauses X (.ExceptHandler (some (.Name x np)) (some n) (b0 :: suite) q1 :: hds) ((c, some i, ts) :: l)
  | plain {x : Str} {c : Value} {ts : Addr → Value → Option Addr → TS} {b0 : Stmt} {suite : List Stmt} {np q1 : Pos} {hds : List ExceptHandler} {l : List (Value × Option Nat × (Addr → Value → Option Addr → TS))} (hc : Names X x c)
      (hsu : ∀ (a : Addr) (oe : Obj) (cls : Value) (d : Option Addr) (pn : List (Addr × Obj)), Zc cls d oe → (∃ vs, oe.data = .fields vs) → PSs (X.suite a ((a, oe) :: pn)) (b0 :: suite) (ts a cls d)) (r : Clauses X hds l) :
      Clauses X (.ExceptHandler (some (.Name x np)) none (b0 :: suite) q1 :: hds) ((c, none, ts) :: l)
def behindAll (X : Cx) (R : Flow → Shared → Prop) (hds : List ExceptHandler) : Value → Shared → Prop := fun ev =>
  wpAny (model X.prog X.w) X.A (noteFrame ev X.env) (fun _ => wpAny (model X.prog X.w) X.A (setFlight ev none) (fun _ => wpAny (model X.prog X.w) X.A (handleBy ev X.env hds) R X.xe) X.xe) X.xe
section
variable {X : Cx} {body : List Stmt} {h0 : ExceptHandler} {hds : List ExceptHandler} {l : List (Value × Option Nat × (Addr → Value → Option Addr → TS))} {q2 : Pos} {tb : WX → TS} {Wout : WX}
theorem ps_try_clauses (hs : X.stack = X.env :: X.outer) (hf : X.env.frame = some X.env.locals) (hN : X.N.Nodup) (tk : Takes X Wout)
    (hb : ∀ (W : WX) (pn : List (Addr × Obj)) (xe : Value → Shared → Prop), Takes (X.tr pn xe) W → PassesOwn (model X.prog X.w) X.A X.env xe → PSs (X.tr pn xe) body (tb W))
    (hh : Clauses X (h0 :: hds) l) : PS X (.Try body (h0 :: hds) [] [] q2) (fun D σ H => tb (wClauses X.K Wout D l) D σ H) := by
  refine ⟨?_⟩
  intro pins s σ H D I h
  have ok := I.ok
  have top : X.A.frames = some (X.env :: X.outer) := ok.frames.trans (congrArg some hs)
  refine (fun run => ?_ : (wpAny _ _ _ _ _ _) → _) ((hb (wClauses X.K Wout D l) (X.pn ++ pins) (behindAll X (SP X pins D) (h0 :: hds)) ?_ PassesOwn.looking).run [] s σ H D (I.toTry _) h)
  · refine wpAny_Try_except (wpAny_mono run ?_ fun _ _ z => z)
    intro fl s1 z
    cases fl with
    | next =>
      obtain ⟨σ1, H1, J1, z1⟩ := z
      exact wpAny_execs_nil ⟨σ1, H1, J1.ofTry ok, z1⟩
    | ret v =>
      obtain ⟨w, σ1, H1, J1, r1, z1⟩ := z
      exact ⟨w, σ1, H1, J1.ofTry ok, r1, z1⟩
    | brk =>
      obtain ⟨σ1, H1, J1, z1⟩ := z
      exact ⟨σ1, H1, J1.ofTry ok, z1⟩
    | cont =>
      obtain ⟨σ1, H1, J1, z1⟩ := z
      exact ⟨σ1, H1, J1.ofTry ok, z1⟩
  · intro u s' xx
    obtain ⟨a, B, s0, ps, σ1, H1, cls, d, rfl, I0, below, slots, sky0, fresh, osE, bareE, wish⟩ := xx
    have I1 : Inv X pins σ1 H1 s0 := I0.ofTry ok
    have sky1 : Sky B (X.env :: X.outer) a (Zc cls d) X.env.locals s'.heap := hs ▸ sky0
    show wpAny (model X.prog X.w) X.A (noteFrame (.ref a) X.env) _ _ _
    refine Sky.land Zc.steady top hf sky1 ?_
    intro hp fly slots2
    have I2 : Inv X pins σ1 H1 { s' with heap := hp } := I1.landed below fly.1 (slots.trans slots2) osE bareE
    obtain ⟨o2, v2, at2, z2, data2⟩ := fly.there
    have away : a ∉ frs (X.env :: X.outer) := by
      intro hm
      obtain ⟨_, o', at', nd⟩ := fly.2.2.1.mem hm
      have same : o' = o2 := Option.some.inj (at'.symm.trans at2)
      exact nd _ (same ▸ data2)
    have offL : a ≠ X.env.locals := by
      intro z
      refine away (List.mem_filterMap.mpr ⟨X.env, .head _, ?_⟩)
      rw [hf, z]
    have offF : a ∉ X.fs := by
      intro hm
      obtain ⟨ev, hev, z⟩ := List.mem_filterMap.mp hm
      exact away (List.mem_filterMap.mpr ⟨ev, .tail _ hev, z⟩)
    have inSuite := I2.suite at2 data2 fresh offL offF
    have looks : PySem.W.Looks (model X.prog X.w) hp (typeOf (.ref a)) cls := by
      intro A1 R1 E1 t1 keep r1
      exact wpAny_typeOf_ref (keep _ _ at2) (by rw [z2.1]; exact r1)
    have named : ∀ {x : Str} {c : Value} {np : Pos} {R1 E1 : Value → Shared → Prop}, Names X x c → R1 c { s' with heap := hp } → wpAny (model X.prog X.w) (X.A.mark (some (.ref a))) (eval (.Name x np) X.env) R1 E1 { s' with heap := hp } := by
      intro x c np R1 E1 hc r1
      rcases hc with ⟨gl, nodbg, mgx | ⟨mgx, bt, nn⟩⟩
      · exact ld_glob (X := X.suite a ((a, o2) :: (X.pn ++ pins))) inSuite gl mgx r1 nodbg
      · exact ld_blt (X := X.suite a ((a, o2) :: (X.pn ++ pins))) inSuite gl mgx bt r1 nn nodbg
    have go : ∀ {gs : List ExceptHandler} {ls : List (Value × Option Nat × (Addr → Value → Option Addr → TS))}, Clauses X gs ls → wClauses X.K Wout D ls cls d σ1 H1 → wpAny (model X.prog X.w) X.A (handleBy (.ref a) X.env gs) (SP X pins D) X.xe { s' with heap := hp } := by
      intro gs ls hk
      induction hk with
      | nil =>
        intro wsh
        refine wpAny_handleBy_nil ?_
        obtain ⟨_, _, _, oe, vs, T, _, _, he, _, hd, h1, _⟩ := id fly
        unfold PySem.passOn
        refine wpAny_bind (wpAny_field he hd h1 ?_)
        have nz : ¬ ((Value.ref T == Value.none) = true) := by simp
        rw [if_neg nz]
        have fin : wpAny (model X.prog X.w) X.A (setFlight (.ref a) X.env.frame) (fun _ s4 => wpAny (model X.prog X.w) X.A (throw (.ref a) : Sem Flow) (SP X pins D) X.xe s4) X.xe { s' with heap := hp } := by
          rw [hf]
          refine HandSPX.setFlight_upZ fly fun h4 hh4 up4 => wpAny_throw (tk _ _ ⟨a, B, s0, pins, σ1, H1, cls, d, rfl, I1, below, (slots.trans slots2).trans up4, .inr (.inr ?_), fresh, osE, bareE, wsh⟩)
          rw [hs]
          exact hh4
        first
          | exact wpAny_bind (wpAny_pure (wpAny_bind fin))
          | exact wpAny_bind fin
      | @named x n c i ts b0 suite np q1 hds2 l2 hi hln hc hsu r ih =>
        intro wsh
        obtain ⟨b, met, yes, no⟩ := wsh
        refine wpAny_handleBy_cons (codeAny_handlers_test ?_) (fun z => by cases z)
        refine named hc ((PySem.W.exm_one (M := model X.prog X.w) I2.kIn looks met).here ?_)
        cases b with
        | false => exact ih (no rfl)
        | true =>
          refine codeAny_handlers_suite_as ?_
          refine HandSPX.lands_againZ fly ?_
          intro hq fly2 slots3
          have I3 : Inv X pins σ1 H1 { s' with heap := hq } := I1.landed below fly2.1 ((slots.trans slots2).trans slots3) osE bareE
          obtain ⟨o3, v3, at3, z3, data3⟩ := fly2.there
          refine store_ok (X := X.suite a ((a, o3) :: (X.pn ++ pins))) (v := .ref a) (I3.suite at3 data3 fresh offL offF) hN hi (.inl hln) rfl ?_ (.inr hln)
          intro s5 I5
          have ran := (hsu a o3 cls d (X.pn ++ pins) z3 ⟨_, data3⟩).run [] s5 _ H1 _ I5 (yes rfl a fresh)
          refine wpAny_mono ran ?_ (fun _ _ z => z.elim)
          intro fl s6 z
          have unbound : ∀ {σ6 : L2.St} {H6 : Hp} {R : Shared → Prop}, Inv (X.suite a ((a, o3) :: (X.pn ++ pins))) [] σ6 H6 s6 → (∀ s7, Inv X pins (σ6.set i none) H6 s7 → R s7) →
              wpAny (model X.prog X.w) X.A (do bindName X.env n .none; unbindBehindTheSuite X.env n q1) (fun _ s7 => R s7) X.xe s6 :=
            fun J6 k => gone_ok (J6.unsuite ok) hN hi hln k
          cases fl with
          | ret v =>
            obtain ⟨w, σ6, H6, J6, r6, z6⟩ := z
            exact unbound J6 fun _ J7 => ⟨_, _, _, J7, r6, z6⟩
          | next =>
            obtain ⟨σ6, H6, J6, z6⟩ := z
            exact unbound J6 fun _ J7 => ⟨_, _, J7, z6⟩
          | brk =>
            obtain ⟨σ6, H6, J6, z6⟩ := z
            exact unbound J6 fun _ J7 => ⟨_, _, J7, z6⟩
          | cont =>
            obtain ⟨σ6, H6, J6, z6⟩ := z
            exact unbound J6 fun _ J7 => ⟨_, _, J7, z6⟩
      | @plain x c ts b0 suite np q1 hds2 l2 hc hsu r ih =>
        intro wsh
        obtain ⟨b, met, yes, no⟩ := wsh
        refine wpAny_handleBy_cons (codeAny_handlers_test ?_) (fun z => by cases z)
        refine named hc ((PySem.W.exm_one (M := model X.prog X.w) I2.kIn looks met).here ?_)
        cases b with
        | false => exact ih (no rfl)
        | true =>
          refine codeAny_handlers_suite ?_
          refine HandSPX.lands_againZ fly ?_
          intro hq fly2 slots3
          have I3 : Inv X pins σ1 H1 { s' with heap := hq } := I1.landed below fly2.1 ((slots.trans slots2).trans slots3) osE bareE
          obtain ⟨o3, v3, at3, z3, data3⟩ := fly2.there
          have ran := (hsu a o3 cls d (X.pn ++ pins) z3 ⟨_, data3⟩).run [] _ _ H1 _ (I3.suite at3 data3 fresh offL offF) (yes rfl a fresh)
          refine wpAny_mono ran ?_ (fun _ _ z => z.elim)
          intro fl s6 z
          cases fl with
          | ret v =>
            obtain ⟨w, σ6, H6, J6, r6, z6⟩ := z
            exact ⟨_, _, _, J6.unsuite ok, r6, z6⟩
          | next =>
            obtain ⟨σ6, H6, J6, z6⟩ := z
            exact ⟨_, _, J6.unsuite ok, z6⟩
          | brk =>
            obtain ⟨σ6, H6, J6, z6⟩ := z
            exact ⟨_, _, J6.unsuite ok, z6⟩
          | cont =>
            obtain ⟨σ6, H6, J6, z6⟩ := z
            exact ⟨_, _, J6.unsuite ok, z6⟩
    exact go hh wish
end
end MyT
set_option Elab.async false
set_option linter.all false
/-! one wiped name: facts without unfolding long states -/
namespace My
open PySem L2 L2H Evl
section
variable {σ : L2.St} {i j : Nat} {x : Option V}
theorem hw_one : ∀ y : V, wipe ((wipe σ [j]).set j (some y)) [j] = wipe σ [j] := fun y => by
  show ((σ.set j none).set j (some y)).set j none = σ.set j none
  rw [List.set_set, List.set_set]
theorem at_one (h : Nat.blt j σ.length = true) : ((wipe σ [j]).set j x)[j]? = some x := by
  show ((σ.set j none).set j x)[j]? = some x
  rw [List.set_set, List.getElem?_set_self (Nat.le_of_ble_eq_true h)]
theorem at_oth {r : Option (Option V)} (h : j ≠ i) (hr : σ[i]? = r) : ((wipe σ [j]).set j x)[i]? = r := by
  show ((σ.set j none).set j x)[i]? = r
  rw [List.set_set, List.getElem?_set_ne h]
  exact hr
end
end My
set_option Elab.async false
set_option linter.all false
set_option maxRecDepth 100000
set_option maxHeartbeats 400000
/-! fields and words written, and read back -/
namespace My
open PySem L2 L2H Evl GxR MyG MyS MyT TL StX
local macro_rules | `(tactic| walk_at "ev") => `(tactic| repeat' (first
  | exact ev_c
  | exact ev_var rfl
  | exact ea_nil
  | exact eo_none
  | (refine' ev_cb ?ea (rc_len ?sq); (case ea => walk_at "evs"); (case sq => walk_at "sq"))
  | (refine' ev_op ?a ?b (rv_ixL ?sq ?ix); (case a => walk_at "evs"); (case b => walk_at "evs"); (case sq => walk_at "sq"); (case ix => walk_at "at"))
  | refine' ea_cons ?_ ?_
  | refine' eo_some ?_
  | refine' ev_op ?_ ?_ rv_I0
  | refine' ev_op ?_ ?_ (rv_eq ?_)
  | refine' ev_op ?_ ?_ (rv_ne ?_)
  | refine' ev_op ?_ ?_ (rv_I ?_)
  | refine' ev_un ?_ ru_neg
  | refine' ev_cb ?_ rc_int
  | refine' ev_cb ?_ rc_abs
  | refine' ev_cb ?_ rc_max2
  | refine' ev_andV ?_ ?_
  | refine' ev_notV ?_
  | refine' et_test ?_
  | refine' et_B ?_
  | refine' et_not ?_))
local macro_rules | `(tactic| walk_at "side") => `(tactic| first
  | rfl
  | decide
  | exact ⟨by decide, by decide⟩
  | exact .inr ⟨by decide, by decide⟩
  | exact .inl ⟨by decide, by decide⟩
  | omega
  | exact .inl ⟨by omega, by omega⟩
  | exact ⟨by omega, by omega⟩
  | exact .inr ⟨by omega, by omega⟩)
local macro_rules | `(tactic| walk_at "evs") => `(tactic| (walk_at "ev"; all_goals (walk_at "side")))
local macro_rules | `(tactic| walk_at "ex") => `(tactic| first
  | with_reducible exact Ex.refl _
  | with_reducible assumption
  | (refine' Ex.trans ?_ ?b; (case b => with_reducible assumption); walk_at "ex"))
local macro_rules | `(tactic| walk_at "sq") => `(tactic| first
  | (refine' sq_ex ?h ?e; (case h => with_reducible assumption); (case e => walk_at "ex"))
  | (refine' ex_l ?e ?h; (case h => with_reducible assumption); (case e => walk_at "ex"))
  | (refine' ex_l ?e ?h; (case h => assumption); (case e => walk_at "ex"))
  | assumption
  | exact sq_of (by assumption))
local macro_rules | `(tactic| walk_at "at") => `(tactic| first
  | exact at_int (by omega) (by omega)
  | exact atI_nat (j := 0) rfl
  | exact atI_nat (j := 1) rfl
  | exact atI_nat (j := 2) rfl)
local macro_rules | `(tactic| walk_at "side2") => `(tactic| first | exact CMul_bdl (by assumption) | exact CMul_bdr (by assumption) | walk_at "side")
local macro_rules | `(tactic| walk_at "evb") => `(tactic| (walk_at "ev"; all_goals (walk_at "side2")))

local macro_rules | `(tactic| walk_at "fl") => `(tactic| (unfold FsOf; repeat (first | rw [lookup_putF, if_pos rfl] | rw [lookup_putF, if_neg (by decide +kernel)])))
local macro_rules | `(tactic| walk_at "nm") => `(tactic| (try simp only [List.set_cons_zero, List.set_cons_succ]))
def natV (ns : List Nat) : List V := ns.map fun (n : Nat) => V.int (n : Int)
theorem natV_len (ns : List Nat) : (natV ns).length = ns.length := List.length_map ..
theorem range_gd {α β : Type} (l : List α) (d : α) (g : α → β) : (List.range l.length).map (fun i => g (l.getD i d)) = l.map g := by
  refine List.ext_getElem (by simp) fun i h1 h2 => ?_
  rw [List.length_map, List.length_range] at h1
  rw [List.getElem_map, List.getElem_range, List.getElem_map, List.getD_eq_getElem?_getD, List.getElem?_eq_getElem h1]
  rfl
theorem et_lstT {K : PySem.W.Frag} {σ : L2.St} {H : Hp} {te : TE} {a : Addr} {xs : List V} (h : Ev te σ H (.ref a)) (hx : SqL K H a xs) : EvT (fun σ H Q => te σ H fun x H' => ∃ k, TruV K x H' k ∧ Q k H') σ H (!xs.isEmpty) := fun H1 e Q q =>
  h H1 e _ fun H2 e2 => ⟨_, .inl ⟨xs, ex_l (e.trans e2) hx, rfl⟩, q H2 e2⟩
theorem given_allX (n : Nat) (v : Nat → V) : given n (fun _ => true) v = (List.range n).map v := by
  unfold given
  rw [List.filter_eq_self.mpr (fun _ _ => rfl)]
theorem ev_callXW {σ : L2.St} {H : Hp} {tA : TA} {P : List V → Hp → Prop} {sp : Sp} {E : XK} {z : V} (h : EvAX tA σ H P) (hs : ∀ vs H1, Ex H H1 → P vs H1 → ∀ Q : VK, (∀ H2, Ex H1 H2 → Q z H2) → sp vs H1 Q E) : Ev (tCall sp [] E tA) σ H z := fun H1 e Q q =>
  h H1 e _ fun vs H2 e2 hp => by
    rw [List.append_nil]
    exact hs vs H2 (e.trans e2) hp Q fun H3 e3 => q H3 (e2.trans e3)
theorem eu_isT {te : TE} {σ : L2.St} {H : Hp} {xs ys : List V} (h : EvU te σ H xs) (e : xs = ys) : EvU te σ H ys := e ▸ h
theorem eu_tupLW {K : PySem.W.Frag} {te : TE} {σ : L2.St} {H : Hp} {xs : List V} (h : EvL te σ H xs) : EvU (tCB (fun xs H Q => ∃ p ys, xs = [.ref p] ∧ ((SqL K H p ys ∧ ∀ l, H l = none → Q (.ref l) (upd H l (.tup ys))) ∨ (SqT K H p ys ∧ Q (.ref p) H))) (tCons te tNil)) σ H xs := fun H1 e Q q =>
  h H1 e _ fun p H2 np e2 hp => ⟨p, xs, rfl, .inl ⟨sq_of hp, fun l nl => q l _ (fresh_back e2 nl) (e2.trans (Ex.new nl)) upd_same⟩⟩
/-- an item written -/
def itemS {f : FPar} : Option (Fe f) → Str
  | none => Str.ofString "?"
  | some a => numS a.1.toNat
/-- a word written -/
def wordS {f : FPar} (xs : List (Option (Fe f))) : Str := Txt.join sp1 (xs.map itemS)
/-- a field written -/
def fieldS (ns : List Nat) : Str := Txt.join sp1 (Str.ofString "field" :: ns.map numS)
section
variable {K : PySem.W.Frag} {σ : L2.St} {H : Hp} {te tu : TE} {ta : TA} {D : Ends} {tz : TS}
theorem q_asgStar {i j : Nat} {x : V} {xs : List V} (h : EvL te σ H (x :: xs)) (hl : xs.length ≤ 16000) (k : ∀ p H1, H p = none → Ex H H1 → H1 p = some (.lst xs) → tz D ((σ.set i (some x)).set j (some (.ref p))) H1) : tSeq (tAsg te (gStarL K (gCons (gName i) (gCons (gName j) gNil)))) tz D σ H :=
  h H (Ex.refl H) _ fun a H1 na e1 ha => ⟨a, x, xs, rfl, sq_of ha, hl, fun p np => ⟨x, [.ref p], rfl, .ref p, [], rfl, rfl, k p _ (fresh_back e1 np) (e1.trans (Ex.new np)) upd_same⟩⟩
theorem ea_star {p : Addr} {xs ys : List V} (h : Ev te σ H (.ref p)) (hp : SqT K H p xs) (ht : EvA ta σ H ys) : EvA (tStar K te ta) σ H (xs ++ ys) := fun H1 e1 Q q =>
  h H1 e1 _ fun H2 e2 => ⟨p, xs, rfl, .inl (ex_t (e1.trans e2) hp), ht H2 (e1.trans e2) _ fun H3 e3 => q H3 (e2.trans e3)⟩
/-- Field(p, a new tuple) -/
theorem k_makeW {C Pt : Addr} {p e g : Nat} {m : List Int} (h0 : Ev te σ H (.int (p : Int))) (hU : EvU tu σ H (m.map V.int)) (ok : FOK p m e g) (gt : TabG H Pt) (Q : VK) (k : ∀ x H2, ExP Pt H H2 → Fld K C H2 x p m (e + 1) g → Q (.ref x) H2) : tMake C (spInit K C Pt) [] E0 (tCons te (tCons tu tNil)) σ H Q :=
  h0 H (Ex.refl H) _ fun H0 e0 => hU H0 e0 _ fun c H1 nc e1' hc => fun x dx nx ndx ne => by
    have e1 := e0.trans e1'
    rw [List.append_nil]
    have e2 : Ex H1 (upd H1 dx (.own x)) := Ex.new ndx
    have nx2 : (upd H1 dx (.own x)) x = none := by rw [upd_ne (fun z => ne z.symm)]; exact nx
    have e3 : Ex H1 (upd (upd H1 dx (.own x)) x (.ins C dx [])) := e2.trans (Ex.new nx2)
    have g1 : TabG H1 Pt := TabG.ex gt e1
    exact ⟨H1, x, dx, c, p, e, g, m, rfl, ok, nx, upd_same, ⟨TabG.ex g1 e3, fun b o _ _ hb => e3 _ _ hb⟩, ex_t e3 (st_of hc), fun H2 ex hF => ⟨rfl, k x H2 ((ExP.ofEx gt e1).trans ex) hF⟩⟩
end
section
variable {P : Program} {w : World} {K : PySem.W.Frag} {mg : Str → Option Value} {base : Heap}
/-! _line_of: 0 head, 1 numbers, 2 number -/
abbrev s_line_of : Stmt := topS 29
theorem sc_line_of : FnScope ["head", "numbers", "number"] ["head", "numbers"] (defScope s_line_of) := ⟨rfl, rfl, rfl, by decide +kernel, rfl, by decide +kernel, by decide +kernel⟩
def spLine (K : PySem.W.Frag) : Sp := fun vs H Q _ => ∃ (h : Str) (a : Addr) (ns : List Nat), vs = [.str h, .ref a] ∧ SqL K H a (natV ns) ∧ (∀ n ∈ ns, n < 1000) ∧ ns.length ≤ 1000 ∧ h.length ≤ 100 ∧ RetV (.str (Txt.join sp1 (h :: ns.map numS))) H Q
theorem ok_line {fa : Addr} {fd : FuncData} (F : Fun K "_line_of" "_line_of" s_line_of fa fd) (T : FTxt mg) (zS : mg "str" = none) : FnOk P w K mg base CX0 1 fa fd ["head", "numbers"] (spLine K) := by
  refine F.ok sc_line_of (fun vs H Q E h => ?_) (fun cdv A outer s H vs Q E hr h => ?_)
  · obtain ⟨_, _, _, rfl, _⟩ := h
    rfl
  obtain ⟨h, a, ns, rfl, hA, hn, hl, hh, k⟩ := h
  refine ⟨_, (pss_one (ps_ret (pe_join pe_str (pe_op op_cat (pe_lst (pa_cons (pv 0) pa_nil)) (pe_lc (own := [("number", 2)]) (g := (gName 2)) (tt := tYes) rfl sc_line_of.nd (pi_list (pv 1)) (blkOk_by (own := [("number", 2)]) (N := ["head", "numbers", "number"]) (sc := defScope s_line_of) (by decide +kernel)) (fun _ _ _ _ _ => (pg_name (i := 2) sc_line_of.nd rfl (Or.inl rfl))) (fun _ _ _ _ _ => pts_nil) (fun _ _ _ _ _ => pe_callTy call_str_int (by rfl) zS (by decide +kernel) (pa_cons (pv 2) pa_nil))))))), ?_⟩
  have hpl : ∀ p ∈ h :: ns.map numS, p.length ≤ 100 := fun p hp => by
    rcases List.mem_cons.mp hp with rfl | hp
    · exact hh
    · obtain ⟨n, hn', rfl⟩ := List.mem_map.mp hp
      exact Nat.le_trans (numOK n (hn n hn')).2.1 (by decide)
  have ll : (h :: ns.map numS).length ≤ 1001 := by rw [List.length_cons, List.length_map]; omega
  refine s_ret (ev_joinL (ys := h :: ns.map numS) ev_c (el_catLL (xs := [V.str h]) (ys := (ns.map numS).map V.str) (el_lst (ea_cons (ev_var rfl) ea_nil) (by show 1 ≤ 100000; decide)) (el_is (el_lcL (K := K) (a := a) (xs := natV ns) (j := 2) (vs := [2]) (fun _ => true) (fun i => .str (numS (ns.getD i 0))) (ev_var rfl) hA (by rw [natV_len]; omega) hw_one (fun _ _ _ _ _ => et_yes) (fun i y H1 e1 hx _ => ?_)) ?_) (by rw [List.length_map, List.length_map]; show 1 + _ ≤ 100000; omega)) ?_) fun H1 e1 => k H1 e1
  · unfold natV at hx
    rw [List.getElem?_map] at hx
    cases hi : ns[i]? with
    | none => rw [hi] at hx; cases hx
    | some n =>
      rw [hi] at hx
      have hx : y = .int (n : Int) := (Option.some.inj hx).symm
      subst hx
      rw [List.getD_eq_getElem?_getD, hi]
      exact ev_cb (ea_cons (ev_var (at_one rfl)) ea_nil) (rc_str (hn n (List.mem_of_getElem? hi)))
  · rw [natV_len, given_allX, List.map_map]
    exact range_gd ns 0 (fun n => V.str (numS n))
  · have h1 := sum_le _ 100 hpl
    have h2 : sp1.length = 1 := by decide +kernel
    have h3 : (h :: ns.map numS).length * 100 ≤ 1001 * 100 := Nat.mul_le_mul_right _ ll
    rw [show (Str.ofString " ").length = 1 from h2, Nat.mul_one]
    omega
/-! format_field: 0 field -/
abbrev s_format_field : Stmt := topS 30
theorem sc_format_field : FnScope ["field"] ["field"] (defScope s_format_field) := ⟨rfl, rfl, rfl, by decide +kernel, rfl, by decide +kernel, by decide +kernel⟩
def spFmtF (K : PySem.W.Frag) (C : Addr) : Sp := fun vs H Q _ => ∃ (x : Addr) (p d g : Nat) (ms : List Nat), vs = [.ref x] ∧ Fld K C H x p (ms.map fun (n : Nat) => (n : Int)) d g ∧ p < 1000 ∧ (∀ n ∈ ms, n < 1000) ∧ ms.length ≤ 100 ∧ RetV (.str (fieldS (p :: ms))) H Q
theorem ok_fmtf {fa C : Addr} {fd : FuncData} (F : Fun K "format_field" "format_field" s_format_field fa fd) (TC : CTxt K mg C) (D_line_of : Dk P w K mg base CX0 1 "_line_of" ["head", "numbers"] (spLine K)) : FnOk P w K mg base CX0 2 fa fd ["field"] (spFmtF K C) := by
  refine F.ok sc_format_field (fun vs H Q E h => ?_) (fun cdv A outer s H vs Q E hr h => ?_)
  · obtain ⟨_, _, _, _, _, rfl, _⟩ := h
    rfl
  obtain ⟨x, p, d, g, ms, rfl, ⟨dx, c, as, ap, an, aw, al, h⟩, hp, hm, lm, k⟩ := h
  refine ⟨_, (pss_one (ps_ret (pe_cd D_line_of hr (by rfl) (pa_cons pe_str (pa_cons (pe_lst (pa_cons (pe_fld (pv 0) rfl) (pa_star (pe_fld (pv 0) rfl) pa_nil))) pa_nil))))), ?_⟩
  refine s_ret (ev_callXW (ax_cons ev_c (ax_consF (xs := natV (p :: ms)) (el_lst (ea_cons (ev_fld rfl h.ob TC.cl TC.n_prime (by walk_at "fl")) (by
    have := ea_star (K := K) (te := tFld K (tVar 0) "modulus") (ta := tNil) (ys := []) (ev_fld (i := 0) (σ := [some (.ref x)]) rfl h.ob TC.cl TC.n_modulus (by walk_at "fl")) h.mod ea_nil
    rw [List.append_nil, List.map_map] at this
    exact this)) (by rw [natV_len, List.length_cons]; omega)) ax_nil)) fun vs H1 e1 hPP Q q => ?_) fun H1 e1 => k H1 e1
  obtain ⟨_, rfl, a, _, rfl, na, ha, rfl⟩ := hPP
  exact ⟨Str.ofString "field", a, p :: ms, rfl, sq_of ha, fun n hn => (List.mem_cons.mp hn).elim (fun z => z ▸ hp) (hm n), by rw [List.length_cons]; omega, by decide +kernel, fun H2 e2 => q H2 e2⟩
/-! format_word: 0 word, 1 item -/
abbrev s_format_word : Stmt := topS 31
theorem sc_format_word : FnScope ["word", "item"] ["word"] (defScope s_format_word) := ⟨rfl, rfl, rfl, by decide +kernel, rfl, by decide +kernel, by decide +kernel⟩
def spFmtW (K : PySem.W.Frag) : Sp := fun vs H Q _ => ∃ (a : Addr) (f : FPar) (xs : List (Option (Fe f))), vs = [.ref a] ∧ SqL K H a (xs.map rv) ∧ xs.length ≤ 300 ∧ f.p ^ (f.e + 1) ≤ 256 ∧ RetV (.str (wordS xs)) H Q
theorem item_lt {f : FPar} (hq : f.p ^ (f.e + 1) ≤ 256) (a : Fe f) : a.1.toNat < 1000 ∧ ((a.1.toNat : Nat) : Int) = a.1 := by
  have h1 := a.2.1
  have h2 := a.2.2
  omega
theorem item_len {f : FPar} (hq : f.p ^ (f.e + 1) ≤ 256) (o : Option (Fe f)) : (itemS o).length ≤ 3 ∧ (∀ s, s < 48 → s ∉ TL.tl (itemS o)) := by
  cases o with
  | none => exact ⟨by show (Str.ofString "?").length ≤ 3; decide +kernel, fun s hs => by
      have e : TL.tl (itemS (none : Option (Fe f))) = [63] := by
        show TL.tl (Str.ofString "?") = [63]
        decide +kernel
      rw [e]
      intro h
      have := List.mem_singleton.mp h
      omega⟩
  | some a => exact ⟨(numOK _ (item_lt hq a).1).2.1, fun s hs => num_free (.inl hs)⟩
theorem ok_fmtw {fa : Addr} {fd : FuncData} (F : Fun K "format_word" "format_word" s_format_word fa fd) (T : FTxt mg) (zS : mg "str" = none) : FnOk P w K mg base CX0 1 fa fd ["word"] (spFmtW K) := by
  refine F.ok sc_format_word (fun vs H Q E h => ?_) (fun cdv A outer s H vs Q E hr h => ?_)
  · obtain ⟨_, _, _, rfl, _⟩ := h
    rfl
  obtain ⟨a, f, xs, rfl, hA, hl, hq, k⟩ := h
  refine ⟨_, (pss_one (ps_ret (pe_join pe_str (pe_lc (own := [("item", 1)]) (g := (gName 1)) (tt := tYes) rfl sc_format_word.nd (pi_list (pv 0)) (blkOk_by (own := [("item", 1)]) (N := ["word", "item"]) (sc := defScope s_format_word) (by decide +kernel)) (fun _ _ _ _ _ => (pg_name (i := 1) sc_format_word.nd rfl (Or.inl rfl))) (fun _ _ _ _ _ => pts_nil) (fun _ _ _ _ _ => pe_ifExp (pt_cmpR op_isN (pv 1) pe_non (nomark _)) pe_str (pe_callTy call_str_int (by rfl) zS (by decide +kernel) (pa_cons (pv 1) pa_nil))))))), ?_⟩
  have hpl : ∀ p ∈ xs.map itemS, p.length ≤ 3 := fun p hp => by
    obtain ⟨o, _, rfl⟩ := List.mem_map.mp hp
    exact (item_len hq o).1
  refine s_ret (ev_joinL (ys := xs.map itemS) ev_c (el_is (el_lcL (K := K) (a := a) (xs := xs.map rv) (j := 1) (vs := [1]) (fun _ => true) (fun i => .str (itemS (at0 xs i))) (ev_var rfl) hA (by rw [List.length_map]; omega) hw_one (fun _ _ _ _ _ => et_yes) (fun i y H1 e1 hx _ => ?_)) ?_) ?_) fun H1 e1 => k H1 e1
  · obtain ⟨hi, rfl⟩ := getv_rv hx
    refine ev_if (b := decide (at0 xs i = none)) (et_is (et_test (ev_op (ev_var (at_one rfl)) ev_c rv_isN)) ?_) (fun hb => ?_) (fun hb => ?_)
    · refine decide_eq_decide.mpr ?_
      cases at0 xs i with
      | none => exact ⟨fun _ => rfl, fun _ => rfl⟩
      | some v => exact ⟨fun z => (by cases z), fun z => (by cases z)⟩
    · rw [of_decide_eq_true hb]
      exact ev_c
    · cases ho : at0 xs i with
      | none => rw [ho] at hb; cases hb
      | some v =>
        have := item_lt hq v
        refine ev_cb (vs := [.int ((v.1.toNat : Nat) : Int)]) (ea_cons (ev_is (ev_var (at_one rfl)) ?_) ea_nil) (rc_str this.1)
        rw [this.2]
        rfl
  · rw [List.length_map, given_allX, List.map_map]
    unfold at0
    exact range_gd xs none (fun o => V.str (itemS o))
  · have h1 := sum_le _ 3 hpl
    have h2 : (Str.ofString " ").length = 1 := by decide +kernel
    rw [h2, List.length_map] at *
    omega
/-! _is_number: 0 text -/
abbrev s_is_number : Stmt := topS 32
theorem sc_is_number : FnScope ["text"] ["text"] (defScope s_is_number) := ⟨rfl, rfl, rfl, by decide +kernel, rfl, by decide +kernel, by decide +kernel⟩
def spIsNum : Sp := fun vs H Q _ => ∃ n : Nat, vs = [.str (numS n)] ∧ n < 1000 ∧ RetV (.bl true) H Q
theorem ok_isnum {fa : Addr} {fd : FuncData} {tk : Tok} (F : Fun K "_is_number" "_is_number" s_is_number fa fd) (T : FTxt mg) (hM : mg "MOST_DIGITS" = some (.int 3 tk)) : FnOk P w K mg base CX0 1 fa fd ["text"] spIsNum := by
  refine F.ok sc_is_number (fun vs H Q E h => ?_) (fun cdv A outer s H vs Q E hr h => ?_)
  · obtain ⟨_, rfl, _⟩ := h
    rfl
  obtain ⟨n, rfl, hn, k⟩ := h
  refine ⟨_, (pss_cons (ps_if (PW.pt (pw_or (pt_not (pt_val (pe_m0 PySem.F.slot_str_isdigit PySem.F.type_str_isdigit mt_isdigit (pv 0)))) (pw_or1 (pt_cmpR op_gt (pe_callB call_len_str (by rfl) T.z_len PySem.boot_len (pa_cons (pv 0) pa_nil)) (pe_glob (v := .int 3) rfl hM ⟨_, rfl⟩) (nomark _)))))
      (pss_one (ps_ret pe_bl))
      pss_nil)
    (pss_one (ps_ret (pe_or (pe_cmpR op_eq (pv 0) pe_str (nomark _)) (pe_one (pe_not (pe_m1 PySem.F.slot_str_startswith PySem.F.type_str_startswith mt_startswith (pv 0) pe_str))))))), ?_⟩
  obtain ⟨h1, h2, h3, _, _⟩ := numOK n hn
  refine q_when (b := false) (et_is (et_or (a := false) (b := false) (et_is (et_not (et_B (ev_isdigit (ev_var rfl)))) (by rw [h1]; rfl)) fun _ => et_is (et_test (ev_op (ev_cb (z := .int ((numS n).length : Int)) (ea_cons (ev_var rfl) ea_nil) (fun H1 _ Q q => ⟨numS n, rfl, sz_of (by omega), q H1 (Ex.refl _)⟩)) ev_c rv_I0)) (decide_eq_false (by omega))) rfl) (fun q => Bool.noConfusion q) fun _ H1 e1 => ?_
  refine s_ret (v := .bl true) (ev_is (ev_orV (a := decide (numS n = zeroS)) (b := !Txt.startswith (numS n) zeroS) (ev_is (ev_op (ev_var rfl) ev_c (rv_eq rfl)) (congrArg V.bl (decide_eq_decide.mpr ⟨fun z => V.str.inj z, fun z => congrArg V.str z⟩))) fun _ => ev_notV (ev_startswith (ev_var rfl) ev_c)) (congrArg V.bl ?_)) fun H2 e2 => k H2 (e1.trans e2)
  rcases h3 with h3 | h3
  · rw [decide_eq_true h3]
    rfl
  · rw [h3, Bool.not_false, Bool.or_true]
/-! _numbers_behind: 0 head, 1 lines, 2 at, 3 first, 4 items, 5 item -/
abbrev s_numbers_behind : Stmt := topS 33
theorem sc_numbers_behind : FnScope ["head", "lines", "at", "first", "items", "item"] ["head", "lines", "at"] (defScope s_numbers_behind) := ⟨rfl, rfl, rfl, by decide +kernel, rfl, by decide +kernel, by decide +kernel⟩
def spNumB (K : PySem.W.Frag) : Sp := fun vs H Q _ => ∃ (h : Str) (a : Addr) (ns : List Nat), vs = [.str h, .ref a, .int 0] ∧ SqL K H a [.str (Txt.join sp1 (h :: ns.map numS))] ∧ 32 ∉ TL.tl h ∧ h.length ≤ 100 ∧ (∀ n ∈ ns, n < 1000) ∧ ns.length ≤ 1000 ∧ RetL (natV ns) H Q
theorem ok_numb {fa : Addr} {fd : FuncData} (F : Fun K "_numbers_behind" "_numbers_behind" s_numbers_behind fa fd) (T : FTxt mg) (D_is_number : Dk P w K mg base CX0 1 "_is_number" ["text"] spIsNum) : FnOk P w K mg base CX0 2 fa fd ["head", "lines", "at"] (spNumB K) := by
  refine F.ok sc_numbers_behind (fun vs H Q E h => ?_) (fun cdv A outer s H vs Q E hr h => ?_)
  · obtain ⟨_, _, _, rfl, _⟩ := h
    rfl
  obtain ⟨h, a, ns, rfl, hA, hsp, hh, hn, hl, k⟩ := h
  refine ⟨_, (pss_cons (ps_if (pt_cmpR op_ge (pv 2) (pe_callB call_len_seq (by rfl) T.z_len PySem.boot_len (pa_cons (pv 1) pa_nil)) (nomark _))
      (pss_one (ps_never))
      pss_nil)
    (pss_cons (ps_asg (pe_split (pe_ix ix_list (pv 1) (pv 2) (fun _ _ => rfl)) pe_str) (pg_starL (by rfl) (pgs_cons (pg_name (i := 3) sc_numbers_behind.nd rfl (Or.inl rfl)) (pgs_star (pg_name (i := 4) sc_numbers_behind.nd rfl (Or.inl rfl)) pgs_nil))))
    (pss_cons (ps_if (PW.pt (pw_or (pt_cmpR op_ne (pv 3) (pv 0) (nomark _)) (pw_or1 (pt_not (pt_val (pe_callB (cr_all rfl) (by rfl) T.z_all (by decide +kernel) (pa_cons (pe_lc (own := [("item", 5)]) (g := (gName 5)) (tt := tYes) (te := tCall spIsNum [] E0 (tCons (tVar 5) tNil)) rfl sc_numbers_behind.nd (pi_list (pv 4)) (blkOk_by (own := [("item", 5)]) (N := ["head", "lines", "at", "first", "items", "item"]) (sc := defScope s_numbers_behind) (by decide +kernel)) (fun _ _ _ _ _ => (pg_name (i := 5) sc_numbers_behind.nd rfl (Or.inl rfl))) (fun _ _ _ _ _ => pts_nil) (fun _ _ _ _ _ => by exact pe_cd D_is_number hr (by rfl) (pa_cons (pv 5) pa_nil))) pa_nil)))))))
      (pss_one (ps_never))
      pss_nil)
    (pss_one (ps_ret (pe_lc (own := [("item", 5)]) (g := (gName 5)) (tt := tYes) rfl sc_numbers_behind.nd (pi_list (pv 4)) (blkOk_by (own := [("item", 5)]) (N := ["head", "lines", "at", "first", "items", "item"]) (sc := defScope s_numbers_behind) (by decide +kernel)) (fun _ _ _ _ _ => (pg_name (i := 5) sc_numbers_behind.nd rfl (Or.inl rfl))) (fun _ _ _ _ _ => pts_nil) (fun _ _ _ _ _ => pe_callTy call_int_str (by rfl) T.z_int (by decide +kernel) (pa_cons (pv 5) pa_nil)))))))), ?_⟩
  have hpl : ∀ p ∈ h :: ns.map numS, p.length ≤ 100 := fun p hp => by
    rcases List.mem_cons.mp hp with rfl | hp
    · exact hh
    · obtain ⟨n, hn', rfl⟩ := List.mem_map.mp hp
      exact Nat.le_trans (numOK n (hn n hn')).2.1 (by decide)
  have ll : (h :: ns.map numS).length ≤ 1001 := by rw [List.length_cons, List.length_map]; omega
  have hlen : (Txt.join sp1 (h :: ns.map numS)).length + 2 ≤ 110000 := by
    have h1 := join_len _ 100 hpl
    have h3 : (h :: ns.map numS).length * (100 + 1) ≤ 1001 * 101 := Nat.mul_le_mul_right _ ll
    omega
  have hspl : Txt.split (Txt.join sp1 (h :: ns.map numS)) sp1 = h :: ns.map numS := split_sp (by simp) fun p hp => by
    rcases List.mem_cons.mp hp with rfl | hp
    · exact hsp
    · obtain ⟨n, _, rfl⟩ := List.mem_map.mp hp
      exact num_free (.inl (by decide))
  refine q_when (b := false) (et_is (et_test (ev_op (ev_var rfl) (ev_len (ev_var rfl) hA) rv_I0)) (by rfl)) (fun q => Bool.noConfusion q) fun _ H1 e1 => ?_
  refine q_asgStar (x := .str h) (xs := (ns.map numS).map V.str) (el_is (el_split (ev_op (ev_var rfl) (ev_var rfl) (rv_ixL (ex_l e1 hA) (atI_nat (j := 0) rfl))) ev_c (by decide +kernel) (Nat.le_trans hlen (by rw [PySem.sizeLine_eq]; decide))) (by rw [show Str.ofString " " = sp1 from rfl, hspl]; rfl)) (by rw [List.length_map, List.length_map]; omega) fun p H2 np e2 hp => ?_
  walk_at "nm"
  have e12 := e1.trans e2
  have lns : ((ns.map numS).map V.str).length = ns.length := by rw [List.length_map, List.length_map]
  have got : ∀ {i : Nat} {y : V}, ((ns.map numS).map V.str)[i]? = some y → ∃ n, ns[i]? = some n ∧ y = .str (numS n) ∧ n < 1000 := fun {i y} hx => by
    rw [List.getElem?_map, List.getElem?_map] at hx
    cases hi : ns[i]? with
    | none => rw [hi] at hx; cases hx
    | some n =>
      rw [hi] at hx
      exact ⟨n, rfl, (Option.some.inj hx).symm, hn n (List.mem_of_getElem? hi)⟩
  refine q_when (b := false) (et_is (et_or (a := false) (b := false) (et_is (et_test (ev_op (ev_var rfl) (ev_var rfl) (rv_ne rfl))) (by rw [decide_eq_true rfl]; rfl)) fun _ => et_is (et_not (et_B (ev_allL (bs := ns.map fun _ => true) (el_is (el_lcL (K := K) (a := p) (xs := (ns.map numS).map V.str) (j := 5) (vs := [5]) (fun _ => true) (fun _ => .bl true) (ev_var rfl) (sq_of hp) (by rw [lns]; omega) hw_one (fun _ _ _ _ _ => et_yes) (fun i y H3 e3 hx _ => ?_)) ?_)))) ?_) rfl) (fun q => Bool.noConfusion q) fun _ H3 e3 => ?_
  · obtain ⟨n, _, rfl, hn3⟩ := got hx
    exact ev_call (ea_cons (ev_var (at_one rfl)) ea_nil) (fun H1 e1 Q q E => ⟨n, rfl, hn3, q⟩)
  · rw [lns, given_allX, List.map_map]
    exact range_gd ns 0 (fun _ => V.bl true)
  · have : (ns.map fun _ => true).all id = true := List.all_eq_true.mpr fun b hb => by
      obtain ⟨_, _, rfl⟩ := List.mem_map.mp hb
      rfl
    rw [this]
    rfl
  refine s_retL (el_is (el_lcL (K := K) (a := p) (xs := (ns.map numS).map V.str) (j := 5) (vs := [5]) (fun _ => true) (fun i => .int ((ns.getD i 0 : Nat) : Int)) (ev_var rfl) (sq_of (e3 _ _ hp)) (by rw [lns]; omega) hw_one (fun _ _ _ _ _ => et_yes) (fun i y H4 e4 hx _ => ?_)) ?_) fun q H4 nq e4 hq => k q H4 (fresh_back (e12.trans e3) nq) (e12.trans (e3.trans e4)) hq
  · obtain ⟨n, hi, rfl, hn3⟩ := got hx
    rw [List.getD_eq_getElem?_getD, hi]
    exact ev_cb (ea_cons (ev_var (at_one rfl)) ea_nil) (rc_intS hn3)
  · rw [lns, given_allX]
    exact range_gd ns 0 (fun n => V.int ((n : Nat) : Int))
/-! _field_in: 0 lines, 1 numbers -/
abbrev s_field_in : Stmt := topS 34
theorem sc_field_in : FnScope ["lines", "numbers"] ["lines"] (defScope s_field_in) := ⟨rfl, rfl, rfl, by decide +kernel, rfl, by decide +kernel, by decide +kernel⟩
def spFldIn (K : PySem.W.Frag) (C Pt : Addr) : Sp := fun vs H Q _ => ∃ (a : Addr) (p e g : Nat) (ms : List Nat), vs = [.ref a] ∧ SqL K H a [.str (fieldS (p :: ms))] ∧ FOK p (ms.map fun (n : Nat) => (n : Int)) e g ∧ (∀ n ∈ p :: ms, n < 1000) ∧ ms.length ≤ 100 ∧ TabG H Pt ∧ ∀ x H2, ExP Pt H H2 → Fld K C H2 x p (ms.map fun (n : Nat) => (n : Int)) (e + 1) g → Q (.ref x) H2
theorem ok_fldin {fa fI C Pt DI : Addr} {fd fdI : FuncData} (F : Fun K "_field_in" "_field_in" s_field_in fa fd) (T : FTxt mg) (TC : CTxt K mg C) (gI : mg "InvalidField" = some (.ref DI)) (MK : Mk K C fI) (FI : FnOk P w K mg base CX0 4 fI fdI ["self", "prime", "modulus"] (spInit K C Pt)) (bI2 : Binds K fdI ["self", "prime", "modulus"] []) (D_numbers_behind : Dk P w K mg base CX0 5 "_numbers_behind" ["head", "lines", "at"] (spNumB K)) : FnOk P w K mg base CX0 6 fa fd ["lines"] (spFldIn K C Pt) := by
  refine F.ok sc_field_in (fun vs H Q E h => ?_) (fun cdv A outer s H vs Q E hr h => ?_)
  · obtain ⟨_, _, _, _, _, rfl, _⟩ := h
    rfl
  obtain ⟨a, p, e, g, ms, rfl, hA, ok, hn, lm, gt, k⟩ := h
  refine ⟨_, (pss_cons (ps_set (i := 1) sc_field_in.nd rfl (Or.inl rfl) (pe_cd D_numbers_behind hr (by rfl) (pa_cons pe_str (pa_cons (pv 0) (pa_cons pe_int pa_nil)))))
    (pss_cons (ps_if (pt_not (pt_truth (pv 1) (by intro _; rfl)))
      (pss_one (ps_never))
      pss_nil)
    (pss_one (ps_try_clauses (tb := fun W => tRet (tMake C (spInit K C Pt) [] E0 (tCons (tOp (rIxL K) (tVar 1) (tC (.int 0))) (tCons (tCB (fun xs H Q => ∃ p ys, xs = [.ref p] ∧ ((SqL K H p ys ∧ ∀ l, H l = none → Q (.ref l) (upd H l (.tup ys))) ∨ (SqT K H p ys ∧ Q (.ref p) H))) (tCons (tSl (rSlL K) (tVar 1) (tPart (tC (.int 1))) tNoPart) tNil)) tNil)))) (l := [(.ref DI, none, fun x cls d => tNever)]) (Wout := fun _ _ _ _ => False) rfl rfl sc_field_in.nd takes0
        (fun W pn xe tk _ => pss_one (ps_ret (by exact pe_make MK FI hr rfl TC.mgC bI2 .nil pass0 (pa_cons (pe_ix ix_list (pv 1) pe_int (fun _ _ => rfl)) (pa_cons (pe_callTy call_tuple_of (by rfl) T.z_tuple (by decide +kernel) (pa_cons (pe_slice sl_list (pv 1) (po_some pe_int) po_none) pa_nil)) pa_nil)))))
        (.plain ⟨rfl, by decide, Or.inl gI⟩ (fun y oe cls d pn hz hf => pss_one L2.ps_never) .nil))))), ?_⟩
  refine q_asgL (xs := natV (p :: ms)) (el_call (vs := [.str (Str.ofString "field"), .ref a, .int 0]) (ea_cons ev_c (ea_cons (ev_var rfl) (ea_cons ev_c ea_nil))) fun H1 e1 Q q E => ⟨Str.ofString "field", a, p :: ms, rfl, ex_l e1 hA, by decide +kernel, by decide +kernel, hn, by rw [List.length_cons]; omega, q⟩) fun pn H1 npn e1 hpn => ?_
  walk_at "nm"
  refine q_when (b := false) (et_is (et_not (et_lstT (ev_var rfl) (sq_of hpn))) ?_) (fun q => Bool.noConfusion q) fun _ H2 e2 => ?_
  · rfl
  have g2 : TabG H2 Pt := TabG.ex gt (e1.trans e2)
  have hpn2 := e2 _ _ hpn
  show tMake C (spInit K C Pt) [] E0 _ _ H2 _
  refine k_makeW (p := p) (m := ms.map fun (n : Nat) => (n : Int)) (ev_op (ev_var rfl) ev_c (rv_ixL (sq_of hpn2) (atI_nat (j := 0) rfl))) (eu_isT (eu_tupLW (el_sl (ev_var rfl) (eo_some ev_c) eo_none (sq_of hpn2))) ?_) ok g2 _ fun x H3 e3 hx => k x H3 ((ExP.ofEx gt (e1.trans e2)).trans e3) hx
  show cutV (natV (p :: ms)) (some ((1 : Nat) : Int)) none = _
  rw [cut_from _ (i := 1) (by rw [natV_len, List.length_cons]; omega), List.map_map]
  rfl
/-! parse_field: 0 text, 1 lines, 2 field -/
abbrev s_parse_field : Stmt := topS 35
theorem sc_parse_field : FnScope ["text", "lines", "field"] ["text"] (defScope s_parse_field) := ⟨rfl, rfl, rfl, by decide +kernel, rfl, by decide +kernel, by decide +kernel⟩
def spPFld (K : PySem.W.Frag) (C Pt : Addr) : Sp := fun vs H Q _ => ∃ (p e g : Nat) (ms : List Nat), vs = [.str (fieldS (p :: ms))] ∧ FOK p (ms.map fun (n : Nat) => (n : Int)) e g ∧ (∀ n ∈ p :: ms, n < 1000) ∧ ms.length ≤ 100 ∧ TabG H Pt ∧ ∀ x H2, ExP Pt H H2 → Fld K C H2 x p (ms.map fun (n : Nat) => (n : Int)) (e + 1) g → Q (.ref x) H2
theorem ok_pfld {fa C Pt : Addr} {fd : FuncData} (F : Fun K "parse_field" "parse_field" s_parse_field fa fd) (T : FTxt mg) (D_field_in : Dk P w K mg base CX0 6 "_field_in" ["lines"] (spFldIn K C Pt)) : FnOk P w K mg base CX0 7 fa fd ["text"] (spPFld K C Pt) := by
  refine F.ok sc_parse_field (fun vs H Q E h => ?_) (fun cdv A outer s H vs Q E hr h => ?_)
  · obtain ⟨_, _, _, _, rfl, _⟩ := h
    rfl
  obtain ⟨p, e, g, ms, rfl, ok, hn, lm, gt, k⟩ := h
  refine ⟨_, (pss_cons (ps_set (i := 1) sc_parse_field.nd rfl (Or.inl rfl) (pe_split (pv 0) pe_str))
    (pss_cons (ps_set (i := 2) sc_parse_field.nd rfl (Or.inl rfl) (pe_cd D_field_in hr (by rfl) (pa_cons (pv 1) pa_nil)))
    (pss_cons (ps_if (pt_cmpR op_gt (pe_callB call_len_seq (by rfl) T.z_len PySem.boot_len (pa_cons (pv 1) pa_nil)) pe_int (nomark _))
      (pss_one (ps_never))
      pss_nil)
    (pss_one (ps_ret (pv 2)))))), ?_⟩
  have hpl : ∀ z ∈ Str.ofString "field" :: (p :: ms).map numS, z.length ≤ 100 := fun z hz => by
    rcases List.mem_cons.mp hz with rfl | hz
    · decide +kernel
    · obtain ⟨n, hn', rfl⟩ := List.mem_map.mp hz
      exact Nat.le_trans (numOK n (hn n hn')).2.1 (by decide)
  have hlen : (fieldS (p :: ms)).length + 2 ≤ 20000 := by
    have h1 := join_len _ 100 hpl
    have h3 : (Str.ofString "field" :: (p :: ms).map numS).length ≤ 102 := by rw [List.length_cons, List.length_map, List.length_cons]; omega
    have h4 : (Str.ofString "field" :: (p :: ms).map numS).length * (100 + 1) ≤ 102 * 101 := Nat.mul_le_mul_right _ h3
    unfold fieldS
    omega
  have hspl : Txt.split (fieldS (p :: ms)) (Str.ofString "\n") = [fieldS (p :: ms)] := split_one (s := 10) (by decide +kernel) (by decide +kernel) (join_tl_free (by decide) fun z hz => by
    rcases List.mem_cons.mp hz with rfl | hz
    · decide +kernel
    · obtain ⟨n, _, rfl⟩ := List.mem_map.mp hz
      exact num_free (.inl (by decide)))
  refine q_asgL (xs := [.str (fieldS (p :: ms))]) (el_is (el_split (ev_var rfl) ev_c (by decide +kernel) (Nat.le_trans hlen (by rw [PySem.sizeLine_eq]; decide))) (by rw [hspl]; rfl)) fun pl H1 npl e1 hpl1 => ?_
  walk_at "nm"
  refine q_asgC (vs := [.ref pl]) (ea_cons (ev_var rfl) ea_nil) fun H2 e2 => ⟨pl, p, e, g, ms, rfl, sq_of (e2 _ _ hpl1), ok, hn, lm, TabG.ex gt (e1.trans e2), fun x H3 e3 hx => ?_⟩
  have g2 : TabG H2 Pt := TabG.ex gt (e1.trans e2)
  have e3' := ExP.all g2 e3
  walk_at "nm"
  refine q_when (b := false) (et_is (et_test (ev_op (ev_len (ev_var rfl) (sq_of ((e2.trans e3') _ _ hpl1))) ev_c rv_I0)) (by rfl)) (fun q => Bool.noConfusion q) fun _ H4 e4 => ?_
  refine s_ret (ev_var rfl) fun H5 e5 => k x H5 ((ExP.ofEx gt (e1.trans e2)).trans (e3.trans (ExP.ofEx (TabG.ex g2 e3') (e4.trans e5)))) (hx.ex (e4.trans e5))
/-! parse_word: 0 field, 1 text, 2 items, 3 word, 4 item -/
abbrev s_parse_word : Stmt := topS 36
theorem sc_parse_word : FnScope ["field", "text", "items", "word", "item"] ["field", "text"] (defScope s_parse_word) := ⟨rfl, rfl, rfl, by decide +kernel, rfl, by decide +kernel, by decide +kernel⟩
def spPWrd (K : PySem.W.Frag) (C Pr : Addr) : Sp := fun vs H Q _ => ∃ (x : Addr) (f : FPar) (g : Nat) (xs : List (Option (Fe f))), vs = [.ref x, .str (wordS xs)] ∧ FXF K C H x f g ∧ 1 ≤ xs.length ∧ xs.length ≤ 255 ∧ TabE H Pr ∧ RetL (xs.map rv) H Q
theorem ok_pwrd {fa C Pr : Addr} {fd : FuncData} {tk : Tok} (F : Fun K "parse_word" "parse_word" s_parse_word fa fd) (T : FTxt mg) (hG : mg "GREATEST_LENGTH" = some (.int 255 tk)) (D_is_number : Dk P w K mg base CX0 2 "_is_number" ["text"] spIsNum) (D_is_received : Dk P w K mg base CX0 2 "is_received" ["field", "length", "received"] (spIsR K C Pr)) : FnOk P w K mg base CX0 3 fa fd ["field", "text"] (spPWrd K C Pr) := by
  refine F.ok sc_parse_word (fun vs H Q E h => ?_) (fun cdv A outer s H vs Q E hr h => ?_)
  · obtain ⟨_, _, _, _, rfl, _⟩ := h
    rfl
  obtain ⟨x, f, g, xs, rfl, hF, l1, l255, hT, k⟩ := h
  refine ⟨_, (pss_cons (ps_set (i := 2) sc_parse_word.nd rfl (Or.inl rfl) (pe_split (pv 1) pe_str))
    (pss_cons (ps_if (PW.pt (pw_or (pt_cmpR op_gt (pe_callB call_len_seq (by rfl) T.z_len PySem.boot_len (pa_cons (pv 2) pa_nil)) (pe_glob (v := .int 255) rfl hG ⟨_, rfl⟩) (nomark _)) (pw_or1 (pt_not (pt_val (pe_callB (cr_all rfl) (by rfl) T.z_all (by decide +kernel) (pa_cons (pe_lc (own := [("item", 4)]) (g := (gName 4)) (tt := tYes) (te := tOrV (tOp rEq (tVar 4) (tC (.str "?"))) (tCall spIsNum [] E0 (tCons (tVar 4) tNil))) rfl sc_parse_word.nd (pi_list (pv 2)) (blkOk_by (own := [("item", 4)]) (N := ["field", "text", "items", "word", "item"]) (sc := defScope s_parse_word) (by decide +kernel)) (fun _ _ _ _ _ => (pg_name (i := 4) sc_parse_word.nd rfl (Or.inl rfl))) (fun _ _ _ _ _ => pts_nil) (fun _ _ _ _ _ => pe_or (pe_cmpR op_eq (pv 4) pe_str (nomark _)) (by exact pe_one (pe_cd D_is_number hr (by rfl) (pa_cons (pv 4) pa_nil))))) pa_nil)))))))
      (pss_one (ps_never))
      pss_nil)
    (pss_cons (ps_setLc (i := 3) (own := [("item", 4)]) (g := (gName 4)) (tt := tYes) rfl sc_parse_word.nd rfl rfl (sw_true rfl rfl rfl (by decide +kernel)) (pi_list (pv 2)) (blkOk_by (own := [("item", 4)]) (N := ["field", "text", "items", "word", "item"]) (sc := defScope s_parse_word) (by decide +kernel)) (fun _ _ _ _ _ => (pg_name (i := 4) sc_parse_word.nd rfl (Or.inl rfl))) (fun _ _ _ _ _ => pts_nil) (fun _ _ _ _ _ => pe_ifExp (pt_cmpR op_eq (pv 4) pe_str (nomark _)) pe_non (pe_callTy call_int_str (by rfl) T.z_int (by decide +kernel) (pa_cons (pv 4) pa_nil))))
    (pss_cons (ps_if (pt_not (pt_val (pe_cd D_is_received hr (by rfl) (pa_cons (pv 0) (pa_cons (pe_callB call_len_seq (by rfl) T.z_len PySem.boot_len (pa_cons (pv 3) pa_nil)) (pa_cons (pv 3) pa_nil))))))
      (pss_one (ps_never))
      pss_nil)
    (pss_one (ps_ret (pv 3))))))), ?_⟩
  have hq := hF.q
  have hpl : ∀ p ∈ xs.map itemS, p.length ≤ 3 := fun p hp => by
    obtain ⟨o, _, rfl⟩ := List.mem_map.mp hp
    exact (item_len hq o).1
  have hlen : (wordS xs).length + 2 ≤ 2000 := by
    have h1 := join_len _ 3 hpl
    rw [List.length_map] at h1
    unfold wordS
    omega
  have hspl : Txt.split (wordS xs) sp1 = xs.map itemS := split_sp (fun z => by
    have := congrArg List.length z
    rw [List.length_map] at this
    simp at this
    rw [this] at l1
    cases l1) fun p hp => by
    obtain ⟨o, _, rfl⟩ := List.mem_map.mp hp
    exact (item_len hq o).2 32 (by decide)
  refine q_asgL (xs := (xs.map itemS).map V.str) (el_is (el_split (ev_var rfl) ev_c (by decide +kernel) (Nat.le_trans hlen (by rw [PySem.sizeLine_eq]; decide))) (by rw [show Str.ofString " " = sp1 from rfl, hspl])) fun p H1 np e1 hp => ?_
  walk_at "nm"
  have lxs : ((xs.map itemS).map V.str).length = xs.length := by rw [List.length_map, List.length_map]
  have got : ∀ {i : Nat} {y : V}, ((xs.map itemS).map V.str)[i]? = some y → i < xs.length ∧ y = .str (itemS (at0 xs i)) := fun {i y} hx => by
    rw [List.getElem?_map, List.getElem?_map] at hx
    cases hi : xs[i]? with
    | none => rw [hi] at hx; cases hx
    | some o =>
      rw [hi] at hx
      have hlt := (List.getElem?_eq_some_iff.mp hi).1
      refine ⟨hlt, ?_⟩
      unfold at0
      rw [List.getD_eq_getElem?_getD, hi]
      exact (Option.some.inj hx).symm
  have isq : ∀ o : Option (Fe f), decide (V.str (itemS o) = V.str (Str.ofString "?")) = decide (o = none) := fun o => by
    refine decide_eq_decide.mpr ⟨fun z => ?_, fun z => by rw [z]; rfl⟩
    cases o with
    | none => rfl
    | some v => exact absurd (V.str.inj z) (numOK _ (item_lt hq v).1).2.2.2.2
  refine q_when (b := false) (et_is (et_or (a := false) (b := false) (et_is (et_test (ev_op (ev_len (ev_var rfl) (sq_of hp)) ev_c rv_I0)) (decide_eq_false (by rw [lxs]; omega))) fun _ => et_is (et_not (et_B (ev_allL (bs := xs.map fun _ => true) (el_is (el_lcL (K := K) (a := p) (xs := (xs.map itemS).map V.str) (j := 4) (vs := [4]) (fun _ => true) (fun _ => .bl true) (ev_var rfl) (sq_of hp) (by rw [lxs]; omega) hw_one (fun _ _ _ _ _ => et_yes) (fun i y H3 e3 hx _ => ?_)) ?_)))) ?_) rfl) (fun q => Bool.noConfusion q) fun _ H2 e2 => ?_
  · obtain ⟨hi, rfl⟩ := got hx
    refine ev_is (ev_orV (a := decide (at0 xs i = none)) (b := true) (ev_is (ev_op (ev_var (at_one rfl)) ev_c (rv_eq rfl)) (congrArg V.bl (isq _))) fun hb => ?_) (by rw [Bool.or_true])
    cases ho : at0 xs i with
    | none => rw [ho] at hb; cases hb
    | some v =>
      exact ev_call (ea_cons (ev_var (at_one rfl)) ea_nil) (fun H1 e1 Q q E => ⟨v.1.toNat, rfl, (item_lt hq v).1, q⟩)
  · rw [lxs, given_allX, List.map_map]
    exact range_gd xs none (fun _ => V.bl true)
  · have : (xs.map fun _ => true).all id = true := List.all_eq_true.mpr fun b hb => by
      obtain ⟨_, _, rfl⟩ := List.mem_map.mp hb
      rfl
    rw [this]
    rfl
  have e12 := e1.trans e2
  refine q_asgL (xs := xs.map rv) (el_is (el_lcL (K := K) (a := p) (xs := (xs.map itemS).map V.str) (j := 4) (vs := [4]) (fun _ => true) (fun i => rv (at0 xs i)) (ev_var rfl) (sq_of (e2 _ _ hp)) (by rw [lxs]; omega) hw_one (fun _ _ _ _ _ => et_yes) (fun i y H3 e3 hx _ => ?_)) ?_) fun pw H3 npw e3 hpw => ?_
  · obtain ⟨hi, rfl⟩ := got hx
    refine ev_if (b := decide (at0 xs i = none)) (et_is (et_test (ev_op (ev_var (at_one rfl)) ev_c (rv_eq rfl))) (isq _)) (fun hb => ?_) (fun hb => ?_)
    · rw [of_decide_eq_true hb]
      exact ev_c
    · cases ho : at0 xs i with
      | none => rw [ho] at hb; cases hb
      | some v =>
        have := item_lt hq v
        refine ev_is (ev_cb (vs := [.str (numS v.1.toNat)]) (ea_cons (ev_var (at_one rfl)) ea_nil) (rc_intS this.1)) ?_
        rw [this.2]
        rfl
  · rw [lxs, given_allX]
    unfold at0
    exact range_gd xs none rv
  walk_at "nm"
  have e13 := e12.trans e3
  refine q_when (b := false) (et_is (et_not (et_B (ev_call (z := .bl true) (ea_cons (ev_var rfl) (ea_cons (ev_len (ev_var rfl) (sq_of hpw)) (ea_cons (ev_var rfl) ea_nil))) (fun H4 e4 Q q E => ⟨x, pw, f, g, _, xs.map rv, rfl, hF.ex (e13.trans e4), sq_of (e4 _ _ hpw), plain_rv xs, (e13.trans e4) _ _ hT, by
    rw [recv_fe, decide_eq_true rfl]
    exact q⟩)))) rfl) (fun q => Bool.noConfusion q) fun _ H4 e4 => ?_
  exact s_ret (ev_var rfl) fun H5 e5 => k pw H5 (fresh_back e12 npw) (e13.trans (e4.trans e5)) ((e4.trans e5) _ _ hpw)
end
end My
set_option Elab.async false
set_option linter.all false
set_option maxRecDepth 100000
set_option maxHeartbeats 2000000
namespace My
open PySem L2 Evl GxR MyG
local macro_rules | `(tactic| walk_at "ev") => `(tactic| repeat' (first
  | exact ev_c
  | exact ev_var rfl
  | exact ea_nil
  | exact eo_none
  | (refine' ev_cb ?ea (rc_len ?sq); (case ea => walk_at "evs"); (case sq => walk_at "sq"))
  | (refine' ev_op ?a ?b (rv_ixL ?sq ?ix); (case a => walk_at "evs"); (case b => walk_at "evs"); (case sq => walk_at "sq"); (case ix => walk_at "at"))
  | refine' ea_cons ?_ ?_
  | refine' eo_some ?_
  | refine' ev_op ?_ ?_ rv_I0
  | refine' ev_op ?_ ?_ (rv_eq ?_)
  | refine' ev_op ?_ ?_ (rv_ne ?_)
  | refine' ev_op ?_ ?_ (rv_I ?_)
  | refine' ev_un ?_ ru_neg
  | refine' ev_cb ?_ rc_int
  | refine' ev_cb ?_ rc_abs
  | refine' ev_cb ?_ rc_max2
  | refine' ev_andV ?_ ?_
  | refine' ev_notV ?_
  | refine' et_test ?_
  | refine' et_B ?_
  | refine' et_not ?_))
local macro_rules | `(tactic| walk_at "side") => `(tactic| first
  | rfl
  | decide
  | exact ⟨by decide, by decide⟩
  | exact .inr ⟨by decide, by decide⟩
  | exact .inl ⟨by decide, by decide⟩
  | omega
  | exact .inl ⟨by omega, by omega⟩
  | exact ⟨by omega, by omega⟩
  | exact .inr ⟨by omega, by omega⟩)
local macro_rules | `(tactic| walk_at "evs") => `(tactic| (walk_at "ev"; all_goals (walk_at "side")))
local macro_rules | `(tactic| walk_at "ex") => `(tactic| first
  | with_reducible exact Ex.refl _
  | with_reducible assumption
  | (refine' Ex.trans ?_ ?b; (case b => with_reducible assumption); walk_at "ex"))
local macro_rules | `(tactic| walk_at "sq") => `(tactic| first
  | (refine' sq_ex ?h ?e; (case h => with_reducible assumption); (case e => walk_at "ex"))
  | (refine' ex_l ?e ?h; (case h => with_reducible assumption); (case e => walk_at "ex"))
  | (refine' ex_l ?e ?h; (case h => assumption); (case e => walk_at "ex"))
  | assumption
  | exact sq_of (by assumption))
local macro_rules | `(tactic| walk_at "at") => `(tactic| first
  | exact at_int (by omega) (by omega)
  | exact atI_nat (j := 0) rfl
  | exact atI_nat (j := 1) rfl
  | exact atI_nat (j := 2) rfl)
local macro_rules | `(tactic| walk_at "side2") => `(tactic| first | exact CMul_bdl (by assumption) | exact CMul_bdr (by assumption) | walk_at "side")
local macro_rules | `(tactic| walk_at "evb") => `(tactic| (walk_at "ev"; all_goals (walk_at "side2")))

section
variable {P : Program} {w : World} {K : PySem.W.Frag} {mg : Str → Option Value} {base : Heap}
/-! _law_is_integer: 0 actual -/
abbrev s_law_is_integer : Stmt := topS 42
theorem sc_law_is_integer : FnScope ["actual"] ["actual"] (defScope s_law_is_integer) := ⟨rfl, rfl, rfl, by decide +kernel, rfl, by decide +kernel, by decide +kernel⟩
def spIsInt : Sp := fun vs H Q _ => ∃ i : Int, vs = [.int i] ∧ RetV (.bl true) H Q
theorem ok_isint {f : Addr} {fd : FuncData} (F : Fun K "_law_is_integer" "_law_is_integer" s_law_is_integer f fd) (T : FTxt mg) : FnOk P w K mg base CX0 1 f fd ["actual"] spIsInt := by
  refine F.ok sc_law_is_integer (fun vs H Q E h => ?_) (fun cdv A outer s H vs Q E hr h => ?_)
  · obtain ⟨i, rfl, _⟩ := h
    rfl
  obtain ⟨i, rfl, k⟩ := h
  refine ⟨_, (pss_one (ps_ret (pe_and (pe_callB call_isi (by rfl) T.z_isinstance (by decide +kernel) (pa_cons (pv 0) (pa_cons (pe_bltn (v := .ty "int") (by rfl) T.z_int (by decide +kernel) rfl) pa_nil))) (pe_one (pe_not (pe_callB call_isi (by rfl) T.z_isinstance (by decide +kernel) (pa_cons (pv 0) (pa_cons (pe_bltn (v := .ty "bool") (by rfl) T.z_bool (by decide +kernel) rfl) pa_nil)))))))), ?_⟩
  refine s_ret (ev_andV (a := true) (b := true) (ev_cb (ea_cons (ev_var rfl) (ea_cons ev_c ea_nil)) (rc_isiInt (by decide +kernel))) fun _ => ev_is (ev_notV (ev_cb (ea_cons (ev_var rfl) (ea_cons ev_c ea_nil)) (rc_isiInt (b := false) (by decide +kernel)))) rfl) fun H1 e1 => k H1 e1
end
end My
set_option linter.all false
set_option maxRecDepth 100000
set_option maxHeartbeats 4000000
namespace My
open PySem L2 Evl GxR MyG
/-! the numbers of a field, looked at by products as the law computes them -/
def pwT (p : Nat) (m : List Int) (d : Nat) (a : Int) : Nat → Int
  | 0 => 1
  | k + 1 => lawTimes (p : Int) m d (pwT p m d a k) a
def ordL (p : Nat) (m : List Int) (d : Nat) (a : Int) : Nat → Int → Nat
  | 0, _ => 0
  | f + 1, x => let y := lawTimes (p : Int) m d x a; if y = 1 then 1 else ordL p m d a f y + 1
def primL (p : Nat) (m : List Int) (e g : Nat) : Bool :=
  decide (1 ≤ g) && decide (g < p ^ (e + 1)) && (decide (2 ≤ g) || decide (p ^ (e + 1) = 2)) && (List.range (g + 1)).all fun a => decide (a < 2) || (let n := ordL p m (e + 1) (a : Int) (p ^ (e + 1)) 1; decide (pwT p m (e + 1) (a : Int) n = 1) && decide (1 ≤ n) && decide (n ≤ p ^ (e + 1) - 1) && (if a = g then decide (n = p ^ (e + 1) - 1) else decide (n < p ^ (e + 1) - 1)))
theorem pwT_eq {p : Nat} {m : List Int} {e : Nat} (hp : 2 ≤ p) (hm : m.length = e + 2) {a : Int} (ha : inF p e a) : ∀ k, pwT p m (e + 1) a k = pw (prodTab p m (sumTab p (e + 1))) a k
  | 0 => rfl
  | k + 1 => by
    show lawTimes (p : Int) m (e + 1) (pwT p m (e + 1) a k) a = _
    rw [pwT_eq hp hm ha k, law_times hp hm (fW_in hp hm ha k) ha]
    rfl
theorem ordL_eq {p : Nat} {m : List Int} {e : Nat} (hp : 2 ≤ p) (hm : m.length = e + 2) {a : Int} (ha : inF p e a) : ∀ (f : Nat) (x : Int), inF p e x → ordL p m (e + 1) a f x = ordF (prodTab p m (sumTab p (e + 1))) a f x
  | 0, _, _ => rfl
  | f + 1, x, hx => by
    show (if lawTimes (p : Int) m (e + 1) x a = 1 then 1 else ordL p m (e + 1) a f (lawTimes (p : Int) m (e + 1) x a) + 1) = if fP p m e x a = 1 then 1 else ordF _ a f (fP p m e x a) + 1
    rw [law_times hp hm hx ha, ordL_eq hp hm ha f _ (fP_in hp hm hx ha)]
theorem primL_ok {p : Nat} {m : List Int} {e g : Nat} (hp : 2 ≤ p) (hm : m.length = e + 2) (h : primL p m e g = true) : primB (prodTab p m (sumTab p (e + 1))) (p ^ (e + 1)) g = true := by
  unfold primL at h
  unfold primB
  rw [Bool.and_eq_true] at h ⊢
  refine ⟨h.1, ?_⟩
  have hg : g < p ^ (e + 1) := by
    have h1 := h.1
    rw [Bool.and_eq_true, Bool.and_eq_true] at h1
    exact of_decide_eq_true h1.1.2
  rw [List.all_eq_true] at h ⊢
  intro a ha
  have h2 := h.2 a ha
  have ha2 := List.mem_range.mp ha
  have hin : inF p e (a : Int) := ⟨by omega, by omega⟩
  have e1 := ordL_eq (m := m) hp hm hin (p ^ (e + 1)) 1 (in_one hp)
  dsimp only at h2 ⊢
  rw [← e1]
  rw [pwT_eq hp hm hin] at h2
  exact h2
def okL (p : Nat) (m : List Int) (e g : Nat) : Bool :=
  decide (2 ≤ p) && decide (p ≤ 31) && (List.range (p + 1)).all (fun c => decide (c < 2) || decide (c * c > p) || decide (p % c ≠ 0)) && decide (m.length = e + 2) && decide (e ≤ 7) && decide (p ^ (e + 1) ≤ 256) && decide (m.dropLast ++ [1] = m) && m.all (fun x => decide (0 ≤ x) && decide (x < (p : Int))) &&
  (List.range ((e + 1) / 2 + 1)).all (fun deg => decide (deg = 0) || (List.range (p ^ deg)).all fun (n : Nat) => (divRest (p : Int) (digs (p : Int) deg (n : Int) ++ [1]) m).any fun x => x != 0) && primL p m e g
theorem okL_ok {p : Nat} {m : List Int} {e g : Nat} (h : okL p m e g = true) : FOK p m e g := by
  unfold okL at h
  simp only [Bool.and_eq_true, decide_eq_true_iff, List.all_eq_true, List.mem_range, Bool.or_eq_true] at h
  obtain ⟨⟨⟨⟨⟨⟨⟨⟨⟨p2, p31⟩, hp⟩, hm⟩, he⟩, hq⟩, hl⟩, hx⟩, hi⟩, hg⟩ := h
  have hpr : PrimeP (p : Int) := by
    refine ⟨by omega, fun c c2 cc hz => ?_⟩
    obtain ⟨n, rfl⟩ : ∃ n : Nat, c = n := ⟨c.toNat, by omega⟩
    have hcc : n * n ≤ p := by
      have : ((n * n : Nat) : Int) ≤ (p : Int) := by rw [Int.natCast_mul]; exact cc
      omega
    have hnp : n ≤ p := Nat.le_trans (Nat.le_mul_self n) hcc
    rcases hp n (by omega) with (z | z) | z
    · omega
    · omega
    · refine z ?_
      have : ((p % n : Nat) : Int) = 0 := by rw [Int.natCast_emod]; exact hz
      omega
  refine ⟨⟨hpr, by omega, by omega, by omega, ?_, ⟨m.dropLast, hl.symm⟩, hx, ?_⟩, p2, hm, hq, ⟨_, primB_ok (primL_ok p2 hm hg)⟩⟩
  · rw [hm, show e + 2 - 1 = e + 1 by omega]
    have : ((p ^ (e + 1) : Nat) : Int) ≤ 256 := by omega
    rw [Int.natCast_pow] at this
    exact this
  · intro deg n d1 d2 hn
    have hd : deg < (e + 1) / 2 + 1 := by rw [hm] at d2; omega
    have hn2 : n < p ^ deg := by
      have : (n : Int) < ((p ^ deg : Nat) : Int) := by rw [Int.natCast_pow]; exact hn
      omega
    rcases hi deg hd with z | z
    · omega
    · exact z n hn2
theorem big1 : FOK 2 [1, 1, 0, 1, 0, 1, 0, 0, 1] 7 2 := okL_ok (by decide +kernel)
theorem big2 : FOK 2 [1, 1, 0, 1, 1, 0, 1] 5 2 := okL_ok (by decide +kernel)
theorem big3 : FOK 13 [2, 0, 1] 1 15 := okL_ok (by decide +kernel)
theorem big4 : FOK 3 [1, 2, 0, 0, 0, 1] 4 3 := okL_ok (by decide +kernel)
end My
set_option Elab.async false
set_option linter.all false
set_option maxRecDepth 100000
set_option maxHeartbeats 4000000
namespace My
open PySem L2 Evl GxR MyG
theorem flds_ok : ∀ f ∈ flds, ∃ (p e g : Nat), f.1 = (p : Int) ∧ FOK p f.2 e g := by
  intro f hf
  simp only [flds, List.cons_append, List.nil_append, List.mem_cons, List.not_mem_nil, or_false] at hf
  rcases hf with rfl | rfl | rfl | rfl | rfl | rfl | rfl | rfl | rfl | rfl | rfl | rfl
  · exact ⟨2, 0, 1, rfl, okL_ok (by decide +kernel)⟩
  · exact ⟨3, 0, 2, rfl, okL_ok (by decide +kernel)⟩
  · exact ⟨2, 1, 2, rfl, okL_ok (by decide +kernel)⟩
  · exact ⟨5, 0, 2, rfl, okL_ok (by decide +kernel)⟩
  · exact ⟨13, 0, 2, rfl, okL_ok (by decide +kernel)⟩
  · exact ⟨7, 0, 3, rfl, okL_ok (by decide +kernel)⟩
  · exact ⟨3, 1, 4, rfl, okL_ok (by decide +kernel)⟩
  · exact ⟨2, 2, 2, rfl, okL_ok (by decide +kernel)⟩
  · exact ⟨31, 0, 3, rfl, okL_ok (by decide +kernel)⟩
  · exact ⟨2, 7, 2, rfl, okL_ok (by decide +kernel)⟩
  · exact ⟨13, 0, 2, rfl, okL_ok (by decide +kernel)⟩
  · exact ⟨11, 1, 15, rfl, okL_ok (by decide +kernel)⟩
end My
set_option Elab.async false
set_option linter.all false
set_option maxRecDepth 100000
set_option maxHeartbeats 2000000
/-! the end of a law whose defs walk generator expressions over tables of which only this is said that they are tables (Gy) -/
namespace My
open PySem PySem.Spec PyProof.Rows L2 Evl GxR MyG
def updT (H : Hp) (Ps : List Addr) : Hp := fun b => if b ∈ Ps then some (tabO b) else H b
theorem updT_in {H : Hp} {Ps : List Addr} {b : Addr} (h : b ∈ Ps) : updT H Ps b = some (tabO b) := if_pos h
theorem updT_out {H : Hp} {Ps : List Addr} {b : Addr} (h : b ∉ Ps) : updT H Ps b = H b := if_neg h
def fieldsAt (h : Heap) (b : Addr) : Array Value := match h.get? b with
  | some o => match o.data with
    | .fields ps => ps
    | _ => #[]
  | none => #[]
theorem fieldsAt_of {h : Heap} {b : Addr} {ps : Array Value} (e : h.get? b = some { cls := .none, data := .fields ps }) : fieldsAt h b = ps := by
  unfold fieldsAt
  rw [e]
/-- a promise over tables: as they stand ahead of the law (empty), as things within it -/
def spTabs (Ps : List Addr) (sp : Sp) : Sp := fun vs H Q _ => (∀ p ∈ Ps, H p = some (.tbl #[])) ∧ sp vs (updT H Ps) (fun v H' => (∀ p ∈ Ps, H' p = some (tabO p)) ∧ ∀ H'', Q v H'') fun _ _ _ => False
theorem FnOk.tabs {P : Program} {w : World} {K : PySem.W.Frag} {mg : Str → Option Value} {base : Heap} {k : Nat} {f : Addr} {fd : FuncData} {ps : List Str} {sp : Sp} {Ps : List Addr} (F : FnOk P w K mg base CX0 k f fd ps sp) : FnOk P w K mg base CX0 k f fd ps (spTabs Ps sp) := by
  refine ⟨fun vs H Q E h => F.len _ _ _ _ h.2, fun A outer s H args us vs Q E hr e0 hb hv h => ?_⟩
  obtain ⟨hT, hsp⟩ := h
  have nN : ∀ b, H b = none → b ∉ Ps := fun b n m => by
    rw [hT b m] at n
    cases n
  have nU : ∀ b o, H b = some o → (∀ q, o ≠ .tbl q) → b ∉ Ps := fun b o e ne m => by
    rw [hT b m] at e
    cases e
    exact ne _ rfl
  have e1 : Env0 P w K mg base A outer s (updT H Ps) := by
    refine ⟨e0.frames, e0.mod, fun b o e => ⟨(e0.bs b o e).1, ?_⟩, e0.bsz, e0.funs, fun b hb' => ?_, fun a o e => ?_, e0.bare⟩
    · rw [updT_out (nN b (e0.bs b o e).2)]
      exact (e0.bs b o e).2
    · rw [updT_out (nN b (e0.frf b hb'))]
      exact e0.frf b hb'
    · by_cases ha : a ∈ Ps
      · rw [updT_in ha] at e
        cases e
        exact tabO_ok (e0.hok a _ (hT a ha)) (by simp [TriplesOk])
      · rw [updT_out ha] at e
        refine (e0.hok a o e).stay (fun b u _ q => q) (fun b q => ?_) fun b xs q => ?_
        · rw [updT_out (nU b _ q fun _ z => by cases z)]
          exact q
        · rw [updT_out (nU b _ q fun _ z => by cases z)]
          exact q
  refine codeAny_mono (F.run A outer s _ args us vs _ _ hr e1 hb hv hsp) fun r s' z => ?_
  cases r with
  | error e => exact False.elim z
  | ok fl =>
    cases fl with
    | next => exact False.elim z
    | brk => exact False.elim z
    | cont => exact False.elim z
    | ret u =>
      obtain ⟨v, H', os, bare, un, hok, r, hT', q⟩ := z
      have got : ∀ p ∈ Ps, s'.heap.get? p = some { cls := .none, data := .fields (fieldsAt s'.heap p) } := fun p hp => by
        obtain ⟨⟨qs, e, _⟩, _⟩ := hok p _ (hT' p hp)
        rw [fieldsAt_of e]
        exact e
      have nO : ∀ b o, H' b = some o → (∀ φ, o ≠ .ext φ) → b ∉ Ps := fun b o e ne m => by
        rw [hT' b m] at e
        cases e
        exact ne _ rfl
      refine ⟨v, fun b => if b ∈ Ps then some (.tbl (fieldsAt s'.heap b)) else H' b, os, bare, ?_, ?_, r, q _⟩
      · refine ⟨fun b o e n hf hx => un.keep b o e (by rw [updT_out (nN b n)]; exact n) hf hx, fun b o e n hf hx => un.slot b o e (by rw [updT_out (nN b n)]; exact n) hf hx, fun b o e n hx => ?_, un.there, fun b xs e => ?_, fun b o u e => ?_, fun b qs e => ?_⟩
        · show (if b ∈ Ps then _ else H' b) = none
          rw [if_neg (nN b n)]
          exact un.free b o e (by rw [updT_out (nN b n)]; exact n) hx
        · have nb := nU b _ e fun _ z => by cases z
          show (if b ∈ Ps then _ else H' b) = _
          rw [if_neg nb]
          exact un.tups b xs (by rw [updT_out nb]; exact e)
        · have nb := nU b _ e fun _ z => by cases z
          show (if b ∈ Ps then _ else H' b) = _
          rw [if_neg nb]
          exact un.frzs b o u (by rw [updT_out nb]; exact e)
        · show ∃ more, (if b ∈ Ps then _ else H' b) = _
          by_cases hb' : b ∈ Ps
          · rw [hT b hb'] at e
            cases e
            exact ⟨fieldsAt s'.heap b, by rw [if_pos hb', Array.empty_append]⟩
          · rw [if_neg hb']
            exact un.tbls b qs (by rw [updT_out hb']; exact e)
      · intro a o e
        have e' : (if a ∈ Ps then some (HO.tbl (fieldsAt s'.heap a)) else H' a) = some o := e
        by_cases ha : a ∈ Ps
        · rw [if_pos ha] at e'
          cases e'
          exact got a ha
        · rw [if_neg ha] at e'
          refine (hok a o e').stay (fun b u _ q => q) (fun b q => ?_) fun b xs q => ?_
          · show (if b ∈ Ps then _ else H' b) = _
            rw [if_neg (nO b _ q fun _ z => by cases z)]
            exact q
          · show (if b ∈ Ps then _ else H' b) = _
            rw [if_neg (nO b _ q fun _ z => by cases z)]
            exact q
theorem all1 {α : Type} {Q : α → Prop} {a : α} (h : Q a) : ∀ p ∈ [a], Q p := fun p hp => by rw [List.mem_singleton.mp hp]; exact h
theorem allc {α : Type} {Q : α → Prop} {a : α} {l : List α} (h : Q a) (t : ∀ p ∈ l, Q p) : ∀ p ∈ a :: l, Q p := fun p hp => by
  rcases List.mem_cons.mp hp with e | e
  · rw [e]; exact h
  · exact t p e
section
variable {mg : Str → Option Value} {A : FuncData → Prop} {B1 B2 : Heap → Prop} {G : FuncData → Heap → Prop} {x1 x2 x3 x4 : Str} {c1 P1 c2 P2 c3 P3 c4 P4 : Addr}
theorem tb_of1 (h : ∃ fd, A fd ∧ ∀ base, B1 base → B2 base → TabB base mg c1 P1 → G fd base) : ∃ fd, A fd ∧ ∀ base, B1 base → B2 base → (∀ p ∈ [(x1, c1, P1)], TabB base mg p.2.1 p.2.2) → G fd base := by
  obtain ⟨fd, a, f⟩ := h
  exact ⟨fd, a, fun base h1 h2 h3 => f base h1 h2 (h3 _ List.mem_cons_self)⟩
theorem tb_of2 (h : ∃ fd, A fd ∧ ∀ base, B1 base → B2 base → TabB base mg c1 P1 → TabB base mg c2 P2 → G fd base) : ∃ fd, A fd ∧ ∀ base, B1 base → B2 base → (∀ p ∈ [(x1, c1, P1), (x2, c2, P2)], TabB base mg p.2.1 p.2.2) → G fd base := by
  obtain ⟨fd, a, f⟩ := h
  exact ⟨fd, a, fun base h1 h2 h3 => f base h1 h2 (h3 (x1, c1, P1) (by simp)) (h3 (x2, c2, P2) (by simp))⟩
theorem tb_of3 (h : ∃ fd, A fd ∧ ∀ base, B1 base → B2 base → TabB base mg c1 P1 → TabB base mg c2 P2 → TabB base mg c3 P3 → G fd base) : ∃ fd, A fd ∧ ∀ base, B1 base → B2 base → (∀ p ∈ [(x1, c1, P1), (x2, c2, P2), (x3, c3, P3)], TabB base mg p.2.1 p.2.2) → G fd base := by
  obtain ⟨fd, a, f⟩ := h
  exact ⟨fd, a, fun base h1 h2 h3 => f base h1 h2 (h3 (x1, c1, P1) (by simp)) (h3 (x2, c2, P2) (by simp)) (h3 (x3, c3, P3) (by simp))⟩
theorem tb_of4 (h : ∃ fd, A fd ∧ ∀ base, B1 base → B2 base → TabB base mg c1 P1 → TabB base mg c2 P2 → TabB base mg c3 P3 → TabB base mg c4 P4 → G fd base) : ∃ fd, A fd ∧ ∀ base, B1 base → B2 base → (∀ p ∈ [(x1, c1, P1), (x2, c2, P2), (x3, c3, P3), (x4, c4, P4)], TabB base mg p.2.1 p.2.2) → G fd base := by
  obtain ⟨fd, a, f⟩ := h
  exact ⟨fd, a, fun base h1 h2 h3 => f base h1 h2 (h3 (x1, c1, P1) (by simp)) (h3 (x2, c2, P2) (by simp)) (h3 (x3, c3, P3) (by simp)) (h3 (x4, c4, P4) (by simp))⟩
end
/-- what a law promises: the script is a list of ints, the tables are there -/
def spLawT (K : PySem.W.Frag) (Ps : List Addr) : Sp := fun vs H Q _ => ∃ (a : Addr) (ns : List Int), vs = [.ref a] ∧ SqL K H a (ns.map V.int) ∧ (∀ p ∈ Ps, TabE H p) ∧ ∀ H', Ex H H' → Q (.bl true) H'
theorem walk_tabs {l : PySem.W.OpenLaw} {n k : Nat} {q : Program} {loose : List Str} {XP : (Str → Option Value) → Heap → Prop} {YP : World → Heap → Prop} {d : DefRec} {K : Params → PySem.W.Frag} {x : Str} {cs : List (Str × Addr × Addr)}
    (hn : l.most = some n) (hn2 : n ≤ sizeLine) (hdf : d.params.defaults = []) (hr : Room k callerA) (hY : ∀ (w : World) (h : Heap), YP w h → (K w.params).In h)
    (hf : ∀ p ∈ cs, ((recsOf q).find? fun e => e.name == p.1).isSome = true) (ht : ∀ w : World, ∀ p ∈ cs, PySem.W.tabIn (K w.params) p.1 = some p.2) (hP : ∀ w : World, ∀ p ∈ cs, (K w.params).lookup p.2.2 = none)
    (F : ∀ (w : World) (mg : Str → Option Value) (fa : Addr) (h : Heap), (K w.params).In h → h.Ns mainGlobals mg → mg d.name = some (.ref fa) →
      ∃ fd : FuncData, (∀ (s : Shared) (u : Value), BindsTo s fd ⟨[u], []⟩ [(x, u)]) ∧ ∀ base : Heap, (K w.params).In base → base.Ns mainGlobals mg → (∀ p ∈ cs, TabB base mg p.2.1 p.2.2) → FnOk l.prog w (K w.params) mg base CX0 k fa fd [x] (spLawT (K w.params) (cs.map (·.2.2)))) :
    PySem.W.WalkO q loose XP YP l.row.toRowW d [] (fun f vs => PySem.call f vs) := by
  refine Att.attach_callB hn hdf fun w s₀ s₁ mg mb fa o pm cd doc a vs ns G Y ho hd hcd hmg hobj hints hlen hbits hg => ?_
  have KX := hY w _ Y
  obtain ⟨fd, hb, hF⟩ := F w mg fa _ KX G.T.g hmg
  have fact : ∀ p ∈ cs, PySem.W.CodeHd s₁.heap p.2.1 p.2.2 ∧ s₁.heap.get? p.2.2 = some { cls := .none, data := .fields #[] } := fun p hp => by
    obtain ⟨dy, hdy⟩ := Option.isSome_iff_exists.mp (hf p hp)
    exact PySem.W.tab_of G.T KX hdy (ht w p hp)
  have inC : ∀ {m : Addr × Addr}, m ∈ cs.map (·.2) → ∃ p ∈ cs, p.2 = m := fun h => List.mem_map.mp h
  refine LamX.law_callTs (cs := cs.map (·.2)) (sp := spTabs (cs.map (·.2.2)) (spLawT (K w.params) (cs.map (·.2.2)))) KX G.T.g G.T.b G.T.builtins G.T.nolimit hg (fun m hm => ?_) (fun m hm => ?_) (fun m hm => ?_) G.T.bmain hobj hints (Nat.le_trans hlen hn2) hr (fun base h1 h2 h3 => FnOk.tabs (hF base h1 h2 fun p hp => ?_)) hb (fun H hH hS => ?_) fun H e s' h => h
  · obtain ⟨p, hp, rfl⟩ := inC hm
    exact (fact p hp).2
  · obtain ⟨p, hp, rfl⟩ := inC hm
    exact hP w p hp
  · obtain ⟨p, hp, rfl⟩ := inC hm
    exact (fact p hp).1
  · have := h3 p.2 (List.mem_map.mpr ⟨p, hp, rfl⟩)
    exact ⟨this.1, this.2, this.3⟩
  · have isT : ∀ b ∈ cs.map (·.2.2), H b = some (.tbl #[]) := fun b hb' => by
      obtain ⟨p, hp, rfl⟩ := List.mem_map.mp hb'
      exact hH p.2 (List.mem_map.mpr ⟨p, hp, rfl⟩)
    have rd : ∀ {b : Addr} {u : HO}, Rd H b u → (∀ z, u ≠ .tbl z) → Rd (updT H (cs.map (·.2.2))) b u := fun {b u} r nu => by
      have nb : b ∉ cs.map (·.2.2) := fun m => by
        rcases r with r | ⟨o, r⟩
        · rw [isT b m] at r
          cases r
          exact nu _ rfl
        · rw [isT b m] at r
          cases r
      rcases r with r | ⟨o, r⟩
      · exact .inl (by rw [updT_out nb]; exact r)
      · exact .inr ⟨o, by rw [updT_out nb]; exact r⟩
    refine ⟨isT, a, ns, rfl, ?_, fun p hp => updT_in hp, fun H' e => ⟨fun p hp => e _ _ (updT_in hp), fun _ => rfl⟩⟩
    rcases hS with r | r
    · exact .inl (rd r fun _ z => by cases z)
    · exact .inr r
end My
set_option Elab.async false
set_option linter.all false
set_option maxRecDepth 100000
set_option maxHeartbeats 400000
/-! k74: the law -/
namespace My
open PySem L2 L2H Evl GxR MyG MyS TL StX
local macro_rules | `(tactic| walk_at "ev") => `(tactic| repeat' (first
  | exact ev_c
  | exact ev_var rfl
  | exact ea_nil
  | exact eo_none
  | (refine' ev_cb ?ea (rc_len ?sq); (case ea => walk_at "evs"); (case sq => walk_at "sq"))
  | (refine' ev_op ?a ?b (rv_ixL ?sq ?ix); (case a => walk_at "evs"); (case b => walk_at "evs"); (case sq => walk_at "sq"); (case ix => walk_at "at"))
  | refine' ea_cons ?_ ?_
  | refine' eo_some ?_
  | refine' ev_op ?_ ?_ rv_I0
  | refine' ev_op ?_ ?_ (rv_eq ?_)
  | refine' ev_op ?_ ?_ (rv_ne ?_)
  | refine' ev_op ?_ ?_ (rv_I ?_)
  | refine' ev_un ?_ ru_neg
  | refine' ev_cb ?_ rc_int
  | refine' ev_cb ?_ rc_abs
  | refine' ev_cb ?_ rc_max2
  | refine' ev_andV ?_ ?_
  | refine' ev_notV ?_
  | refine' et_test ?_
  | refine' et_B ?_
  | refine' et_not ?_))
local macro_rules | `(tactic| walk_at "side") => `(tactic| first
  | rfl
  | decide
  | exact ⟨by decide, by decide⟩
  | exact .inr ⟨by decide, by decide⟩
  | exact .inl ⟨by decide, by decide⟩
  | omega
  | exact .inl ⟨by omega, by omega⟩
  | exact ⟨by omega, by omega⟩
  | exact .inr ⟨by omega, by omega⟩)
local macro_rules | `(tactic| walk_at "evs") => `(tactic| (walk_at "ev"; all_goals (walk_at "side")))
local macro_rules | `(tactic| walk_at "ex") => `(tactic| first
  | with_reducible exact Ex.refl _
  | with_reducible assumption
  | (refine' Ex.trans ?_ ?b; (case b => with_reducible assumption); walk_at "ex"))
local macro_rules | `(tactic| walk_at "sq") => `(tactic| first
  | (refine' sq_ex ?h ?e; (case h => with_reducible assumption); (case e => walk_at "ex"))
  | (refine' ex_l ?e ?h; (case h => with_reducible assumption); (case e => walk_at "ex"))
  | (refine' ex_l ?e ?h; (case h => assumption); (case e => walk_at "ex"))
  | assumption
  | exact sq_of (by assumption))
local macro_rules | `(tactic| walk_at "at") => `(tactic| first
  | exact at_int (by omega) (by omega)
  | exact atI_nat (j := 0) rfl
  | exact atI_nat (j := 1) rfl
  | exact atI_nat (j := 2) rfl)
local macro_rules | `(tactic| walk_at "side2") => `(tactic| first | exact CMul_bdl (by assumption) | exact CMul_bdr (by assumption) | walk_at "side")
local macro_rules | `(tactic| walk_at "evb") => `(tactic| (walk_at "ev"; all_goals (walk_at "side2")))

local macro_rules | `(tactic| walk_at "fl") => `(tactic| (unfold FsOf; repeat (first | rw [lookup_putF, if_pos rfl] | rw [lookup_putF, if_neg (by decide +kernel)])))
local macro_rules | `(tactic| walk_at "nm") => `(tactic| (try simp only [List.set_cons_zero, List.set_cons_succ]))
def optP : Option Int → PyData
  | none => .none
  | some i => .int i
section
variable {f : FPar}
/-- a received word as data -/
def recP (xs : List (Option (Fe f))) : PyData := .list (xs.map fun o => optP (o.map (·.1)))
theorem optP_lay (o : Option Int) : (optP o).canLay0 = true ∧ (optP o).depth = 0 := by cases o <;> simp [optP, PyData.canLay0, PyData.depth]
theorem recP_lay : ∀ xs : List (Option (Fe f)), PyData.canLayAll0 (xs.map fun o => optP (o.map (·.1))) = true ∧ PyData.depthAll (xs.map fun o => optP (o.map (·.1))) = 0
  | [] => by simp [PyData.canLayAll0, PyData.depthAll]
  | x :: xs => by
    have h1 := recP_lay xs
    have h2 := optP_lay (x.map (·.1))
    simp only [List.map_cons, PyData.canLayAll0, PyData.depthAll, h1.1, h1.2, h2.1, h2.2]
    exact ⟨rfl, rfl⟩
theorem recP_shaped (xs : List (Option (Fe f))) : SeqAt.shaped (recP xs) = true := by
  have h := recP_lay xs
  show ((recP xs).canLay0 && decide ((recP xs).depth ≤ 64)) = true
  rw [Bool.and_eq_true]
  refine ⟨?_, decide_eq_true ?_⟩
  · simp only [recP, PyData.canLay0]
    exact h.1
  · simp only [recP, PyData.depth]
    omega
theorem recP_eqv (xs : List (Option (Fe f))) : PyData.eqv (recP xs) (recP xs) = true := by
  have h : ∀ ys : List (Option (Fe f)), PyData.eqvAll (ys.map fun o => optP (o.map (·.1))) (ys.map fun o => optP (o.map (·.1))) = true := by
    intro ys
    induction ys with
    | nil => simp [PyData.eqvAll]
    | cons y ys ih =>
      simp only [List.map_cons, PyData.eqvAll, ih, Bool.and_true]
      cases y <;> simp [optP, PyData.eqv]
  simp only [recP, PyData.eqv]
  exact h xs
variable {K : PySem.W.Frag} {H : Hp}
theorem dp_recAll : ∀ xs : List (Option (Fe f)), DpAll K H (xs.map rv) (xs.map fun o => optP (o.map (·.1)))
  | [] => .nil
  | none :: xs => .cons .non (dp_recAll xs)
  | some a :: xs => .cons (.int a.1) (dp_recAll xs)
theorem dp_rec {a : Addr} {xs : List (Option (Fe f))} (h : SqL K H a (xs.map rv)) : Dp K H (.ref a) (recP xs) := .lst h (dp_recAll xs)
theorem rv_neS {x y : V} {d : PyData} (hx : ∀ H1, Ex H H1 → Dp K H1 x d) (hy : ∀ H1, Ex H H1 → Dp K H1 y d) (sd : SeqAt.shaped d = true) (e : PyData.eqv d d = true) : RV (rNeD K) x y H (.bl false) := fun H1 e1 Q q => ⟨d, d, hx H1 e1, hy H1 e1, sd, sd, by rw [e]; exact q H1 (Ex.refl _)⟩
end

theorem fld74 : ∀ f ∈ flds, ∃ (p e g : Nat) (ms : List Nat), f.1 = (p : Int) ∧ f.2 = (ms.map fun (n : Nat) => (n : Int)) ∧ FOK p (ms.map fun (n : Nat) => (n : Int)) e g ∧ (∀ n ∈ p :: ms, n < 1000) ∧ ms.length ≤ 100 := by
  intro f hf
  obtain ⟨p, e, g, h1, h2⟩ := flds_ok f hf
  have h3 : (∀ z ∈ f.2, 0 ≤ z ∧ z < 1000) ∧ f.2.length ≤ 100 ∧ f.1 < 1000 := by
    simp only [flds, List.cons_append, List.nil_append, List.mem_cons, List.not_mem_nil, or_false] at hf
    rcases hf with rfl | rfl | rfl | rfl | rfl | rfl | rfl | rfl | rfl | rfl | rfl | rfl <;> exact ⟨by decide, by decide, by decide⟩
  have h4 : f.2 = ((f.2.map Int.toNat).map fun (n : Nat) => (n : Int)) := by
    rw [List.map_map]
    refine (List.map_id' f.2).symm.trans (List.map_congr_left fun z hz => ?_)
    exact (Int.toNat_of_nonneg (h3.1 z hz).1).symm
  refine ⟨p, e, g, f.2.map Int.toNat, h1, h4, by rw [← h4]; exact h2, fun n hn => ?_, by rw [List.length_map]; exact h3.2.1⟩
  rcases List.mem_cons.mp hn with rfl | hn
  · have := h3.2.2
    omega
  · obtain ⟨z, hz, rfl⟩ := List.mem_map.mp hn
    have := h3.1 z hz
    omega
section
variable {K : PySem.W.Frag} {σ : L2.St} {H : Hp} {te to : TE} {ta : TA} {D : Ends} {tz : TS}
theorem q_mkF {C : Addr} {sp : Sp} {i : Nat} (h : tMake C sp [] E0 ta σ H fun v H1 => tz D (σ.set i (some v)) H1) : tSeq (tAsg (tMake C sp [] E0 ta) (gName i)) tz D σ H := h
end
section
variable {P : Program} {w : World} {K : PySem.W.Frag} {mg : Str → Option Value} {base : Heap}
/-! _law_order: 0 pair, 1 order, 2 k -/
abbrev s_law_order : Stmt := topS 41
theorem sc_law_order : FnScope ["pair", "order", "k"] ["pair"] (defScope s_law_order) := ⟨rfl, rfl, rfl, by decide +kernel, rfl, by decide +kernel, by decide +kernel⟩
def spOrd74 : Sp := fun vs H Q _ => ∃ (t c : Addr) (p e : Nat) (m : List Int), vs = [.ref t] ∧ H t = some (.tup [.int (p : Int), .ref c]) ∧ H c = some (.tup (m.map V.int)) ∧ m.length = e + 2 ∧ p ≤ 1000 ∧ e ≤ 100 ∧ RetV (.int ((p ^ (e + 1) : Nat) : Int)) H Q
theorem ok_ord74 {fa : Addr} {fd : FuncData} (F : Fun K "_law_order" "_law_order" s_law_order fa fd) (T : FTxt mg) : FnOk P w K mg base CX0 1 fa fd ["pair"] spOrd74 := by
  refine F.ok sc_law_order (fun vs H Q E h => ?_) (fun cdv A outer s H vs Q E hr h => ?_)
  · obtain ⟨_, _, _, _, _, rfl, _⟩ := h
    rfl
  obtain ⟨t, c, p, e, m, rfl, ht, hc, lm, hp, he, k⟩ := h
  refine ⟨_, (pss_cons (ps_set (i := 1) sc_law_order.nd rfl (Or.inl rfl) pe_int)
    (pss_cons (ps_for PassesOwn.never rfl (pi_range1 (by rfl) T.z_range (pa_cons (pe_op op_sub (pe_callB call_len_seq (by rfl) T.z_len PySem.boot_len (pa_cons (pe_ix ix_tup (pv 0) pe_int (fun _ _ => rfl)) pa_nil)) pe_int) pa_nil)) (pg_name (i := 2) sc_law_order.nd rfl (Or.inl rfl))
      (pss_one (ps_set (i := 1) sc_law_order.nd rfl (Or.inl rfl) (pe_op op_mul (pv 1) (pe_ix ix_tup (pv 0) pe_int (fun _ _ => rfl))))))
    (pss_one (ps_ret (pv 1))))), ?_⟩
  refine q_asg ev_c fun H1 e1 => ?_
  walk_at "nm"
  refine q_forR1 (n := ((e + 1 : Nat) : Int)) (ea_cons (ev_is (ev_op (ev_cb (ea_cons (ev_op (ev_var rfl) ev_c (rv_ixT (st_of (e1 _ _ ht)) (atI_nat (j := 1) rfl))) ea_nil) (rc_lenT (st_of (e1 _ _ hc)))) ev_c rv_I0) (congrArg V.int (by rw [List.length_map]; omega))) ea_nil) (by omega) (fun i σ' H' => ∃ y2 : Option V, σ' = [some (.ref t), some (.int ((p ^ i : Nat) : Int)), y2] ∧ Ex H H') ?_ ?_ ?_
  · intro H2 e2
    exact ⟨none, rfl, e1.trans e2⟩
  · rintro i σ' H2 hi ⟨y2, rfl, e2⟩
    walk_at "nm"
    refine s_asg (ev_is (ev_op (ev_var rfl) (ev_op (ev_var rfl) ev_c (rv_ixT (st_of (e2 _ _ ht)) (atI_nat (j := 0) rfl))) (rv_I (.inr ⟨by omega, by omega⟩))) (congrArg V.int (show ((p ^ i : Nat) : Int) * (p : Int) = ((p ^ (i + 1) : Nat) : Int) by rw [Nat.pow_succ, Int.natCast_mul]))) fun H3 e3 => ?_
    walk_at "nm"
    exact ⟨_, rfl, e2.trans e3⟩
  · rintro σ' H2 ⟨y2, rfl, e2⟩
    exact s_ret (ev_var rfl) fun H3 e3 => k H3 (e2.trans e3)
theorem at_n74 {l : List Int} {j : Nat} (h : j < l.length) : atI (l.map V.int) (j : Int) = some (.int (l.getD j 0)) := by
  have q := at_int (ns := l) (z := (j : Int)) (by omega) (by omega)
  rwa [show ((j : Int)).toNat = j by omega] at q
/-! law: 0 script, 1 numbers, 2 pair, 3 order, 4 field, 5 line, 6 coefficient, 7 again, 8 size, 9 word, 10 k, 11 item, 12 given, 13 text, 14 due, 15 told -/
abbrev s_law : Stmt := topS 43
theorem sc_law : FnScope ["script", "numbers", "pair", "order", "field", "line", "coefficient", "again", "size", "word", "k", "item", "given", "text", "due", "told"] ["script"] (defScope s_law) := ⟨rfl, rfl, rfl, by decide +kernel, rfl, by decide +kernel, by decide +kernel⟩
theorem ok_law {fa fI C Pt Pr : Addr} {fd fdI : FuncData} (F : Fun K "law" "law" s_law fa fd) (T : FTxt mg) (zS : mg "str" = none) (TC : CTxt K mg C) (MK : Mk K C fI) (FI : FnOk P w K mg base CX0 6 fI fdI ["self", "prime", "modulus"] (spInit K C Pt)) (bI2 : Binds K fdI ["self", "prime", "modulus"] [])
    (D_law_numbers : Dk P w K mg base CX0 7 "_law_numbers" ["script", "many"] (spNumbers K)) (D_law_field : Dk P w K mg base CX0 7 "_law_field" ["number"] spLFld) (D_law_order : Dk P w K mg base CX0 7 "_law_order" ["pair"] spOrd74) (D_format_field : Dk P w K mg base CX0 7 "format_field" ["field"] (spFmtF K C)) (D_parse_field : Dk P w K mg base CX0 7 "parse_field" ["text"] (spPFld K C Pt)) (M_same_as : Md P w K mg base CX0 7 C "same_as" ["self", "other"] (spMSame K C)) (D_format_word : Dk P w K mg base CX0 7 "format_word" ["word"] (spFmtW K)) (D_parse_word : Dk P w K mg base CX0 7 "parse_word" ["field", "text"] (spPWrd K C Pr)) (D_law_is_integer : Dk P w K mg base CX0 7 "_law_is_integer" ["actual"] spIsInt) :
    FnOk P w K mg base CX0 8 fa fd ["script"] (spLawT K [Pt, Pr]) := by
  refine F.ok sc_law (fun vs H Q E h => ?_) (fun cdv A outer s H vs Q E hr h => ?_)
  · obtain ⟨_, _, rfl, _⟩ := h
    rfl
  obtain ⟨a, cs, rfl, hS, gt0, k⟩ := h
  have gt : TabG H Pt := gt0 Pt List.mem_cons_self
  have gr : TabE H Pr := gt0 Pr (by simp)
  clear gt0
  refine ⟨_, (pss_cons (ps_set (i := 1) sc_law.nd rfl (Or.inl rfl) (pe_cd D_law_numbers hr (by rfl) (pa_cons (pv 0) (pa_cons pe_int pa_nil))))
    (pss_cons (ps_set (i := 2) sc_law.nd rfl (Or.inl rfl) (pe_cd D_law_field hr (by rfl) (pa_cons (pe_ix ix_list (pv 1) pe_int (fun _ _ => rfl)) pa_nil)))
    (pss_cons (ps_set (i := 3) sc_law.nd rfl (Or.inl rfl) (pe_cd D_law_order hr (by rfl) (pa_cons (pv 2) pa_nil)))
    (pss_cons (ps_set (i := 4) sc_law.nd rfl (Or.inl rfl) (pe_make MK FI hr rfl TC.mgC bI2 .nil pass0 (pa_cons (pe_ix ix_tup (pv 2) pe_int (fun _ _ => rfl)) (pa_cons (pe_ix ix_tup (pv 2) pe_int (fun _ _ => rfl)) pa_nil))))
    (pss_cons (ps_set (i := 5) sc_law.nd rfl (Or.inl rfl) (pe_op op_add_str pe_str (pe_callTy call_str_int (by rfl) zS (by decide +kernel) (pa_cons (pe_ix ix_tup (pv 2) pe_int (fun _ _ => rfl)) pa_nil))))
    (pss_cons (ps_for PassesOwn.never rfl (pi_tup (pe_ix ix_tup (pv 2) pe_int (fun _ _ => rfl))) (pg_name (i := 6) sc_law.nd rfl (Or.inl rfl))
      (pss_one (ps_set (i := 5) sc_law.nd rfl (Or.inl rfl) (pe_op op_add_str (pe_op op_add_str (pv 5) pe_str) (pe_callTy call_str_int (by rfl) zS (by decide +kernel) (pa_cons (pv 6) pa_nil))))))
    (pss_cons (ps_if (pt_cmpR op_ne (pe_cd D_format_field hr (by rfl) (pa_cons (pv 4) pa_nil)) (pv 5) (nomark _))
      (pss_one (ps_ret pe_bl))
      pss_nil)
    (pss_cons (ps_set (i := 7) sc_law.nd rfl (Or.inl rfl) (pe_cd D_parse_field hr (by rfl) (pa_cons (pv 5) pa_nil)))
    (pss_cons (ps_if (PW.pt (pw_or (pt_cmpR op_ne (pe_fld (pv 7) rfl) (pe_ix ix_tup (pv 2) pe_int (fun _ _ => rfl)) (nomark _)) (pw_or (pt_cmpR (op_neD hr.units) (pe_fld (pv 7) rfl) (pe_ix ix_tup (pv 2) pe_int (fun _ _ => rfl)) (nomark _)) (pw_or1 (pt_cmpR op_isnot_bl (pe_md M_same_as TC.cl hr (pv 7) (pa_cons (pv 4) pa_nil)) pe_bl (nomark _))))))
      (pss_one (ps_ret pe_bl))
      pss_nil)
    (pss_cons (ps_set (i := 8) sc_law.nd rfl (Or.inl rfl) (pe_op op_add pe_int (pe_op op_mod (pe_callTy call_int1 (by rfl) T.z_int (by decide +kernel) (pa_cons (pe_ix ix_list (pv 1) pe_int (fun _ _ => rfl)) pa_nil)) pe_int)))
    (pss_cons (ps_if (pt_cmpR op_eq (pe_op op_mod (pe_callTy call_int1 (by rfl) T.z_int (by decide +kernel) (pa_cons (pe_ix ix_list (pv 1) pe_int (fun _ _ => rfl)) pa_nil)) pe_int) pe_int (nomark _))
      (pss_one (ps_set (i := 8) sc_law.nd rfl (Or.inl rfl) (pe_op op_add pe_int (pe_op op_mod (pe_callTy call_int1 (by rfl) T.z_int (by decide +kernel) (pa_cons (pe_ix ix_list (pv 1) pe_int (fun _ _ => rfl)) pa_nil)) pe_int))))
      pss_nil)
    (pss_cons (ps_set (i := 9) sc_law.nd rfl (Or.inl rfl) (pe_lst pa_nil))
    (pss_cons (ps_for PassesOwn.never rfl (pi_range1 (by rfl) T.z_range (pa_cons (pv 8) pa_nil)) (pg_name (i := 10) sc_law.nd rfl (Or.inl rfl))
      (pss_cons (ps_set (i := 11) sc_law.nd rfl (Or.inl rfl) (pe_op op_mod (pe_callTy call_int1 (by rfl) T.z_int (by decide +kernel) (pa_cons (pe_ix ix_list (pv 1) (pe_op op_add pe_int (pv 10)) (fun _ _ => rfl)) pa_nil)) (pe_op op_add (pv 3) pe_int)))
      (pss_one (ps_if (pt_cmpR op_eq (pv 11) (pv 3) (nomark _))
        (pss_one (ps_expr (pe_bm PySem.F.plainAttrs_list PySem.F.slot_list_append PySem.F.type_list_append mt_append (pv 9) (pa_cons pe_non pa_nil))))
        (pss_one (ps_expr (pe_bm PySem.F.plainAttrs_list PySem.F.slot_list_append PySem.F.type_list_append mt_append (pv 9) (pa_cons (pv 11) pa_nil))))))))
    (pss_cons (ps_set (i := 12) sc_law.nd rfl (Or.inl rfl) (pe_callTy call_list_of (by rfl) T.z_list (by decide +kernel) (pa_cons (pv 9) pa_nil)))
    (pss_cons (ps_set (i := 13) sc_law.nd rfl (Or.inl rfl) (pe_cd D_format_word hr (by rfl) (pa_cons (pv 12) pa_nil)))
    (pss_cons (ps_set (i := 14) sc_law.nd rfl (Or.inl rfl) (pe_lst pa_nil))
    (pss_cons (ps_for PassesOwn.never rfl (pi_list (pv 9)) (pg_name (i := 11) sc_law.nd rfl (Or.inl rfl))
      (pss_one (ps_if (pt_cmpR op_isN (pv 11) pe_non (nomark _))
        (pss_one (ps_expr (pe_bm PySem.F.plainAttrs_list PySem.F.slot_list_append PySem.F.type_list_append mt_append (pv 14) (pa_cons pe_str pa_nil))))
        (pss_one (ps_expr (pe_bm PySem.F.plainAttrs_list PySem.F.slot_list_append PySem.F.type_list_append mt_append (pv 14) (pa_cons (pe_callTy call_str_int (by rfl) zS (by decide +kernel) (pa_cons (pv 11) pa_nil)) pa_nil)))))))
    (pss_cons (ps_if (PW.pt (pw_or (pt_cmpR op_ne (pv 13) (pe_join pe_str (pv 14)) (nomark _)) (pw_or1 (pt_cmpR (op_neD hr.units) (pv 12) (pv 9) (nomark _)))))
      (pss_one (ps_ret pe_bl))
      pss_nil)
    (pss_cons (ps_set (i := 15) sc_law.nd rfl (Or.inl rfl) (pe_cd D_parse_word hr (by rfl) (pa_cons (pv 4) (pa_cons (pv 13) pa_nil))))
    (pss_cons (ps_if (PW.pt (pw_or (pt_not (pt_val (pe_callB call_isi (by rfl) T.z_isinstance (by decide +kernel) (pa_cons (pv 15) (pa_cons (pe_bltn (v := .ty "list") (by rfl) T.z_list (by decide +kernel) rfl) pa_nil))))) (pw_or1 (pt_cmpR (op_neD hr.units) (pv 15) (pv 9) (nomark _)))))
      (pss_one (ps_ret pe_bl))
      pss_nil)
    (pss_one (ps_ret (pe_cmpR op_eq (pe_callB call_len_seq (by rfl) T.z_len PySem.boot_len (pa_cons (pe_lc (own := [("item", 11)]) (g := (gName 11)) (tt := tAnd (tTest (tOp (fun x y H Q => y = .non ∧ Q (.bl (!decide (x = .non))) H) (tVar 11) (tC .non))) (tNot (tB (tCall spIsInt [] E0 (tCons (tVar 11) tNil))))) rfl sc_law.nd (pi_list (pv 15)) (blkOk_by (own := [("item", 11)]) (N := ["script", "numbers", "pair", "order", "field", "line", "coefficient", "again", "size", "word", "k", "item", "given", "text", "due", "told"]) (sc := defScope s_law) (by decide +kernel)) (fun _ _ _ _ _ => (pg_name (i := 11) sc_law.nd rfl (Or.inl rfl))) (fun _ _ _ _ _ => pts_one (PW.pt (pw_and (pt_cmpR op_notN (pv 11) pe_non (nomark _)) (pw_and1 (pt_not (pt_val (by exact pe_cd D_law_is_integer hr (by rfl) (pa_cons (pv 11) pa_nil)))))))) (fun _ _ _ _ _ => pv 11)) pa_nil)) pe_int (nomark _)))))))))))))))))))))))), ?_⟩
  generalize hst : L2.start _ _ = st0
  obtain rfl : st0 = [some (.ref a), none, none, none, none, none, none, none, none, none, none, none, none, none, none, none] := by
    rw [← hst]
    rfl
  clear hst
  refine q_asgC (by walk_at "ev") fun H1 e1 => ?_
  refine ⟨a, cs, 300, rfl, ex_l e1 hS, by decide, by decide, fun ns l H2 hlen hb nl e2 hl => ?_⟩
  walk_at "nm"
  have e02 := e1.trans e2
  have lns : ns.length = 300 := by omega
  have rd : ∀ {σ : L2.St} {H' : Hp} {te : TE} {j : Nat}, Ex H2 H' → σ[1]? = some (some (.ref l)) → Ev te σ H' (.int (j : Int)) → j < ns.length → Ev (tOp (rIxL K) (tVar 1) te) σ H' (.int (ns.getD j 0)) := fun e1 h1 h2 h3 => ev_op (ev_var h1) h2 (rv_ixL (sq_of (e1 _ _ hl)) (at_n74 h3))
  clear e1 e2 nl hlen
  -- the field
  have b0 := hb.getD 0
  refine q_asgC (vs := [.int (ns.getD 0 0)]) (ea_cons (rd (Ex.refl _) rfl (ev_c (v := .int ((0 : Nat) : Int))) (by omega)) ea_nil) fun H3 e3 => ?_
  refine ⟨_, rfl, b0.1, fun f t c H4 hf e4 ht hc => ?_⟩
  walk_at "nm"
  have e24 := e3.trans e4
  obtain ⟨p, e, g, ms, hp1, hm1, ok, hn, lm⟩ := fld74 f hf
  rw [hp1] at ht
  rw [hm1] at hc
  obtain ⟨m, hm⟩ : ∃ m : List Int, m = ms.map fun (n : Nat) => (n : Int) := ⟨_, rfl⟩
  rw [← hm] at ok hc
  have hq256 := ok.sz
  have p2 := ok.p2
  have hp31 := hn p List.mem_cons_self
  have lme := ok.len
  have lms : ms.length = e + 2 := by rw [← lme, hm, List.length_map]
  obtain ⟨q, hq⟩ : ∃ q, q = p ^ (e + 1) := ⟨_, rfl⟩
  have q2 : 2 ≤ q := by rw [hq]; exact Nat.le_trans p2 (Nat.le_self_pow (by omega) _)
  rw [← hq] at hq256
  refine q_asg (v := .int (q : Int)) (ev_is (ev_call (ea_cons (ev_var rfl) ea_nil) (fun H1 e1 Q q E => ⟨t, c, p, e, m, rfl, e1 _ _ ht, e1 _ _ hc, lme, by omega, by omega, q⟩)) (by rw [hq])) fun H5 e5 => ?_
  walk_at "nm"
  have e25 := e24.trans e5
  have g5 : TabG H5 Pt := TabG.ex gt (e02.trans e25)
  have ix0 : ∀ {σ : L2.St} {H' : Hp}, Ex H4 H' → σ[2]? = some (some (.ref t)) → Ev (tOp (rIxT K) (tVar 2) (tC (.int 0))) σ H' (.int (p : Int)) := fun e h => ev_op (ev_var h) ev_c (rv_ixT (st_of (e _ _ ht)) (atI_nat (j := 0) rfl))
  have ix1 : ∀ {σ : L2.St} {H' : Hp}, Ex H4 H' → σ[2]? = some (some (.ref t)) → Ev (tOp (rIxT K) (tVar 2) (tC (.int 1))) σ H' (.ref c) := fun e h => ev_op (ev_var h) ev_c (rv_ixT (st_of (e _ _ ht)) (atI_nat (j := 1) rfl))
  refine q_mkF (k_make (p := p) (c := c) (ea_cons (ix0 e5 rfl) (ea_cons (ix1 e5 rfl) ea_nil)) rfl ok (st_of (e5 _ _ hc)) g5 _ fun x H6 e6' hx => ?_)
  have e6 : Ex H5 H6 := ExP.all g5 e6'
  walk_at "nm"
  have e46 := e5.trans e6
  -- the line
  have ls0 : (Str.ofString "field ").length = 6 := by decide +kernel
  have lp := (numOK p hp31).2.1
  refine q_asg (v := .str (fieldS (p :: ms.take 0))) (ev_is (ev_op ev_c (ev_cb (ea_cons (ix0 e46 rfl) ea_nil) (rc_str hp31)) (rv_catS (by omega))) (congrArg V.str ?_)) fun H7 e7 => ?_
  · show Str.ofString "field " ++ numS p = Txt.join sp1 [Str.ofString "field", numS p]
    rw [join_eq]
    show _ = Str.ofString "field" ++ sp1 ++ numS p
    rw [show Str.ofString "field" ++ sp1 = Str.ofString "field " by decide +kernel]
  walk_at "nm"
  have e47 := e46.trans e7
  have flen : ∀ i, (fieldS (p :: ms.take i)).length ≤ 10404 := fun i => by
    have h1 := join_len (Str.ofString "field" :: (p :: ms.take i).map numS) 100 fun z hz => by
      rcases List.mem_cons.mp hz with rfl | hz
      · decide +kernel
      · obtain ⟨n, hn', rfl⟩ := List.mem_map.mp hz
        refine Nat.le_trans (numOK n (hn n ?_)).2.1 (by decide)
        rcases List.mem_cons.mp hn' with rfl | h
        · exact List.mem_cons_self
        · exact List.mem_cons_of_mem _ (List.mem_of_mem_take h)
    have h3 : (Str.ofString "field" :: (p :: ms.take i).map numS).length ≤ 102 := by rw [List.length_cons, List.length_map, List.length_cons, List.length_take]; omega
    have h4 : (Str.ofString "field" :: (p :: ms.take i).map numS).length * (100 + 1) ≤ 102 * 101 := Nat.mul_le_mul_right _ h3
    unfold fieldS
    omega
  refine q_forT (K := K) (a := c) (xs := m.map V.int) (ix1 e47 rfl) (st_of (e47 _ _ hc)) (fun i σ' H' => ∃ y6 : Option V, σ' = [some (.ref a), some (.ref l), some (.ref t), some (.int (q : Int)), some (.ref x), some (.str (fieldS (p :: ms.take i))), y6, none, none, none, none, none, none, none, none, none] ∧ Ex H7 H') ?_ ?_ ?_ ?_
  · intro H1 e1
    exact ⟨none, rfl, e1⟩
  · rintro i σ' H' _ ⟨_, _, e1⟩
    exact st_of ((e47.trans e1) _ _ hc)
  · rintro i v σ' H' hv ⟨y6, rfl, e1⟩
    walk_at "nm"
    obtain ⟨n, hi, rfl⟩ : ∃ n, ms[i]? = some n ∧ v = .int (n : Int) := by
      rw [hm, List.map_map, List.getElem?_map] at hv
      cases h : ms[i]? with
      | none => rw [h] at hv; cases hv
      | some n => rw [h] at hv; exact ⟨n, rfl, (Option.some.inj hv).symm⟩
    have hn1 := hn n (List.mem_cons_of_mem _ (List.mem_of_getElem? hi))
    have l1 := flen i
    have l2 := (numOK n hn1).2.1
    have l3 : (Str.ofString " ").length = 1 := by decide +kernel
    have l4 : (fieldS (p :: ms.take i) ++ Str.ofString " ").length ≤ 10405 := by
      rw [len_tl, tl_append, List.length_append, ← len_tl, ← len_tl]
      omega
    refine s_asg (v := .str (fieldS (p :: ms.take (i + 1)))) (ev_is (ev_op (ev_op (ev_var rfl) ev_c (rv_catS (by omega))) (ev_cb (ea_cons (ev_var rfl) ea_nil) (rc_str hn1)) (rv_catS (by omega))) (congrArg V.str ?_)) fun H8 e8 => ?_
    · have ht : ms.take (i + 1) = ms.take i ++ [n] := by rw [List.take_add_one, hi]; rfl
      unfold fieldS
      rw [ht]
      have := join_snoc (parts := Str.ofString "field" :: (p :: ms.take i).map numS) (p := numS n) (by simp)
      rw [show Str.ofString "field" :: (p :: (ms.take i ++ [n])).map numS = (Str.ofString "field" :: (p :: ms.take i).map numS) ++ [numS n] by simp]
      exact this.symm
    walk_at "nm"
    exact ⟨_, rfl, e1.trans e8⟩
  rintro σ' H8 ⟨y6, rfl, e78⟩
  have hlm : (m.map V.int).length = ms.length := by rw [List.length_map, hm, List.length_map]
  rw [hlm, List.take_length]
  have e48 := e47.trans e78
  have hx8 := hx.ex (e7.trans e78)
  -- written
  have e08 := e02.trans (e24.trans e48)
  refine q_when (b := false) (et_is (et_test (ev_op (ev_call (z := .str (fieldS (p :: ms))) (ea_cons (ev_var rfl) ea_nil) (fun H1 e1 Q q E => ⟨x, p, e + 1, g, ms, rfl, by rw [← hm]; exact hx8.ex e1, hp31, fun n h => hn n (List.mem_cons_of_mem _ h), lm, q⟩)) (ev_var rfl) (rv_ne rfl))) (by rw [decide_eq_true rfl]; rfl)) (fun q => Bool.noConfusion q) fun _ H9 e9 => ?_
  have e09 := e08.trans e9
  -- and read
  refine q_asgC (vs := [.str (fieldS (p :: ms))]) (ea_cons (ev_var rfl) ea_nil) fun H10 e10 => ?_
  have g10 : TabG H10 Pt := TabG.ex gt (e09.trans e10)
  refine ⟨p, e, g, ms, rfl, by rw [← hm]; exact ok, hn, lm, g10, fun x2 H11 e11' hx2 => ?_⟩
  have e11 : Ex H10 H11 := ExP.all g10 e11'
  rw [← hm] at hx2
  walk_at "nm"
  have e811 := e9.trans (e10.trans e11)
  have e411 := e48.trans e811
  obtain ⟨dx2, c2, as2, ap2, an2, aw2, al2, h2⟩ := id hx2
  have rvB : ∀ {b : Bool} {H' : Hp}, RV (fun x y H Q => ∃ a b, x = V.bl a ∧ y = V.bl b ∧ Q (.bl (!decide (a = b))) H) (.bl b) (.bl b) H' (.bl false) := fun {b H'} H1 _ Q q => ⟨b, b, rfl, rfl, by
    rw [decide_eq_true rfl]
    exact q H1 (Ex.refl _)⟩
  refine q_when (b := false) (et_is (et_or (a := false) (b := false) (et_is (et_test (ev_op (ev_fld rfl h2.ob TC.cl TC.n_prime (by walk_at "fl")) (ix0 e411 rfl) (rv_ne rfl))) (by rw [decide_eq_true rfl]; rfl)) fun _ => et_is (et_or (a := false) (b := false) (et_is (et_test (ev_op (ev_fld rfl h2.ob TC.cl TC.n_modulus (by walk_at "fl")) (ix1 e411 rfl) (rv_neT h2.mod (st_of (e411 _ _ hc))))) (by rw [decide_eq_true rfl]; rfl)) fun _ => et_test (ev_op (ev_is (ev_meth rfl h2.ob (fs_no (by decide +kernel)) (ea_cons (ev_var rfl) ea_nil) (fun H1 e1 Q q E => ⟨x2, x, p, e + 1, g, p, e + 1, g, m, m, rfl, hx2.ex e1, hx8.ex (e811.trans e1), q⟩)) (by rw [decide_eq_true rfl, decide_eq_true rfl]; rfl)) ev_c rvB)) rfl) rfl) (fun q => Bool.noConfusion q) fun _ H12 e12 => ?_
  -- the size
  have e812 := e811.trans e12
  have e212 := (e24.trans e48).trans e812
  have e012 := e02.trans e212
  obtain ⟨z1, hz1⟩ : ∃ z, z = ns.getD 1 0 := ⟨_, rfl⟩
  have b1 := hb.getD 1
  rw [← hz1] at b1
  obtain ⟨z2, hz2⟩ : ∃ z, z = ns.getD 2 0 := ⟨_, rfl⟩
  have b2 := hb.getD 2
  rw [← hz2] at b2
  refine q_asg (v := .int (1 + z1 % 12)) (ev_op ev_c (ev_op (ev_cb (ea_cons (ev_is (rd e212 rfl (ev_c (v := .int ((1 : Nat) : Int))) (by omega)) (congrArg V.int hz1.symm)) ea_nil) rc_int) ev_c (rv_I (by walk_at "side"))) rv_I0) fun H13 e13 => ?_
  walk_at "nm"
  have e213 := e212.trans e13
  refine q_ifAsg (v := .int (if z2 % 4 = 0 then 13 + z1 % 243 else 1 + z1 % 12)) (b := decide (z2 % 4 = 0)) (et_is (et_test (ev_op (ev_op (ev_cb (ea_cons (ev_is (rd e213 rfl (ev_c (v := .int ((2 : Nat) : Int))) (by omega)) (congrArg V.int hz2.symm)) ea_nil) rc_int) ev_c (rv_I (by walk_at "side"))) ev_c (rv_eq rfl))) (by rw [dec_int] <;> rfl)) (fun hb' => ?_) (fun hb' => ?_) fun H14 e14 => ?_
  · rw [if_pos (of_decide_eq_true hb')]
    exact ev_op ev_c (ev_op (ev_cb (ea_cons (ev_is (rd e213 rfl (ev_c (v := .int ((1 : Nat) : Int))) (by omega)) (congrArg V.int hz1.symm)) ea_nil) rc_int) ev_c (rv_I (by walk_at "side"))) rv_I0
  · rw [if_neg (of_decide_eq_false hb')]
    rfl
  obtain ⟨size, hsz⟩ : ∃ size : Nat, (size : Int) = if z2 % 4 = 0 then 13 + z1 % 243 else 1 + z1 % 12 := ⟨(if z2 % 4 = 0 then 13 + z1 % 243 else 1 + z1 % 12).toNat, by split <;> omega⟩
  have hs1 : 1 ≤ size ∧ size ≤ 255 := by split at hsz <;> omega
  rw [← hsz]
  walk_at "nm"
  have e214 := e213.trans e14
  have e814 := e812.trans (e13.trans e14)
  obtain ⟨F, hF, hFp, hFe⟩ : ∃ F : FPar, FXF K C H8 x F g ∧ F.p = p ∧ F.e = e := ⟨⟨p, m, e, ok.p2, ok.len⟩, FX.of hx8 ok, rfl, rfl⟩
  have hFq : F.p ^ (F.e + 1) = q := by rw [hFp, hFe, hq]
  -- the word
  refine q_asgL (xs := []) (el_lst ea_nil (by decide)) fun pw H15 npw e15 hpw => ?_
  walk_at "nm"
  have e215 := e214.trans e15
  refine q_forR1 (n := (size : Int)) (ea_cons (ev_var rfl) ea_nil) (by omega) (fun i σ' H' => ∃ (y6 y10 y11 : Option V) (xs : List (Option (Fe F))), σ' = [some (.ref a), some (.ref l), some (.ref t), some (.int (q : Int)), some (.ref x), some (.str (fieldS (p :: ms))), y6, some (.ref x2), some (.int (size : Int)), some (.ref pw), y10, y11, none, none, none, none] ∧ Ex H14 H' ∧ H' pw = some (.lst (xs.map rv)) ∧ xs.length = i) ?_ ?_ ?_
  · intro H1 e1
    exact ⟨_, none, none, [], rfl, e15.trans e1, e1 _ _ hpw, rfl⟩
  · rintro i σ' H' hi ⟨y6, y10, y11, xs, rfl, e1, hxw, lx⟩
    walk_at "nm"
    obtain ⟨z, hz⟩ : ∃ z, z = ns.getD (10 + i) 0 := ⟨_, rfl⟩
    have bz := hb.getD (10 + i)
    rw [← hz] at bz
    refine q_asg (v := .int (z % ((q : Int) + 1))) (ev_op (ev_cb (ea_cons (ev_is (rd (e214.trans e1) rfl (j := 10 + i) (ev_is (ev_op ev_c (ev_var rfl) rv_I0) (congrArg V.int (show (10 : Int) + (i : Int) = ((10 + i : Nat) : Int) by omega))) (by omega)) (congrArg V.int hz.symm)) ea_nil) rc_int) (ev_op (ev_var rfl) ev_c rv_I0) (rv_I (by omega))) fun H16 e16 => ?_
    walk_at "nm"
    have m0 : 0 ≤ z % ((q : Int) + 1) := Int.emod_nonneg _ (by omega)
    have m1 : z % ((q : Int) + 1) < (q : Int) + 1 := Int.emod_lt_of_pos _ (by omega)
    have hxw16 := e16 _ _ hxw
    refine s_if (b := decide (z % ((q : Int) + 1) = (q : Int))) (et_is (et_test (ev_op (ev_var rfl) (ev_var rfl) (rv_eq rfl))) (dec_int _ _)) (fun hb' H17 e17 => ?_) (fun hb' H17 e17 => ?_)
    · refine s_app (v := rv (none : Option (Fe F))) (e17 _ _ hxw16) (ev_var rfl) (ev_c (v := .non)) (by rw [List.length_map]; omega) fun H18 e18 => ?_
      exact ⟨_, _, _, xs ++ [none], rfl, Ex.mut (e1.trans (e16.trans (e17.trans e18))) npw, by rw [upd_same, List.map_append]; rfl, by rw [List.length_append, lx]; rfl⟩
    · have hne := of_decide_eq_false hb'
      refine s_app (v := rv (some (feOf F (z % ((q : Int) + 1))))) (e17 _ _ hxw16) (ev_var rfl) (ev_is (ev_var rfl) ?_) (by rw [List.length_map]; omega) fun H18 e18 => ?_
      · have : (feOf F (z % ((q : Int) + 1))).1 = z % ((q : Int) + 1) := Int.emod_eq_of_lt m0 (by rw [hFq]; omega)
        exact congrArg V.int this.symm
      exact ⟨_, _, _, xs ++ [some (feOf F (z % ((q : Int) + 1)))], rfl, Ex.mut (e1.trans (e16.trans (e17.trans e18))) npw, by rw [upd_same, List.map_append]; rfl, by rw [List.length_append, lx]; rfl⟩
  rintro σ' H16 ⟨y6, y10, y11, xs, rfl, e16, hxw, lx⟩
  have lx : xs.length = size := by omega
  have e216 := e214.trans e16
  have e816 := e814.trans e16
  refine q_asgL (xs := xs.map rv) (el_list (ev_var rfl) (sq_of hxw)) fun pg H17 npg e17 hpg => ?_
  walk_at "nm"
  refine q_asg (v := .str (wordS xs)) (ev_call (ea_cons (ev_var rfl) ea_nil) (fun H1 e1 Q q' E => ⟨pg, F, xs, rfl, sq_of (e1 _ _ hpg), by omega, by rw [hFq]; exact hq256, q'⟩)) fun H18 e18 => ?_
  walk_at "nm"
  refine q_asgL (xs := []) (el_lst ea_nil (by decide)) fun pd H19 npd e19 hpd => ?_
  walk_at "nm"
  have e1619 := e17.trans (e18.trans e19)
  refine q_forLn (K := K) (a := pw) (xs := xs.map rv) (ev_var rfl) (sq_of (e1619 _ _ hxw)) (fun i σ' H' => ∃ y11 : Option V, σ' = [some (.ref a), some (.ref l), some (.ref t), some (.int (q : Int)), some (.ref x), some (.str (fieldS (p :: ms))), y6, some (.ref x2), some (.int (size : Int)), some (.ref pw), y10, y11, some (.ref pg), some (.str (wordS xs)), some (.ref pd), none] ∧ Ex H18 H' ∧ H' pd = some (.lst (((xs.take i).map itemS).map V.str))) ?_ ?_ ?_ ?_
  · intro H1 e1
    exact ⟨_, rfl, e19.trans e1, e1 _ _ hpd⟩
  · rintro i σ' H' _ ⟨_, _, e1, _⟩
    exact sq_of ((e17.trans (e18.trans e1)) _ _ hxw)
  · rintro i v σ' H' hv ⟨y11, rfl, e1, hd⟩
    walk_at "nm"
    obtain ⟨hi, rfl⟩ := getv_rv hv
    have ht : xs.take (i + 1) = xs.take i ++ [at0 xs i] := by
      rw [List.take_add_one]
      unfold at0
      rw [List.getD_eq_getElem?_getD, List.getElem?_eq_getElem hi]
      rfl
    have hl : (((xs.take i).map itemS).map V.str).length < 100000 := by rw [List.length_map, List.length_map, List.length_take]; omega
    have hsn : ∀ H2 : Hp, (upd H2 pd (.lst (((xs.take i).map itemS).map V.str ++ [.str (itemS (at0 xs i))]))) pd = some (.lst (((xs.take (i + 1)).map itemS).map V.str)) := fun H2 => by
      rw [upd_same, ht, List.map_append, List.map_append]
      rfl
    refine s_if (b := decide (at0 xs i = none)) (et_is (et_test (ev_op (ev_var rfl) ev_c rv_isN)) ?_) (fun hb' H2 e2 => ?_) (fun hb' H2 e2 => ?_)
    · refine decide_eq_decide.mpr ?_
      cases at0 xs i with
      | none => exact ⟨fun _ => rfl, fun _ => rfl⟩
      | some v => exact ⟨fun z => (by cases z), fun z => (by cases z)⟩
    · refine s_app (v := .str (itemS (at0 xs i))) (e2 _ _ hd) (ev_var rfl) (by rw [of_decide_eq_true hb']; exact ev_c) hl fun H3 e3 => ?_
      exact ⟨_, rfl, Ex.mut (e1.trans (e2.trans e3)) npd, hsn _⟩
    · refine s_app (v := .str (itemS (at0 xs i))) (e2 _ _ hd) (ev_var rfl) ?_ hl fun H3 e3 => ?_
      · cases ho : at0 xs i with
        | none => rw [ho] at hb'; cases hb'
        | some v =>
          have := item_lt (by rw [hFq]; exact hq256) v
          refine ev_cb (vs := [.int ((v.1.toNat : Nat) : Int)]) (ea_cons (ev_is (ev_var rfl) ?_) ea_nil) (rc_str this.1)
          rw [this.2]
          rfl
      exact ⟨_, rfl, Ex.mut (e1.trans (e2.trans e3)) npd, hsn _⟩
  rintro σ' H20 ⟨y11, rfl, e1820, hd⟩
  rw [List.length_map, List.take_length] at hd
  have e1620 := e17.trans (e18.trans e1820)
  have e820 := e816.trans e1620
  have hpg20 := (e18.trans e1820) _ _ hpg
  have hxw20 := e1620 _ _ hxw
  have hitem : ∀ p ∈ xs.map itemS, p.length ≤ 3 := fun p hp => by
    obtain ⟨o, _, rfl⟩ := List.mem_map.mp hp
    exact (item_len (by rw [hFq]; exact hq256) o).1
  -- compared
  refine q_when (b := false) (et_is (et_or (a := false) (b := false) (et_is (et_test (ev_op (ev_var rfl) (ev_join (ys := xs.map itemS) ev_c (ev_var rfl) (sq_of hd) ?_) (rv_ne rfl))) (by
      show (!decide (V.str (wordS xs) = V.str (wordS xs))) = false
      rw [decide_eq_true rfl]
      rfl)) fun _ => et_test (ev_op (ev_var rfl) (ev_var rfl) (rv_neS (d := recP xs) (fun H1 e1 => dp_rec (sq_of (e1 _ _ hpg20))) (fun H1 e1 => dp_rec (sq_of (e1 _ _ hxw20))) (recP_shaped xs) (recP_eqv xs)))) rfl) (fun q => Bool.noConfusion q) fun _ H21 e21 => ?_
  · have h1 := sum_le _ 3 hitem
    have h2 : (Str.ofString " ").length = 1 := by decide +kernel
    rw [h2, List.length_map] at *
    omega
  have e821 := e820.trans e21
  -- read back
  refine q_asgL (xs := xs.map rv) (el_call (vs := [.ref x, .str (wordS xs)]) (ea_cons (ev_var rfl) (ea_cons (ev_var rfl) ea_nil)) fun H1 e1 Q q' E => ⟨x, F, g, xs, rfl, hF.ex (e821.trans e1), by omega, by omega, (e08.trans (e821.trans e1)) _ _ gr, q'⟩) fun pt H22 npt e22 hpt => ?_
  walk_at "nm"
  refine q_when (b := false) (et_is (et_or (a := false) (b := false) (et_is (et_not (et_B (ev_cb (ea_cons (ev_var rfl) (ea_cons ev_c ea_nil)) (rc_isiLst (b := true) hpt (by decide +kernel))))) rfl) fun _ => et_test (ev_op (ev_var rfl) (ev_var rfl) (rv_neS (d := recP xs) (fun H1 e1 => dp_rec (sq_of (e1 _ _ hpt))) (fun H1 e1 => dp_rec (sq_of ((e21.trans (e22.trans e1)) _ _ hxw20))) (recP_shaped xs) (recP_eqv xs)))) rfl) (fun q => Bool.noConfusion q) fun _ H23 e23 => ?_
  refine s_ret (v := .bl true) (ev_is (ev_op (ev_lenN (el_lcL (K := K) (a := pt) (xs := xs.map rv) (j := 11) (vs := [11]) (fun _ => false) (fun _ => .non) (ev_var rfl) (sq_of (e23 _ _ hpt)) (by rw [List.length_map]; omega) hw_one (fun i y H1 e1 hy => ?_) (fun i y H1 e1 hy h => Bool.noConfusion h))) ev_c (rv_eq rfl)) ?_) fun H24 e24 => k H24 (e08.trans (e821.trans (e22.trans (e23.trans e24))))
  · obtain ⟨hi, rfl⟩ := getv_rv hy
    cases ho : at0 xs i with
    | none => exact et_is (et_and (a := false) (b := false) (et_test (ev_op (ev_var (at_one rfl)) ev_c rv_notN)) fun h => Bool.noConfusion h) rfl
    | some v => exact et_is (et_and (a := true) (b := false) (et_test (ev_op (ev_var (at_one rfl)) ev_c rv_notN)) fun _ => et_is (et_not (et_B (ev_call (z := .bl true) (ea_cons (ev_var (at_one rfl)) ea_nil) (fun H1 e1 Q q E => ⟨v.1, rfl, q⟩)))) rfl) rfl
  · rw [List.length_map]
    have : (given xs.length (fun _ => false) (fun _ => V.non)) = [] := by
      unfold given
      rw [List.filter_eq_nil_iff.mpr (fun _ _ => Bool.noConfusion)]
      rfl
    rw [this]
    rfl
end
end My
set_option Elab.async false
set_option linter.all false
set_option maxRecDepth 100000
set_option maxHeartbeats 4000000
namespace MyT
end MyT
namespace MyS
end MyS
namespace MyZ
end MyZ
namespace My
open PySem PySem.Spec PyProof.Rows L2 L2H Evl GxR MyG MyT MyS MyZ
theorem all_mk {l : PySem.W.OpenLaw} {w : World} {K : PySem.W.Frag} {h : Heap} {mg : Str → Option Value} {fa f_int_power f_is_prime f_digits_of f_number_of f_divides f_is_irreducible f_is_field f_sum_table f_longer_sums f_shifted_elements f_product_table f_powers_of f_primitive_powers f_is_received f_line_of f_format_field f_format_word f_is_number f_numbers_behind f_field_in f_parse_field f_parse_word f_law_row f_law_numbers f_law_field f_law_order f_law_is_integer f_law f_Field_init f_Field_same_as : Addr} (X : K.In h) (G : h.Ns mainGlobals mg) (hfa : mg "law" = some (.ref fa))
    {aC aTv aTd c0 c2 Pt Pr DF : Addr} {oT1 : Value} {dT1 dT2 : Option Addr} {nT1 nT2 : Nat} {sT1 sT2 : Array (Option Value)} {tk0 tk1 : Tok}
    {od_int_power an_int_power : Option Addr} {sl_int_power : Array (Option Value)} {oc_int_power kV_int_power dc_int_power pm_int_power cd_int_power ct_int_power : Value}
    {od_is_prime an_is_prime : Option Addr} {sl_is_prime : Array (Option Value)} {oc_is_prime kV_is_prime dc_is_prime pm_is_prime cd_is_prime ct_is_prime : Value}
    {od_digits_of an_digits_of : Option Addr} {sl_digits_of : Array (Option Value)} {oc_digits_of kV_digits_of dc_digits_of pm_digits_of cd_digits_of ct_digits_of : Value}
    {od_number_of an_number_of : Option Addr} {sl_number_of : Array (Option Value)} {oc_number_of kV_number_of dc_number_of pm_number_of cd_number_of ct_number_of : Value}
    {od_divides an_divides : Option Addr} {sl_divides : Array (Option Value)} {oc_divides kV_divides dc_divides pm_divides cd_divides ct_divides : Value}
    {od_is_irreducible an_is_irreducible : Option Addr} {sl_is_irreducible : Array (Option Value)} {oc_is_irreducible kV_is_irreducible dc_is_irreducible pm_is_irreducible cd_is_irreducible ct_is_irreducible : Value}
    {od_is_field an_is_field : Option Addr} {sl_is_field : Array (Option Value)} {oc_is_field kV_is_field dc_is_field pm_is_field ct_is_field : Value}
    {od_sum_table an_sum_table : Option Addr} {sl_sum_table : Array (Option Value)} {oc_sum_table kV_sum_table dc_sum_table pm_sum_table cd_sum_table ct_sum_table : Value}
    {od_longer_sums an_longer_sums : Option Addr} {sl_longer_sums : Array (Option Value)} {oc_longer_sums kV_longer_sums dc_longer_sums pm_longer_sums cd_longer_sums ct_longer_sums : Value}
    {od_shifted_elements an_shifted_elements : Option Addr} {sl_shifted_elements : Array (Option Value)} {oc_shifted_elements kV_shifted_elements dc_shifted_elements pm_shifted_elements cd_shifted_elements ct_shifted_elements : Value}
    {od_product_table an_product_table : Option Addr} {sl_product_table : Array (Option Value)} {oc_product_table kV_product_table dc_product_table pm_product_table cd_product_table ct_product_table : Value}
    {od_powers_of an_powers_of : Option Addr} {sl_powers_of : Array (Option Value)} {oc_powers_of kV_powers_of dc_powers_of pm_powers_of cd_powers_of ct_powers_of : Value}
    {od_primitive_powers an_primitive_powers : Option Addr} {sl_primitive_powers : Array (Option Value)} {oc_primitive_powers kV_primitive_powers dc_primitive_powers pm_primitive_powers cd_primitive_powers ct_primitive_powers : Value}
    {od_is_received an_is_received : Option Addr} {sl_is_received : Array (Option Value)} {oc_is_received kV_is_received dc_is_received pm_is_received ct_is_received : Value}
    {od_line_of an_line_of : Option Addr} {sl_line_of : Array (Option Value)} {oc_line_of kV_line_of dc_line_of pm_line_of cd_line_of ct_line_of : Value}
    {od_format_field an_format_field : Option Addr} {sl_format_field : Array (Option Value)} {oc_format_field kV_format_field dc_format_field pm_format_field cd_format_field ct_format_field : Value}
    {od_format_word an_format_word : Option Addr} {sl_format_word : Array (Option Value)} {oc_format_word kV_format_word dc_format_word pm_format_word cd_format_word ct_format_word : Value}
    {od_is_number an_is_number : Option Addr} {sl_is_number : Array (Option Value)} {oc_is_number kV_is_number dc_is_number pm_is_number cd_is_number ct_is_number : Value}
    {od_numbers_behind an_numbers_behind : Option Addr} {sl_numbers_behind : Array (Option Value)} {oc_numbers_behind kV_numbers_behind dc_numbers_behind pm_numbers_behind cd_numbers_behind ct_numbers_behind : Value}
    {od_field_in an_field_in : Option Addr} {sl_field_in : Array (Option Value)} {oc_field_in kV_field_in dc_field_in pm_field_in cd_field_in ct_field_in : Value}
    {od_parse_field an_parse_field : Option Addr} {sl_parse_field : Array (Option Value)} {oc_parse_field kV_parse_field dc_parse_field pm_parse_field cd_parse_field ct_parse_field : Value}
    {od_parse_word an_parse_word : Option Addr} {sl_parse_word : Array (Option Value)} {oc_parse_word kV_parse_word dc_parse_word pm_parse_word cd_parse_word ct_parse_word : Value}
    {od_law_row an_law_row : Option Addr} {sl_law_row : Array (Option Value)} {oc_law_row kV_law_row dc_law_row pm_law_row cd_law_row ct_law_row : Value}
    {od_law_numbers an_law_numbers : Option Addr} {sl_law_numbers : Array (Option Value)} {oc_law_numbers kV_law_numbers dc_law_numbers pm_law_numbers cd_law_numbers ct_law_numbers : Value}
    {od_law_field an_law_field : Option Addr} {sl_law_field : Array (Option Value)} {oc_law_field kV_law_field dc_law_field pm_law_field cd_law_field ct_law_field : Value}
    {od_law_order an_law_order : Option Addr} {sl_law_order : Array (Option Value)} {oc_law_order kV_law_order dc_law_order pm_law_order cd_law_order ct_law_order : Value}
    {od_law_is_integer an_law_is_integer : Option Addr} {sl_law_is_integer : Array (Option Value)} {oc_law_is_integer kV_law_is_integer dc_law_is_integer pm_law_is_integer cd_law_is_integer ct_law_is_integer : Value}
    {od_law an_law : Option Addr} {sl_law : Array (Option Value)} {oc_law kV_law dc_law pm_law cd_law ct_law : Value}
    {od_Field_init an_Field_init : Option Addr} {sl_Field_init : Array (Option Value)} {oc_Field_init kV_Field_init dc_Field_init pm_Field_init cd_Field_init ct_Field_init : Value}
    {od_Field_same_as an_Field_same_as : Option Addr} {sl_Field_same_as : Array (Option Value)} {oc_Field_same_as kV_Field_same_as dc_Field_same_as pm_Field_same_as cd_Field_same_as ct_Field_same_as : Value}
    {t_LARGEST_PRIME : Tok}
    {t_LARGEST_DEGREE : Tok}
    {t_LARGEST_ORDER : Tok}
    {t_GREATEST_LENGTH : Tok}
    {t_MOST_DIGITS : Tok}
    (a_int_power : PySem.W.nsIn K mainGlobals "int_power" = some (some (.ref f_int_power))) (l_int_power : K.lookup f_int_power = some ⟨oc_int_power, od_int_power, .func (PySem.W.fnOf "int_power" "int_power" (defArgs s_int_power) (defBody s_int_power) (defScope s_int_power) .none kV_int_power dc_int_power pm_int_power an_int_power cd_int_power ct_int_power), sl_int_power⟩) (c_int_power : PySem.W.codeIn K cd_int_power "int_power" = true) (k_int_power : PySem.W.keepIn K (.ref f_int_power) = true)
    (a_is_prime : PySem.W.nsIn K mainGlobals "is_prime" = some (some (.ref f_is_prime))) (l_is_prime : K.lookup f_is_prime = some ⟨oc_is_prime, od_is_prime, .func (PySem.W.fnOf "is_prime" "is_prime" (defArgs s_is_prime) (defBody s_is_prime) (defScope s_is_prime) .none kV_is_prime dc_is_prime pm_is_prime an_is_prime cd_is_prime ct_is_prime), sl_is_prime⟩) (c_is_prime : PySem.W.codeIn K cd_is_prime "is_prime" = true) (k_is_prime : PySem.W.keepIn K (.ref f_is_prime) = true)
    (a_digits_of : PySem.W.nsIn K mainGlobals "_digits_of" = some (some (.ref f_digits_of))) (l_digits_of : K.lookup f_digits_of = some ⟨oc_digits_of, od_digits_of, .func (PySem.W.fnOf "_digits_of" "_digits_of" (defArgs s_digits_of) (defBody s_digits_of) (defScope s_digits_of) .none kV_digits_of dc_digits_of pm_digits_of an_digits_of cd_digits_of ct_digits_of), sl_digits_of⟩) (c_digits_of : PySem.W.codeIn K cd_digits_of "_digits_of" = true) (k_digits_of : PySem.W.keepIn K (.ref f_digits_of) = true)
    (a_number_of : PySem.W.nsIn K mainGlobals "_number_of" = some (some (.ref f_number_of))) (l_number_of : K.lookup f_number_of = some ⟨oc_number_of, od_number_of, .func (PySem.W.fnOf "_number_of" "_number_of" (defArgs s_number_of) (defBody s_number_of) (defScope s_number_of) .none kV_number_of dc_number_of pm_number_of an_number_of cd_number_of ct_number_of), sl_number_of⟩) (c_number_of : PySem.W.codeIn K cd_number_of "_number_of" = true) (k_number_of : PySem.W.keepIn K (.ref f_number_of) = true)
    (a_divides : PySem.W.nsIn K mainGlobals "_divides" = some (some (.ref f_divides))) (l_divides : K.lookup f_divides = some ⟨oc_divides, od_divides, .func (PySem.W.fnOf "_divides" "_divides" (defArgs s_divides) (defBody s_divides) (defScope s_divides) .none kV_divides dc_divides pm_divides an_divides cd_divides ct_divides), sl_divides⟩) (c_divides : PySem.W.codeIn K cd_divides "_divides" = true) (k_divides : PySem.W.keepIn K (.ref f_divides) = true)
    (a_is_irreducible : PySem.W.nsIn K mainGlobals "_is_irreducible" = some (some (.ref f_is_irreducible))) (l_is_irreducible : K.lookup f_is_irreducible = some ⟨oc_is_irreducible, od_is_irreducible, .func (PySem.W.fnOf "_is_irreducible" "_is_irreducible" (defArgs s_is_irreducible) (defBody s_is_irreducible) (defScope s_is_irreducible) .none kV_is_irreducible dc_is_irreducible pm_is_irreducible an_is_irreducible cd_is_irreducible ct_is_irreducible), sl_is_irreducible⟩) (c_is_irreducible : PySem.W.codeIn K cd_is_irreducible "_is_irreducible" = true) (k_is_irreducible : PySem.W.keepIn K (.ref f_is_irreducible) = true)
    (a_is_field : PySem.W.nsIn K mainGlobals "_is_field" = some (some (.ref f_is_field))) (l_is_field : K.lookup f_is_field = some ⟨oc_is_field, od_is_field, .func (PySem.W.fnOf "_is_field" "_is_field" (defArgs s_is_field) (defBody s_is_field) (defScope s_is_field) .none kV_is_field dc_is_field pm_is_field an_is_field (.ref c0) ct_is_field), sl_is_field⟩) (c_is_field : PySem.W.codeIn K (.ref c0) "_is_field" = true) (k_is_field : PySem.W.keepIn K (.ref f_is_field) = true)
    (a_sum_table : PySem.W.nsIn K mainGlobals "_sum_table" = some (some (.ref f_sum_table))) (l_sum_table : K.lookup f_sum_table = some ⟨oc_sum_table, od_sum_table, .func (PySem.W.fnOf "_sum_table" "_sum_table" (defArgs s_sum_table) (defBody s_sum_table) (defScope s_sum_table) .none kV_sum_table dc_sum_table pm_sum_table an_sum_table cd_sum_table ct_sum_table), sl_sum_table⟩) (c_sum_table : PySem.W.codeIn K cd_sum_table "_sum_table" = true) (k_sum_table : PySem.W.keepIn K (.ref f_sum_table) = true)
    (a_longer_sums : PySem.W.nsIn K mainGlobals "_longer_sums" = some (some (.ref f_longer_sums))) (l_longer_sums : K.lookup f_longer_sums = some ⟨oc_longer_sums, od_longer_sums, .func (PySem.W.fnOf "_longer_sums" "_longer_sums" (defArgs s_longer_sums) (defBody s_longer_sums) (defScope s_longer_sums) .none kV_longer_sums dc_longer_sums pm_longer_sums an_longer_sums cd_longer_sums ct_longer_sums), sl_longer_sums⟩) (c_longer_sums : PySem.W.codeIn K cd_longer_sums "_longer_sums" = true) (k_longer_sums : PySem.W.keepIn K (.ref f_longer_sums) = true)
    (a_shifted_elements : PySem.W.nsIn K mainGlobals "_shifted_elements" = some (some (.ref f_shifted_elements))) (l_shifted_elements : K.lookup f_shifted_elements = some ⟨oc_shifted_elements, od_shifted_elements, .func (PySem.W.fnOf "_shifted_elements" "_shifted_elements" (defArgs s_shifted_elements) (defBody s_shifted_elements) (defScope s_shifted_elements) .none kV_shifted_elements dc_shifted_elements pm_shifted_elements an_shifted_elements cd_shifted_elements ct_shifted_elements), sl_shifted_elements⟩) (c_shifted_elements : PySem.W.codeIn K cd_shifted_elements "_shifted_elements" = true) (k_shifted_elements : PySem.W.keepIn K (.ref f_shifted_elements) = true)
    (a_product_table : PySem.W.nsIn K mainGlobals "_product_table" = some (some (.ref f_product_table))) (l_product_table : K.lookup f_product_table = some ⟨oc_product_table, od_product_table, .func (PySem.W.fnOf "_product_table" "_product_table" (defArgs s_product_table) (defBody s_product_table) (defScope s_product_table) .none kV_product_table dc_product_table pm_product_table an_product_table cd_product_table ct_product_table), sl_product_table⟩) (c_product_table : PySem.W.codeIn K cd_product_table "_product_table" = true) (k_product_table : PySem.W.keepIn K (.ref f_product_table) = true)
    (a_powers_of : PySem.W.nsIn K mainGlobals "_powers_of" = some (some (.ref f_powers_of))) (l_powers_of : K.lookup f_powers_of = some ⟨oc_powers_of, od_powers_of, .func (PySem.W.fnOf "_powers_of" "_powers_of" (defArgs s_powers_of) (defBody s_powers_of) (defScope s_powers_of) .none kV_powers_of dc_powers_of pm_powers_of an_powers_of cd_powers_of ct_powers_of), sl_powers_of⟩) (c_powers_of : PySem.W.codeIn K cd_powers_of "_powers_of" = true) (k_powers_of : PySem.W.keepIn K (.ref f_powers_of) = true)
    (a_primitive_powers : PySem.W.nsIn K mainGlobals "_primitive_powers" = some (some (.ref f_primitive_powers))) (l_primitive_powers : K.lookup f_primitive_powers = some ⟨oc_primitive_powers, od_primitive_powers, .func (PySem.W.fnOf "_primitive_powers" "_primitive_powers" (defArgs s_primitive_powers) (defBody s_primitive_powers) (defScope s_primitive_powers) .none kV_primitive_powers dc_primitive_powers pm_primitive_powers an_primitive_powers cd_primitive_powers ct_primitive_powers), sl_primitive_powers⟩) (c_primitive_powers : PySem.W.codeIn K cd_primitive_powers "_primitive_powers" = true) (k_primitive_powers : PySem.W.keepIn K (.ref f_primitive_powers) = true)
    (a_is_received : PySem.W.nsIn K mainGlobals "is_received" = some (some (.ref f_is_received))) (l_is_received : K.lookup f_is_received = some ⟨oc_is_received, od_is_received, .func (PySem.W.fnOf "is_received" "is_received" (defArgs s_is_received) (defBody s_is_received) (defScope s_is_received) .none kV_is_received dc_is_received pm_is_received an_is_received (.ref c2) ct_is_received), sl_is_received⟩) (c_is_received : PySem.W.codeIn K (.ref c2) "is_received" = true) (k_is_received : PySem.W.keepIn K (.ref f_is_received) = true)
    (a_line_of : PySem.W.nsIn K mainGlobals "_line_of" = some (some (.ref f_line_of))) (l_line_of : K.lookup f_line_of = some ⟨oc_line_of, od_line_of, .func (PySem.W.fnOf "_line_of" "_line_of" (defArgs s_line_of) (defBody s_line_of) (defScope s_line_of) .none kV_line_of dc_line_of pm_line_of an_line_of cd_line_of ct_line_of), sl_line_of⟩) (c_line_of : PySem.W.codeIn K cd_line_of "_line_of" = true) (k_line_of : PySem.W.keepIn K (.ref f_line_of) = true)
    (a_format_field : PySem.W.nsIn K mainGlobals "format_field" = some (some (.ref f_format_field))) (l_format_field : K.lookup f_format_field = some ⟨oc_format_field, od_format_field, .func (PySem.W.fnOf "format_field" "format_field" (defArgs s_format_field) (defBody s_format_field) (defScope s_format_field) .none kV_format_field dc_format_field pm_format_field an_format_field cd_format_field ct_format_field), sl_format_field⟩) (c_format_field : PySem.W.codeIn K cd_format_field "format_field" = true) (k_format_field : PySem.W.keepIn K (.ref f_format_field) = true)
    (a_format_word : PySem.W.nsIn K mainGlobals "format_word" = some (some (.ref f_format_word))) (l_format_word : K.lookup f_format_word = some ⟨oc_format_word, od_format_word, .func (PySem.W.fnOf "format_word" "format_word" (defArgs s_format_word) (defBody s_format_word) (defScope s_format_word) .none kV_format_word dc_format_word pm_format_word an_format_word cd_format_word ct_format_word), sl_format_word⟩) (c_format_word : PySem.W.codeIn K cd_format_word "format_word" = true) (k_format_word : PySem.W.keepIn K (.ref f_format_word) = true)
    (a_is_number : PySem.W.nsIn K mainGlobals "_is_number" = some (some (.ref f_is_number))) (l_is_number : K.lookup f_is_number = some ⟨oc_is_number, od_is_number, .func (PySem.W.fnOf "_is_number" "_is_number" (defArgs s_is_number) (defBody s_is_number) (defScope s_is_number) .none kV_is_number dc_is_number pm_is_number an_is_number cd_is_number ct_is_number), sl_is_number⟩) (c_is_number : PySem.W.codeIn K cd_is_number "_is_number" = true) (k_is_number : PySem.W.keepIn K (.ref f_is_number) = true)
    (a_numbers_behind : PySem.W.nsIn K mainGlobals "_numbers_behind" = some (some (.ref f_numbers_behind))) (l_numbers_behind : K.lookup f_numbers_behind = some ⟨oc_numbers_behind, od_numbers_behind, .func (PySem.W.fnOf "_numbers_behind" "_numbers_behind" (defArgs s_numbers_behind) (defBody s_numbers_behind) (defScope s_numbers_behind) .none kV_numbers_behind dc_numbers_behind pm_numbers_behind an_numbers_behind cd_numbers_behind ct_numbers_behind), sl_numbers_behind⟩) (c_numbers_behind : PySem.W.codeIn K cd_numbers_behind "_numbers_behind" = true) (k_numbers_behind : PySem.W.keepIn K (.ref f_numbers_behind) = true)
    (a_field_in : PySem.W.nsIn K mainGlobals "_field_in" = some (some (.ref f_field_in))) (l_field_in : K.lookup f_field_in = some ⟨oc_field_in, od_field_in, .func (PySem.W.fnOf "_field_in" "_field_in" (defArgs s_field_in) (defBody s_field_in) (defScope s_field_in) .none kV_field_in dc_field_in pm_field_in an_field_in cd_field_in ct_field_in), sl_field_in⟩) (c_field_in : PySem.W.codeIn K cd_field_in "_field_in" = true) (k_field_in : PySem.W.keepIn K (.ref f_field_in) = true)
    (a_parse_field : PySem.W.nsIn K mainGlobals "parse_field" = some (some (.ref f_parse_field))) (l_parse_field : K.lookup f_parse_field = some ⟨oc_parse_field, od_parse_field, .func (PySem.W.fnOf "parse_field" "parse_field" (defArgs s_parse_field) (defBody s_parse_field) (defScope s_parse_field) .none kV_parse_field dc_parse_field pm_parse_field an_parse_field cd_parse_field ct_parse_field), sl_parse_field⟩) (c_parse_field : PySem.W.codeIn K cd_parse_field "parse_field" = true) (k_parse_field : PySem.W.keepIn K (.ref f_parse_field) = true)
    (a_parse_word : PySem.W.nsIn K mainGlobals "parse_word" = some (some (.ref f_parse_word))) (l_parse_word : K.lookup f_parse_word = some ⟨oc_parse_word, od_parse_word, .func (PySem.W.fnOf "parse_word" "parse_word" (defArgs s_parse_word) (defBody s_parse_word) (defScope s_parse_word) .none kV_parse_word dc_parse_word pm_parse_word an_parse_word cd_parse_word ct_parse_word), sl_parse_word⟩) (c_parse_word : PySem.W.codeIn K cd_parse_word "parse_word" = true) (k_parse_word : PySem.W.keepIn K (.ref f_parse_word) = true)
    (a_law_row : PySem.W.nsIn K mainGlobals "_law_row" = some (some (.ref f_law_row))) (l_law_row : K.lookup f_law_row = some ⟨oc_law_row, od_law_row, .func (PySem.W.fnOf "_law_row" "_law_row" (defArgs s_law_row) (defBody s_law_row) (defScope s_law_row) .none kV_law_row dc_law_row pm_law_row an_law_row cd_law_row ct_law_row), sl_law_row⟩) (c_law_row : PySem.W.codeIn K cd_law_row "_law_row" = true) (k_law_row : PySem.W.keepIn K (.ref f_law_row) = true)
    (a_law_numbers : PySem.W.nsIn K mainGlobals "_law_numbers" = some (some (.ref f_law_numbers))) (l_law_numbers : K.lookup f_law_numbers = some ⟨oc_law_numbers, od_law_numbers, .func (PySem.W.fnOf "_law_numbers" "_law_numbers" (defArgs s_law_numbers) (defBody s_law_numbers) (defScope s_law_numbers) .none kV_law_numbers dc_law_numbers pm_law_numbers an_law_numbers cd_law_numbers ct_law_numbers), sl_law_numbers⟩) (c_law_numbers : PySem.W.codeIn K cd_law_numbers "_law_numbers" = true) (k_law_numbers : PySem.W.keepIn K (.ref f_law_numbers) = true)
    (a_law_field : PySem.W.nsIn K mainGlobals "_law_field" = some (some (.ref f_law_field))) (l_law_field : K.lookup f_law_field = some ⟨oc_law_field, od_law_field, .func (PySem.W.fnOf "_law_field" "_law_field" (defArgs s_law_field) (defBody s_law_field) (defScope s_law_field) .none kV_law_field dc_law_field pm_law_field an_law_field cd_law_field ct_law_field), sl_law_field⟩) (c_law_field : PySem.W.codeIn K cd_law_field "_law_field" = true) (k_law_field : PySem.W.keepIn K (.ref f_law_field) = true)
    (a_law_order : PySem.W.nsIn K mainGlobals "_law_order" = some (some (.ref f_law_order))) (l_law_order : K.lookup f_law_order = some ⟨oc_law_order, od_law_order, .func (PySem.W.fnOf "_law_order" "_law_order" (defArgs s_law_order) (defBody s_law_order) (defScope s_law_order) .none kV_law_order dc_law_order pm_law_order an_law_order cd_law_order ct_law_order), sl_law_order⟩) (c_law_order : PySem.W.codeIn K cd_law_order "_law_order" = true) (k_law_order : PySem.W.keepIn K (.ref f_law_order) = true)
    (a_law_is_integer : PySem.W.nsIn K mainGlobals "_law_is_integer" = some (some (.ref f_law_is_integer))) (l_law_is_integer : K.lookup f_law_is_integer = some ⟨oc_law_is_integer, od_law_is_integer, .func (PySem.W.fnOf "_law_is_integer" "_law_is_integer" (defArgs s_law_is_integer) (defBody s_law_is_integer) (defScope s_law_is_integer) .none kV_law_is_integer dc_law_is_integer pm_law_is_integer an_law_is_integer cd_law_is_integer ct_law_is_integer), sl_law_is_integer⟩) (c_law_is_integer : PySem.W.codeIn K cd_law_is_integer "_law_is_integer" = true) (k_law_is_integer : PySem.W.keepIn K (.ref f_law_is_integer) = true)
    (a_law : PySem.W.nsIn K mainGlobals "law" = some (some (.ref f_law))) (l_law : K.lookup f_law = some ⟨oc_law, od_law, .func (PySem.W.fnOf "law" "law" (defArgs s_law) (defBody s_law) (defScope s_law) .none kV_law dc_law pm_law an_law cd_law ct_law), sl_law⟩) (c_law : PySem.W.codeIn K cd_law "law" = true) (k_law : PySem.W.keepIn K (.ref f_law) = true)
    (a_Field_init : PySem.W.findIn K (.ref aC) "__init__" = some (some (.ref f_Field_init))) (n_Field_init : PySem.W.isFn K (.ref f_Field_init) = true) (l_Field_init : K.lookup f_Field_init = some ⟨oc_Field_init, od_Field_init, .func (PySem.W.fnOf "__init__" "Field.__init__" (defArgs s_Field_init) (defBody s_Field_init) (defScope s_Field_init) (.ref aTv) kV_Field_init dc_Field_init pm_Field_init an_Field_init cd_Field_init ct_Field_init), sl_Field_init⟩) (c_Field_init : PySem.W.codeIn K cd_Field_init "Field.__init__" = true) (k_Field_init : PySem.W.keepIn K (.ref f_Field_init) = true)
    (a_Field_same_as : PySem.W.findIn K (.ref aC) "same_as" = some (some (.ref f_Field_same_as))) (n_Field_same_as : PySem.W.isFn K (.ref f_Field_same_as) = true) (l_Field_same_as : K.lookup f_Field_same_as = some ⟨oc_Field_same_as, od_Field_same_as, .func (PySem.W.fnOf "same_as" "Field.same_as" (defArgs s_Field_same_as) (defBody s_Field_same_as) (defScope s_Field_same_as) .none kV_Field_same_as dc_Field_same_as pm_Field_same_as an_Field_same_as cd_Field_same_as ct_Field_same_as), sl_Field_same_as⟩) (c_Field_same_as : PySem.W.codeIn K cd_Field_same_as "Field.same_as" = true) (k_Field_same_as : PySem.W.keepIn K (.ref f_Field_same_as) = true)
    (xC : PySem.W.nsIn K mainGlobals "Field" = some (some (.ref aC)))
    (x_pg : PySem.W.plainGet K aC Str.empty = true)
    (x_hd : PySem.W.hasDictIn K aC = true)
    (x_po : PySem.W.plainOver K aC = true)
    (x_sa : PySem.W.findIn K (.ref aC) "__setattr__" = some (some (.builtin "object.__setattr__")))
    (x_mk : PySem.W.makesIn K aC = true)
    (x_kc : PySem.W.keepIn K (.ref aC) = true)
    (x_n1 : PySem.W.findIn K (.ref aC) "prime" = some none)
    (x_n2 : PySem.W.findIn K (.ref aC) "modulus" = some none)
    (x_n3 : PySem.W.findIn K (.ref aC) "degree" = some none)
    (x_n4 : PySem.W.findIn K (.ref aC) "order" = some none)
    (x_n5 : PySem.W.findIn K (.ref aC) "_sums" = some none)
    (x_n6 : PySem.W.findIn K (.ref aC) "_products" = some none)
    (x_n7 : PySem.W.findIn K (.ref aC) "_negatives" = some none)
    (x_n8 : PySem.W.findIn K (.ref aC) "_powers" = some none)
    (x_n9 : PySem.W.findIn K (.ref aC) "_logs" = some none)
    (x_t1 : K.lookup aTv = some ⟨oT1, dT1, .seq #[.ref aTd] nT1, sT1⟩)
    (x_t2 : K.lookup aTd = some ⟨.type "tuple", dT2, .seq #[.int 0 tk0, .int 1 tk1] nT2, sT2⟩)
    (x_gIF : PySem.W.nsIn K mainGlobals "InvalidField" = some (some (.ref DF)))
    (z_LARGEST_PRIME : PySem.W.nsIn K mainGlobals "LARGEST_PRIME" = some (some (.int 31 t_LARGEST_PRIME)))
    (z_LARGEST_DEGREE : PySem.W.nsIn K mainGlobals "LARGEST_DEGREE" = some (some (.int 8 t_LARGEST_DEGREE)))
    (z_LARGEST_ORDER : PySem.W.nsIn K mainGlobals "LARGEST_ORDER" = some (some (.int 256 t_LARGEST_ORDER)))
    (z_GREATEST_LENGTH : PySem.W.nsIn K mainGlobals "GREATEST_LENGTH" = some (some (.int 255 t_GREATEST_LENGTH)))
    (z_MOST_DIGITS : PySem.W.nsIn K mainGlobals "MOST_DIGITS" = some (some (.int 3 t_MOST_DIGITS)))
    (z_abs : PySem.W.nsIn K mainGlobals "abs" = some none)
    (z_all : PySem.W.nsIn K mainGlobals "all" = some none)
    (z_any : PySem.W.nsIn K mainGlobals "any" = some none)
    (z_bool : PySem.W.nsIn K mainGlobals "bool" = some none)
    (z_enumerate : PySem.W.nsIn K mainGlobals "enumerate" = some none)
    (z_int : PySem.W.nsIn K mainGlobals "int" = some none)
    (z_isinstance : PySem.W.nsIn K mainGlobals "isinstance" = some none)
    (z_len : PySem.W.nsIn K mainGlobals "len" = some none)
    (z_list : PySem.W.nsIn K mainGlobals "list" = some none)
    (z_max : PySem.W.nsIn K mainGlobals "max" = some none)
    (z_min : PySem.W.nsIn K mainGlobals "min" = some none)
    (z_range : PySem.W.nsIn K mainGlobals "range" = some none)
    (z_reversed : PySem.W.nsIn K mainGlobals "reversed" = some none)
    (z_set : PySem.W.nsIn K mainGlobals "set" = some none)
    (z_sorted : PySem.W.nsIn K mainGlobals "sorted" = some none)
    (z_str : PySem.W.nsIn K mainGlobals "str" = some none)
    (z_sum : PySem.W.nsIn K mainGlobals "sum" = some none)
    (z_tuple : PySem.W.nsIn K mainGlobals "tuple" = some none)
    (z_zip : PySem.W.nsIn K mainGlobals "zip" = some none)
    : ∃ fd : FuncData, (∀ (s : Shared) (v : Value), BindsTo s fd ⟨[v], []⟩ [("script", v)]) ∧ ∀ base : Heap, K.In base → base.Ns mainGlobals mg → TabB base mg c0 Pt → TabB base mg c2 Pr → FnOk l.prog w K mg base CX0 8 fa fd ["script"] (spLawT K [Pt, Pr]) := by
  have e := hfa.symm.trans (PySem.W.mg_of X G a_law)
  cases e
  have F_int_power := fun_mk (st := s_int_power) l_int_power c_int_power k_int_power
  have b_int_power := F_int_power.binds (ps := ["base", "exponent"]) fun _ _ _ _ _ _ us hl => match us, hl with | [_, _], _ => rfl
  have g_int_power := PySem.W.mg_of X G a_int_power
  have F_is_prime := fun_mk (st := s_is_prime) l_is_prime c_is_prime k_is_prime
  have b_is_prime := F_is_prime.binds (ps := ["n"]) fun _ _ _ _ _ _ us hl => match us, hl with | [_], _ => rfl
  have g_is_prime := PySem.W.mg_of X G a_is_prime
  have F_digits_of := fun_mk (st := s_digits_of) l_digits_of c_digits_of k_digits_of
  have b_digits_of := F_digits_of.binds (ps := ["number", "base", "many"]) fun _ _ _ _ _ _ us hl => match us, hl with | [_, _, _], _ => rfl
  have g_digits_of := PySem.W.mg_of X G a_digits_of
  have F_number_of := fun_mk (st := s_number_of) l_number_of c_number_of k_number_of
  have b_number_of := F_number_of.binds (ps := ["digits", "base"]) fun _ _ _ _ _ _ us hl => match us, hl with | [_, _], _ => rfl
  have g_number_of := PySem.W.mg_of X G a_number_of
  have F_divides := fun_mk (st := s_divides) l_divides c_divides k_divides
  have b_divides := F_divides.binds (ps := ["prime", "divisor", "poly"]) fun _ _ _ _ _ _ us hl => match us, hl with | [_, _, _], _ => rfl
  have g_divides := PySem.W.mg_of X G a_divides
  have F_is_irreducible := fun_mk (st := s_is_irreducible) l_is_irreducible c_is_irreducible k_is_irreducible
  have b_is_irreducible := F_is_irreducible.binds (ps := ["prime", "modulus"]) fun _ _ _ _ _ _ us hl => match us, hl with | [_, _], _ => rfl
  have g_is_irreducible := PySem.W.mg_of X G a_is_irreducible
  have F_is_field := fun_mk (st := s_is_field) l_is_field c_is_field k_is_field
  have b_is_field := F_is_field.binds (ps := ["prime", "modulus"]) fun _ _ _ _ _ _ us hl => match us, hl with | [_, _], _ => rfl
  have g_is_field := PySem.W.mg_of X G a_is_field
  have F_sum_table := fun_mk (st := s_sum_table) l_sum_table c_sum_table k_sum_table
  have b_sum_table := F_sum_table.binds (ps := ["prime", "degree"]) fun _ _ _ _ _ _ us hl => match us, hl with | [_, _], _ => rfl
  have g_sum_table := PySem.W.mg_of X G a_sum_table
  have F_longer_sums := fun_mk (st := s_longer_sums) l_longer_sums c_longer_sums k_longer_sums
  have b_longer_sums := F_longer_sums.binds (ps := ["prime", "table"]) fun _ _ _ _ _ _ us hl => match us, hl with | [_, _], _ => rfl
  have g_longer_sums := PySem.W.mg_of X G a_longer_sums
  have F_shifted_elements := fun_mk (st := s_shifted_elements) l_shifted_elements c_shifted_elements k_shifted_elements
  have b_shifted_elements := F_shifted_elements.binds (ps := ["prime", "modulus", "sums"]) fun _ _ _ _ _ _ us hl => match us, hl with | [_, _, _], _ => rfl
  have g_shifted_elements := PySem.W.mg_of X G a_shifted_elements
  have F_product_table := fun_mk (st := s_product_table) l_product_table c_product_table k_product_table
  have b_product_table := F_product_table.binds (ps := ["prime", "modulus", "sums"]) fun _ _ _ _ _ _ us hl => match us, hl with | [_, _, _], _ => rfl
  have g_product_table := PySem.W.mg_of X G a_product_table
  have F_powers_of := fun_mk (st := s_powers_of) l_powers_of c_powers_of k_powers_of
  have b_powers_of := F_powers_of.binds (ps := ["products", "a"]) fun _ _ _ _ _ _ us hl => match us, hl with | [_, _], _ => rfl
  have g_powers_of := PySem.W.mg_of X G a_powers_of
  have F_primitive_powers := fun_mk (st := s_primitive_powers) l_primitive_powers c_primitive_powers k_primitive_powers
  have b_primitive_powers := F_primitive_powers.binds (ps := ["products"]) fun _ _ _ _ _ _ us hl => match us, hl with | [_], _ => rfl
  have g_primitive_powers := PySem.W.mg_of X G a_primitive_powers
  have F_is_received := fun_mk (st := s_is_received) l_is_received c_is_received k_is_received
  have b_is_received := F_is_received.binds (ps := ["field", "length", "received"]) fun _ _ _ _ _ _ us hl => match us, hl with | [_, _, _], _ => rfl
  have g_is_received := PySem.W.mg_of X G a_is_received
  have F_line_of := fun_mk (st := s_line_of) l_line_of c_line_of k_line_of
  have b_line_of := F_line_of.binds (ps := ["head", "numbers"]) fun _ _ _ _ _ _ us hl => match us, hl with | [_, _], _ => rfl
  have g_line_of := PySem.W.mg_of X G a_line_of
  have F_format_field := fun_mk (st := s_format_field) l_format_field c_format_field k_format_field
  have b_format_field := F_format_field.binds (ps := ["field"]) fun _ _ _ _ _ _ us hl => match us, hl with | [_], _ => rfl
  have g_format_field := PySem.W.mg_of X G a_format_field
  have F_format_word := fun_mk (st := s_format_word) l_format_word c_format_word k_format_word
  have b_format_word := F_format_word.binds (ps := ["word"]) fun _ _ _ _ _ _ us hl => match us, hl with | [_], _ => rfl
  have g_format_word := PySem.W.mg_of X G a_format_word
  have F_is_number := fun_mk (st := s_is_number) l_is_number c_is_number k_is_number
  have b_is_number := F_is_number.binds (ps := ["text"]) fun _ _ _ _ _ _ us hl => match us, hl with | [_], _ => rfl
  have g_is_number := PySem.W.mg_of X G a_is_number
  have F_numbers_behind := fun_mk (st := s_numbers_behind) l_numbers_behind c_numbers_behind k_numbers_behind
  have b_numbers_behind := F_numbers_behind.binds (ps := ["head", "lines", "at"]) fun _ _ _ _ _ _ us hl => match us, hl with | [_, _, _], _ => rfl
  have g_numbers_behind := PySem.W.mg_of X G a_numbers_behind
  have F_field_in := fun_mk (st := s_field_in) l_field_in c_field_in k_field_in
  have b_field_in := F_field_in.binds (ps := ["lines"]) fun _ _ _ _ _ _ us hl => match us, hl with | [_], _ => rfl
  have g_field_in := PySem.W.mg_of X G a_field_in
  have F_parse_field := fun_mk (st := s_parse_field) l_parse_field c_parse_field k_parse_field
  have b_parse_field := F_parse_field.binds (ps := ["text"]) fun _ _ _ _ _ _ us hl => match us, hl with | [_], _ => rfl
  have g_parse_field := PySem.W.mg_of X G a_parse_field
  have F_parse_word := fun_mk (st := s_parse_word) l_parse_word c_parse_word k_parse_word
  have b_parse_word := F_parse_word.binds (ps := ["field", "text"]) fun _ _ _ _ _ _ us hl => match us, hl with | [_, _], _ => rfl
  have g_parse_word := PySem.W.mg_of X G a_parse_word
  have F_law_row := fun_mk (st := s_law_row) l_law_row c_law_row k_law_row
  have b_law_row := F_law_row.binds (ps := ["cell", "many"]) fun _ _ _ _ _ _ us hl => match us, hl with | [_, _], _ => rfl
  have g_law_row := PySem.W.mg_of X G a_law_row
  have F_law_numbers := fun_mk (st := s_law_numbers) l_law_numbers c_law_numbers k_law_numbers
  have b_law_numbers := F_law_numbers.binds (ps := ["script", "many"]) fun _ _ _ _ _ _ us hl => match us, hl with | [_, _], _ => rfl
  have g_law_numbers := PySem.W.mg_of X G a_law_numbers
  have F_law_field := fun_mk (st := s_law_field) l_law_field c_law_field k_law_field
  have b_law_field := F_law_field.binds (ps := ["number"]) fun _ _ _ _ _ _ us hl => match us, hl with | [_], _ => rfl
  have g_law_field := PySem.W.mg_of X G a_law_field
  have F_law_order := fun_mk (st := s_law_order) l_law_order c_law_order k_law_order
  have b_law_order := F_law_order.binds (ps := ["pair"]) fun _ _ _ _ _ _ us hl => match us, hl with | [_], _ => rfl
  have g_law_order := PySem.W.mg_of X G a_law_order
  have F_law_is_integer := fun_mk (st := s_law_is_integer) l_law_is_integer c_law_is_integer k_law_is_integer
  have b_law_is_integer := F_law_is_integer.binds (ps := ["actual"]) fun _ _ _ _ _ _ us hl => match us, hl with | [_], _ => rfl
  have g_law_is_integer := PySem.W.mg_of X G a_law_is_integer
  have F_law := fun_mk (st := s_law) l_law c_law k_law
  have b_law := F_law.binds (ps := ["script"]) fun _ _ _ _ _ _ us hl => match us, hl with | [_], _ => rfl
  have g_law := PySem.W.mg_of X G a_law
  have F_Field_same_as := fun_mk (st := s_Field_same_as) l_Field_same_as c_Field_same_as k_Field_same_as
  have b_Field_same_as := F_Field_same_as.binds (ps := ["self", "other"]) fun _ _ _ _ _ _ us hl => match us, hl with | [_, _], _ => rfl
  have y_LARGEST_PRIME := PySem.W.mg_of X G z_LARGEST_PRIME
  have y_LARGEST_DEGREE := PySem.W.mg_of X G z_LARGEST_DEGREE
  have y_LARGEST_ORDER := PySem.W.mg_of X G z_LARGEST_ORDER
  have y_GREATEST_LENGTH := PySem.W.mg_of X G z_GREATEST_LENGTH
  have y_MOST_DIGITS := PySem.W.mg_of X G z_MOST_DIGITS
  have y_abs := PySem.W.mg_none_of X G z_abs
  have y_all := PySem.W.mg_none_of X G z_all
  have y_any := PySem.W.mg_none_of X G z_any
  have y_bool := PySem.W.mg_none_of X G z_bool
  have y_enumerate := PySem.W.mg_none_of X G z_enumerate
  have y_int := PySem.W.mg_none_of X G z_int
  have y_isinstance := PySem.W.mg_none_of X G z_isinstance
  have y_len := PySem.W.mg_none_of X G z_len
  have y_list := PySem.W.mg_none_of X G z_list
  have y_max := PySem.W.mg_none_of X G z_max
  have y_min := PySem.W.mg_none_of X G z_min
  have y_range := PySem.W.mg_none_of X G z_range
  have y_reversed := PySem.W.mg_none_of X G z_reversed
  have y_set := PySem.W.mg_none_of X G z_set
  have y_sorted := PySem.W.mg_none_of X G z_sorted
  have y_str := PySem.W.mg_none_of X G z_str
  have y_sum := PySem.W.mg_none_of X G z_sum
  have y_tuple := PySem.W.mg_none_of X G z_tuple
  have y_zip := PySem.W.mg_none_of X G z_zip
  refine ⟨PySem.W.fnOf "law" "law" (defArgs s_law) (defBody s_law) (defScope s_law) .none kV_law dc_law pm_law an_law cd_law ct_law, fun s v => .of_eq rfl, fun base _ _ TB TBr => ?_⟩
  have T : FTxt mg := ⟨y_len, y_abs, y_int, y_bool, y_max, y_range, y_list, y_tuple, y_isinstance, y_enumerate, y_zip, y_any, y_reversed, y_sorted, y_all, y_sum, y_min, y_set, ⟨_, y_LARGEST_PRIME⟩, ⟨_, y_LARGEST_DEGREE⟩, ⟨_, y_LARGEST_ORDER⟩⟩
  have TC : CTxt K mg aC := ⟨⟨x_pg, x_hd, x_po, x_sa⟩, PySem.W.mg_of X G xC, x_n1, x_n2, x_n3, x_n4, x_n5, x_n6, x_n7, x_n8, x_n9⟩
  have FI : FunD K "__init__" "Field.__init__" (defArgs s_Field_init) (defBody s_Field_init) (defScope s_Field_init) [V.ref aTd] [] f_Field_init (PySem.W.fnOf "__init__" "Field.__init__" (defArgs s_Field_init) (defBody s_Field_init) (defScope s_Field_init) (.ref aTv) kV_Field_init dc_Field_init pm_Field_init an_Field_init cd_Field_init ct_Field_init) :=
    ⟨⟨_, _, _, _, _, _, _, _, _, _, rfl, l_Field_init, c_Field_init, .inr ⟨by simp, aTv, _, [.ref aTd], _, rfl, x_t1, rfl, .cons rfl .nil⟩, .inl rfl⟩, k_Field_init⟩
  obtain ⟨ds2, vI2, bI2⟩ := FI.binds1 (ps := ["self", "prime", "modulus"]) 3 1 (by simp) rfl fun _ _ _ _ _ _ _ us its hl hi => match us, its, hl, hi with | [_, _, _], [_], _, _ => ⟨_, rfl, rfl⟩
  obtain rfl : ds2 = [] := by
    cases vI2
    rfl
  have d_pow : Dk l.prog w K mg base CX0 1 "int_power" ["base", "exponent"] spPow := ⟨_, _, g_int_power, k_int_power, b_int_power, ok_pow F_int_power⟩
  have d_prime : Dk l.prog w K mg base CX0 1 "is_prime" ["n"] spPrime := ⟨_, _, g_is_prime, k_is_prime, b_is_prime, ok_prime F_is_prime⟩
  have d_digs : Dk l.prog w K mg base CX0 1 "_digits_of" ["number", "base", "many"] spDigs := ⟨_, _, g_digits_of, k_digits_of, b_digits_of, ok_digs F_digits_of T⟩
  have d_div : Dk l.prog w K mg base CX0 1 "_divides" ["prime", "divisor", "poly"] (spDiv K) := ⟨_, _, g_divides, k_divides, b_divides, ok_div F_divides T⟩
  have d_irr : Dk l.prog w K mg base CX0 2 "_is_irreducible" ["prime", "modulus"] (spIrr K) := ⟨_, _, g_is_irreducible, k_is_irreducible, b_is_irreducible, ok_irr F_is_irreducible T d_pow d_digs d_div⟩
  have d_isf : Dk l.prog w K mg base CX0 3 "_is_field" ["prime", "modulus"] (spIsF K Pt) := ⟨_, _, g_is_field, k_is_field, b_is_field, ok_isf l_is_field c_is_field T TB (d_pow.up (by decide)) (d_prime.up (by decide)) d_irr⟩
  have d_long : Dk l.prog w K mg base CX0 1 "_longer_sums" ["prime", "table"] (spLong K) := ⟨_, _, g_longer_sums, k_longer_sums, b_longer_sums, ok_long F_longer_sums T⟩
  have d_sums : Dk l.prog w K mg base CX0 2 "_sum_table" ["prime", "degree"] spSums := ⟨_, _, g_sum_table, k_sum_table, b_sum_table, ok_sums F_sum_table T d_long⟩
  have d_num : Dk l.prog w K mg base CX0 1 "_number_of" ["digits", "base"] (spNum K) := ⟨_, _, g_number_of, k_number_of, b_number_of, ok_num F_number_of T⟩
  have d_shift : Dk l.prog w K mg base CX0 2 "_shifted_elements" ["prime", "modulus", "sums"] (spShift K) := ⟨_, _, g_shifted_elements, k_shifted_elements, b_shifted_elements, ok_shift F_shifted_elements T d_num⟩
  have d_prod : Dk l.prog w K mg base CX0 3 "_product_table" ["prime", "modulus", "sums"] (spProd K) := ⟨_, _, g_product_table, k_product_table, b_product_table, ok_prod F_product_table T d_shift⟩
  have d_pows : Dk l.prog w K mg base CX0 1 "_powers_of" ["products", "a"] (spPows K) := ⟨_, _, g_powers_of, k_powers_of, b_powers_of, ok_pows F_powers_of T⟩
  have d_prims : Dk l.prog w K mg base CX0 2 "_primitive_powers" ["products"] (spPrims K) := ⟨_, _, g_primitive_powers, k_primitive_powers, b_primitive_powers, ok_prims F_primitive_powers T d_pows⟩
  have OI : FnOk l.prog w K mg base CX0 4 f_Field_init _ ["self", "prime", "modulus"] (spInit K aC Pt) := ok_init (c0 := c0) FI T TC d_isf (d_pow.up (by decide)) (d_sums.up (by decide)) d_prod (d_prims.up (by decide))
  have d_row : Dk l.prog w K mg base CX0 1 "_law_row" ["cell", "many"] spRow := ⟨_, _, g_law_row, k_law_row, b_law_row, ok_row F_law_row T⟩
  have d_nums : Dk l.prog w K mg base CX0 2 "_law_numbers" ["script", "many"] (spNumbers K) := ⟨_, _, g_law_numbers, k_law_numbers, b_law_numbers, ok_numbers F_law_numbers T d_row⟩
  have d_lf : Dk l.prog w K mg base CX0 1 "_law_field" ["number"] spLFld := ⟨_, _, g_law_field, k_law_field, b_law_field, ok_lfld F_law_field T⟩
  have d_ord74 : Dk l.prog w K mg base CX0 1 "_law_order" ["pair"] spOrd74 := ⟨_, _, g_law_order, k_law_order, b_law_order, ok_ord74 F_law_order T⟩
  have d_line : Dk l.prog w K mg base CX0 1 "_line_of" ["head", "numbers"] (spLine K) := ⟨_, _, g_line_of, k_line_of, b_line_of, ok_line F_line_of T y_str⟩
  have d_fmtf : Dk l.prog w K mg base CX0 2 "format_field" ["field"] (spFmtF K aC) := ⟨_, _, g_format_field, k_format_field, b_format_field, ok_fmtf F_format_field TC d_line⟩
  have d_isnum : Dk l.prog w K mg base CX0 1 "_is_number" ["text"] spIsNum := ⟨_, _, g_is_number, k_is_number, b_is_number, ok_isnum F_is_number T y_MOST_DIGITS⟩
  have d_numb : Dk l.prog w K mg base CX0 2 "_numbers_behind" ["head", "lines", "at"] (spNumB K) := ⟨_, _, g_numbers_behind, k_numbers_behind, b_numbers_behind, ok_numb F_numbers_behind T d_isnum⟩
  have d_fldin : Dk l.prog w K mg base CX0 6 "_field_in" ["lines"] (spFldIn K aC Pt) := ⟨_, _, g_field_in, k_field_in, b_field_in, ok_fldin F_field_in T TC (PySem.W.mg_of X G x_gIF) ⟨x_mk, a_Field_init, n_Field_init, x_kc⟩ OI bI2 (d_numb.up (by decide))⟩
  have d_pfld : Dk l.prog w K mg base CX0 7 "parse_field" ["text"] (spPFld K aC Pt) := ⟨_, _, g_parse_field, k_parse_field, b_parse_field, ok_pfld F_parse_field T d_fldin⟩
  have m_same : Md l.prog w K mg base CX0 1 aC "same_as" ["self", "other"] (spMSame K aC) := ⟨_, _, ⟨a_Field_same_as, n_Field_same_as, k_Field_same_as⟩, b_Field_same_as, ok_msame F_Field_same_as T TC⟩
  have d_fmtw : Dk l.prog w K mg base CX0 1 "format_word" ["word"] (spFmtW K) := ⟨_, _, g_format_word, k_format_word, b_format_word, ok_fmtw F_format_word T y_str⟩
  have d_isr : Dk l.prog w K mg base CX0 2 "is_received" ["field", "length", "received"] (spIsR K aC Pr) := ⟨_, _, g_is_received, k_is_received, b_is_received, ok_isr l_is_received c_is_received T TC TBr⟩
  have d_pwrd : Dk l.prog w K mg base CX0 3 "parse_word" ["field", "text"] (spPWrd K aC Pr) := ⟨_, _, g_parse_word, k_parse_word, b_parse_word, ok_pwrd F_parse_word T y_GREATEST_LENGTH (d_isnum.up (by decide)) d_isr⟩
  have d_aint : Dk l.prog w K mg base CX0 1 "_law_is_integer" ["actual"] spIsInt := ⟨_, _, g_law_is_integer, k_law_is_integer, b_law_is_integer, ok_isint F_law_is_integer T⟩
  exact ok_law F_law T y_str TC ⟨x_mk, a_Field_init, n_Field_init, x_kc⟩ (OI.mono (by decide)) bI2 (d_nums.up (by decide)) (d_lf.up (by decide)) (d_ord74.up (by decide)) (d_fmtf.up (by decide)) d_pfld (m_same.up (by decide)) (d_fmtw.up (by decide)) (d_pwrd.up (by decide)) (d_aint.up (by decide))
end My
set_option Elab.async false
set_option linter.all false
open PySem PySem.W PyProof.Rows in
set_option maxRecDepth 100000 in
set_option maxHeartbeats 0 in
theorem PySem.Challenge.cw_nearestword_k74_written_fields_and_words_holds : PySem.Challenge.rw_nearestword_k74_written_fields_and_words.Holds := by
  w_on; o_law; k_head; (case hw => w_witness2)
  k_fill
  refine My.walk_tabs (l := PySem.Challenge.rw_nearestword_k74_written_fields_and_words) (n := 63) (k := 8) (x := "script") (cs := [("_is_field", 127, 123), ("is_received", 310, 306)]) rfl (by decide) rfl ⟨rfl, by decide, by decide⟩ (fun w h Y => PySem.W.kIn_of Y) ?hf ?ht ?hP ?F
  case hf => exact (My.allc (by kernel_rfl) (My.all1 (by kernel_rfl)))
  case ht => intro w; exact (My.allc (by kernel_rfl) (My.all1 (by kernel_rfl)))
  case hP => intro w; exact (My.allc (by kernel_rfl) (My.all1 (by kernel_rfl)))
  case F =>
    intro w mg fa h KX G hmg
    refine' My.tb_of2 (My.all_mk KX G hmg ?a_int_power ?l_int_power ?c_int_power ?k_int_power ?a_is_prime ?l_is_prime ?c_is_prime ?k_is_prime ?a_digits_of ?l_digits_of ?c_digits_of ?k_digits_of ?a_number_of ?l_number_of ?c_number_of ?k_number_of ?a_divides ?l_divides ?c_divides ?k_divides ?a_is_irreducible ?l_is_irreducible ?c_is_irreducible ?k_is_irreducible ?a_is_field ?l_is_field ?c_is_field ?k_is_field ?a_sum_table ?l_sum_table ?c_sum_table ?k_sum_table ?a_longer_sums ?l_longer_sums ?c_longer_sums ?k_longer_sums ?a_shifted_elements ?l_shifted_elements ?c_shifted_elements ?k_shifted_elements ?a_product_table ?l_product_table ?c_product_table ?k_product_table ?a_powers_of ?l_powers_of ?c_powers_of ?k_powers_of ?a_primitive_powers ?l_primitive_powers ?c_primitive_powers ?k_primitive_powers ?a_is_received ?l_is_received ?c_is_received ?k_is_received ?a_line_of ?l_line_of ?c_line_of ?k_line_of ?a_format_field ?l_format_field ?c_format_field ?k_format_field ?a_format_word ?l_format_word ?c_format_word ?k_format_word ?a_is_number ?l_is_number ?c_is_number ?k_is_number ?a_numbers_behind ?l_numbers_behind ?c_numbers_behind ?k_numbers_behind ?a_field_in ?l_field_in ?c_field_in ?k_field_in ?a_parse_field ?l_parse_field ?c_parse_field ?k_parse_field ?a_parse_word ?l_parse_word ?c_parse_word ?k_parse_word ?a_law_row ?l_law_row ?c_law_row ?k_law_row ?a_law_numbers ?l_law_numbers ?c_law_numbers ?k_law_numbers ?a_law_field ?l_law_field ?c_law_field ?k_law_field ?a_law_order ?l_law_order ?c_law_order ?k_law_order ?a_law_is_integer ?l_law_is_integer ?c_law_is_integer ?k_law_is_integer ?a_law ?l_law ?c_law ?k_law ?a_Field_init ?n_Field_init ?l_Field_init ?c_Field_init ?k_Field_init ?a_Field_same_as ?n_Field_same_as ?l_Field_same_as ?c_Field_same_as ?k_Field_same_as ?xC ?x_pg ?x_hd ?x_po ?x_sa ?x_mk ?x_kc ?x_n1 ?x_n2 ?x_n3 ?x_n4 ?x_n5 ?x_n6 ?x_n7 ?x_n8 ?x_n9 ?x_t1 ?x_t2 ?x_gIF ?z_LARGEST_PRIME ?z_LARGEST_DEGREE ?z_LARGEST_ORDER ?z_GREATEST_LENGTH ?z_MOST_DIGITS ?z_abs ?z_all ?z_any ?z_bool ?z_enumerate ?z_int ?z_isinstance ?z_len ?z_list ?z_max ?z_min ?z_range ?z_reversed ?z_set ?z_sorted ?z_str ?z_sum ?z_tuple ?z_zip)
    (case xC => first | k_is | rfl | k_exc | kernel_rfl)
    (case x_gIF => first | k_is | rfl | k_exc | kernel_rfl)
    (case a_int_power => first | k_is | rfl | k_exc | kernel_rfl)
    (case l_int_power => first | k_is | rfl | k_exc | kernel_rfl)
    (case c_int_power => first | k_is | rfl | k_exc | kernel_rfl)
    (case k_int_power => first | k_is | rfl | k_exc | kernel_rfl)
    (case a_is_prime => first | k_is | rfl | k_exc | kernel_rfl)
    (case l_is_prime => first | k_is | rfl | k_exc | kernel_rfl)
    (case c_is_prime => first | k_is | rfl | k_exc | kernel_rfl)
    (case k_is_prime => first | k_is | rfl | k_exc | kernel_rfl)
    (case a_digits_of => first | k_is | rfl | k_exc | kernel_rfl)
    (case l_digits_of => first | k_is | rfl | k_exc | kernel_rfl)
    (case c_digits_of => first | k_is | rfl | k_exc | kernel_rfl)
    (case k_digits_of => first | k_is | rfl | k_exc | kernel_rfl)
    (case a_number_of => first | k_is | rfl | k_exc | kernel_rfl)
    (case l_number_of => first | k_is | rfl | k_exc | kernel_rfl)
    (case c_number_of => first | k_is | rfl | k_exc | kernel_rfl)
    (case k_number_of => first | k_is | rfl | k_exc | kernel_rfl)
    (case a_divides => first | k_is | rfl | k_exc | kernel_rfl)
    (case l_divides => first | k_is | rfl | k_exc | kernel_rfl)
    (case c_divides => first | k_is | rfl | k_exc | kernel_rfl)
    (case k_divides => first | k_is | rfl | k_exc | kernel_rfl)
    (case a_is_irreducible => first | k_is | rfl | k_exc | kernel_rfl)
    (case l_is_irreducible => first | k_is | rfl | k_exc | kernel_rfl)
    (case c_is_irreducible => first | k_is | rfl | k_exc | kernel_rfl)
    (case k_is_irreducible => first | k_is | rfl | k_exc | kernel_rfl)
    (case a_is_field => first | k_is | rfl | k_exc | kernel_rfl)
    (case l_is_field => first | k_is | rfl | k_exc | kernel_rfl)
    (case c_is_field => first | k_is | rfl | k_exc | kernel_rfl)
    (case k_is_field => first | k_is | rfl | k_exc | kernel_rfl)
    (case a_sum_table => first | k_is | rfl | k_exc | kernel_rfl)
    (case l_sum_table => first | k_is | rfl | k_exc | kernel_rfl)
    (case c_sum_table => first | k_is | rfl | k_exc | kernel_rfl)
    (case k_sum_table => first | k_is | rfl | k_exc | kernel_rfl)
    (case a_longer_sums => first | k_is | rfl | k_exc | kernel_rfl)
    (case l_longer_sums => first | k_is | rfl | k_exc | kernel_rfl)
    (case c_longer_sums => first | k_is | rfl | k_exc | kernel_rfl)
    (case k_longer_sums => first | k_is | rfl | k_exc | kernel_rfl)
    (case a_shifted_elements => first | k_is | rfl | k_exc | kernel_rfl)
    (case l_shifted_elements => first | k_is | rfl | k_exc | kernel_rfl)
    (case c_shifted_elements => first | k_is | rfl | k_exc | kernel_rfl)
    (case k_shifted_elements => first | k_is | rfl | k_exc | kernel_rfl)
    (case a_product_table => first | k_is | rfl | k_exc | kernel_rfl)
    (case l_product_table => first | k_is | rfl | k_exc | kernel_rfl)
    (case c_product_table => first | k_is | rfl | k_exc | kernel_rfl)
    (case k_product_table => first | k_is | rfl | k_exc | kernel_rfl)
    (case a_powers_of => first | k_is | rfl | k_exc | kernel_rfl)
    (case l_powers_of => first | k_is | rfl | k_exc | kernel_rfl)
    (case c_powers_of => first | k_is | rfl | k_exc | kernel_rfl)
    (case k_powers_of => first | k_is | rfl | k_exc | kernel_rfl)
    (case a_primitive_powers => first | k_is | rfl | k_exc | kernel_rfl)
    (case l_primitive_powers => first | k_is | rfl | k_exc | kernel_rfl)
    (case c_primitive_powers => first | k_is | rfl | k_exc | kernel_rfl)
    (case k_primitive_powers => first | k_is | rfl | k_exc | kernel_rfl)
    (case a_is_received => first | k_is | rfl | k_exc | kernel_rfl)
    (case l_is_received => first | k_is | rfl | k_exc | kernel_rfl)
    (case c_is_received => first | k_is | rfl | k_exc | kernel_rfl)
    (case k_is_received => first | k_is | rfl | k_exc | kernel_rfl)
    (case a_line_of => first | k_is | rfl | k_exc | kernel_rfl)
    (case l_line_of => first | k_is | rfl | k_exc | kernel_rfl)
    (case c_line_of => first | k_is | rfl | k_exc | kernel_rfl)
    (case k_line_of => first | k_is | rfl | k_exc | kernel_rfl)
    (case a_format_field => first | k_is | rfl | k_exc | kernel_rfl)
    (case l_format_field => first | k_is | rfl | k_exc | kernel_rfl)
    (case c_format_field => first | k_is | rfl | k_exc | kernel_rfl)
    (case k_format_field => first | k_is | rfl | k_exc | kernel_rfl)
    (case a_format_word => first | k_is | rfl | k_exc | kernel_rfl)
    (case l_format_word => first | k_is | rfl | k_exc | kernel_rfl)
    (case c_format_word => first | k_is | rfl | k_exc | kernel_rfl)
    (case k_format_word => first | k_is | rfl | k_exc | kernel_rfl)
    (case a_is_number => first | k_is | rfl | k_exc | kernel_rfl)
    (case l_is_number => first | k_is | rfl | k_exc | kernel_rfl)
    (case c_is_number => first | k_is | rfl | k_exc | kernel_rfl)
    (case k_is_number => first | k_is | rfl | k_exc | kernel_rfl)
    (case a_numbers_behind => first | k_is | rfl | k_exc | kernel_rfl)
    (case l_numbers_behind => first | k_is | rfl | k_exc | kernel_rfl)
    (case c_numbers_behind => first | k_is | rfl | k_exc | kernel_rfl)
    (case k_numbers_behind => first | k_is | rfl | k_exc | kernel_rfl)
    (case a_field_in => first | k_is | rfl | k_exc | kernel_rfl)
    (case l_field_in => first | k_is | rfl | k_exc | kernel_rfl)
    (case c_field_in => first | k_is | rfl | k_exc | kernel_rfl)
    (case k_field_in => first | k_is | rfl | k_exc | kernel_rfl)
    (case a_parse_field => first | k_is | rfl | k_exc | kernel_rfl)
    (case l_parse_field => first | k_is | rfl | k_exc | kernel_rfl)
    (case c_parse_field => first | k_is | rfl | k_exc | kernel_rfl)
    (case k_parse_field => first | k_is | rfl | k_exc | kernel_rfl)
    (case a_parse_word => first | k_is | rfl | k_exc | kernel_rfl)
    (case l_parse_word => first | k_is | rfl | k_exc | kernel_rfl)
    (case c_parse_word => first | k_is | rfl | k_exc | kernel_rfl)
    (case k_parse_word => first | k_is | rfl | k_exc | kernel_rfl)
    (case a_law_row => first | k_is | rfl | k_exc | kernel_rfl)
    (case l_law_row => first | k_is | rfl | k_exc | kernel_rfl)
    (case c_law_row => first | k_is | rfl | k_exc | kernel_rfl)
    (case k_law_row => first | k_is | rfl | k_exc | kernel_rfl)
    (case a_law_numbers => first | k_is | rfl | k_exc | kernel_rfl)
    (case l_law_numbers => first | k_is | rfl | k_exc | kernel_rfl)
    (case c_law_numbers => first | k_is | rfl | k_exc | kernel_rfl)
    (case k_law_numbers => first | k_is | rfl | k_exc | kernel_rfl)
    (case a_law_field => first | k_is | rfl | k_exc | kernel_rfl)
    (case l_law_field => first | k_is | rfl | k_exc | kernel_rfl)
    (case c_law_field => first | k_is | rfl | k_exc | kernel_rfl)
    (case k_law_field => first | k_is | rfl | k_exc | kernel_rfl)
    (case a_law_order => first | k_is | rfl | k_exc | kernel_rfl)
    (case l_law_order => first | k_is | rfl | k_exc | kernel_rfl)
    (case c_law_order => first | k_is | rfl | k_exc | kernel_rfl)
    (case k_law_order => first | k_is | rfl | k_exc | kernel_rfl)
    (case a_law_is_integer => first | k_is | rfl | k_exc | kernel_rfl)
    (case l_law_is_integer => first | k_is | rfl | k_exc | kernel_rfl)
    (case c_law_is_integer => first | k_is | rfl | k_exc | kernel_rfl)
    (case k_law_is_integer => first | k_is | rfl | k_exc | kernel_rfl)
    (case a_law => first | k_is | rfl | k_exc | kernel_rfl)
    (case l_law => first | k_is | rfl | k_exc | kernel_rfl)
    (case c_law => first | k_is | rfl | k_exc | kernel_rfl)
    (case k_law => first | k_is | rfl | k_exc | kernel_rfl)
    (case a_Field_init => first | k_is | rfl | k_exc | kernel_rfl)
    (case n_Field_init => first | k_is | rfl | k_exc | kernel_rfl)
    (case l_Field_init => first | k_is | rfl | k_exc | kernel_rfl)
    (case c_Field_init => first | k_is | rfl | k_exc | kernel_rfl)
    (case k_Field_init => first | k_is | rfl | k_exc | kernel_rfl)
    (case a_Field_same_as => first | k_is | rfl | k_exc | kernel_rfl)
    (case n_Field_same_as => first | k_is | rfl | k_exc | kernel_rfl)
    (case l_Field_same_as => first | k_is | rfl | k_exc | kernel_rfl)
    (case c_Field_same_as => first | k_is | rfl | k_exc | kernel_rfl)
    (case k_Field_same_as => first | k_is | rfl | k_exc | kernel_rfl)
    (case x_pg => first | k_is | rfl | k_exc | kernel_rfl)
    (case x_hd => first | k_is | rfl | k_exc | kernel_rfl)
    (case x_po => first | k_is | rfl | k_exc | kernel_rfl)
    (case x_sa => first | k_is | rfl | k_exc | kernel_rfl)
    (case x_mk => first | k_is | rfl | k_exc | kernel_rfl)
    (case x_kc => first | k_is | rfl | k_exc | kernel_rfl)
    (case x_n1 => first | k_is | rfl | k_exc | kernel_rfl)
    (case x_n2 => first | k_is | rfl | k_exc | kernel_rfl)
    (case x_n3 => first | k_is | rfl | k_exc | kernel_rfl)
    (case x_n4 => first | k_is | rfl | k_exc | kernel_rfl)
    (case x_n5 => first | k_is | rfl | k_exc | kernel_rfl)
    (case x_n6 => first | k_is | rfl | k_exc | kernel_rfl)
    (case x_n7 => first | k_is | rfl | k_exc | kernel_rfl)
    (case x_n8 => first | k_is | rfl | k_exc | kernel_rfl)
    (case x_n9 => first | k_is | rfl | k_exc | kernel_rfl)
    (case x_t1 => first | k_is | rfl | k_exc | kernel_rfl)
    (case x_t2 => first | k_is | rfl | k_exc | kernel_rfl)
    (case z_LARGEST_PRIME => first | k_is | rfl | k_exc | kernel_rfl)
    (case z_LARGEST_DEGREE => first | k_is | rfl | k_exc | kernel_rfl)
    (case z_LARGEST_ORDER => first | k_is | rfl | k_exc | kernel_rfl)
    (case z_GREATEST_LENGTH => first | k_is | rfl | k_exc | kernel_rfl)
    (case z_MOST_DIGITS => first | k_is | rfl | k_exc | kernel_rfl)
    (case z_abs => first | k_is | rfl | k_exc | kernel_rfl)
    (case z_all => first | k_is | rfl | k_exc | kernel_rfl)
    (case z_any => first | k_is | rfl | k_exc | kernel_rfl)
    (case z_bool => first | k_is | rfl | k_exc | kernel_rfl)
    (case z_enumerate => first | k_is | rfl | k_exc | kernel_rfl)
    (case z_int => first | k_is | rfl | k_exc | kernel_rfl)
    (case z_isinstance => first | k_is | rfl | k_exc | kernel_rfl)
    (case z_len => first | k_is | rfl | k_exc | kernel_rfl)
    (case z_list => first | k_is | rfl | k_exc | kernel_rfl)
    (case z_max => first | k_is | rfl | k_exc | kernel_rfl)
    (case z_min => first | k_is | rfl | k_exc | kernel_rfl)
    (case z_range => first | k_is | rfl | k_exc | kernel_rfl)
    (case z_reversed => first | k_is | rfl | k_exc | kernel_rfl)
    (case z_set => first | k_is | rfl | k_exc | kernel_rfl)
    (case z_sorted => first | k_is | rfl | k_exc | kernel_rfl)
    (case z_str => first | k_is | rfl | k_exc | kernel_rfl)
    (case z_sum => first | k_is | rfl | k_exc | kernel_rfl)
    (case z_tuple => first | k_is | rfl | k_exc | kernel_rfl)
    (case z_zip => first | k_is | rfl | k_exc | kernel_rfl)
#print axioms PySem.Challenge.cw_nearestword_k74_written_fields_and_words_holds
