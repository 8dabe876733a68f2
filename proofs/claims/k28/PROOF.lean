import PyProof.Rows.All
import Wide.All
import OpenK.AllK
import Wide.FinOn
import HandS.ForMost
import HandS.Evl
import HandS.Wide
import HandS.IsInst
import HandS.SetFor
import HandS.Zip
import HandS.Walk
import HandS.HotCalls
import HandS.ExcIs
import HandS.WordsExc
import HandS.AnyAll
import HandS.Nested
import PyProof.WalksMore
import KE.KMathGC
import HandS.Gcd
import HandS.WideBits
import HandS.DictComp
import HandS.Rev
import HandS.ExcOwn
import KE.KEqDeep
import HandS.Conv
import HandS.EndTab
import KE.KNest
import PySem.Challenge.RW_nearestword_k28_dual_counts_of_any_order
set_option Elab.async false
set_option linter.all false
set_option maxRecDepth 100000
set_option maxHeartbeats 1000000
namespace My
open PySem L2 Evl

/-- a def of the text under its name, with its promise -/
structure Dk (P : Program) (w : World) (K : PySem.W.Frag) (mg : Str → Option Value) (base : Heap) (CX : CXT) (k : Nat) (x : Str) (ps : List Str) (sp : Sp) : Prop where
  ex : ∃ (f : Addr) (fd : FuncData), mg x = some (.ref f) ∧ PySem.W.keepIn K (.ref f) = true ∧ Binds K fd ps [] ∧ FnOk P w K mg base CX k f fd ps sp

theorem Dk.up {P : Program} {w : World} {K : PySem.W.Frag} {mg : Str → Option Value} {base : Heap} {CX : CXT} {j k : Nat} {x : Str} {ps : List Str} {sp : Sp} (d : Dk P w K mg base CX j x ps sp) (h : j ≤ k) : Dk P w K mg base CX k x ps sp := by
  obtain ⟨f, fd, a, b, c, F⟩ := d.ex
  exact ⟨f, fd, a, b, c, F.mono h⟩

theorem pe_cd {X : Cx} {k : Nat} {x : Str} {ps : List Str} {sp : Sp} {e : Expr} {es : List Expr} {t : TA} {p pos : Pos}
    (d : Dk X.prog X.w X.K X.mg X.base CX0 k x ps sp) (hr : Room k X.A) (hg : Gl X x) (ha : PA X (e :: es) t)
    (hdb : (x == ("__debug__" : Str)) = false := by decide)
    (he : starEach (e :: es) X.env = (false, eval e X.env) :: starEach es X.env := by rfl)
    (hpl : (backTo pos (starEach es X.env)).any (·.1) = false := by rfl) :
    PE X (.Call (.Name x p) (e :: es) [] pos) (tCall sp [] E0 t) := by
  obtain ⟨f, fd, g, kp, b, F⟩ := d.ex
  exact pe_call F hr hg g kp b .nil pass0 ha hdb he hpl

section
variable {K : PySem.W.Frag} {σ : L2.St} {H H' : Hp} {ta tb te tx : TE} {t u : TT} {x y z v : V} {D : Ends} {tu tw tz : TS} {g : TG}

/-- a statement that stores what a call hands back, the promise as it is -/
theorem q_asgC {i : Nat} {sp : Sp} {E : XK} {tr : TA} {vs : List V} (h : EvA tr σ H vs)
    (k : ∀ H1, Ex H H1 → sp vs H1 (fun v H2 => tz D (σ.set i (some v)) H2) E) : tSeq (tAsg (tCall sp [] E tr) (gName i)) tz D σ H := by
  refine h H (Ex.refl H) _ fun H1 e1 => ?_
  rw [List.append_nil]
  exact k H1 e1

/-- a call as a statement -/
theorem q_dropC {sp : Sp} {E : XK} {tr : TA} {vs : List V} (h : EvA tr σ H vs)
    (k : ∀ H1, Ex H H1 → sp vs H1 (fun _ H2 => tz D σ H2) E) : tSeq (tDrop (tCall sp [] E tr)) tz D σ H := by
  refine h H (Ex.refl H) _ fun H1 e1 => ?_
  rw [List.append_nil]
  exact k H1 e1
/-- a loop over what a call hands back -/
theorem s_forC {j : Nat} {sp : Sp} {E : XK} {tr : TA} {vs : List V} (h : EvA tr σ H vs)
    (k : ∀ H1, Ex H H1 → sp vs H1 (fun v H2 => ∃ a, v = .ref a ∧ (∃ xs, SqL K H2 a xs) ∧ tFor (fun _ H R => R (Itl K a) H) (gName j) tu D σ H2) E) :
    tFor (iList K (tCall sp [] E tr)) (gName j) tu D σ H := by
  refine h H (Ex.refl H) _ fun H1 e1 => ?_
  rw [List.append_nil]
  exact k H1 e1

theorem rc_int {i : Int} : RC (fun xs H Q => (∃ i, xs = [.int i] ∧ Q (.int i) H) ∨ ∃ k, xs = [.bl k] ∧ Q (.int (if k then 1 else 0)) H) [.int i] H (.int i) :=
  fun H1 _ _ q => .inl ⟨i, rfl, q H1 (Ex.refl H1)⟩
theorem rc_abs {i : Int} : RC (fun xs H Q => ∃ i, xs = [.int i] ∧ Q (.int (if i < 0 then -i else i)) H) [.int i] H (.int (if i < 0 then -i else i)) :=
  fun H1 _ _ q => ⟨i, rfl, q H1 (Ex.refl H1)⟩
theorem rc_max2 {i j : Int} : RC (fun xs H Q => ∃ i j, xs = [.int i, .int j] ∧ Q (.int (if j > i then j else i)) H) [.int i, .int j] H (.int (if j > i then j else i)) :=
  fun H1 _ _ q => ⟨i, j, rfl, q H1 (Ex.refl H1)⟩
theorem rc_len {a : Addr} {xs : List V} (h : SqL K H a xs) : RC (fun xs H Q => ∃ p ys, xs = [.ref p] ∧ (SqL K H p ys ∨ SqT K H p ys) ∧ Q (.int ys.length) H) [.ref a] H (.int xs.length) :=
  fun H1 e _ q => ⟨a, xs, rfl, .inl (ex_l e h), q H1 (Ex.refl H1)⟩
theorem rc_isiInt {i : Int} {T : String} {b : Bool} (h : kitB "int" T = some b) : RC (rIsi K) [.int i, .ty T] H (.bl b) := fun H1 _ _ q =>
  ⟨.int i, .ty T, .type "int", .type T, b, rfl, .ty T, .base (.int i), kit_ty h, q H1 (Ex.refl H1)⟩
theorem rc_isiLst {a : Addr} {xs : List V} {T : String} {b : Bool} (ha : H a = some (.lst xs)) (h : kitB "list" T = some b) : RC (rIsi K) [.ref a, .ty T] H (.bl b) := fun H1 e _ q =>
  ⟨.ref a, .ty T, .type "list", .type T, b, rfl, .ty T, .base (.lst (e a _ ha)), kit_ty h, q H1 (Ex.refl H1)⟩
end

/-- a drawn number -/
def Bd (ns : List Int) : Prop := ∀ n ∈ ns, 0 ≤ n ∧ n < 1009
theorem Bd.nil : Bd [] := fun _ h => by simp at h
theorem Bd.snoc {ns : List Int} {n : Int} (h : Bd ns) (h0 : 0 ≤ n) (h1 : n < 1009) : Bd (ns ++ [n]) := fun m hm => by
  rcases List.mem_append.mp hm with q | q
  · exact h m q
  · rw [List.mem_singleton.mp q]
    exact ⟨h0, h1⟩
theorem map_snoc {ns : List Int} {n : Int} : (ns ++ [n]).map V.int = ns.map V.int ++ [V.int n] := by
  rw [List.map_append]
  rfl
theorem sq_ex {K : PySem.W.Frag} {H0 H1 : Hp} {p : Addr} {xs : List V} (h : H0 p = some (.lst xs)) (e : Ex H0 H1) : SqL K H1 p xs := sq_of (e _ _ h)
/-! within a comprehension: the written part said by its name -/
theorem ix_listK {X : Cx} {K : PySem.W.Frag} (h : X.K = K) : IxR X (rIxL K) := h ▸ ix_list
theorem sl_listK {X : Cx} {K : PySem.W.Frag} (h : X.K = K) : SlR X (rSlL K) := h ▸ sl_list
theorem call_lenK {X : Cx} {K : PySem.W.Frag} (h : X.K = K) : CallR X (.builtin "len") (fun xs H Q => ∃ p ys, xs = [.ref p] ∧ (SqL K H p ys ∨ SqT K H p ys) ∧ Q (.int ys.length) H) := h ▸ call_len_seq
theorem pg_tupK {X : Cx} {K : PySem.W.Frag} {es : List Expr} {k n : Nat} {t : TGs} {pos : Pos} (hK : X.K = K) (hc : X.calm = true) (h : PGs X es t)
    (hn : (assignEach es X.env).length = n := by rfl) (hst : (assignEach es X.env).findIdx? (·.1) = none := by rfl) : PG X (.Tuple es k pos) (gTup K n t) := hK ▸ pg_tup hc h hn hst
theorem cut_pre (xs : List V) (n : Nat) : cutV xs none (some (n : Int)) = xs.take n := by
  unfold cutV
  rw [HT.sIx_none, HT.sIx_nat, List.drop_zero, Nat.sub_zero]
  rcases Nat.le_total n xs.length with h | h
  · rw [Nat.min_eq_left h]
  · rw [Nat.min_eq_right h, List.take_of_length_le h, List.take_of_length_le (Nat.le_refl _)]
theorem at_int {ns : List Int} {z : Int} (h0 : 0 ≤ z) (h1 : z < ns.length) : atI (ns.map V.int) z = some (.int (ns.getD z.toNat 0)) := by
  have e : z = ((z.toNat : Nat) : Int) := by omega
  have hl : z.toNat < ns.length := by omega
  refine at_of e ?_
  rw [List.getElem?_map, List.getElem?_eq_getElem hl, List.getD_eq_getElem?_getD, List.getElem?_eq_getElem hl]
  rfl
theorem at_nat' {xs : List V} {i : Nat} (h : i < xs.length) : atI xs (i : Int) = some (xs[i]) := atI_nat (List.getElem?_eq_getElem h)
theorem Bd.getD {ns : List Int} (h : Bd ns) (j : Nat) : 0 ≤ ns.getD j 0 ∧ ns.getD j 0 < 1009 := by
  rw [List.getD_eq_getElem?_getD]
  cases e : ns[j]? with
  | none => exact ⟨by decide, by decide⟩
  | some z => exact h z (List.mem_of_getElem? e)
theorem Bd.take {ns : List Int} (h : Bd ns) (j : Nat) : Bd (ns.take j) := fun n hn => h n (List.mem_of_mem_take hn)

section
variable {K : PySem.W.Frag} {σ : L2.St} {H : Hp} {te : TE} {t : TT} {wi : TI} {g : TG} {J : It} {G : Hp → Prop} {n : Nat} {vs : List Nat} {xf yf : Nat → Option V}
/-- a comprehension over pairs (enumerate, zip) -/
theorem el_lcP (hwi : ∀ H1, Ex H H1 → ∀ R : It → Hp → Prop, (∀ H2, Ex H1 H2 → R J H2) → wi σ H1 R) (w : Walk J n G (YPair xf yf)) (hG : ∀ H1, Ex H H1 → G H1) (hn : n ≤ 40000)
    (σ2 : V → V → L2.St) (hgt : ∀ T x y H' (Q' : L2.St → Hp → Prop), H' T = some (.tup [x, y]) → Q' (σ2 x y) H' → g (.ref T) (wipe σ vs) H' Q') (hw : ∀ x y, wipe (σ2 x y) vs = wipe σ vs)
    (f : Nat → Bool) (v : Nat → V) (ht : ∀ i x y H1, Ex H H1 → xf i = some x → yf i = some y → EvT t (σ2 x y) H1 (f i))
    (he : ∀ i x y H1, Ex H H1 → xf i = some x → yf i = some y → f i = true → Ev te (σ2 x y) H1 (v i)) : EvL (tLc wi g t te vs) σ H (given n f v) := fun H0 e Q q =>
  hwi H0 e _ fun H1 e1 => fun Dl hD => lc_it w (Cw H1 f v Dl) ⟨hD, Ex.new hD, upd_same⟩ (fun i H' _ p => hG H' ((e.trans e1).trans p.2.1)) (fun i x H' H'' hi p y => by
    obtain ⟨T, x1, y1, rfl, hT, rfl, hx, hy⟩ := y
    have eT : Ex H' (upd H' T (.tup [x1, y1])) := Ex.new hT
    have p' : Cw H1 f v Dl i (upd H' T (.tup [x1, y1])) := ⟨p.1, p.2.1.trans eT, eT _ _ p.2.2⟩
    have e9 : Ex H H1 := e.trans e1
    refine hgt T x1 y1 _ _ upd_same ⟨hw _ _, ?_⟩
    exact cw_turn p' (by omega) (ht i x1 y1 H1 e9 hx hy) (he i x1 y1 H1 e9 hx hy)) (fun H' p => q Dl H' (fresh_back e1 p.1) (e1.trans p.2.1) p.2.2)
end
end My
set_option linter.all false
set_option maxRecDepth 100000
namespace My
open PySem L2 Evl
theorem CMul_bdl {ns : List Int} {j : Nat} {z : Int} (h : Bd ns) : CMul (ns.getD j 0) z := by
  have := h.getD j
  exact .inl ⟨by omega, by omega⟩
theorem CMul_bdr {ns : List Int} {j : Nat} {z : Int} (h : Bd ns) : CMul z (ns.getD j 0) := by
  have := h.getD j
  exact .inr ⟨by omega, by omega⟩
/-- which places are chosen -/
def sel (n : Nat) (f : Nat → Bool) : List Int := ((List.range n).filter f).map fun (i : Nat) => (i : Int)
theorem sel_zero {f : Nat → Bool} : sel 0 f = [] := rfl
theorem sel_yes {n : Nat} {f : Nat → Bool} (h : f n = true) : sel (n + 1) f = sel n f ++ [(n : Int)] := by
  unfold sel
  rw [List.range_succ, List.filter_append, List.map_append, List.filter_cons, if_pos h] <;> rfl
theorem sel_no {n : Nat} {f : Nat → Bool} (h : f n = false) : sel (n + 1) f = sel n f := by
  unfold sel
  rw [List.range_succ, List.filter_append, List.map_append, List.filter_cons, if_neg (by rw [h]; decide)]
  show _ ++ [] = _
  rw [List.append_nil]
theorem sel_len (n : Nat) (f : Nat → Bool) : (sel n f).length ≤ n := by
  unfold sel
  rw [List.length_map]
  have h := List.length_filter_le f (List.range n)
  rwa [List.length_range] at h
theorem given_sel (n : Nat) (f : Nat → Bool) : given n f (fun i => .int (i : Int)) = (sel n f).map V.int := by
  unfold given sel
  rw [List.map_map]
  rfl
theorem given_len' (n : Nat) (f : Nat → Bool) (v : Nat → V) : (given n f v).length = (sel n f).length := by
  unfold given sel
  rw [List.length_map, List.length_map]
theorem given_all (n : Nat) (v : Nat → Int) : given n (fun _ => true) (fun i => .int (v i)) = ((List.range n).map v).map V.int := by
  unfold given
  rw [List.filter_eq_self.mpr (fun _ _ => rfl), List.map_map]
  rfl
theorem sel_count (fs : List Int) : ∀ n, n ≤ fs.length → ((sel n fun i => !decide (fs.getD i 0 = 0)).length : Int) + (((fs.take n).count 0 : Nat) : Int) = (n : Int)
  | 0, _ => by simp [sel]
  | n + 1, h => by
    have ih := sel_count fs n (by omega)
    have hn : n < fs.length := by omega
    have hg : fs.getD n 0 = fs[n] := by rw [List.getD_eq_getElem?_getD, List.getElem?_eq_getElem hn]; rfl
    rw [List.take_add_one, List.getElem?_eq_getElem hn, Option.toList_some, List.count_append]
    by_cases h0 : fs[n] = 0
    · have hf : (!decide (fs.getD n 0 = 0)) = false := by rw [hg, h0]; rfl
      have e1 : List.count (0 : Int) [fs[n]] = 1 := by rw [h0]; rfl
      rw [sel_no (f := fun i => !decide (fs.getD i 0 = 0)) hf, e1]
      omega
    · have hf : (!decide (fs.getD n 0 = 0)) = true := by rw [hg, decide_eq_false h0]; rfl
      have e1 : List.count (0 : Int) [fs[n]] = 0 := by
        rw [List.count_cons, List.count_nil, if_neg]
        intro q
        exact h0 (eq_of_beq q)
      rw [sel_yes (f := fun i => !decide (fs.getD i 0 = 0)) hf, e1, List.length_append, List.length_singleton]
      omega
/-- an item of a received word -/
def oV : Option Int → V
  | none => .non
  | some z => .int z
theorem oV_non (r : Option Int) : decide (oV r = .non) = r.isNone := by
  cases r with
  | none => exact decide_eq_true rfl
  | some z => exact decide_eq_false (fun h => by cases h)
theorem et_yes {σ : L2.St} {H : Hp} : EvT tYes σ H true := fun H1 _ _ q => q H1 (Ex.refl H1)
theorem rv_isN {x : V} {H : Hp} : RV (fun x y H Q => y = .non ∧ Q (.bl (decide (x = .non))) H) x .non H (.bl (decide (x = .non))) := fun H1 _ _ q => ⟨rfl, q H1 (Ex.refl H1)⟩
theorem rv_notN {x : V} {H : Hp} : RV (fun x y H Q => y = .non ∧ Q (.bl (!decide (x = .non))) H) x .non H (.bl (!decide (x = .non))) := fun H1 _ _ q => ⟨rfl, q H1 (Ex.refl H1)⟩
end My
namespace My
open PySem L2 Evl
theorem dec_int (x y : Int) : decide (V.int x = V.int y) = decide (x = y) := by
  by_cases h : x = y
  · rw [decide_eq_true h, h, decide_eq_true rfl]
  · rw [decide_eq_false h, decide_eq_false (fun q => h (V.int.inj q))]
theorem scal_oV (r : Option Int) (x : Int) : scal (oV r) (.int x) = true := by cases r <;> rfl
def fD (fs ss : List Int) (i : Nat) : Bool := !decide (fs.getD i 0 = ss.getD i 0)
def fE (fs : List Int) (rs : List (Option Int)) (i : Nat) : Bool := !(rs.getD i none).isNone && !decide (oV (rs.getD i none) = .int (fs.getD i 0))
def fN (rs : List (Option Int)) (i : Nat) : Bool := (rs.getD i none).isNone
def fS (fs : List Int) (i : Nat) : Bool := !decide (fs.getD i 0 = 0)
theorem at_oV {rs : List (Option Int)} {i : Nat} (h : i < rs.length) : atI (rs.map oV) (i : Int) = some (oV (rs.getD i none)) := by
  refine atI_nat ?_
  rw [List.getElem?_map, List.getElem?_eq_getElem h, List.getD_eq_getElem?_getD, List.getElem?_eq_getElem h]
  rfl
theorem at_intN {ns : List Int} {i : Nat} (h : i < ns.length) : atI (ns.map V.int) (i : Int) = some (.int (ns.getD i 0)) := by
  refine atI_nat ?_
  rw [List.getElem?_map, List.getElem?_eq_getElem h, List.getD_eq_getElem?_getD, List.getElem?_eq_getElem h]
  rfl
theorem sel_lenYes {n : Nat} {f : Nat → Bool} (h : f n = true) : ((sel (n + 1) f).length : Int) = (sel n f).length + 1 := by
  rw [sel_yes h, List.length_append, List.length_singleton]
  omega
end My

namespace My
theorem dec_nat (m n : Nat) : decide ((m : Int) = (n : Int)) = decide (m = n) := by
  by_cases h : m = n
  · rw [decide_eq_true h, decide_eq_true (by omega)]
  · rw [decide_eq_false h, decide_eq_false (by omega)]
end My
set_option linter.all false
set_option maxRecDepth 100000
namespace My
open PySem L2 Evl
section
variable {K : PySem.W.Frag} {σ : L2.St} {H H' : Hp} {ta tb te tx : TE} {t u : TT} {x y z v : V} {D : Ends} {tu tw tz : TS} {g : TG}
theorem q_asgCg {sp : Sp} {E : XK} {tr : TA} {vs : List V} (h : EvA tr σ H vs)
    (k : ∀ H1, Ex H H1 → sp vs H1 (fun v H2 => g v σ H2 (fun σ2 H3 => tz D σ2 H3)) E) : tSeq (tAsg (tCall sp [] E tr) g) tz D σ H := by
  refine h H (Ex.refl H) _ fun H1 e1 => ?_
  rw [List.append_nil]
  exact k H1 e1
/-- [list(a), list(b), list(c)] -/
theorem q_lists3 {a b c : Addr} {xs ys zs : List V} {ia ib ic i : Nat} (ha : σ[ia]? = some (some (.ref a))) (hb : σ[ib]? = some (some (.ref b))) (hc : σ[ic]? = some (some (.ref c))) (hA : SqL K H a xs) (hB : SqL K H b ys) (hC : SqL K H c zs)
    (k : ∀ p l1 l2 l3 H1, Ex H H1 → H p = none → H1 p = some (.lst [.ref l1, .ref l2, .ref l3]) → H1 l1 = some (.lst xs) → H1 l2 = some (.lst ys) → H1 l3 = some (.lst zs) → tz D (σ.set i (some (.ref p))) H1) :
    tSeq (tAsg (tLst (tCons (tCB (rListS K) (tCons (tVar ia) tNil)) (tCons (tCB (rListS K) (tCons (tVar ib) tNil)) (tCons (tCB (rListS K) (tCons (tVar ic) tNil)) tNil)))) (gName i)) tz D σ H := by
  refine ⟨_, ha, a, xs, rfl, .inl hA, fun l1 n1 => ?_⟩
  have e1 : Ex H (upd H l1 (.lst xs)) := Ex.new n1
  refine ⟨_, hb, b, ys, rfl, .inl (ex_l e1 hB), fun l2 n2 => ?_⟩
  have e2 : Ex (upd H l1 (.lst xs)) (upd (upd H l1 (.lst xs)) l2 (.lst ys)) := Ex.new n2
  refine ⟨_, hc, c, zs, rfl, .inl (ex_l (e1.trans e2) hC), fun l3 n3 => ?_⟩
  have e3 := Ex.new (o := .lst zs) n3
  refine ⟨by show 3 ≤ sizeLine; exact sz_of (by decide), fun p np => ?_⟩
  have e4 := Ex.new (o := .lst [.ref l1, .ref l2, .ref l3]) np
  exact k p l1 l2 l3 _ (((e1.trans e2).trans e3).trans e4) (fresh_back ((e1.trans e2).trans e3) np) upd_same (e4 _ _ (e3 _ _ (e2 _ _ upd_same))) (e4 _ _ (e3 _ _ upd_same)) (e4 _ _ upd_same)
theorem el_cat {l : Addr} {xs ys : List V} (ha : Ev ta σ H (.ref l)) (hl : H l = some (.lst xs)) (hb : EvL tb σ H ys) (hz : xs.length + ys.length ≤ 100000) : EvL (tOp rCat ta tb) σ H (xs ++ ys) := fun H1 e Q q =>
  ha H1 e _ fun H2 e2 => hb H2 (e.trans e2) _ fun p H3 np e3 hp => ⟨l, p, xs, ys, rfl, rfl, e3 _ _ (e2 _ _ (e _ _ hl)), hp, sz_of hz, fun r nr => q r _ (fresh_back (e2.trans e3) nr) ((e2.trans e3).trans (Ex.new nr)) upd_same⟩
theorem el_rep {xs : List V} {n : Int} (ha : EvL ta σ H xs) (hb : Ev tb σ H (.int n)) (h0 : 0 ≤ n ∧ n ≤ 100000) (hz : xs.length * n.toNat ≤ 100000) : EvL (tOp rRep ta tb) σ H (List.replicate n.toNat xs).flatten := fun H1 e Q q =>
  ha H1 e _ fun p H2 np e2 hp => hb H2 (e.trans e2) _ fun H3 e3 => ⟨p, n, xs, rfl, rfl, e3 _ _ hp, by omega, by omega, sz_of hz, fun r nr => q r _ (fresh_back (e2.trans e3) nr) ((e2.trans e3).trans (Ex.new nr)) upd_same⟩
end
theorem cut_last (xs : List V) : cutV xs none (some (-1)) = xs.take (xs.length - 1) := by
  unfold cutV
  rw [HT.sIx_none, List.drop_zero, Nat.sub_zero]
  congr 1
  show (if (-1 : Int) < 0 then ((-1 : Int) + (xs.length : Int)).toNat else min (-1 : Int).toNat xs.length) = xs.length - 1
  rw [if_pos (by decide)]
  omega
theorem fD_comm (fs ss : List Int) : fD fs ss = fD ss fs := by
  funext i
  unfold fD
  by_cases h : fs.getD i 0 = ss.getD i 0
  · rw [decide_eq_true h, decide_eq_true h.symm]
  · rw [decide_eq_false h, decide_eq_false (fun q => h q.symm)]
/-! data: flat lists, a list of flat lists -/
def oP : Option Int → PyData
  | none => .none
  | some z => .int z
theorem dp_ints {K : PySem.W.Frag} {H : Hp} : ∀ ns : List Int, DpAll K H (ns.map V.int) (ns.map PyData.int)
  | [] => .nil
  | n :: r => .cons (.int n) (dp_ints r)
theorem dp_opts {K : PySem.W.Frag} {H : Hp} : ∀ rs : List (Option Int), DpAll K H (rs.map oV) (rs.map oP)
  | [] => .nil
  | none :: r => .cons .non (dp_opts r)
  | some z :: r => .cons (.int z) (dp_opts r)
theorem lay_ints : ∀ ns : List Int, PyData.canLayAll0 (ns.map PyData.int) = true
  | [] => by simp [PyData.canLayAll0]
  | n :: r => by simp [PyData.canLayAll0, PyData.canLay0, lay_ints r]
theorem lay_opts : ∀ rs : List (Option Int), PyData.canLayAll0 (rs.map oP) = true
  | [] => by simp [PyData.canLayAll0]
  | none :: r => by simp [PyData.canLayAll0, PyData.canLay0, oP, lay_opts r]
  | some z :: r => by simp [PyData.canLayAll0, PyData.canLay0, oP, lay_opts r]
theorem dep_ints : ∀ ns : List Int, PyData.depthAll (ns.map PyData.int) ≤ 1
  | [] => by simp [PyData.depthAll]
  | n :: r => by
    have := dep_ints r
    simp [PyData.depthAll, PyData.depth]
    omega
theorem dep_opts : ∀ rs : List (Option Int), PyData.depthAll (rs.map oP) ≤ 1
  | [] => by simp [PyData.depthAll]
  | none :: r => by
    have := dep_opts r
    simp [PyData.depthAll, PyData.depth, oP]
    omega
  | some z :: r => by
    have := dep_opts r
    simp [PyData.depthAll, PyData.depth, oP]
    omega
def dat3 (fs ss : List Int) (rs : List (Option Int)) : PyData := .list [.list (fs.map .int), .list (ss.map .int), .list (rs.map oP)]
theorem dat3_shaped (fs ss : List Int) (rs : List (Option Int)) : SeqAt.shaped (dat3 fs ss rs) = true := by
  have h1 := dep_ints fs
  have h2 := dep_ints ss
  have h3 := dep_opts rs
  unfold SeqAt.shaped dat3
  rw [Bool.and_eq_true]
  refine ⟨?_, decide_eq_true ?_⟩
  · simp [PyData.canLay0, PyData.canLayAll0, lay_ints, lay_opts]
  · simp [PyData.depth, PyData.depthAll]
    omega
theorem dat3_dp {K : PySem.W.Frag} {H : Hp} {p l1 l2 l3 : Addr} {fs ss : List Int} {rs : List (Option Int)} (hp : SqL K H p [.ref l1, .ref l2, .ref l3]) (h1 : SqL K H l1 (fs.map V.int)) (h2 : SqL K H l2 (ss.map V.int)) (h3 : SqL K H l3 (rs.map oV)) : Dp K H (.ref p) (dat3 fs ss rs) :=
  .lst hp (.cons (.lst h1 (dp_ints fs)) (.cons (.lst h2 (dp_ints ss)) (.cons (.lst h3 (dp_opts rs)) .nil)))
theorem dat3_refl (fs ss : List Int) (rs : List (Option Int)) : PyData.eqv (dat3 fs ss rs) (dat3 fs ss rs) = true := SeqAt.eqv_refl _ (SeqAt.canLay_of_shaped (dat3_shaped fs ss rs))
end My
set_option Elab.async false
set_option linter.all false
set_option maxRecDepth 100000
set_option maxHeartbeats 1000000
namespace My
open PySem PySem.Spec PyProof.Rows L2 L2H

/-- the exception that a suite holds: of the class at D, without a dict of its own -/
def OfCls (D : Addr) (p : Addr × Obj) : Prop := Zc (.ref D) none p.2 ∧ ∃ vs, p.2.data = .fields vs

/-- a def that is handed the exception which is being handled, and lets nothing out -/
structure FnZ (P : Program) (w : World) (K : PySem.W.Frag) (mg : Str → Option Value) (base : Heap) (k : Nat) (f : Addr) (fd : FuncData) (ps : List Str) (D : Addr) (sp : Addr → Sp) : Prop where
  len : ∀ a vs H Q E, sp a vs H Q E → vs.length = ps.length
  run : ∀ (A : Around) (outer : List Env) (s : Shared) (H : Hp) (args : Args) (us : List Value) (vs : List V) (Q : VK) (E : XK) (p : Addr × Obj),
    RoomH k A → OfCls D p → PinOk outer H s p → Env0 P w K mg base A outer s H → BindsTo s fd args (ps.zip us) → Vals vs us → sp p.1 vs H Q E →
    codeAny (model P w) A (.call (.ref f) args) (CR CX0 outer P w H s Q E) s

section
variable {P : Program} {w : World} {K : PySem.W.Frag} {mg : Str → Option Value} {base : Heap}
theorem Fun.okZ {x qual : Str} {st : Stmt} {f D : Addr} {fd : FuncData} {N ps : List Str} {k : Nat} {sp : Addr → Sp}
    (F : Fun K x qual st f fd) (S : FnScope N ps (defScope st)) (len : ∀ a vs H Q E, sp a vs H Q E → vs.length = ps.length)
    (hbody : ∀ (cdv : Value) (A : Around) (outer : List Env) (s : Shared) (H : Hp) (vs : List V) (Q : VK) (E : XK) (p : Addr × Obj), OfCls D p → sp p.1 vs H Q E →
      ∃ t, PSs (cxH CX0 P w K mg base N qual (defScope st) f cdv A outer s H E p) (defBody st) t ∧ t { nx := fun _ H' => Q .non H', rt := Q } (L2.start N vs) H) :
    FnZ P w K mg base (k + 1) f fd ps D sp := by
  obtain ⟨oc, od, kV, doc, pm, an, cdv, ct, osl, rfl, lk, hcd⟩ := F.ex
  refine ⟨len, ?_⟩
  intro A outer s H args us vs Q E p room hz pin e0 hb rv h
  have inK : K.In s.heap := e0.mod.kin.keeps
    (fun b o e => (e0.bs b o e).1)
  have nolim : s.heap.NoLimit := e0.mod.nolimit.keeps
    (fun b o e => (e0.bs b o e).1)
  have kinds : ∀ y ∈ ps.zip us, (defScope st).names.lookup y.1 = some .local ∨
      ((defScope st).names.lookup y.1 = some .cell ∧ ((cellsFrom (s.heap.objs.size + 1) (defScope st).names []).lookup y.1).isSome = true) := by
    rintro ⟨n, v⟩ hy
    cases S.par n (List.of_mem_zip hy).1 with
    | inl q => exact .inl q
    | inr q => exact .inr ⟨q, PySem.W.cellsFrom_some _ _ _ (.inl q)⟩
  refine codeAny_call_function room.depth (inK _ _ lk) rfl S.co S.gen rfl
    (PySem.W.codeRec_of inK hcd) (hb _ _ _ _ ?_)
  refine wpAny_newFunctionEnv_cells S.kind kinds ?_
  intro env he s1 x
  subst he
  refine ⟨nolim.keeps x.toInCall.keep, codeAny_func ?_⟩
  obtain ⟨t, ht, hq⟩ := hbody cdv A outer s H vs Q E p hz h
  have I : Inv (cxH CX0 P w K mg base N qual (defScope st) f cdv A outer s H E p) [] (L2.start N vs) H s1 :=
    inv_startH S pin e0 (len _ _ _ _ _ h) rv x
  have back : ∀ {s' : Shared} {σ' : L2.St} {H' : Hp} {v : V} {u : Value}, Inv (cxH CX0 P w K mg base N qual (defScope st) f cdv A outer s H E p) [] σ' H' s' →
      RelV v u → Q v H' → CE outer P w H s Q u s' := by
    intro s' σ' H' v u J r q
    exact ⟨v, H', J.os, J.bare, J.base, J.hok, r, q⟩
  refine wpAny_mono (ht.run [] s1 _ H _ I hq) ?_ (fun e s' z => z)
  intro fl s' z
  cases fl with
  | ret u =>
    obtain ⟨v, σ', H', J, r, q⟩ := z
    exact back J r q
  | next =>
    obtain ⟨σ', H', J, q⟩ := z
    exact back (v := .non) (u := .none) J rfl q
  | brk =>
    obtain ⟨_, _, _, q⟩ := z
    exact q.elim
  | cont =>
    obtain ⟨_, _, _, q⟩ := z
    exact q.elim
end

section
variable {X : Cx} {k : Nat} {f D a : Addr} {fd : FuncData} {ps : List Str} {sp : Addr → Sp} {x : Str} {q pos : Pos} {e : Expr} {es : List Expr} {t : TA} {oe : Obj} {pn : List (Addr × Obj)} {cls : Value} {d : Option Addr}
/-- its call in the suite: what the exception is, is asked first -/
def tCallZ (D a : Addr) (cls : Value) (d : Option Addr) (sp : Addr → Sp) (t : TA) : TE := fun σ H Q =>
  (cls = .ref D ∧ d = none) ∧ t σ H fun vs H1 => sp a vs H1 Q E0
theorem pe_callZ (hz : Zc cls d oe) (hf : ∃ vs, oe.data = .fields vs) (F : FnZ X.prog X.w X.K X.mg X.base k f fd ps D sp) (hr : RoomH k X.A)
    (hm : X.mg x = some (.ref f)) (hk : PySem.W.keepIn X.K (.ref f) = true) (hb : Binds X.K fd ps [])
    (hg : Gl (X.suite a ((a, oe) :: pn)) x) (ha : PA (X.suite a ((a, oe) :: pn)) (e :: es) t) (hdb : (x == ("__debug__" : Str)) = false := by decide)
    (he : starEach (e :: es) X.env = (false, eval e X.env) :: starEach es X.env := by rfl) (hpl : (backTo pos (starEach es X.env)).any (·.1) = false := by rfl) :
    PE (X.suite a ((a, oe) :: pn)) (.Call (.Name x q) (e :: es) [] pos) (tCallZ D a cls d sp t) := by
  refine ⟨?_⟩
  intro pins s σ H Q I h
  obtain ⟨⟨hc, hd⟩, h⟩ := h
  subst hc hd
  refine wpAny_Call_Name_kw (ld_glob I hg hm ?_ hdb)
  refine PySem.W.callWith_K (h₀ := X.base) I.ok.mod.kin hk (thn (ha.run pos pins s σ H _ I h) ?_) he hpl
  rintro us s1 ⟨vs, H1, I1, r, h1⟩
  refine ⟨I1.kIn, ?_⟩
  have el : us.length = ps.length := r.length.symm.trans (F.len _ _ _ _ _ h1)
  have b := hb s1 us I1.kIn (by rw [List.append_nil]; exact el)
  rw [List.append_nil] at b
  obtain ⟨p1, p2, p3, p4, p5⟩ := I1.pin (a, oe) (List.mem_append.mpr (.inl List.mem_cons_self))
  have pin : PinOk (X.suite a ((a, oe) :: pn)).stack H1 s1 (a, oe) := by
    refine ⟨p1, p2, fun hmem => ?_, p5⟩
    cases List.mem_cons.mp (I1.stkSub a hmem) with
    | inl z => exact p3 z
    | inr z => exact p4 z
  refine wpAny_call (codeAny_mono (F.run (X.suite a ((a, oe) :: pn)).A _ s1 H1 ⟨us, []⟩ us vs Q E0 (a, oe) ⟨hr.dp, hr.un⟩ ⟨hz, hf⟩ pin I1.env0 b r h1) ?_)
  intro res s' hq
  cases res with
  | error e => exact False.elim hq
  | ok fl =>
    cases fl with
    | ret u => exact I1.after hq
    | next => exact False.elim hq
    | brk => exact False.elim hq
    | cont => exact False.elim hq
end

/-- isinstance of the exception that was handed on -/
theorem call_isZ {CX : CXT} {P : Program} {w : World} {K : PySem.W.Frag} {mg : Str → Option Value} {base : Heap} {N : List Str} {qual : Str} {scope : Scope} {f D : Addr} {cd : Value} {A : Around} {outer : List Env} {s : Shared} {H : Hp} {E : XK} {p : Addr × Obj}
    (C : ExcC K D) (hp : OfCls D p) : CallR (cxH CX P w K mg base N qual scope f cd A outer s H E p) (.builtin "isinstance") (rIsE K D p.1) := by
  intro pins s σ H xs us Q I r h
  obtain ⟨c, cv, b, ex, hcv, ek, q⟩ := h
  subst ex
  obtain ⟨a, oc, od, oda, osl⟩ := p
  obtain ⟨⟨h1, h2⟩, vs, h3⟩ := hp
  dsimp only at h1 h2 h3
  subst h1 h2 h3
  match us, r with
  | [u1, u2], .cons r1 (.cons r2 .nil) =>
    have e2 := hcv _ r2
    have e1 : u1 = .ref a := r1
    subst e1 e2
    have g := (I.pin (a, ⟨.ref D, none, .fields vs, osl⟩) (List.mem_append.mpr (.inl (List.mem_singleton.mpr rfl)))).1
    have J : PySem.W.InstAt s.heap a ⟨.ref D, none, .fields vs, osl⟩ D none := ⟨g, rfl, rfl, trivial⟩
    refine PySem.W.kia_one (PySem.W.handS_kitx_exc C.hg C.hk C.hs C.hd C.ha C.hn C.ht C.hm) I.kIn J ek (fun z => nomatch z) ?_
    intro tk
    exact ⟨.bl b, H, I.kept (t' := tk) fun _ _ z => z, rfl, q⟩
end My
namespace My
open PySem L2 L2H Evl
theorem rc_isE {K : PySem.W.Frag} {D a : Addr} {c : V} {cv : Value} {b : Bool} {H : Hp} (h : ∀ u, RelV c u → u = cv) (hk : PySem.W.kitOne K (.ref D) cv = some b) : RC (rIsE K D a) [.ref a, c] H (.bl b) :=
  fun H1 _ _ q => ⟨c, cv, b, rfl, h, hk, q H1 (Ex.refl H1)⟩
theorem pe_cdX {X : Cx} {k : Nat} {x : Str} {ps : List Str} {sp : Sp} {E : XK} {e : Expr} {es : List Expr} {t : TA} {p pos : Pos}
    (d : Dk X.prog X.w X.K X.mg X.base (L2.CX X.prog X.w) k x ps sp) (hr : Room k X.A) (hg : Gl X x) (hp : Passes (L2.CX X.prog X.w) X E) (ha : PA X (e :: es) t)
    (hdb : (x == ("__debug__" : Str)) = false := by decide)
    (he : starEach (e :: es) X.env = (false, eval e X.env) :: starEach es X.env := by rfl)
    (hpl : (backTo pos (starEach es X.env)).any (·.1) = false := by rfl) :
    PE X (.Call (.Name x p) (e :: es) [] pos) (tCall sp [] E t) := by
  obtain ⟨f, fd, g, kp, b, F⟩ := d.ex
  exact pe_call F hr hg g kp b .nil hp ha hdb he hpl
theorem pe_cdS {X : Cx} {k : Nat} {x : Str} {ps : List Str} {sp : Sp} {E : L2.St → XK} {e : Expr} {es : List Expr} {t : TA} {p pos : Pos}
    (d : Dk X.prog X.w X.K X.mg X.base (L2.CX X.prog X.w) k x ps sp) (hr : Room k X.A) (hg : Gl X x) (hp : ∀ σ, PassesAt (L2.CX X.prog X.w) X σ (E σ)) (ha : PA X (e :: es) t)
    (hdb : (x == ("__debug__" : Str)) = false := by decide)
    (he : starEach (e :: es) X.env = (false, eval e X.env) :: starEach es X.env := by rfl)
    (hpl : (backTo pos (starEach es X.env)).any (·.1) = false := by rfl) :
    PE X (.Call (.Name x p) (e :: es) [] pos) (tCallS sp E t) := by
  obtain ⟨f, fd, g, kp, b, F⟩ := d.ex
  exact pe_callS F hr hg g kp b hp ha hdb he hpl
end My

namespace My
open PySem PySem.W
theorem kit_own {K : Frag} {D C : Addr} {b : Bool} (s0 : subIn K (.ref D) (.ref D) = some true) (i : isClsIn K C = true) (t : typeIn K (.ref C) = some (.type "type")) (s : subIn K (.ref D) (.ref C) = some b) : kitOne K (.ref D) (.ref C) = some b := by
  unfold kitOne
  by_cases h : (Value.ref D == Value.ref C) = true
  · rw [if_pos h]
    have e : D = C := Value.ref.inj (eq_of_beq h)
    rw [← e, s0] at s
    exact s
  · rw [if_neg h]
    have e : ((clsIn K C).isSome && typeIn K (.ref C) == some (.type "type")) = true := by
      have i' : (clsIn K C).isSome = true := i
      rw [i', t]
      rfl
    show (if ((clsIn K C).isSome && typeIn K (.ref C) == some (.type "type")) = true then subIn K (.ref D) (.ref C) else none) = some b
    rw [if_pos e]
    exact s
theorem kit_base {K : Frag} {D : Addr} {T : String} {b : Bool} (m : kitMeta T = true) (s : subIn K (.ref D) (.type T) = some b) : kitOne K (.ref D) (.type T) = some b := by
  show (if (Value.ref D == Value.type T) = true then some true else if kitMeta T = true then subIn K (.ref D) (.type T) else none) = some b
  rw [if_neg (by intro q; cases eq_of_beq q), if_pos m]
  exact s
end My
set_option Elab.async false
set_option linter.all false
set_option maxRecDepth 100000
set_option maxHeartbeats 2000000
namespace MyG
open PySem PySem.Spec PyProof.Rows L2 GxR

/-- a test of an int, the element of a generator expression that has captured the int z as y -/
def EltI (prog : Program) (w : World) (scope : Scope) (x y : Str) (elt : Expr) (z : Int) (pb : Int → Bool) : Prop :=
  ∀ (ce : Env) (A' : Around) (E' : Value → Shared → Prop) (n : Int) (t tz : Tok) (s' : Shared) (m : Str → Option Value) (cl : Addr),
    ce.scope = scope → s'.heap.Ns ce.locals m → m x = some (.int n t) → ce.cells.lookup y = some cl → s'.heap.IsCell cl (some (.int z tz)) →
    wpAny (model prog w) A' (eval elt ce) (fun r s3 => r = .bool (pb n) ∧ Keeps s' s3) E' s'

/-- x < 0 or x >= y -/
theorem elt_outside {prog : Program} {w : World} {scope : Scope} {x y : Str} {z : Int} {j : Nat} {p1 p2 p3 p4 p5 p6 p7 : Pos}
    (hk : scope.kind = .function) (hx : scope.names.lookup x = some .local) (hy : scope.names.lookup y = some .free)
    (dx : (x == ("__debug__" : Str)) = false := by decide) (dy : (y == ("__debug__" : Str)) = false := by decide) (cy : (y == ("__classdict__" : Str)) = false := by decide) :
    EltI prog w scope x y (.BoolOp .Or [.Compare (.Name x p1) [.Lt] [.Constant (.int 0) j p2] p3, .Compare (.Name x p4) [.GtE] [.Name y p5] p6] p7) z (fun n => decide (n < 0) || decide (n ≥ z)) := by
  intro ce A' E' n t tz s' m cl hs hn hm hc hv
  have kf : ce.scope.kind = .function := by rw [hs]; exact hk
  have kx : ce.kindOf x = some .local := by
    show ce.scope.names.lookup x = some .local
    rw [hs]; exact hx
  have ky : ce.kindOf y = some .free := by
    show ce.scope.names.lookup y = some .free
    rw [hs]; exact hy
  refine BoolOp_or ?_
  refine wpAny_Compare1 ?_
  refine wpAny_Name (wpAny_loadName_local kf kx hn hm ?_) dx
  refine wpAny_Constant_int ?_
  refine lt_int ?_
  refine wpAny_truthy_bool ?_
  cases hd : decide (n < 0) with
  | true =>
    refine ⟨?_, keeps_tok s' _⟩
    show Value.bool true = Value.bool (decide (n < 0) || decide (n ≥ z))
    rw [hd]
    rfl
  | false =>
    refine BoolOp_one ?_
    refine wpAny_Compare1 ?_
    refine wpAny_Name (wpAny_loadName_local kf kx hn hm ?_) dx
    refine wpAny_Name (wpAny_loadName_free kf ky hc hv ?_ cy) dy
    refine PySem.P.ge_int ?_
    refine ⟨?_, keeps_tok s' _⟩
    show _ = Value.bool (decide (n < 0) || decide (n ≥ z))
    rw [hd]
    rfl

def trI (pb : Int → Bool) (l : List Int) (j : Nat) : Bool := match l[j]? with
  | some b => pb b
  | none => false
theorem trI_some {pb : Int → Bool} {l : List Int} {j : Nat} {b : Int} (h : l[j]? = some b) : trI pb l j = pb b := by
  unfold trI
  rw [h]
theorem any_trI (l : List Int) (pb : Int → Bool) : (List.range l.length).any (trI pb l) = l.any pb := by
  rw [Bool.eq_iff_iff, List.any_eq_true, List.any_eq_true]
  refine ⟨?_, ?_⟩
  · rintro ⟨j, hj, h⟩
    have lt := List.mem_range.mp hj
    rw [trI_some (List.getElem?_eq_getElem lt)] at h
    exact ⟨_, List.getElem_mem lt, h⟩
  · rintro ⟨b, hb, h⟩
    obtain ⟨j, lt, e⟩ := List.getElem_of_mem hb
    exact ⟨j, List.mem_range.mpr lt, by rw [trI_some (List.getElem?_eq_getElem lt), e]; exact h⟩

section
variable {X : Cx} {pins : List (Addr × Obj)} {σ : L2.St} {H : Hp} {s : Shared}
/-- what stands ready to be walked behind the generator's making -/
def RdyI (X : Cx) (pins : List (Addr × Obj)) (σ : L2.St) (H1 : Hp) (P : Addr) (ns : List Int) (pb : Int → Bool) (g : Addr) (s5 : Shared) : Prop :=
  ∃ (fp wr : List Addr) (G : Array GenState → Array GenState → Prop) (F : Nat → Value → Prop) (St : Nat → Shared → Prop),
    WalksS X.prog X.w X.A.in1 g fp wr G ns.length F St ∧ St 0 s5 ∧ TruthOf X.prog X.w X.A.in1 F (trI pb ns) ∧
    ∀ s', Moved wr G s5 s' → ∃ H2, Tabbed P H1 H2 ∧ Inv X pins σ H2 s'

theorem gen_tup {c P : Addr} {elt iter : Expr} {x y : Str} {iy : Nat} {px gpos : Pos} {scope : Scope} {pb : Int → Int → Bool} {te : TE} {k : Nat} {Q' : Value → Shared → Prop} {R : Int → List Int → Hp → Prop}
    (hr : Room k X.A) (TB : TabB X.base X.mg c P) (hcode : X.env.code = .ref c) (S : GenS X.env scope x) (hi : PE X iter te) (hel : ∀ z, EltI X.prog X.w scope x y elt z (pb z))
    (hNy : X.N[iy]? = some y) (hvy : X.env.scope.names.lookup y = some .cell) (hfy : (y, NameKind.free) ∈ scope.names)
    (hs : ∀ v, genFold iter X.env v = pure v) (I : Inv X pins σ H s)
    (h : te σ H fun v H1 => ∃ (a : Addr) (z : Int) (ns : List Int), v = .ref a ∧ SqT X.K H1 a (ns.map V.int) ∧ σ[iy]? = some (some (.int z)) ∧ TabG H1 P ∧ R z ns H1)
    (hQ : ∀ z ns H1 g s5, R z ns H1 → RdyI X pins σ H1 P ns (pb z) g s5 → Q' (.ref g) s5) :
    wpAny (model X.prog X.w) X.A (eval (.GeneratorExp elt [⟨.Name x px, iter, [], 0⟩] scope gpos) X.env) Q' X.xe s := by
  refine wpAny_GeneratorExp_walksQ hr.hd S.co
    (closure_ok S.free) S.cell S.dot S.loc S.kind (by have := hr.dp; omega) ?_ hs
  refine thn (hi.run pins s σ H _ I h) ?_
  rintro xv s1 ⟨v, H1, I1, r1, a, z, ns, hv, hq, hz, ⟨ps, hP, ht⟩, q1⟩
  subst hv
  have exv : xv = .ref a := r1
  subst exv
  obtain ⟨its, rv, ip, hzz⟩ := I1.tuple hq
  have itup : s1.heap.IsTuple a its.toArray := ip
  -- the captured cell
  obtain ⟨m0, hm0, hl0⟩ := I1.loc
  obtain ⟨u0, ru, look⟩ := hl0 iy y _ hNy hz (.inr (.inl hvy))
  obtain ⟨tz, eu⟩ := (show ∃ t, u0 = Value.int z t from ru)
  subst eu
  obtain ⟨cl, hcl, hcell⟩ : ∃ cl, X.env.cells.lookup y = some cl ∧ s1.heap.IsCell cl (some (.int z tz)) := by
    rcases look with ⟨hk, _⟩ | ⟨_, cl, h1, h2⟩
    · rw [show X.env.kindOf y = X.env.scope.names.lookup y from rfl, hvy] at hk
      cases hk
    · exact ⟨cl, h1, h2⟩
  have hcl2 : (cloFrom X.env.cells scope.names []).lookup y = some cl := NdefX.clo_has S.free hfy hcl
  refine wpAny_pyIter_tuple itup ?_
  generalize ho : ({ cls := .type "tuple_iterator", data := .fields #[.ref a, .int 0 0] } : Obj) = o
  have tabS : s1.heap.get? P = some { cls := .none, data := .fields ps } := I1.hok P _ hP
  have ltP : P < s1.heap.objs.size := Heap.lt_size tabS
  have tab2 : (s1.heap.push o).get? P = some { cls := .none, data := .fields ps } := Heap.get?_push_of_some _ tabS
  have cd : PySem.W.CodeHd (s1.heap.push o) c P := TB.code.keeps
    (fun b u e => Heap.get?_push_of_some _ (I1.bk b u e))
  have lim2 : (s1.heap.push o).NoLimit := I1.nolimit.push o
  have ane : a ≠ s1.heap.objs.size := by
    obtain ⟨oo, e1, _⟩ := itup
    exact Nat.ne_of_lt (Heap.lt_size e1)
  have len : its.toArray.size = ns.length := by
    rw [List.size_toArray, ← rv.length, List.length_map]
  have st0 : (s1.heap.push o).IsTupleIter s1.heap.objs.size a 0 ∧ (s1.heap.push o).IsTuple a its.toArray := by
    subst ho
    exact ⟨⟨_, Heap.get?_push_size _ rfl, rfl, rfl⟩, itup.at fun oo e => Heap.get?_push_of_some _ e⟩
  have WT : ∀ A' : Around, A'.handled = none → Walks X.prog X.w A' s1.heap.objs.size [s1.heap.objs.size, a] [s1.heap.objs.size] its.toArray.size (fun i v => its.toArray[i]? = some v) (fun i h => h.IsTupleIter s1.heap.objs.size a i ∧ h.IsTuple a its.toArray) :=
    fun A' hh => Walks.tuple hh _ a ane its.toArray
  have aP : a ≠ P := by
    intro e
    obtain ⟨oo, e1, e2, e3⟩ := itup
    rw [e, tabS] at e1
    cases e1
    cases e2
  have item : ∀ (i : Nat) (v : Value), its.toArray[i]? = some v → ∃ n t, ns[i]? = some n ∧ v = .int n t := by
    intro i v e
    have e' : its[i]? = some v := by rw [List.getElem?_toArray] at e; exact e
    have hi : i < its.length := (List.getElem?_eq_some_iff.mp e').1
    have hi2 : i < ns.length := by rw [← len, List.size_toArray]; exact hi
    have g : (ns.map V.int)[i]? = some (V.int ns[i]) := by rw [List.getElem?_map, List.getElem?_eq_getElem hi2]; rfl
    obtain ⟨u, hu, ru⟩ := rv.get g
    rw [e'] at hu
    cases hu
    obtain ⟨t, rfl⟩ := (show ∃ t, v = Value.int ns[i] t from ru)
    exact ⟨_, t, List.getElem?_eq_getElem hi2, rfl⟩
  have cont : ∀ (code : Value) (h3 : Heap) (tk : Nat) (ps' : Array Value), Heap.ExtBut P (s1.heap.push o) h3 → (s1.heap.push o).objs.size ≤ h3.objs.size →
      h3.get? P = some { cls := .none, data := .fields ps' } → (∃ more, ps' = ps ++ more) → TriplesOk ps'.toList →
      wpAny (model X.prog X.w) X.A (builtinsFor X.env.globals X.env.builtins) (fun bi s4 =>
        ∃ Ia fp wr n0 Pf St0 pz F, Value.ref s1.heap.objs.size = .ref Ia ∧ (∀ A' : Around, A'.handled = none → Walks X.prog X.w A' Ia fp wr n0 Pf St0) ∧ St0 0 s4.heap ∧ (∀ b ∈ fp, b < s4.heap.objs.size) ∧ s4.heap.NoLimit ∧ cStatics ∉ wr ∧
          (∀ href : Heap, (∀ b o, s4.heap.get? b = some o → href.get? b = some o) →
            QuietGen X.prog X.w (genEnv scope (cloFrom X.env.cells scope.names []) s4.heap.objs.size code bi X.env) x [] elt (List.range s4.heap.objs.size) wr Pf pz F href) ∧
          (∀ a h5 tk gs, gs.bare = true → s4.heap.objs.size < a → h5.objs.size = a + 1 → (∀ b o, s4.heap.get? b = some o → h5.get? b = some o) →
            WalksS X.prog X.w X.A.in4 a (a :: s4.heap.objs.size :: List.range s4.heap.objs.size) (s4.heap.objs.size :: wr) (GenOnlyQ s4.gens.size) (passing pz n0 0).length
              (fun j y => ∃ i, (passing pz n0 0)[j]? = some i ∧ F i y) (GenAt X.prog X.w X.A.in4 a s4.gens.size s4.heap.objs.size (List.range s4.heap.objs.size) wr pz n0 F) →
            GenAt X.prog X.w X.A.in4 a s4.gens.size s4.heap.objs.size (List.range s4.heap.objs.size) wr pz n0 F 0 { s4 with gens := s4.gens.push gs, toks := tk, heap := h5 } →
            Q' (.ref a) { s4 with gens := s4.gens.push gs, toks := tk, heap := h5 })) X.xe { s1 with heap := h3, toks := tk } := by
    intro code h3 tk ps' hx hsz hP3 hmore ht3
    obtain ⟨bm, ob, b1, b2, b3, b4, b5, b6, b7, b8⟩ := TB.bm
    have stP : cStatics ≠ P := by
      intro e
      obtain ⟨_, hns, _⟩ := I1.nolimit
      obtain ⟨o', es, ep, q1, q2, _⟩ := hns
      rw [e, tabS] at q1
      cases q1
      cases q2
    have stL : cStatics < s1.heap.objs.size := by
      obtain ⟨_, hns, _⟩ := I1.nolimit
      exact hns.lt
    have sz2 : (s1.heap.push o).objs.size = s1.heap.objs.size + 1 := Heap.size_push ..
    have keep3 : ∀ b u, b ≠ P → s1.heap.get? b = some u → h3.get? b = some u := fun b u hb e =>
      hx b u hb (Heap.get?_push_of_some _ e)
    refine wpAny_builtinsFor (m := X.mg)
      (by rw [I1.ok.glob]; exact ((I1.mod.glob.keeps I1.bk).push o).extBut hx TB.gP)
      b1 b2 (keep3 _ _ b4 (I1.bk _ _ b5)) b6 b7 b8 ?_
    refine ⟨s1.heap.objs.size, [s1.heap.objs.size, a], [s1.heap.objs.size], its.toArray.size, (fun i v => its.toArray[i]? = some v), (fun i h => h.IsTupleIter s1.heap.objs.size a i ∧ h.IsTuple a its.toArray),
      (fun _ => true), (fun i y => ∃ n, ns[i]? = some n ∧ y = .bool (pb z n)), rfl, WT, ?_, ?_, lim2.extBut hx stP, ?_, ?_, ?_⟩
    · refine (WT X.A hr.hd).frame _ _ _ st0 ?_
      intro b hb u e
      refine hx b u ?_ e
      rintro rfl
      rcases List.mem_cons.mp hb with q | q
      · exact Nat.ne_of_lt ltP q
      · exact aP (List.mem_singleton.mp q).symm
    · intro b hb
      show b < h3.objs.size
      rcases List.mem_cons.mp hb with q | q
      · rw [q]
        show (s1.heap.objs.size : Nat) < h3.objs.size
        omega
      · rw [List.mem_singleton.mp q]
        obtain ⟨oo, e1, _⟩ := itup
        exact Nat.lt_of_lt_of_le (Heap.lt_size e1) (by omega)
    · intro q
      exact Nat.ne_of_lt stL (List.mem_singleton.mp q)
    · intro href hhref
      refine ⟨?_, ?_⟩
      · intro A' E' i v s2 m2 _ _ _ _ _
        simp only [List.forIn_nil]
        exact wpAny_pure ⟨rfl, keeps_refl _⟩
      · intro A' E' i v s2 m2 hA hPv hp hn hm hk
        obtain ⟨n, t, hn1, rfl⟩ := item i v hPv
        have cellK : s2.heap.IsCell cl (some (.int z tz)) := by
          obtain ⟨oc, ec, dc⟩ := hcell
          have ltc : cl < s1.heap.objs.size := Heap.lt_size ec
          have nP : cl ≠ P := by
            rintro rfl
            rw [tabS] at ec
            cases ec
            cases dc
          refine ⟨oc, hk cl (List.mem_range.mpr ?_) ?_ oc (hhref cl oc (keep3 cl oc nP ec)), dc⟩
          · exact Nat.lt_of_lt_of_le ltc (by show s1.heap.objs.size ≤ h3.objs.size; omega)
          · intro q
            exact Nat.ne_of_lt ltc (List.mem_singleton.mp q)
        refine wpAny_mono (hel z _ A' E' n t tz s2 m2 cl rfl hn hm hcl2 cellK) ?_ (fun _ _ e => e)
        rintro yv s3 ⟨r1, r2⟩
        exact ⟨⟨n, hn1, r1⟩, r2⟩
    · intro g h5 tk5 gs hgb hag hsz5 hk5 W5 hat
      simp only [GxR.passing_true, List.length_range] at W5
      rw [len] at W5
      refine hQ z ns H1 g _ q1 ⟨_, _, _, _, _, W5.in4_1, by rw [len] at hat; exact hat, ?_, ?_⟩
      · intro j yv sj Qj Ej hy hQj
        obtain ⟨i, hij, n, hn, rfl⟩ := hy
        obtain ⟨hj, ej⟩ := List.getElem?_eq_some_iff.mp hij
        rw [List.getElem_range] at ej
        subst ej
        have g2 : Qj (trI (pb z) ns j) sj := hQj
        rw [trI_some hn] at g2
        exact wpAny_truthy_bool g2
      · intro s' hm
        obtain ⟨more, em⟩ := hmore
        have nwr : ∀ b u, s1.heap.get? b = some u → b ∉ h3.objs.size :: [s1.heap.objs.size] := by
          intro b u e hb
          have hl : (b : Nat) < s1.heap.objs.size := Heap.lt_size e
          rcases List.mem_cons.mp hb with q | q
          · rw [q] at hl
            exact Nat.lt_irrefl _ (Nat.lt_of_lt_of_le hl (by show s1.heap.objs.size ≤ h3.objs.size; omega))
          · rw [List.mem_singleton.mp q] at hl
            exact Nat.lt_irrefl _ hl
        have J := inv_tab (more := more) (h' := s'.heap) (g' := s'.gens) (d' := s'.drawn) (t' := s'.toks) I1 hP
          (fun b u hb e => hm.heap b u (nwr b u e) (hk5 b u (keep3 b u hb e)))
          (by rw [← em]; exact hm.heap P _ (nwr P _ tabS) (hk5 P _ hP3))
          (AllBare.movedS (I1.bare.push hgb) hm)
        rw [sh_eta s1 s' hm.os] at J
        exact ⟨_, ⟨⟨ps ++ more, upd_same, by rw [← em]; exact ht3⟩, fun b hb => upd_ne hb⟩, J⟩
  refine ⟨lim2, ?_⟩
  cases hf : codeAmong gpos ps.toList with
  | none =>
    refine wpAny_genexprCodeX hcode (cd.code tab2 ht) (cd.tab tab2) hf ?_
    intro c' h' tk hx hge hlt hco' _ htab' _
    obtain ⟨o1, vs, f1, tf, fl, tg, inF, tx, tt, op, _, _, _, _, _, _, _, _, _, htr, _⟩ := hco'
    exact cont _ h' tk _ hx (Nat.le_trans hge (Nat.le_of_lt hlt)) htab'.2 ⟨_, rfl⟩ htr
  | some cv =>
    refine wpAny_genexprCode_hit hcode (cd.code tab2 ht) hf ?_
    exact cont cv _ s1.toks ps (Heap.ExtBut.refl _ _) (Nat.le_refl _) tab2 ⟨#[], by simp⟩ ht
end
end MyG
namespace MyG
open PySem PySem.Spec PyProof.Rows L2 GxR
section
variable {X : Cx}
/-- any(test of x and y for x in e), e a tuple of ints, y a captured int; behind it the def's table may have grown -/
def tAnyT (K : PySem.W.Frag) (P : Addr) (iy : Nat) (pb : Int → Int → Bool) (te : TE) : TE := fun σ H Q => te σ H fun v H1 =>
  ∃ (a : Addr) (z : Int) (ns : List Int), v = .ref a ∧ SqT K H1 a (ns.map V.int) ∧ σ[iy]? = some (some (.int z)) ∧ TabG H1 P ∧ ∀ H2, Tabbed P H1 H2 → Q (.bl (ns.any (pb z))) H2
theorem pe_anyT {c P : Addr} {elt iter : Expr} {x y : Str} {iy : Nat} {px p pos gpos : Pos} {scope : Scope} {pb : Int → Int → Bool} {te : TE} {k : Nat}
    (hr : Room k X.A) (hg : Gl X "any") (hm : X.mg "any" = none) (TB : TabB X.base X.mg c P) (hcode : X.env.code = .ref c) (S : GenS X.env scope x) (hi : PE X iter te) (hel : ∀ z, EltI X.prog X.w scope x y elt z (pb z))
    (hNy : X.N[iy]? = some y) (hvy : X.env.scope.names.lookup y = some .cell) (hfy : (y, NameKind.free) ∈ scope.names)
    (hs : ∀ v, genFold iter X.env v = pure v)
    (he : starEach [.GeneratorExp elt [⟨.Name x px, iter, [], 0⟩] scope gpos] X.env = (false, eval (.GeneratorExp elt [⟨.Name x px, iter, [], 0⟩] scope gpos) X.env) :: starEach [] X.env := by rfl) :
    PE X (.Call (.Name "any" p) [.GeneratorExp elt [⟨.Name x px, iter, [], 0⟩] scope gpos] [] pos) (tAnyT X.K P iy pb te) := by
  refine ⟨?_⟩
  intro pins s σ H Q I h
  refine wpAny_Call_Name_kw (ld_blt I hg hm boot_any ?_)
  refine PyProof.Rows.callWith_builtin1 ?_ he (by rfl)
  rw [he]
  refine Calls.spliced_cons (gen_tup (R := fun z ns H1 => ∀ H2, Tabbed P H1 H2 → Q (.bl (ns.any (pb z))) H2) hr TB hcode S hi hel hNy hvy hfy hs I h ?_)
  intro z ns H1 g s5 hR hG
  obtain ⟨fp, wr, G, F, St, W, hst, htr, hI⟩ := hG
  refine Calls.spliced_nil ?_
  refine call_any_walkS (W.self 0 _ _ _ hst ⟨g, fp, wr, G, _, F, St, _, rfl, W, hst, htr, ?_⟩)
  intro s' hmv
  obtain ⟨H2, hT, J⟩ := hI s' hmv
  refine ⟨.bl _, H2, J, rfl, ?_⟩
  rw [any_trI ns (pb z)]
  exact hR H2 hT
end
end MyG
namespace MyG
open PySem PySem.Spec PyProof.Rows L2
theorem truth_ints {prog : Program} {w : World} {A : Around} {ns : List Int} {its : List Value} (h : ∀ (i : Nat) (v : Value), its[i]? = some v → ∃ n t, ns[i]? = some n ∧ v = .int n t) :
    TruthOf prog w A (fun i v => its.toArray[i]? = some v) (trI (fun n => n != 0) ns) := by
  intro i v s Q E hv hq
  obtain ⟨n, t, hn, rfl⟩ := h i v (by simpa using hv)
  have q2 : Q (trI (fun n => n != 0) ns i) s := hq
  rw [trI_some hn] at q2
  exact PySem.P.truthy_int q2
/-- any(xs), xs a list of ints -/
def rAnyI (K : PySem.W.Frag) : List V → Hp → VK → Prop := fun vs H Q =>
  ∃ (a : Addr) (ns : List Int), vs = [V.ref a] ∧ SqL K H a (ns.map V.int) ∧ Q (.bl (ns.any fun n => n != 0)) H
theorem cr_anyI {X : Cx} (hc : X.calm = true) : CallR X (.builtin "any") (rAnyI X.K) := by
  intro pins s σ H vs us Q I r h
  obtain ⟨a, ns, hv, hs, q⟩ := h
  subst hv
  obtain ⟨its, rv, hl, _⟩ := I.list hs
  rw [Vals.ref1 r]
  have item : ∀ (i : Nat) (v : Value), its[i]? = some v → ∃ n t, ns[i]? = some n ∧ v = .int n t := by
    intro i v e
    have hi : i < its.length := (List.getElem?_eq_some_iff.mp e).1
    have hi2 : i < ns.length := by
      have := rv.length
      rw [List.length_map] at this
      omega
    have g : (ns.map V.int)[i]? = some (V.int ns[i]) := by rw [List.getElem?_map, List.getElem?_eq_getElem hi2]; rfl
    obtain ⟨u, hu, ru⟩ := rv.get g
    rw [e] at hu
    cases hu
    obtain ⟨t, rfl⟩ := (show ∃ t, v = Value.int ns[i] t from ru)
    exact ⟨_, t, List.getElem?_eq_getElem hi2, rfl⟩
  refine call_any_walk (iter_any hl.isList ?_)
  intro s2 e2 st hne
  subst e2
  refine ⟨_, _, _, _, _, _, _, rfl, Walks.list (A := X.A.in1) (I.ok.hd hc) _ a hne its.toArray, st, truth_ints item, ?_⟩
  intro h' tk hk
  refine ⟨.bl _, H, I.kept ?_, ?_, q⟩
  · intro b o eo
    refine hk b o ?_ (Heap.get?_push_of_some _ eo)
    intro hmem
    rcases List.mem_cons.mp hmem with e1 | e1
    · exact absurd (e1 ▸ Heap.lt_size eo) (Nat.lt_irrefl _)
    · cases e1
  · show Value.bool _ = Value.bool _
    have len : its.length = ns.length := by
      have := rv.length
      rw [List.length_map] at this
      exact this.symm
    rw [← any_trI, List.size_toArray, len]
end MyG
set_option Elab.async false
set_option linter.all false
set_option maxRecDepth 100000
set_option maxHeartbeats 2000000
/-! generator expressions over lists and tuples of any items, the def's table kept as a thing of which only this is said that it is a table: the heap is then the same behind the walk -/
namespace MyG
open PySem PySem.Spec PyProof.Rows L2 GxR
def tabO (P : Addr) : HO := .ext fun h => ∃ ps : Array Value, h.get? P = some { cls := .none, data := .fields ps } ∧ TriplesOk ps.toList
def TabE (H : Hp) (P : Addr) : Prop := H P = some (tabO P)
theorem tabO_ok {Pg : Program} {w : World} {H : Hp} {h : Heap} {P : Addr} {ps : Array Value} (e : h.get? P = some { cls := .none, data := .fields ps }) (t : TriplesOk ps.toList) : ObjOk Pg w H h P (tabO P) :=
  ⟨⟨ps, e, t⟩, ⟨_, e⟩, fun _ _ ⟨qs, e1, t1⟩ k => ⟨qs, k _ e1, t1⟩⟩
theorem TabE.get {X : Cx} {pins : List (Addr × Obj)} {σ : L2.St} {H : Hp} {s : Shared} {P : Addr} (I : Inv X pins σ H s) (h : TabE H P) : ∃ ps : Array Value, s.heap.get? P = some { cls := .none, data := .fields ps } ∧ TriplesOk ps.toList :=
  (I.hok P _ h).1
section
variable {X : Cx} {pins : List (Addr × Obj)} {σ : L2.St} {H : Hp} {s : Shared}
theorem inv_tabE {P : Addr} {qs : Array Value} {h' : Heap} {g' : Array GenState} {d' : Drawn} {t' : Nat} (I : Inv X pins σ H s) (hP : TabE H P)
    (k : ∀ b o, b ≠ P → s.heap.get? b = some o → h'.get? b = some o) (hm : h'.get? P = some { cls := .none, data := .fields qs }) (ht : TriplesOk qs.toList) (hg : AllBare g') :
    Inv X pins σ H { s with heap := h', gens := g', drawn := d', toks := t' } := by
  have neN : ∀ b, H b = none → b ≠ P := fun b e z => by
    rw [z, show H P = some (tabO P) from hP] at e
    cases e
  have neO : ∀ b c, H c = some (.own b) → c ≠ P := fun b c e z => by
    rw [z, show H P = some (tabO P) from hP] at e
    cases e
  refine I.step (ch := []) (fun b hb => by cases hb) (fun b o _ _ _ e n => k b o (neN b n) e) (fun b o _ _ _ e n => ⟨o.slots, k b o (neN b n) e⟩)
    (fun _ _ _ _ n => n) (fun b o _ e => ?_) (fun _ _ e => e) (fun _ _ _ e => e) (fun b ps e => ⟨#[], by rw [e]; simp⟩) (fun m hn => ?_) (fun b u e => ?_) hg
  · by_cases hb : b = P
    · exact ⟨_, hb ▸ hm⟩
    · exact ⟨o, k b o hb e⟩
  · obtain ⟨ob, es, ep, ho, r⟩ := hn
    exact ⟨ob, es, ep, k _ ob (neN _ I.free) ho, r⟩
  · by_cases hb : b = P
    · subst hb
      rw [show H b = some (tabO b) from hP] at e
      cases e
      exact tabO_ok hm ht
    · refine (I.hok b u e).stay (fun c v hc q => k c v ?_ q) (fun _ q => q) fun _ _ q => q
      rcases hc with z | z
      · rw [z]
        exact hb
      · exact neO _ _ z
end
/-- where a generator expression's element runs: made in the def's state s1, the element now in s' -/
structure At (X : Cx) (P : Addr) (scope : Scope) (s1 : Shared) (ce : Env) (s' : Shared) (m : Str → Option Value) : Prop where
  sc : ce.scope = scope
  gl : ce.globals = X.env.globals
  ns : s'.heap.Ns ce.locals m
  cl : ∀ y c, (y, NameKind.free) ∈ scope.names → X.env.cells.lookup y = some c → ce.cells.lookup y = some c
  keep : ∀ b o, b ≠ P → s1.heap.get? b = some o → s'.heap.get? b = some o
/-- the element of a generator expression, at an item v, is the truth b -/
def EltG (X : Cx) (P : Addr) (scope : Scope) (x : Str) (elt : Expr) (σ : L2.St) (H1 : Hp) (v : V) (b : Bool) : Prop :=
  ∀ (pins : List (Addr × Obj)) (s1 : Shared) (ce : Env) (A' : Around) (E' : Value → Shared → Prop) (u : Value) (s' : Shared) (m : Str → Option Value),
    Inv X pins σ H1 s1 → At X P scope s1 ce s' m → RelV v u → m x = some u → s1.heap.get? P ≠ none → (∀ c v, s1.heap.IsCell c v → c ≠ P) →
    wpAny (model X.prog X.w) A' (eval elt ce) (fun r s3 => r = .bool b ∧ Keeps s' s3) E' s'
/-- a captured int -/
theorem At.cap {X : Cx} {P : Addr} {scope : Scope} {s1 : Shared} {ce : Env} {s' : Shared} {m : Str → Option Value} {pins : List (Addr × Obj)} {σ : L2.St} {H1 : Hp} {i : Nat} {y : Str} {z : Int} (a : At X P scope s1 ce s' m)
    (I : Inv X pins σ H1 s1) (nP : ∀ c v, s1.heap.IsCell c v → c ≠ P) (hN : X.N[i]? = some y) (hz : σ[i]? = some (some (.int z))) (hv : X.env.scope.names.lookup y = some .cell) (hf : (y, NameKind.free) ∈ scope.names) :
    ∃ (tz : Tok) (cl : Addr), ce.cells.lookup y = some cl ∧ s'.heap.IsCell cl (some (.int z tz)) := by
  obtain ⟨m0, hm0, hl0⟩ := I.loc
  obtain ⟨u0, ru, look⟩ := hl0 i y _ hN hz (.inr (.inl hv))
  obtain ⟨tz, eu⟩ := (show ∃ t, u0 = Value.int z t from ru)
  subst eu
  rcases look with ⟨hk, _⟩ | ⟨_, cl, h1, h2⟩
  · rw [show X.env.kindOf y = X.env.scope.names.lookup y from rfl, hv] at hk
    cases hk
  · refine ⟨tz, cl, a.cl y cl hf h1, ?_⟩
    obtain ⟨o, e, d⟩ := id h2
    exact ⟨o, a.keep cl o (nP cl _ h2) e, d⟩
def trV (pb : V → Bool) (l : List V) (j : Nat) : Bool := match l[j]? with
  | some b => pb b
  | none => false
theorem trV_some {pb : V → Bool} {l : List V} {j : Nat} {b : V} (h : l[j]? = some b) : trV pb l j = pb b := by
  unfold trV
  rw [h]
theorem any_trV (l : List V) (pb : V → Bool) : (List.range l.length).any (trV pb l) = l.any pb := by
  rw [Bool.eq_iff_iff, List.any_eq_true, List.any_eq_true]
  refine ⟨?_, ?_⟩
  · rintro ⟨j, hj, h⟩
    have lt := List.mem_range.mp hj
    rw [trV_some (List.getElem?_eq_getElem lt)] at h
    exact ⟨_, List.getElem_mem lt, h⟩
  · rintro ⟨b, hb, h⟩
    obtain ⟨j, lt, e⟩ := List.getElem_of_mem hb
    exact ⟨j, List.mem_range.mpr lt, by rw [trV_some (List.getElem?_eq_getElem lt), e]; exact h⟩
theorem all_trV (l : List V) (pb : V → Bool) : (List.range l.length).all (trV pb l) = l.all pb := by
  rw [Bool.eq_iff_iff, List.all_eq_true, List.all_eq_true]
  refine ⟨?_, ?_⟩
  · intro h b hb
    obtain ⟨j, lt, e⟩ := List.getElem_of_mem hb
    have q := h j (List.mem_range.mpr lt)
    rw [trV_some (List.getElem?_eq_getElem lt), e] at q
    exact q
  · intro h j hj
    have lt := List.mem_range.mp hj
    rw [trV_some (List.getElem?_eq_getElem lt)]
    exact h _ (List.getElem_mem lt)
section
variable {X : Cx} {pins : List (Addr × Obj)} {σ : L2.St} {H : Hp} {s : Shared}
/-- what stands ready to be walked behind the generator's making -/
def RdyV (X : Cx) (pins : List (Addr × Obj)) (σ : L2.St) (H1 : Hp) (xs : List V) (pb : V → Bool) (g : Addr) (s5 : Shared) : Prop :=
  ∃ (fp wr : List Addr) (G : Array GenState → Array GenState → Prop) (F : Nat → Value → Prop) (St : Nat → Shared → Prop),
    WalksS X.prog X.w X.A.in1 g fp wr G xs.length F St ∧ St 0 s5 ∧ TruthOf X.prog X.w X.A.in1 F (trV pb xs) ∧
    ∀ s', Moved wr G s5 s' → Inv X pins σ H1 s'

theorem gen_seq {c P : Addr} {elt iter : Expr} {x : Str} {px gpos : Pos} {scope : Scope} {El : L2.St → Hp → V → Bool → Prop} {te : TE} {k : Nat} {Q' : Value → Shared → Prop} {R : List V → (V → Bool) → Hp → Prop}
    (hr : Room k X.A) (TB : TabB X.base X.mg c P) (hcode : X.env.code = .ref c) (S : GenS X.env scope x) (hi : PE X iter te)
    (he : ∀ σ H1 v b, El σ H1 v b → EltG X P scope x elt σ H1 v b)
    (hs : ∀ v, genFold iter X.env v = pure v) (I : Inv X pins σ H s)
    (h : te σ H fun v H1 => ∃ (a : Addr) (xs : List V) (pb : V → Bool), v = .ref a ∧ (SqL X.K H1 a xs ∨ SqT X.K H1 a xs) ∧ TabE H1 P ∧ (∀ v ∈ xs, El σ H1 v (pb v)) ∧ R xs pb H1)
    (hQ : ∀ xs pb H1 g s5, R xs pb H1 → RdyV X pins σ H1 xs pb g s5 → Q' (.ref g) s5) :
    wpAny (model X.prog X.w) X.A (eval (.GeneratorExp elt [⟨.Name x px, iter, [], 0⟩] scope gpos) X.env) Q' X.xe s := by
  refine wpAny_GeneratorExp_walksQ hr.hd S.co
    (closure_ok S.free) S.cell S.dot S.loc S.kind (by have := hr.dp; omega) ?_ hs
  refine thn (hi.run pins s σ H _ I h) ?_
  rintro xv s1 ⟨v, H1, I1, r1, a, xs, pb, hv, hq, hP, hel, q1⟩
  subst hv
  have exv : xv = .ref a := r1
  subst exv
  obtain ⟨ps, tabS, ht⟩ := TabE.get I1 hP
  have ltP : P < s1.heap.objs.size := Heap.lt_size tabS
  -- list or tuple: what is walked, its state, its size
  have seq : ∃ (its : List Value) (o : Obj) (St : Nat → Heap → Prop), Vals xs its ∧
      (∀ A' : Around, A'.handled = none → Walks X.prog X.w A' s1.heap.objs.size [s1.heap.objs.size, a] [s1.heap.objs.size] its.toArray.size (fun i v => its.toArray[i]? = some v) St) ∧
      St 0 (s1.heap.push o) ∧ a ≠ P ∧ a < s1.heap.objs.size ∧
      ∀ {Q2 : Value → Shared → Prop} {E2 : Value → Shared → Prop}, Q2 (.ref s1.heap.objs.size) { s1 with heap := s1.heap.push o } → wpAny (model X.prog X.w) X.A (pyIter (.ref a)) Q2 E2 s1 := by
    rcases hq with hq | hq
    · obtain ⟨its, rv, ip, hzz⟩ := I1.list hq
      have il : s1.heap.IsList a its.toArray := ip.isList
      have lta : a < s1.heap.objs.size := by
        obtain ⟨oo, _, e1, _⟩ := ip
        exact Heap.lt_size e1
      have ane : a ≠ s1.heap.objs.size := Nat.ne_of_lt lta
      refine ⟨its, { cls := .type "list_iterator", data := .fields #[.ref a, .int 0 0] }, _, rv, fun A' hh => Walks.list hh _ a ane its.toArray, ?_, ?_, lta, fun q => ?_⟩
      · exact ⟨⟨_, Heap.get?_push_size _ rfl, rfl, rfl⟩, il.at fun oo e => Heap.get?_push_of_some _ e⟩
      · intro e
        obtain ⟨oo, n, e1, e2, e3, e4⟩ := ip
        rw [e, tabS] at e1
        cases e1
        cases e2
      · exact wpAny_pyIter_list il q
    · obtain ⟨its, rv, ip, hzz⟩ := I1.tuple hq
      have il : s1.heap.IsTuple a its.toArray := ip
      have lta : a < s1.heap.objs.size := by
        obtain ⟨oo, e1, _⟩ := il
        exact Heap.lt_size e1
      have ane : a ≠ s1.heap.objs.size := Nat.ne_of_lt lta
      refine ⟨its, { cls := .type "tuple_iterator", data := .fields #[.ref a, .int 0 0] }, _, rv, fun A' hh => Walks.tuple hh _ a ane its.toArray, ?_, ?_, lta, fun q => ?_⟩
      · exact ⟨⟨_, Heap.get?_push_size _ rfl, rfl, rfl⟩, il.at fun oo e => Heap.get?_push_of_some _ e⟩
      · intro e
        obtain ⟨oo, e1, e2, e3⟩ := il
        rw [e, tabS] at e1
        cases e1
        cases e2
      · exact wpAny_pyIter_tuple il q
  obtain ⟨its, o, St, rv, WT, st0, aP, lta, hiter⟩ := seq
  refine hiter ?_
  have tab2 : (s1.heap.push o).get? P = some { cls := .none, data := .fields ps } := Heap.get?_push_of_some _ tabS
  have cd : PySem.W.CodeHd (s1.heap.push o) c P := TB.code.keeps
    (fun b u e => Heap.get?_push_of_some _ (I1.bk b u e))
  have lim2 : (s1.heap.push o).NoLimit := I1.nolimit.push o
  have len : its.toArray.size = xs.length := by
    rw [List.size_toArray, ← rv.length]
  have item : ∀ (i : Nat) (u : Value), its.toArray[i]? = some u → ∃ v, xs[i]? = some v ∧ RelV v u := by
    intro i u e
    have e' : its[i]? = some u := by rw [List.getElem?_toArray] at e; exact e
    have hi : i < its.length := (List.getElem?_eq_some_iff.mp e').1
    have hi2 : i < xs.length := by rw [← len, List.size_toArray]; exact hi
    obtain ⟨u', hu, ru⟩ := rv.get (List.getElem?_eq_getElem hi2)
    rw [e'] at hu
    cases hu
    exact ⟨_, List.getElem?_eq_getElem hi2, ru⟩
  have noCell : ∀ c v, s1.heap.IsCell c v → c ≠ P := by
    rintro c v ⟨oc, ec, dc⟩ rfl
    rw [tabS] at ec
    cases ec
    cases dc
  have cont : ∀ (code : Value) (h3 : Heap) (tk : Nat) (ps' : Array Value), Heap.ExtBut P (s1.heap.push o) h3 → (s1.heap.push o).objs.size ≤ h3.objs.size →
      h3.get? P = some { cls := .none, data := .fields ps' } → TriplesOk ps'.toList →
      wpAny (model X.prog X.w) X.A (builtinsFor X.env.globals X.env.builtins) (fun bi s4 =>
        ∃ Ia fp wr n0 Pf St0 pz F, Value.ref s1.heap.objs.size = .ref Ia ∧ (∀ A' : Around, A'.handled = none → Walks X.prog X.w A' Ia fp wr n0 Pf St0) ∧ St0 0 s4.heap ∧ (∀ b ∈ fp, b < s4.heap.objs.size) ∧ s4.heap.NoLimit ∧ cStatics ∉ wr ∧
          (∀ href : Heap, (∀ b o, s4.heap.get? b = some o → href.get? b = some o) →
            QuietGen X.prog X.w (genEnv scope (cloFrom X.env.cells scope.names []) s4.heap.objs.size code bi X.env) x [] elt (List.range s4.heap.objs.size) wr Pf pz F href) ∧
          (∀ a h5 tk gs, gs.bare = true → s4.heap.objs.size < a → h5.objs.size = a + 1 → (∀ b o, s4.heap.get? b = some o → h5.get? b = some o) →
            WalksS X.prog X.w X.A.in4 a (a :: s4.heap.objs.size :: List.range s4.heap.objs.size) (s4.heap.objs.size :: wr) (GenOnlyQ s4.gens.size) (passing pz n0 0).length
              (fun j y => ∃ i, (passing pz n0 0)[j]? = some i ∧ F i y) (GenAt X.prog X.w X.A.in4 a s4.gens.size s4.heap.objs.size (List.range s4.heap.objs.size) wr pz n0 F) →
            GenAt X.prog X.w X.A.in4 a s4.gens.size s4.heap.objs.size (List.range s4.heap.objs.size) wr pz n0 F 0 { s4 with gens := s4.gens.push gs, toks := tk, heap := h5 } →
            Q' (.ref a) { s4 with gens := s4.gens.push gs, toks := tk, heap := h5 })) X.xe { s1 with heap := h3, toks := tk } := by
    intro code h3 tk ps' hx hsz hP3 ht3
    obtain ⟨bm, ob, b1, b2, b3, b4, b5, b6, b7, b8⟩ := TB.bm
    have stP : cStatics ≠ P := by
      intro e
      obtain ⟨_, hns, _⟩ := I1.nolimit
      obtain ⟨o', es, ep, q1, q2, _⟩ := hns
      rw [e, tabS] at q1
      cases q1
      cases q2
    have stL : cStatics < s1.heap.objs.size := by
      obtain ⟨_, hns, _⟩ := I1.nolimit
      exact hns.lt
    have sz2 : (s1.heap.push o).objs.size = s1.heap.objs.size + 1 := Heap.size_push ..
    have keep3 : ∀ b u, b ≠ P → s1.heap.get? b = some u → h3.get? b = some u := fun b u hb e =>
      hx b u hb (Heap.get?_push_of_some _ e)
    refine wpAny_builtinsFor (m := X.mg)
      (by rw [I1.ok.glob]; exact ((I1.mod.glob.keeps I1.bk).push o).extBut hx TB.gP)
      b1 b2 (keep3 _ _ b4 (I1.bk _ _ b5)) b6 b7 b8 ?_
    refine ⟨s1.heap.objs.size, [s1.heap.objs.size, a], [s1.heap.objs.size], its.toArray.size, (fun i v => its.toArray[i]? = some v), St,
      (fun _ => true), (fun i y => ∃ v, xs[i]? = some v ∧ y = .bool (pb v)), rfl, WT, ?_, ?_, lim2.extBut hx stP, ?_, ?_, ?_⟩
    · refine (WT X.A hr.hd).frame _ _ _ st0 ?_
      intro b hb u e
      refine hx b u ?_ e
      rintro rfl
      rcases List.mem_cons.mp hb with q | q
      · exact Nat.ne_of_lt ltP q
      · exact aP (List.mem_singleton.mp q).symm
    · intro b hb
      show b < h3.objs.size
      rcases List.mem_cons.mp hb with q | q
      · rw [q]
        show (s1.heap.objs.size : Nat) < h3.objs.size
        omega
      · rw [List.mem_singleton.mp q]
        exact Nat.lt_of_lt_of_le lta (by omega)
    · intro q
      exact Nat.ne_of_lt stL (List.mem_singleton.mp q)
    · intro href hhref
      refine ⟨?_, ?_⟩
      · intro A' E' i v s2 m2 _ _ _ _ _
        simp only [List.forIn_nil]
        exact wpAny_pure ⟨rfl, keeps_refl _⟩
      · intro A' E' i u s2 m2 hA hPv hp hn hm hk
        obtain ⟨v, hv1, ru⟩ := item i u hPv
        refine wpAny_mono (he _ _ _ _ (hel v (List.mem_of_getElem? hv1)) pins s1 _ A' E' u s2 m2 I1 ⟨rfl, rfl, hn, fun y c hf hc => ?_, fun b o' hb e => ?_⟩ ru hm (by rw [tabS]; exact fun z => nomatch z) noCell) ?_ (fun _ _ e => e)
        · exact NdefX.clo_has S.free hf hc
        · have ltb : b < s1.heap.objs.size := Heap.lt_size e
          refine hk b (List.mem_range.mpr ?_) ?_ o' (hhref b o' (keep3 b o' hb e))
          · exact Nat.lt_of_lt_of_le ltb (by show s1.heap.objs.size ≤ h3.objs.size; omega)
          · intro q
            exact Nat.ne_of_lt ltb (List.mem_singleton.mp q)
        · rintro yv s3 ⟨r1, r2⟩
          exact ⟨⟨v, hv1, r1⟩, r2⟩
    · intro g h5 tk5 gs hgb hag hsz5 hk5 W5 hat
      simp only [GxR.passing_true, List.length_range] at W5
      rw [len] at W5
      refine hQ xs pb H1 g _ q1 ⟨_, _, _, _, _, W5.in4_1, by rw [len] at hat; exact hat, ?_, ?_⟩
      · intro j yv sj Qj Ej hy hQj
        obtain ⟨i, hij, n, hn, rfl⟩ := hy
        obtain ⟨hj, ej⟩ := List.getElem?_eq_some_iff.mp hij
        rw [List.getElem_range] at ej
        subst ej
        have g2 : Qj (trV pb xs j) sj := hQj
        rw [trV_some hn] at g2
        exact wpAny_truthy_bool g2
      · intro s' hm
        have nwr : ∀ b u, s1.heap.get? b = some u → b ∉ h3.objs.size :: [s1.heap.objs.size] := by
          intro b u e hb
          have hl : (b : Nat) < s1.heap.objs.size := Heap.lt_size e
          rcases List.mem_cons.mp hb with q | q
          · rw [q] at hl
            exact Nat.lt_irrefl _ (Nat.lt_of_lt_of_le hl (by show s1.heap.objs.size ≤ h3.objs.size; omega))
          · rw [List.mem_singleton.mp q] at hl
            exact Nat.lt_irrefl _ hl
        have J := inv_tabE (qs := ps') (h' := s'.heap) (g' := s'.gens) (d' := s'.drawn) (t' := s'.toks) I1 hP
          (fun b u hb e => hm.heap b u (nwr b u e) (hk5 b u (keep3 b u hb e)))
          (hm.heap P _ (nwr P _ tabS) (hk5 P _ hP3)) ht3
          (AllBare.movedS (I1.bare.push hgb) hm)
        rw [sh_eta s1 s' hm.os] at J
        exact J
  refine ⟨lim2, ?_⟩
  cases hf : codeAmong gpos ps.toList with
  | none =>
    refine wpAny_genexprCodeX hcode (cd.code tab2 ht) (cd.tab tab2) hf ?_
    intro c' h' tk hx hge hlt hco' _ htab' _
    obtain ⟨o1, vs, f1, tf, fl, tg, inF, tx, tt, op, _, _, _, _, _, _, _, _, _, htr, _⟩ := hco'
    exact cont _ h' tk _ hx (Nat.le_trans hge (Nat.le_of_lt hlt)) htab'.2 htr
  | some cv =>
    refine wpAny_genexprCode_hit hcode (cd.code tab2 ht) hf ?_
    exact cont cv _ s1.toks ps (Heap.ExtBut.refl _ _) (Nat.le_refl _) tab2 ht
end
section
variable {X : Cx}
/-- what is known of an element's test, from the slots, the heap, the item -/
abbrev ElP := L2.St → Hp → V → Bool → Prop
/-- any(test for x in e), all(test for x in e), e a list or a tuple -/
def tAnyG (K : PySem.W.Frag) (P : Addr) (El : ElP) (te : TE) : TE := fun σ H Q => te σ H fun v H1 =>
  ∃ (a : Addr) (xs : List V) (pb : V → Bool), v = .ref a ∧ (SqL K H1 a xs ∨ SqT K H1 a xs) ∧ TabE H1 P ∧ (∀ v ∈ xs, El σ H1 v (pb v)) ∧ Q (.bl (xs.any pb)) H1
def tAllG (K : PySem.W.Frag) (P : Addr) (El : ElP) (te : TE) : TE := fun σ H Q => te σ H fun v H1 =>
  ∃ (a : Addr) (xs : List V) (pb : V → Bool), v = .ref a ∧ (SqL K H1 a xs ∨ SqT K H1 a xs) ∧ TabE H1 P ∧ (∀ v ∈ xs, El σ H1 v (pb v)) ∧ Q (.bl (xs.all pb)) H1
theorem pe_anyG {c P : Addr} {elt iter : Expr} {x : Str} {px p pos gpos : Pos} {scope : Scope} {El : ElP} {te : TE} {k : Nat}
    (hr : Room k X.A) (hg : Gl X "any") (hm : X.mg "any" = none) (TB : TabB X.base X.mg c P) (hcode : X.env.code = .ref c) (S : GenS X.env scope x) (hi : PE X iter te)
    (hel : ∀ σ H1 v b, El σ H1 v b → EltG X P scope x elt σ H1 v b)
    (hs : ∀ v, genFold iter X.env v = pure v)
    (he : starEach [.GeneratorExp elt [⟨.Name x px, iter, [], 0⟩] scope gpos] X.env = (false, eval (.GeneratorExp elt [⟨.Name x px, iter, [], 0⟩] scope gpos) X.env) :: starEach [] X.env := by rfl) :
    PE X (.Call (.Name "any" p) [.GeneratorExp elt [⟨.Name x px, iter, [], 0⟩] scope gpos] [] pos) (tAnyG X.K P El te) := by
  refine ⟨?_⟩
  intro pins s σ H Q I h
  refine wpAny_Call_Name_kw (ld_blt I hg hm boot_any ?_)
  refine PyProof.Rows.callWith_builtin1 ?_ he (by rfl)
  rw [he]
  refine Calls.spliced_cons (gen_seq (R := fun xs pb H1 => Q (.bl (xs.any pb)) H1) hr TB hcode S hi hel hs I h ?_)
  intro xs pb H1 g s5 hR hG
  obtain ⟨fp, wr, G, F, St, W, hst, htr, hI⟩ := hG
  refine Calls.spliced_nil ?_
  refine call_any_walkS (W.self 0 _ _ _ hst ⟨g, fp, wr, G, _, F, St, _, rfl, W, hst, htr, ?_⟩)
  intro s' hmv
  refine ⟨.bl _, H1, hI s' hmv, rfl, ?_⟩
  rw [any_trV xs pb]
  exact hR
theorem pe_allG {c P : Addr} {elt iter : Expr} {x : Str} {px p pos gpos : Pos} {scope : Scope} {El : ElP} {te : TE} {k : Nat}
    (hr : Room k X.A) (hg : Gl X "all") (hm : X.mg "all" = none) (TB : TabB X.base X.mg c P) (hcode : X.env.code = .ref c) (S : GenS X.env scope x) (hi : PE X iter te)
    (hel : ∀ σ H1 v b, El σ H1 v b → EltG X P scope x elt σ H1 v b)
    (hs : ∀ v, genFold iter X.env v = pure v)
    (he : starEach [.GeneratorExp elt [⟨.Name x px, iter, [], 0⟩] scope gpos] X.env = (false, eval (.GeneratorExp elt [⟨.Name x px, iter, [], 0⟩] scope gpos) X.env) :: starEach [] X.env := by rfl) :
    PE X (.Call (.Name "all" p) [.GeneratorExp elt [⟨.Name x px, iter, [], 0⟩] scope gpos] [] pos) (tAllG X.K P El te) := by
  refine ⟨?_⟩
  intro pins s σ H Q I h
  refine wpAny_Call_Name_kw (ld_blt I hg hm boot_all ?_)
  refine PyProof.Rows.callWith_builtin1 ?_ he (by rfl)
  rw [he]
  refine Calls.spliced_cons (gen_seq (R := fun xs pb H1 => Q (.bl (xs.all pb)) H1) hr TB hcode S hi hel hs I h ?_)
  intro xs pb H1 g s5 hR hG
  obtain ⟨fp, wr, G, F, St, W, hst, htr, hI⟩ := hG
  refine Calls.spliced_nil ?_
  refine call_all_walkS (W.self 0 _ _ _ hst ⟨g, fp, wr, G, _, F, St, _, rfl, W, hst, htr, ?_⟩)
  intro s' hmv
  refine ⟨.bl _, H1, hI s' hmv, rfl, ?_⟩
  rw [all_trV xs pb]
  exact hR
end
end MyG
set_option linter.all false
set_option maxHeartbeats 1000000
namespace My
/-! polynomials by their coefficients -/
section
variable {R : Type} [Lean.Grind.CommRing R]
def cf (xs : List R) : Nat → R := fun i => xs.getD i 0
theorem cf_out {xs : List R} {i : Nat} (h : xs.length ≤ i) : cf xs i = 0 := by
  unfold cf
  rw [List.getD_eq_getElem?_getD, List.getElem?_eq_none h]
  rfl
theorem cf_ext {xs ys : List R} (hl : xs.length = ys.length) (h : ∀ i, i < xs.length → cf xs i = cf ys i) : xs = ys := by
  refine List.ext_getElem hl ?_
  intro i h1 h2
  have q := h i h1
  unfold cf at q
  rw [List.getD_eq_getElem?_getD, List.getD_eq_getElem?_getD, List.getElem?_eq_getElem h1, List.getElem?_eq_getElem h2] at q
  exact q
/-- no zero at the end -/
def Trimd (xs : List R) : Prop := ∀ n, xs.length = n + 1 → cf xs n ≠ 0
theorem Trimd.nil : Trimd ([] : List R) := fun n h => by cases h
theorem trimd_eq {xs ys : List R} (hx : Trimd xs) (hy : Trimd ys) (h : ∀ i, cf xs i = cf ys i) : xs = ys := by
  have hl : xs.length = ys.length := by
    rcases Nat.lt_trichotomy xs.length ys.length with z | z | z
    · exfalso
      refine hy (ys.length - 1) (by omega) ?_
      rw [← h, cf_out (by omega)]
    · exact z
    · exfalso
      refine hx (xs.length - 1) (by omega) ?_
      rw [h, cf_out (by omega)]
  exact cf_ext hl fun i _ => h i
variable [DecidableEq R]
def trimTo (xs : List R) : Nat → Nat
  | 0 => 0
  | n + 1 => if cf xs n = 0 then trimTo xs n else n + 1
def trimL (xs : List R) : List R := xs.take (trimTo xs xs.length)
theorem trimTo_le (xs : List R) : ∀ n, trimTo xs n ≤ n
  | 0 => Nat.le_refl 0
  | n + 1 => by
    unfold trimTo
    have := trimTo_le xs n
    split <;> omega
theorem trimTo_zero (xs : List R) : ∀ n i, trimTo xs n ≤ i → i < n → cf xs i = 0
  | 0, i, _, h => absurd h (Nat.not_lt_zero _)
  | n + 1, i, h1, h2 => by
    unfold trimTo at h1
    by_cases hz : cf xs n = 0
    · rw [if_pos hz] at h1
      by_cases hi : i = n
      · rw [hi]; exact hz
      · exact trimTo_zero xs n i h1 (by omega)
    · rw [if_neg hz] at h1
      omega
theorem trimTo_last (xs : List R) : ∀ n k, trimTo xs n = k + 1 → cf xs k ≠ 0
  | 0, k, h => by cases h
  | n + 1, k, h => by
    unfold trimTo at h
    by_cases hz : cf xs n = 0
    · rw [if_pos hz] at h
      exact trimTo_last xs n k h
    · rw [if_neg hz] at h
      have : k = n := by omega
      rw [this]
      exact hz
theorem cf_take {xs : List R} {n i : Nat} : cf (xs.take n) i = if i < n then cf xs i else 0 := by
  unfold cf
  by_cases h : i < n
  · rw [if_pos h, List.getD_eq_getElem?_getD, List.getElem?_take_of_lt h, ← List.getD_eq_getElem?_getD]
  · rw [if_neg h, List.getD_eq_getElem?_getD, List.getElem?_eq_none (by rw [List.length_take]; omega)]
    rfl
theorem cf_trimL (xs : List R) (i : Nat) : cf (trimL xs) i = cf xs i := by
  unfold trimL
  rw [cf_take]
  by_cases h : i < trimTo xs xs.length
  · rw [if_pos h]
  · rw [if_neg h]
    by_cases hi : i < xs.length
    · exact (trimTo_zero xs xs.length i (by omega) hi).symm
    · exact (cf_out (by omega)).symm
theorem trimL_trimd (xs : List R) : Trimd (trimL xs) := fun n h => by
  unfold trimL at h ⊢
  have hle := trimTo_le xs xs.length
  rw [List.length_take, Nat.min_eq_left hle] at h
  rw [cf_take, if_pos (by omega)]
  exact trimTo_last xs xs.length n h
theorem trimL_len (xs : List R) : (trimL xs).length ≤ xs.length := by
  unfold trimL
  rw [List.length_take]
  omega
theorem trimL_eq {xs ys : List R} (hx : Trimd xs) (h : ∀ i, cf xs i = cf ys i) : trimL ys = xs := trimd_eq (trimL_trimd ys) hx fun i => (cf_trimL ys i).trans (h i).symm
theorem trimL_self {xs : List R} (hx : Trimd xs) : trimL xs = xs := trimL_eq hx fun _ => rfl
theorem trimL_congr {xs ys : List R} (h : ∀ i, cf xs i = cf ys i) : trimL xs = trimL ys := trimd_eq (trimL_trimd xs) (trimL_trimd ys) fun i => by rw [cf_trimL, cf_trimL, h]
end
/-! products -/
section
variable {R : Type} [Lean.Grind.CommRing R]
/-- g moved up by i places -/
def sh (i : Nat) (g : Nat → R) : Nat → R := fun k => if k < i then 0 else g (k - i)
def conv (f g : Nat → R) : Nat → Nat → R
  | 0, _ => 0
  | n + 1, k => conv f g n k + f n * sh n g k
theorem conv_more (f g : Nat → R) {n : Nat} (h : ∀ i, n ≤ i → f i = 0) : ∀ d k, conv f g (n + d) k = conv f g n k
  | 0, k => rfl
  | d + 1, k => by
    show conv f g (n + d) k + f (n + d) * sh (n + d) g k = _
    rw [conv_more f g h d k, h (n + d) (by omega)]
    grind
theorem conv_len (f g : Nat → R) {n m : Nat} (h : ∀ i, n ≤ i → f i = 0) (hm : n ≤ m) (k : Nat) : conv f g m k = conv f g n k := by
  rw [show m = n + (m - n) by omega]
  exact conv_more f g h _ k
theorem conv_congr {f f' g g' : Nat → R} (hf : ∀ i, f i = f' i) (hg : ∀ i, g i = g' i) : ∀ n k, conv f g n k = conv f' g' n k
  | 0, k => rfl
  | n + 1, k => by
    have e : g = g' := funext hg
    have e2 : f = f' := funext hf
    rw [e, e2]
/-- the value -/
def sumE (g : Nat → R) (x : R) : Nat → R
  | 0 => 0
  | n + 1 => sumE g x n + g n * x ^ n
theorem sumE_more {g : Nat → R} {x : R} {n : Nat} (h : ∀ i, n ≤ i → g i = 0) : ∀ d, sumE g x (n + d) = sumE g x n
  | 0 => rfl
  | d + 1 => by
    show sumE g x (n + d) + g (n + d) * x ^ (n + d) = _
    rw [sumE_more h d, h (n + d) (by omega)]
    grind
theorem sumE_len {g : Nat → R} {x : R} {n m : Nat} (h : ∀ i, n ≤ i → g i = 0) (hm : n ≤ m) : sumE g x m = sumE g x n := by
  rw [show m = n + (m - n) by omega]
  exact sumE_more h _
theorem pow_addR (x : R) (i : Nat) : ∀ j, x ^ (i + j) = x ^ i * x ^ j
  | 0 => by rw [Nat.add_zero, Lean.Grind.Semiring.pow_zero]; grind
  | j + 1 => by
    rw [← Nat.add_assoc, Lean.Grind.Semiring.pow_succ, pow_addR x i j, Lean.Grind.Semiring.pow_succ]
    grind
theorem sumE_low {g : Nat → R} {x : R} : ∀ n i, (∀ k, k < n → i ≤ k → False) → sumE (sh i g) x n = 0
  | 0, i, _ => rfl
  | n + 1, i, h => by
    show sumE (sh i g) x n + sh i g n * x ^ n = 0
    rw [sumE_low n i (fun k h1 h2 => h k (by omega) h2)]
    have : sh i g n = 0 := by
      unfold sh
      exact if_pos (Decidable.byContradiction fun z => h n (by omega) (by omega))
    rw [this]
    grind
theorem sumE_sh {g : Nat → R} {x : R} (i : Nat) : ∀ n, sumE (sh i g) x (i + n) = x ^ i * sumE g x n
  | 0 => by
    rw [Nat.add_zero, sumE_low i i (fun k h1 h2 => by omega)]
    show (0 : R) = x ^ i * 0
    grind
  | n + 1 => by
    show sumE (sh i g) x (i + n) + sh i g (i + n) * x ^ (i + n) = x ^ i * (sumE g x n + g n * x ^ n)
    rw [sumE_sh i n]
    have : sh i g (i + n) = g n := by
      unfold sh
      rw [if_neg (by omega), show i + n - i = n by omega]
    rw [this, pow_addR]
    grind
theorem sumE_add {g h : Nat → R} {x : R} : ∀ n, sumE (fun k => g k + h k) x n = sumE g x n + sumE h x n
  | 0 => by show (0 : R) = 0 + 0; grind
  | n + 1 => by
    show sumE (fun k => g k + h k) x n + (g n + h n) * x ^ n = (sumE g x n + g n * x ^ n) + (sumE h x n + h n * x ^ n)
    rw [sumE_add n]
    grind
theorem sumE_sm {g : Nat → R} {c x : R} : ∀ n, sumE (fun k => c * g k) x n = c * sumE g x n
  | 0 => by show (0 : R) = c * 0; grind
  | n + 1 => by
    show sumE (fun k => c * g k) x n + c * g n * x ^ n = c * (sumE g x n + g n * x ^ n)
    rw [sumE_sm n]
    grind
/-- the value of a product -/
theorem sumE_conv {f g : Nat → R} {x : R} {lb : Nat} (hg : ∀ i, lb ≤ i → g i = 0) (N : Nat) : ∀ n, n + lb ≤ N → sumE (conv f g n) x N = sumE f x n * sumE g x lb
  | 0, _ => by
    have h : conv f g 0 = fun k => (0 : R) * g k := by
      funext k
      show (0 : R) = 0 * g k
      grind
    rw [h, sumE_sm]
    show (0 : R) * _ = 0 * _
    grind
  | n + 1, hN => by
    have h : conv f g (n + 1) = fun k => conv f g n k + f n * sh n g k := rfl
    rw [h, sumE_add, sumE_sm (g := sh n g), sumE_conv hg N n (by omega)]
    have h2 : sumE (sh n g) x N = x ^ n * sumE g x lb := by
      rw [show N = n + (N - n) by omega, sumE_sh, sumE_len hg (by omega)]
    rw [h2]
    show _ = (sumE f x n + f n * x ^ n) * _
    grind
/-- n as an element -/
def nc (n : Nat) : R := OfNat.ofNat (α := R) n
theorem nc_zero : (nc 0 : R) = 0 := rfl
theorem nc_succ (n : Nat) : (nc (n + 1) : R) = nc n + 1 := Lean.Grind.Semiring.ofNat_succ n
theorem nc_add (a : Nat) : ∀ b, (nc (a + b) : R) = nc a + nc b
  | 0 => by rw [nc_zero, Nat.add_zero]; grind
  | b + 1 => by rw [← Nat.add_assoc, nc_succ, nc_succ, nc_add a b]; grind
/-- the derivative -/
def der (g : Nat → R) : Nat → R := fun k => nc (k + 1) * g (k + 1)
theorem der_conv (f g : Nat → R) (k : Nat) : ∀ n, der (conv f g n) k = conv f (der g) n k + conv (der f) g (n - 1) k
  | 0 => by
    show nc (k + 1) * 0 = 0 + 0
    grind
  | n + 1 => by
    have ih := der_conv f g k n
    unfold der at ih ⊢
    show nc (k + 1) * (conv f g n (k + 1) + f n * sh n g (k + 1)) = (conv f _ n k + f n * sh n _ k) + conv _ g n k
    have key : nc (k + 1) * (f n * sh n g (k + 1)) = f n * sh n (fun k => nc (k + 1) * g (k + 1)) k + (conv (fun k => nc (k + 1) * f (k + 1)) g n k - conv (fun k => nc (k + 1) * f (k + 1)) g (n - 1) k) := by
      cases n with
      | zero =>
        have e1 : sh 0 g (k + 1) = g (k + 1) := rfl
        have e2 : sh 0 (fun k => nc (k + 1) * g (k + 1)) k = nc (k + 1) * g (k + 1) := rfl
        rw [e1, e2]
        show _ = _ + ((0 : R) - 0)
        grind
      | succ n =>
        show _ = _ + ((conv _ g n k + nc (n + 1) * f (n + 1) * sh n g k) - conv _ g n k)
        unfold sh
        by_cases h1 : k < n
        · rw [if_pos (by omega), if_pos (by omega), if_pos h1]
          grind
        · by_cases h2 : k = n
          · subst h2
            rw [if_neg (by omega), if_pos (by omega), if_neg (by omega), Nat.sub_self, Nat.sub_self]
            grind
          · rw [if_neg (by omega), if_neg (by omega), if_neg (by omega)]
            have e1 : k + 1 - (n + 1) = k - n := by omega
            have e2 : k - (n + 1) + 1 = k - n := by omega
            rw [e1]
            show _ = f (n + 1) * (nc (k - (n + 1) + 1) * g (k - (n + 1) + 1)) + _
            rw [e2]
            have e3 : (nc (k + 1) : R) = nc (k - n) + nc (n + 1) := by
              rw [← nc_add, show k - n + (n + 1) = k + 1 by omega]
            rw [e3]
            grind
    generalize conv (fun k => nc (k + 1) * f (k + 1)) g n k = A at *
    generalize conv (fun k => nc (k + 1) * f (k + 1)) g (n - 1) k = B at *
    grind
end
end My
set_option linter.all false
set_option maxRecDepth 100000
set_option maxHeartbeats 1000000
namespace My
/-! power series over a ring: the ring in which identities of polynomials are proved -/
structure PS (R : Type) where
  at' : Nat → R
section
variable {R : Type} [Lean.Grind.CommRing R]
def tl (f : Nat → R) : Nat → R := fun i => f (i + 1)
def cau (f g : Nat → R) : Nat → R
  | 0 => f 0 * g 0
  | k + 1 => f 0 * g (k + 1) + cau (tl f) g k
theorem cau_addl (g : Nat → R) : ∀ k (f f' : Nat → R), cau (fun i => f i + f' i) g k = cau f g k + cau f' g k
  | 0, f, f' => by show (f 0 + f' 0) * g 0 = f 0 * g 0 + f' 0 * g 0; grind
  | k + 1, f, f' => by
    show (f 0 + f' 0) * g (k + 1) + cau (fun i => tl f i + tl f' i) g k = _
    rw [cau_addl g k]
    show _ = f 0 * g (k + 1) + cau (tl f) g k + (f' 0 * g (k + 1) + cau (tl f') g k)
    grind
theorem cau_sml (g : Nat → R) (c : R) : ∀ k (f : Nat → R), cau (fun i => c * f i) g k = c * cau f g k
  | 0, f => by show c * f 0 * g 0 = c * (f 0 * g 0); grind
  | k + 1, f => by
    show c * f 0 * g (k + 1) + cau (fun i => c * tl f i) g k = c * (f 0 * g (k + 1) + cau (tl f) g k)
    rw [cau_sml g c k]
    grind
theorem cau_right (g : Nat → R) : ∀ k (f : Nat → R), cau f g (k + 1) = cau f (tl g) k + f (k + 1) * g 0
  | 0, f => rfl
  | k + 1, f => by
    show f 0 * g (k + 2) + cau (tl f) g (k + 1) = f 0 * tl g (k + 1) + cau (tl f) (tl g) k + f (k + 2) * g 0
    rw [cau_right g k]
    show f 0 * g (k + 2) + (_ + f (k + 2) * g 0) = f 0 * g (k + 2) + _ + _
    grind
theorem cau_comm : ∀ k (f g : Nat → R), cau f g k = cau g f k
  | 0, f, g => by show f 0 * g 0 = g 0 * f 0; grind
  | k + 1, f, g => by
    rw [cau_right f k g]
    show f 0 * g (k + 1) + cau (tl f) g k = _
    rw [cau_comm k (tl f) g]
    grind
theorem cau_assoc (g h : Nat → R) : ∀ k (f : Nat → R), cau (cau f g) h k = cau f (cau g h) k
  | 0, f => by show f 0 * g 0 * h 0 = f 0 * (g 0 * h 0); grind
  | k + 1, f => by
    show f 0 * g 0 * h (k + 1) + cau (tl (cau f g)) h k = f 0 * (g 0 * h (k + 1) + cau (tl g) h k) + cau (tl f) (cau g h) k
    have e : tl (cau f g) = fun i => (fun i => f 0 * tl g i) i + cau (tl f) g i := rfl
    rw [e, cau_addl, cau_sml, cau_assoc g h k (tl f)]
    grind
theorem cau_zero (g : Nat → R) : ∀ k, cau (fun _ => 0) g k = 0
  | 0 => by show (0 : R) * g 0 = 0; grind
  | k + 1 => by
    show (0 : R) * g (k + 1) + cau (fun _ => 0) g k = 0
    rw [cau_zero g k]
    grind
def dl (n : Nat) : Nat → R := fun i => if i = n then 1 else 0
theorem cau_dl (g : Nat → R) : ∀ n k, cau (dl n) g k = sh n g k
  | 0, 0 => by show (1 : R) * g 0 = _; unfold sh; rw [if_neg (by omega)]; show _ = g 0; grind
  | 0, k + 1 => by
    show (if (0 : Nat) = 0 then (1 : R) else 0) * g (k + 1) + cau (tl (dl 0)) g k = _
    have e : tl (dl 0 : Nat → R) = fun _ => 0 := by funext i; unfold tl dl; rw [if_neg (by omega)]
    rw [e, cau_zero, if_pos rfl]
    unfold sh
    rw [if_neg (by omega)]
    show _ = g (k + 1)
    grind
  | n + 1, 0 => by
    show (if (0 : Nat) = n + 1 then (1 : R) else 0) * g 0 = _
    rw [if_neg (by omega)]
    unfold sh
    rw [if_pos (by omega)]
    grind
  | n + 1, k + 1 => by
    show (if (0 : Nat) = n + 1 then (1 : R) else 0) * g (k + 1) + cau (tl (dl (n + 1))) g k = _
    have e : tl (dl (n + 1) : Nat → R) = dl n := by
      funext i
      unfold tl dl
      by_cases h : i = n
      · rw [if_pos h, if_pos (by omega)]
      · rw [if_neg h, if_neg (by omega)]
    rw [e, cau_dl g n k, if_neg (by omega)]
    unfold sh
    by_cases h : k < n
    · rw [if_pos h, if_pos (by omega)]
      grind
    · rw [if_neg h, if_neg (by omega), Nat.add_sub_add_right]
      grind
theorem conv_cut (f g : Nat → R) (k : Nat) : ∀ n, conv f g n k = cau (fun i => if i < n then f i else 0) g k
  | 0 => by
    have e : (fun i => if i < 0 then f i else (0 : R)) = fun _ => 0 := by funext i; rw [if_neg (by omega)]
    rw [e, cau_zero]
    rfl
  | n + 1 => by
    have e : (fun i => if i < n + 1 then f i else (0 : R)) = fun i => (fun i => if i < n then f i else 0) i + (fun i => f n * dl n i) i := by
      funext i
      show _ = (if i < n then f i else 0) + f n * (if i = n then 1 else 0)
      rcases Nat.lt_trichotomy i n with h | h | h
      · rw [if_pos (by omega), if_pos h, if_neg (by omega)]
        grind
      · subst h
        rw [if_pos (by omega), if_neg (by omega), if_pos rfl]
        grind
      · rw [if_neg (by omega), if_neg (by omega), if_neg (by omega)]
        grind
    rw [e, cau_addl, cau_sml, cau_dl, ← conv_cut f g k n]
    rfl
theorem conv_cau (f g : Nat → R) {n : Nat} (h : ∀ i, n ≤ i → f i = 0) (k : Nat) : conv f g n k = cau f g k := by
  rw [conv_cut]
  have e : (fun i => if i < n then f i else (0 : R)) = f := by
    funext i
    by_cases q : i < n
    · rw [if_pos q]
    · rw [if_neg q, h i (by omega)]
  rw [e]
theorem ps_ext {a b : PS R} (h : ∀ i, a.at' i = b.at' i) : a = b := by
  cases a
  cases b
  congr
  exact funext h
end
end My
set_option linter.all false
set_option maxRecDepth 100000
set_option maxHeartbeats 1000000
namespace MyZ
open My
/-! the power series over a field's numbers are a ring -/
section
abbrev Ps : Type := PS Int
def psInt (z : Int) : Ps := ⟨fun i => if i = 0 then z else 0⟩
def psAdd (a b : Ps) : Ps := ⟨fun i => a.at' i + b.at' i⟩
def psMul (a b : Ps) : Ps := ⟨cau a.at' b.at'⟩
def psNeg (a : Ps) : Ps := ⟨fun i => -a.at' i⟩
def psPow (a : Ps) : Nat → Ps
  | 0 => psInt 1
  | n + 1 => psMul (psPow a n) a
instance : Add (Ps) := ⟨psAdd⟩
instance : Mul (Ps) := ⟨psMul⟩
instance : Neg (Ps) := ⟨psNeg⟩
instance : Sub (Ps) := ⟨fun a b => psAdd a (psNeg b)⟩
instance : NatCast (Ps) := ⟨fun n => psInt (n : Int)⟩
instance : IntCast (Ps) := ⟨psInt⟩
instance (n : Nat) : OfNat (Ps) n := ⟨psInt (n : Int)⟩
instance : SMul Nat (Ps) := ⟨fun n a => psMul (psInt (n : Int)) a⟩
instance : SMul Int (Ps) := ⟨fun n a => psMul (psInt n) a⟩
instance : HPow (Ps) Nat (Ps) := ⟨psPow⟩
theorem psInt_zero (i : Nat) : (psInt 0 : Ps).at' i = 0 := by
  show (if i = 0 then (0 : Int) else 0) = 0
  split <;> rfl
theorem psInt_one (i : Nat) : (psInt 1 : Ps).at' i = dl 0 i := by
  show (if i = 0 then (1 : Int) else 0) = (if i = 0 then 1 else 0)
  rfl
theorem ps_mul_comm (a b : Ps) : psMul a b = psMul b a := ps_ext fun i => cau_comm i _ _
theorem ps_mul_one (a : Ps) : psMul a (psInt 1) = a := ps_ext fun i => by
  show cau a.at' (psInt 1 : Ps).at' i = _
  rw [cau_comm, show (psInt 1 : Ps).at' = dl 0 from funext psInt_one, cau_dl]
  unfold sh
  rw [if_neg (by omega)]
  rfl
theorem ps_mul_zero (a : Ps) : psMul a (psInt 0) = psInt 0 := ps_ext fun i => by
  show cau a.at' (psInt 0 : Ps).at' i = _
  rw [cau_comm, show (psInt 0 : Ps).at' = fun _ => 0 from funext psInt_zero, cau_zero]
theorem ps_dist (a b c : Ps) : psMul a (psAdd b c) = psAdd (psMul a b) (psMul a c) := ps_ext fun i => by
  show cau a.at' (fun i => b.at' i + c.at' i) i = cau a.at' b.at' i + cau a.at' c.at' i
  rw [cau_comm i a.at', cau_addl, cau_comm i a.at', cau_comm i a.at']
theorem psInt_add (x y : Int) : (psInt (x + y) : Ps) = psAdd (psInt x) (psInt y) := ps_ext fun i => by
  show (if i = 0 then (x + y : Int) else 0) = (if i = 0 then x else 0) + (if i = 0 then y else 0)
  by_cases h : i = 0
  · rw [if_pos h, if_pos h, if_pos h]
  · rw [if_neg h, if_neg h, if_neg h]
    grind
theorem ps_neg_add (a : Ps) : psAdd (psNeg a) a = psInt 0 := ps_ext fun i => by
  rw [psInt_zero]
  show -a.at' i + a.at' i = 0
  grind
theorem ps_neg_uniq {a b : Ps} (h : psAdd a b = psInt 0) : a = psNeg b := ps_ext fun i => by
  have h1 : a.at' i + b.at' i = 0 := by
    have := congrArg (fun s : Ps => s.at' i) h
    exact this.trans (psInt_zero i)
  show a.at' i = -b.at' i
  grind
instance : Lean.Grind.CommRing (Ps) where
  add_zero := fun a => ps_ext fun i => by
    show a.at' i + (psInt 0 : Ps).at' i = a.at' i
    rw [psInt_zero]
    grind
  add_comm := fun a b => ps_ext fun i => by
    show a.at' i + b.at' i = b.at' i + a.at' i
    grind
  add_assoc := fun a b c => ps_ext fun i => by
    show a.at' i + b.at' i + c.at' i = a.at' i + (b.at' i + c.at' i)
    grind
  mul_assoc := fun a b c => ps_ext fun i => cau_assoc _ _ i _
  mul_one := ps_mul_one
  one_mul := fun a => (ps_mul_comm _ _).trans (ps_mul_one a)
  left_distrib := ps_dist
  right_distrib := fun a b c => by
    show psMul (psAdd a b) c = psAdd (psMul a c) (psMul b c)
    rw [ps_mul_comm, ps_dist, ps_mul_comm c a, ps_mul_comm c b]
  zero_mul := fun a => (ps_mul_comm _ _).trans (ps_mul_zero a)
  mul_zero := ps_mul_zero
  pow_zero := fun _ => rfl
  pow_succ := fun _ _ => rfl
  ofNat_succ := fun n => by
    show psInt ((n + 1 : Nat) : Int) = psAdd (psInt (n : Int)) (psInt ((1 : Nat) : Int))
    rw [← psInt_add]
    rfl
  neg_add_cancel := ps_neg_add
  sub_eq_add_neg := fun _ _ => rfl
  neg_zsmul := fun i a => ps_neg_uniq (by
    show psAdd (psMul (psInt (-i)) a) (psMul (psInt i) a) = psInt 0
    rw [ps_mul_comm (psInt (-i)), ps_mul_comm (psInt i), ← ps_dist, ← psInt_add, Int.add_left_neg, ps_mul_zero])
  intCast_neg := fun i => ps_neg_uniq (by
    show psAdd (psInt (-i)) (psInt i) = psInt 0
    rw [← psInt_add, Int.add_left_neg])
  mul_comm := ps_mul_comm
theorem psz_at (i : Nat) : (0 : Ps).at' i = 0 := psInt_zero i
theorem ps1_at (i : Nat) : (1 : Ps).at' i = dl 0 i := psInt_one i
theorem psa_at (a b : Ps) (i : Nat) : (a + b).at' i = a.at' i + b.at' i := rfl
theorem psm_at (a b : Ps) (i : Nat) : (a * b).at' i = cau a.at' b.at' i := rfl
theorem psn_at (a : Ps) (i : Nat) : (-a).at' i = -a.at' i := rfl
theorem pss_at (a b : Ps) (i : Nat) : (a - b).at' i = a.at' i - b.at' i := by
  show a.at' i + -b.at' i = _
  grind
/-- the series of a polynomial -/
def po (xs : List Int) : Ps := ⟨cf xs⟩
theorem po_trim (xs : List Int) : po (trimL xs) = po xs := ps_ext fun i => cf_trimL xs i
theorem po_inj {xs ys : List Int} (hx : Trimd xs) (hy : Trimd ys) (h : po xs = po ys) : xs = ys := trimd_eq hx hy fun i => congrArg (fun s : Ps => s.at' i) h
theorem po_nil : po ([] : List Int) = 0 := ps_ext fun i => by
  rw [psz_at]
  exact cf_out (xs := ([] : List Int)) (by show 0 ≤ i; omega)
theorem po_one : po ([1] : List Int) = 1 := ps_ext fun i => by
  rw [ps1_at]
  show cf ([1] : List Int) i = dl 0 i
  cases i with
  | zero => rfl
  | succ i => exact (cf_out (xs := ([1] : List Int)) (by show 1 ≤ i + 1; omega)).trans (by unfold dl; rw [if_neg (by omega)])
end
end MyZ
namespace MyZ
open My
/-- the series that is z times a -/
theorem po_shift (xs : List Int) : po (0 :: xs) = ⟨fun k => if k = 0 then 0 else cf xs (k - 1)⟩ := ps_ext fun i => by
  cases i with
  | zero => rfl
  | succ i => rfl
def zz : Ps := po [0, 1]
theorem zz_mul (a : Ps) (k : Nat) : (zz * a).at' k = if k = 0 then 0 else a.at' (k - 1) := by
  have e : zz.at' = (dl 1 : Nat → Int) := by
    funext i
    unfold dl
    match i with
    | 0 => rfl
    | 1 => rfl
    | i + 2 => rw [if_neg (by omega)]; exact cf_out (xs := ([0, 1] : List Int)) (i := i + 2) (by show 2 ≤ i + 2; omega)
  rw [psm_at, e, cau_dl]
  unfold sh
  by_cases h : k = 0
  · rw [if_pos (by omega), if_pos h]
  · rw [if_neg (by omega), if_neg h]
theorem int_mul (c : Int) (a : Ps) (k : Nat) : (psInt c * a).at' k = c * a.at' k := by
  have e : (psInt c).at' = fun i => c * dl 0 i := by
    funext i
    show (if i = 0 then c else 0) = c * (if i = 0 then 1 else 0)
    split <;> simp
  rw [psm_at, e, cau_sml, cau_dl]
  unfold sh
  rw [if_neg (by omega)]
  rfl
/-- 1 + s z -/
def ln (s : Int) : Ps := 1 + psInt s * zz
theorem ln_mul (s : Int) (a : Ps) (k : Nat) : (ln s * a).at' k = a.at' k + s * (if k = 0 then 0 else a.at' (k - 1)) := by
  have e : ln s * a = a + psInt s * (zz * a) := by unfold ln; grind
  rw [e, psa_at, int_mul, zz_mul]
end MyZ
set_option linter.all false
set_option maxRecDepth 100000
set_option maxHeartbeats 1000000
namespace MyZ
open My
/-! lists of counts: lines, products, the Krawtchouk sums -/
theorem cf_rng (n : Nat) (g : Nat → Int) (i : Nat) : cf ((List.range n).map g) i = if i < n then g i else 0 := by
  unfold cf
  rw [List.getD_eq_getElem?_getD, List.getElem?_map]
  by_cases h : i < n
  · rw [if_pos h, List.getElem?_range h]
    rfl
  · rw [if_neg h, List.getElem?_eq_none (by rw [List.length_range]; omega)]
    rfl
theorem rng_len (n : Nat) (g : Nat → Int) : ((List.range n).map g).length = n := by rw [List.length_map, List.length_range]
/-- times 1 + s z -/
def line (xs : List Int) (s : Int) : List Int := (List.range (xs.length + 1)).map fun i => cf xs i + s * (if i = 0 then 0 else cf xs (i - 1))
theorem line_len (xs : List Int) (s : Int) : (line xs s).length = xs.length + 1 := rng_len _ _
theorem po_line (xs : List Int) (s : Int) : po (line xs s) = ln s * po xs := ps_ext fun k => by
  rw [ln_mul]
  show cf (line xs s) k = cf xs k + s * (if k = 0 then 0 else cf xs (k - 1))
  unfold line
  rw [cf_rng]
  by_cases h : k < xs.length + 1
  · rw [if_pos h]
  · rw [if_neg h, if_neg (by omega), cf_out (xs := xs) (by omega), cf_out (xs := xs) (by omega)]
    simp
/-- the product -/
def mulZ (a b : List Int) : List Int := (List.range (a.length + b.length - 1)).map (conv (cf a) (cf b) a.length)
theorem mulZ_len (a b : List Int) : (mulZ a b).length = a.length + b.length - 1 := rng_len _ _
theorem cf_mulZ {a b : List Int} (ha : 0 < a.length) (hb : 0 < b.length) (k : Nat) : cf (mulZ a b) k = cau (cf a) (cf b) k := by
  unfold mulZ
  rw [cf_rng, ← conv_cau (cf a) (cf b) (n := a.length) (fun i hi => cf_out hi)]
  by_cases h : k < a.length + b.length - 1
  · rw [if_pos h]
  · rw [if_neg h]
    have : ∀ n, n ≤ a.length → conv (cf a) (cf b) n k = 0 := by
      intro n
      induction n with
      | zero => intro _; rfl
      | succ n ih =>
        intro hn
        show conv (cf a) (cf b) n k + cf a n * sh n (cf b) k = 0
        have e : sh n (cf b) k = 0 := by
          unfold sh
          rw [if_neg (by omega), cf_out (by omega)]
        rw [ih (by omega), e]
        simp
    exact (this _ (Nat.le_refl _)).symm
theorem po_mulZ {a b : List Int} (ha : 0 < a.length) (hb : 0 < b.length) : po (mulZ a b) = po a * po b := ps_ext fun k => cf_mulZ ha hb k
/-- powers of a factor -/
def repZ (f : List Int) : Nat → List Int
  | 0 => [1]
  | n + 1 => mulZ (repZ f n) f
theorem po_lenEq {a b : List Int} (hl : a.length = b.length) (h : po a = po b) : a = b := cf_ext hl fun i _ => congrArg (fun s : Ps => s.at' i) h
/-- c a + b, place by place -/
def axZ (c : Int) (a b : List Int) : List Int := (List.range a.length).map fun i => cf b i + c * cf a i
/-- the sums of a list of counts, with 1 + s z and 1 - z -/
def lines (s : Int) : Nat → List Int
  | 0 => [1]
  | n + 1 => line (lines s n) s
theorem lines_len (s : Int) : ∀ n, (lines s n).length = n + 1
  | 0 => rfl
  | n + 1 => by
    show (line (lines s n) s).length = _
    rw [line_len, lines_len s n]
theorem po_lines (s : Int) : ∀ n, po (lines s n) = ln s ^ n
  | 0 => by
    show po [1] = _
    rw [po_one, Lean.Grind.Semiring.pow_zero]
  | n + 1 => by
    show po (line (lines s n) s) = _
    rw [po_line, po_lines s n, Lean.Grind.Semiring.pow_succ]
    grind
def ksum (s : Int) : List Int → List Int
  | [] => []
  | [c] => [c]
  | c :: d :: cs => axZ c (lines s (cs.length + 1)) (line (ksum s (d :: cs)) (-1))
theorem ksum_len (s : Int) : ∀ cs, (ksum s cs).length = cs.length
  | [] => rfl
  | [c] => rfl
  | c :: d :: cs => by
    show (axZ c (lines s (cs.length + 1)) _).length = _
    unfold axZ
    rw [rng_len, lines_len]
    rfl
/-- the same as a series -/
def hm (s : Int) : List Int → Ps
  | [] => 0
  | c :: cs => psInt c * ln s ^ cs.length + ln (-1) * hm s cs
theorem po_single (c : Int) : po [c] = psInt c := ps_ext fun i => by
  cases i with
  | zero => rfl
  | succ i => exact cf_out (xs := [c]) (by show 1 ≤ i + 1; omega)
theorem po_ax (c : Int) {a b : List Int} (h : b.length ≤ a.length) : po (axZ c a b) = psInt c * po a + po b := ps_ext fun k => by
  rw [psa_at, int_mul]
  show cf (axZ c a b) k = c * cf a k + cf b k
  unfold axZ
  rw [cf_rng]
  by_cases q : k < a.length
  · rw [if_pos q]
    omega
  · rw [if_neg q, cf_out (xs := a) (by omega), cf_out (xs := b) (by omega)]
    simp
theorem po_ksum (s : Int) : ∀ cs, po (ksum s cs) = hm s cs
  | [] => po_nil
  | [c] => by
    show po [c] = psInt c * ln s ^ 0 + ln (-1) * 0
    rw [po_single, Lean.Grind.Semiring.pow_zero]
    grind
  | c :: d :: cs => by
    show po (axZ c (lines s (cs.length + 1)) (line (ksum s (d :: cs)) (-1))) = psInt c * ln s ^ (cs.length + 1) + ln (-1) * hm s (d :: cs)
    rw [po_ax c (by rw [line_len, ksum_len, lines_len]; exact Nat.le_refl _), po_lines, po_line, po_ksum s (d :: cs)]
theorem psInt_mul (x y : Int) : psInt (x * y) = psInt x * psInt y := ps_ext fun i => by
  rw [int_mul]
  show (if i = 0 then x * y else 0) = x * (if i = 0 then y else 0)
  split <;> simp
theorem psInt_addR (x y : Int) : psInt (x + y) = psInt x + psInt y := psInt_add x y
theorem psInt_zeroR : psInt 0 = 0 := rfl
/-- sums of lists of one length -/
theorem hm_add (s : Int) : ∀ a b : List Int, a.length = b.length → hm s (List.zipWith (· + ·) a b) = hm s a + hm s b
  | [], [], _ => by show (0 : Ps) = 0 + 0; grind
  | x :: a, y :: b, h => by
    have h' : a.length = b.length := Nat.succ.inj h
    show psInt (x + y) * ln s ^ (List.zipWith (· + ·) a b).length + ln (-1) * hm s (List.zipWith (· + ·) a b) = _
    rw [hm_add s a b h', List.length_zipWith, ← h', Nat.min_self, psInt_addR]
    show _ = psInt x * ln s ^ a.length + ln (-1) * hm s a + (psInt y * ln s ^ b.length + ln (-1) * hm s b)
    rw [← h']
    grind
theorem hm_sm (s c : Int) : ∀ a : List Int, hm s (a.map (c * ·)) = psInt c * hm s a
  | [] => by show (0 : Ps) = _ * 0; grind
  | x :: a => by
    show psInt (c * x) * ln s ^ (a.map (c * ·)).length + ln (-1) * hm s (a.map (c * ·)) = psInt c * (psInt x * ln s ^ a.length + ln (-1) * hm s a)
    rw [hm_sm s c a, List.length_map, psInt_mul]
    grind
theorem pow_add' (x : Ps) (i j : Nat) : x ^ (i + j) = x ^ i * x ^ j := pow_addR x i j
theorem hm_zeros (s : Int) : ∀ k, hm s (List.replicate k 0) = 0
  | 0 => rfl
  | k + 1 => by
    show psInt 0 * ln s ^ _ + ln (-1) * hm s (List.replicate k 0) = 0
    rw [hm_zeros s k, psInt_zeroR]
    grind
theorem hm_pad (s : Int) (k : Nat) : ∀ a : List Int, hm s (a ++ List.replicate k 0) = hm s a * ln s ^ k
  | [] => by
    show hm s (List.replicate k 0) = 0 * _
    rw [hm_zeros]
    grind
  | x :: a => by
    show psInt x * ln s ^ (a ++ List.replicate k 0).length + ln (-1) * hm s (a ++ List.replicate k 0) = (psInt x * ln s ^ a.length + ln (-1) * hm s a) * ln s ^ k
    rw [hm_pad s k a, List.length_append, List.length_replicate, pow_add']
    grind
theorem hm_zero (s : Int) (a : List Int) : hm s (0 :: a) = ln (-1) * hm s a := by
  show psInt 0 * _ + _ = _
  rw [psInt_zeroR]
  grind
theorem cf_zip (a b : List Int) (h : a.length = b.length) (i : Nat) : cf (List.zipWith (· + ·) a b) i = cf a i + cf b i := by
  unfold cf
  rw [List.getD_eq_getElem?_getD, List.getD_eq_getElem?_getD, List.getD_eq_getElem?_getD, List.getElem?_zipWith]
  by_cases q : i < a.length
  · rw [List.getElem?_eq_getElem q, List.getElem?_eq_getElem (by omega : i < b.length)]
    rfl
  · rw [List.getElem?_eq_none (by omega), List.getElem?_eq_none (by omega)]
    rfl
theorem cf_pad0 (a : List Int) (k i : Nat) : cf (a ++ List.replicate k 0) i = cf a i := by
  unfold cf
  rw [List.getD_eq_getElem?_getD, List.getD_eq_getElem?_getD, List.getElem?_append]
  by_cases q : i < a.length
  · rw [if_pos q]
  · rw [if_neg q, List.getElem?_replicate, List.getElem?_eq_none (by omega : a.length ≤ i)]
    split <;> rfl
theorem cf_sm (c : Int) (a : List Int) (i : Nat) : cf (a.map (c * ·)) i = c * cf a i := by
  unfold cf
  rw [List.getD_eq_getElem?_getD, List.getD_eq_getElem?_getD, List.getElem?_map]
  cases a[i]? with
  | none => show (0 : Int) = c * 0; simp
  | some x => rfl
theorem mul_cons (x y : Int) (a b : List Int) (hb : 0 < b.length) : mulZ (x :: y :: a) b = List.zipWith (· + ·) (b.map (x * ·) ++ List.replicate (a.length + 1) 0) (0 :: mulZ (y :: a) b) := by
  have l1 : (b.map (x * ·) ++ List.replicate (a.length + 1) 0).length = b.length + a.length + 1 := by rw [List.length_append, List.length_map, List.length_replicate]; omega
  have l2 : (0 :: mulZ (y :: a) b).length = b.length + a.length + 1 := by rw [List.length_cons, mulZ_len, List.length_cons]; omega
  refine cf_ext (by rw [mulZ_len, List.length_zipWith, l1, l2, Nat.min_self, List.length_cons, List.length_cons]; omega) fun i _ => ?_
  rw [cf_zip _ _ (by rw [l1, l2]), cf_pad0, cf_sm, cf_mulZ (by rw [List.length_cons]; omega) hb]
  cases i with
  | zero =>
    show cf (x :: y :: a) 0 * cf b 0 = x * cf b 0 + cf (0 :: _) 0
    show x * cf b 0 = x * cf b 0 + 0
    omega
  | succ i =>
    show cf (x :: y :: a) 0 * cf b (i + 1) + cau (tl (cf (x :: y :: a))) (cf b) i = x * cf b (i + 1) + cf (mulZ (y :: a) b) i
    rw [cf_mulZ (by rw [List.length_cons]; omega) hb]
    rfl
theorem mul_one1 (x : Int) (b : List Int) : mulZ [x] b = b.map (x * ·) := by
  refine cf_ext (by rw [mulZ_len, List.length_map]; show 1 + b.length - 1 = _; omega) fun i hi => ?_
  rw [mulZ_len] at hi
  have hi' : i < 1 + b.length - 1 := hi
  rw [cf_mulZ (by show 0 < 1; omega) (by omega), cf_sm]
  have e : cf [x] = fun i => x * dl 0 i := by
    funext j
    cases j with
    | zero => show x = x * 1; omega
    | succ j => exact (cf_out (xs := [x]) (by show 1 ≤ j + 1; omega)).trans (by unfold dl; rw [if_neg (by omega)]; simp)
  rw [e, cau_sml, cau_dl]
  unfold sh
  rw [if_neg (by omega)]
  rfl
/-- the sums of a product are the product of the sums -/
theorem hm_mul (s : Int) (b : List Int) (hb : 0 < b.length) : ∀ a : List Int, 0 < a.length → hm s (mulZ a b) = hm s a * hm s b
  | [], h => absurd h (Nat.lt_irrefl _)
  | [x], _ => by
    rw [mul_one1, hm_sm]
    show _ = (psInt x * ln s ^ 0 + ln (-1) * 0) * hm s b
    rw [Lean.Grind.Semiring.pow_zero]
    grind
  | x :: y :: a, _ => by
    rw [mul_cons x y a b hb, hm_add s _ _ (by rw [List.length_append, List.length_map, List.length_replicate, List.length_cons, mulZ_len, List.length_cons]; omega), hm_pad, hm_sm, hm_zero, hm_mul s b hb (y :: a) (Nat.succ_pos _)]
    show _ = (psInt x * ln s ^ (a.length + 1) + ln (-1) * hm s (y :: a)) * hm s b
    grind
theorem ksum_mul (s : Int) {a b : List Int} (ha : 0 < a.length) (hb : 0 < b.length) : ksum s (mulZ a b) = mulZ (ksum s a) (ksum s b) := by
  refine po_lenEq (by rw [ksum_len, mulZ_len, mulZ_len, ksum_len, ksum_len]) ?_
  rw [po_ksum, hm_mul s b hb a ha, po_mulZ (by rw [ksum_len]; exact ha) (by rw [ksum_len]; exact hb), po_ksum, po_ksum]
end MyZ
set_option linter.all false
set_option maxRecDepth 100000
set_option maxHeartbeats 1000000
namespace MyZ
open My
/-! binomials, powers of lines, Krawtchouk numbers -/
def chp : Nat → Nat → Int
  | _, 0 => 1
  | 0, _ + 1 => 0
  | m + 1, i + 1 => chp m i + chp m (i + 1)
def cho (m i : Nat) : Int := if m < i then 0 else PySem.W.mcComb (m : Int) (i : Int)
theorem cho_chp : ∀ m : Fin 17, ∀ i : Fin 17, cho m.1 i.1 = chp m.1 i.1 := by decide +kernel
theorem cho_eq {m i : Nat} (hm : m < 17) (hi : i < 17) : cho m i = chp m i := cho_chp ⟨m, hm⟩ ⟨i, hi⟩
theorem chp_out : ∀ m i, m < i → chp m i = 0
  | 0, i + 1, _ => rfl
  | m + 1, i + 1, h => by
    show chp m i + chp m (i + 1) = 0
    rw [chp_out m i (by omega), chp_out m (i + 1) (by omega)]
    rfl
theorem lnp (s : Int) (n : Nat) : ln s ^ (n + 1) = ln s * ln s ^ n := by rw [Lean.Grind.Semiring.pow_succ]; grind
theorem ln_pow (s : Int) : ∀ m i, (ln s ^ m).at' i = chp m i * s ^ i
  | 0, 0 => by
    rw [Lean.Grind.Semiring.pow_zero, ps1_at, Int.pow_zero]
    rfl
  | 0, i + 1 => by
    rw [Lean.Grind.Semiring.pow_zero, ps1_at]
    unfold dl
    rw [if_neg (by omega)]
    show 0 = 0 * s ^ (i + 1)
    rw [Int.zero_mul]
  | m + 1, 0 => by
    rw [lnp, ln_mul, ln_pow s m 0, if_pos rfl]
    have e0 : ∀ m, chp m 0 = 1 := fun m => by cases m <;> rfl
    rw [e0, e0]
    omega
  | m + 1, i + 1 => by
    rw [lnp, ln_mul, ln_pow s m (i + 1), if_neg (by omega), show i + 1 - 1 = i from rfl, ln_pow s m i]
    show _ = (chp m i + chp m (i + 1)) * s ^ (i + 1)
    rw [Int.pow_succ]
    grind
def sg (j : Nat) : Int := if j % 2 = 0 then 1 else -1
theorem sg_pow : ∀ j, (-1 : Int) ^ j = sg j
  | 0 => rfl
  | j + 1 => by
    rw [Int.pow_succ, sg_pow j]
    unfold sg
    rcases Nat.mod_two_eq_zero_or_one j with h | h
    · rw [if_pos h, if_neg (by omega)]
      rfl
    · rw [if_neg (by omega), if_pos (by omega)]
      rfl
theorem cau_le (g : Nat → Int) : ∀ k (f f' : Nat → Int), (∀ i, i ≤ k → f i = f' i) → cau f g k = cau f' g k
  | 0, f, f', h => by
    show f 0 * g 0 = f' 0 * g 0
    rw [h 0 (Nat.le_refl 0)]
  | k + 1, f, f', h => by
    show f 0 * g (k + 1) + cau (tl f) g k = f' 0 * g (k + 1) + cau (tl f') g k
    rw [h 0 (Nat.zero_le _), cau_le g k (tl f) (tl f') fun i hi => h (i + 1) (by omega)]
theorem cau_le2 (f : Nat → Int) (k : Nat) (g g' : Nat → Int) (h : ∀ i, i ≤ k → g i = g' i) : cau f g k = cau f g' k := by
  rw [cau_comm k f g, cau_comm k f g']
  exact cau_le f k g g' h
theorem conv_at (f g : Nat → Int) (k : Nat) : conv f g (k + 1) k = cau f g k := by
  rw [conv_cut]
  exact cau_le g k _ f fun i hi => if_pos (by omega)
/-- the first j of the terms of a Krawtchouk number -/
def krT (s : Int) (n k x j : Nat) : Int := conv (fun j => sg j * cho x j) (fun i => cho (n - x) i * s ^ i) j k
def krS (s : Int) (n k x : Nat) : Int := krT s n k x (k + 1)
theorem krT_next (s : Int) (n k x j : Nat) (h : j ≤ k) : krT s n k x (j + 1) = krT s n k x j + (if j % 2 = 0 then cho x j * cho (n - x) (k - j) * s ^ (k - j) else -(cho x j * cho (n - x) (k - j) * s ^ (k - j))) := by
  show krT s n k x j + sg j * cho x j * sh j (fun i => cho (n - x) i * s ^ i) k = _
  have e : sh j (fun i => cho (n - x) i * s ^ i) k = cho (n - x) (k - j) * s ^ (k - j) := by
    unfold sh
    rw [if_neg (by omega)]
  rw [e]
  unfold sg
  split <;> grind
/-- the number as a coefficient -/
def gk (s : Int) (a b k : Nat) : Int := (ln s ^ a * ln (-1) ^ b).at' k
theorem krS_gk {s : Int} {n k x : Nat} (hn : n < 17) (hk : k < 17) (hx : x ≤ n) : krS s n k x = gk s (n - x) x k := by
  unfold krS krT gk
  rw [conv_at, Lean.Grind.CommRing.mul_comm, psm_at]
  refine (cau_le _ k _ _ fun i hi => ?_).trans (cau_le2 _ k _ _ fun i hi => ?_)
  · rw [ln_pow, sg_pow, cho_eq (by omega) (by omega)]
    exact Int.mul_comm _ _
  · rw [ln_pow, cho_eq (by omega) (by omega)]
theorem gk_a (s : Int) (a b k : Nat) : gk s (a + 1) b k = gk s a b k + s * (if k = 0 then 0 else gk s a b (k - 1)) := by
  unfold gk
  rw [show ln s ^ (a + 1) * ln (-1) ^ b = ln s * (ln s ^ a * ln (-1) ^ b) by rw [Lean.Grind.Semiring.pow_succ]; grind, ln_mul]
theorem gk_b (s : Int) (a b k : Nat) : gk s a (b + 1) k = gk s a b k + -1 * (if k = 0 then 0 else gk s a b (k - 1)) := by
  unfold gk
  rw [show ln s ^ a * ln (-1) ^ (b + 1) = ln (-1) * (ln s ^ a * ln (-1) ^ b) by rw [Lean.Grind.Semiring.pow_succ]; grind, ln_mul]
/-- a sum over a power's coefficients -/
def phi (s : Int) : Nat → (Nat → Nat → Int) → Int
  | 0, F => F 0 0
  | n + 1, F => phi s n (fun a b => F (a + 1) b) + s * phi s n (fun a b => F a (b + 1))
theorem phi_lin (s c d : Int) : ∀ n (F G : Nat → Nat → Int), phi s n (fun a b => c * F a b + d * G a b) = c * phi s n F + d * phi s n G
  | 0, F, G => rfl
  | n + 1, F, G => by
    show phi s n (fun a b => c * F (a + 1) b + d * G (a + 1) b) + s * phi s n (fun a b => c * F a (b + 1) + d * G a (b + 1)) = _
    rw [phi_lin s c d n (fun a b => F (a + 1) b) (fun a b => G (a + 1) b), phi_lin s c d n (fun a b => F a (b + 1)) (fun a b => G a (b + 1))]
    show _ = c * (phi s n (fun a b => F (a + 1) b) + s * phi s n (fun a b => F a (b + 1))) + d * (phi s n (fun a b => G (a + 1) b) + s * phi s n (fun a b => G a (b + 1)))
    grind
theorem phi_zero (s : Int) (n : Nat) : phi s n (fun _ _ => 0) = 0 := by
  have := phi_lin s 0 0 n (fun _ _ => 0) (fun _ _ => 0)
  simpa using this
theorem ortho (s : Int) : ∀ n k x, phi s n (fun a b => gk s a b k * gk s a b x) = if k = x then (s + 1) ^ n * (ln s ^ n).at' k else 0
  | 0, k, x => by
    show gk s 0 0 k * gk s 0 0 x = _
    have e : ∀ k, gk s 0 0 k = dl 0 k := fun k => by
      unfold gk
      rw [Lean.Grind.Semiring.pow_zero, Lean.Grind.Semiring.pow_zero, show (1 : Ps) * 1 = 1 by grind]
      exact ps1_at k
    have z : (ln s ^ 0 : Ps) = 1 := Lean.Grind.Semiring.pow_zero _
    rw [e, e, Int.pow_zero, z, ps1_at]
    unfold dl
    by_cases h : k = x
    · subst h
      rw [if_pos rfl]
      split <;> simp
    · rw [if_neg h]
      by_cases h1 : k = 0
      · rw [if_pos h1, if_neg (by omega)]
        rfl
      · rw [if_neg h1]
        omega
  | n + 1, k, x => by
    show phi s n (fun a b => gk s (a + 1) b k * gk s (a + 1) b x) + s * phi s n (fun a b => gk s a (b + 1) k * gk s a (b + 1) x) = _
    have e1 : phi s n (fun a b => gk s (a + 1) b k * gk s (a + 1) b x) + s * phi s n (fun a b => gk s a (b + 1) k * gk s a (b + 1) x)
        = (1 + s) * phi s n (fun a b => gk s a b k * gk s a b x) + (s * s + s) * phi s n (fun a b => (if k = 0 then 0 else gk s a b (k - 1)) * (if x = 0 then 0 else gk s a b (x - 1))) := by
      have h1 := phi_lin s 1 s n (fun a b => gk s (a + 1) b k * gk s (a + 1) b x) (fun a b => gk s a (b + 1) k * gk s a (b + 1) x)
      have h2 := phi_lin s (1 + s) (s * s + s) n (fun a b => gk s a b k * gk s a b x) (fun a b => (if k = 0 then 0 else gk s a b (k - 1)) * (if x = 0 then 0 else gk s a b (x - 1)))
      rw [Int.one_mul] at h1
      rw [← h1, ← h2]
      congr 1
      funext a b
      rw [gk_a, gk_a, gk_b, gk_b]
      generalize (if k = 0 then 0 else gk s a b (k - 1)) = u
      generalize (if x = 0 then 0 else gk s a b (x - 1)) = v
      grind
    rw [e1, ortho s n k x]
    have e2 : (ln s ^ (n + 1)).at' k = (ln s ^ n).at' k + s * (if k = 0 then 0 else (ln s ^ n).at' (k - 1)) := by
      rw [lnp, ln_mul]
    rw [e2, Int.pow_succ]
    by_cases hk : k = 0
    · subst hk
      have e3 : (fun a b => (if (0 : Nat) = 0 then (0 : Int) else gk s a b (0 - 1)) * (if x = 0 then 0 else gk s a b (x - 1))) = fun _ _ => 0 := by
        funext a b
        rw [if_pos rfl, Int.zero_mul]
      rw [e3, phi_zero, if_pos rfl]
      split <;> grind
    · by_cases hx : x = 0
      · subst hx
        have e3 : (fun a b => (if k = 0 then (0 : Int) else gk s a b (k - 1)) * (if (0 : Nat) = 0 then 0 else gk s a b (0 - 1))) = fun _ _ => 0 := by
          funext a b
          rw [if_pos (rfl : (0 : Nat) = 0), Int.mul_zero]
        rw [e3, phi_zero, if_neg hk, if_neg hk]
        grind
      · have e3 : (fun a b => (if k = 0 then (0 : Int) else gk s a b (k - 1)) * (if x = 0 then 0 else gk s a b (x - 1))) = fun a b => gk s a b (k - 1) * gk s a b (x - 1) := by
          funext a b
          rw [if_neg hk, if_neg hx]
        rw [e3, ortho s n (k - 1) (x - 1), if_neg hk]
        by_cases h : k = x
        · rw [if_pos h, if_pos (by omega), if_pos h]
          grind
        · rw [if_neg h, if_neg (by omega), if_neg h]
          grind
def sumN (h : Nat → Int) : Nat → Int
  | 0 => 0
  | m + 1 => sumN h m + h m
theorem sumN_add (c : Int) (f g : Nat → Int) : ∀ m, sumN (fun i => f i + c * g i) m = sumN f m + c * sumN g m
  | 0 => by show (0 : Int) = 0 + c * 0; omega
  | m + 1 => by
    show sumN (fun i => f i + c * g i) m + (f m + c * g m) = sumN f m + f m + c * (sumN g m + g m)
    rw [sumN_add c f g m]
    grind
theorem sumN_front (h : Nat → Int) : ∀ m, sumN h (m + 1) = h 0 + sumN (fun i => h (i + 1)) m
  | 0 => by show 0 + h 0 = h 0 + 0; omega
  | m + 1 => by
    show sumN h (m + 1) + h (m + 1) = h 0 + (sumN (fun i => h (i + 1)) m + h (m + 1))
    rw [sumN_front h m]
    omega
theorem sumN_congr {f g : Nat → Int} : ∀ m, (∀ i, i < m → f i = g i) → sumN f m = sumN g m
  | 0, _ => rfl
  | m + 1, h => by
    show sumN f m + f m = sumN g m + g m
    rw [sumN_congr m fun i hi => h i (by omega), h m (by omega)]
theorem phi_sum (s : Int) : ∀ n (F : Nat → Nat → Int), sumN (fun i => (ln s ^ n).at' i * F (n - i) i) (n + 1) = phi s n F
  | 0, F => by
    show 0 + (ln s ^ 0).at' 0 * F 0 0 = F 0 0
    rw [Lean.Grind.Semiring.pow_zero, ps1_at]
    show 0 + 1 * F 0 0 = _
    omega
  | n + 1, F => by
    show _ = phi s n (fun a b => F (a + 1) b) + s * phi s n (fun a b => F a (b + 1))
    rw [← phi_sum s n, ← phi_sum s n]
    have e : ∀ i, (ln s ^ (n + 1)).at' i * F (n + 1 - i) i = (ln s ^ n).at' i * F (n + 1 - i) i + s * ((if i = 0 then 0 else (ln s ^ n).at' (i - 1)) * F (n + 1 - i) i) := fun i => by
      rw [lnp, ln_mul]
      grind
    rw [sumN_congr (n + 1 + 1) fun i _ => e i, sumN_add]
    congr 1
    · show sumN _ (n + 1) + (ln s ^ n).at' (n + 1) * _ = _
      rw [ln_pow, chp_out n (n + 1) (by omega), Int.zero_mul, Int.zero_mul, Int.add_zero]
      refine sumN_congr _ fun i hi => ?_
      rw [show n + 1 - i = n - i + 1 by omega]
    · rw [sumN_front, if_pos rfl, Int.zero_mul, Int.zero_add]
      congr 1
      refine sumN_congr _ fun i hi => ?_
      rw [if_neg (by omega), show i + 1 - 1 = i from rfl, show n + 1 - (i + 1) = n - i by omega]
/-- bounds -/
theorem ln_bd {s : Int} {a : Ps} {B : Nat} (h : ∀ k, (a.at' k).natAbs ≤ B) (k : Nat) : ((ln s * a).at' k).natAbs ≤ (1 + s.natAbs) * B := by
  rw [ln_mul]
  have h1 := h k
  have h2 : (s * (if k = 0 then 0 else a.at' (k - 1))).natAbs ≤ s.natAbs * B := by
    rw [Int.natAbs_mul]
    refine Nat.mul_le_mul_left _ ?_
    split
    · exact Nat.zero_le _
    · exact h _
  have h3 := Int.natAbs_add_le (a.at' k) (s * (if k = 0 then 0 else a.at' (k - 1)))
  rw [Nat.add_mul, Nat.one_mul]
  omega
theorem ln_pow_bd {s : Int} {a : Ps} {B : Nat} (h : ∀ k, (a.at' k).natAbs ≤ B) : ∀ m k, ((ln s ^ m * a).at' k).natAbs ≤ (1 + s.natAbs) ^ m * B
  | 0, k => by
    rw [Lean.Grind.Semiring.pow_zero, show (1 : Ps) * a = a by grind, Nat.pow_zero, Nat.one_mul]
    exact h k
  | m + 1, k => by
    rw [show ln s ^ (m + 1) * a = ln s * (ln s ^ m * a) by rw [Lean.Grind.Semiring.pow_succ]; grind, Nat.pow_succ, Nat.mul_comm ((1 + s.natAbs) ^ m), Nat.mul_assoc]
    exact ln_bd (ln_pow_bd h m) k
theorem one_bd (k : Nat) : ((1 : Ps).at' k).natAbs ≤ 1 := by
  rw [ps1_at]
  unfold dl
  split <;> decide
theorem pw_bd {s : Int} (hs : s.natAbs ≤ 255) (m k : Nat) : ((ln s ^ m).at' k).natAbs < 2 ^ (8 * m + 1) := by
  have h := ln_pow_bd (s := s) one_bd m k
  rw [show ln s ^ m * 1 = ln s ^ m by grind, Nat.mul_one] at h
  have h2 : (1 + s.natAbs) ^ m ≤ 256 ^ m := Nat.pow_le_pow_left (by omega) m
  rw [show (256 : Nat) = 2 ^ 8 from rfl, ← Nat.pow_mul] at h2
  rw [Nat.pow_succ]
  have : 0 < 2 ^ (8 * m) := Nat.pow_pos (by decide)
  omega
theorem gk_bd {s : Int} (hs : s.natAbs ≤ 255) (a b k : Nat) : (gk s a b k).natAbs < 2 ^ (8 * a + b + 2) := by
  have h1 : ∀ k, ((ln (-1) ^ b).at' k).natAbs ≤ 2 ^ b := fun k => by
    have h := ln_pow_bd (s := -1) one_bd b k
    rw [show ln (-1) ^ b * 1 = ln (-1) ^ b by grind, Nat.mul_one] at h
    exact h
  have h := ln_pow_bd (s := s) h1 a k
  have h2 : (1 + s.natAbs) ^ a ≤ 256 ^ a := Nat.pow_le_pow_left (by omega) a
  rw [show (256 : Nat) = 2 ^ 8 from rfl, ← Nat.pow_mul] at h2
  have h3 := Nat.mul_le_mul_right (2 ^ b) h2
  rw [← Nat.pow_add] at h3
  unfold gk
  have h4 : 2 ^ (8 * a + b + 2) = 2 ^ (8 * a + b) * 4 := by rw [Nat.pow_add]
  have : 0 < 2 ^ (8 * a + b) := Nat.pow_pos (by decide)
  omega
end MyZ
set_option linter.all false
set_option maxRecDepth 100000
set_option maxHeartbeats 1000000
namespace MyZ
open My
def pwS (number base : Int) : Nat → Int
  | 0 => 1
  | i + 1 => if pwS number base i < number then pwS number base i * base else pwS number base i
def isPow (number base : Int) (most : Nat) : Bool := decide (pwS number base most = number)
theorem pwS_pos {number base : Int} (hb : 1 ≤ base) : ∀ i, 1 ≤ pwS number base i
  | 0 => Int.le_refl 1
  | i + 1 => by
    unfold pwS
    have h := pwS_pos (number := number) hb i
    split
    · have := Int.mul_le_mul h hb (by decide) (by omega)
      omega
    · exact h
theorem pwS_pow {q : Int} (hq : 2 ≤ q) (e : Nat) : ∀ i, pwS (q ^ e) q i = q ^ (min i e)
  | 0 => by rw [Nat.zero_min, Int.pow_zero]; rfl
  | i + 1 => by
    unfold pwS
    rw [pwS_pow hq e i]
    have mono : ∀ a d : Nat, q ^ a ≤ q ^ (a + d) := fun a d => by
      rw [Int.pow_add]
      have h1 : 0 ≤ q ^ a := Int.le_of_lt (Int.pow_pos (by omega))
      have h2 : 0 < q ^ d := Int.pow_pos (by omega)
      have := Int.mul_le_mul_of_nonneg_left (show 1 ≤ q ^ d by omega) h1
      omega
    by_cases h : i < e
    · have h1 : q ^ (min i e) < q ^ e := by
        rw [Nat.min_eq_left (by omega)]
        have h2 := mono (i + 1) (e - (i + 1))
        rw [show i + 1 + (e - (i + 1)) = e by omega] at h2
        have h3 : 0 < q ^ i := Int.pow_pos (by omega)
        have h4 := Int.mul_le_mul_of_nonneg_left hq (Int.le_of_lt h3)
        rw [Int.pow_succ] at h2
        omega
      rw [if_pos h1, Nat.min_eq_left (by omega), Nat.min_eq_left (by omega), Int.pow_succ]
    · rw [Nat.min_eq_right (by omega), Nat.min_eq_right (by omega), if_neg (by omega)]
def mayC (q : Int) (ns : List Int) : Bool :=
  if q < 2 ∨ q > 256 then false else if ns.length < 2 ∨ ns.length > 256 then false else if cf ns 0 ≠ 1 ∨ ns.any (· < 0) = true then false else isPow ns.sum q (ns.length - 1)
def badI (t i : Int) : Bool := decide (i < 0) || decide (i % t ≠ 0)
def dualBad (q : Int) (ns : List Int) : Bool := (ksum (q - 1) ns).any (badI ns.sum)
def dualL (q : Int) (ns : List Int) : List Int := (ksum (q - 1) ns).map (· / ns.sum)
theorem mayC_sum {q : Int} {ns : List Int} (h : mayC q ns = true) : 2 ≤ q ∧ q ≤ 256 ∧ 2 ≤ ns.length ∧ ns.length ≤ 256 ∧ 0 < ns.sum := by
  unfold mayC at h
  split at h
  · cases h
  split at h
  · cases h
  split at h
  · cases h
  refine ⟨by omega, by omega, by omega, by omega, ?_⟩
  unfold isPow at h
  have h1 := of_decide_eq_true h
  have h2 := pwS_pos (number := ns.sum) (base := q) (by omega) (ns.length - 1)
  omega
/-! sums of products -/
theorem sum_zip : ∀ a b : List Int, a.length = b.length → (List.zipWith (· + ·) a b).sum = a.sum + b.sum
  | [], [], _ => rfl
  | x :: a, y :: b, h => by
    show (x + y + (List.zipWith (· + ·) a b).sum : Int) = (x + a.sum) + (y + b.sum)
    rw [sum_zip a b (Nat.succ.inj h)]
    omega
theorem sum_sm (c : Int) : ∀ a : List Int, (a.map (c * ·)).sum = c * a.sum
  | [] => by show (0 : Int) = c * 0; omega
  | x :: a => by
    show c * x + (a.map (c * ·)).sum = c * (x + a.sum)
    rw [sum_sm c a, Int.mul_add]
theorem sum_zeros : ∀ k, (List.replicate k (0 : Int)).sum = 0
  | 0 => rfl
  | k + 1 => by
    show 0 + (List.replicate k (0 : Int)).sum = 0
    rw [sum_zeros k]
    rfl
theorem sum_mul (b : List Int) (hb : 0 < b.length) : ∀ a : List Int, 0 < a.length → (mulZ a b).sum = a.sum * b.sum
  | [], h => absurd h (Nat.lt_irrefl _)
  | [x], _ => by
    rw [mul_one1, sum_sm]
    show x * b.sum = (x + 0) * b.sum
    rw [Int.add_zero]
  | x :: y :: a, _ => by
    rw [mul_cons x y a b hb, sum_zip _ _ (by rw [List.length_append, List.length_map, List.length_replicate, List.length_cons, mulZ_len, List.length_cons]; omega), List.sum_append, sum_sm, sum_zeros]
    show x * b.sum + 0 + (0 + (mulZ (y :: a) b).sum) = (x + (y :: a).sum) * b.sum
    rw [sum_mul b hb (y :: a) (Nat.succ_pos _), Int.add_mul]
    omega
theorem cau_nn : ∀ k (f g : Nat → Int), (∀ i, 0 ≤ f i) → (∀ i, 0 ≤ g i) → 0 ≤ cau f g k
  | 0, f, g, hf, hg => Int.mul_nonneg (hf 0) (hg 0)
  | k + 1, f, g, hf, hg => Int.add_nonneg (Int.mul_nonneg (hf 0) (hg _)) (cau_nn k (tl f) g (fun i => hf (i + 1)) hg)
theorem cf_nn {a : List Int} (h : ∀ x ∈ a, 0 ≤ x) (i : Nat) : 0 ≤ cf a i := by
  unfold cf
  rw [List.getD_eq_getElem?_getD]
  cases e : a[i]? with
  | none => exact Int.le_refl 0
  | some x => exact h x (List.mem_of_getElem? e)
theorem mem_cf {a : List Int} {x : Int} (h : x ∈ a) : ∃ i, i < a.length ∧ x = cf a i := by
  obtain ⟨i, hi, e⟩ := List.getElem_of_mem h
  refine ⟨i, hi, ?_⟩
  unfold cf
  rw [List.getD_eq_getElem?_getD, List.getElem?_eq_getElem hi, e]
  rfl
theorem mul_nn {a b : List Int} (ha : 0 < a.length) (hb : 0 < b.length) (h1 : ∀ x ∈ a, 0 ≤ x) (h2 : ∀ x ∈ b, 0 ≤ x) : ∀ x ∈ mulZ a b, 0 ≤ x := fun x hx => by
  obtain ⟨i, _, e⟩ := mem_cf hx
  rw [e, cf_mulZ ha hb]
  exact cau_nn i _ _ (cf_nn h1) (cf_nn h2)
theorem mul_sm (c d : Int) {a b : List Int} (ha : 0 < a.length) (hb : 0 < b.length) : mulZ (a.map (c * ·)) (b.map (d * ·)) = (mulZ a b).map (c * d * ·) := by
  refine cf_ext (by rw [mulZ_len, List.length_map, List.length_map, List.length_map, mulZ_len]) fun i _ => ?_
  rw [cf_mulZ (by rw [List.length_map]; exact ha) (by rw [List.length_map]; exact hb), cf_sm, cf_mulZ ha hb]
  rw [show cf (a.map (c * ·)) = fun i => c * cf a i from funext (cf_sm c a), cau_sml, cau_comm, show cf (b.map (d * ·)) = fun i => d * cf b i from funext (cf_sm d b), cau_sml, cau_comm]
  rw [Int.mul_assoc]
/-- counts and their dual counts -/
structure Gd (q : Int) (a b : List Int) : Prop where
  len : a.length = b.length
  l0 : 0 < a.length
  na : ∀ x ∈ a, 0 ≤ x
  nb : ∀ x ∈ b, 0 ≤ x
  a0 : cf a 0 = 1
  b0 : cf b 0 = 1
  sa : ∃ e, e ≤ a.length - 1 ∧ a.sum = q ^ e
  sb : ∃ e, e ≤ b.length - 1 ∧ b.sum = q ^ e
  ka : ksum (q - 1) a = b.map (a.sum * ·)
  kb : ksum (q - 1) b = a.map (b.sum * ·)
theorem Gd.symm {q : Int} {a b : List Int} (h : Gd q a b) : Gd q b a := ⟨h.len.symm, by have := h.len; have := h.l0; omega, h.nb, h.na, h.b0, h.a0, h.sb, h.sa, h.kb, h.ka⟩
theorem Gd.mul {q : Int} {a b c d : List Int} (h : Gd q a b) (h2 : Gd q c d) : Gd q (mulZ a c) (mulZ b d) := by
  have l1 := h.len
  have l2 := h2.len
  have la := h.l0
  have lc := h2.l0
  have pw : ∀ {x y : List Int}, 0 < x.length → 0 < y.length → (∃ e, e ≤ x.length - 1 ∧ x.sum = q ^ e) → (∃ e, e ≤ y.length - 1 ∧ y.sum = q ^ e) → ∃ e, e ≤ (mulZ x y).length - 1 ∧ (mulZ x y).sum = q ^ e := by
    rintro x y hx hy ⟨e1, b1, s1⟩ ⟨e2, b2, s2⟩
    exact ⟨e1 + e2, by rw [mulZ_len]; omega, by rw [sum_mul y hy x hx, s1, s2, Int.pow_add]⟩
  refine ⟨by rw [mulZ_len, mulZ_len, l1, l2], by rw [mulZ_len]; omega, mul_nn la lc h.na h2.na, mul_nn (by omega) (by omega) h.nb h2.nb, ?_, ?_, pw la lc h.sa h2.sa, pw (by omega) (by omega) h.sb h2.sb, ?_, ?_⟩
  · rw [cf_mulZ la lc]
    show cf a 0 * cf c 0 = 1
    rw [h.a0, h2.a0]
    rfl
  · rw [cf_mulZ (by omega) (by omega)]
    show cf b 0 * cf d 0 = 1
    rw [h.b0, h2.b0]
    rfl
  · rw [ksum_mul _ la lc, h.ka, h2.ka, mul_sm _ _ (by omega) (by omega), sum_mul c lc a la]
  · rw [ksum_mul _ (by omega) (by omega), h.kb, h2.kb, mul_sm _ _ la lc, sum_mul d (by omega) b (by omega)]
theorem Gd.one (q : Int) : Gd q [1] [1] := by
  refine ⟨rfl, by decide, by decide, by decide, rfl, rfl, ⟨0, Nat.le_refl _, by rw [Int.pow_zero]; rfl⟩, ⟨0, Nat.le_refl _, by rw [Int.pow_zero]; rfl⟩, rfl, rfl⟩
theorem Gd.may {q : Int} {a b : List Int} (h : Gd q a b) (h2 : 2 ≤ q) (h3 : q ≤ 256) (l2 : 2 ≤ a.length) (l3 : a.length ≤ 256) : mayC q a = true := by
  unfold mayC
  rw [if_neg (by omega), if_neg (by omega), if_neg]
  · obtain ⟨e, he, hs⟩ := h.sa
    unfold isPow
    rw [hs, pwS_pow h2, Nat.min_eq_right he]
    exact decide_eq_true rfl
  · rintro (z | z)
    · exact z h.a0
    · obtain ⟨x, hx, hl⟩ := List.any_eq_true.mp z
      have := h.na x hx
      have := of_decide_eq_true hl
      omega
theorem Gd.dual {q : Int} {a b : List Int} (h : Gd q a b) (h2 : 2 ≤ q) : dualBad q a = false ∧ dualL q a = b := by
  obtain ⟨e, he, hs⟩ := h.sa
  have hp : 0 < a.sum := by rw [hs]; exact Int.pow_pos (by omega)
  refine ⟨?_, ?_⟩
  · unfold dualBad
    rw [h.ka, List.any_eq_false]
    intro x hx
    obtain ⟨y, hy, rfl⟩ := List.mem_map.mp hx
    have := h.nb y hy
    have h5 := Int.mul_nonneg (Int.le_of_lt hp) this
    unfold badI
    rw [decide_eq_false (by omega), decide_eq_false (by rw [Int.mul_emod_right]; simp)]
    decide
  · unfold dualL
    rw [h.ka, List.map_map]
    conv => rhs; rw [← List.map_id b]
    refine List.map_congr_left fun y _ => ?_
    show a.sum * y / a.sum = y
    exact Int.mul_ediv_cancel_left y (by omega)
/-! the blocks -/
def evenL (q : Int) (s : Nat) : List Int := (List.range (s + 1)).map fun k => (cf (repZ [1, q - 1] s) k + (q - 1) * cf (repZ [1, -1] s) k) / q
def blk (q : Int) (s : Nat) : Nat → List Int × List Int
  | 0 => (repZ [1, q - 1] s, [1] ++ List.replicate s 0)
  | 1 => ([1] ++ List.replicate s 0, repZ [1, q - 1] s)
  | 2 => ([1] ++ List.replicate (s - 1) 0 ++ [q - 1], evenL q s)
  | _ => (evenL q s, [1] ++ List.replicate (s - 1) 0 ++ [q - 1])
def gdB (q : Int) (a b : List Int) : Bool :=
  a.length == b.length && decide (0 < a.length) && a.all (0 ≤ ·) && b.all (0 ≤ ·) && cf a 0 == 1 && cf b 0 == 1 && (List.range a.length).any (fun e => a.sum == q ^ e) && (List.range b.length).any (fun e => b.sum == q ^ e)
    && ksum (q - 1) a == b.map (a.sum * ·) && ksum (q - 1) b == a.map (b.sum * ·)
theorem gdB_gd {q : Int} {a b : List Int} (h : gdB q a b = true) : Gd q a b := by
  unfold gdB at h
  simp only [Bool.and_eq_true, List.all_eq_true, List.any_eq_true, beq_iff_eq, decide_eq_true_eq, List.mem_range] at h
  obtain ⟨⟨⟨⟨⟨⟨⟨⟨⟨h1, h2⟩, h3⟩, h4⟩, h5⟩, h6⟩, ⟨e, he, hs⟩⟩, ⟨e', he', hs'⟩⟩, h7⟩, h8⟩ := h
  exact ⟨h1, h2, h3, h4, h5, h6, ⟨e, by omega, hs⟩, ⟨e', by omega, hs'⟩, h7, h8⟩
def orders : List Int := [2, 3, 4, 5, 6, 7, 8, 9, 10, 11, 12, 255, 256]
theorem blk_all : (orders.all fun q => (List.range 4).all fun s => (List.range 4).all fun k => gdB q (blk q (s + 1) k).1 (blk q (s + 1) k).2 && ((blk q (s + 1) k).1.length == s + 2)) = true := by decide +kernel
theorem blk_gd {q : Int} (hq : q ∈ orders) {s k : Nat} (hs : 1 ≤ s ∧ s ≤ 4) (hk : k < 4) : Gd q (blk q s k).1 (blk q s k).2 ∧ (blk q s k).1.length = s + 1 := by
  have h := List.all_eq_true.mp blk_all q hq
  have h1 := List.all_eq_true.mp h (s - 1) (List.mem_range.mpr (by omega))
  have h2 := List.all_eq_true.mp h1 k (List.mem_range.mpr hk)
  rw [show s - 1 + 1 = s by omega, Bool.and_eq_true] at h2
  exact ⟨gdB_gd h2.1, by have := eq_of_beq h2.2; omega⟩
theorem orders_bd {q : Int} (hq : q ∈ orders) : 2 ≤ q ∧ q ≤ 256 := by
  have : ∀ q ∈ orders, 2 ≤ q ∧ q ≤ 256 := by decide
  exact this q hq
/-! what is refused -/
def bads (q : Int) : List (List Int) := [[], [1], [0, 1], [q, 0], [0, 0], [1, 0, 0, q], [1, -1, q], [1, q, 0], [1] ++ List.replicate 256 0]
theorem bads_no : (orders.all fun q => (bads q).all fun l => !(mayC q l)) = true := by decide +kernel
theorem bad_no {q : Int} (hq : q ∈ orders) {l : List Int} (hl : l ∈ bads q) : mayC q l = false := by
  have h := List.all_eq_true.mp (List.all_eq_true.mp bads_no q hq) l hl
  rw [Bool.not_eq_true'] at h
  exact h
def bads2 : List (List Int) := [[1, 0, 2, 1], [1, 2, 0, 1], [1, 0, 3], [2, 0]]
theorem bads2_no : (bads2.all fun l => !(mayC 2 l && !dualBad 2 l)) = true := by decide +kernel
end MyZ
set_option Elab.async false
set_option linter.all false
set_option maxRecDepth 100000
set_option maxHeartbeats 1000000
namespace My
open PySem L2 Evl
def topS (i : Nat) : Stmt := PySem.Challenge.pw_nearestword_k28_dual_counts_of_any_order.main.body.getD i (.Pass ⟨0, 0, 0, 0⟩)
structure FTxt (mg : Str → Option Value) : Prop where
  z_len : mg "len" = none
  z_abs : mg "abs" = none
  z_int : mg "int" = none
  z_bool : mg "bool" = none
  z_max : mg "max" = none
  z_range : mg "range" = none
  z_list : mg "list" = none
  z_isinstance : mg "isinstance" = none
  z_zip : mg "zip" = none
  z_any : mg "any" = none
  z_reversed : mg "reversed" = none
  z_min : mg "min" = none
  z_sum : mg "sum" = none
  m_comb : mg "comb" = some (.builtin "math.comb")
  c_GREATEST_LENGTH : ∃ t, mg "GREATEST_LENGTH" = some (.int 255 t)
  c_LARGEST_ORDER : ∃ t, mg "LARGEST_ORDER" = some (.int 256 t)
local macro_rules | `(tactic| walk_at "ev") => `(tactic| repeat' (first
  | exact ev_c
  | exact ev_var rfl
  | exact ea_nil
  | exact eo_none
  | (refine' ev_cb ?ea (rc_len ?sq); (case ea => walk_at "evs"); (case sq => walk_at "sq"))
  | (refine' ev_op ?a ?b (rv_ixL ?sq ?ix); (case a => walk_at "evs"); (case b => walk_at "evs"); (case sq => walk_at "sq"); (case ix => walk_at "at"))
  | refine' ea_cons ?_ ?_
  | refine' eo_some ?_
  | refine' ev_op ?_ ?_ rv_I0
  | refine' ev_op ?_ ?_ (rv_eq ?_)
  | refine' ev_op ?_ ?_ (rv_ne ?_)
  | refine' ev_op ?_ ?_ (rv_I ?_)
  | refine' ev_un ?_ ru_neg
  | refine' ev_cb ?_ rc_int
  | refine' ev_cb ?_ rc_abs
  | refine' ev_cb ?_ rc_max2
  | refine' ev_andV ?_ ?_
  | refine' ev_notV ?_
  | refine' et_test ?_
  | refine' et_B ?_
  | refine' et_not ?_))
local macro_rules | `(tactic| walk_at "side") => `(tactic| first
  | rfl
  | decide
  | exact ⟨by decide, by decide⟩
  | exact .inr ⟨by decide, by decide⟩
  | exact .inl ⟨by decide, by decide⟩
  | omega
  | exact .inl ⟨by omega, by omega⟩
  | exact ⟨by omega, by omega⟩
  | exact .inr ⟨by omega, by omega⟩)
local macro_rules | `(tactic| walk_at "evs") => `(tactic| (walk_at "ev"; all_goals (walk_at "side")))
local macro_rules | `(tactic| walk_at "ex") => `(tactic| first
  | with_reducible exact Ex.refl _
  | with_reducible assumption
  | (refine' Ex.trans ?_ ?b; (case b => with_reducible assumption); walk_at "ex"))
local macro_rules | `(tactic| walk_at "sq") => `(tactic| first
  | (refine' sq_ex ?h ?e; (case h => with_reducible assumption); (case e => walk_at "ex"))
  | (refine' ex_l ?e ?h; (case h => with_reducible assumption); (case e => walk_at "ex"))
  | (refine' ex_l ?e ?h; (case h => assumption); (case e => walk_at "ex"))
  | assumption
  | exact sq_of (by assumption))
local macro_rules | `(tactic| walk_at "at") => `(tactic| first
  | exact at_int (by omega) (by omega)
  | exact atI_nat (j := 0) rfl
  | exact atI_nat (j := 1) rfl
  | exact atI_nat (j := 2) rfl)
local macro_rules | `(tactic| walk_at "side2") => `(tactic| first | exact CMul_bdl (by assumption) | exact CMul_bdr (by assumption) | walk_at "side")
local macro_rules | `(tactic| walk_at "evb") => `(tactic| (walk_at "ev"; all_goals (walk_at "side2")))

/-! ### powers -/
theorem rv_odd {n : Nat} {H : Hp} : RV (fun x y H Q => ∃ n : Nat, x = .int (n : Int) ∧ y = .int 1 ∧ Q (.int ((n % 2 : Nat) : Int)) H) (.int (n : Int)) (.int 1) H (.int ((n % 2 : Nat) : Int)) := fun H1 _ _ q => ⟨n, rfl, rfl, q H1 (Ex.refl H1)⟩
theorem rv_half {n : Nat} {H : Hp} : RV (fun x y H Q => ∃ n : Nat, x = .int (n : Int) ∧ y = .int 1 ∧ Q (.int ((n / 2 : Nat) : Int)) H) (.int (n : Int)) (.int 1) H (.int ((n / 2 : Nat) : Int)) := fun H1 _ _ q => ⟨n, rfl, rfl, q H1 (Ex.refl H1)⟩
theorem pow_size {b : Int} {r : Nat} (h : b.natAbs < 2 ^ r) (m : Nat) : (b ^ m).natAbs < 2 ^ (r * m + 1) := by
  rw [Int.natAbs_pow]
  have h1 : b.natAbs ^ m ≤ (2 ^ r) ^ m := Nat.pow_le_pow_left (Nat.le_of_lt h) m
  rw [← Nat.pow_mul] at h1
  have h2 : (2 : Nat) ^ (r * m) < 2 ^ (r * m + 1) := Nat.pow_lt_pow_right (by decide) (Nat.lt_succ_self _)
  omega
section
variable {P : Program} {w : World} {K : PySem.W.Frag} {mg : Str → Option Value} {base : Heap}
/-! int_power: 0 base, 1 exponent, 2 result -/
abbrev s_int_power : Stmt := topS 6
theorem sc_int_power : FnScope ["base", "exponent", "result"] ["base", "exponent"] (defScope s_int_power) := ⟨rfl, rfl, rfl, by decide +kernel, rfl, by decide +kernel, by decide +kernel⟩
def spPow : Sp := fun vs H Q _ => ∃ (b : Int) (e : Nat), vs = [.int b, .int (e : Int)] ∧ b.natAbs < 2 ^ 10 ∧ e ≤ 2000 ∧ RetV (.int (b ^ e)) H Q
theorem ok_pow {f : Addr} {fd : FuncData} (F : Fun K "int_power" "int_power" s_int_power f fd) : FnOk P w K mg base CX0 1 f fd ["base", "exponent"] spPow := by
  refine F.ok sc_int_power (fun vs H Q E h => ?_) (fun cdv A outer s H vs Q E hr h => ?_)
  · obtain ⟨_, _, rfl, _⟩ := h
    rfl
  obtain ⟨b, e, rfl, hb, he, k⟩ := h
  refine ⟨_, (pss_cons (ps_set (i := 2) sc_int_power.nd rfl (Or.inl rfl) pe_int)
    (pss_cons (ps_while PassesOwn.never (pt_cmpR op_gt (pv 1) pe_int (nomark _))
      (pss_cons (ps_if (pt_cmpR op_eq (pe_op op_odd (pv 1) pe_int) pe_int (nomark _))
        (pss_one (ps_set (i := 2) sc_int_power.nd rfl (Or.inl rfl) (pe_op op_mulW (pv 2) (pv 0))))
        pss_nil)
      (pss_cons (ps_set (i := 0) sc_int_power.nd rfl (Or.inl rfl) (pe_op op_mulW (pv 0) (pv 0)))
      (pss_one (ps_set (i := 1) sc_int_power.nd rfl (Or.inl rfl) (pe_op op_halfN (pv 1) pe_int))))))
    (pss_one (ps_ret (pv 2))))), ?_⟩
  refine q_asg ev_c fun H1 e1 => ?_
  refine q_while (fun n σ' H' => ∃ (x i j : Nat), n = x ∧ σ' = [some (.int (b ^ (2 ^ i))), some (.int (x : Int)), some (.int (b ^ j))] ∧ j + 2 ^ i * x = e ∧ Ex H H') e ⟨e, 0, 0, rfl, by rw [Int.pow_zero, Nat.pow_zero, Int.pow_one]; rfl, by rw [Nat.pow_zero, Nat.one_mul, Nat.zero_add], e1⟩ ?_
  rintro x σ' H' ⟨_, i, j, rfl, rfl, hj, ex⟩
  refine ⟨decide ((0 : Int) < (x : Int)), by walk_at "evs", fun hx H2 e2 => ?_, fun hx H2 e2 => ?_⟩
  · have hx0 : 0 < x := by have := of_decide_eq_true hx; omega
    have h2i : 2 ^ i ≤ e := by
      have : 2 ^ i * 1 ≤ 2 ^ i * x := Nat.mul_le_mul_left _ hx0
      omega
    have sz0 := pow_size hb (2 ^ i)
    have szj := pow_size hb j
    have hje : j ≤ e := by omega
    refine ⟨fun σ2 H2 => ∃ m', m' < x ∧ ∃ (x i j : Nat), m' = x ∧ σ2 = [some (.int (b ^ (2 ^ i))), some (.int (x : Int)), some (.int (b ^ j))] ∧ j + 2 ^ i * x = e ∧ Ex H H2, fun _ _ h => h, ?_⟩
    refine q_ifAsg (v := .int (if x % 2 = 1 then b ^ j * b ^ 2 ^ i else b ^ j)) (b := decide (x % 2 = 1)) (et_is (et_test (ev_op (ev_op (ev_var rfl) ev_c rv_odd) ev_c (rv_eq rfl))) ?_) (fun h => ?_) (fun h => ?_) fun H3 e3 => ?_
    · rw [dec_int]
      have := dec_nat (x % 2) 1
      exact this
    · rw [if_pos (of_decide_eq_true h)]
      exact ev_op (ev_var rfl) (ev_var rfl) (rv_I (wide_mul szj sz0 (Nat.succ_pos _) (Nat.succ_pos _) (by omega)))
    · rw [if_neg (of_decide_eq_false h)]
      rfl
    refine q_asg (ev_op (ev_var rfl) (ev_var rfl) (rv_I (wide_mul sz0 sz0 (Nat.succ_pos _) (Nat.succ_pos _) (by omega)))) fun H4 e4 => ?_
    refine s_asg (ev_op (ev_var rfl) ev_c rv_half) fun H5 e5 => ?_
    have hsq : b ^ 2 ^ i * b ^ 2 ^ i = b ^ 2 ^ (i + 1) := by rw [← Int.pow_add, Nat.pow_succ]; congr 1; omega
    have e25 : Ex H H5 := ((((ex.trans e2).trans e3).trans e4).trans e5)
    rcases Nat.mod_two_eq_zero_or_one x with hm | hm
    · refine ⟨x / 2, by omega, x / 2, i + 1, j, rfl, ?_, ?_, e25⟩
      · rw [if_neg (by omega), hsq]
        rfl
      · have : 2 ^ (i + 1) * (x / 2) = 2 ^ i * x := by
          rw [Nat.pow_succ, Nat.mul_assoc]
          congr 1
          omega
        omega
    · refine ⟨x / 2, by omega, x / 2, i + 1, j + 2 ^ i, rfl, ?_, ?_, e25⟩
      · rw [if_pos hm, hsq, ← Int.pow_add]
        rfl
      · have : 2 ^ (i + 1) * (x / 2) + 2 ^ i = 2 ^ i * x := by
          rw [Nat.pow_succ, Nat.mul_assoc]
          have h3 : 2 ^ i * x = 2 ^ i * (2 * (x / 2) + 1) := by congr 1; omega
          rw [h3, Nat.mul_add, Nat.mul_one]
        omega
  · have hx0 : x = 0 := by have := of_decide_eq_false hx; omega
    subst hx0
    have hje : j = e := by omega
    subst hje
    exact s_ret (ev_var rfl) fun H3 e3 => k H3 ((ex.trans e2).trans e3)
end
end My
set_option Elab.async false
set_option linter.all false
set_option maxRecDepth 100000
set_option maxHeartbeats 1000000
namespace My
open PySem PySem.Spec PyProof.Rows L2 Evl GxR MyG MyZ
local macro_rules | `(tactic| walk_at "ev") => `(tactic| repeat' (first
  | exact ev_c
  | exact ev_var rfl
  | exact ea_nil
  | exact eo_none
  | (refine' ev_cb ?ea (rc_len ?sq); (case ea => walk_at "evs"); (case sq => walk_at "sq"))
  | (refine' ev_op ?a ?b (rv_ixL ?sq ?ix); (case a => walk_at "evs"); (case b => walk_at "evs"); (case sq => walk_at "sq"); (case ix => walk_at "at"))
  | refine' ea_cons ?_ ?_
  | refine' eo_some ?_
  | refine' ev_op ?_ ?_ rv_I0
  | refine' ev_op ?_ ?_ (rv_eq ?_)
  | refine' ev_op ?_ ?_ (rv_ne ?_)
  | refine' ev_op ?_ ?_ (rv_I ?_)
  | refine' ev_un ?_ ru_neg
  | refine' ev_cb ?_ rc_int
  | refine' ev_cb ?_ rc_abs
  | refine' ev_cb ?_ rc_max2
  | refine' ev_andV ?_ ?_
  | refine' ev_notV ?_
  | refine' et_test ?_
  | refine' et_B ?_
  | refine' et_not ?_))
local macro_rules | `(tactic| walk_at "side") => `(tactic| first
  | rfl
  | decide
  | exact ⟨by decide, by decide⟩
  | exact .inr ⟨by decide, by decide⟩
  | exact .inl ⟨by decide, by decide⟩
  | omega
  | exact .inl ⟨by omega, by omega⟩
  | exact ⟨by omega, by omega⟩
  | exact .inr ⟨by omega, by omega⟩)
local macro_rules | `(tactic| walk_at "evs") => `(tactic| (walk_at "ev"; all_goals (walk_at "side")))
local macro_rules | `(tactic| walk_at "ex") => `(tactic| first
  | with_reducible exact Ex.refl _
  | with_reducible assumption
  | (refine' Ex.trans ?_ ?b; (case b => with_reducible assumption); walk_at "ex"))
local macro_rules | `(tactic| walk_at "sq") => `(tactic| first
  | (refine' sq_ex ?h ?e; (case h => with_reducible assumption); (case e => walk_at "ex"))
  | (refine' ex_l ?e ?h; (case h => with_reducible assumption); (case e => walk_at "ex"))
  | (refine' ex_l ?e ?h; (case h => assumption); (case e => walk_at "ex"))
  | assumption
  | exact sq_of (by assumption))
local macro_rules | `(tactic| walk_at "at") => `(tactic| first
  | exact at_int (by omega) (by omega)
  | exact atI_nat (j := 0) rfl
  | exact atI_nat (j := 1) rfl
  | exact atI_nat (j := 2) rfl)
local macro_rules | `(tactic| walk_at "side2") => `(tactic| first | exact CMul_bdl (by assumption) | exact CMul_bdr (by assumption) | walk_at "side")
local macro_rules | `(tactic| walk_at "evb") => `(tactic| (walk_at "ev"; all_goals (walk_at "side2")))

local macro_rules | `(tactic| walk_at "nm") => `(tactic| (try simp only [List.set_cons_zero, List.set_cons_succ]))
section
variable {X : Cx}
def rComb : List V → Hp → VK → Prop := fun vs H Q => ∃ a b : Nat, vs = [.int (a : Int), .int (b : Int)] ∧ a ≤ 18000 ∧ Q (.int (PySem.W.mcComb (a : Int) (b : Int))) H
theorem cr_comb : CallR X (.builtin "math.comb") rComb := by
  intro pins s σ H vs us Q I r h
  obtain ⟨a, b, rfl, ha, q⟩ := h
  obtain ⟨t, u, rfl⟩ := Vals.int2 r
  exact PySem.W.mc_comb (by omega) (by omega) (by omega) (Or.inr (by omega)) fun _ => ⟨.int _, H, I.tok _, ⟨_, rfl⟩, q⟩
theorem rc_comb {a b : Nat} {H : Hp} (h : a ≤ 18000) : RC rComb [.int (a : Int), .int (b : Int)] H (.int (PySem.W.mcComb (a : Int) (b : Int))) := fun H1 _ _ q => ⟨a, b, rfl, h, q H1 (Ex.refl H1)⟩
end
section
variable {P : Program} {w : World} {K : PySem.W.Frag} {mg : Str → Option Value} {base : Heap}
/-! choose: 0 many, 1 few -/
abbrev s_choose : Stmt := topS 9
theorem sc_choose : FnScope ["many", "few"] ["many", "few"] (defScope s_choose) := ⟨rfl, rfl, rfl, by decide +kernel, rfl, by decide +kernel, by decide +kernel⟩
def spCho : Sp := fun vs H Q _ => ∃ (m f : Nat), vs = [.int (m : Int), .int (f : Int)] ∧ m ≤ 18000 ∧ RetV (.int (cho m f)) H Q
theorem ok_cho {f : Addr} {fd : FuncData} (F : Fun K "choose" "choose" s_choose f fd) (T : FTxt mg) : FnOk P w K mg base CX0 1 f fd ["many", "few"] spCho := by
  refine F.ok sc_choose (fun vs H Q E h => ?_) (fun cdv A outer s H vs Q E hr h => ?_)
  · obtain ⟨_, _, rfl, _⟩ := h
    rfl
  obtain ⟨m, f, rfl, hm, k⟩ := h
  refine ⟨_, (pss_cons (ps_if (PW.pt (pw_or (pt_cmpR op_lt (pv 1) pe_int (nomark _)) (pw_or1 (pt_cmpR op_lt (pv 0) (pv 1) (nomark _)))))
      (pss_one (ps_ret pe_int))
      pss_nil)
    (pss_one (ps_ret (pe_callBfun cr_comb (by rfl) T.m_comb (pa_cons (pv 0) (pa_cons (pv 1) pa_nil)))))), ?_⟩
  unfold cho at k
  refine q_when (b := decide (m < f)) (et_is (et_or (a := false) (b := decide (m < f)) (et_is (et_test (ev_op (ev_var rfl) ev_c rv_I0)) (decide_eq_false (by omega))) fun _ => et_is (et_test (ev_op (ev_var rfl) (ev_var rfl) rv_I0)) (decide_eq_decide.mpr (by omega))) (Bool.false_or _)) (fun hb H1 e1 => ?_) (fun hb H1 e1 => ?_)
  · rw [if_pos (of_decide_eq_true hb)] at k
    exact s_ret ev_c fun H2 e2 => k H2 (e1.trans e2)
  · rw [if_neg (of_decide_eq_false hb)] at k
    exact s_ret (ev_cb (ea_cons (ev_var rfl) (ea_cons (ev_var rfl) ea_nil)) (rc_comb hm)) fun H2 e2 => k H2 (e1.trans e2)
/-! krawtchouk: 0 order, 1 length, 2 k, 3 x, 4 total, 5 j, 6 ways -/
abbrev s_krawtchouk : Stmt := topS 11
theorem sc_krawtchouk : FnScope ["order", "length", "k", "x", "total", "j", "ways"] ["order", "length", "k", "x"] (defScope s_krawtchouk) := ⟨rfl, rfl, rfl, by decide +kernel, rfl, by decide +kernel, by decide +kernel⟩
def spKr : Sp := fun vs H Q _ => ∃ (q : Int) (n kk x : Nat), vs = [.int q, .int (n : Int), .int (kk : Int), .int (x : Int)] ∧ 2 ≤ q ∧ q ≤ 256 ∧ x ≤ n ∧ n ≤ 255 ∧ kk ≤ 300 ∧ (∀ j, j ≤ kk → (cho x j).natAbs < 2 ^ 30 ∧ (cho (n - x) j).natAbs < 2 ^ 30) ∧ RetV (.int (krS (q - 1) n kk x)) H Q
theorem ok_kr {f : Addr} {fd : FuncData} (F : Fun K "krawtchouk" "krawtchouk" s_krawtchouk f fd) (T : FTxt mg) (D_choose : Dk P w K mg base CX0 1 "choose" ["many", "few"] spCho) (D_int_power : Dk P w K mg base CX0 1 "int_power" ["base", "exponent"] spPow) : FnOk P w K mg base CX0 2 f fd ["order", "length", "k", "x"] spKr := by
  refine F.ok sc_krawtchouk (fun vs H Q E h => ?_) (fun cdv A outer s H vs Q E hr h => ?_)
  · obtain ⟨_, _, _, _, rfl, _⟩ := h
    rfl
  obtain ⟨q, n, kk, x, rfl, q2, q3, hx, hn, hk, hbd, k⟩ := h
  refine ⟨_, (pss_cons (ps_set (i := 4) sc_krawtchouk.nd rfl (Or.inl rfl) pe_int)
    (pss_cons (ps_for PassesOwn.never rfl (pi_range1 (by rfl) T.z_range (pa_cons (pe_op op_add (pv 2) pe_int) pa_nil)) (pg_name (i := 5) sc_krawtchouk.nd rfl (Or.inl rfl))
      (pss_cons (ps_set (i := 6) sc_krawtchouk.nd rfl (Or.inl rfl) (pe_op op_mul (pe_op op_mul (pe_cd D_choose hr (by rfl) (pa_cons (pv 3) (pa_cons (pv 5) pa_nil))) (pe_cd D_choose hr (by rfl) (pa_cons (pe_op op_sub (pv 1) (pv 3)) (pa_cons (pe_op op_sub (pv 2) (pv 5)) pa_nil)))) (pe_cd D_int_power hr (by rfl) (pa_cons (pe_op op_sub (pv 0) pe_int) (pa_cons (pe_op op_sub (pv 2) (pv 5)) pa_nil)))))
      (pss_one (ps_aug (i := 4) sc_krawtchouk.nd rfl (Or.inl rfl) (pe_ifExp (pt_cmpR op_eq (pe_op op_mod (pv 5) pe_int) pe_int (nomark _)) (pv 6) (pe_un un_neg (pv 6))) ip_add))))
    (pss_one (ps_ret (pv 4))))), ?_⟩
  refine q_asg ev_c fun H1 e1 => ?_
  refine q_forR1 (n := ((kk + 1 : Nat) : Int)) (ea_cons (ev_is (ev_op (ev_var rfl) ev_c rv_I0) (by congr 1)) ea_nil) ⟨by omega, by omega⟩ (fun j σ' H' => ∃ y5 y6, σ' = [some (.int q), some (.int (n : Int)), some (.int (kk : Int)), some (.int (x : Int)), some (.int (krT (q - 1) n kk x j)), y5, y6] ∧ Ex H H') ?_ ?_ ?_
  · intro H2 e2
    exact ⟨none, none, rfl, e1.trans e2⟩
  · rintro j σ' H' hj ⟨y5, y6, rfl, ex⟩
    have hj' : j ≤ kk := by omega
    obtain ⟨b1, _⟩ := hbd j hj'
    obtain ⟨_, b2⟩ := hbd (kk - j) (by omega)
    have e0 : ((n : Int) - (x : Int)) = ((n - x : Nat) : Int) := by omega
    have e1' : ((kk : Int) - (j : Int)) = ((kk - j : Nat) : Int) := by omega
    generalize hu : cho x j = u at b1
    generalize hv : cho (n - x) (kk - j) = v at b2
    have huv : -(2 ^ 64) < u * v ∧ u * v < 2 ^ 64 := by
      have h1 : (u * v).natAbs < 2 ^ 30 * 2 ^ 30 := by
        rw [Int.natAbs_mul]
        exact Nat.mul_lt_mul'' b1 b2
      omega
    refine q_asg (v := .int (u * v * (q - 1) ^ (kk - j))) (ev_op (ev_op (ev_call (z := .int u) (ea_cons (ev_var rfl) (ea_cons (ev_var rfl) ea_nil)) (fun H3 e3 Q3 q3 E3 => ⟨x, j, rfl, by omega, by rw [hu]; exact q3⟩)) (ev_call (z := .int v) (ea_cons (ev_op (ev_var rfl) (ev_var rfl) rv_I0) (ea_cons (ev_op (ev_var rfl) (ev_var rfl) rv_I0) ea_nil)) (fun H3 e3 Q3 q3 E3 => ⟨n - x, kk - j, by show [V.int ((n : Int) - (x : Int)), V.int ((kk : Int) - (j : Int))] = _; rw [e0, e1'], by omega, by rw [hv]; exact q3⟩)) (rv_I (.inl ⟨by omega, by omega⟩)))
      (ev_call (z := .int ((q - 1) ^ (kk - j))) (ea_cons (ev_op (ev_var rfl) ev_c rv_I0) (ea_cons (ev_op (ev_var rfl) (ev_var rfl) rv_I0) ea_nil)) (fun H3 e3 Q3 q3 E3 => ⟨q - 1, kk - j, by show [V.int (q - 1), V.int ((kk : Int) - (j : Int))] = _; rw [e1'], by omega, by omega, q3⟩)) (rv_I (.inl huv))) fun H2 e2 => ?_
    walk_at "nm"
    refine s_aug (f := (· + ·)) (a := krT (q - 1) n kk x j) (b := if j % 2 = 0 then u * v * (q - 1) ^ (kk - j) else -(u * v * (q - 1) ^ (kk - j))) rfl (ev_if (b := decide (j % 2 = 0)) (et_is (et_test (ev_op (ev_op (ev_var rfl) ev_c (rv_I (by decide))) ev_c (rv_eq rfl))) (by rw [dec_int]; exact decide_eq_decide.mpr (by omega))) (fun hb => ?_) (fun hb => ?_)) fun H3 e3 => ?_
    · rw [if_pos (of_decide_eq_true hb)]
      exact ev_var rfl
    · rw [if_neg (of_decide_eq_false hb)]
      exact ev_un (ev_var rfl) ru_neg
    refine ⟨some (.int (j : Int)), some (.int (u * v * (q - 1) ^ (kk - j))), ?_, (ex.trans e2).trans e3⟩
    walk_at "nm"
    rw [krT_next _ _ _ _ _ hj', hu, hv]
  · rintro σ' H' ⟨y5, y6, rfl, ex⟩
    refine s_ret (ev_var rfl) fun H2 e2 => ?_
    exact k H2 (ex.trans e2)
/-! _is_power: 0 number, 1 base, 2 most, 3 power, 4 _ -/
abbrev s_is_power : Stmt := topS 12
theorem sc_is_power : FnScope ["number", "base", "most", "power", "_"] ["number", "base", "most"] (defScope s_is_power) := ⟨rfl, rfl, rfl, by decide +kernel, rfl, by decide +kernel, by decide +kernel⟩
def spIsPow : Sp := fun vs H Q _ => ∃ (a b : Int) (m : Nat), vs = [.int a, .int b, .int (m : Int)] ∧ 2 ≤ b ∧ b ≤ 256 ∧ m ≤ 1000 ∧ RetV (.bl (isPow a b m)) H Q
theorem ok_ispow {f : Addr} {fd : FuncData} (F : Fun K "_is_power" "_is_power" s_is_power f fd) (T : FTxt mg) : FnOk P w K mg base CX0 1 f fd ["number", "base", "most"] spIsPow := by
  refine F.ok sc_is_power (fun vs H Q E h => ?_) (fun cdv A outer s H vs Q E hr h => ?_)
  · obtain ⟨_, _, _, rfl, _⟩ := h
    rfl
  obtain ⟨a, b, m, rfl, b2, b3, hm, k⟩ := h
  refine ⟨_, (pss_cons (ps_set (i := 3) sc_is_power.nd rfl (Or.inl rfl) pe_int)
    (pss_cons (ps_for PassesOwn.never rfl (pi_range1 (by rfl) T.z_range (pa_cons (pv 2) pa_nil)) (pg_name (i := 4) sc_is_power.nd rfl (Or.inl rfl))
      (pss_one (ps_if (pt_cmpR op_lt (pv 3) (pv 0) (nomark _))
        (pss_one (ps_set (i := 3) sc_is_power.nd rfl (Or.inl rfl) (pe_op op_mul (pv 3) (pv 1))))
        pss_nil)))
    (pss_one (ps_ret (pe_cmpR op_eq (pv 3) (pv 0) (nomark _)))))), ?_⟩
  refine q_asg ev_c fun H1 e1 => ?_
  refine q_forR1 (n := (m : Int)) (ea_cons (ev_var rfl) ea_nil) ⟨by omega, by omega⟩ (fun j σ' H' => ∃ y4, σ' = [some (.int a), some (.int b), some (.int (m : Int)), some (.int (pwS a b j)), y4] ∧ Ex H H') ?_ ?_ ?_
  · intro H2 e2
    exact ⟨none, rfl, e1.trans e2⟩
  · rintro j σ' H' hj ⟨y4, rfl, ex⟩
    walk_at "nm"
    refine s_ifAsg (v := .int (pwS a b (j + 1))) (b := decide (pwS a b j < a)) (et_test (ev_op (ev_var rfl) (ev_var rfl) rv_I0)) (fun hb => ?_) (fun hb => ?_) fun H2 e2 => ⟨_, rfl, ex.trans e2⟩
    · show Ev _ _ _ (.int (if pwS a b j < a then pwS a b j * b else pwS a b j))
      rw [if_pos (of_decide_eq_true hb)]
      exact ev_op (ev_var rfl) (ev_var rfl) (rv_I (.inr ⟨by omega, by omega⟩))
    · show List.set _ 3 (some (V.int (if pwS a b j < a then pwS a b j * b else pwS a b j))) = _
      rw [if_neg (of_decide_eq_false hb)]
      rfl
  · rintro σ' H' ⟨y4, rfl, ex⟩
    refine s_ret (ev_is (ev_op (ev_var rfl) (ev_var rfl) (rv_eq rfl)) ?_) fun H2 e2 => k H2 (ex.trans e2)
    rw [dec_int]
    rfl
/-! _may_be_counts: 0 order, 1 counts -/
abbrev s_may_be_counts : Stmt := topS 13
theorem sc_may_be_counts : FnScope ["order", "counts"] ["order", "counts"] (defScope s_may_be_counts) := ⟨rfl, rfl, rfl, by decide +kernel, rfl, by decide +kernel, by decide +kernel⟩
def spMay (K : PySem.W.Frag) : Sp := fun vs H Q _ => ∃ (q : Int) (a : Addr) (ns : List Int), vs = [.int q, .ref a] ∧ SqL K H a (ns.map V.int) ∧ RetV (.bl (mayC q ns)) H Q
theorem ok_may {f : Addr} {fd : FuncData} (F : Fun K "_may_be_counts" "_may_be_counts" s_may_be_counts f fd) (T : FTxt mg) (D_is_power : Dk P w K mg base CX0 1 "_is_power" ["number", "base", "most"] spIsPow) : FnOk P w K mg base CX0 2 f fd ["order", "counts"] (spMay K) := by
  obtain ⟨t1, hO⟩ := T.c_LARGEST_ORDER
  obtain ⟨t2, hG⟩ := T.c_GREATEST_LENGTH
  refine F.ok sc_may_be_counts (fun vs H Q E h => ?_) (fun cdv A outer s H vs Q E hr h => ?_)
  · obtain ⟨_, _, _, rfl, _⟩ := h
    rfl
  obtain ⟨q, a, ns, rfl, hA, k⟩ := h
  refine ⟨_, (pss_cons (ps_if (PW.pt (pw_or (pt_cmpR op_lt (pv 0) pe_int (nomark _)) (pw_or1 (pt_cmpR op_gt (pv 0) (pe_glob (v := .int 256) rfl hO ⟨_, rfl⟩) (nomark _)))))
      (pss_one (ps_ret pe_bl))
      pss_nil)
    (pss_cons (ps_if (PW.pt (pw_or (pt_cmpR op_lt (pe_callB call_len_seq (by rfl) T.z_len PySem.boot_len (pa_cons (pv 1) pa_nil)) pe_int (nomark _)) (pw_or1 (pt_cmpR op_gt (pe_callB call_len_seq (by rfl) T.z_len PySem.boot_len (pa_cons (pv 1) pa_nil)) (pe_op op_add (pe_glob (v := .int 255) rfl hG ⟨_, rfl⟩) pe_int) (nomark _)))))
      (pss_one (ps_ret pe_bl))
      pss_nil)
    (pss_cons (ps_if (PW.pt (pw_or (pt_cmpR op_ne (pe_ix ix_list (pv 1) pe_int (fun _ _ => rfl)) pe_int (nomark _)) (pw_or1 (pt_cmpR op_lt (pe_callB (cr_min rfl) (by rfl) T.z_min (by decide +kernel) (pa_cons (pv 1) pa_nil)) pe_int (nomark _)))))
      (pss_one (ps_ret pe_bl))
      pss_nil)
    (pss_one (ps_ret (pe_cd D_is_power hr (by rfl) (pa_cons (pe_callB (cr_sum rfl) (by rfl) T.z_sum (by decide +kernel) (pa_cons (pv 1) pa_nil)) (pa_cons (pv 0) (pa_cons (pe_op op_sub (pe_callB call_len_seq (by rfl) T.z_len PySem.boot_len (pa_cons (pv 1) pa_nil)) pe_int) pa_nil))))))))), ?_⟩
  unfold mayC at k
  have ln : ∀ {σ : L2.St} {H1 : Hp}, Ex H H1 → σ[1]? = some (some (.ref a)) → Ev (tCB (fun xs H Q => ∃ p ys, xs = [.ref p] ∧ (SqL K H p ys ∨ SqT K H p ys) ∧ Q (.int ys.length) H) (tCons (tVar 1) tNil)) σ H1 (.int (ns.length : Int)) := fun e1 h1 => ev_is (ev_cb (ea_cons (ev_var h1) ea_nil) (rc_len (ex_l e1 hA))) (by rw [List.length_map])
  refine q_when (b := decide (q < 2 ∨ q > 256)) (et_is (et_or (a := decide (q < 2)) (b := decide (q > 256)) (et_test (ev_op (ev_var rfl) ev_c rv_I0)) fun _ => et_test (ev_op (ev_var rfl) ev_c rv_I0)) (Bool.decide_or _ _).symm) (fun hb H1 e1 => ?_) (fun hb H1 e1 => ?_)
  · rw [if_pos (of_decide_eq_true hb)] at k
    exact s_ret ev_c fun H2 e2 => k H2 (e1.trans e2)
  have hq := of_decide_eq_false hb
  rw [if_neg hq] at k
  refine q_when (b := decide (ns.length < 2 ∨ ns.length > 256)) (et_is (et_or (a := decide (ns.length < 2)) (b := decide (ns.length > 256)) (et_is (et_test (ev_op (ln e1 rfl) ev_c rv_I0)) (decide_eq_decide.mpr (by omega))) fun _ => et_is (et_test (ev_op (ln e1 rfl) (ev_op ev_c ev_c rv_I0) rv_I0)) (decide_eq_decide.mpr (by omega))) (Bool.decide_or _ _).symm) (fun hb H2 e2 => ?_) (fun hb H2 e2 => ?_)
  · rw [if_pos (of_decide_eq_true hb)] at k
    exact s_ret ev_c fun H3 e3 => k H3 ((e1.trans e2).trans e3)
  have hl := of_decide_eq_false hb
  rw [if_neg hl] at k
  have e02 := e1.trans e2
  have h0 : atI (ns.map V.int) 0 = some (.int (cf ns 0)) := at_int (z := 0) (by decide) (by omega)
  refine q_when (b := decide (cf ns 0 ≠ 1 ∨ ns.any (· < 0) = true)) (et_is (et_or (a := decide (cf ns 0 ≠ 1)) (b := ns.any (· < 0)) (et_is (et_test (ev_op (ev_op (ev_var rfl) ev_c (rv_ixL (ex_l e02 hA) h0)) ev_c (rv_ne rfl))) (by rw [dec_int, decide_not])) fun _ => et_test ?_) (by rw [Bool.decide_or, Bool.decide_eq_true])) (fun hb H3 e3 => ?_) (fun hb H3 e3 => ?_)
  · intro H3 e3 Q3 q3
    refine ⟨_, rfl, ⟨a, ns, rfl, ex_l (e02.trans e3) hA, by omega, fun m hm hmin => ?_⟩⟩
    refine ⟨m, 0, rfl, rfl, ?_⟩
    have : decide (m < 0) = ns.any (· < 0) := by
      rw [Bool.eq_iff_iff, List.any_eq_true, decide_eq_true_eq]
      constructor
      · intro h
        exact ⟨m, hm, decide_eq_true h⟩
      · rintro ⟨y, hy, hl⟩
        have := hmin y hy
        have := of_decide_eq_true hl
        omega
    show Q3 (.bl (decide (m < 0))) H3
    rw [this]
    exact q3 H3 (Ex.refl _)
  · rw [if_pos (of_decide_eq_true hb)] at k
    exact s_ret ev_c fun H4 e4 => k H4 ((e02.trans e3).trans e4)
  · rw [if_neg (of_decide_eq_false hb)] at k
    have e03 := e02.trans e3
    refine s_ret (ev_call (z := .bl (isPow ns.sum q (ns.length - 1))) (ea_cons (ev_cb (z := .int ns.sum) (ea_cons (ev_var rfl) ea_nil) fun H4 e4 Q4 q4 => ⟨a, ns, rfl, ex_l (e03.trans e4) hA, q4 H4 (Ex.refl _)⟩) (ea_cons (ev_var rfl) (ea_cons (ev_op (ln e03 rfl) ev_c rv_I0) ea_nil))) (fun H4 e4 Q4 q4 E4 => ⟨ns.sum, q, ns.length - 1, by show [_, _, V.int ((ns.length : Int) - 1)] = _; rw [show ((ns.length : Int) - 1) = ((ns.length - 1 : Nat) : Int) by omega], by omega, by omega, by omega, q4⟩)) fun H4 e4 => k H4 (e03.trans e4)
end
end My
set_option Elab.async false
set_option linter.all false
set_option maxRecDepth 100000
set_option maxHeartbeats 1000000
namespace My
open PySem PySem.Spec PyProof.Rows L2 Evl GxR MyG MyZ
local macro_rules | `(tactic| walk_at "ev") => `(tactic| repeat' (first
  | exact ev_c
  | exact ev_var rfl
  | exact ea_nil
  | exact eo_none
  | (refine' ev_cb ?ea (rc_len ?sq); (case ea => walk_at "evs"); (case sq => walk_at "sq"))
  | (refine' ev_op ?a ?b (rv_ixL ?sq ?ix); (case a => walk_at "evs"); (case b => walk_at "evs"); (case sq => walk_at "sq"); (case ix => walk_at "at"))
  | refine' ea_cons ?_ ?_
  | refine' eo_some ?_
  | refine' ev_op ?_ ?_ rv_I0
  | refine' ev_op ?_ ?_ (rv_eq ?_)
  | refine' ev_op ?_ ?_ (rv_ne ?_)
  | refine' ev_op ?_ ?_ (rv_I ?_)
  | refine' ev_un ?_ ru_neg
  | refine' ev_cb ?_ rc_int
  | refine' ev_cb ?_ rc_abs
  | refine' ev_cb ?_ rc_max2
  | refine' ev_andV ?_ ?_
  | refine' ev_notV ?_
  | refine' et_test ?_
  | refine' et_B ?_
  | refine' et_not ?_))
local macro_rules | `(tactic| walk_at "side") => `(tactic| first
  | rfl
  | decide
  | exact ⟨by decide, by decide⟩
  | exact .inr ⟨by decide, by decide⟩
  | exact .inl ⟨by decide, by decide⟩
  | omega
  | exact .inl ⟨by omega, by omega⟩
  | exact ⟨by omega, by omega⟩
  | exact .inr ⟨by omega, by omega⟩)
local macro_rules | `(tactic| walk_at "evs") => `(tactic| (walk_at "ev"; all_goals (walk_at "side")))
local macro_rules | `(tactic| walk_at "ex") => `(tactic| first
  | with_reducible exact Ex.refl _
  | with_reducible assumption
  | (refine' Ex.trans ?_ ?b; (case b => with_reducible assumption); walk_at "ex"))
local macro_rules | `(tactic| walk_at "sq") => `(tactic| first
  | (refine' sq_ex ?h ?e; (case h => with_reducible assumption); (case e => walk_at "ex"))
  | (refine' ex_l ?e ?h; (case h => with_reducible assumption); (case e => walk_at "ex"))
  | (refine' ex_l ?e ?h; (case h => assumption); (case e => walk_at "ex"))
  | assumption
  | exact sq_of (by assumption))
local macro_rules | `(tactic| walk_at "at") => `(tactic| first
  | exact at_int (by omega) (by omega)
  | exact atI_nat (j := 0) rfl
  | exact atI_nat (j := 1) rfl
  | exact atI_nat (j := 2) rfl)
local macro_rules | `(tactic| walk_at "side2") => `(tactic| first | exact CMul_bdl (by assumption) | exact CMul_bdr (by assumption) | walk_at "side")
local macro_rules | `(tactic| walk_at "evb") => `(tactic| (walk_at "ev"; all_goals (walk_at "side2")))

local macro_rules | `(tactic| walk_at "nm") => `(tactic| (try simp only [List.set_cons_zero, List.set_cons_succ]))
/-- two lists as arguments -/
def EvZ (K : PySem.W.Frag) (ta : TA) (σ : L2.St) (H : Hp) (xs ys : List V) : Prop := ∀ H1, Ex H H1 → ∀ Q : List V → Hp → Prop, (∀ a b H2, Ex H1 H2 → SqL K H2 a xs → SqL K H2 b ys → Q [.ref a, .ref b] H2) → ta σ H1 Q
section
variable {K : PySem.W.Frag} {σ : L2.St} {H : Hp} {ta tb te : TE} {t : TT} {tA : TA} {g : TG} {n : Nat} {vs : List Nat} {xs ys : List V}
theorem ez_nn (ha : EvL ta σ H xs) (hb : EvL tb σ H ys) : EvZ K (tCons ta (tCons tb tNil)) σ H xs ys := fun H1 e Q q =>
  ha H1 e _ fun a H2 na e2 h2 => hb H2 (e.trans e2) _ fun b H3 nb e3 h3 => q a b H3 (e2.trans e3) (sq_of (e3 _ _ h2)) (sq_of h3)
theorem ez_nv {b : Addr} (ha : EvL ta σ H xs) (hb : Ev tb σ H (.ref b)) (hy : SqL K H b ys) : EvZ K (tCons ta (tCons tb tNil)) σ H xs ys := fun H1 e Q q =>
  ha H1 e _ fun a H2 na e2 h2 => hb H2 (e.trans e2) _ fun H3 e3 => q a b H3 (e2.trans e3) (sq_of (e3 _ _ h2)) (ex_l (e.trans (e2.trans e3)) hy)
theorem ez_vv {a b : Addr} (ha : Ev ta σ H (.ref a)) (hx : SqL K H a xs) (hb : Ev tb σ H (.ref b)) (hy : SqL K H b ys) : EvZ K (tCons ta (tCons tb tNil)) σ H xs ys := fun H1 e Q q =>
  ha H1 e _ fun H2 e2 => hb H2 (e.trans e2) _ fun H3 e3 => q a b H3 (e2.trans e3) (ex_l (e.trans (e2.trans e3)) hx) (ex_l (e.trans (e2.trans e3)) hy)
theorem el_catNV {b : Addr} (ha : EvL ta σ H xs) (hb : Ev tb σ H (.ref b)) (hl : H b = some (.lst ys)) (hz : xs.length + ys.length ≤ 100000) : EvL (tOp rCat ta tb) σ H (xs ++ ys) := fun H1 e Q q =>
  ha H1 e _ fun l H2 nl e2 hl2 => hb H2 (e.trans e2) _ fun H3 e3 => ⟨l, b, xs, ys, rfl, rfl, e3 _ _ hl2, (e.trans (e2.trans e3)) _ _ hl, sz_of hz, fun r nr => q r _ (fresh_back (e2.trans e3) nr) ((e2.trans e3).trans (Ex.new nr)) upd_same⟩
/-- a comprehension over the pairs of two lists -/
theorem el_lcZ (hz : EvZ K tA σ H xs ys) (hn : n = min xs.length ys.length) (hn2 : n ≤ 40000)
    (σ2 : V → V → L2.St) (hgt : ∀ T x y H' (Q' : L2.St → Hp → Prop), H' T = some (.tup [x, y]) → Q' (σ2 x y) H' → g (.ref T) (wipe σ vs) H' Q') (hw : ∀ x y, wipe (σ2 x y) vs = wipe σ vs)
    (v : Nat → V) (he : ∀ i x y H1, Ex H H1 → xs[i]? = some x → ys[i]? = some y → Ev te (σ2 x y) H1 (v i)) : EvL (tLc (iZip K tA) g tYes te vs) σ H (given n (fun _ => true) v) := fun H0 e Q q =>
  hz H0 e _ fun a b H1 e1 h1 h2 => ⟨a, b, xs, ys, rfl, h1, h2, fun Dl hD => lc_it (walk_zip (K := K) (xs := xs) (ys := ys) hn) (Cw H1 (fun _ => true) v Dl) ⟨hD, Ex.new hD, upd_same⟩ (fun i H' _ p => ⟨ex_l p.2.1 h1, ex_l p.2.1 h2⟩) (fun i x H' H'' hi p y => by
    obtain ⟨T, x1, y1, rfl, hT, rfl, hx, hy⟩ := y
    have eT : Ex H' (upd H' T (.tup [x1, y1])) := Ex.new hT
    have p' : Cw H1 (fun _ => true) v Dl i (upd H' T (.tup [x1, y1])) := ⟨p.1, p.2.1.trans eT, eT _ _ p.2.2⟩
    have e9 : Ex H H1 := e.trans e1
    refine hgt T x1 y1 _ _ upd_same ⟨hw _ _, ?_⟩
    exact cw_turn p' (by omega) et_yes (fun _ => he i x1 y1 H1 e9 hx hy)) (fun H' p => q Dl H' (fresh_back e1 p.1) (e1.trans p.2.1) p.2.2)⟩
end
theorem q_forRev {K : PySem.W.Frag} {σ : L2.St} {H : Hp} {te : TE} {D : Ends} {tz tu : TS} {xs : List V} {j : Nat} (h : EvL te σ H xs) (Pv : Addr → Nat → L2.St → Hp → Prop) (h0 : ∀ p H1, H p = none → Ex H H1 → H1 p = some (.lst xs) → Pv p 0 σ H1) (hl : ∀ p i σ' H', i ≤ xs.length → Pv p i σ' H' → SqL K H' p xs)
    (hs : ∀ p i x σ' H', i < xs.length → xs[xs.length - 1 - i]? = some x → Pv p i σ' H' → tu { D with nx := Pv p (i + 1), ct := Pv p (i + 1), bk := tz D } (σ'.set j (some x)) H') (hd : ∀ p σ' H', Pv p xs.length σ' H' → tz D σ' H') : tSeq (tFor (iRev K (tCons te tNil)) (gName j) tu) tz D σ H :=
  h H (Ex.refl H) _ fun p H1 np e1 h1 => ⟨p, xs, rfl, sq_of h1, for_it (walk_rev (K := K) (xs := xs)) (Pv p) (h0 p H1 np e1 h1) (hl p) (fun i x σ' H' H'' hi pv y => by
    obtain ⟨rfl, hx⟩ := y
    exact hs p i x σ' _ hi hx pv) (hd p)⟩
theorem given_map (n : Nat) (v : Nat → Int) : given n (fun _ => true) (fun i => V.int (v i)) = ((List.range n).map v).map V.int := given_all n v
theorem at_cf {xs : List Int} {i : Nat} {x : V} (h : (xs.map V.int)[i]? = some x) : x = .int (cf xs i) := by
  rw [List.getElem?_map] at h
  cases e : xs[i]? with
  | none => rw [e] at h; cases h
  | some z =>
    rw [e] at h
    obtain rfl := Option.some.inj h
    unfold cf
    rw [List.getD_eq_getElem?_getD, e]
    rfl
theorem cf_app0 (xs : List Int) (i : Nat) : cf (xs ++ [0]) i = cf xs i := by
  have := cf_pad0 xs 1 i
  exact this
section
variable {P : Program} {w : World} {K : PySem.W.Frag} {mg : Str → Option Value} {base : Heap}
/-! _times_line: 0 numbers, 1 slope*, 2 here, 3 below -/
abbrev s_times_line : Stmt := topS 14
theorem sc_times_line : FnScope ["numbers", "slope", "here", "below"] ["numbers", "slope"] (defScope s_times_line) := ⟨rfl, rfl, rfl, by decide +kernel, rfl, by decide +kernel, by decide +kernel⟩
def spLine (K : PySem.W.Frag) : Sp := fun vs H Q _ => ∃ (a : Addr) (s : Int) (ns : List Int), vs = [.ref a, .int s] ∧ H a = some (.lst (ns.map V.int)) ∧ -300 ≤ s ∧ s ≤ 300 ∧ ns.length ≤ 1000 ∧ RetL ((line ns s).map V.int) H Q
theorem ok_line {f : Addr} {fd : FuncData} (F : Fun K "_times_line" "_times_line" s_times_line f fd) (T : FTxt mg) : FnOk P w K mg base CX0 1 f fd ["numbers", "slope"] (spLine K) := by
  refine F.ok sc_times_line (fun vs H Q E h => ?_) (fun cdv A outer s H vs Q E hr h => ?_)
  · obtain ⟨_, _, _, rfl, _⟩ := h
    rfl
  obtain ⟨a, sl, ns, rfl, hA, s1, s2, hl, k⟩ := h
  refine ⟨_, (pss_one (ps_ret (pe_lc (own := [("here", 2), ("below", 3)]) (tt := tYes) rfl sc_times_line.nd (pi_zip (by rfl) T.z_zip (pa_cons (pe_op op_cat (pv 0) (pe_lst (pa_cons pe_int pa_nil))) (pa_cons (pe_op op_cat (pe_lst (pa_cons pe_int pa_nil)) (pv 0)) pa_nil))) (blkOk_by (own := [("here", 2), ("below", 3)]) (N := ["numbers", "slope", "here", "below"]) (sc := defScope s_times_line) (by decide +kernel)) (fun _ _ _ _ _ => (pg_tupK (K := K) (n := 2) rfl rfl (pgs_cons (pg_name (i := 2) sc_times_line.nd rfl (Or.inl rfl)) (pgs_cons (pg_name (i := 3) sc_times_line.nd rfl (Or.inl rfl)) pgs_nil)))) (fun _ _ _ _ _ => pts_nil) (fun _ _ _ _ _ => pe_op op_add (pv 2) (pe_op op_mul (pv 1) (pv 3)))))), ?_⟩
  have l1 : (ns.map V.int ++ [V.int 0]).length = ns.length + 1 := by rw [List.length_append, List.length_map]; rfl
  have l2 : ([V.int 0] ++ ns.map V.int).length = ns.length + 1 := by rw [List.length_append, List.length_map]; exact Nat.add_comm 1 _
  refine s_retL (xs := (line ns sl).map V.int) ?_ fun p H1 np e1 h1 => k p H1 np e1 h1
  have := el_lcZ (K := K) (σ := [some (V.ref a), some (.int sl), none, none]) (te := tOp (rI0 fun i j => .int (i + j)) (tVar 2) (tOp (rI CMul fun i j => .int (i * j)) (tVar 1) (tVar 3))) (g := gTup K 2 (gCons (gName 2) (gCons (gName 3) gNil))) (vs := [2, 3]) (n := ns.length + 1) (ez_nn (K := K) (el_cat (ev_var (i := 0) rfl) hA (el_lst (ea_cons (ev_c (v := .int 0)) ea_nil) (by decide)) (by rw [List.length_map]; show ns.length + 1 ≤ _; omega)) (el_catNV (el_lst (ea_cons (ev_c (v := .int 0)) ea_nil) (by decide)) (ev_var (i := 0) rfl) hA (by rw [List.length_map]; show 1 + ns.length ≤ _; omega))) (by rw [l1, l2, Nat.min_self]) (by omega)
    (fun x y => [some (.ref a), some (.int sl), some x, some y]) (fun T x y H' Q' hT q => ⟨T, [x, y], rfl, st_of hT, rfl, x, [y], rfl, y, [], rfl, rfl, q⟩) (fun x y => rfl)
    (fun i => .int (cf ns i + sl * (if i = 0 then 0 else cf ns (i - 1)))) (fun i x y H1 e1 hx hy => ?_)
  · rw [given_map] at this
    exact this
  · have hx' : (((ns ++ [0]).map V.int))[i]? = some x := by rw [List.map_append]; exact hx
    have hy' : (((0 :: ns).map V.int))[i]? = some y := hy
    obtain rfl := at_cf hx'
    obtain rfl := at_cf hy'
    rw [cf_app0]
    have e0 : cf (0 :: ns) i = if i = 0 then 0 else cf ns (i - 1) := by cases i <;> rfl
    rw [e0]
    exact ev_op (ev_var rfl) (ev_op (ev_var rfl) (ev_var rfl) (rv_I (.inl ⟨by omega, by omega⟩))) rv_I0
/-! _krawtchouk_sums: 0 order, 1 counts, 2 sums, 3 others, 4 count*, 5 item, 6 other -/
abbrev s_krawtchouk_sums : Stmt := topS 15
theorem sc_krawtchouk_sums : FnScope ["order", "counts", "sums", "others", "count", "item", "other"] ["order", "counts"] (defScope s_krawtchouk_sums) := ⟨rfl, rfl, rfl, by decide +kernel, rfl, by decide +kernel, by decide +kernel⟩
theorem drop_cons {ns : List Int} {i : Nat} (h : i < ns.length) : ns.drop i = cf ns i :: ns.drop (i + 1) := by
  rw [List.drop_eq_getElem_cons h]
  unfold cf
  rw [List.getD_eq_getElem?_getD, List.getElem?_eq_getElem h]
  rfl
theorem ksum_step (s : Int) {ns : List Int} {i : Nat} (h : i + 1 < ns.length) : ksum s (ns.drop i) = axZ (cf ns i) (lines s (ns.length - 1 - i)) (line (ksum s (ns.drop (i + 1))) (-1)) := by
  rw [drop_cons (by omega : i < ns.length), drop_cons h]
  show axZ _ (lines s ((ns.drop (i + 1 + 1)).length + 1)) _ = _
  rw [List.length_drop, show ns.length - (i + 1 + 1) + 1 = ns.length - 1 - i by omega]
def spKS (K : PySem.W.Frag) : Sp := fun vs H Q _ => ∃ (q : Int) (a : Addr) (ns : List Int), vs = [.int q, .ref a] ∧ 2 ≤ q ∧ q ≤ 256 ∧ SqL K H a (ns.map V.int) ∧ 1 ≤ ns.length ∧ ns.length ≤ 256 ∧ (∀ x ∈ ns, x.natAbs < 2 ^ 400) ∧ RetL ((ksum (q - 1) ns).map V.int) H Q
theorem ok_ks {f : Addr} {fd : FuncData} (F : Fun K "_krawtchouk_sums" "_krawtchouk_sums" s_krawtchouk_sums f fd) (T : FTxt mg) (D_times_line : Dk P w K mg base CX0 1 "_times_line" ["numbers", "slope"] (spLine K)) : FnOk P w K mg base CX0 2 f fd ["order", "counts"] (spKS K) := by
  refine F.ok sc_krawtchouk_sums (fun vs H Q E h => ?_) (fun cdv A outer s H vs Q E hr h => ?_)
  · obtain ⟨_, _, _, rfl, _⟩ := h
    rfl
  obtain ⟨q, a, ns, rfl, q2, q3, hA, l1, l2, hb, k⟩ := h
  refine ⟨_, (pss_cons (ps_set (i := 2) sc_krawtchouk_sums.nd rfl (Or.inl rfl) (pe_lst (pa_cons (pe_ix ix_list (pv 1) (pe_un un_neg pe_int) (fun _ _ => rfl)) pa_nil)))
    (pss_cons (ps_set (i := 3) sc_krawtchouk_sums.nd rfl (Or.inl rfl) (pe_lst (pa_cons pe_int pa_nil)))
    (pss_cons (ps_for PassesOwn.never rfl (pi_reversed (by rfl) T.z_reversed (pa_cons (pe_slice sl_list (pv 1) po_none (po_some (pe_un un_neg pe_int))) pa_nil)) (pg_name (i := 4) sc_krawtchouk_sums.nd rfl (Or.inr rfl))
      (pss_cons (ps_set (i := 3) sc_krawtchouk_sums.nd rfl (Or.inl rfl) (pe_cd D_times_line hr (by rfl) (pa_cons (pv 3) (pa_cons (pe_op op_sub (pv 0) pe_int) pa_nil))))
      (pss_one (ps_setLc (i := 2) (own := [("item", 5), ("other", 6)]) (tt := tYes) rfl sc_krawtchouk_sums.nd rfl rfl (sw_true rfl rfl rfl (by decide +kernel)) (pi_zip (by rfl) T.z_zip (pa_cons (pe_cd D_times_line hr (by rfl) (pa_cons (pv 2) (pa_cons (pe_un un_neg pe_int) pa_nil))) (pa_cons (pv 3) pa_nil))) (blkOk_by (own := [("item", 5), ("other", 6)]) (N := ["order", "counts", "sums", "others", "count", "item", "other"]) (sc := defScope s_krawtchouk_sums) (by decide +kernel)) (fun _ _ _ _ _ => (pg_tupK (K := K) (n := 2) rfl rfl (pgs_cons (pg_name (i := 5) sc_krawtchouk_sums.nd rfl (Or.inl rfl)) (pgs_cons (pg_name (i := 6) sc_krawtchouk_sums.nd rfl (Or.inl rfl)) pgs_nil)))) (fun _ _ _ _ _ => pts_nil) (fun _ _ _ _ _ => pe_op op_add (pv 5) (pe_op op_mulW (pv 4) (pv 6)))))))
    (pss_one (ps_ret (pv 2)))))), ?_⟩
  have hlast : atI (ns.map V.int) (-1) = some (.int (cf ns (ns.length - 1))) := by
    obtain ⟨ys, y, rfl⟩ : ∃ ys y, ns = ys ++ [y] := ⟨ns.dropLast, ns.getLast (by intro z; rw [z] at l1; exact absurd l1 (by decide)), (List.dropLast_concat_getLast _).symm⟩
    rw [List.map_append]
    refine (atI_last _ _).trans ?_
    unfold cf
    rw [List.getD_eq_getElem?_getD, List.length_append, show ys.length + [y].length - 1 = ys.length from rfl, List.getElem?_append_right (Nat.le_refl _), Nat.sub_self]
    rfl
  refine q_asgL (xs := [V.int (cf ns (ns.length - 1))]) (el_lst (ea_cons (ev_op (ev_var rfl) (ev_un ev_c ru_neg) (rv_ixL hA hlast)) ea_nil) (by show 1 ≤ 100000; decide)) fun p1 H1 n1 e1 h1 => ?_
  walk_at "nm"
  refine q_asgL (xs := [V.int 1]) (el_lst (ea_cons ev_c ea_nil) (by decide)) fun p2 H2 n2 e2 h2 => ?_
  walk_at "nm"
  have hcut : cutV (ns.map V.int) none (some (-1)) = (ns.take (ns.length - 1)).map V.int := by rw [cut_last, List.length_map, List.map_take]
  refine q_forRev (xs := (ns.take (ns.length - 1)).map V.int) (by rw [← hcut]; exact el_sl (ev_var rfl) eo_none (eo_some (ev_un ev_c ru_neg)) (ex_l (e1.trans e2) hA)) (fun pr i σ' H' => ∃ (p1 p2 : Addr) (y4 y5 y6 : Option V), σ' = [some (.int q), some (.ref a), some (.ref p1), some (.ref p2), y4, y5, y6] ∧ Ex H H' ∧ H p1 = none ∧ H' pr = some (.lst ((ns.take (ns.length - 1)).map V.int)) ∧ H' p1 = some (.lst ((ksum (q - 1) (ns.drop (ns.length - 1 - i))).map V.int)) ∧ H' p2 = some (.lst ((lines (q - 1) i).map V.int))) ?_ ?_ ?_ ?_
  · intro pr H3 nr e3 h3
    refine ⟨p1, p2, none, none, none, rfl, (e1.trans e2).trans e3, n1, h3, ?_, e3 _ _ h2⟩
    rw [Nat.sub_zero, drop_cons (by omega), show ns.length - 1 + 1 = ns.length by omega, List.drop_length]
    exact (e2.trans e3) _ _ h1
  · rintro pr i σ' H' _ ⟨_, _, _, _, _, _, _, _, hpr, _⟩
    exact sq_of hpr
  · rintro pr i x σ' H' hi hx ⟨p1, p2, y4, y5, y6, rfl, ex, np1, hpr, h1, h2⟩
    rw [List.length_map, List.length_take, Nat.min_eq_left (by omega)] at hi
    rw [List.length_map, List.length_take, Nat.min_eq_left (by omega)] at hx
    have hxi : x = .int (cf ns (ns.length - 1 - 1 - i)) := by
      have := at_cf hx
      rw [this]
      congr 1
      unfold cf
      rw [List.getD_eq_getElem?_getD, List.getD_eq_getElem?_getD, List.getElem?_take, if_pos (by omega)]
    subst hxi
    walk_at "nm"
    generalize hc : ns.length - 1 - 1 - i = c
    have hcl : c + 1 < ns.length := by omega
    have hks : ksum (q - 1) (ns.drop c) = axZ (cf ns c) (lines (q - 1) (i + 1)) (line (ksum (q - 1) (ns.drop (c + 1))) (-1)) := by
      rw [ksum_step (q - 1) hcl, show ns.length - 1 - c = i + 1 by omega]
    rw [show ns.length - 1 - i = c + 1 by omega] at h1
    have ll := lines_len (q - 1) i
    have lk := ksum_len (q - 1) (ns.drop (c + 1))
    rw [List.length_drop] at lk
    refine q_asgL (xs := (lines (q - 1) (i + 1)).map V.int) (el_call (ea_cons (ev_var rfl) (ea_cons (ev_op (ev_var rfl) ev_c rv_I0) ea_nil)) (fun H3 e3 Q3 q3 E3 => ⟨p2, q - 1, lines (q - 1) i, rfl, e3 _ _ h2, by omega, by omega, by omega, q3⟩)) fun p3 H3 n3 e3 h3 => ?_
    walk_at "nm"
    have hz := el_lcZ (K := K) (te := tOp (rI0 fun i j => .int (i + j)) (tVar 5) (tOp (rI CMulW fun i j => .int (i * j)) (tVar 4) (tVar 6))) (g := gTup K 2 (gCons (gName 5) (gCons (gName 6) gNil))) (vs := [5, 6]) (σ := [some (V.int q), some (.ref a), some (.ref p1), some (.ref p3), some (.int (cf ns c)), y5, y6]) (n := i + 2) (xs := (line (ksum (q - 1) (ns.drop (c + 1))) (-1)).map V.int) (ys := (lines (q - 1) (i + 1)).map V.int)
      (ez_nv (K := K) (el_call (E := E0) (sp := spLine K) (ea_cons (ev_var (i := 2) rfl) (ea_cons (ev_un (ev_c (v := .int 1)) ru_neg) ea_nil)) (fun H4 e4 Q4 q4 E4 => ⟨p1, -1, _, rfl, (e3.trans e4) _ _ h1, by omega, by omega, by omega, q4⟩)) (ev_var (i := 3) rfl) (sq_of h3)) (by rw [List.length_map, List.length_map, line_len, lines_len, lk]; omega) (by omega)
      (fun x y => [some (.int q), some (.ref a), some (.ref p1), some (.ref p3), some (.int (cf ns c)), some x, some y]) (fun T x y H' Q' hT q => ⟨T, [x, y], rfl, st_of hT, rfl, x, [y], rfl, y, [], rfl, rfl, q⟩) (fun x y => rfl)
      (fun j => .int (cf (line (ksum (q - 1) (ns.drop (c + 1))) (-1)) j + cf ns c * cf (lines (q - 1) (i + 1)) j)) (fun j x y H4 e4 hx hy => ?_)
    · rw [given_map] at hz
      refine s_asgL (xs := (ksum (q - 1) (ns.drop c)).map V.int) ?_ fun p4 H4 n4 e4 h4 => ?_
      · rw [hks]
        unfold axZ
        rw [lines_len]
        exact hz
      · refine ⟨p4, p3, _, _, _, rfl, (ex.trans e3).trans e4, fresh_back (ex.trans e3) n4, (e3.trans e4) _ _ hpr, ?_, e4 _ _ h3⟩
        rw [show ns.length - 1 - (i + 1) = c by omega]
        exact h4
    · obtain rfl := at_cf hx
      obtain rfl := at_cf hy
      have b1 : (cf ns c).natAbs < 2 ^ 400 := by
        unfold cf
        rw [List.getD_eq_getElem?_getD]
        cases e : ns[c]? with
        | none => exact Nat.pow_pos (by decide)
        | some z => exact hb z (List.mem_of_getElem? e)
      have b2 : (cf (lines (q - 1) (i + 1)) j).natAbs < 2 ^ (8 * (i + 1) + 1) := by
        have h5 : cf (lines (q - 1) (i + 1)) j = (ln (q - 1) ^ (i + 1)).at' j := by rw [← po_lines]; rfl
        rw [h5]
        exact pw_bd (by omega) (i + 1) j
      exact ev_op (ev_var rfl) (ev_op (ev_var rfl) (ev_var rfl) (rv_I (wide_mul b1 b2 (by decide) (Nat.succ_pos _) (by omega)))) rv_I0
  · rintro pr σ' H' ⟨p1, p2, y4, y5, y6, rfl, ex, np1, hpr, h1, h2⟩
    rw [List.length_map, List.length_take, Nat.min_eq_left (by omega), Nat.sub_self, List.drop_zero] at h1
    exact s_ret (ev_var rfl) fun H2 e2 => k p1 H2 np1 (ex.trans e2) (e2 _ _ h1)
end
end My
set_option Elab.async false
set_option linter.all false
set_option maxRecDepth 100000
set_option maxHeartbeats 1000000
namespace MyT
open PySem PySem.Spec PyProof.Rows L2
/-- the wish of a clause «except x as n» whose class is met -/
def wMet (K : PySem.W.Frag) (c : Value) (i : Nat) (ts : Addr → Value → Option Addr → TS) (D : Ends) : WX := fun cls d σ H =>
  PySem.W.exmOne K cls c = some true ∧ ∀ a, H a = none →
    ts a cls d { nx := fun σ1 H1 => D.nx (σ1.set i none) H1, rt := D.rt, bk := fun σ1 H1 => D.bk (σ1.set i none) H1, ct := fun σ1 H1 => D.ct (σ1.set i none) H1 } (σ.set i (some (.ref a))) H
/-- what stands behind an exception of the body -/
def behind (X : Cx) (R : Flow → Shared → Prop) (hd : ExceptHandler) : Value → Shared → Prop := fun ev =>
  wpAny (model X.prog X.w) X.A (noteFrame ev X.env) (fun _ => wpAny (model X.prog X.w) X.A (setFlight ev none) (fun _ => wpAny (model X.prog X.w) X.A (handleBy ev X.env [hd]) R X.xe) X.xe) X.xe
section
variable {X : Cx} {x n : Str} {c : Value} {i : Nat} {body suite els : List Stmt} {b0 : Stmt} {np q1 q2 : Pos} {tb : WX → TS} {ts : Addr → Value → Option Addr → TS}
/-- try: body / except x as n: suite / else: els, where the body always raises what is caught -/
theorem ps_try_else (hs : X.stack = X.env :: X.outer) (hf : X.env.frame = some X.env.locals) (hN : X.N.Nodup) (hi : X.N[i]? = some n) (hln : X.env.kindOf n = some .local) (hc : Names X x c)
    (hb : ∀ (W : WX) (pn : List (Addr × Obj)) (xe : Value → Shared → Prop), Takes (X.tr pn xe) W → PassesOwn (model X.prog X.w) X.A X.env xe → PSs (X.tr pn xe) body (tb W))
    (hsu : ∀ (a : Addr) (oe : Obj) (cls : Value) (d : Option Addr) (pn : List (Addr × Obj)), Zc cls d oe → (∃ vs, oe.data = .fields vs) → PSs (X.suite a ((a, oe) :: pn)) (b0 :: suite) (ts a cls d)) :
    PS X (.Try body [.ExceptHandler (some (.Name x np)) (some n) (b0 :: suite) q1] els [] q2) (fun D σ H => tb (wMet X.K c i ts D) { D with nx := fun _ _ => False } σ H) := by
  refine ⟨?_⟩
  intro pins s σ H D I h
  have ok := I.ok
  have top : X.A.frames = some (X.env :: X.outer) := ok.frames.trans (congrArg some hs)
  refine (fun run => ?_ : (wpAny _ _ _ _ _ _) → _) ((hb (wMet X.K c i ts D) (X.pn ++ pins) (behind X (SP X pins D) (.ExceptHandler (some (.Name x np)) (some n) (b0 :: suite) q1)) ?_ PassesOwn.looking).run [] s σ H { D with nx := fun _ _ => False } (I.toTry _) h)
  · refine wpAny_Try_except (wpAny_mono run ?_ fun _ _ z => z)
    intro fl s1 z
    cases fl with
    | next =>
      obtain ⟨_, _, _, no⟩ := z
      exact no.elim
    | ret v =>
      obtain ⟨w, σ1, H1, J1, r1, z1⟩ := z
      exact ⟨w, σ1, H1, J1.ofTry ok, r1, z1⟩
    | brk =>
      obtain ⟨σ1, H1, J1, z1⟩ := z
      exact ⟨σ1, H1, J1.ofTry ok, z1⟩
    | cont =>
      obtain ⟨σ1, H1, J1, z1⟩ := z
      exact ⟨σ1, H1, J1.ofTry ok, z1⟩
  · intro u s' xx
    obtain ⟨a, B, s0, ps, σ1, H1, cls, d, rfl, I0, below, slots, sky0, fresh, osE, bareE, met, wish⟩ := xx
    have I1 : Inv X pins σ1 H1 s0 := I0.ofTry ok
    have sky1 : Sky B (X.env :: X.outer) a (Zc cls d) X.env.locals s'.heap := hs ▸ sky0
    show wpAny (model X.prog X.w) X.A (noteFrame (.ref a) X.env) _ _ _
    refine Sky.land Zc.steady top hf sky1 ?_
    intro hp fly slots2
    have I2 : Inv X pins σ1 H1 { s' with heap := hp } := I1.landed below fly.1 (slots.trans slots2) osE bareE
    obtain ⟨o2, v2, at2, z2, data2⟩ := fly.there
    have away : a ∉ frs (X.env :: X.outer) := by
      intro hm
      obtain ⟨_, o', at', nd⟩ := fly.2.2.1.mem hm
      have same : o' = o2 := Option.some.inj (at'.symm.trans at2)
      exact nd _ (same ▸ data2)
    have offL : a ≠ X.env.locals := by
      intro z
      refine away (List.mem_filterMap.mpr ⟨X.env, .head _, ?_⟩)
      rw [hf, z]
    have offF : a ∉ X.fs := by
      intro hm
      obtain ⟨ev, hev, z⟩ := List.mem_filterMap.mp hm
      exact away (List.mem_filterMap.mpr ⟨ev, .tail _ hev, z⟩)
    have inSuite := I2.suite at2 data2 fresh offL offF
    refine wpAny_handleBy_cons (codeAny_handlers_test ?_) (fun z => by cases z)
    have looks : PySem.W.Looks (model X.prog X.w) hp (typeOf (.ref a)) cls := by
      intro A1 R1 E1 t1 keep r1
      exact wpAny_typeOf_ref (keep _ _ at2) (by rw [z2.1]; exact r1)
    have named : ∀ {R1 E1 : Value → Shared → Prop}, R1 c { s' with heap := hp } → wpAny (model X.prog X.w) (X.A.mark (some (.ref a))) (eval (.Name x np) X.env) R1 E1 { s' with heap := hp } := by
      intro R1 E1 r1
      rcases hc with ⟨gl, nodbg, mgx | ⟨mgx, bt, nn⟩⟩
      · exact ld_glob (X := X.suite a ((a, o2) :: (X.pn ++ pins))) inSuite gl mgx r1 nodbg
      · exact ld_blt (X := X.suite a ((a, o2) :: (X.pn ++ pins))) inSuite gl mgx bt r1 nn nodbg
    refine named ((PySem.W.exm_one (M := model X.prog X.w) I2.kIn looks met).here ?_)
    refine codeAny_handlers_suite_as ?_
    refine HandSPX.lands_againZ fly ?_
    intro hq fly2 slots3
    have I3 : Inv X pins σ1 H1 { s' with heap := hq } := I1.landed below fly2.1 ((slots.trans slots2).trans slots3) osE bareE
    obtain ⟨o3, v3, at3, z3, data3⟩ := fly2.there
    refine store_ok (X := X.suite a ((a, o3) :: (X.pn ++ pins))) (v := .ref a) (I3.suite at3 data3 fresh offL offF) hN hi (.inl hln) rfl ?_ (.inr hln)
    intro s5 I5
    have ran := (hsu a o3 cls d (X.pn ++ pins) z3 ⟨_, data3⟩).run [] s5 _ H1 _ I5 (wish a fresh)
    refine wpAny_mono ran ?_ (fun _ _ z => z.elim)
    intro fl s6 z
    have unbound : ∀ {σ6 : L2.St} {H6 : Hp} {R : Shared → Prop}, Inv (X.suite a ((a, o3) :: (X.pn ++ pins))) [] σ6 H6 s6 → (∀ s7, Inv X pins (σ6.set i none) H6 s7 → R s7) →
        wpAny (model X.prog X.w) X.A (do bindName X.env n .none; unbindBehindTheSuite X.env n q1) (fun _ s7 => R s7) X.xe s6 :=
      fun J6 k => gone_ok (J6.unsuite ok) hN hi hln k
    cases fl with
    | ret v =>
      obtain ⟨w, σ6, H6, J6, r6, z6⟩ := z
      exact unbound J6 fun _ J7 => ⟨_, _, _, J7, r6, z6⟩
    | next =>
      obtain ⟨σ6, H6, J6, z6⟩ := z
      exact unbound J6 fun _ J7 => ⟨_, _, J7, z6⟩
    | brk =>
      obtain ⟨σ6, H6, J6, z6⟩ := z
      exact unbound J6 fun _ J7 => ⟨_, _, J7, z6⟩
    | cont =>
      obtain ⟨σ6, H6, J6, z6⟩ := z
      exact unbound J6 fun _ J7 => ⟨_, _, J7, z6⟩
end
end MyT
set_option Elab.async false
set_option linter.all false
set_option maxRecDepth 100000
set_option maxHeartbeats 1000000
namespace My
open PySem PySem.Spec PyProof.Rows L2 L2H Evl GxR MyG MyZ
local macro_rules | `(tactic| walk_at "ev") => `(tactic| repeat' (first
  | exact ev_c
  | exact ev_var rfl
  | exact ea_nil
  | exact eo_none
  | (refine' ev_cb ?ea (rc_len ?sq); (case ea => walk_at "evs"); (case sq => walk_at "sq"))
  | (refine' ev_op ?a ?b (rv_ixL ?sq ?ix); (case a => walk_at "evs"); (case b => walk_at "evs"); (case sq => walk_at "sq"); (case ix => walk_at "at"))
  | refine' ea_cons ?_ ?_
  | refine' eo_some ?_
  | refine' ev_op ?_ ?_ rv_I0
  | refine' ev_op ?_ ?_ (rv_eq ?_)
  | refine' ev_op ?_ ?_ (rv_ne ?_)
  | refine' ev_op ?_ ?_ (rv_I ?_)
  | refine' ev_un ?_ ru_neg
  | refine' ev_cb ?_ rc_int
  | refine' ev_cb ?_ rc_abs
  | refine' ev_cb ?_ rc_max2
  | refine' ev_andV ?_ ?_
  | refine' ev_notV ?_
  | refine' et_test ?_
  | refine' et_B ?_
  | refine' et_not ?_))
local macro_rules | `(tactic| walk_at "side") => `(tactic| first
  | rfl
  | decide
  | exact ⟨by decide, by decide⟩
  | exact .inr ⟨by decide, by decide⟩
  | exact .inl ⟨by decide, by decide⟩
  | omega
  | exact .inl ⟨by omega, by omega⟩
  | exact ⟨by omega, by omega⟩
  | exact .inr ⟨by omega, by omega⟩)
local macro_rules | `(tactic| walk_at "evs") => `(tactic| (walk_at "ev"; all_goals (walk_at "side")))
local macro_rules | `(tactic| walk_at "ex") => `(tactic| first
  | with_reducible exact Ex.refl _
  | with_reducible assumption
  | (refine' Ex.trans ?_ ?b; (case b => with_reducible assumption); walk_at "ex"))
local macro_rules | `(tactic| walk_at "sq") => `(tactic| first
  | (refine' sq_ex ?h ?e; (case h => with_reducible assumption); (case e => walk_at "ex"))
  | (refine' ex_l ?e ?h; (case h => with_reducible assumption); (case e => walk_at "ex"))
  | (refine' ex_l ?e ?h; (case h => assumption); (case e => walk_at "ex"))
  | assumption
  | exact sq_of (by assumption))
local macro_rules | `(tactic| walk_at "at") => `(tactic| first
  | exact at_int (by omega) (by omega)
  | exact atI_nat (j := 0) rfl
  | exact atI_nat (j := 1) rfl
  | exact atI_nat (j := 2) rfl)
local macro_rules | `(tactic| walk_at "side2") => `(tactic| first | exact CMul_bdl (by assumption) | exact CMul_bdr (by assumption) | walk_at "side")
local macro_rules | `(tactic| walk_at "evb") => `(tactic| (walk_at "ev"; all_goals (walk_at "side2")))

local macro_rules | `(tactic| walk_at "nm") => `(tactic| (try simp only [List.set_cons_zero, List.set_cons_succ]))
/-- a def that may raise, whose code object stands at c0 -/
theorem Fun.okCX {P : Program} {w : World} {K : PySem.W.Frag} {mg : Str → Option Value} {base : Heap} {x qual : Str} {st : Stmt} {f c0 : Addr} {N ps : List Str} {k : Nat} {sp : Sp} {oc : Value} {od an : Option Addr} {osl : Array (Option Value)} {kV doc pm ct : Value}
    (lk : K.lookup f = some ⟨oc, od, .func (PySem.W.fnOf x qual (defArgs st) (defBody st) (defScope st) .none kV doc pm an (.ref c0) ct), osl⟩) (hcd : PySem.W.codeIn K (.ref c0) qual = true) (S : FnScope N ps (defScope st)) (len : ∀ vs H Q E, sp vs H Q E → vs.length = ps.length)
    (hbody : ∀ (A : Around) (outer : List Env) (s : Shared) (H : Hp) (vs : List V) (Q : VK) (E : XK), Room k (A.deeper (PyProof.Rows.envOfC qual (defScope st) s.heap.objs.size f (.ref c0))) → sp vs H Q E →
      ∃ t, PSs (cxOf (L2.CX P w) P w K mg base N qual (defScope st) f (.ref c0) A outer s H E) (defBody st) t ∧ t { nx := fun _ H' => Q .non H', rt := Q } (L2.start N vs) H) :
    FnOk P w K mg base (L2.CX P w) (k + 1) f (PySem.W.fnOf x qual (defArgs st) (defBody st) (defScope st) .none kV doc pm an (.ref c0) ct) ps sp :=
  fn_of lk hcd S len hbody
/-- item < 0 or item % total != 0 -/
def ElBad (i : Nat) : ElP := fun σ _ v b => ∃ z n : Int, σ[i]? = some (some (.int z)) ∧ 0 < z ∧ v = .int n ∧ b = badI z n
theorem elt_bad {X : Cx} {Pt : Addr} {scope : Scope} {x y : Str} {i j1 j2 : Nat} {p1 p2 p3 p4 p5 p6 p7 p8 p9 : Pos} {σ : L2.St} {H1 : Hp} {v : V} {b : Bool} (hN : X.N[i]? = some y) (hv : X.env.scope.names.lookup y = some .cell) (hf : (y, NameKind.free) ∈ scope.names)
    (hk : scope.kind = .function) (hx : scope.names.lookup x = some .local) (hy : scope.names.lookup y = some .free)
    (dx : (x == ("__debug__" : Str)) = false := by decide) (dy : (y == ("__debug__" : Str)) = false := by decide) (cy : (y == ("__classdict__" : Str)) = false := by decide) (h : ElBad i σ H1 v b) :
    EltG X Pt scope x (.BoolOp .Or [.Compare (.Name x p1) [.Lt] [.Constant (.int 0) j1 p2] p3, .Compare (.BinOp (.Name x p4) .Mod (.Name y p5) p6) [.NotEq] [.Constant (.int 0) j2 p7] p8] p9) σ H1 v b := by
  obtain ⟨z, n, hz, z0, rfl, rfl⟩ := h
  intro pins s1 ce A' E' u s' m I a ru hm _ nP
  obtain ⟨t, rfl⟩ := (show ∃ t, u = Value.int n t from ru)
  obtain ⟨tz, cl, hc, hcv⟩ := a.cap I nP hN hz hv hf
  have kf : ce.scope.kind = .function := by rw [a.sc]; exact hk
  have kx : ce.kindOf x = some .local := by
    show ce.scope.names.lookup x = some .local
    rw [a.sc]; exact hx
  have ky : ce.kindOf y = some .free := by
    show ce.scope.names.lookup y = some .free
    rw [a.sc]; exact hy
  refine BoolOp_or ?_
  refine wpAny_Compare1 ?_
  refine wpAny_Name (wpAny_loadName_local kf kx a.ns hm ?_) dx
  refine wpAny_Constant_int ?_
  refine PySem.P.lt_int ?_
  refine wpAny_truthy_bool ?_
  unfold badI
  cases hd : decide (n < 0) with
  | true => exact ⟨rfl, keeps_tok s' _⟩
  | false =>
    refine BoolOp_one ?_
    refine wpAny_Compare1 ?_
    refine wpAny_BinOp ?_
    refine wpAny_Name (wpAny_loadName_local kf kx a.ns hm ?_) dx
    refine wpAny_Name (wpAny_loadName_free kf ky hc hcv ?_ cy) dy
    refine mod_int' (by omega) ?_
    refine wpAny_Constant_int ?_
    refine PySem.P.ne_int ?_
    refine ⟨?_, keeps_tok s' _⟩
    rw [Int.fmod_eq_emod_of_nonneg n (by omega), Bool.false_or]
    congr 1
    by_cases q : n % z = 0
    · rw [q]
      rfl
    · rw [decide_eq_true q]
      exact bne_iff_ne.mpr q
structure XTxt (K : PySem.W.Frag) (mg : Str → Option Value) (n : Str) (D : Addr) : Prop where
  g : mg n = some (.ref D)
  x : PySem.W.excIn K D [.type "ValueError", .type "Exception", .type "BaseException", .type "object"] "ValueError.__new__" = true
  k : PySem.W.keepIn K (.ref D) = true
  b : PySem.W.subIn K (.ref D) (.type "BaseException") = some true
  t : PySem.W.typeIn K (.ref D) = some (.type "type")
section
variable {K : PySem.W.Frag} {σ : L2.St} {H : Hp} {te : TE} {a P : Addr} {xs : List V} {El : ElP} {pb : V → Bool}
theorem ev_anyG (h : Ev te σ H (.ref a)) (hx : SqL K H a xs) (hT : TabE H P) (he : ∀ H1, Ex H H1 → ∀ v ∈ xs, El σ H1 v (pb v)) : Ev (tAnyG K P El te) σ H (.bl (xs.any pb)) := fun H1 e Q q =>
  h H1 e _ fun H2 e2 => ⟨a, xs, pb, rfl, .inl (ex_l (e.trans e2) hx), (e.trans e2) _ _ hT, he H2 (e.trans e2), q H2 e2⟩
end
theorem any_int (l : List Int) (f : Int → Bool) (g : V → Bool) (h : ∀ n, g (.int n) = f n) : (l.map V.int).any g = l.any f := by
  rw [List.any_map]
  congr 1
  funext n
  exact h n
section
variable {P : Program} {w : World} {K : PySem.W.Frag} {mg : Str → Option Value} {base : Heap}
/-! dual_enumerator: 0 order, 1 counts, 2 sums, 3 total*, 4 item -/
abbrev s_dual_enumerator : Stmt := topS 16
theorem sc_dual_enumerator : FnScope ["order", "counts", "sums", "total", "item"] ["order", "counts"] (defScope s_dual_enumerator) := ⟨rfl, rfl, rfl, by decide +kernel, rfl, by decide +kernel, by decide +kernel⟩
def spDual (K : PySem.W.Frag) (D Pt : Addr) : Sp := fun vs H Q E => ∃ (q : Int) (a : Addr) (ns : List Int), vs = [.int q, .ref a] ∧ SqL K H a (ns.map V.int) ∧ TabE H Pt ∧ (∀ x ∈ ns, x.natAbs < 2 ^ 390) ∧
  ((mayC q ns && !dualBad q ns) = true → RetL ((dualL q ns).map V.int) H Q) ∧ ((mayC q ns && !dualBad q ns) = false → ∀ H', Ex H H' → E (.ref D) none H')
theorem sum_bd {B : Nat} : ∀ ns : List Int, (∀ x ∈ ns, x.natAbs ≤ B) → ns.sum.natAbs ≤ ns.length * B
  | [], _ => by show 0 ≤ _; omega
  | x :: ns, h => by
    show (x + ns.sum).natAbs ≤ (ns.length + 1) * B
    have h1 := h x List.mem_cons_self
    have h2 := sum_bd ns fun y hy => h y (List.mem_cons_of_mem _ hy)
    rw [Nat.add_mul]
    omega
theorem ok_dual {f c0 Pt D : Addr} {oc : Value} {od an : Option Addr} {osl : Array (Option Value)} {kV doc pm ct : Value}
    (lk : K.lookup f = some ⟨oc, od, .func (PySem.W.fnOf "dual_enumerator" "dual_enumerator" (defArgs s_dual_enumerator) (defBody s_dual_enumerator) (defScope s_dual_enumerator) .none kV doc pm an (.ref c0) ct), osl⟩) (hcd : PySem.W.codeIn K (.ref c0) "dual_enumerator" = true)
    (T : FTxt mg) (TB : TabB base mg c0 Pt) (TZ : XTxt K mg "InvalidCode" D) (D_may_be_counts : Dk P w K mg base CX0 2 "_may_be_counts" ["order", "counts"] (spMay K)) (D_krawtchouk_sums : Dk P w K mg base CX0 2 "_krawtchouk_sums" ["order", "counts"] (spKS K)) :
    FnOk P w K mg base (L2.CX P w) 3 f (PySem.W.fnOf "dual_enumerator" "dual_enumerator" (defArgs s_dual_enumerator) (defBody s_dual_enumerator) (defScope s_dual_enumerator) .none kV doc pm an (.ref c0) ct) ["order", "counts"] (spDual K D Pt) := by
  refine Fun.okCX lk hcd sc_dual_enumerator (fun vs H Q E h => ?_) (fun A outer s H vs Q E hr h => ?_)
  · obtain ⟨_, _, _, rfl, _⟩ := h
    rfl
  obtain ⟨q, a, ns, rfl, hA, hT, hb, k1, k2⟩ := h
  refine ⟨_, (pss_cons (ps_if (pt_not (pt_val (pe_cd D_may_be_counts hr (by rfl) (pa_cons (pv 0) (pa_cons (pv 1) pa_nil)))))
      (pss_one (ps_raise rfl (takes_of rfl rfl rfl rfl) (pmk_own PySem.F.excBase_ValueError TZ.x TZ.g TZ.k (raises_own TZ.b TZ.t) rfl)))
      pss_nil)
    (pss_cons (ps_set (i := 3) sc_dual_enumerator.nd rfl (Or.inr rfl) (pe_callB (cr_sum rfl) (by rfl) T.z_sum (by decide +kernel) (pa_cons (pv 1) pa_nil)))
    (pss_cons (ps_set (i := 2) sc_dual_enumerator.nd rfl (Or.inl rfl) (pe_cd D_krawtchouk_sums hr (by rfl) (pa_cons (pv 0) (pa_cons (pv 1) pa_nil))))
    (pss_cons (ps_if (pt_val ((pe_anyG (P := Pt) (El := ElBad 3) hr (by rfl) T.z_any TB rfl ⟨rfl, rfl, by decide, rfl, rfl, by
          intro y hy hf
          refine ⟨s.heap.objs.size + 1, ?_⟩
          have hy2 : y = (("total" : Str), NameKind.free) := by
            have : ∀ y ∈ ([(".0", NameKind.local), ("item", NameKind.local), ("total", NameKind.free)] : List (Str × NameKind)), y.2 = .free → y = (("total" : Str), NameKind.free) := by
              intro y hy hf
              simp at hy
              rcases hy with rfl | rfl | rfl
              · cases hf
              · cases hf
              · rfl
            exact this y hy hf
          rw [hy2]
          rfl⟩ (pv 2) (fun _ _ _ _ h => elt_bad rfl rfl (by decide) rfl rfl rfl (h := h)) (by intro _; rfl))))
      (pss_one (ps_raise rfl (takes_of rfl rfl rfl rfl) (pmk_own PySem.F.excBase_ValueError TZ.x TZ.g TZ.k (raises_own TZ.b TZ.t) rfl)))
      pss_nil)
    (pss_one (ps_ret (pe_lc (own := [("item", 4)]) (g := (gName 4)) (tt := tYes) rfl sc_dual_enumerator.nd (pi_list (pv 2)) (blkOk_by (own := [("item", 4)]) (N := ["order", "counts", "sums", "total", "item"]) (sc := defScope s_dual_enumerator) (by decide +kernel)) (fun _ _ _ _ _ => (pg_name (i := 4) sc_dual_enumerator.nd rfl (Or.inl rfl))) (fun _ _ _ _ _ => pts_nil) (fun _ _ _ _ _ => pe_op op_fdivW (pv 4) (pv 3))))))))), ?_⟩
  refine q_when (b := !mayC q ns) (et_not (et_B (ev_call (z := .bl (mayC q ns)) (ea_cons (ev_var rfl) (ea_cons (ev_var rfl) ea_nil)) (fun H3 e3 Q3 q3 E3 => ⟨q, a, ns, rfl, ex_l e3 hA, q3⟩)))) (fun hm H1 e1 => ?_) (fun hm H1 e1 => ?_)
  · rw [Bool.not_eq_true'] at hm
    rw [hm] at k2
    exact k2 rfl H1 e1
  rw [Bool.not_eq_false'] at hm
  rw [hm, Bool.true_and] at k1 k2
  obtain ⟨q2, q3, l2, l3, s0⟩ := mayC_sum hm
  refine q_asg (v := .int ns.sum) (ev_cb (ea_cons (ev_var rfl) ea_nil) fun H4 e4 Q4 q4 => ⟨a, ns, rfl, ex_l (e1.trans e4) hA, q4 H4 (Ex.refl _)⟩) fun H2 e2 => ?_
  walk_at "nm"
  refine q_asgL (el_call (ea_cons (ev_var rfl) (ea_cons (ev_var rfl) ea_nil)) (fun H3 e3 Q3 q3' E3 => ⟨q, a, ns, rfl, q2, q3, ex_l ((e1.trans e2).trans e3) hA, by omega, l3, fun x hx => Nat.lt_trans (hb x hx) (Nat.pow_lt_pow_right (by decide) (by decide)), q3'⟩)) fun p H3 np e3 h3 => ?_
  walk_at "nm"
  have e03 := (e1.trans e2).trans e3
  refine q_when (b := dualBad q ns) (et_is (et_B (ev_anyG (El := ElBad 3) (pb := fun v => match v with | .int n => badI ns.sum n | _ => false) (ev_var rfl) (sq_of h3) (e03 _ _ hT) (fun H4 e4 v hv => ?_))) ?_) (fun hb2 H4 e4 => ?_) (fun hb2 H4 e4 => ?_)
  · obtain ⟨n, hn, rfl⟩ := List.mem_map.mp hv
    exact ⟨ns.sum, n, rfl, s0, rfl, rfl⟩
  · exact any_int _ (badI ns.sum) _ fun n => rfl
  · rw [hb2] at k2
    exact k2 rfl H4 (e03.trans e4)
  rw [hb2] at k1
  have hs : ns.sum.natAbs < 2 ^ 400 := by
    have h5 := sum_bd ns fun x hx => Nat.le_of_lt (hb x hx)
    have h6 : ns.length * 2 ^ 390 ≤ 256 * 2 ^ 390 := Nat.mul_le_mul_right _ l3
    have h7 : 256 * 2 ^ 390 < 2 ^ 400 := by decide
    omega
  have hz := el_lcL (K := K) (te := tOp (rI CDivW fun i j => .int (i / j)) (tVar 4) (tVar 3)) (t := tYes) (j := 4) (vs := [4]) (σ := [some (V.int q), some (.ref a), some (.ref p), some (.int ns.sum), none]) (H := H4) (a := p) (xs := (ksum (q - 1) ns).map V.int) (tl := tVar 2) (fun _ => true) (fun i => .int (cf (ksum (q - 1) ns) i / ns.sum)) (ev_var rfl) (sq_of (e4 _ _ h3)) (by rw [List.length_map, ksum_len]; omega) (fun x => rfl) (fun i x H5 e5 hx => et_yes) (fun i x H5 e5 hx _ => by
    obtain rfl := at_cf hx
    exact ev_op (ev_var rfl) (ev_var rfl) (rv_I (wide_div s0 hs (by decide) (by decide))))
  rw [given_map, List.length_map] at hz
  have hmap : (List.range (ksum (q - 1) ns).length).map (fun i => cf (ksum (q - 1) ns) i / ns.sum) = dualL q ns := by
    refine cf_ext (by rw [rng_len]; unfold dualL; rw [List.length_map]) fun i hi => ?_
    rw [rng_len] at hi
    rw [cf_rng, if_pos hi]
    unfold dualL cf
    rw [List.getD_eq_getElem?_getD, List.getD_eq_getElem?_getD, List.getElem?_map, List.getElem?_eq_getElem hi]
    rfl
  rw [hmap] at hz
  exact s_retL hz fun p2 H5 n5 e5 h5 => k1 rfl p2 H5 (fresh_back (e03.trans e4) n5) ((e03.trans e4).trans e5) h5
end
end My
set_option linter.all false
set_option maxRecDepth 100000
set_option maxHeartbeats 1000000
namespace MyZ
open My
/-- the table of products behind i rows and j items of the next one -/
def accL (a b : List Int) (i j : Nat) : List Int := (List.range (a.length + b.length - 1)).map fun k => conv (cf a) (cf b) i k + cf a i * (if i ≤ k ∧ k < i + j then cf b (k - i) else 0)
theorem accL_len (a b : List Int) (i j : Nat) : (accL a b i j).length = a.length + b.length - 1 := by
  unfold accL
  rw [List.length_map, List.length_range]
theorem cf_accL (a b : List Int) (i j : Nat) {k : Nat} (h : k < a.length + b.length - 1) : cf (accL a b i j) k = conv (cf a) (cf b) i k + cf a i * (if i ≤ k ∧ k < i + j then cf b (k - i) else 0) := by
  unfold accL
  rw [cf_rng, if_pos h]
theorem accL_next (a b : List Int) {i j : Nat} (hi : i < a.length) (hj : j < b.length) : (accL a b i j).set (i + j) (cf (accL a b i j) (i + j) + cf a i * cf b j) = accL a b i (j + 1) := by
  refine cf_ext (by rw [List.length_set, accL_len, accL_len]) fun k hk => ?_
  rw [List.length_set, accL_len] at hk
  rw [cf_accL a b i (j + 1) hk]
  have e : cf ((accL a b i j).set (i + j) (cf (accL a b i j) (i + j) + cf a i * cf b j)) k = if k = i + j then cf (accL a b i j) (i + j) + cf a i * cf b j else cf (accL a b i j) k := by
    generalize cf (accL a b i j) (i + j) + cf a i * cf b j = z
    unfold cf
    rw [List.getD_eq_getElem?_getD, List.getElem?_set, accL_len]
    by_cases h : k = i + j
    · rw [if_pos h.symm, if_pos h, if_pos (by omega)]
      rfl
    · rw [if_neg (fun q => h q.symm), if_neg h, List.getD_eq_getElem?_getD]
  rw [e]
  by_cases h : k = i + j
  · subst h
    rw [if_pos rfl, cf_accL a b i j hk, if_neg (by omega), if_pos ⟨by omega, by omega⟩, show i + j - i = j by omega]
    simp
  · rw [if_neg h, cf_accL a b i j hk]
    congr 2
    by_cases h1 : i ≤ k ∧ k < i + j
    · rw [if_pos h1, if_pos ⟨h1.1, by omega⟩]
    · rw [if_neg h1, if_neg (by omega)]
theorem accL_row (a b : List Int) (i : Nat) : accL a b i b.length = accL a b (i + 1) 0 := by
  refine cf_ext (by rw [accL_len, accL_len]) fun k hk => ?_
  rw [accL_len] at hk
  rw [cf_accL a b i b.length hk, cf_accL a b (i + 1) 0 hk]
  show _ = conv (cf a) (cf b) i k + cf a i * sh i (cf b) k + _
  rw [if_neg (show ¬(i + 1 ≤ k ∧ k < i + 1 + 0) by omega)]
  unfold sh
  by_cases h1 : k < i
  · rw [if_neg (by omega), if_pos h1]
    simp
  · rw [if_neg h1]
    by_cases h2 : k < i + b.length
    · rw [if_pos ⟨by omega, h2⟩]
      simp
    · rw [if_neg (by omega), cf_out (xs := b) (by omega)]
      simp
theorem accL_zero (a b : List Int) : accL a b 0 0 = List.replicate (a.length + b.length - 1) 0 := by
  refine cf_ext (by rw [accL_len, List.length_replicate]) fun k hk => ?_
  rw [accL_len] at hk
  rw [cf_accL a b 0 0 hk, if_neg (by omega)]
  have e : cf (List.replicate (a.length + b.length - 1) (0 : Int)) k = 0 := by
    unfold cf
    rw [List.getD_eq_getElem?_getD, List.getElem?_replicate, if_pos hk]
    rfl
  rw [e]
  show (0 : Int) + _ * 0 = 0
  grind
theorem acc_mul (a b : List Int) : accL a b a.length 0 = mulZ a b := by
  refine cf_ext (by rw [accL_len, mulZ_len]) fun k hk => ?_
  rw [accL_len] at hk
  rw [cf_accL a b a.length 0 hk, if_neg (by omega), Int.mul_zero, Int.add_zero]
  unfold mulZ
  rw [cf_rng, if_pos hk]
theorem repZ_len (f : List Int) (hf : f.length = 2) : ∀ n, (repZ f n).length = n + 1
  | 0 => rfl
  | n + 1 => by
    show (mulZ (repZ f n) f).length = _
    rw [mulZ_len, repZ_len f hf n, hf]
    omega
theorem po_pair (s : Int) : po [1, s] = ln s := ps_ext fun k => by
  have h := ln_mul s 1 k
  rw [show ln s * 1 = ln s by grind, ps1_at] at h
  rw [h]
  unfold dl
  match k with
  | 0 => show (1 : Int) = 1 + s * 0; omega
  | 1 =>
    show s = 0 + s * (1 : Ps).at' 0
    rw [ps1_at]
    unfold dl
    simp
  | k + 2 =>
    rw [if_neg (by omega), if_neg (by omega), show k + 2 - 1 = k + 1 from rfl, ps1_at]
    unfold dl
    rw [if_neg (by omega)]
    refine (cf_out (xs := [1, s]) (i := k + 2) (by show 2 ≤ k + 2; omega)).trans ?_
    omega
theorem po_rep (s : Int) : ∀ n, po (repZ [1, s] n) = ln s ^ n
  | 0 => by
    show po [1] = _
    rw [po_one, Lean.Grind.Semiring.pow_zero]
  | n + 1 => by
    show po (mulZ (repZ [1, s] n) [1, s]) = _
    rw [po_mulZ (by rw [repZ_len _ rfl]; omega) (by show 0 < 2; omega), po_rep s n, po_pair, Lean.Grind.Semiring.pow_succ]
theorem cf_rep (s : Int) (n k : Nat) : cf (repZ [1, s] n) k = (ln s ^ n).at' k := by rw [← po_rep]; rfl
theorem rep_bd {s : Int} (hs : s.natAbs ≤ 255) (n : Nat) (x : Int) (hx : x ∈ repZ [1, s] n) : x.natAbs < 2 ^ (8 * n + 1) := by
  obtain ⟨i, _, e⟩ := mem_cf hx
  rw [e, cf_rep]
  exact pw_bd hs n i
theorem num_cf {s : Int} {n k x : Nat} (hx : x ≤ n) : cf (mulZ (repZ [1, s] (n - x)) (repZ [1, -1] x)) k = gk s (n - x) x k := by
  rw [cf_mulZ (by rw [repZ_len _ rfl]; omega) (by rw [repZ_len _ rfl]; omega)]
  unfold gk
  rw [psm_at, ← po_rep, ← po_rep]
  rfl
/-- a list's greatest item is bounded by a product's -/
theorem conv_bd {f g : Nat → Int} {A B : Nat} (hf : ∀ i, (f i).natAbs ≤ A) (hg : ∀ i, (g i).natAbs ≤ B) (k : Nat) : ∀ n, (conv f g n k).natAbs ≤ n * (A * B)
  | 0 => by show 0 ≤ _; omega
  | n + 1 => by
    show (conv f g n k + f n * sh n g k).natAbs ≤ _
    have h1 := conv_bd hf hg k n
    have h2 : (f n * sh n g k).natAbs ≤ A * B := by
      rw [Int.natAbs_mul]
      refine Nat.mul_le_mul (hf n) ?_
      unfold sh
      split
      · exact Nat.zero_le _
      · exact hg _
    have h3 := Int.natAbs_add_le (conv f g n k) (f n * sh n g k)
    rw [Nat.add_mul, Nat.one_mul]
    omega
theorem cf_bd {a : List Int} {A : Nat} (h : ∀ x ∈ a, x.natAbs ≤ A) (i : Nat) : (cf a i).natAbs ≤ A := by
  unfold cf
  rw [List.getD_eq_getElem?_getD]
  cases e : a[i]? with
  | none => exact Nat.zero_le _
  | some x => exact h x (List.mem_of_getElem? e)
theorem mul_bd {a b : List Int} {A B : Nat} (h1 : ∀ x ∈ a, x.natAbs ≤ A) (h2 : ∀ x ∈ b, x.natAbs ≤ B) : ∀ x ∈ mulZ a b, x.natAbs ≤ a.length * (A * B) := fun x hx => by
  unfold mulZ at hx
  obtain ⟨k, _, rfl⟩ := List.mem_map.mp hx
  exact conv_bd (cf_bd h1) (cf_bd h2) k a.length
theorem blk_bd : (orders.all fun q => (List.range 4).all fun s => (List.range 4).all fun k => (blk q (s + 1) k).1.all (fun x => decide (x.natAbs ≤ 2 ^ 34)) && (blk q (s + 1) k).2.all (fun x => decide (x.natAbs ≤ 2 ^ 34))) = true := by decide +kernel
theorem blk_le {q : Int} (hq : q ∈ orders) {s k : Nat} (hs : 1 ≤ s ∧ s ≤ 4) (hk : k < 4) : (∀ x ∈ (blk q s k).1, x.natAbs ≤ 2 ^ 34) ∧ ∀ x ∈ (blk q s k).2, x.natAbs ≤ 2 ^ 34 := by
  have h := List.all_eq_true.mp blk_bd q hq
  have h1 := List.all_eq_true.mp h (s - 1) (List.mem_range.mpr (by omega))
  have h2 := List.all_eq_true.mp h1 k (List.mem_range.mpr hk)
  rw [show s - 1 + 1 = s by omega, Bool.and_eq_true, List.all_eq_true, List.all_eq_true] at h2
  exact ⟨fun x hx => of_decide_eq_true (h2.1 x hx), fun x hx => of_decide_eq_true (h2.2 x hx)⟩
theorem cho_small : ∀ m : Fin 17, ∀ i : Fin 17, (cho m.1 i.1).natAbs < 2 ^ 30 := by decide +kernel
/-- the law's sum over all places -/
theorem law_sum {s : Int} {n k x : Nat} (hn : n < 17) (hk : k < 17) (hx : x < 17) : sumN (fun i => (ln s ^ n).at' i * krS s n k i * krS s n x i) (n + 1) = if k = x then (s + 1) ^ n * (ln s ^ n).at' k else 0 := by
  rw [← ortho s n k x, ← phi_sum]
  refine sumN_congr _ fun i hi => ?_
  rw [krS_gk hn hk (by omega), krS_gk hn hx (by omega), Int.mul_assoc]
theorem kr255 (s : Int) (x : Nat) (hx : x ≤ 255) : krS s 255 0 x = 1 ∧ krS s 255 1 x = 255 * s - (s + 1) * x := by
  have c0 : ∀ m : Nat, cho m 0 = 1 := fun m => by
    unfold cho
    rw [if_neg (by omega)]
    exact (PySem.W.mc_comb_known (by omega) (by omega)).2.2.2.1 rfl
  have c1 : ∀ m : Nat, cho m 1 = (m : Int) := fun m => by
    unfold cho
    have h := PySem.W.mc_comb_known (a := (m : Int)) (b := ((1 : Nat) : Int)) (by omega) (by omega)
    split
    · omega
    · exact h.2.2.2.2.2.1 rfl
  refine ⟨?_, ?_⟩
  · unfold krS
    rw [krT_next _ _ _ _ _ (Nat.le_refl 0), c0, if_pos rfl, Nat.sub_zero, c0, Int.pow_zero]
    rfl
  · unfold krS
    rw [krT_next _ _ _ _ _ (Nat.le_refl 1), krT_next _ _ _ _ _ (Nat.zero_le 1), if_neg (show ¬ (1 % 2 = 0) by decide), if_pos (show 0 % 2 = 0 by decide), c0, c1, Nat.sub_zero, Nat.sub_self, c0, c1, Int.pow_zero, show s ^ 1 = s from Int.pow_succ s 0 ▸ by rw [Int.pow_zero, Int.one_mul]]
    show 0 + 1 * ((255 - x : Nat) : Int) * s + -((x : Int) * 1 * 1) = _
    rw [show ((255 - x : Nat) : Int) = 255 - (x : Int) by omega]
    grind
end MyZ
set_option Elab.async false
set_option linter.all false
set_option maxRecDepth 100000
set_option maxHeartbeats 1000000
namespace My
open PySem PySem.Spec PyProof.Rows L2 L2H Evl GxR MyG MyZ
local macro_rules | `(tactic| walk_at "ev") => `(tactic| repeat' (first
  | exact ev_c
  | exact ev_var rfl
  | exact ea_nil
  | exact eo_none
  | (refine' ev_cb ?ea (rc_len ?sq); (case ea => walk_at "evs"); (case sq => walk_at "sq"))
  | (refine' ev_op ?a ?b (rv_ixL ?sq ?ix); (case a => walk_at "evs"); (case b => walk_at "evs"); (case sq => walk_at "sq"); (case ix => walk_at "at"))
  | refine' ea_cons ?_ ?_
  | refine' eo_some ?_
  | refine' ev_op ?_ ?_ rv_I0
  | refine' ev_op ?_ ?_ (rv_eq ?_)
  | refine' ev_op ?_ ?_ (rv_ne ?_)
  | refine' ev_op ?_ ?_ (rv_I ?_)
  | refine' ev_un ?_ ru_neg
  | refine' ev_cb ?_ rc_int
  | refine' ev_cb ?_ rc_abs
  | refine' ev_cb ?_ rc_max2
  | refine' ev_andV ?_ ?_
  | refine' ev_notV ?_
  | refine' et_test ?_
  | refine' et_B ?_
  | refine' et_not ?_))
local macro_rules | `(tactic| walk_at "side") => `(tactic| first
  | rfl
  | decide
  | exact ⟨by decide, by decide⟩
  | exact .inr ⟨by decide, by decide⟩
  | exact .inl ⟨by decide, by decide⟩
  | omega
  | exact .inl ⟨by omega, by omega⟩
  | exact ⟨by omega, by omega⟩
  | exact .inr ⟨by omega, by omega⟩)
local macro_rules | `(tactic| walk_at "evs") => `(tactic| (walk_at "ev"; all_goals (walk_at "side")))
local macro_rules | `(tactic| walk_at "ex") => `(tactic| first
  | with_reducible exact Ex.refl _
  | with_reducible assumption
  | (refine' Ex.trans ?_ ?b; (case b => with_reducible assumption); walk_at "ex"))
local macro_rules | `(tactic| walk_at "sq") => `(tactic| first
  | (refine' sq_ex ?h ?e; (case h => with_reducible assumption); (case e => walk_at "ex"))
  | (refine' ex_l ?e ?h; (case h => with_reducible assumption); (case e => walk_at "ex"))
  | (refine' ex_l ?e ?h; (case h => assumption); (case e => walk_at "ex"))
  | assumption
  | exact sq_of (by assumption))
local macro_rules | `(tactic| walk_at "at") => `(tactic| first
  | exact at_int (by omega) (by omega)
  | exact atI_nat (j := 0) rfl
  | exact atI_nat (j := 1) rfl
  | exact atI_nat (j := 2) rfl)
local macro_rules | `(tactic| walk_at "side2") => `(tactic| first | exact CMul_bdl (by assumption) | exact CMul_bdr (by assumption) | walk_at "side")
local macro_rules | `(tactic| walk_at "evb") => `(tactic| (walk_at "ev"; all_goals (walk_at "side2")))

local macro_rules | `(tactic| walk_at "nm") => `(tactic| (try simp only [List.set_cons_zero, List.set_cons_succ]))
section
variable {K : PySem.W.Frag} {σ : L2.St} {H : Hp} {tn tb te : TE}
theorem el_zeros {n : Nat} (hn : Ev tn σ H (.int (n : Int))) (hz : n ≤ 40000) : EvL (tOp rRep (tLst (tCons (tC (.int 0)) tNil)) tn) σ H ((List.replicate n (0 : Int)).map V.int) := by
  intro H1 e Q q
  refine ⟨by show 1 ≤ sizeLine; exact sz_of (by decide), fun r nr => ?_⟩
  refine hn _ (e.trans (Ex.new nr)) _ fun H2 e2 => ?_
  refine ⟨r, (n : Int), _, rfl, rfl, e2 _ _ upd_same, by omega, by omega, ?_, fun r2 nr2 => ?_⟩
  · show 1 * (n : Int).toNat ≤ sizeLine
    exact sz_of (by omega)
  have hf : ∀ n : Nat, (List.replicate n [V.int 0]).flatten = (List.replicate n (0 : Int)).map V.int := by
    intro n
    induction n with
    | zero => rfl
    | succ n ih => rw [List.replicate_succ, List.flatten_cons, ih, List.replicate_succ]; rfl
  rw [show ((n : Int).toNat) = n by omega, hf]
  exact q r2 _ (fresh_back ((Ex.new nr).trans e2) nr2) (((Ex.new nr).trans e2).trans (Ex.new nr2)) upd_same
/-- a call whose first argument is a new list | both arguments new lists -/
theorem el_callLn {sp : Sp} {E : XK} {xs ys : List V} {y : V} (h : EvL te σ H xs) (h2 : Ev tb σ H y) (hs : ∀ p H1, Ex H H1 → H1 p = some (.lst xs) → ∀ Q : VK, RetL ys H1 Q → ∀ E, sp [.ref p, y] H1 Q E) : EvL (tCall sp [] E (tCons te (tCons tb tNil))) σ H ys := fun H1 e Q q =>
  h H1 e _ fun p H2 np e2 hp => h2 H2 (e.trans e2) _ fun H3 e3 => by
    show sp ([V.ref p, y] ++ []) H3 Q E
    rw [List.append_nil]
    exact hs p H3 (e.trans (e2.trans e3)) (e3 _ _ hp) Q (fun r H4 nr e4 hr => q r H4 (fresh_back (e2.trans e3) nr) ((e2.trans e3).trans e4) hr) E
theorem el_callLL {sp : Sp} {E : XK} {xs ys zs : List V} (h : EvL te σ H xs) (h2 : EvL tb σ H ys) (hs : ∀ p r H1, Ex H H1 → H1 p = some (.lst xs) → H1 r = some (.lst ys) → ∀ Q : VK, RetL zs H1 Q → ∀ E, sp [.ref p, .ref r] H1 Q E) : EvL (tCall sp [] E (tCons te (tCons tb tNil))) σ H zs := fun H1 e Q q =>
  h H1 e _ fun p H2 np e2 hp => h2 H2 (e.trans e2) _ fun r H3 nr e3 hr => by
    show sp ([V.ref p, V.ref r] ++ []) H3 Q E
    rw [List.append_nil]
    exact hs p r H3 (e.trans (e2.trans e3)) (e3 _ _ hp) hr Q (fun t H4 nt e4 ht => q t H4 (fresh_back (e2.trans e3) nt) ((e2.trans e3).trans e4) ht) E
theorem map_setI {ns : List Int} {j : Nat} {z : Int} : (ns.map V.int).set j (.int z) = (ns.set j z).map V.int := by rw [List.map_set]
theorem atN {ns : List Int} {j : Nat} (h : j < ns.length) : atI (ns.map V.int) (j : Int) = some (.int (cf ns j)) := at_int (z := (j : Int)) (by omega) (by omega)
end
section
variable {P : Program} {w : World} {K : PySem.W.Frag} {mg : Str → Option Value} {base : Heap}
/-! _law_product: 0 first, 1 second, 2 result, 3 i, 4 j -/
abbrev s_law_product : Stmt := topS 21
theorem sc_law_product : FnScope ["first", "second", "result", "i", "j"] ["first", "second"] (defScope s_law_product) := ⟨rfl, rfl, rfl, by decide +kernel, rfl, by decide +kernel, by decide +kernel⟩
def spProd (K : PySem.W.Frag) : Sp := fun vs H Q _ => ∃ (a b : Addr) (xs ys : List Int), vs = [.ref a, .ref b] ∧ SqL K H a (xs.map V.int) ∧ SqL K H b (ys.map V.int) ∧ 1 ≤ xs.length ∧ 1 ≤ ys.length ∧ xs.length ≤ 300 ∧ ys.length ≤ 300 ∧ (∀ x ∈ xs, x.natAbs < 2 ^ 400) ∧ (∀ x ∈ ys, x.natAbs < 2 ^ 400) ∧ RetL ((mulZ xs ys).map V.int) H Q
theorem ok_prod {f : Addr} {fd : FuncData} (F : Fun K "_law_product" "_law_product" s_law_product f fd) (T : FTxt mg) : FnOk P w K mg base CX0 1 f fd ["first", "second"] (spProd K) := by
  refine F.ok sc_law_product (fun vs H Q E h => ?_) (fun cdv A outer s H vs Q E hr h => ?_)
  · obtain ⟨_, _, _, _, rfl, _⟩ := h
    rfl
  obtain ⟨a, b, xs, ys, rfl, hA, hB, x1, y1, x3, y3, bx, bby, k⟩ := h
  refine ⟨_, (pss_cons (ps_set (i := 2) sc_law_product.nd rfl (Or.inl rfl) (pe_op op_rep (pe_lst (pa_cons pe_int pa_nil)) (pe_op op_sub (pe_op op_add (pe_callB call_len_seq (by rfl) T.z_len PySem.boot_len (pa_cons (pv 0) pa_nil)) (pe_callB call_len_seq (by rfl) T.z_len PySem.boot_len (pa_cons (pv 1) pa_nil))) pe_int)))
    (pss_cons (ps_for PassesOwn.never rfl (pi_range1 (by rfl) T.z_range (pa_cons (pe_callB call_len_seq (by rfl) T.z_len PySem.boot_len (pa_cons (pv 0) pa_nil)) pa_nil)) (pg_name (i := 3) sc_law_product.nd rfl (Or.inl rfl))
      (pss_one (ps_for PassesOwn.never rfl (pi_range1 (by rfl) T.z_range (pa_cons (pe_callB call_len_seq (by rfl) T.z_len PySem.boot_len (pa_cons (pv 1) pa_nil)) pa_nil)) (pg_name (i := 4) sc_law_product.nd rfl (Or.inl rfl))
        (pss_one (ps_asg (pe_op op_add (pe_ix ix_list (pv 2) (pe_op op_add (pv 3) (pv 4)) (fun _ _ => rfl)) (pe_op op_mulW (pe_ix ix_list (pv 0) (pv 3) (fun _ _ => rfl)) (pe_ix ix_list (pv 1) (pv 4) (fun _ _ => rfl)))) (pg_sub (pv 2) (pe_op op_add (pv 3) (pv 4)) set_list))))))
    (pss_one (ps_ret (pv 2))))), ?_⟩
  have lx : ∀ {σ : L2.St} {H1 : Hp}, Ex H H1 → σ[0]? = some (some (.ref a)) → Ev (tCB (fun xs H Q => ∃ p ys, xs = [.ref p] ∧ (SqL K H p ys ∨ SqT K H p ys) ∧ Q (.int ys.length) H) (tCons (tVar 0) tNil)) σ H1 (.int (xs.length : Int)) := fun e1 h1 => ev_is (ev_cb (ea_cons (ev_var h1) ea_nil) (rc_len (ex_l e1 hA))) (by rw [List.length_map])
  have ly : ∀ {σ : L2.St} {H1 : Hp}, Ex H H1 → σ[1]? = some (some (.ref b)) → Ev (tCB (fun xs H Q => ∃ p ys, xs = [.ref p] ∧ (SqL K H p ys ∨ SqT K H p ys) ∧ Q (.int ys.length) H) (tCons (tVar 1) tNil)) σ H1 (.int (ys.length : Int)) := fun e1 h1 => ev_is (ev_cb (ea_cons (ev_var h1) ea_nil) (rc_len (ex_l e1 hB))) (by rw [List.length_map])
  refine q_asgL (el_zeros (n := xs.length + ys.length - 1) (ev_is (ev_op (ev_op (lx (Ex.refl _) rfl) (ly (Ex.refl _) rfl) rv_I0) ev_c rv_I0) (congrArg V.int (by omega))) (by omega)) fun p H1 np e1 h1 => ?_
  walk_at "nm"
  refine q_forR1 (n := (xs.length : Int)) (ea_cons (lx e1 rfl) ea_nil) ⟨by omega, by omega⟩ (fun i σ' H' => ∃ y3 y4, σ' = [some (.ref a), some (.ref b), some (.ref p), y3, y4] ∧ Ex H H' ∧ H' p = some (.lst ((accL xs ys i 0).map V.int))) ?_ ?_ ?_
  · intro H2 e2
    refine ⟨none, none, rfl, e1.trans e2, ?_⟩
    rw [accL_zero]
    exact e2 _ _ h1
  · rintro i σ' H' hi ⟨y3, y4, rfl, ex, hp⟩
    walk_at "nm"
    refine s_forR1 (n := (ys.length : Int)) (ea_cons (ly ex rfl) ea_nil) ⟨by omega, by omega⟩ (fun j σ' H' => ∃ y4, σ' = [some (.ref a), some (.ref b), some (.ref p), some (.int (i : Int)), y4] ∧ Ex H H' ∧ H' p = some (.lst ((accL xs ys i j).map V.int))) ?_ ?_ ?_
    · intro H2 e2
      exact ⟨_, rfl, ex.trans e2, e2 _ _ hp⟩
    · rintro j σ' H' hj ⟨y4, rfl, ex, hp⟩
      walk_at "nm"
      have hix : i < xs.length := by omega
      have hjy : j < ys.length := by omega
      have hl := accL_len xs ys i j
      have b1 := cf_bd (A := 2 ^ 400) (fun x hx => Nat.le_of_lt (bx x hx)) i
      have b2 := cf_bd (A := 2 ^ 400) (fun x hx => Nat.le_of_lt (bby x hx)) j
      have b1' : (cf xs i).natAbs < 2 ^ 401 := Nat.lt_of_le_of_lt b1 (by decide)
      have b2' : (cf ys j).natAbs < 2 ^ 401 := Nat.lt_of_le_of_lt b2 (by decide)
      refine s_setL (j := i + j) hp (v := .int (cf (accL xs ys i j) (i + j) + cf xs i * cf ys j)) (ev_op (ev_op (ev_var rfl) (ev_op (ev_var rfl) (ev_var rfl) rv_I0) (rv_ixL (sq_of hp) (by rw [show ((i : Int) + (j : Int)) = ((i + j : Nat) : Int) by omega]; exact atN (by omega)))) (ev_op (ev_op (ev_var rfl) (ev_var rfl) (rv_ixL (ex_l ex hA) (atN hix))) (ev_op (ev_var rfl) (ev_var rfl) (rv_ixL (ex_l ex hB) (atN hjy))) (rv_I (wide_mul b1' b2' (by decide) (by decide) (by decide)))) rv_I0) (ev_var rfl) (ev_is (ev_op (ev_var rfl) (ev_var rfl) rv_I0) (by congr 1)) (by rw [List.length_map]; omega) fun H2 e2 => ?_
      refine ⟨_, rfl, Ex.mut (ex.trans e2) np, ?_⟩
      rw [upd_same, map_setI, accL_next xs ys hix hjy]
    · rintro σ' H' ⟨y4, rfl, ex, hp⟩
      refine ⟨_, _, rfl, ex, ?_⟩
      rw [show ((ys.length : Int).toNat) = ys.length by omega, accL_row] at hp
      exact hp
  · rintro σ' H' ⟨y3, y4, rfl, ex, hp⟩
    rw [show ((xs.length : Int).toNat) = xs.length by omega, acc_mul] at hp
    exact s_ret (ev_var rfl) fun H2 e2 => k p H2 np (ex.trans e2) (e2 _ _ hp)
/-! _law_repeated: 0 factor, 1 times, 2 result, 3 k -/
abbrev s_law_repeated : Stmt := topS 22
theorem sc_law_repeated : FnScope ["factor", "times", "result", "k"] ["factor", "times"] (defScope s_law_repeated) := ⟨rfl, rfl, rfl, by decide +kernel, rfl, by decide +kernel, by decide +kernel⟩
def spRep (K : PySem.W.Frag) : Sp := fun vs H Q _ => ∃ (a : Addr) (s : Int) (n : Nat), vs = [.ref a, .int (n : Int)] ∧ SqL K H a [.int 1, .int s] ∧ s.natAbs ≤ 255 ∧ n ≤ 20 ∧ RetL ((repZ [1, s] n).map V.int) H Q
theorem ok_rep {f : Addr} {fd : FuncData} (F : Fun K "_law_repeated" "_law_repeated" s_law_repeated f fd) (T : FTxt mg) (D_law_product : Dk P w K mg base CX0 1 "_law_product" ["first", "second"] (spProd K)) : FnOk P w K mg base CX0 2 f fd ["factor", "times"] (spRep K) := by
  refine F.ok sc_law_repeated (fun vs H Q E h => ?_) (fun cdv A outer s H vs Q E hr h => ?_)
  · obtain ⟨_, _, _, rfl, _⟩ := h
    rfl
  obtain ⟨a, sl, n, rfl, hA, hs, hn, k⟩ := h
  refine ⟨_, (pss_cons (ps_set (i := 2) sc_law_repeated.nd rfl (Or.inl rfl) (pe_lst (pa_cons pe_int pa_nil)))
    (pss_cons (ps_for PassesOwn.never rfl (pi_range1 (by rfl) T.z_range (pa_cons (pv 1) pa_nil)) (pg_name (i := 3) sc_law_repeated.nd rfl (Or.inl rfl))
      (pss_one (ps_set (i := 2) sc_law_repeated.nd rfl (Or.inl rfl) (pe_cd D_law_product hr (by rfl) (pa_cons (pv 2) (pa_cons (pv 0) pa_nil))))))
    (pss_one (ps_ret (pv 2))))), ?_⟩
  refine q_asgL (xs := [V.int 1]) (el_lst (ea_cons ev_c ea_nil) (by decide)) fun p H1 np e1 h1 => ?_
  walk_at "nm"
  refine q_forR1 (n := (n : Int)) (ea_cons (ev_var rfl) ea_nil) ⟨by omega, by omega⟩ (fun i σ' H' => ∃ (p : Addr) (y3 : Option V), σ' = [some (.ref a), some (.int (n : Int)), some (.ref p), y3] ∧ H p = none ∧ Ex H H' ∧ H' p = some (.lst ((repZ [1, sl] i).map V.int))) ?_ ?_ ?_
  · intro H2 e2
    exact ⟨p, none, rfl, np, e1.trans e2, e2 _ _ h1⟩
  · rintro i σ' H' hi ⟨p, y3, rfl, np, ex, hp⟩
    walk_at "nm"
    refine s_asgL (el_call (ea_cons (ev_var rfl) (ea_cons (ev_var rfl) ea_nil)) (fun H3 e3 Q3 q3 E3 => ⟨p, a, repZ [1, sl] i, [1, sl], rfl, sq_of (e3 _ _ hp), ex_l (ex.trans e3) hA, by rw [repZ_len _ rfl]; omega, by show 1 ≤ 2; omega, by rw [repZ_len _ rfl]; omega, by show 2 ≤ 300; omega, fun x hx => Nat.lt_of_lt_of_le (rep_bd hs i x hx) (Nat.pow_le_pow_right (by decide) (by omega)), fun x hx => ?_, q3⟩)) fun p2 H3 n3 e3 h3 => ⟨p2, _, rfl, fresh_back ex n3, ex.trans e3, h3⟩
    rcases List.mem_cons.mp hx with z | z
    · rw [z]; exact Nat.one_lt_two_pow (by decide)
    · rw [List.mem_singleton.mp z]; exact Nat.lt_of_le_of_lt hs (by decide)
  · rintro σ' H' ⟨p, y3, rfl, np, ex, hp⟩
    rw [show ((n : Int).toNat) = n by omega] at hp
    exact s_ret (ev_var rfl) fun H2 e2 => k p H2 np (ex.trans e2) (e2 _ _ hp)
/-! _law_number: 0 order, 1 length, 2 k, 3 x -/
abbrev s_law_number : Stmt := topS 23
theorem sc_law_number : FnScope ["order", "length", "k", "x"] ["order", "length", "k", "x"] (defScope s_law_number) := ⟨rfl, rfl, rfl, by decide +kernel, rfl, by decide +kernel, by decide +kernel⟩
def spNum (K : PySem.W.Frag) : Sp := fun vs H Q _ => ∃ (q : Int) (n kk x : Nat), vs = [.int q, .int (n : Int), .int (kk : Int), .int (x : Int)] ∧ 2 ≤ q ∧ q ≤ 256 ∧ x ≤ n ∧ n ≤ 16 ∧ kk ≤ n ∧ RetV (.int (gk (q - 1) (n - x) x kk)) H Q
theorem ok_num {f : Addr} {fd : FuncData} (F : Fun K "_law_number" "_law_number" s_law_number f fd) (T : FTxt mg) (D_law_product : Dk P w K mg base CX0 2 "_law_product" ["first", "second"] (spProd K)) (D_law_repeated : Dk P w K mg base CX0 2 "_law_repeated" ["factor", "times"] (spRep K)) : FnOk P w K mg base CX0 3 f fd ["order", "length", "k", "x"] (spNum K) := by
  refine F.ok sc_law_number (fun vs H Q E h => ?_) (fun cdv A outer s H vs Q E hr h => ?_)
  · obtain ⟨_, _, _, _, rfl, _⟩ := h
    rfl
  obtain ⟨q, n, kk, x, rfl, q2, q3, hx, hn, hk, k⟩ := h
  refine ⟨_, (pss_one (ps_ret (pe_ix ix_list (pe_cd D_law_product hr (by rfl) (pa_cons (pe_cd D_law_repeated hr (by rfl) (pa_cons (pe_lst (pa_cons pe_int (pa_cons (pe_op op_sub (pv 0) pe_int) pa_nil))) (pa_cons (pe_op op_sub (pv 1) (pv 3)) pa_nil))) (pa_cons (pe_cd D_law_repeated hr (by rfl) (pa_cons (pe_lst (pa_cons pe_int (pa_cons (pe_un un_neg pe_int) pa_nil))) (pa_cons (pv 3) pa_nil))) pa_nil))) (pv 2) (fun _ _ => rfl)))), ?_⟩
  have e0 : ((n : Int) - (x : Int)) = ((n - x : Nat) : Int) := by omega
  have bd : ∀ (s : Int) (m : Nat), s.natAbs ≤ 255 → m ≤ 16 → ∀ y ∈ repZ [1, s] m, y.natAbs < 2 ^ 400 := fun s m hs hm y hy => Nat.lt_of_lt_of_le (rep_bd hs m y hy) (Nat.pow_le_pow_right (by decide) (by omega))
  refine s_ret (ev_opL1 (xs := (mulZ (repZ [1, q - 1] (n - x)) (repZ [1, -1] x)).map V.int) (el_callLL (xs := (repZ [1, q - 1] (n - x)).map V.int) (ys := (repZ [1, -1] x).map V.int)
    (el_callLn (xs := [V.int 1, V.int (q - 1)]) (el_lst (ea_cons ev_c (ea_cons (ev_op (ev_var rfl) ev_c rv_I0) ea_nil)) (by show 2 ≤ 100000; decide)) (ev_is (ev_op (ev_var rfl) (ev_var rfl) rv_I0) (congrArg V.int e0)) (fun p H1 e1 h1 Q1 q1 E1 => ⟨p, q - 1, n - x, rfl, sq_of h1, by omega, by omega, q1⟩))
    (el_callLn (xs := [V.int 1, V.int (-1)]) (el_lst (ea_cons ev_c (ea_cons (ev_un ev_c ru_neg) ea_nil)) (by show 2 ≤ 100000; decide)) (ev_var rfl) (fun p H1 e1 h1 Q1 q1 E1 => ⟨p, -1, x, rfl, sq_of h1, by decide, by omega, q1⟩))
    (fun p r H1 e1 h1 h2 Q1 q1 E1 => ⟨p, r, _, _, rfl, sq_of h1, sq_of h2, by rw [repZ_len _ rfl]; omega, by rw [repZ_len _ rfl]; omega, by rw [repZ_len _ rfl]; omega, by rw [repZ_len _ rfl]; omega, bd _ _ (by omega) (by omega), bd _ _ (by decide) (by omega), q1⟩)) (fun H1 e1 => ev_var rfl) (fun p H1 h1 e1 => rv_ixL (sq_of h1) (atN (by rw [mulZ_len, repZ_len _ rfl, repZ_len _ rfl]; omega)))) fun H2 e2 => ?_
  rw [num_cf hx]
  exact k H2 e2
end
end My
set_option Elab.async false
set_option linter.all false
set_option maxRecDepth 100000
set_option maxHeartbeats 2000000
namespace My
open PySem L2 Evl GxR MyG MyZ
local macro_rules | `(tactic| walk_at "ev") => `(tactic| repeat' (first
  | exact ev_c
  | exact ev_var rfl
  | exact ea_nil
  | exact eo_none
  | (refine' ev_cb ?ea (rc_len ?sq); (case ea => walk_at "evs"); (case sq => walk_at "sq"))
  | (refine' ev_op ?a ?b (rv_ixL ?sq ?ix); (case a => walk_at "evs"); (case b => walk_at "evs"); (case sq => walk_at "sq"); (case ix => walk_at "at"))
  | refine' ea_cons ?_ ?_
  | refine' eo_some ?_
  | refine' ev_op ?_ ?_ rv_I0
  | refine' ev_op ?_ ?_ (rv_eq ?_)
  | refine' ev_op ?_ ?_ (rv_ne ?_)
  | refine' ev_op ?_ ?_ (rv_I ?_)
  | refine' ev_un ?_ ru_neg
  | refine' ev_cb ?_ rc_int
  | refine' ev_cb ?_ rc_abs
  | refine' ev_cb ?_ rc_max2
  | refine' ev_andV ?_ ?_
  | refine' ev_notV ?_
  | refine' et_test ?_
  | refine' et_B ?_
  | refine' et_not ?_))
local macro_rules | `(tactic| walk_at "side") => `(tactic| first
  | rfl
  | decide
  | exact ⟨by decide, by decide⟩
  | exact .inr ⟨by decide, by decide⟩
  | exact .inl ⟨by decide, by decide⟩
  | omega
  | exact .inl ⟨by omega, by omega⟩
  | exact ⟨by omega, by omega⟩
  | exact .inr ⟨by omega, by omega⟩)
local macro_rules | `(tactic| walk_at "evs") => `(tactic| (walk_at "ev"; all_goals (walk_at "side")))
local macro_rules | `(tactic| walk_at "ex") => `(tactic| first
  | with_reducible exact Ex.refl _
  | with_reducible assumption
  | (refine' Ex.trans ?_ ?b; (case b => with_reducible assumption); walk_at "ex"))
local macro_rules | `(tactic| walk_at "sq") => `(tactic| first
  | (refine' sq_ex ?h ?e; (case h => with_reducible assumption); (case e => walk_at "ex"))
  | (refine' ex_l ?e ?h; (case h => with_reducible assumption); (case e => walk_at "ex"))
  | (refine' ex_l ?e ?h; (case h => assumption); (case e => walk_at "ex"))
  | assumption
  | exact sq_of (by assumption))
local macro_rules | `(tactic| walk_at "at") => `(tactic| first
  | exact at_int (by omega) (by omega)
  | exact atI_nat (j := 0) rfl
  | exact atI_nat (j := 1) rfl
  | exact atI_nat (j := 2) rfl)
local macro_rules | `(tactic| walk_at "side2") => `(tactic| first | exact CMul_bdl (by assumption) | exact CMul_bdr (by assumption) | walk_at "side")
local macro_rules | `(tactic| walk_at "evb") => `(tactic| (walk_at "ev"; all_goals (walk_at "side2")))

section
variable {P : Program} {w : World} {K : PySem.W.Frag} {mg : Str → Option Value} {base : Heap}
/-! _law_row: 0 cell, 1 many, 2 row, 3 rest, 4 state, 5 k -/
abbrev s_law_row : Stmt := topS 18
theorem sc_law_row : FnScope ["cell", "many", "row", "rest", "state", "k"] ["cell", "many"] (defScope s_law_row) := ⟨rfl, rfl, rfl, by decide +kernel, rfl, by decide +kernel, by decide +kernel⟩
def spRow : Sp := fun vs H Q _ => ∃ (c m : Int), vs = [.int c, .int m] ∧ 0 ≤ m ∧ m ≤ 2000 ∧
  ∀ (ns : List Int) p H2, (ns.length : Int) = m → Bd ns → H p = none → Ex H H2 → H2 p = some (.lst (ns.map V.int)) → Q (.ref p) H2
theorem ok_row {f : Addr} {fd : FuncData} (F : Fun K "_law_row" "_law_row" s_law_row f fd) (T : FTxt mg) : FnOk P w K mg base CX0 1 f fd ["cell", "many"] spRow := by
  refine F.ok sc_law_row (fun vs H Q E h => ?_) (fun cdv A outer s H vs Q E hr h => ?_)
  · obtain ⟨c, m, rfl, _⟩ := h
    rfl
  obtain ⟨c, m, rfl, m0, m1, k⟩ := h
  refine ⟨_, (pss_cons (ps_set (i := 2) sc_law_row.nd rfl (Or.inl rfl) (pe_lst pa_nil))
    (pss_cons (ps_set (i := 3) sc_law_row.nd rfl (Or.inl rfl) pe_int)
    (pss_cons (ps_if (pt_cmpR op_ge (pe_callB call_abs (by rfl) T.z_abs (by decide +kernel) (pa_cons (pv 0) pa_nil)) (pe_op op_pow pe_int pe_int) (nomark _))
      (pss_one (ps_set (i := 3) sc_law_row.nd rfl (Or.inl rfl) (pe_callB call_abs (by rfl) T.z_abs (by decide +kernel) (pa_cons (pv 0) pa_nil))))
      pss_nil)
    (pss_cons (ps_set (i := 4) sc_law_row.nd rfl (Or.inl rfl) (pe_op op_mod (pe_callTy call_int1 (by rfl) T.z_int (by decide +kernel) (pa_cons (pe_callB call_abs (by rfl) T.z_abs (by decide +kernel) (pa_cons (pv 0) pa_nil)) pa_nil)) pe_int))
    (pss_cons (ps_for PassesOwn.never rfl (pi_range1 (by rfl) T.z_range (pa_cons (pv 1) pa_nil)) (pg_name (i := 5) sc_law_row.nd rfl (Or.inl rfl))
      (pss_cons (ps_set (i := 4) sc_law_row.nd rfl (Or.inl rfl) (pe_op op_mod (pe_callTy call_int1 (by rfl) T.z_int (by decide +kernel) (pa_cons (pe_op op_add (pe_op op_mul (pe_op op_add (pv 4) pe_int) pe_int) (pe_op op_mul pe_int (pv 5))) pa_nil)) pe_int))
      (pss_one (ps_if (pt_cmpR op_gt (pv 3) pe_int (nomark _))
        (pss_cons (ps_expr (pe_bm PySem.F.plainAttrs_list PySem.F.slot_list_append PySem.F.type_list_append mt_append (pv 2) (pa_cons (pe_op op_mod (pe_callTy call_int1 (by rfl) T.z_int (by decide +kernel) (pa_cons (pv 3) pa_nil)) pe_int) pa_nil)))
        (pss_one (ps_set (i := 3) sc_law_row.nd rfl (Or.inl rfl) (pe_op op_fdiv (pv 3) pe_int))))
        (pss_one (ps_expr (pe_bm PySem.F.plainAttrs_list PySem.F.slot_list_append PySem.F.type_list_append mt_append (pv 2) (pa_cons (pe_op op_mod (pe_callTy call_int1 (by rfl) T.z_int (by decide +kernel) (pa_cons (pe_op op_fdiv (pv 4) pe_int) pa_nil)) pe_int) pa_nil))))))))
    (pss_one (ps_ret (pv 2)))))))), ?_⟩
  refine q_asgL (el_lst ea_nil (by decide)) fun p H1 np e1 h1 => ?_
  refine q_asg ev_c fun H2 e2 => ?_
  refine q_ifAsg (v := .int (if (10 : Int) ^ 18 ≤ (if c < 0 then -c else c) then (if c < 0 then -c else c) else 0)) (b := decide ((10 : Int) ^ 18 ≤ (if c < 0 then -c else c))) (et_is (by walk_at "evs") (by rfl)) (fun hb => ?_) (fun hb => ?_) fun H3 e3 => ?_
  · rw [if_pos (of_decide_eq_true hb)]
    exact ev_is (by walk_at "ev") (by rfl)
  · rw [if_neg (of_decide_eq_false hb)]
    rfl
  generalize (if (10 : Int) ^ 18 ≤ (if c < 0 then -c else c) then (if c < 0 then -c else c) else 0) = r0
  refine q_asg (by walk_at "evs") fun H4 e4 => ?_
  refine q_forR1 (n := m) (by walk_at "ev") (by omega) (fun i σ' H' => ∃ (r st : Int) (y : Option V) (ns : List Int), σ' = [some (.int c), some (.int m), some (.ref p), some (.int r), some (.int st), y] ∧ ns.length = i ∧ Bd ns ∧ Ex H H' ∧ H' p = some (.lst (ns.map V.int)) ∧ 0 ≤ st ∧ st < 2147483647) ?_ ?_ ?_
  · intro H5 e5
    exact ⟨r0, _, none, [], rfl, rfl, Bd.nil, (((e1.trans e2).trans e3).trans e4).trans e5, e5 _ _ (e4 _ _ (e3 _ _ (e2 _ _ h1))), Int.emod_nonneg _ (by decide), Int.emod_lt_of_pos _ (by decide)⟩
  · rintro i σ' H' hi ⟨r, st, y, ns, rfl, hl, hb, ex, hp, s0, s1⟩
    have hn : (ns.map V.int).length < 100000 := by rw [List.length_map]; omega
    refine q_asg (by walk_at "evs") fun H5 e5 => ?_
    generalize hst : ((st + 1) * 48271 + 69621 * (i : Int)) % 2147483647 = st'
    have t0 : 0 ≤ st' := by rw [← hst]; exact Int.emod_nonneg _ (by decide)
    have t1 : st' < 2147483647 := by rw [← hst]; exact Int.emod_lt_of_pos _ (by decide)
    refine s_if (by walk_at "ev") (fun hb1 H6 e6 => ?_) (fun hb1 H6 e6 => ?_)
    · refine q_app (e6 _ _ (e5 _ _ hp)) (by walk_at "ev") (by walk_at "evs") hn fun H7 e7 => ?_
      refine s_asg (by walk_at "evs") fun H8 e8 => ?_
      refine ⟨r / 1009, st', _, ns ++ [r % 1009], rfl, by rw [List.length_append]; exact congrArg (· + 1) hl, hb.snoc (Int.emod_nonneg _ (by decide)) (Int.emod_lt_of_pos _ (by decide)), (Ex.mut (((ex.trans e5).trans e6).trans e7) np).trans e8, ?_, t0, t1⟩
      refine e8 _ _ ?_
      rw [upd_same, map_snoc]
    · refine s_app (e6 _ _ (e5 _ _ hp)) (by walk_at "ev") (by walk_at "evs") hn fun H7 e7 => ?_
      refine ⟨r, st', _, ns ++ [st' / 2048 % 1009], rfl, by rw [List.length_append]; exact congrArg (· + 1) hl, hb.snoc (Int.emod_nonneg _ (by decide)) (Int.emod_lt_of_pos _ (by decide)), Ex.mut (((ex.trans e5).trans e6).trans e7) np, ?_, t0, t1⟩
      rw [upd_same, map_snoc]
  · rintro σ' H' ⟨r, st, y, ns, rfl, hl, hb, ex, hp, s0, s1⟩
    exact s_ret (ev_var rfl) fun H5 e5 => k ns p H5 (by omega) hb np (ex.trans e5) (e5 _ _ hp)
/-! _law_numbers: 0 script, 1 many, 2 cells, 3 each, 4 numbers, 5 cell, 6 number -/
abbrev s_law_numbers : Stmt := topS 19
theorem sc_law_numbers : FnScope ["script", "many", "cells", "each", "numbers", "cell", "number"] ["script", "many"] (defScope s_law_numbers) := ⟨rfl, rfl, rfl, by decide +kernel, rfl, by decide +kernel, by decide +kernel⟩
def spNumbers (K : PySem.W.Frag) : Sp := fun vs H Q _ => ∃ (a : Addr) (cs : List Int) (m : Int), vs = [.ref a, .int m] ∧ SqL K H a (cs.map V.int) ∧ 0 ≤ m ∧ m ≤ 500 ∧
  ∀ (ns : List Int) p H2, (ns.length : Int) = m → Bd ns → H p = none → Ex H H2 → H2 p = some (.lst (ns.map V.int)) → Q (.ref p) H2
theorem ok_numbers {f : Addr} {fd : FuncData} (F : Fun K "_law_numbers" "_law_numbers" s_law_numbers f fd) (T : FTxt mg) (D_law_row : Dk P w K mg base CX0 1 "_law_row" ["cell", "many"] spRow) : FnOk P w K mg base CX0 2 f fd ["script", "many"] (spNumbers K) := by
  refine F.ok sc_law_numbers (fun vs H Q E h => ?_) (fun cdv A outer s H vs Q E hr h => ?_)
  · obtain ⟨a, cs, m, rfl, _⟩ := h
    rfl
  obtain ⟨a, cs, m, rfl, hS, m0, m1, k⟩ := h
  refine ⟨_, (pss_cons (ps_set (i := 2) sc_law_numbers.nd rfl (Or.inl rfl) (pe_slice sl_list (pv 0) po_none (po_some pe_int)))
    (pss_cons (ps_set (i := 3) sc_law_numbers.nd rfl (Or.inl rfl) (pe_op op_add pe_int (pe_op op_fdiv (pv 1) (pe_callB (call_max2 rfl) (by rfl) T.z_max (by decide +kernel) (pa_cons pe_int (pa_cons (pe_callB call_len_seq (by rfl) T.z_len PySem.boot_len (pa_cons (pv 2) pa_nil)) pa_nil))))))
    (pss_cons (ps_set (i := 4) sc_law_numbers.nd rfl (Or.inl rfl) (pe_lst pa_nil))
    (pss_cons (ps_for PassesOwn.never rfl (pi_list (pv 2)) (pg_name (i := 5) sc_law_numbers.nd rfl (Or.inl rfl))
      (pss_one (ps_for PassesOwn.never rfl (pi_list (pe_cd D_law_row hr (by rfl) (pa_cons (pv 5) (pa_cons (pv 3) pa_nil)))) (pg_name (i := 6) sc_law_numbers.nd rfl (Or.inl rfl))
        (pss_one (ps_expr (pe_bm PySem.F.plainAttrs_list PySem.F.slot_list_append PySem.F.type_list_append mt_append (pv 4) (pa_cons (pv 6) pa_nil)))))))
    (pss_cons (ps_set (i := 4) sc_law_numbers.nd rfl (Or.inl rfl) (pe_op op_cat (pv 4) (pe_op op_rep (pe_lst (pa_cons pe_int pa_nil)) (pv 1))))
    (pss_one (ps_ret (pe_slice sl_list (pv 4) po_none (po_some (pv 1)))))))))), ?_⟩
  refine q_asgL (el_sl (ev_var rfl) eo_none (eo_some ev_c) hS) fun c H1 nc e1 h1 => ?_
  rw [show cutV (cs.map V.int) none (some 63) = (cs.take 63).map V.int from by rw [List.map_take]; exact cut_pre _ 63] at h1
  have hL : ((cs.take 63).map V.int).length ≤ 63 := by rw [List.length_map, List.length_take]; omega
  generalize cs.take 63 = ds at h1 hL
  rw [List.length_map] at hL
  have hmx : ∀ z : Int, z = (if (((ds.map V.int).length : Nat) : Int) > 1 then (((ds.map V.int).length : Nat) : Int) else 1) → 1 ≤ z ∧ z ≤ 63 := by
    intro z hz
    rw [List.length_map] at hz
    split at hz <;> omega
  refine q_asg (by
    refine ev_op ev_c (ev_op (ev_var rfl) (ev_cb (ea_cons ev_c (ea_cons (ev_cb (ea_cons (ev_var rfl) ea_nil) (rc_len (sq_of h1))) ea_nil)) rc_max2) (rv_I ?_)) rv_I0
    have q := hmx _ rfl
    exact ⟨by omega, by omega⟩) fun H2 e2 => ?_
  generalize hz : (if (((ds.map V.int).length : Nat) : Int) > 1 then (((ds.map V.int).length : Nat) : Int) else 1) = z
  obtain ⟨z0, z1⟩ := hmx z hz.symm
  have hd0 : 0 ≤ m / z := Int.ediv_nonneg m0 (by omega)
  have hd1 : m / z ≤ m := Int.ediv_le_self z m0
  refine q_asgL (el_lst ea_nil (by decide)) fun p H3 np e3 h3 => ?_
  have npH : H p = none := fresh_back (e1.trans e2) np
  have e13 : Ex H H3 := (e1.trans e2).trans e3
  have hc3 : H3 c = some (.lst (ds.map V.int)) := e3 _ _ (e2 _ _ h1)
  have npc : ¬ p = c := fun q => by
    rw [q, e2 _ _ h1] at np
    cases np
  refine q_forLn (a := c) (xs := ds.map V.int) (ev_var rfl) (sq_of hc3) (fun i σ' H' => ∃ (y5 y6 : Option V) (ns : List Int), σ' = [some (.ref a), some (.int m), some (.ref c), some (.int (1 + m / z)), some (.ref p), y5, y6] ∧ ns.length ≤ i * 600 ∧ Bd ns ∧ Ex H H' ∧ H' c = some (.lst (ds.map V.int)) ∧ H' p = some (.lst (ns.map V.int))) ?_ ?_ ?_ ?_
  · intro H4 e4
    exact ⟨none, none, [], rfl, Nat.zero_le _, Bd.nil, e13.trans e4, e4 _ _ hc3, e4 _ _ h3⟩
  · rintro i σ' H' _ ⟨_, _, _, _, _, _, _, hc, _⟩
    exact sq_of hc
  · rintro i x σ' H' hi ⟨y5, y6, ns, rfl, hl, hb, ex, hc, hp⟩
    obtain ⟨u, rfl⟩ : ∃ u, x = V.int u := by
      rw [List.getElem?_map] at hi
      cases e : ds[i]? with
      | none => rw [e] at hi; cases hi
      | some u => rw [e] at hi; exact ⟨u, (Option.some.inj hi).symm⟩
    have hi63 : i < 63 := by
      have q := (List.getElem?_eq_some_iff.mp hi).1
      rw [List.length_map] at q
      omega
    refine s_forC (by walk_at "ev") fun H4 e4 => ?_
    refine ⟨u, 1 + m / z, rfl, by omega, by omega, fun rs r H5 hrl hrb hr0 e5 hr => ?_⟩
    have hrp : ¬ p = r := fun q => by
      rw [← q, e4 _ _ hp] at hr0
      cases hr0
    have hrH : H r = none := fresh_back (ex.trans e4) hr0
    refine ⟨r, rfl, ⟨_, sq_of hr⟩, for_list (xs := rs.map V.int) (fun j σ' H' => ∃ (y6 : Option V) (ns : List Int), σ' = [some (.ref a), some (.int m), some (.ref c), some (.int (1 + m / z)), some (.ref p), some (.int u), y6] ∧ ns.length ≤ i * 600 + j ∧ Bd ns ∧ Ex H H' ∧ H' c = some (.lst (ds.map V.int)) ∧ H' p = some (.lst (ns.map V.int)) ∧ H' r = some (.lst (rs.map V.int))) ?_ ?_ ?_ ?_⟩
    · exact ⟨y6, ns, rfl, hl, hb, (ex.trans e4).trans e5, e5 _ _ (e4 _ _ hc), e5 _ _ (e4 _ _ hp), hr⟩
    · rintro j σ' H' _ ⟨_, _, _, _, _, _, _, _, hr⟩
      exact sq_of hr
    · rintro j x σ' H' hj ⟨y6, ns, rfl, hl, hb, ex, hc, hp, hr⟩
      have hjm : x ∈ rs.map V.int := List.mem_of_getElem? hj
      have hj600 : j < 600 := by
        have q := (List.getElem?_eq_some_iff.mp hj).1
        rw [List.length_map] at q
        omega
      obtain ⟨v, hv, rfl⟩ := List.mem_map.mp hjm
      have hn : (ns.map V.int).length < 100000 := by rw [List.length_map]; omega
      refine s_app hp (by walk_at "ev") (by walk_at "ev") hn fun H7 e7 => ?_
      refine ⟨_, ns ++ [v], rfl, by rw [List.length_append, List.length_singleton]; omega, hb.snoc (hrb v hv).1 (hrb v hv).2, Ex.mut (ex.trans e7) npH, ?_, ?_, ?_⟩
      · rw [upd_ne (Ne.symm npc)]
        exact e7 _ _ hc
      · rw [upd_same, map_snoc]
      · rw [upd_ne (Ne.symm hrp)]
        exact e7 _ _ hr
    · rintro σ' H' ⟨y6, ns, rfl, hl, hb, ex, hc, hp, hr⟩
      refine ⟨_, _, ns, rfl, ?_, hb, ex, hc, hp⟩
      rw [List.length_map] at hl
      omega
  · rintro σ' H' ⟨y5, y6, ns, rfl, hl, hb, ex, hc, hp⟩
    have hl' : ns.length ≤ 63 * 600 := by
      rw [List.length_map] at hl
      have : ds.length * 600 ≤ 63 * 600 := Nat.mul_le_mul_right _ hL
      omega
    have hz := el_cat (σ := [some (V.ref a), some (.int m), some (.ref c), some (.int (1 + m / z)), some (.ref p), y5, y6]) (ev_var (i := 4) rfl) hp (el_zeros (tn := tVar 1) (n := m.toNat) (ev_is (ev_var rfl) (by rw [Int.toNat_of_nonneg m0])) (by omega)) (by rw [List.length_map, List.length_map, List.length_replicate]; omega)
    rw [← List.map_append] at hz
    refine q_asgL hz fun p2 H4 n4 e4 h4 => ?_
    refine s_retL (el_sl (ev_var rfl) eo_none (eo_some (ev_var rfl)) (sq_of h4)) fun q H5 nq e5 h5 => ?_
    refine k ((ns ++ List.replicate m.toNat 0).take m.toNat) q H5 (by rw [List.length_take, List.length_append, List.length_replicate]; omega) (Bd.take (fun x hx => ?_) _) (fresh_back (ex.trans e4) nq) ((ex.trans e4).trans e5) ?_
    · rcases List.mem_append.mp hx with z1 | z1
      · exact hb x z1
      · rw [(List.mem_replicate.mp z1).2]
        decide
    · rw [h5, List.map_take, ← cut_pre, Int.toNat_of_nonneg m0]
end
end My
set_option Elab.async false
set_option linter.all false
set_option maxRecDepth 100000
set_option maxHeartbeats 2000000
namespace My
open PySem L2 Evl GxR MyG
local macro_rules | `(tactic| walk_at "ev") => `(tactic| repeat' (first
  | exact ev_c
  | exact ev_var rfl
  | exact ea_nil
  | exact eo_none
  | (refine' ev_cb ?ea (rc_len ?sq); (case ea => walk_at "evs"); (case sq => walk_at "sq"))
  | (refine' ev_op ?a ?b (rv_ixL ?sq ?ix); (case a => walk_at "evs"); (case b => walk_at "evs"); (case sq => walk_at "sq"); (case ix => walk_at "at"))
  | refine' ea_cons ?_ ?_
  | refine' eo_some ?_
  | refine' ev_op ?_ ?_ rv_I0
  | refine' ev_op ?_ ?_ (rv_eq ?_)
  | refine' ev_op ?_ ?_ (rv_ne ?_)
  | refine' ev_op ?_ ?_ (rv_I ?_)
  | refine' ev_un ?_ ru_neg
  | refine' ev_cb ?_ rc_int
  | refine' ev_cb ?_ rc_abs
  | refine' ev_cb ?_ rc_max2
  | refine' ev_andV ?_ ?_
  | refine' ev_notV ?_
  | refine' et_test ?_
  | refine' et_B ?_
  | refine' et_not ?_))
local macro_rules | `(tactic| walk_at "side") => `(tactic| first
  | rfl
  | decide
  | exact ⟨by decide, by decide⟩
  | exact .inr ⟨by decide, by decide⟩
  | exact .inl ⟨by decide, by decide⟩
  | omega
  | exact .inl ⟨by omega, by omega⟩
  | exact ⟨by omega, by omega⟩
  | exact .inr ⟨by omega, by omega⟩)
local macro_rules | `(tactic| walk_at "evs") => `(tactic| (walk_at "ev"; all_goals (walk_at "side")))
local macro_rules | `(tactic| walk_at "ex") => `(tactic| first
  | with_reducible exact Ex.refl _
  | with_reducible assumption
  | (refine' Ex.trans ?_ ?b; (case b => with_reducible assumption); walk_at "ex"))
local macro_rules | `(tactic| walk_at "sq") => `(tactic| first
  | (refine' sq_ex ?h ?e; (case h => with_reducible assumption); (case e => walk_at "ex"))
  | (refine' ex_l ?e ?h; (case h => with_reducible assumption); (case e => walk_at "ex"))
  | (refine' ex_l ?e ?h; (case h => assumption); (case e => walk_at "ex"))
  | assumption
  | exact sq_of (by assumption))
local macro_rules | `(tactic| walk_at "at") => `(tactic| first
  | exact at_int (by omega) (by omega)
  | exact atI_nat (j := 0) rfl
  | exact atI_nat (j := 1) rfl
  | exact atI_nat (j := 2) rfl)
local macro_rules | `(tactic| walk_at "side2") => `(tactic| first | exact CMul_bdl (by assumption) | exact CMul_bdr (by assumption) | walk_at "side")
local macro_rules | `(tactic| walk_at "evb") => `(tactic| (walk_at "ev"; all_goals (walk_at "side2")))

section
variable {P : Program} {w : World} {K : PySem.W.Frag} {mg : Str → Option Value} {base : Heap}
/-! _law_is_integer: 0 actual -/
abbrev s_law_is_integer : Stmt := topS 20
theorem sc_law_is_integer : FnScope ["actual"] ["actual"] (defScope s_law_is_integer) := ⟨rfl, rfl, rfl, by decide +kernel, rfl, by decide +kernel, by decide +kernel⟩
def spIsInt : Sp := fun vs H Q _ => ∃ i : Int, vs = [.int i] ∧ RetV (.bl true) H Q
theorem ok_isint {f : Addr} {fd : FuncData} (F : Fun K "_law_is_integer" "_law_is_integer" s_law_is_integer f fd) (T : FTxt mg) : FnOk P w K mg base CX0 1 f fd ["actual"] spIsInt := by
  refine F.ok sc_law_is_integer (fun vs H Q E h => ?_) (fun cdv A outer s H vs Q E hr h => ?_)
  · obtain ⟨i, rfl, _⟩ := h
    rfl
  obtain ⟨i, rfl, k⟩ := h
  refine ⟨_, (pss_one (ps_ret (pe_and (pe_callB call_isi (by rfl) T.z_isinstance (by decide +kernel) (pa_cons (pv 0) (pa_cons (pe_bltn (v := .ty "int") (by rfl) T.z_int (by decide +kernel) rfl) pa_nil))) (pe_one (pe_not (pe_callB call_isi (by rfl) T.z_isinstance (by decide +kernel) (pa_cons (pv 0) (pa_cons (pe_bltn (v := .ty "bool") (by rfl) T.z_bool (by decide +kernel) rfl) pa_nil)))))))), ?_⟩
  refine s_ret (ev_andV (a := true) (b := true) (ev_cb (ea_cons (ev_var rfl) (ea_cons ev_c ea_nil)) (rc_isiInt (by decide +kernel))) fun _ => ev_is (ev_notV (ev_cb (ea_cons (ev_var rfl) (ea_cons ev_c ea_nil)) (rc_isiInt (b := false) (by decide +kernel)))) rfl) fun H1 e1 => k H1 e1
end
end My
set_option Elab.async false
set_option linter.all false
set_option maxRecDepth 100000
set_option maxHeartbeats 1000000
namespace My
open PySem PySem.Spec PyProof.Rows L2 L2H Evl GxR MyG MyZ
local macro_rules | `(tactic| walk_at "ev") => `(tactic| repeat' (first
  | exact ev_c
  | exact ev_var rfl
  | exact ea_nil
  | exact eo_none
  | (refine' ev_cb ?ea (rc_len ?sq); (case ea => walk_at "evs"); (case sq => walk_at "sq"))
  | (refine' ev_op ?a ?b (rv_ixL ?sq ?ix); (case a => walk_at "evs"); (case b => walk_at "evs"); (case sq => walk_at "sq"); (case ix => walk_at "at"))
  | refine' ea_cons ?_ ?_
  | refine' eo_some ?_
  | refine' ev_op ?_ ?_ rv_I0
  | refine' ev_op ?_ ?_ (rv_eq ?_)
  | refine' ev_op ?_ ?_ (rv_ne ?_)
  | refine' ev_op ?_ ?_ (rv_I ?_)
  | refine' ev_un ?_ ru_neg
  | refine' ev_cb ?_ rc_int
  | refine' ev_cb ?_ rc_abs
  | refine' ev_cb ?_ rc_max2
  | refine' ev_andV ?_ ?_
  | refine' ev_notV ?_
  | refine' et_test ?_
  | refine' et_B ?_
  | refine' et_not ?_))
local macro_rules | `(tactic| walk_at "side") => `(tactic| first
  | rfl
  | decide
  | exact ⟨by decide, by decide⟩
  | exact .inr ⟨by decide, by decide⟩
  | exact .inl ⟨by decide, by decide⟩
  | omega
  | exact .inl ⟨by omega, by omega⟩
  | exact ⟨by omega, by omega⟩
  | exact .inr ⟨by omega, by omega⟩)
local macro_rules | `(tactic| walk_at "evs") => `(tactic| (walk_at "ev"; all_goals (walk_at "side")))
local macro_rules | `(tactic| walk_at "ex") => `(tactic| first
  | with_reducible exact Ex.refl _
  | with_reducible assumption
  | (refine' Ex.trans ?_ ?b; (case b => with_reducible assumption); walk_at "ex"))
local macro_rules | `(tactic| walk_at "sq") => `(tactic| first
  | (refine' sq_ex ?h ?e; (case h => with_reducible assumption); (case e => walk_at "ex"))
  | (refine' ex_l ?e ?h; (case h => with_reducible assumption); (case e => walk_at "ex"))
  | (refine' ex_l ?e ?h; (case h => assumption); (case e => walk_at "ex"))
  | assumption
  | exact sq_of (by assumption))
local macro_rules | `(tactic| walk_at "at") => `(tactic| first
  | exact at_int (by omega) (by omega)
  | exact atI_nat (j := 0) rfl
  | exact atI_nat (j := 1) rfl
  | exact atI_nat (j := 2) rfl)
local macro_rules | `(tactic| walk_at "side2") => `(tactic| first | exact CMul_bdl (by assumption) | exact CMul_bdr (by assumption) | walk_at "side")
local macro_rules | `(tactic| walk_at "evb") => `(tactic| (walk_at "ev"; all_goals (walk_at "side2")))

local macro_rules | `(tactic| walk_at "nm") => `(tactic| (try simp only [List.set_cons_zero, List.set_cons_succ]))
section
variable {P : Program} {w : World} {K : PySem.W.Frag} {mg : Str → Option Value} {base : Heap}
/-! _law_krawtchouk: 0 order, 1 length, 2 k, 3 x, 4 at, 5 actual, 6 balls, 7 total, 8 i, 9 size -/
abbrev s_law_krawtchouk : Stmt := topS 24
theorem sc_law_krawtchouk : FnScope ["order", "length", "k", "x", "at", "actual", "balls", "total", "i", "size"] ["order", "length", "k", "x"] (defScope s_law_krawtchouk) := ⟨rfl, rfl, rfl, by decide +kernel, rfl, by decide +kernel, by decide +kernel⟩
def spLK : Sp := fun vs H Q _ => ∃ (q : Int) (n kk x : Nat), vs = [.int q, .int (n : Int), .int (kk : Int), .int (x : Int)] ∧ 2 ≤ q ∧ q ≤ 256 ∧ x ≤ n ∧ n ≤ 16 ∧ kk ≤ n ∧ RetV (.bl true) H Q
theorem ok_lk {f : Addr} {fd : FuncData} (F : Fun K "_law_krawtchouk" "_law_krawtchouk" s_law_krawtchouk f fd) (T : FTxt mg) (D_krawtchouk : Dk P w K mg base CX0 3 "krawtchouk" ["order", "length", "k", "x"] spKr) (D_law_number : Dk P w K mg base CX0 3 "_law_number" ["order", "length", "k", "x"] (spNum K))
    (D_law_is_integer : Dk P w K mg base CX0 3 "_law_is_integer" ["actual"] spIsInt) (D_law_repeated : Dk P w K mg base CX0 3 "_law_repeated" ["factor", "times"] (spRep K)) : FnOk P w K mg base CX0 4 f fd ["order", "length", "k", "x"] spLK := by
  refine F.ok sc_law_krawtchouk (fun vs H Q E h => ?_) (fun cdv A outer s H vs Q E hr h => ?_)
  · obtain ⟨_, _, _, _, rfl, _⟩ := h
    rfl
  obtain ⟨q, n, kk, x, rfl, q2, q3, hx, hn, hk, k⟩ := h
  refine ⟨_, (pss_cons (ps_for PassesOwn.never rfl (pi_list (pe_lst (pa_cons (pv 3) (pa_cons pe_int (pa_cons (pv 1) pa_nil))))) (pg_name (i := 4) sc_law_krawtchouk.nd rfl (Or.inl rfl))
      (pss_cons (ps_set (i := 5) sc_law_krawtchouk.nd rfl (Or.inl rfl) (pe_cd D_krawtchouk hr (by rfl) (pa_cons (pv 0) (pa_cons (pv 1) (pa_cons (pv 2) (pa_cons (pv 4) pa_nil))))))
      (pss_one (ps_if (PW.pt (pw_or (pt_not (pt_val (pe_cd D_law_is_integer hr (by rfl) (pa_cons (pv 5) pa_nil)))) (pw_or1 (pt_cmpR op_ne (pv 5) (pe_cd D_law_number hr (by rfl) (pa_cons (pv 0) (pa_cons (pv 1) (pa_cons (pv 2) (pa_cons (pv 4) pa_nil))))) (nomark _)))))
        (pss_one (ps_ret pe_bl))
        pss_nil))))
    (pss_cons (ps_set (i := 6) sc_law_krawtchouk.nd rfl (Or.inl rfl) (pe_cd D_law_repeated hr (by rfl) (pa_cons (pe_lst (pa_cons pe_int (pa_cons (pe_op op_sub (pv 0) pe_int) pa_nil))) (pa_cons (pv 1) pa_nil))))
    (pss_cons (ps_set (i := 7) sc_law_krawtchouk.nd rfl (Or.inl rfl) pe_int)
    (pss_cons (ps_for PassesOwn.never rfl (pi_range1 (by rfl) T.z_range (pa_cons (pe_op op_add (pv 1) pe_int) pa_nil)) (pg_name (i := 8) sc_law_krawtchouk.nd rfl (Or.inl rfl))
      (pss_one (ps_set (i := 7) sc_law_krawtchouk.nd rfl (Or.inl rfl) (pe_op op_add (pv 7) (pe_op op_mulW (pe_op op_mulW (pe_ix ix_list (pv 6) (pv 8) (fun _ _ => rfl)) (pe_cd D_krawtchouk hr (by rfl) (pa_cons (pv 0) (pa_cons (pv 1) (pa_cons (pv 2) (pa_cons (pv 8) pa_nil)))))) (pe_cd D_krawtchouk hr (by rfl) (pa_cons (pv 0) (pa_cons (pv 1) (pa_cons (pv 3) (pa_cons (pv 8) pa_nil))))))))))
    (pss_cons (ps_if (pt_cmpR op_ne (pv 2) (pv 3) (nomark _))
      (pss_one (ps_ret (pe_cmpR op_eq (pv 7) pe_int (nomark _))))
      pss_nil)
    (pss_cons (ps_set (i := 9) sc_law_krawtchouk.nd rfl (Or.inl rfl) pe_int)
    (pss_cons (ps_for PassesOwn.never rfl (pi_range1 (by rfl) T.z_range (pa_cons (pv 1) pa_nil)) (pg_name (i := 8) sc_law_krawtchouk.nd rfl (Or.inl rfl))
      (pss_one (ps_set (i := 9) sc_law_krawtchouk.nd rfl (Or.inl rfl) (pe_op op_mulW (pv 9) (pv 0)))))
    (pss_one (ps_ret (pe_cmpR op_eq (pv 7) (pe_op op_mulW (pv 9) (pe_ix ix_list (pv 6) (pv 2) (fun _ _ => rfl))) (nomark _))))))))))), ?_⟩
  have hs : (q - 1).natAbs ≤ 255 := by omega
  have kr : ∀ (a z : Nat), a ≤ n → z ≤ n → ∀ {H1 : Hp} {Q1 : VK} {E1 : XK}, RetV (.int (krS (q - 1) n z a)) H1 Q1 → spKr [.int q, .int (n : Int), .int (z : Int), .int (a : Int)] H1 Q1 E1 := fun a z ha hz H1 Q1 E1 q1 =>
    ⟨q, n, z, a, rfl, q2, q3, ha, by omega, by omega, fun j hj => ⟨cho_small ⟨a, by omega⟩ ⟨j, by omega⟩, cho_small ⟨n - a, by omega⟩ ⟨j, by omega⟩⟩, q1⟩
  have nm : ∀ (a z : Nat), a ≤ n → z ≤ n → ∀ {H1 : Hp} {Q1 : VK} {E1 : XK}, RetV (.int (krS (q - 1) n z a)) H1 Q1 → spNum K [.int q, .int (n : Int), .int (z : Int), .int (a : Int)] H1 Q1 E1 := fun a z ha hz H1 Q1 E1 q1 =>
    ⟨q, n, z, a, rfl, q2, q3, ha, hn, hz, by rw [krS_gk (by omega) (by omega) ha] at q1; exact q1⟩
  refine q_forNLn (xs := [V.int (x : Int), V.int 0, V.int (n : Int)]) (el_lst (ea_cons (ev_var rfl) (ea_cons ev_c (ea_cons (ev_var rfl) ea_nil))) (by show 3 ≤ 100000; decide)) (fun p i σ' H' => ∃ y4 y5, σ' = [some (.int q), some (.int (n : Int)), some (.int (kk : Int)), some (.int (x : Int)), y4, y5, none, none, none, none] ∧ Ex H H' ∧ H' p = some (.lst [V.int (x : Int), V.int 0, V.int (n : Int)])) ?_ ?_ ?_ ?_
  · intro p H1 np e1 h1
    exact ⟨none, none, rfl, e1, h1⟩
  · rintro p i σ' H' _ ⟨_, _, _, _, hp⟩
    exact sq_of hp
  · rintro p i y σ' H' hy ⟨y4, y5, rfl, ex, hp⟩
    obtain ⟨a, rfl, ha⟩ : ∃ a : Nat, y = .int (a : Int) ∧ a ≤ n := by
      have hm := List.mem_of_getElem? hy
      simp only [List.mem_cons, List.not_mem_nil, or_false] at hm
      rcases hm with rfl | rfl | rfl
      · exact ⟨x, rfl, hx⟩
      · exact ⟨0, rfl, Nat.zero_le _⟩
      · exact ⟨n, rfl, Nat.le_refl _⟩
    walk_at "nm"
    refine q_asg (v := .int (krS (q - 1) n kk a)) (ev_call (ea_cons (ev_var rfl) (ea_cons (ev_var rfl) (ea_cons (ev_var rfl) (ea_cons (ev_var rfl) ea_nil)))) (fun H3 e3 Q3 q3 E3 => kr a kk ha hk q3)) fun H2 e2 => ?_
    walk_at "nm"
    refine s_when (b := false) (et_is (et_or (a := false) (b := false) (et_is (et_not (et_B (ev_call (z := .bl true) (ea_cons (ev_var rfl) ea_nil) (fun H3 e3 Q3 q3 E3 => ⟨_, rfl, q3⟩)))) rfl) fun _ => et_is (et_test (ev_op (ev_var rfl) (ev_call (z := .int (krS (q - 1) n kk a)) (ea_cons (ev_var rfl) (ea_cons (ev_var rfl) (ea_cons (ev_var rfl) (ea_cons (ev_var rfl) ea_nil)))) (fun H3 e3 Q3 q3 E3 => nm a kk ha hk q3)) (rv_ne rfl))) (by rw [decide_eq_true rfl]; rfl)) rfl) (fun z => Bool.noConfusion z) fun _ H3 e3 => ?_
    exact ⟨_, _, rfl, (ex.trans e2).trans e3, (e2.trans e3) _ _ hp⟩
  rintro p σ' H1 ⟨y4, y5, rfl, e1, _⟩
  refine q_asgL (el_callLn (xs := [V.int 1, V.int (q - 1)]) (el_lst (ea_cons ev_c (ea_cons (ev_op (ev_var rfl) ev_c rv_I0) ea_nil)) (by show 2 ≤ 100000; decide)) (ev_var rfl) (fun p H1 e1 h1 Q1 q1 E1 => ⟨p, q - 1, n, rfl, sq_of h1, hs, by omega, q1⟩)) fun pb H2 nb e2 hb => ?_
  walk_at "nm"
  refine q_asg ev_c fun H3 e3 => ?_
  walk_at "nm"
  have lb : (repZ [1, q - 1] n).length = n + 1 := repZ_len _ rfl n
  have e13 := e1.trans (e2.trans e3)
  have hb3 := e3 _ _ hb
  have kb : ∀ z a : Nat, z ≤ n → a ≤ n → (krS (q - 1) n z a).natAbs < 2 ^ 200 := fun z a hz ha => by
    rw [krS_gk (by omega) (by omega) ha]
    exact Nat.lt_of_lt_of_le (gk_bd hs _ _ _) (Nat.pow_le_pow_right (by decide) (by omega))
  have bb : ∀ i : Nat, (cf (repZ [1, q - 1] n) i).natAbs < 2 ^ 200 := fun i => by
    rw [cf_rep]
    exact Nat.lt_of_lt_of_le (pw_bd hs _ _) (Nat.pow_le_pow_right (by decide) (by omega))
  refine q_forR1 (n := ((n + 1 : Nat) : Int)) (ea_cons (ev_is (ev_op (ev_var rfl) ev_c rv_I0) (by congr 1)) ea_nil) ⟨by omega, by omega⟩ (fun i σ' H' => ∃ y8, σ' = [some (.int q), some (.int (n : Int)), some (.int (kk : Int)), some (.int (x : Int)), y4, y5, some (.ref pb), some (.int (sumN (fun i => (ln (q - 1) ^ n).at' i * krS (q - 1) n kk i * krS (q - 1) n x i) i)), y8, none] ∧ Ex H3 H') ?_ ?_ ?_
  · intro H4 e4
    exact ⟨none, rfl, e4⟩
  · rintro i σ' H' hi ⟨y8, rfl, ex⟩
    have hi' : i ≤ n := by omega
    walk_at "nm"
    have b1 := bb i
    have b2 := kb kk i hk hi'
    have b3 := kb x i hx hi'
    have b12 : (cf (repZ [1, q - 1] n) i * krS (q - 1) n kk i).natAbs < 2 ^ 400 := by
      rw [Int.natAbs_mul, show (2 : Nat) ^ 400 = 2 ^ 200 * 2 ^ 200 from (Nat.pow_add 2 200 200)]
      exact Nat.mul_lt_mul'' b1 b2
    refine s_asg (v := .int (sumN (fun i => (ln (q - 1) ^ n).at' i * krS (q - 1) n kk i * krS (q - 1) n x i) i + cf (repZ [1, q - 1] n) i * krS (q - 1) n kk i * krS (q - 1) n x i)) (ev_op (ev_var rfl) (ev_op (ev_op (ev_op (ev_var rfl) (ev_var rfl) (rv_ixL (sq_of (ex _ _ hb3)) (atN (by omega)))) (ev_call (z := .int (krS (q - 1) n kk i)) (ea_cons (ev_var rfl) (ea_cons (ev_var rfl) (ea_cons (ev_var rfl) (ea_cons (ev_var rfl) ea_nil)))) (fun H5 e5 Q5 q5 E5 => kr i kk hi' hk q5)) (rv_I (wide_mul b1 b2 (by decide) (by decide) (by decide))))
      (ev_call (z := .int (krS (q - 1) n x i)) (ea_cons (ev_var rfl) (ea_cons (ev_var rfl) (ea_cons (ev_var rfl) (ea_cons (ev_var rfl) ea_nil)))) (fun H5 e5 Q5 q5 E5 => kr i x hi' hx q5)) (rv_I (wide_mul b12 b3 (by decide) (by decide) (by decide)))) rv_I0) fun H5 e5 => ?_
    refine ⟨some (.int (i : Int)), ?_, ex.trans e5⟩
    rw [cf_rep]
    rfl
  rintro σ' H4 ⟨y8, rfl, e34⟩
  rw [show (((n + 1 : Nat) : Int).toNat) = n + 1 by omega, law_sum (by omega) (by omega) (by omega), show q - 1 + 1 = q by omega]
  have e14 := e13.trans e34
  refine q_when (b := decide (kk ≠ x)) (et_is (et_test (ev_op (ev_var rfl) (ev_var rfl) (rv_ne rfl))) (by rw [dec_int, ← decide_not]; exact decide_eq_decide.mpr (by omega))) (fun hne H5 e5 => ?_) (fun hne H5 e5 => ?_)
  · rw [if_neg (of_decide_eq_true hne)]
    exact s_ret (ev_is (ev_op (ev_var rfl) ev_c (rv_eq rfl)) (by rw [decide_eq_true rfl])) fun H6 e6 => k H6 (e14.trans (e5.trans e6))
  · have heq : kk = x := Decidable.byContradiction fun z => absurd hne (by rw [decide_eq_true z]; decide)
    rw [if_pos heq]
    refine q_asg ev_c fun H6 e6 => ?_
    walk_at "nm"
    refine q_forR1 (n := (n : Int)) (ea_cons (ev_var rfl) ea_nil) ⟨by omega, by omega⟩ (fun i σ' H' => ∃ y8, σ' = [some (.int q), some (.int (n : Int)), some (.int (kk : Int)), some (.int (x : Int)), y4, y5, some (.ref pb), some (.int (q ^ n * (ln (q - 1) ^ n).at' kk)), y8, some (.int (q ^ i))] ∧ Ex H4 H') ?_ ?_ ?_
    · intro H7 e7
      exact ⟨y8, by rw [Int.pow_zero], e5.trans (e6.trans e7)⟩
    · rintro i σ' H' hi ⟨y8, rfl, ex⟩
      walk_at "nm"
      have b4 : (q ^ i).natAbs < 2 ^ 200 := by
        rw [Int.natAbs_pow]
        have h1 : q.natAbs ^ i ≤ 256 ^ i := Nat.pow_le_pow_left (by omega) i
        have h2 : 256 ^ i ≤ 256 ^ 16 := Nat.pow_le_pow_right (by decide) (by omega)
        have h3 : (256 : Nat) ^ 16 < 2 ^ 200 := by decide
        omega
      have b5 : q.natAbs < 2 ^ 10 := by omega
      refine s_asg (ev_op (ev_var rfl) (ev_var rfl) (rv_I (wide_mul b4 b5 (by decide) (by decide) (by decide)))) fun H7 e7 => ?_
      exact ⟨some (.int (i : Int)), by rw [Int.pow_succ]; rfl, ex.trans e7⟩
    · rintro σ' H' ⟨y8, rfl, ex⟩
      rw [show ((n : Int).toNat) = n by omega]
      have b4 : (q ^ n).natAbs < 2 ^ 200 := by
        rw [Int.natAbs_pow]
        have h1 : q.natAbs ^ n ≤ 256 ^ n := Nat.pow_le_pow_left (by omega) n
        have h2 : 256 ^ n ≤ 256 ^ 16 := Nat.pow_le_pow_right (by decide) (by omega)
        have h3 : (256 : Nat) ^ 16 < 2 ^ 200 := by decide
        omega
      refine s_ret (v := .bl true) (ev_is (ev_op (ev_var rfl) (ev_op (ev_var rfl) (ev_op (ev_var rfl) (ev_var rfl) (rv_ixL (sq_of ((e34.trans ex) _ _ hb3)) (atN (by omega)))) (rv_I (wide_mul b4 (bb kk) (by decide) (by decide) (by decide)))) (rv_eq rfl)) ?_) fun H7 e7 => k H7 (e14.trans (ex.trans e7))
      rw [dec_int, cf_rep, decide_eq_true rfl]
end
end My
set_option Elab.async false
set_option linter.all false
set_option maxRecDepth 100000
set_option maxHeartbeats 1000000
namespace My
open PySem L2 Evl
/-! lists of ints compared; arguments some of which are new; pairs of lists walked -/
theorem passE0 {X : Cx} : Passes (L2.CX X.prog X.w) X (fun _ _ _ => False) := fun _ _ _ _ _ _ _ h => by
  obtain ⟨_, _, _, _, _, _, _, _, _, _, _, _, z⟩ := h
  exact z.elim
theorem shLz (ns : List Int) : SeqAt.shaped (.list (ns.map PyData.int)) = true := by
  have h1 := dep_ints ns
  unfold SeqAt.shaped
  rw [Bool.and_eq_true]
  refine ⟨?_, decide_eq_true ?_⟩
  · simp [PyData.canLay0, lay_ints]
  · simp [PyData.depth]
    omega
section
variable {K : PySem.W.Frag} {H : Hp} {a b : Addr} {ns ms : List Int}
theorem rz_eqL (ha : SqL K H a (ns.map V.int)) (hb : SqL K H b (ms.map V.int)) : RV (rEqD K) (.ref a) (.ref b) H (.bl (decide (ns = ms))) := fun H1 e Q q =>
  ⟨_, _, .lst (ex_l e ha) (dp_ints ns), .lst (ex_l e hb) (dp_ints ms), shLz ns, shLz ms, by rw [PyData.eqv, PySem.W.ked_eqvAll]; exact q H1 (Ex.refl _)⟩
theorem rz_neL (ha : SqL K H a (ns.map V.int)) (hb : SqL K H b (ms.map V.int)) : RV (rNeD K) (.ref a) (.ref b) H (.bl (!decide (ns = ms))) := fun H1 e Q q =>
  ⟨_, _, .lst (ex_l e ha) (dp_ints ns), .lst (ex_l e hb) (dp_ints ms), shLz ns, shLz ms, by rw [PyData.eqv, PySem.W.ked_eqvAll]; exact q H1 (Ex.refl _)⟩
end
/-- arguments some of which are new: what is known of the values -/
def EvQ (ta : TA) (σ : L2.St) (H : Hp) (P : List V → Hp → Prop) : Prop := ∀ H1, Ex H H1 → ∀ Q : List V → Hp → Prop, (∀ vs H2, Ex H1 H2 → P vs H2 → Q vs H2) → ta σ H1 Q
section
variable {σ : L2.St} {H : Hp} {te : TE} {ta tr : TA} {v : V} {xs : List V} {P P1 : List V → Hp → Prop}
theorem aq_nil : EvQ tNil σ H (fun ws _ => ws = []) := fun H1 _ Q q => q [] H1 (Ex.refl _) rfl
theorem aq_cons (h : Ev te σ H v) (hr : EvQ tr σ H P) : EvQ (tCons te tr) σ H (fun ws H => ∃ us, ws = v :: us ∧ P us H) := fun H1 e Q q =>
  h H1 e _ fun H2 e2 => hr H2 (e.trans e2) _ fun us H3 e3 p => q _ H3 (e2.trans e3) ⟨us, rfl, p⟩
theorem aq_consL (h : EvL te σ H xs) (hr : EvQ tr σ H P) : EvQ (tCons te tr) σ H (fun ws H1 => ∃ (p : Addr) (us : List V), ws = .ref p :: us ∧ H p = none ∧ H1 p = some (.lst xs) ∧ P us H1) := fun H1 e Q q =>
  h H1 e _ fun p H2 np e2 h2 => hr H2 (e.trans e2) _ fun us H3 e3 hp => q _ H3 (e2.trans e3) ⟨p, us, rfl, fresh_back e np, e3 _ _ h2, hp⟩
theorem aq_consU (h : EvU te σ H xs) (hr : EvQ tr σ H P) : EvQ (tCons te tr) σ H (fun ws H1 => ∃ (p : Addr) (us : List V), ws = .ref p :: us ∧ H p = none ∧ H1 p = some (.tup xs) ∧ P us H1) := fun H1 e Q q =>
  h H1 e _ fun p H2 np e2 h2 => hr H2 (e.trans e2) _ fun us H3 e3 hp => q _ H3 (e2.trans e3) ⟨p, us, rfl, fresh_back e np, e3 _ _ h2, hp⟩
/-- a list displayed, of items some of which are new, then something about it -/
theorem lq_lst {Q : VK} (h : EvQ ta σ H P) (hl : ∀ vs H1, P vs H1 → vs.length ≤ 1000) (k : ∀ vs p H1, P vs H1 → Ex H H1 → H1 p = none → Q (.ref p) (upd H1 p (.lst vs))) : tLst ta σ H Q :=
  h H (Ex.refl H) _ fun vs H1 e1 hp => ⟨sz_of (by have := hl vs H1 hp; omega), fun p np => k vs p H1 hp e1 np⟩
/-- return [..][e] -/
theorem s_retIx {K : PySem.W.Frag} {D : Ends} {tb : TE} (h : EvQ ta σ H P) (hl : ∀ vs H1, P vs H1 → vs.length ≤ 1000) (k : ∀ vs p H1, P vs H1 → Ex H H1 → H1 p = none → tb σ (upd H1 p (.lst vs)) fun y H2 => rIxL K (.ref p) y H2 (fun v H3 => D.rt v H3)) : tRet (tOp (rIxL K) (tLst ta) tb) D σ H :=
  lq_lst (Q := fun v H1 => tb σ H1 fun y H2 => rIxL K v y H2 (fun v H3 => D.rt v H3)) h hl k
/-- for x in [..], the items some of which are new -/
theorem q_forQ {K : PySem.W.Frag} {D : Ends} {tz tu : TS} {j : Nat} (h : EvQ ta σ H P) (hl : ∀ vs H1, P vs H1 → vs.length ≤ 1000) (Pv : List V → Addr → Nat → L2.St → Hp → Prop) (h0 : ∀ vs p H1, P vs H1 → Ex H H1 → H1 p = none → Pv vs p 0 σ (upd H1 p (.lst vs)))
    (hk : ∀ vs p i σ' H', i ≤ vs.length → Pv vs p i σ' H' → SqL K H' p vs) (hs : ∀ vs p i x σ' H', vs[i]? = some x → Pv vs p i σ' H' → tu { D with nx := Pv vs p (i + 1), ct := Pv vs p (i + 1), bk := tz D } (σ'.set j (some x)) H') (hd : ∀ vs p σ' H', Pv vs p vs.length σ' H' → tz D σ' H') :
    tSeq (tFor (iList K (tLst ta)) (gName j) tu) tz D σ H :=
  lq_lst (Q := fun v H1 => ∃ a, v = .ref a ∧ (∃ xs, SqL K H1 a xs) ∧ tFor (fun _ H R => R (Itl K a) H) (gName j) tu { D with nx := tz D } σ H1) h hl fun vs p H1 hp e1 np =>
    ⟨p, rfl, ⟨vs, sq_of upd_same⟩, for_list (xs := vs) (Pv vs p) (h0 vs p H1 hp e1 np) (hk vs p) (fun i x σ' H' hi q => hs vs p i x σ' H' hi q) (hd vs p)⟩
/-- a call in a try's body -/
theorem q_tryQ {D : Ends} {tz : TS} {t : TA} {sp : Sp} {fE : Ends → L2.St → XK} (h : EvQ t σ H P) (k : ∀ vs H1, P vs H1 → Ex H H1 → sp vs H1 (fun _ H2 => tz D σ H2) (fE { D with nx := tz D } σ)) : tSeq (fun D1 σ H1 => tDrop (tCallS sp (fE D1) t) D1 σ H1) tz D σ H :=
  h H (Ex.refl _) _ fun vs H1 e1 hp => k vs H1 hp e1
end
end My
set_option Elab.async false
set_option linter.all false
set_option maxRecDepth 100000
set_option maxHeartbeats 1000000
namespace My
open PySem PySem.Spec PyProof.Rows L2 L2H Evl GxR MyG MyZ MyT
local macro_rules | `(tactic| walk_at "ev") => `(tactic| repeat' (first
  | exact ev_c
  | exact ev_var rfl
  | exact ea_nil
  | exact eo_none
  | (refine' ev_cb ?ea (rc_len ?sq); (case ea => walk_at "evs"); (case sq => walk_at "sq"))
  | (refine' ev_op ?a ?b (rv_ixL ?sq ?ix); (case a => walk_at "evs"); (case b => walk_at "evs"); (case sq => walk_at "sq"); (case ix => walk_at "at"))
  | refine' ea_cons ?_ ?_
  | refine' eo_some ?_
  | refine' ev_op ?_ ?_ rv_I0
  | refine' ev_op ?_ ?_ (rv_eq ?_)
  | refine' ev_op ?_ ?_ (rv_ne ?_)
  | refine' ev_op ?_ ?_ (rv_I ?_)
  | refine' ev_un ?_ ru_neg
  | refine' ev_cb ?_ rc_int
  | refine' ev_cb ?_ rc_abs
  | refine' ev_cb ?_ rc_max2
  | refine' ev_andV ?_ ?_
  | refine' ev_notV ?_
  | refine' et_test ?_
  | refine' et_B ?_
  | refine' et_not ?_))
local macro_rules | `(tactic| walk_at "side") => `(tactic| first
  | rfl
  | decide
  | exact ⟨by decide, by decide⟩
  | exact .inr ⟨by decide, by decide⟩
  | exact .inl ⟨by decide, by decide⟩
  | omega
  | exact .inl ⟨by omega, by omega⟩
  | exact ⟨by omega, by omega⟩
  | exact .inr ⟨by omega, by omega⟩)
local macro_rules | `(tactic| walk_at "evs") => `(tactic| (walk_at "ev"; all_goals (walk_at "side")))
local macro_rules | `(tactic| walk_at "ex") => `(tactic| first
  | with_reducible exact Ex.refl _
  | with_reducible assumption
  | (refine' Ex.trans ?_ ?b; (case b => with_reducible assumption); walk_at "ex"))
local macro_rules | `(tactic| walk_at "sq") => `(tactic| first
  | (refine' sq_ex ?h ?e; (case h => with_reducible assumption); (case e => walk_at "ex"))
  | (refine' ex_l ?e ?h; (case h => with_reducible assumption); (case e => walk_at "ex"))
  | (refine' ex_l ?e ?h; (case h => assumption); (case e => walk_at "ex"))
  | assumption
  | exact sq_of (by assumption))
local macro_rules | `(tactic| walk_at "at") => `(tactic| first
  | exact at_int (by omega) (by omega)
  | exact atI_nat (j := 0) rfl
  | exact atI_nat (j := 1) rfl
  | exact atI_nat (j := 2) rfl)
local macro_rules | `(tactic| walk_at "side2") => `(tactic| first | exact CMul_bdl (by assumption) | exact CMul_bdr (by assumption) | walk_at "side")
local macro_rules | `(tactic| walk_at "evb") => `(tactic| (walk_at "ev"; all_goals (walk_at "side2")))

local macro_rules | `(tactic| walk_at "nm") => `(tactic| (try simp only [List.set_cons_zero, List.set_cons_succ]))
theorem el_catLL' {σ : L2.St} {H : Hp} {ta tb : TE} {xs ys : List V} (ha : EvL ta σ H xs) (hb : EvL tb σ H ys) (hz : xs.length + ys.length ≤ 100000) : EvL (tOp rCat ta tb) σ H (xs ++ ys) := fun H1 e Q q =>
  ha H1 e _ fun l H2 nl e2 hl => hb H2 (e.trans e2) _ fun p H3 np e3 hp => ⟨l, p, xs, ys, rfl, rfl, e3 _ _ hl, hp, sz_of hz, fun r nr => q r _ (fresh_back (e2.trans e3) nr) ((e2.trans e3).trans (Ex.new nr)) upd_same⟩
/-- isinstance of the exception in its own suite -/
def rIsZ (K : PySem.W.Frag) (D a : Addr) (cls : Value) (d : Option Addr) : List V → Hp → VK → Prop := fun xs H Q => (cls = .ref D ∧ d = none) ∧ rIsE K D a xs H Q
theorem call_isS {X : Cx} {a D : Addr} {oe : Obj} {pn : List (Addr × Obj)} {cls : Value} {d : Option Addr} (C : ExcC X.K D) (hz : Zc cls d oe) (hf : ∃ vs, oe.data = .fields vs) : CallR (X.suite a ((a, oe) :: pn)) (.builtin "isinstance") (rIsZ X.K D a cls d) := by
  intro pins s σ H xs us Q I r h
  obtain ⟨⟨h1, h2⟩, h3⟩ := h
  subst h1 h2
  exact call_isE C hz hf pins s σ H xs us Q I r h3
theorem rc_isZ {K : PySem.W.Frag} {D a : Addr} {c : V} {cv : Value} {b : Bool} {H : Hp} (h : ∀ u, RelV c u → u = cv) (hk : PySem.W.kitOne K (.ref D) cv = some b) : RC (rIsZ K D a (.ref D) none) [.ref a, c] H (.bl b) :=
  fun H1 _ _ q => ⟨⟨rfl, rfl⟩, c, cv, b, rfl, h, hk, q H1 (Ex.refl H1)⟩
structure XErr (K : PySem.W.Frag) (mg : Str → Option Value) (D cE : Addr) : Prop where
  c : ExcC K D
  e : PySem.W.exmOne K (.ref D) (.ref D) = some true
  gE : mg "CodeError" = some (.ref cE)
  zV : mg "ValueError" = none
  k1 : PySem.W.kitOne K (.ref D) (.ref cE) = some true
  k2 : PySem.W.kitOne K (.ref D) (.type "ValueError") = some true
section
variable {P : Program} {w : World} {K : PySem.W.Frag} {mg : Str → Option Value} {base : Heap}
/-! _law_refused: 0 order, 1 counts, 2 passed, 3 e -/
abbrev s_law_refused : Stmt := topS 26
theorem sc_law_refused : FnScope ["order", "counts", "passed", "e"] ["order", "counts"] (defScope s_law_refused) := ⟨rfl, rfl, rfl, by decide +kernel, rfl, by decide +kernel, by decide +kernel⟩
def spRef (K : PySem.W.Frag) (Pt : Addr) : Sp := fun vs H Q _ => ∃ (q : Int) (a : Addr) (ns : List Int), vs = [.int q, .ref a] ∧ SqL K H a (ns.map V.int) ∧ TabE H Pt ∧ (∀ x ∈ ns, x.natAbs < 2 ^ 390) ∧ (mayC q ns && !dualBad q ns) = false ∧ RetV (.bl true) H Q
theorem ok_ref {fa D Pt cE : Addr} {fd : FuncData} (F : Fun K "_law_refused" "_law_refused" s_law_refused fa fd) (T : FTxt mg) (TZ : XTxt K mg "InvalidCode" D) (TE : XErr K mg D cE) (D_dual_enumerator : Dk P w K mg base (L2.CX P w) 3 "dual_enumerator" ["order", "counts"] (spDual K D Pt)) : FnOk P w K mg base CX0 4 fa fd ["order", "counts"] (spRef K Pt) := by
  refine F.ok sc_law_refused (fun vs H Q E h => ?_) (fun cdv A outer s H vs Q E hr h => ?_)
  · obtain ⟨_, _, _, rfl, _⟩ := h
    rfl
  obtain ⟨q, a, ns, rfl, hA, hT, hb, hno, kk⟩ := h
  refine ⟨_, (pss_cons (ps_set (i := 2) sc_law_refused.nd rfl (Or.inl rfl) (pe_callTy call_list_of (by rfl) T.z_list (by decide +kernel) (pa_cons (pv 1) pa_nil)))
    (pss_cons (ps_try_as (i := 3) (tb := fun W => tDrop (tCallS (spDual K D Pt) (WE W) (tCons (tVar 0) (tCons (tVar 2) tNil)))) (ts := fun x cls d => tRet (tAndV (tCB (rIsZ K D x cls d) (tCons (tVar 3) (tCons (tC (.ref cE)) tNil))) (tAndV (tCB (rIsZ K D x cls d) (tCons (tVar 3) (tCons (tC (.ty "ValueError")) tNil))) (tOp (rEqD K) (tVar 2) (tVar 1))))) (Wout := fun _ _ _ _ => False) rfl rfl sc_law_refused.nd rfl rfl ⟨rfl, by decide, Or.inl TZ.g⟩ takes0
        (fun W pn xe tk _ => pss_one (ps_expr (by exact (pe_cdS D_dual_enumerator hr (by rfl) (fun σ => passAt tk σ) (pa_cons (pv 0) (pa_cons (pv 2) pa_nil))))))
        (fun y oe cls d pn hz hf => pss_one (ps_ret (by exact (pe_and (pe_callB (call_isS TE.c hz hf) (by rfl) T.z_isinstance (by decide +kernel) (pa_cons (pv 3) (pa_cons (pe_glob (v := .ref cE) rfl TE.gE rfl) pa_nil))) (pe_and (pe_callB (call_isS TE.c hz hf) (by rfl) T.z_isinstance (by decide +kernel) (pa_cons (pv 3) (pa_cons (pe_bltn (v := .ty "ValueError") (by rfl) TE.zV (by decide +kernel) rfl) pa_nil))) (pe_one (pe_cmpR (op_eqD hr.units) (pv 2) (pv 1) (nomark _)))))))))
    (pss_one (ps_ret pe_bl)))), ?_⟩
  refine q_asgL (el_list (ev_var rfl) hA) fun p H1 np e1 h1 => ?_
  walk_at "nm"
  refine q_tryQ (aq_cons (ev_var rfl) (aq_cons (ev_var rfl) aq_nil)) ?_
  rintro _ H2 ⟨_, rfl, _, rfl, rfl⟩ e2
  refine ⟨q, p, ns, rfl, sq_of (e2 _ _ h1), (e1.trans e2) _ _ hT, hb, fun z => absurd (hno.symm.trans z) (by decide), fun _ H3 e3 => ?_⟩
  refine ⟨true, TE.e, fun _ y2 ny2 => ?_, fun q => Bool.noConfusion q⟩
  have e13 := e2.trans e3
  exact s_ret (v := .bl true) (ev_andV (a := true) (b := true) (ev_cb (ea_cons (ev_var rfl) (ea_cons ev_c ea_nil)) (rc_isZ (fun _ r => r) TE.k1)) fun _ => ev_andV (a := true) (b := true) (ev_cb (ea_cons (ev_var rfl) (ea_cons ev_c ea_nil)) (rc_isZ (fun _ r => r) TE.k2)) fun _ => ev_is (ev_op (ev_var rfl) (ev_var rfl) (rz_eqL (ns := ns) (ms := ns) (sq_of (e13 _ _ h1)) (ex_l (e1.trans e13) hA))) (by rw [decide_eq_true rfl])) fun H4 e4 => kk H4 ((e1.trans e13).trans e4)
/-! _law_block: 0 order*, 1 size, 2 kind, 3 whole*, 4 equal, 5 other*, 6 even, 7 none, 8 k -/
abbrev s_law_block : Stmt := topS 25
theorem sc_law_block : FnScope ["order", "size", "kind", "whole", "equal", "other", "even", "none", "k"] ["order", "size", "kind"] (defScope s_law_block) := ⟨rfl, rfl, rfl, by decide +kernel, rfl, by decide +kernel, by decide +kernel⟩
def spBlk (K : PySem.W.Frag) : Sp := fun vs H Q _ => ∃ (q : Int) (s k : Nat), vs = [.int q, .int (s : Int), .int (k : Int)] ∧ 2 ≤ q ∧ q ≤ 256 ∧ 1 ≤ s ∧ s ≤ 4 ∧ k < 4 ∧ ∀ (T pa pb : Addr) H2, Ex H H2 → H2 T = some (.tup [.ref pa, .ref pb]) → H2 pa = some (.lst ((blk q s k).1.map V.int)) → H2 pb = some (.lst ((blk q s k).2.map V.int)) → Q (.ref T) H2
theorem ok_blk {fa : Addr} {fd : FuncData} (F : Fun K "_law_block" "_law_block" s_law_block fa fd) (T : FTxt mg) (D_law_repeated : Dk P w K mg base CX0 3 "_law_repeated" ["factor", "times"] (spRep K)) : FnOk P w K mg base CX0 4 fa fd ["order", "size", "kind"] (spBlk K) := by
  refine F.ok sc_law_block (fun vs H Q E h => ?_) (fun cdv A outer s H vs Q E hr h => ?_)
  · obtain ⟨_, _, _, rfl, _⟩ := h
    rfl
  obtain ⟨q, sz, kd, rfl, q2, q3, s1, s2, kd4, k⟩ := h
  refine ⟨_, (pss_cons (ps_set (i := 3) sc_law_block.nd rfl (Or.inr rfl) (pe_cd D_law_repeated hr (by rfl) (pa_cons (pe_lst (pa_cons pe_int (pa_cons (pe_op op_sub (pv 0) pe_int) pa_nil))) (pa_cons (pv 1) pa_nil))))
    (pss_cons (ps_set (i := 4) sc_law_block.nd rfl (Or.inl rfl) (pe_op op_cat (pe_op op_cat (pe_lst (pa_cons pe_int pa_nil)) (pe_op op_rep (pe_lst (pa_cons pe_int pa_nil)) (pe_op op_sub (pv 1) pe_int))) (pe_lst (pa_cons (pe_op op_sub (pv 0) pe_int) pa_nil))))
    (pss_cons (ps_set (i := 5) sc_law_block.nd rfl (Or.inr rfl) (pe_cd D_law_repeated hr (by rfl) (pa_cons (pe_lst (pa_cons pe_int (pa_cons (pe_un un_neg pe_int) pa_nil))) (pa_cons (pv 1) pa_nil))))
    (pss_cons (ps_setLc (i := 6) (own := [("k", 8)]) (g := (gName 8)) (tt := tYes) rfl sc_law_block.nd rfl rfl (sw_true rfl rfl rfl (by decide +kernel)) (pi_range1 (by rfl) T.z_range (pa_cons (pe_op op_add (pv 1) pe_int) pa_nil)) (blkOk_by (own := [("k", 8)]) (N := ["order", "size", "kind", "whole", "equal", "other", "even", "none", "k"]) (sc := defScope s_law_block) (by decide +kernel)) (fun _ _ _ _ _ => (pg_name (i := 8) sc_law_block.nd rfl (Or.inl rfl))) (fun _ _ _ _ _ => pts_nil) (fun _ _ _ _ _ => pe_op op_fdiv (pe_op op_add (pe_ix (ix_listK (K := K) rfl) (pv 3) (pv 8) (fun _ _ => rfl)) (pe_op op_mul (pe_op op_sub (pv 0) pe_int) (pe_ix (ix_listK (K := K) rfl) (pv 5) (pv 8) (fun _ _ => rfl)))) (pv 0)))
    (pss_cons (ps_set (i := 7) sc_law_block.nd rfl (Or.inl rfl) (pe_op op_cat (pe_lst (pa_cons pe_int pa_nil)) (pe_op op_rep (pe_lst (pa_cons pe_int pa_nil)) (pv 1))))
    (pss_one (ps_ret (pe_ix ix_list (pe_lst (pa_cons (pe_tup (pa_cons (pv 3) (pa_cons (pv 7) pa_nil))) (pa_cons (pe_tup (pa_cons (pv 7) (pa_cons (pv 3) pa_nil))) (pa_cons (pe_tup (pa_cons (pv 4) (pa_cons (pv 6) pa_nil))) (pa_cons (pe_tup (pa_cons (pv 6) (pa_cons (pv 4) pa_nil))) pa_nil))))) (pv 2) (fun _ _ => rfl))))))))), ?_⟩
  refine q_asgL (el_callLn (xs := [V.int 1, V.int (q - 1)]) (el_lst (ea_cons ev_c (ea_cons (ev_op (ev_var rfl) ev_c rv_I0) ea_nil)) (by show 2 ≤ 100000; decide)) (ev_var rfl) (fun p H1 e1 h1 Q1 q1 E1 => ⟨p, q - 1, sz, rfl, sq_of h1, by omega, by omega, q1⟩)) fun p1 H1 n1 e1 h1 => ?_
  walk_at "nm"
  have el1 : ∀ {σ : L2.St} {H : Hp} {te : TE} {z : Int}, Ev te σ H (.int z) → EvL (tLst (tCons te tNil)) σ H (([z] : List Int).map V.int) := fun h => el_lst (ea_cons h ea_nil) (by show 1 ≤ 100000; decide)
  have c2 := el_catLL' (σ := [some (V.int q), some (.int (sz : Int)), some (.int (kd : Int)), some (.ref p1), none, none, none, none, none]) (H := H1) (el_catLL' (el1 (ev_c (v := .int 1))) (el_zeros (tn := tOp (rI0 fun i j => .int (i - j)) (tVar 1) (tC (.int 1))) (n := sz - 1) (ev_is (ev_op (ev_var rfl) ev_c rv_I0) (congrArg V.int (by omega))) (by omega)) (by rw [List.length_map, List.length_map, List.length_replicate]; show 1 + (sz - 1) ≤ _; omega)) (el1 (ev_op (ev_var (i := 0) rfl) (ev_c (v := .int 1)) (rv_I0 (g := fun i j => .int (i - j))))) (by rw [List.length_append, List.length_map, List.length_map, List.length_map, List.length_replicate]; show 1 + (sz - 1) + 1 ≤ _; omega)
  rw [← List.map_append, ← List.map_append] at c2
  refine q_asgL c2 fun p2 H2 n2 e2 h2 => ?_
  walk_at "nm"
  refine q_asgL (el_callLn (xs := [V.int 1, V.int (-1)]) (el_lst (ea_cons ev_c (ea_cons (ev_un ev_c ru_neg) ea_nil)) (by show 2 ≤ 100000; decide)) (ev_var rfl) (fun p H1 e1 h1 Q1 q1 E1 => ⟨p, -1, sz, rfl, sq_of h1, by decide, by omega, q1⟩)) fun p3 H3 n3 e3 h3 => ?_
  walk_at "nm"
  have l1 : (repZ [1, q - 1] sz).length = sz + 1 := repZ_len _ rfl sz
  have l3 : (repZ [1, -1] sz).length = sz + 1 := repZ_len _ rfl sz
  have h13 := (e2.trans e3) _ _ h1
  have h23 := e3 _ _ h2
  refine q_asgL (xs := (evenL q sz).map V.int) ?_ fun p4 H4 n4 e4 h4 => ?_
  · unfold evenL
    rw [← given_map]
    refine el_lcR1 (n := ((sz + 1 : Nat) : Int)) (vs := [8]) (fun _ => true) _ (ea_cons (ev_is (ev_op (ev_var rfl) ev_c rv_I0) (by congr 1)) ea_nil) ⟨by omega, by omega⟩ (fun x => rfl) (fun i H5 e5 hi => et_yes) (fun i H5 e5 hi _ => ?_)
    exact ev_op (ev_op (ev_op (ev_var rfl) (ev_var rfl) (rv_ixL (sq_of (e5 _ _ h13)) (atN (by omega)))) (ev_op (ev_op (ev_var rfl) ev_c rv_I0) (ev_op (ev_var rfl) (ev_var rfl) (rv_ixL (sq_of (e5 _ _ h3)) (atN (by omega)))) (rv_I (.inl ⟨by omega, by omega⟩))) rv_I0) (ev_var rfl) (rv_I ⟨by omega, by omega⟩)
  walk_at "nm"
  have c5 := el_catLL' (σ := [some (V.int q), some (.int (sz : Int)), some (.int (kd : Int)), some (.ref p1), some (.ref p2), some (.ref p3), some (.ref p4), none, none]) (H := H4) (el1 (ev_c (v := .int 1))) (el_zeros (tn := tVar 1) (n := sz) (ev_var rfl) (by omega)) (by rw [List.length_map, List.length_map, List.length_replicate]; show 1 + sz ≤ _; omega)
  rw [← List.map_append] at c5
  refine q_asgL c5 fun p5 H5 n5 e5 h5 => ?_
  walk_at "nm"
  have et : ∀ {σ : L2.St} {H : Hp} {i j : Nat} {a b : Addr}, σ[i]? = some (some (.ref a)) → σ[j]? = some (some (.ref b)) → EvU (tTup (tCons (tVar i) (tCons (tVar j) tNil))) σ H [.ref a, .ref b] := fun ha hb => eu_tup (ea_cons (ev_var ha) (ea_cons (ev_var hb) ea_nil)) (by show 2 ≤ 100000; decide)
  have e15 := e1.trans (e2.trans (e3.trans (e4.trans e5)))
  have g1 := (e4.trans e5) _ _ h13
  have g2 := (e4.trans e5) _ _ h23
  have g4 := e5 _ _ h4
  refine s_retIx (aq_consU (et (i := 3) (j := 7) rfl rfl) (aq_consU (et (i := 7) (j := 3) rfl rfl) (aq_consU (et (i := 4) (j := 6) rfl rfl) (aq_consU (et (i := 6) (j := 4) rfl rfl) aq_nil)))) (by rintro _ _ ⟨_, _, rfl, _, _, _, _, rfl, _, _, _, _, rfl, _, _, _, _, rfl, _, _, rfl⟩; show 4 ≤ 1000; decide) ?_
  rintro _ p H6 ⟨t1, _, rfl, nt1, ht1, t2, _, rfl, nt2, ht2, t3, _, rfl, nt3, ht3, t4, _, rfl, nt4, ht4, rfl⟩ e6 np
  have e7 : Ex H6 (upd H6 p (.lst [.ref t1, .ref t2, .ref t3, .ref t4])) := Ex.new np
  have e57 := e6.trans e7
  have e17 := e15.trans e57
  match kd, kd4 with
  | 0, _ => exact ⟨_, rfl, p, _, 0, .ref t1, rfl, rfl, sq_of upd_same, atI_nat (j := 0) rfl, k t1 p1 p5 _ e17 (e7 _ _ ht1) (e57 _ _ g1) (e57 _ _ h5)⟩
  | 1, _ => exact ⟨_, rfl, p, _, 1, .ref t2, rfl, rfl, sq_of upd_same, atI_nat (j := 1) rfl, k t2 p5 p1 _ e17 (e7 _ _ ht2) (e57 _ _ h5) (e57 _ _ g1)⟩
  | 2, _ => exact ⟨_, rfl, p, _, 2, .ref t3, rfl, rfl, sq_of upd_same, atI_nat (j := 2) rfl, k t3 p2 p4 _ e17 (e7 _ _ ht3) (e57 _ _ g2) (e57 _ _ g4)⟩
  | 3, _ => exact ⟨_, rfl, p, _, 3, .ref t4, rfl, rfl, sq_of upd_same, atI_nat (j := 3) rfl, k t4 p4 p2 _ e17 (e7 _ _ ht4) (e57 _ _ g4) (e57 _ _ g2)⟩
end
end My
set_option Elab.async false
set_option linter.all false
set_option maxRecDepth 100000
set_option maxHeartbeats 1000000
namespace My
open PySem PySem.Spec PyProof.Rows L2 L2H Evl GxR MyG MyZ MyT
local macro_rules | `(tactic| walk_at "ev") => `(tactic| repeat' (first
  | exact ev_c
  | exact ev_var rfl
  | exact ea_nil
  | exact eo_none
  | (refine' ev_cb ?ea (rc_len ?sq); (case ea => walk_at "evs"); (case sq => walk_at "sq"))
  | (refine' ev_op ?a ?b (rv_ixL ?sq ?ix); (case a => walk_at "evs"); (case b => walk_at "evs"); (case sq => walk_at "sq"); (case ix => walk_at "at"))
  | refine' ea_cons ?_ ?_
  | refine' eo_some ?_
  | refine' ev_op ?_ ?_ rv_I0
  | refine' ev_op ?_ ?_ (rv_eq ?_)
  | refine' ev_op ?_ ?_ (rv_ne ?_)
  | refine' ev_op ?_ ?_ (rv_I ?_)
  | refine' ev_un ?_ ru_neg
  | refine' ev_cb ?_ rc_int
  | refine' ev_cb ?_ rc_abs
  | refine' ev_cb ?_ rc_max2
  | refine' ev_andV ?_ ?_
  | refine' ev_notV ?_
  | refine' et_test ?_
  | refine' et_B ?_
  | refine' et_not ?_))
local macro_rules | `(tactic| walk_at "side") => `(tactic| first
  | rfl
  | decide
  | exact ⟨by decide, by decide⟩
  | exact .inr ⟨by decide, by decide⟩
  | exact .inl ⟨by decide, by decide⟩
  | omega
  | exact .inl ⟨by omega, by omega⟩
  | exact ⟨by omega, by omega⟩
  | exact .inr ⟨by omega, by omega⟩)
local macro_rules | `(tactic| walk_at "evs") => `(tactic| (walk_at "ev"; all_goals (walk_at "side")))
local macro_rules | `(tactic| walk_at "ex") => `(tactic| first
  | with_reducible exact Ex.refl _
  | with_reducible assumption
  | (refine' Ex.trans ?_ ?b; (case b => with_reducible assumption); walk_at "ex"))
local macro_rules | `(tactic| walk_at "sq") => `(tactic| first
  | (refine' sq_ex ?h ?e; (case h => with_reducible assumption); (case e => walk_at "ex"))
  | (refine' ex_l ?e ?h; (case h => with_reducible assumption); (case e => walk_at "ex"))
  | (refine' ex_l ?e ?h; (case h => assumption); (case e => walk_at "ex"))
  | assumption
  | exact sq_of (by assumption))
local macro_rules | `(tactic| walk_at "at") => `(tactic| first
  | exact at_int (by omega) (by omega)
  | exact atI_nat (j := 0) rfl
  | exact atI_nat (j := 1) rfl
  | exact atI_nat (j := 2) rfl)
local macro_rules | `(tactic| walk_at "side2") => `(tactic| first | exact CMul_bdl (by assumption) | exact CMul_bdr (by assumption) | walk_at "side")
local macro_rules | `(tactic| walk_at "evb") => `(tactic| (walk_at "ev"; all_goals (walk_at "side2")))

local macro_rules | `(tactic| walk_at "nm") => `(tactic| (try simp only [List.set_cons_zero, List.set_cons_succ]))
theorem cut_from1 (xs : List V) (h : 1 ≤ xs.length) : cutV xs (some 1) none = xs.drop 1 := by
  unfold cutV
  rw [show (some (1 : Int)) = some ((1 : Nat) : Int) from rfl, HT.sIx_nat, HT.sIx_none, Nat.min_eq_left h, List.take_of_length_le (by rw [List.length_drop]; omega)]
theorem ev_callVL {σ : L2.St} {H : Hp} {te tb : TE} {sp : Sp} {E : XK} {xs : List V} {y z : V} (h : Ev te σ H y) (h2 : EvL tb σ H xs) (hs : ∀ p H1, Ex H H1 → H1 p = some (.lst xs) → ∀ Q : VK, RetV z H1 Q → ∀ E, sp [y, .ref p] H1 Q E) : Ev (tCall sp [] E (tCons te (tCons tb tNil))) σ H z := fun H1 e Q q =>
  h H1 e _ fun H2 e2 => h2 H2 (e.trans e2) _ fun p H3 np e3 hp => by
    show sp ([y, V.ref p] ++ []) H3 Q E
    rw [List.append_nil]
    exact hs p H3 (e.trans (e2.trans e3)) hp Q (fun H4 e4 => q H4 ((e2.trans e3).trans e4)) E
theorem q_asgQ {σ : L2.St} {H : Hp} {ta : TA} {P : List V → Hp → Prop} {D : Ends} {tz : TS} {i : Nat} (h : EvQ ta σ H P) (hl : ∀ vs H1, P vs H1 → vs.length ≤ 1000) (k : ∀ vs p H1, P vs H1 → Ex H H1 → H1 p = none → tz D (σ.set i (some (.ref p))) (upd H1 p (.lst vs))) : tSeq (tAsg (tLst ta) (gName i)) tz D σ H :=
  lq_lst (Q := fun v H1 => tz D (σ.set i (some v)) H1) h hl k
theorem bads_bd {q : Int} (h2 : 2 ≤ q) (h3 : q ≤ 256) : ∀ l ∈ bads q, ∀ x ∈ l, x.natAbs < 2 ^ 390 := fun l hl x hx => by
  have h9 : (2 : Nat) ^ 9 ≤ 2 ^ 390 := by decide
  have : x.natAbs ≤ 256 := by
    unfold bads at hl
    simp only [List.mem_cons, List.not_mem_nil, or_false] at hl
    rcases hl with rfl | rfl | rfl | rfl | rfl | rfl | rfl | rfl | rfl <;> simp only [List.mem_cons, List.not_mem_nil, or_false, List.mem_append, List.mem_replicate] at hx
    · rw [hx]; decide
    · rcases hx with rfl | rfl <;> decide
    · rcases hx with rfl | rfl <;> omega
    · rcases hx with rfl | rfl <;> decide
    · rcases hx with rfl | rfl | rfl | rfl <;> omega
    · rcases hx with rfl | rfl | rfl <;> omega
    · rcases hx with rfl | rfl | rfl <;> omega
    · rcases hx with rfl | ⟨_, rfl⟩ <;> decide
  omega
theorem bads2_no' {l : List Int} (h : l ∈ bads2) : (mayC 2 l && !dualBad 2 l) = false := by
  have := List.all_eq_true.mp bads2_no l h
  rw [Bool.not_eq_true'] at this
  exact this
theorem bads2_bd : ∀ l ∈ bads2, ∀ x ∈ l, x.natAbs < 2 ^ 390 := by decide +kernel
section
variable {P : Program} {w : World} {K : PySem.W.Frag} {mg : Str → Option Value} {base : Heap}
/-! _law_refusals: 0 order, 1 counts, 2 bad, 3 other -/
abbrev s_law_refusals : Stmt := topS 27
theorem sc_law_refusals : FnScope ["order", "counts", "bad", "other"] ["order", "counts"] (defScope s_law_refusals) := ⟨rfl, rfl, rfl, by decide +kernel, rfl, by decide +kernel, by decide +kernel⟩
def spRefs (K : PySem.W.Frag) (Pt : Addr) : Sp := fun vs H Q _ => ∃ (q : Int) (a : Addr) (ns : List Int), vs = [.int q, .ref a] ∧ SqL K H a (ns.map V.int) ∧ TabE H Pt ∧ (∀ x ∈ ns, x.natAbs < 2 ^ 389) ∧ q ∈ orders ∧ cf ns 0 = 1 ∧ 2 ≤ ns.length ∧ ns.length ≤ 256 ∧ RetV (.bl true) H Q
theorem ok_refs {fa Pt : Addr} {fd : FuncData} (F : Fun K "_law_refusals" "_law_refusals" s_law_refusals fa fd) (T : FTxt mg) (D_law_refused : Dk P w K mg base CX0 4 "_law_refused" ["order", "counts"] (spRef K Pt)) : FnOk P w K mg base CX0 5 fa fd ["order", "counts"] (spRefs K Pt) := by
  refine F.ok sc_law_refusals (fun vs H Q E h => ?_) (fun cdv A outer s H vs Q E hr h => ?_)
  · obtain ⟨_, _, _, rfl, _⟩ := h
    rfl
  obtain ⟨q, a, ns, rfl, hA, hT, hb, hq, h0, l2, l3, kk⟩ := h
  obtain ⟨q2, q3⟩ := orders_bd hq
  refine ⟨_, (pss_cons (ps_set (i := 2) sc_law_refusals.nd rfl (Or.inl rfl) (pe_lst (pa_cons (pe_lst pa_nil) (pa_cons (pe_lst (pa_cons pe_int pa_nil)) (pa_cons (pe_lst (pa_cons pe_int (pa_cons pe_int pa_nil))) (pa_cons (pe_lst (pa_cons (pv 0) (pa_cons pe_int pa_nil))) (pa_cons (pe_lst (pa_cons pe_int (pa_cons pe_int pa_nil))) (pa_cons (pe_lst (pa_cons pe_int (pa_cons pe_int (pa_cons pe_int (pa_cons (pv 0) pa_nil))))) (pa_cons (pe_lst (pa_cons pe_int (pa_cons (pe_un un_neg pe_int) (pa_cons (pv 0) pa_nil)))) (pa_cons (pe_lst (pa_cons pe_int (pa_cons (pv 0) (pa_cons pe_int pa_nil)))) (pa_cons (pe_op op_cat (pe_lst (pa_cons pe_int pa_nil)) (pe_op op_rep (pe_lst (pa_cons pe_int pa_nil)) pe_int)) pa_nil)))))))))))
    (pss_cons (ps_for PassesOwn.never rfl (pi_list (pv 2)) (pg_name (i := 3) sc_law_refusals.nd rfl (Or.inl rfl))
      (pss_one (ps_if (pt_not (pt_val (pe_cd D_law_refused hr (by rfl) (pa_cons (pv 0) (pa_cons (pv 3) pa_nil)))))
        (pss_one (ps_ret pe_bl))
        pss_nil)))
    (pss_cons (ps_for PassesOwn.never rfl (pi_list (pe_lst (pa_cons pe_int (pa_cons pe_int (pa_cons (pe_un un_neg pe_int) (pa_cons pe_int pa_nil)))))) (pg_name (i := 3) sc_law_refusals.nd rfl (Or.inl rfl))
      (pss_one (ps_if (pt_not (pt_val (pe_cd D_law_refused hr (by rfl) (pa_cons (pv 3) (pa_cons (pv 1) pa_nil)))))
        (pss_one (ps_ret pe_bl))
        pss_nil)))
    (pss_cons (ps_for PassesOwn.never rfl (pi_list (pe_lst (pa_cons (pe_lst (pa_cons pe_int (pa_cons pe_int (pa_cons pe_int (pa_cons pe_int pa_nil))))) (pa_cons (pe_lst (pa_cons pe_int (pa_cons pe_int (pa_cons pe_int (pa_cons pe_int pa_nil))))) (pa_cons (pe_lst (pa_cons pe_int (pa_cons pe_int (pa_cons pe_int pa_nil)))) (pa_cons (pe_lst (pa_cons pe_int (pa_cons pe_int pa_nil))) pa_nil)))))) (pg_name (i := 3) sc_law_refusals.nd rfl (Or.inl rfl))
      (pss_one (ps_if (pt_not (pt_val (pe_cd D_law_refused hr (by rfl) (pa_cons pe_int (pa_cons (pv 3) pa_nil)))))
        (pss_one (ps_ret pe_bl))
        pss_nil)))
    (pss_one (ps_ret (pe_cd D_law_refused hr (by rfl) (pa_cons (pv 0) (pa_cons (pe_op op_cat (pe_lst (pa_cons (pe_op op_add (pe_ix ix_list (pv 1) pe_int (fun _ _ => rfl)) pe_int) pa_nil)) (pe_slice sl_list (pv 1) (po_some pe_int) po_none)) pa_nil))))))))), ?_⟩
  have hb' : ∀ x ∈ ns, x.natAbs < 2 ^ 390 := fun x hx => Nat.lt_trans (hb x hx) (by decide)
  have rep := el_catLL' (σ := [some (V.int q), some (.ref a), none, none]) (H := H) (el_lst (ea_cons (ev_c (v := .int 1)) ea_nil) (by show 1 ≤ 100000; decide)) (el_zeros (tn := tC (.int 256)) (n := 256) ev_c (by decide)) (by rw [List.length_map, List.length_replicate]; show 1 + 256 ≤ 100000; decide)
  have c1 : ∀ {σ : L2.St} {H : Hp}, Ev (tC (.int 1)) σ H (.int 1) := ev_c
  have c0 : ∀ {σ : L2.St} {H : Hp}, Ev (tC (.int 0)) σ H (.int 0) := ev_c
  have nn : ∀ {σ : L2.St} {H : Hp} {tA : TA} {vs : List V}, EvA tA σ H vs → vs.length ≤ 10 → EvL (tLst tA) σ H vs := fun h hl => el_lst h (by omega)
  refine q_asgQ (aq_consL (nn ea_nil (by decide)) (aq_consL (nn (ea_cons c1 ea_nil) (by decide)) (aq_consL (nn (ea_cons c0 (ea_cons c1 ea_nil)) (by decide)) (aq_consL (nn (ea_cons (ev_var (i := 0) rfl) (ea_cons c0 ea_nil)) (by show 2 ≤ 10; decide)) (aq_consL (nn (ea_cons c0 (ea_cons c0 ea_nil)) (by decide)) (aq_consL (nn (ea_cons c1 (ea_cons c0 (ea_cons c0 (ea_cons (ev_var (i := 0) rfl) ea_nil)))) (by show 4 ≤ 10; decide)) (aq_consL (nn (ea_cons c1 (ea_cons (ev_un c1 ru_neg) (ea_cons (ev_var (i := 0) rfl) ea_nil))) (by show 3 ≤ 10; decide)) (aq_consL (nn (ea_cons c1 (ea_cons (ev_var (i := 0) rfl) (ea_cons c0 ea_nil))) (by show 3 ≤ 10; decide)) (aq_consL rep aq_nil)))))))))
    (by rintro _ _ ⟨_, _, rfl, _, _, _, _, rfl, _, _, _, _, rfl, _, _, _, _, rfl, _, _, _, _, rfl, _, _, _, _, rfl, _, _, _, _, rfl, _, _, _, _, rfl, _, _, _, _, rfl, _, _, rfl⟩; show 9 ≤ 1000; decide) ?_
  intro vs p H1 hvs e1 np
  have hall : ∀ v ∈ vs, ∃ (r : Addr) (l : List Int), v = .ref r ∧ H1 r = some (.lst (l.map V.int)) ∧ l ∈ bads q := by
    obtain ⟨r1, _, rfl, _, h1, r2, _, rfl, _, h2, r3, _, rfl, _, h3, r4, _, rfl, _, h4, r5, _, rfl, _, h5, r6, _, rfl, _, h6, r7, _, rfl, _, h7, r8, _, rfl, _, h8, r9, _, rfl, _, h9, rfl⟩ := hvs
    intro v hv
    simp only [List.mem_cons, List.not_mem_nil, or_false] at hv
    unfold bads
    rcases hv with rfl | rfl | rfl | rfl | rfl | rfl | rfl | rfl | rfl
    · exact ⟨r1, [], rfl, h1, by simp⟩
    · exact ⟨r2, [1], rfl, h2, by simp⟩
    · exact ⟨r3, [0, 1], rfl, h3, by simp⟩
    · exact ⟨r4, [q, 0], rfl, h4, by simp⟩
    · exact ⟨r5, [0, 0], rfl, h5, by simp⟩
    · exact ⟨r6, [1, 0, 0, q], rfl, h6, by simp⟩
    · exact ⟨r7, [1, -1, q], rfl, h7, by simp⟩
    · exact ⟨r8, [1, q, 0], rfl, h8, by simp⟩
    · refine ⟨r9, [1] ++ List.replicate 256 0, rfl, ?_, by simp⟩
      rw [h9, List.map_append]
      rfl
  clear hvs rep
  walk_at "nm"
  have e1' : Ex H1 (upd H1 p (.lst vs)) := Ex.new np
  have hp : upd H1 p (.lst vs) p = some (.lst vs) := upd_same
  generalize upd H1 p (.lst vs) = H2 at e1' hp
  have e2 := e1.trans e1'
  refine q_forLn (a := p) (xs := vs) (ev_var rfl) (sq_of hp) (fun i σ' H' => ∃ y3, σ' = [some (.int q), some (.ref a), some (.ref p), y3] ∧ Ex H2 H') ?_ ?_ ?_ ?_
  · intro H3 e3
    exact ⟨none, rfl, e3⟩
  · rintro i σ' H' _ ⟨_, _, ex⟩
    exact sq_of (ex _ _ hp)
  · rintro i x σ' H' hi ⟨y3, rfl, ex⟩
    obtain ⟨r, l, rfl, hr1, hl⟩ := hall x (List.mem_of_getElem? hi)
    walk_at "nm"
    refine s_when (b := false) (et_is (et_not (et_B (ev_call (z := .bl true) (ea_cons (ev_var rfl) (ea_cons (ev_var rfl) ea_nil)) (fun H4 e4 Q2 q2' E2 => ⟨q, r, l, rfl, sq_of ((e1'.trans (ex.trans e4)) _ _ hr1), (e2.trans (ex.trans e4)) _ _ hT, bads_bd q2 q3 l hl, by rw [bad_no hq hl]; rfl, q2'⟩)))) rfl) (fun z => Bool.noConfusion z) fun _ H4 e4 => ⟨_, rfl, ex.trans e4⟩
  rintro σ' H3 ⟨y3, rfl, e23⟩
  have e3 := e2.trans e23
  refine q_forNLn (xs := [V.int 1, V.int 0, V.int (-2), V.int 257]) (el_lst (ea_cons ev_c (ea_cons ev_c (ea_cons (ev_un ev_c ru_neg) (ea_cons ev_c ea_nil)))) (by show 4 ≤ 100000; decide)) (fun p2 i σ' H' => ∃ y3, σ' = [some (.int q), some (.ref a), some (.ref p), y3] ∧ Ex H3 H' ∧ H' p2 = some (.lst [V.int 1, V.int 0, V.int (-2), V.int 257])) ?_ ?_ ?_ ?_
  · intro p2 H4 n4 e4 h4
    exact ⟨y3, rfl, e4, h4⟩
  · rintro p2 i σ' H' _ ⟨_, _, _, h⟩
    exact sq_of h
  · rintro p2 i x σ' H' hi ⟨y3, rfl, ex, hp2⟩
    obtain ⟨z, rfl, hz⟩ : ∃ z : Int, x = .int z ∧ (z < 2 ∨ z > 256) := by
      have hm := List.mem_of_getElem? hi
      simp only [List.mem_cons, List.not_mem_nil, or_false] at hm
      rcases hm with rfl | rfl | rfl | rfl
      · exact ⟨_, rfl, by decide⟩
      · exact ⟨_, rfl, by decide⟩
      · exact ⟨_, rfl, by decide⟩
      · exact ⟨_, rfl, by decide⟩
    walk_at "nm"
    refine s_when (b := false) (et_is (et_not (et_B (ev_call (z := .bl true) (ea_cons (ev_var rfl) (ea_cons (ev_var rfl) ea_nil)) (fun H4 e4 Q2 q2' E2 => ⟨z, a, ns, rfl, ex_l (e3.trans (ex.trans e4)) hA, (e3.trans (ex.trans e4)) _ _ hT, hb', by unfold mayC; rw [if_pos hz]; rfl, q2'⟩)))) rfl) (fun z => Bool.noConfusion z) fun _ H4 e4 => ⟨_, rfl, ex.trans e4, e4 _ _ hp2⟩
  rintro p2 σ' H4 ⟨y4, rfl, e34, _⟩
  have e4 := e3.trans e34
  have c2 : ∀ {σ : L2.St} {H : Hp}, Ev (tC (.int 2)) σ H (.int 2) := ev_c
  have c3 : ∀ {σ : L2.St} {H : Hp}, Ev (tC (.int 3)) σ H (.int 3) := ev_c
  refine q_forQ (aq_consL (nn (ea_cons c1 (ea_cons c0 (ea_cons c2 (ea_cons c1 ea_nil)))) (by decide)) (aq_consL (nn (ea_cons c1 (ea_cons c2 (ea_cons c0 (ea_cons c1 ea_nil)))) (by decide)) (aq_consL (nn (ea_cons c1 (ea_cons c0 (ea_cons c3 ea_nil))) (by decide)) (aq_consL (nn (ea_cons c2 (ea_cons c0 ea_nil)) (by decide)) aq_nil)))) (by rintro _ _ ⟨_, _, rfl, _, _, _, _, rfl, _, _, _, _, rfl, _, _, _, _, rfl, _, _, rfl⟩; show 4 ≤ 1000; decide)
    (fun vs p2 i σ' H' => ∃ y3, σ' = [some (.int q), some (.ref a), some (.ref p), y3] ∧ Ex H4 H' ∧ H' p2 = some (.lst vs) ∧ ∀ v ∈ vs, ∃ (r : Addr) (l : List Int), v = .ref r ∧ H' r = some (.lst (l.map V.int)) ∧ l ∈ bads2) ?_ ?_ ?_ ?_
  · rintro _ p2 H5 ⟨r1, _, rfl, _, h1, r2, _, rfl, _, h2, r3, _, rfl, _, h3, r4, _, rfl, _, h4, rfl⟩ e5 n5
    have e6 := Ex.new (o := .lst [.ref r1, .ref r2, .ref r3, .ref r4]) n5
    refine ⟨_, rfl, e5.trans e6, upd_same, fun v hv => ?_⟩
    simp only [List.mem_cons, List.not_mem_nil, or_false] at hv
    rcases hv with rfl | rfl | rfl | rfl
    · exact ⟨r1, [1, 0, 2, 1], rfl, e6 _ _ h1, by decide⟩
    · exact ⟨r2, [1, 2, 0, 1], rfl, e6 _ _ h2, by decide⟩
    · exact ⟨r3, [1, 0, 3], rfl, e6 _ _ h3, by decide⟩
    · exact ⟨r4, [2, 0], rfl, e6 _ _ h4, by decide⟩
  · rintro vs p2 i σ' H' _ ⟨_, _, _, h, _⟩
    exact sq_of h
  · rintro vs p2 i x σ' H' hi ⟨y3, rfl, ex, hp2, hv⟩
    obtain ⟨r, l, rfl, hr1, hl⟩ := hv x (List.mem_of_getElem? hi)
    walk_at "nm"
    refine s_when (b := false) (et_is (et_not (et_B (ev_call (z := .bl true) (ea_cons ev_c (ea_cons (ev_var rfl) ea_nil)) (fun H5 e5 Q2 q2' E2 => ⟨2, r, l, rfl, sq_of (e5 _ _ hr1), (e4.trans (ex.trans e5)) _ _ hT, bads2_bd l hl, bads2_no' hl, q2'⟩)))) rfl) (fun z => Bool.noConfusion z) fun _ H5 e5 => ⟨_, rfl, ex.trans e5, e5 _ _ hp2, fun v hv' => ?_⟩
    obtain ⟨r', l', h1, h2, h3⟩ := hv v hv'
    exact ⟨r', l', h1, e5 _ _ h2, h3⟩
  rintro vs p2 σ' H5 ⟨y5, rfl, e45, _, _⟩
  have e5 := e4.trans e45
  have hfirst : atI (ns.map V.int) 0 = some (.int (cf ns 0)) := atN (j := 0) (by omega)
  have hc : EvL (tOp rCat (tLst (tCons (tOp (rI0 fun i j => .int (i + j)) (tOp (rIxL K) (tVar 1) (tC (.int 0))) (tC (.int 1))) tNil)) (tSl (rSlL K) (tVar 1) (tPart (tC (.int 1))) tNoPart)) [some (V.int q), some (.ref a), some (.ref p), y5] H5 (((cf ns 0 + 1) :: ns.drop 1).map V.int) := by
    have h1 := el_catLL' (σ := [some (V.int q), some (.ref a), some (.ref p), y5]) (H := H5) (el_lst (ea_cons (ev_op (ev_op (ev_var (i := 1) rfl) (ev_c (v := .int 0)) (rv_ixL (ex_l e5 hA) hfirst)) (ev_c (v := .int 1)) (rv_I0 (g := fun i j => .int (i + j)))) ea_nil) (by show 1 ≤ 100000; decide)) (el_sl (ev_var (i := 1) rfl) (eo_some (ev_c (v := .int 1))) eo_none (ex_l e5 hA)) (by rw [cut_from1 _ (by rw [List.length_map]; omega), List.length_drop, List.length_map]; show 1 + _ ≤ _; omega)
    rw [cut_from1 _ (by rw [List.length_map]; omega), ← List.map_drop] at h1
    exact h1
  refine s_ret (v := .bl true) (ev_callVL (ev_var rfl) hc fun r H6 e6 h6 Q2 q2' E2 => ⟨q, r, _, rfl, sq_of h6, (e5.trans e6) _ _ hT, fun x hx => ?_, ?_, q2'⟩) fun H6 e6 => kk H6 (e5.trans e6)
  · rcases List.mem_cons.mp hx with z | z
    · rw [z, h0]; decide
    · exact hb' x (List.mem_of_mem_drop z)
  · unfold mayC
    rw [if_neg (by omega), if_neg (by rw [List.length_cons, List.length_drop]; omega), if_pos (.inl (by show cf ns 0 + 1 ≠ 1; omega))]
    rfl
end
end My
set_option Elab.async false
set_option linter.all false
set_option maxRecDepth 100000
set_option maxHeartbeats 2000000
/-! the end of a law whose defs walk generator expressions over tables of which only this is said that they are tables (Gy) -/
namespace My
open PySem PySem.Spec PyProof.Rows L2 Evl GxR MyG
def updT (H : Hp) (Ps : List Addr) : Hp := fun b => if b ∈ Ps then some (tabO b) else H b
theorem updT_in {H : Hp} {Ps : List Addr} {b : Addr} (h : b ∈ Ps) : updT H Ps b = some (tabO b) := if_pos h
theorem updT_out {H : Hp} {Ps : List Addr} {b : Addr} (h : b ∉ Ps) : updT H Ps b = H b := if_neg h
def fieldsAt (h : Heap) (b : Addr) : Array Value := match h.get? b with
  | some o => match o.data with
    | .fields ps => ps
    | _ => #[]
  | none => #[]
theorem fieldsAt_of {h : Heap} {b : Addr} {ps : Array Value} (e : h.get? b = some { cls := .none, data := .fields ps }) : fieldsAt h b = ps := by
  unfold fieldsAt
  rw [e]
/-- a promise over tables: as they stand ahead of the law (empty), as things within it -/
def spTabs (Ps : List Addr) (sp : Sp) : Sp := fun vs H Q _ => (∀ p ∈ Ps, H p = some (.tbl #[])) ∧ sp vs (updT H Ps) (fun v H' => (∀ p ∈ Ps, H' p = some (tabO p)) ∧ ∀ H'', Q v H'') fun _ _ _ => False
theorem FnOk.tabs {P : Program} {w : World} {K : PySem.W.Frag} {mg : Str → Option Value} {base : Heap} {k : Nat} {f : Addr} {fd : FuncData} {ps : List Str} {sp : Sp} {Ps : List Addr} (F : FnOk P w K mg base CX0 k f fd ps sp) : FnOk P w K mg base CX0 k f fd ps (spTabs Ps sp) := by
  refine ⟨fun vs H Q E h => F.len _ _ _ _ h.2, fun A outer s H args us vs Q E hr e0 hb hv h => ?_⟩
  obtain ⟨hT, hsp⟩ := h
  have nN : ∀ b, H b = none → b ∉ Ps := fun b n m => by
    rw [hT b m] at n
    cases n
  have nU : ∀ b o, H b = some o → (∀ q, o ≠ .tbl q) → b ∉ Ps := fun b o e ne m => by
    rw [hT b m] at e
    cases e
    exact ne _ rfl
  have e1 : Env0 P w K mg base A outer s (updT H Ps) := by
    refine ⟨e0.frames, e0.mod, fun b o e => ⟨(e0.bs b o e).1, ?_⟩, e0.bsz, e0.funs, fun b hb' => ?_, fun a o e => ?_, e0.bare⟩
    · rw [updT_out (nN b (e0.bs b o e).2)]
      exact (e0.bs b o e).2
    · rw [updT_out (nN b (e0.frf b hb'))]
      exact e0.frf b hb'
    · by_cases ha : a ∈ Ps
      · rw [updT_in ha] at e
        cases e
        exact tabO_ok (e0.hok a _ (hT a ha)) (by simp [TriplesOk])
      · rw [updT_out ha] at e
        refine (e0.hok a o e).stay (fun b u _ q => q) (fun b q => ?_) fun b xs q => ?_
        · rw [updT_out (nU b _ q fun _ z => by cases z)]
          exact q
        · rw [updT_out (nU b _ q fun _ z => by cases z)]
          exact q
  refine codeAny_mono (F.run A outer s _ args us vs _ _ hr e1 hb hv hsp) fun r s' z => ?_
  cases r with
  | error e => exact False.elim z
  | ok fl =>
    cases fl with
    | next => exact False.elim z
    | brk => exact False.elim z
    | cont => exact False.elim z
    | ret u =>
      obtain ⟨v, H', os, bare, un, hok, r, hT', q⟩ := z
      have got : ∀ p ∈ Ps, s'.heap.get? p = some { cls := .none, data := .fields (fieldsAt s'.heap p) } := fun p hp => by
        obtain ⟨⟨qs, e, _⟩, _⟩ := hok p _ (hT' p hp)
        rw [fieldsAt_of e]
        exact e
      have nO : ∀ b o, H' b = some o → (∀ φ, o ≠ .ext φ) → b ∉ Ps := fun b o e ne m => by
        rw [hT' b m] at e
        cases e
        exact ne _ rfl
      refine ⟨v, fun b => if b ∈ Ps then some (.tbl (fieldsAt s'.heap b)) else H' b, os, bare, ?_, ?_, r, q _⟩
      · refine ⟨fun b o e n hf hx => un.keep b o e (by rw [updT_out (nN b n)]; exact n) hf hx, fun b o e n hf hx => un.slot b o e (by rw [updT_out (nN b n)]; exact n) hf hx, fun b o e n hx => ?_, un.there, fun b xs e => ?_, fun b o u e => ?_, fun b qs e => ?_⟩
        · show (if b ∈ Ps then _ else H' b) = none
          rw [if_neg (nN b n)]
          exact un.free b o e (by rw [updT_out (nN b n)]; exact n) hx
        · have nb := nU b _ e fun _ z => by cases z
          show (if b ∈ Ps then _ else H' b) = _
          rw [if_neg nb]
          exact un.tups b xs (by rw [updT_out nb]; exact e)
        · have nb := nU b _ e fun _ z => by cases z
          show (if b ∈ Ps then _ else H' b) = _
          rw [if_neg nb]
          exact un.frzs b o u (by rw [updT_out nb]; exact e)
        · show ∃ more, (if b ∈ Ps then _ else H' b) = _
          by_cases hb' : b ∈ Ps
          · rw [hT b hb'] at e
            cases e
            exact ⟨fieldsAt s'.heap b, by rw [if_pos hb', Array.empty_append]⟩
          · rw [if_neg hb']
            exact un.tbls b qs (by rw [updT_out hb']; exact e)
      · intro a o e
        have e' : (if a ∈ Ps then some (HO.tbl (fieldsAt s'.heap a)) else H' a) = some o := e
        by_cases ha : a ∈ Ps
        · rw [if_pos ha] at e'
          cases e'
          exact got a ha
        · rw [if_neg ha] at e'
          refine (hok a o e').stay (fun b u _ q => q) (fun b q => ?_) fun b xs q => ?_
          · show (if b ∈ Ps then _ else H' b) = _
            rw [if_neg (nO b _ q fun _ z => by cases z)]
            exact q
          · show (if b ∈ Ps then _ else H' b) = _
            rw [if_neg (nO b _ q fun _ z => by cases z)]
            exact q
theorem all1 {α : Type} {Q : α → Prop} {a : α} (h : Q a) : ∀ p ∈ [a], Q p := fun p hp => by rw [List.mem_singleton.mp hp]; exact h
theorem allc {α : Type} {Q : α → Prop} {a : α} {l : List α} (h : Q a) (t : ∀ p ∈ l, Q p) : ∀ p ∈ a :: l, Q p := fun p hp => by
  rcases List.mem_cons.mp hp with e | e
  · rw [e]; exact h
  · exact t p e
section
variable {mg : Str → Option Value} {A : FuncData → Prop} {B1 B2 : Heap → Prop} {G : FuncData → Heap → Prop} {x1 x2 x3 x4 : Str} {c1 P1 c2 P2 c3 P3 c4 P4 : Addr}
theorem tb_of1 (h : ∃ fd, A fd ∧ ∀ base, B1 base → B2 base → TabB base mg c1 P1 → G fd base) : ∃ fd, A fd ∧ ∀ base, B1 base → B2 base → (∀ p ∈ [(x1, c1, P1)], TabB base mg p.2.1 p.2.2) → G fd base := by
  obtain ⟨fd, a, f⟩ := h
  exact ⟨fd, a, fun base h1 h2 h3 => f base h1 h2 (h3 _ List.mem_cons_self)⟩
theorem tb_of2 (h : ∃ fd, A fd ∧ ∀ base, B1 base → B2 base → TabB base mg c1 P1 → TabB base mg c2 P2 → G fd base) : ∃ fd, A fd ∧ ∀ base, B1 base → B2 base → (∀ p ∈ [(x1, c1, P1), (x2, c2, P2)], TabB base mg p.2.1 p.2.2) → G fd base := by
  obtain ⟨fd, a, f⟩ := h
  exact ⟨fd, a, fun base h1 h2 h3 => f base h1 h2 (h3 (x1, c1, P1) (by simp)) (h3 (x2, c2, P2) (by simp))⟩
theorem tb_of3 (h : ∃ fd, A fd ∧ ∀ base, B1 base → B2 base → TabB base mg c1 P1 → TabB base mg c2 P2 → TabB base mg c3 P3 → G fd base) : ∃ fd, A fd ∧ ∀ base, B1 base → B2 base → (∀ p ∈ [(x1, c1, P1), (x2, c2, P2), (x3, c3, P3)], TabB base mg p.2.1 p.2.2) → G fd base := by
  obtain ⟨fd, a, f⟩ := h
  exact ⟨fd, a, fun base h1 h2 h3 => f base h1 h2 (h3 (x1, c1, P1) (by simp)) (h3 (x2, c2, P2) (by simp)) (h3 (x3, c3, P3) (by simp))⟩
theorem tb_of4 (h : ∃ fd, A fd ∧ ∀ base, B1 base → B2 base → TabB base mg c1 P1 → TabB base mg c2 P2 → TabB base mg c3 P3 → TabB base mg c4 P4 → G fd base) : ∃ fd, A fd ∧ ∀ base, B1 base → B2 base → (∀ p ∈ [(x1, c1, P1), (x2, c2, P2), (x3, c3, P3), (x4, c4, P4)], TabB base mg p.2.1 p.2.2) → G fd base := by
  obtain ⟨fd, a, f⟩ := h
  exact ⟨fd, a, fun base h1 h2 h3 => f base h1 h2 (h3 (x1, c1, P1) (by simp)) (h3 (x2, c2, P2) (by simp)) (h3 (x3, c3, P3) (by simp)) (h3 (x4, c4, P4) (by simp))⟩
end
/-- what a law promises: the script is a list of ints, the tables are there -/
def spLawT (K : PySem.W.Frag) (Ps : List Addr) : Sp := fun vs H Q _ => ∃ (a : Addr) (ns : List Int), vs = [.ref a] ∧ SqL K H a (ns.map V.int) ∧ (∀ p ∈ Ps, TabE H p) ∧ ∀ H', Ex H H' → Q (.bl true) H'
theorem walk_tabs {l : PySem.W.OpenLaw} {n k : Nat} {q : Program} {loose : List Str} {XP : (Str → Option Value) → Heap → Prop} {YP : World → Heap → Prop} {d : DefRec} {K : Params → PySem.W.Frag} {x : Str} {cs : List (Str × Addr × Addr)}
    (hn : l.most = some n) (hn2 : n ≤ sizeLine) (hdf : d.params.defaults = []) (hr : Room k callerA) (hY : ∀ (w : World) (h : Heap), YP w h → (K w.params).In h)
    (hf : ∀ p ∈ cs, ((recsOf q).find? fun e => e.name == p.1).isSome = true) (ht : ∀ w : World, ∀ p ∈ cs, PySem.W.tabIn (K w.params) p.1 = some p.2) (hP : ∀ w : World, ∀ p ∈ cs, (K w.params).lookup p.2.2 = none)
    (F : ∀ (w : World) (mg : Str → Option Value) (fa : Addr) (h : Heap), (K w.params).In h → h.Ns mainGlobals mg → mg d.name = some (.ref fa) →
      ∃ fd : FuncData, (∀ (s : Shared) (u : Value), BindsTo s fd ⟨[u], []⟩ [(x, u)]) ∧ ∀ base : Heap, (K w.params).In base → base.Ns mainGlobals mg → (∀ p ∈ cs, TabB base mg p.2.1 p.2.2) → FnOk l.prog w (K w.params) mg base CX0 k fa fd [x] (spLawT (K w.params) (cs.map (·.2.2)))) :
    PySem.W.WalkO q loose XP YP l.row.toRowW d [] (fun f vs => PySem.call f vs) := by
  refine Att.attach_callB hn hdf fun w s₀ s₁ mg mb fa o pm cd doc a vs ns G Y ho hd hcd hmg hobj hints hlen hbits hg => ?_
  have KX := hY w _ Y
  obtain ⟨fd, hb, hF⟩ := F w mg fa _ KX G.T.g hmg
  have fact : ∀ p ∈ cs, PySem.W.CodeHd s₁.heap p.2.1 p.2.2 ∧ s₁.heap.get? p.2.2 = some { cls := .none, data := .fields #[] } := fun p hp => by
    obtain ⟨dy, hdy⟩ := Option.isSome_iff_exists.mp (hf p hp)
    exact PySem.W.tab_of G.T KX hdy (ht w p hp)
  have inC : ∀ {m : Addr × Addr}, m ∈ cs.map (·.2) → ∃ p ∈ cs, p.2 = m := fun h => List.mem_map.mp h
  refine LamX.law_callTs (cs := cs.map (·.2)) (sp := spTabs (cs.map (·.2.2)) (spLawT (K w.params) (cs.map (·.2.2)))) KX G.T.g G.T.b G.T.builtins G.T.nolimit hg (fun m hm => ?_) (fun m hm => ?_) (fun m hm => ?_) G.T.bmain hobj hints (Nat.le_trans hlen hn2) hr (fun base h1 h2 h3 => FnOk.tabs (hF base h1 h2 fun p hp => ?_)) hb (fun H hH hS => ?_) fun H e s' h => h
  · obtain ⟨p, hp, rfl⟩ := inC hm
    exact (fact p hp).2
  · obtain ⟨p, hp, rfl⟩ := inC hm
    exact hP w p hp
  · obtain ⟨p, hp, rfl⟩ := inC hm
    exact (fact p hp).1
  · have := h3 p.2 (List.mem_map.mpr ⟨p, hp, rfl⟩)
    exact ⟨this.1, this.2, this.3⟩
  · have isT : ∀ b ∈ cs.map (·.2.2), H b = some (.tbl #[]) := fun b hb' => by
      obtain ⟨p, hp, rfl⟩ := List.mem_map.mp hb'
      exact hH p.2 (List.mem_map.mpr ⟨p, hp, rfl⟩)
    have rd : ∀ {b : Addr} {u : HO}, Rd H b u → (∀ z, u ≠ .tbl z) → Rd (updT H (cs.map (·.2.2))) b u := fun {b u} r nu => by
      have nb : b ∉ cs.map (·.2.2) := fun m => by
        rcases r with r | ⟨o, r⟩
        · rw [isT b m] at r
          cases r
          exact nu _ rfl
        · rw [isT b m] at r
          cases r
      rcases r with r | ⟨o, r⟩
      · exact .inl (by rw [updT_out nb]; exact r)
      · exact .inr ⟨o, by rw [updT_out nb]; exact r⟩
    refine ⟨isT, a, ns, rfl, ?_, fun p hp => updT_in hp, fun H' e => ⟨fun p hp => e _ _ (updT_in hp), fun _ => rfl⟩⟩
    rcases hS with r | r
    · exact .inl (rd r fun _ z => by cases z)
    · exact .inr r
end My
set_option Elab.async false
set_option linter.all false
set_option maxRecDepth 100000
set_option maxHeartbeats 1000000
namespace My
open PySem PySem.Spec PyProof.Rows L2 L2H Evl GxR MyG MyZ MyT
local macro_rules | `(tactic| walk_at "ev") => `(tactic| repeat' (first
  | exact ev_c
  | exact ev_var rfl
  | exact ea_nil
  | exact eo_none
  | (refine' ev_cb ?ea (rc_len ?sq); (case ea => walk_at "evs"); (case sq => walk_at "sq"))
  | (refine' ev_op ?a ?b (rv_ixL ?sq ?ix); (case a => walk_at "evs"); (case b => walk_at "evs"); (case sq => walk_at "sq"); (case ix => walk_at "at"))
  | refine' ea_cons ?_ ?_
  | refine' eo_some ?_
  | refine' ev_op ?_ ?_ rv_I0
  | refine' ev_op ?_ ?_ (rv_eq ?_)
  | refine' ev_op ?_ ?_ (rv_ne ?_)
  | refine' ev_op ?_ ?_ (rv_I ?_)
  | refine' ev_un ?_ ru_neg
  | refine' ev_cb ?_ rc_int
  | refine' ev_cb ?_ rc_abs
  | refine' ev_cb ?_ rc_max2
  | refine' ev_andV ?_ ?_
  | refine' ev_notV ?_
  | refine' et_test ?_
  | refine' et_B ?_
  | refine' et_not ?_))
local macro_rules | `(tactic| walk_at "side") => `(tactic| first
  | rfl
  | decide
  | exact ⟨by decide, by decide⟩
  | exact .inr ⟨by decide, by decide⟩
  | exact .inl ⟨by decide, by decide⟩
  | omega
  | exact .inl ⟨by omega, by omega⟩
  | exact ⟨by omega, by omega⟩
  | exact .inr ⟨by omega, by omega⟩)
local macro_rules | `(tactic| walk_at "evs") => `(tactic| (walk_at "ev"; all_goals (walk_at "side")))
local macro_rules | `(tactic| walk_at "ex") => `(tactic| first
  | with_reducible exact Ex.refl _
  | with_reducible assumption
  | (refine' Ex.trans ?_ ?b; (case b => with_reducible assumption); walk_at "ex"))
local macro_rules | `(tactic| walk_at "sq") => `(tactic| first
  | (refine' sq_ex ?h ?e; (case h => with_reducible assumption); (case e => walk_at "ex"))
  | (refine' ex_l ?e ?h; (case h => with_reducible assumption); (case e => walk_at "ex"))
  | (refine' ex_l ?e ?h; (case h => assumption); (case e => walk_at "ex"))
  | assumption
  | exact sq_of (by assumption))
local macro_rules | `(tactic| walk_at "at") => `(tactic| first
  | exact at_int (by omega) (by omega)
  | exact atI_nat (j := 0) rfl
  | exact atI_nat (j := 1) rfl
  | exact atI_nat (j := 2) rfl)
local macro_rules | `(tactic| walk_at "side2") => `(tactic| first | exact CMul_bdl (by assumption) | exact CMul_bdr (by assumption) | walk_at "side")
local macro_rules | `(tactic| walk_at "evb") => `(tactic| (walk_at "ev"; all_goals (walk_at "side2")))

local macro_rules | `(tactic| walk_at "nm") => `(tactic| (try simp only [List.set_cons_zero, List.set_cons_succ]))
theorem cho01 {m j : Nat} (hm : m ≤ 255) (hj : j ≤ 1) : (cho m j).natAbs < 2 ^ 30 := by
  have h := PySem.W.mc_comb_known (a := (m : Int)) (b := (j : Int)) (by omega) (by omega)
  unfold cho
  split
  · decide
  · rcases (show j = 0 ∨ j = 1 by omega) with rfl | rfl
    · rw [h.2.2.2.1 rfl]
      decide
    · rw [h.2.2.2.2.2.1 rfl]
      omega
section
variable {P : Program} {w : World} {K : PySem.W.Frag} {mg : Str → Option Value} {base : Heap}
/-! law: 0 script, 1 numbers, 2 order, 3 length, 4 counts, 5 dual_counts, 6 k, 7 block, 8 passed, 9 actual, 10 many -/
abbrev s_law : Stmt := topS 28
theorem sc_law : FnScope ["script", "numbers", "order", "length", "counts", "dual_counts", "k", "block", "passed", "actual", "many"] ["script"] (defScope s_law) := ⟨rfl, rfl, rfl, by decide +kernel, rfl, by decide +kernel, by decide +kernel⟩
theorem ok_law {fa D Pt : Addr} {fd : FuncData} (F : Fun K "law" "law" s_law fa fd) (T : FTxt mg) (D_law_numbers : Dk P w K mg base CX0 5 "_law_numbers" ["script", "many"] (spNumbers K)) (D_law_krawtchouk : Dk P w K mg base CX0 5 "_law_krawtchouk" ["order", "length", "k", "x"] spLK) (D_krawtchouk : Dk P w K mg base CX0 5 "krawtchouk" ["order", "length", "k", "x"] spKr)
    (D_law_block : Dk P w K mg base CX0 5 "_law_block" ["order", "size", "kind"] (spBlk K)) (D_law_product : Dk P w K mg base CX0 5 "_law_product" ["first", "second"] (spProd K)) (D_law_refused : Dk P w K mg base CX0 5 "_law_refused" ["order", "counts"] (spRef K Pt)) (D_dual_enumerator : Dk P w K mg base (L2.CX P w) 5 "dual_enumerator" ["order", "counts"] (spDual K D Pt))
    (D_law_is_integer : Dk P w K mg base CX0 5 "_law_is_integer" ["actual"] spIsInt) (D_law_refusals : Dk P w K mg base CX0 5 "_law_refusals" ["order", "counts"] (spRefs K Pt)) : FnOk P w K mg base CX0 6 fa fd ["script"] (spLawT K [Pt]) := by
  refine F.ok sc_law (fun vs H Q E h => ?_) (fun cdv A outer s H vs Q E hr h => ?_)
  · obtain ⟨_, _, rfl, _⟩ := h
    rfl
  obtain ⟨a, cs, rfl, hS, hTs, k⟩ := h
  have hT := hTs Pt List.mem_cons_self
  refine ⟨_, (pss_cons (ps_set (i := 1) sc_law.nd rfl (Or.inl rfl) (pe_cd D_law_numbers hr (by rfl) (pa_cons (pv 0) (pa_cons pe_int pa_nil))))
    (pss_cons (ps_set (i := 2) sc_law.nd rfl (Or.inl rfl) (pe_op op_add pe_int (pe_op op_mod (pe_callTy call_int1 (by rfl) T.z_int (by decide +kernel) (pa_cons (pe_ix ix_list (pv 1) pe_int (fun _ _ => rfl)) pa_nil)) pe_int)))
    (pss_cons (ps_if (pt_cmpR op_eq (pe_op op_mod (pe_callTy call_int1 (by rfl) T.z_int (by decide +kernel) (pa_cons (pe_ix ix_list (pv 1) pe_int (fun _ _ => rfl)) pa_nil)) pe_int) pe_int (nomark _))
      (pss_one (ps_set (i := 2) sc_law.nd rfl (Or.inl rfl) (pe_op op_add pe_int (pe_op op_mod (pe_callTy call_int1 (by rfl) T.z_int (by decide +kernel) (pa_cons (pe_ix ix_list (pv 1) pe_int (fun _ _ => rfl)) pa_nil)) pe_int))))
      pss_nil)
    (pss_cons (ps_set (i := 3) sc_law.nd rfl (Or.inl rfl) (pe_op op_mod (pe_callTy call_int1 (by rfl) T.z_int (by decide +kernel) (pa_cons (pe_ix ix_list (pv 1) pe_int (fun _ _ => rfl)) pa_nil)) pe_int))
    (pss_cons (ps_if (pt_not (pt_val (pe_cd D_law_krawtchouk hr (by rfl) (pa_cons (pv 2) (pa_cons (pv 3) (pa_cons (pe_op op_mod (pe_callTy call_int1 (by rfl) T.z_int (by decide +kernel) (pa_cons (pe_ix ix_list (pv 1) pe_int (fun _ _ => rfl)) pa_nil)) (pe_op op_add (pv 3) pe_int)) (pa_cons (pe_op op_mod (pe_callTy call_int1 (by rfl) T.z_int (by decide +kernel) (pa_cons (pe_ix ix_list (pv 1) pe_int (fun _ _ => rfl)) pa_nil)) (pe_op op_add (pv 3) pe_int)) pa_nil)))))))
      (pss_one (ps_ret pe_bl))
      pss_nil)
    (pss_cons (ps_if (PW.pt (pw_or (pt_cmpR op_ne (pe_cd D_krawtchouk hr (by rfl) (pa_cons (pv 2) (pa_cons pe_int (pa_cons pe_int (pa_cons (pv 3) pa_nil))))) pe_int (nomark _)) (pw_or1 (pt_cmpR op_ne (pe_cd D_krawtchouk hr (by rfl) (pa_cons (pv 2) (pa_cons pe_int (pa_cons pe_int (pa_cons (pv 3) pa_nil))))) (pe_op op_sub (pe_op op_mul pe_int (pe_op op_sub (pv 2) pe_int)) (pe_op op_mul (pv 2) (pv 3))) (nomark _)))))
      (pss_one (ps_ret pe_bl))
      pss_nil)
    (pss_cons (ps_set (i := 4) sc_law.nd rfl (Or.inl rfl) (pe_lst (pa_cons pe_int pa_nil)))
    (pss_cons (ps_set (i := 5) sc_law.nd rfl (Or.inl rfl) (pe_lst (pa_cons pe_int pa_nil)))
    (pss_cons (ps_for PassesOwn.never rfl (pi_range1 (by rfl) T.z_range (pa_cons (pe_op op_mod (pe_callTy call_int1 (by rfl) T.z_int (by decide +kernel) (pa_cons (pe_ix ix_list (pv 1) pe_int (fun _ _ => rfl)) pa_nil)) pe_int) pa_nil)) (pg_name (i := 6) sc_law.nd rfl (Or.inl rfl))
      (pss_cons (ps_set (i := 7) sc_law.nd rfl (Or.inl rfl) (pe_cd D_law_block hr (by rfl) (pa_cons (pv 2) (pa_cons (pe_op op_add pe_int (pe_op op_mod (pe_callTy call_int1 (by rfl) T.z_int (by decide +kernel) (pa_cons (pe_ix ix_list (pv 1) (pe_op op_add pe_int (pe_op op_mul pe_int (pv 6))) (fun _ _ => rfl)) pa_nil)) pe_int)) (pa_cons (pe_op op_mod (pe_callTy call_int1 (by rfl) T.z_int (by decide +kernel) (pa_cons (pe_ix ix_list (pv 1) (pe_op op_add pe_int (pe_op op_mul pe_int (pv 6))) (fun _ _ => rfl)) pa_nil)) pe_int) pa_nil)))))
      (pss_cons (ps_set (i := 4) sc_law.nd rfl (Or.inl rfl) (pe_cd D_law_product hr (by rfl) (pa_cons (pv 4) (pa_cons (pe_ix ix_tup (pv 7) pe_int (fun _ _ => rfl)) pa_nil))))
      (pss_one (ps_set (i := 5) sc_law.nd rfl (Or.inl rfl) (pe_cd D_law_product hr (by rfl) (pa_cons (pv 5) (pa_cons (pe_ix ix_tup (pv 7) pe_int (fun _ _ => rfl)) pa_nil))))))))
    (pss_cons (ps_if (pt_cmpR op_eq (pe_callB call_len_seq (by rfl) T.z_len PySem.boot_len (pa_cons (pv 4) pa_nil)) pe_int (nomark _))
      (pss_one (ps_ret (pe_cd D_law_refused hr (by rfl) (pa_cons (pv 2) (pa_cons (pv 4) pa_nil)))))
      pss_nil)
    (pss_cons (ps_set (i := 8) sc_law.nd rfl (Or.inl rfl) (pe_callTy call_list_of (by rfl) T.z_list (by decide +kernel) (pa_cons (pv 4) pa_nil)))
    (pss_cons (ps_set (i := 9) sc_law.nd rfl (Or.inl rfl) (pe_cdX D_dual_enumerator hr (by rfl) passE0 (pa_cons (pv 2) (pa_cons (pv 8) pa_nil))))
    (pss_cons (ps_if (PW.pt (pw_or (pt_not (pt_val (pe_callB call_isi (by rfl) T.z_isinstance (by decide +kernel) (pa_cons (pv 9) (pa_cons (pe_bltn (v := .ty "list") (by rfl) T.z_list (by decide +kernel) rfl) pa_nil))))) (pw_or (pt_cmpR (op_neD hr.units) (pv 9) (pv 5) (nomark _)) (pw_or1 (pt_cmpR (op_neD hr.units) (pv 8) (pv 4) (nomark _))))))
      (pss_one (ps_ret pe_bl))
      pss_nil)
    (pss_cons (ps_for PassesOwn.never rfl (pi_list (pv 9)) (pg_name (i := 10) sc_law.nd rfl (Or.inl rfl))
      (pss_one (ps_if (pt_not (pt_val (pe_cd D_law_is_integer hr (by rfl) (pa_cons (pv 10) pa_nil))))
        (pss_one (ps_ret pe_bl))
        pss_nil)))
    (pss_cons (ps_if (PW.pt (pw_or (pt_cmpR (op_neD hr.units) (pe_cdX D_dual_enumerator hr (by rfl) passE0 (pa_cons (pv 2) (pa_cons (pv 9) pa_nil))) (pv 4) (nomark _)) (pw_or1 (pt_cmpR (op_neD hr.units) (pv 9) (pv 5) (nomark _)))))
      (pss_one (ps_ret pe_bl))
      pss_nil)
    (pss_one (ps_ret (pe_cd D_law_refusals hr (by rfl) (pa_cons (pv 2) (pa_cons (pv 4) pa_nil)))))))))))))))))))), ?_⟩
  refine q_asgC (by walk_at "ev") fun H1 e1 => ?_
  refine ⟨a, cs, 40, rfl, ex_l e1 hS, by decide, by decide, fun ns l H2 hlen hb nl e2 hl => ?_⟩
  walk_at "nm"
  have e02 := e1.trans e2
  have hT2 := e02 _ _ hT
  have num : ∀ {σ : L2.St} {H : Hp} {te : TE} (j : Nat), j < 40 → Ex H2 H → σ[1]? = some (some (.ref l)) → Ev te σ H (.int (j : Int)) → Ev (tOp (rIxL K) (tVar 1) te) σ H (.int (cf ns j)) := fun j hj e3 h1 h2 => ev_op (ev_var h1) h2 (rv_ixL (sq_of (e3 _ _ hl)) (atN (by omega)))
  have nb : ∀ j, 0 ≤ cf ns j ∧ cf ns j < 1009 := fun j => hb.getD j
  have md : ∀ {σ : L2.St} {H : Hp} {te tm : TE} (j : Nat) (m : Int), j < 40 → 0 < m → Ex H2 H → σ[1]? = some (some (.ref l)) → Ev te σ H (.int (j : Int)) → Ev tm σ H (.int m) → Ev (tOp (rI (fun _ j => 0 < j) fun i j => .int (i % j)) (tCB (fun xs H Q => (∃ i, xs = [.int i] ∧ Q (.int i) H) ∨ ∃ k, xs = [.bl k] ∧ Q (.int (if k then 1 else 0)) H) (tCons (tOp (rIxL K) (tVar 1) te) tNil)) tm) σ H (.int (cf ns j % m)) := fun j m hj hm e3 h1 h2 h3 => ev_op (ev_cb (ea_cons (num j hj e3 h1 h2) ea_nil) rc_int) h3 (rv_I hm)
  refine q_asg (v := .int (2 + cf ns 0 % 11)) (ev_op ev_c (md 0 11 (by decide) (by decide) (Ex.refl _) rfl ev_c ev_c) rv_I0) fun H3 e3 => ?_
  walk_at "nm"
  refine q_ifAsg (v := .int (if cf ns 1 % 8 = 1 then 255 + cf ns 0 % 2 else 2 + cf ns 0 % 11)) (b := decide (cf ns 1 % 8 = 1)) (et_is (et_test (ev_op (md 1 8 (by decide) (by decide) e3 rfl ev_c ev_c) ev_c (rv_eq rfl))) (dec_int _ _)) (fun hb1 => ?_) (fun hb1 => ?_) fun H4 e4 => ?_
  · rw [if_pos (of_decide_eq_true hb1)]
    exact ev_op ev_c (md 0 2 (by decide) (by decide) e3 rfl ev_c ev_c) rv_I0
  · rw [if_neg (of_decide_eq_false hb1)]
    rfl
  have hq : (if cf ns 1 % 8 = 1 then 255 + cf ns 0 % 2 else 2 + cf ns 0 % 11) ∈ orders := by
    have h0 := nb 0
    split
    · have : cf ns 0 % 2 = 0 ∨ cf ns 0 % 2 = 1 := by omega
      rcases this with h | h <;> rw [h] <;> decide
    · have : cf ns 0 % 11 = 0 ∨ cf ns 0 % 11 = 1 ∨ cf ns 0 % 11 = 2 ∨ cf ns 0 % 11 = 3 ∨ cf ns 0 % 11 = 4 ∨ cf ns 0 % 11 = 5 ∨ cf ns 0 % 11 = 6 ∨ cf ns 0 % 11 = 7 ∨ cf ns 0 % 11 = 8 ∨ cf ns 0 % 11 = 9 ∨ cf ns 0 % 11 = 10 := by omega
      rcases this with h | h | h | h | h | h | h | h | h | h | h <;> rw [h] <;> decide
  generalize (if cf ns 1 % 8 = 1 then 255 + cf ns 0 % 2 else 2 + cf ns 0 % 11) = q at hq
  obtain ⟨q2, q3⟩ := orders_bd hq
  walk_at "nm"
  have e24 := e3.trans e4
  obtain ⟨n, hn, hn12⟩ : ∃ n : Nat, cf ns 2 % 13 = (n : Int) ∧ n ≤ 12 := ⟨(cf ns 2 % 13).toNat, by have := nb 2; omega, by have := nb 2; omega⟩
  refine q_asg (v := .int (n : Int)) (ev_is (md 2 13 (by decide) (by decide) e24 rfl ev_c ev_c) (congrArg V.int hn)) fun H5 e5 => ?_
  walk_at "nm"
  have e25 := e24.trans e5
  obtain ⟨kk, hk, hkn⟩ : ∃ k : Nat, cf ns 3 % ((n : Int) + 1) = (k : Int) ∧ k ≤ n := by
    have h1 := Int.emod_nonneg (cf ns 3) (show (n : Int) + 1 ≠ 0 by omega)
    have h2 := Int.emod_lt_of_pos (cf ns 3) (show 0 < (n : Int) + 1 by omega)
    exact ⟨(cf ns 3 % ((n : Int) + 1)).toNat, by omega, by omega⟩
  obtain ⟨x, hx, hxn⟩ : ∃ k : Nat, cf ns 4 % ((n : Int) + 1) = (k : Int) ∧ k ≤ n := by
    have h1 := Int.emod_nonneg (cf ns 4) (show (n : Int) + 1 ≠ 0 by omega)
    have h2 := Int.emod_lt_of_pos (cf ns 4) (show 0 < (n : Int) + 1 by omega)
    exact ⟨(cf ns 4 % ((n : Int) + 1)).toNat, by omega, by omega⟩
  refine q_when (b := false) (et_is (et_not (et_B (ev_call (z := .bl true) (ea_cons (ev_var rfl) (ea_cons (ev_var rfl) (ea_cons (ev_is (md 3 _ (by decide) (by omega) e25 rfl ev_c (ev_op (ev_var rfl) ev_c (rv_I0 (g := fun i j => .int (i + j))))) (congrArg V.int hk)) (ea_cons (ev_is (md 4 _ (by decide) (by omega) e25 rfl ev_c (ev_op (ev_var rfl) ev_c (rv_I0 (g := fun i j => .int (i + j))))) (congrArg V.int hx)) ea_nil)))) (fun H6 e6 Q2 q2' E2 => ⟨q, n, kk, x, rfl, q2, q3, hxn, by omega, hkn, q2'⟩)))) rfl) (fun z => Bool.noConfusion z) fun _ H6 e6 => ?_
  have e26 := e25.trans e6
  obtain ⟨k0, k1⟩ := kr255 (q - 1) n (by omega)
  refine q_when (b := false) (et_is (et_or (a := false) (b := false) (et_is (et_test (ev_op (ev_call (z := .int 1) (ea_cons (ev_var rfl) (ea_cons ev_c (ea_cons ev_c (ea_cons (ev_var rfl) ea_nil)))) (fun H7 e7 Q2 q2' E2 => ⟨q, 255, 0, n, rfl, q2, q3, by omega, by omega, by omega, fun j hj => ⟨cho01 (by omega) (by omega), cho01 (by omega) (by omega)⟩, by rw [k0]; exact q2'⟩)) ev_c (rv_ne rfl))) rfl) fun _ => et_is (et_test (ev_op (ev_call (z := .int (255 * (q - 1) - (q - 1 + 1) * n)) (ea_cons (ev_var rfl) (ea_cons ev_c (ea_cons ev_c (ea_cons (ev_var rfl) ea_nil)))) (fun H7 e7 Q2 q2' E2 => ⟨q, 255, 1, n, rfl, q2, q3, by omega, by omega, by omega, fun j hj => ⟨cho01 (by omega) (by omega), cho01 (by omega) (by omega)⟩, by rw [k1]; exact q2'⟩)) (ev_op (ev_op ev_c (ev_op (ev_var rfl) ev_c rv_I0) (rv_I (.inl ⟨by decide, by decide⟩))) (ev_op (ev_var rfl) (ev_var rfl) (rv_I (.inl ⟨by omega, by omega⟩))) rv_I0) (rv_ne rfl))) (by rw [dec_int, show q - 1 + 1 = q by omega, decide_eq_true rfl]; rfl)) rfl) (fun z => Bool.noConfusion z) fun _ H7 e7 => ?_
  have e27 := e26.trans e7
  refine q_asgL (xs := ([1] : List Int).map V.int) (el_lst (ea_cons ev_c ea_nil) (by show 1 ≤ 100000; decide)) fun p1 H8 n1 e8 h1 => ?_
  walk_at "nm"
  refine q_asgL (xs := ([1] : List Int).map V.int) (el_lst (ea_cons ev_c ea_nil) (by show 1 ≤ 100000; decide)) fun p2 H9 n2 e9 h2 => ?_
  walk_at "nm"
  have e29 := e27.trans (e8.trans e9)
  have h5 := nb 5
  refine q_forR1 (n := cf ns 5 % 5) (ea_cons (md 5 5 (by decide) (by decide) e29 rfl ev_c ev_c) ea_nil) ⟨by omega, by omega⟩ (fun i σ' H' => ∃ (pa pb : Addr) (xa xb : List Int) (y6 y7 : Option V), σ' = [some (.ref a), some (.ref l), some (.int q), some (.int (n : Int)), some (.ref pa), some (.ref pb), y6, y7, none, none, none] ∧ Ex H2 H' ∧ H' pa = some (.lst (xa.map V.int)) ∧ H' pb = some (.lst (xb.map V.int)) ∧ Gd q xa xb ∧ xa.length ≤ 1 + 4 * i ∧ (∀ x ∈ xa, x.natAbs ≤ 2 ^ (40 * i)) ∧ ∀ x ∈ xb, x.natAbs ≤ 2 ^ (40 * i)) ?_ ?_ ?_
  · intro H10 e10
    refine ⟨p1, p2, [1], [1], none, none, rfl, e29.trans e10, (e9.trans e10) _ _ h1, e10 _ _ h2, Gd.one q, by show 1 ≤ 1 + 4 * 0; omega, ?_, ?_⟩
    · decide
    · decide
  · rintro i σ' H' hi ⟨pa, pb, xa, xb, y6, y7, rfl, ex, ha, hbb, gd, hl4, ba, bb⟩
    have hi4 : i < 4 := by omega
    walk_at "nm"
    have h6 := nb (6 + 2 * i)
    have h7 := nb (7 + 2 * i)
    obtain ⟨s, hs, s1, s2⟩ : ∃ s : Nat, 1 + cf ns (6 + 2 * i) % 4 = (s : Int) ∧ 1 ≤ s ∧ s ≤ 4 := ⟨(1 + cf ns (6 + 2 * i) % 4).toNat, by omega, by omega, by omega⟩
    obtain ⟨kd, hkd, kd4⟩ : ∃ s : Nat, cf ns (7 + 2 * i) % 4 = (s : Int) ∧ s < 4 := ⟨(cf ns (7 + 2 * i) % 4).toNat, by omega, by omega⟩
    have ix : ∀ {c : Nat} {σ : L2.St} {H : Hp}, σ[6]? = some (some (.int (i : Int))) → Ev (tOp (rI0 fun i j => .int (i + j)) (tC (.int (c : Int))) (tOp (rI CMul fun i j => .int (i * j)) (tC (.int 2)) (tVar 6))) σ H (.int ((c + 2 * i : Nat) : Int)) := fun h6 => ev_is (ev_op ev_c (ev_op ev_c (ev_var h6) (rv_I (.inl ⟨by decide, by decide⟩))) rv_I0) (congrArg V.int (by push_cast; rfl))
    refine q_asgC (vs := [.int q, .int (s : Int), .int (kd : Int)]) (ea_cons (ev_var rfl) (ea_cons (ev_is (ev_op ev_c (md (6 + 2 * i) 4 (by omega) (by decide) ex rfl (ix (c := 6) rfl) ev_c) rv_I0) (congrArg V.int hs)) (ea_cons (ev_is (md (7 + 2 * i) 4 (by omega) (by decide) ex rfl (ix (c := 7) rfl) ev_c) (congrArg V.int hkd)) ea_nil))) fun H10 e10 => ?_
    refine ⟨q, s, kd, rfl, q2, q3, s1, s2, kd4, fun tt ra rb H11 e11 ht hra hrb => ?_⟩
    walk_at "nm"
    obtain ⟨gb, lb⟩ := blk_gd hq ⟨s1, s2⟩ kd4
    obtain ⟨bl1, bl2⟩ := blk_le hq ⟨s1, s2⟩ kd4
    have lb2 : (blk q s kd).2.length = s + 1 := by rw [← gb.len]; exact lb
    have la := gd.l0
    have lab := gd.len
    have e11' := ex.trans (e10.trans e11)
    have pw : ∀ {xs : List Int}, (∀ x ∈ xs, x.natAbs ≤ 2 ^ (40 * i)) → ∀ x ∈ xs, x.natAbs < 2 ^ 400 := fun h x hx => Nat.lt_of_le_of_lt (h x hx) (Nat.pow_lt_pow_right (by decide) (by omega))
    have pw2 : ∀ {xs : List Int}, (∀ x ∈ xs, x.natAbs ≤ 2 ^ 34) → ∀ x ∈ xs, x.natAbs < 2 ^ 400 := fun h x hx => Nat.lt_of_le_of_lt (h x hx) (by decide)
    refine q_asgL (el_call (ea_cons (ev_var rfl) (ea_cons (ev_op (ev_var rfl) ev_c (rv_ixT (st_of ht) (atI_nat (j := 0) rfl))) ea_nil)) (fun H12 e12 Q2 q2' E2 => ⟨pa, ra, xa, _, rfl, sq_of ((e10.trans (e11.trans e12)) _ _ ha), sq_of (e12 _ _ hra), la, by omega, by omega, by omega, pw ba, pw2 bl1, q2'⟩)) fun pa2 H12 na2 e12 ha2 => ?_
    walk_at "nm"
    refine s_asgL (el_call (ea_cons (ev_var rfl) (ea_cons (ev_op (ev_var rfl) ev_c (rv_ixT (st_of (e12 _ _ ht)) (atI_nat (j := 1) rfl))) ea_nil)) (fun H13 e13 Q2 q2' E2 => ⟨pb, rb, xb, _, rfl, sq_of ((e10.trans (e11.trans (e12.trans e13))) _ _ hbb), sq_of ((e12.trans e13) _ _ hrb), by omega, by omega, by omega, by omega, pw bb, pw2 bl2, q2'⟩)) fun pb2 H13 nb2 e13 hb2 => ?_
    have up : ∀ {u v : List Int}, u.length ≤ 17 → (∀ x ∈ u, x.natAbs ≤ 2 ^ (40 * i)) → (∀ x ∈ v, x.natAbs ≤ 2 ^ 34) → ∀ x ∈ mulZ u v, x.natAbs ≤ 2 ^ (40 * (i + 1)) := fun {u v} hu h1 h2 x hx => by
      have h3 := mul_bd h1 h2 x hx
      have h4 : u.length * (2 ^ (40 * i) * 2 ^ 34) ≤ 2 ^ 5 * (2 ^ (40 * i) * 2 ^ 34) := Nat.mul_le_mul_right _ (by omega)
      have h5 : 2 ^ 5 * (2 ^ (40 * i) * 2 ^ 34) = 2 ^ (40 * i + 39) := by rw [← Nat.pow_add, ← Nat.pow_add]; congr 1; omega
      have h6 : (2 : Nat) ^ (40 * i + 39) ≤ 2 ^ (40 * (i + 1)) := Nat.pow_le_pow_right (by decide) (by omega)
      omega
    exact ⟨pa2, pb2, _, _, _, _, rfl, e11'.trans (e12.trans e13), e13 _ _ ha2, hb2, gd.mul gb, by rw [mulZ_len]; omega, up (by omega) ba bl1, up (by omega) bb bl2⟩
  rintro σ' H10 ⟨pa, pb, xa, xb, y6, y7, rfl, e10, ha, hbb, gd, hl4, ba, bb⟩
  have hlen5 : (cf ns 5 % 5).toNat ≤ 4 := by omega
  have la := gd.l0
  have lab := gd.len
  have pw : ∀ {xs : List Int}, (∀ x ∈ xs, x.natAbs ≤ 2 ^ (40 * (cf ns 5 % 5).toNat)) → ∀ x ∈ xs, x.natAbs < 2 ^ 389 := fun h x hx => Nat.lt_of_le_of_lt (h x hx) (Nat.pow_lt_pow_right (by decide) (by omega))
  have ba' := pw ba
  have bb' := pw bb
  have pw3 : ∀ {xs : List Int}, (∀ x ∈ xs, x.natAbs < 2 ^ 389) → ∀ x ∈ xs, x.natAbs < 2 ^ 390 := fun h x hx => Nat.lt_trans (h x hx) (by decide)
  clear ba bb
  refine q_when (b := decide (xa.length = 1)) (et_is (et_test (ev_op (ev_cb (ea_cons (ev_var rfl) ea_nil) (rc_len (sq_of ha))) ev_c (rv_eq rfl))) (by rw [dec_int, List.length_map]; exact decide_eq_decide.mpr (by omega))) (fun hb1 H11 e11 => ?_) (fun hb1 H11 e11 => ?_)
  · have l1 := of_decide_eq_true hb1
    refine s_ret (v := .bl true) (ev_call (ea_cons (ev_var rfl) (ea_cons (ev_var rfl) ea_nil)) (fun H12 e12 Q2 q2' E2 => ⟨q, pa, xa, rfl, sq_of ((e11.trans e12) _ _ ha), (e10.trans (e11.trans e12)) _ _ hT2, pw3 ba', ?_, q2'⟩)) fun H12 e12 => k H12 (e02.trans (e10.trans (e11.trans e12)))
    unfold mayC
    rw [if_neg (by omega), if_pos (.inl (by omega))]
    rfl
  have l2 : 2 ≤ xa.length := by
    have := of_decide_eq_false hb1
    omega
  obtain ⟨du1, du2⟩ := gd.dual q2
  obtain ⟨du3, du4⟩ := gd.symm.dual q2
  have m1 := gd.may q2 q3 l2 (by omega)
  have m2 := gd.symm.may q2 q3 (by omega) (by omega)
  refine q_asgL (el_list (ev_var rfl) (sq_of (e11 _ _ ha))) fun pp H12 np e12 hpp => ?_
  walk_at "nm"
  have dcall : ∀ (r : Addr) (u v : List Int) (H : Hp), H r = some (.lst (u.map V.int)) → Ex H2 H → mayC q u = true → dualBad q u = false → dualL q u = v → (∀ x ∈ u, x.natAbs < 2 ^ 390) → ∀ (Q : VK), RetL (v.map V.int) H Q → ∀ E, spDual K D Pt [.int q, .ref r] H Q E := fun r u v H hr1 e hm hd hv hbu Q hQ E =>
    ⟨q, r, u, rfl, sq_of hr1, e _ _ hT2, hbu, fun _ => by rw [hv]; exact hQ, fun z => by rw [hm, hd] at z; cases z⟩
  refine q_asgL (xs := xb.map V.int) (el_call (ea_cons (ev_var rfl) (ea_cons (ev_var rfl) ea_nil)) (fun H13 e13 Q2 q2' E2 => dcall pp xa xb H13 (e13 _ _ hpp) (e10.trans (e11.trans (e12.trans e13))) m1 du1 du2 (pw3 ba') Q2 q2' E2)) fun pr H13 nr e13 hpr => ?_
  walk_at "nm"
  have e1013 := e11.trans (e12.trans e13)
  have e213 := e10.trans e1013
  refine q_when (b := false) (et_is (et_or (a := false) (b := false) (et_is (et_not (et_B (ev_cb (ea_cons (ev_var rfl) (ea_cons ev_c ea_nil)) (rc_isiLst (b := true) hpr (by decide +kernel))))) rfl) fun _ => et_is (et_or (a := false) (b := false) (et_is (et_test (ev_op (ev_var rfl) (ev_var rfl) (rz_neL (ns := xb) (ms := xb) (sq_of hpr) (sq_of (e1013 _ _ hbb))))) (by rw [decide_eq_true rfl]; rfl)) fun _ => et_is (et_test (ev_op (ev_var rfl) (ev_var rfl) (rz_neL (ns := xa) (ms := xa) (sq_of (e13 _ _ hpp)) (sq_of (e1013 _ _ ha))))) (by rw [decide_eq_true rfl]; rfl)) rfl) rfl) (fun z => Bool.noConfusion z) fun _ H14 e14 => ?_
  refine q_forLn (a := pr) (xs := xb.map V.int) (ev_var rfl) (sq_of (e14 _ _ hpr)) (fun i σ' H' => ∃ y10, σ' = [some (.ref a), some (.ref l), some (.int q), some (.int (n : Int)), some (.ref pa), some (.ref pb), y6, y7, some (.ref pp), some (.ref pr), y10] ∧ Ex H13 H') ?_ ?_ ?_ ?_
  · intro H15 e15
    exact ⟨none, rfl, e14.trans e15⟩
  · rintro i σ' H' _ ⟨_, _, ex⟩
    exact sq_of (ex _ _ hpr)
  · rintro i y σ' H' hi ⟨y10, rfl, ex⟩
    obtain ⟨z, _, rfl⟩ := List.mem_map.mp (List.mem_of_getElem? hi)
    walk_at "nm"
    refine s_when (b := false) (et_is (et_not (et_B (ev_call (z := .bl true) (ea_cons (ev_var rfl) ea_nil) (fun H15 e15 Q2 q2' E2 => ⟨z, rfl, q2'⟩)))) rfl) (fun z => Bool.noConfusion z) fun _ H15 e15 => ⟨_, rfl, ex.trans e15⟩
  rintro σ' H15 ⟨y10, rfl, e15⟩
  have e215 := e213.trans e15
  refine q_when (b := false) (et_is (et_or (a := false) (b := false) (et_is (et_test (ev_opL1 (xs := xa.map V.int) (el_call (ea_cons (ev_var rfl) (ea_cons (ev_var rfl) ea_nil)) (fun H16 e16 Q2 q2' E2 => dcall pr xb xa H16 ((e15.trans e16) _ _ hpr) (e215.trans e16) m2 du3 du4 (pw3 bb') Q2 q2' E2)) (fun H16 e16 => ev_var rfl) (fun p H16 hp e16 => rz_neL (ns := xa) (ms := xa) (sq_of hp) (sq_of ((e1013.trans (e15.trans e16)) _ _ ha))))) (by rw [decide_eq_true rfl]; rfl)) fun _ => et_is (et_test (ev_op (ev_var rfl) (ev_var rfl) (rz_neL (ns := xb) (ms := xb) (sq_of (e15 _ _ hpr)) (sq_of ((e1013.trans e15) _ _ hbb))))) (by rw [decide_eq_true rfl]; rfl)) rfl) (fun z => Bool.noConfusion z) fun _ H16 e16 => ?_
  have e1016 := e1013.trans (e15.trans e16)
  exact s_ret (v := .bl true) (ev_call (ea_cons (ev_var rfl) (ea_cons (ev_var rfl) ea_nil)) (fun H17 e17 Q2 q2' E2 => ⟨q, pa, xa, rfl, sq_of ((e1016.trans e17) _ _ ha), (e10.trans (e1016.trans e17)) _ _ hT2, ba', hq, gd.a0, l2, by omega, q2'⟩)) fun H17 e17 => k H17 (e02.trans (e10.trans (e1016.trans e17)))
end
end My
set_option Elab.async false
set_option linter.all false
set_option maxRecDepth 100000
set_option maxHeartbeats 4000000
namespace MyT
end MyT
namespace MyS
end MyS
namespace MyZ
end MyZ
namespace My
open PySem PySem.Spec PyProof.Rows L2 L2H Evl GxR MyG MyT MyS MyZ
theorem all_mk {l : PySem.W.OpenLaw} {w : World} {K : PySem.W.Frag} {h : Heap} {mg : Str → Option Value} {fa f_int_power f_choose f_krawtchouk f_is_power f_may_be_counts f_times_line f_krawtchouk_sums f_dual_enumerator f_law_row f_law_numbers f_law_is_integer f_law_product f_law_repeated f_law_number f_law_krawtchouk f_law_block f_law_refused f_law_refusals f_law : Addr} (X : K.In h) (G : h.Ns mainGlobals mg) (hfa : mg "law" = some (.ref fa))
    {c0 Pt D cE : Addr}
    {od_int_power an_int_power : Option Addr} {sl_int_power : Array (Option Value)} {oc_int_power kV_int_power dc_int_power pm_int_power cd_int_power ct_int_power : Value}
    {od_choose an_choose : Option Addr} {sl_choose : Array (Option Value)} {oc_choose kV_choose dc_choose pm_choose cd_choose ct_choose : Value}
    {od_krawtchouk an_krawtchouk : Option Addr} {sl_krawtchouk : Array (Option Value)} {oc_krawtchouk kV_krawtchouk dc_krawtchouk pm_krawtchouk cd_krawtchouk ct_krawtchouk : Value}
    {od_is_power an_is_power : Option Addr} {sl_is_power : Array (Option Value)} {oc_is_power kV_is_power dc_is_power pm_is_power cd_is_power ct_is_power : Value}
    {od_may_be_counts an_may_be_counts : Option Addr} {sl_may_be_counts : Array (Option Value)} {oc_may_be_counts kV_may_be_counts dc_may_be_counts pm_may_be_counts cd_may_be_counts ct_may_be_counts : Value}
    {od_times_line an_times_line : Option Addr} {sl_times_line : Array (Option Value)} {oc_times_line kV_times_line dc_times_line pm_times_line cd_times_line ct_times_line : Value}
    {od_krawtchouk_sums an_krawtchouk_sums : Option Addr} {sl_krawtchouk_sums : Array (Option Value)} {oc_krawtchouk_sums kV_krawtchouk_sums dc_krawtchouk_sums pm_krawtchouk_sums cd_krawtchouk_sums ct_krawtchouk_sums : Value}
    {od_dual_enumerator an_dual_enumerator : Option Addr} {sl_dual_enumerator : Array (Option Value)} {oc_dual_enumerator kV_dual_enumerator dc_dual_enumerator pm_dual_enumerator ct_dual_enumerator : Value}
    {od_law_row an_law_row : Option Addr} {sl_law_row : Array (Option Value)} {oc_law_row kV_law_row dc_law_row pm_law_row cd_law_row ct_law_row : Value}
    {od_law_numbers an_law_numbers : Option Addr} {sl_law_numbers : Array (Option Value)} {oc_law_numbers kV_law_numbers dc_law_numbers pm_law_numbers cd_law_numbers ct_law_numbers : Value}
    {od_law_is_integer an_law_is_integer : Option Addr} {sl_law_is_integer : Array (Option Value)} {oc_law_is_integer kV_law_is_integer dc_law_is_integer pm_law_is_integer cd_law_is_integer ct_law_is_integer : Value}
    {od_law_product an_law_product : Option Addr} {sl_law_product : Array (Option Value)} {oc_law_product kV_law_product dc_law_product pm_law_product cd_law_product ct_law_product : Value}
    {od_law_repeated an_law_repeated : Option Addr} {sl_law_repeated : Array (Option Value)} {oc_law_repeated kV_law_repeated dc_law_repeated pm_law_repeated cd_law_repeated ct_law_repeated : Value}
    {od_law_number an_law_number : Option Addr} {sl_law_number : Array (Option Value)} {oc_law_number kV_law_number dc_law_number pm_law_number cd_law_number ct_law_number : Value}
    {od_law_krawtchouk an_law_krawtchouk : Option Addr} {sl_law_krawtchouk : Array (Option Value)} {oc_law_krawtchouk kV_law_krawtchouk dc_law_krawtchouk pm_law_krawtchouk cd_law_krawtchouk ct_law_krawtchouk : Value}
    {od_law_block an_law_block : Option Addr} {sl_law_block : Array (Option Value)} {oc_law_block kV_law_block dc_law_block pm_law_block cd_law_block ct_law_block : Value}
    {od_law_refused an_law_refused : Option Addr} {sl_law_refused : Array (Option Value)} {oc_law_refused kV_law_refused dc_law_refused pm_law_refused cd_law_refused ct_law_refused : Value}
    {od_law_refusals an_law_refusals : Option Addr} {sl_law_refusals : Array (Option Value)} {oc_law_refusals kV_law_refusals dc_law_refusals pm_law_refusals cd_law_refusals ct_law_refusals : Value}
    {od_law an_law : Option Addr} {sl_law : Array (Option Value)} {oc_law kV_law dc_law pm_law cd_law ct_law : Value}
    {t_LARGEST_ORDER : Tok}
    {t_GREATEST_LENGTH : Tok}
    (a_int_power : PySem.W.nsIn K mainGlobals "int_power" = some (some (.ref f_int_power))) (l_int_power : K.lookup f_int_power = some ⟨oc_int_power, od_int_power, .func (PySem.W.fnOf "int_power" "int_power" (defArgs s_int_power) (defBody s_int_power) (defScope s_int_power) .none kV_int_power dc_int_power pm_int_power an_int_power cd_int_power ct_int_power), sl_int_power⟩) (c_int_power : PySem.W.codeIn K cd_int_power "int_power" = true) (k_int_power : PySem.W.keepIn K (.ref f_int_power) = true)
    (a_choose : PySem.W.nsIn K mainGlobals "choose" = some (some (.ref f_choose))) (l_choose : K.lookup f_choose = some ⟨oc_choose, od_choose, .func (PySem.W.fnOf "choose" "choose" (defArgs s_choose) (defBody s_choose) (defScope s_choose) .none kV_choose dc_choose pm_choose an_choose cd_choose ct_choose), sl_choose⟩) (c_choose : PySem.W.codeIn K cd_choose "choose" = true) (k_choose : PySem.W.keepIn K (.ref f_choose) = true)
    (a_krawtchouk : PySem.W.nsIn K mainGlobals "krawtchouk" = some (some (.ref f_krawtchouk))) (l_krawtchouk : K.lookup f_krawtchouk = some ⟨oc_krawtchouk, od_krawtchouk, .func (PySem.W.fnOf "krawtchouk" "krawtchouk" (defArgs s_krawtchouk) (defBody s_krawtchouk) (defScope s_krawtchouk) .none kV_krawtchouk dc_krawtchouk pm_krawtchouk an_krawtchouk cd_krawtchouk ct_krawtchouk), sl_krawtchouk⟩) (c_krawtchouk : PySem.W.codeIn K cd_krawtchouk "krawtchouk" = true) (k_krawtchouk : PySem.W.keepIn K (.ref f_krawtchouk) = true)
    (a_is_power : PySem.W.nsIn K mainGlobals "_is_power" = some (some (.ref f_is_power))) (l_is_power : K.lookup f_is_power = some ⟨oc_is_power, od_is_power, .func (PySem.W.fnOf "_is_power" "_is_power" (defArgs s_is_power) (defBody s_is_power) (defScope s_is_power) .none kV_is_power dc_is_power pm_is_power an_is_power cd_is_power ct_is_power), sl_is_power⟩) (c_is_power : PySem.W.codeIn K cd_is_power "_is_power" = true) (k_is_power : PySem.W.keepIn K (.ref f_is_power) = true)
    (a_may_be_counts : PySem.W.nsIn K mainGlobals "_may_be_counts" = some (some (.ref f_may_be_counts))) (l_may_be_counts : K.lookup f_may_be_counts = some ⟨oc_may_be_counts, od_may_be_counts, .func (PySem.W.fnOf "_may_be_counts" "_may_be_counts" (defArgs s_may_be_counts) (defBody s_may_be_counts) (defScope s_may_be_counts) .none kV_may_be_counts dc_may_be_counts pm_may_be_counts an_may_be_counts cd_may_be_counts ct_may_be_counts), sl_may_be_counts⟩) (c_may_be_counts : PySem.W.codeIn K cd_may_be_counts "_may_be_counts" = true) (k_may_be_counts : PySem.W.keepIn K (.ref f_may_be_counts) = true)
    (a_times_line : PySem.W.nsIn K mainGlobals "_times_line" = some (some (.ref f_times_line))) (l_times_line : K.lookup f_times_line = some ⟨oc_times_line, od_times_line, .func (PySem.W.fnOf "_times_line" "_times_line" (defArgs s_times_line) (defBody s_times_line) (defScope s_times_line) .none kV_times_line dc_times_line pm_times_line an_times_line cd_times_line ct_times_line), sl_times_line⟩) (c_times_line : PySem.W.codeIn K cd_times_line "_times_line" = true) (k_times_line : PySem.W.keepIn K (.ref f_times_line) = true)
    (a_krawtchouk_sums : PySem.W.nsIn K mainGlobals "_krawtchouk_sums" = some (some (.ref f_krawtchouk_sums))) (l_krawtchouk_sums : K.lookup f_krawtchouk_sums = some ⟨oc_krawtchouk_sums, od_krawtchouk_sums, .func (PySem.W.fnOf "_krawtchouk_sums" "_krawtchouk_sums" (defArgs s_krawtchouk_sums) (defBody s_krawtchouk_sums) (defScope s_krawtchouk_sums) .none kV_krawtchouk_sums dc_krawtchouk_sums pm_krawtchouk_sums an_krawtchouk_sums cd_krawtchouk_sums ct_krawtchouk_sums), sl_krawtchouk_sums⟩) (c_krawtchouk_sums : PySem.W.codeIn K cd_krawtchouk_sums "_krawtchouk_sums" = true) (k_krawtchouk_sums : PySem.W.keepIn K (.ref f_krawtchouk_sums) = true)
    (a_dual_enumerator : PySem.W.nsIn K mainGlobals "dual_enumerator" = some (some (.ref f_dual_enumerator))) (l_dual_enumerator : K.lookup f_dual_enumerator = some ⟨oc_dual_enumerator, od_dual_enumerator, .func (PySem.W.fnOf "dual_enumerator" "dual_enumerator" (defArgs s_dual_enumerator) (defBody s_dual_enumerator) (defScope s_dual_enumerator) .none kV_dual_enumerator dc_dual_enumerator pm_dual_enumerator an_dual_enumerator (.ref c0) ct_dual_enumerator), sl_dual_enumerator⟩) (c_dual_enumerator : PySem.W.codeIn K (.ref c0) "dual_enumerator" = true) (k_dual_enumerator : PySem.W.keepIn K (.ref f_dual_enumerator) = true)
    (a_law_row : PySem.W.nsIn K mainGlobals "_law_row" = some (some (.ref f_law_row))) (l_law_row : K.lookup f_law_row = some ⟨oc_law_row, od_law_row, .func (PySem.W.fnOf "_law_row" "_law_row" (defArgs s_law_row) (defBody s_law_row) (defScope s_law_row) .none kV_law_row dc_law_row pm_law_row an_law_row cd_law_row ct_law_row), sl_law_row⟩) (c_law_row : PySem.W.codeIn K cd_law_row "_law_row" = true) (k_law_row : PySem.W.keepIn K (.ref f_law_row) = true)
    (a_law_numbers : PySem.W.nsIn K mainGlobals "_law_numbers" = some (some (.ref f_law_numbers))) (l_law_numbers : K.lookup f_law_numbers = some ⟨oc_law_numbers, od_law_numbers, .func (PySem.W.fnOf "_law_numbers" "_law_numbers" (defArgs s_law_numbers) (defBody s_law_numbers) (defScope s_law_numbers) .none kV_law_numbers dc_law_numbers pm_law_numbers an_law_numbers cd_law_numbers ct_law_numbers), sl_law_numbers⟩) (c_law_numbers : PySem.W.codeIn K cd_law_numbers "_law_numbers" = true) (k_law_numbers : PySem.W.keepIn K (.ref f_law_numbers) = true)
    (a_law_is_integer : PySem.W.nsIn K mainGlobals "_law_is_integer" = some (some (.ref f_law_is_integer))) (l_law_is_integer : K.lookup f_law_is_integer = some ⟨oc_law_is_integer, od_law_is_integer, .func (PySem.W.fnOf "_law_is_integer" "_law_is_integer" (defArgs s_law_is_integer) (defBody s_law_is_integer) (defScope s_law_is_integer) .none kV_law_is_integer dc_law_is_integer pm_law_is_integer an_law_is_integer cd_law_is_integer ct_law_is_integer), sl_law_is_integer⟩) (c_law_is_integer : PySem.W.codeIn K cd_law_is_integer "_law_is_integer" = true) (k_law_is_integer : PySem.W.keepIn K (.ref f_law_is_integer) = true)
    (a_law_product : PySem.W.nsIn K mainGlobals "_law_product" = some (some (.ref f_law_product))) (l_law_product : K.lookup f_law_product = some ⟨oc_law_product, od_law_product, .func (PySem.W.fnOf "_law_product" "_law_product" (defArgs s_law_product) (defBody s_law_product) (defScope s_law_product) .none kV_law_product dc_law_product pm_law_product an_law_product cd_law_product ct_law_product), sl_law_product⟩) (c_law_product : PySem.W.codeIn K cd_law_product "_law_product" = true) (k_law_product : PySem.W.keepIn K (.ref f_law_product) = true)
    (a_law_repeated : PySem.W.nsIn K mainGlobals "_law_repeated" = some (some (.ref f_law_repeated))) (l_law_repeated : K.lookup f_law_repeated = some ⟨oc_law_repeated, od_law_repeated, .func (PySem.W.fnOf "_law_repeated" "_law_repeated" (defArgs s_law_repeated) (defBody s_law_repeated) (defScope s_law_repeated) .none kV_law_repeated dc_law_repeated pm_law_repeated an_law_repeated cd_law_repeated ct_law_repeated), sl_law_repeated⟩) (c_law_repeated : PySem.W.codeIn K cd_law_repeated "_law_repeated" = true) (k_law_repeated : PySem.W.keepIn K (.ref f_law_repeated) = true)
    (a_law_number : PySem.W.nsIn K mainGlobals "_law_number" = some (some (.ref f_law_number))) (l_law_number : K.lookup f_law_number = some ⟨oc_law_number, od_law_number, .func (PySem.W.fnOf "_law_number" "_law_number" (defArgs s_law_number) (defBody s_law_number) (defScope s_law_number) .none kV_law_number dc_law_number pm_law_number an_law_number cd_law_number ct_law_number), sl_law_number⟩) (c_law_number : PySem.W.codeIn K cd_law_number "_law_number" = true) (k_law_number : PySem.W.keepIn K (.ref f_law_number) = true)
    (a_law_krawtchouk : PySem.W.nsIn K mainGlobals "_law_krawtchouk" = some (some (.ref f_law_krawtchouk))) (l_law_krawtchouk : K.lookup f_law_krawtchouk = some ⟨oc_law_krawtchouk, od_law_krawtchouk, .func (PySem.W.fnOf "_law_krawtchouk" "_law_krawtchouk" (defArgs s_law_krawtchouk) (defBody s_law_krawtchouk) (defScope s_law_krawtchouk) .none kV_law_krawtchouk dc_law_krawtchouk pm_law_krawtchouk an_law_krawtchouk cd_law_krawtchouk ct_law_krawtchouk), sl_law_krawtchouk⟩) (c_law_krawtchouk : PySem.W.codeIn K cd_law_krawtchouk "_law_krawtchouk" = true) (k_law_krawtchouk : PySem.W.keepIn K (.ref f_law_krawtchouk) = true)
    (a_law_block : PySem.W.nsIn K mainGlobals "_law_block" = some (some (.ref f_law_block))) (l_law_block : K.lookup f_law_block = some ⟨oc_law_block, od_law_block, .func (PySem.W.fnOf "_law_block" "_law_block" (defArgs s_law_block) (defBody s_law_block) (defScope s_law_block) .none kV_law_block dc_law_block pm_law_block an_law_block cd_law_block ct_law_block), sl_law_block⟩) (c_law_block : PySem.W.codeIn K cd_law_block "_law_block" = true) (k_law_block : PySem.W.keepIn K (.ref f_law_block) = true)
    (a_law_refused : PySem.W.nsIn K mainGlobals "_law_refused" = some (some (.ref f_law_refused))) (l_law_refused : K.lookup f_law_refused = some ⟨oc_law_refused, od_law_refused, .func (PySem.W.fnOf "_law_refused" "_law_refused" (defArgs s_law_refused) (defBody s_law_refused) (defScope s_law_refused) .none kV_law_refused dc_law_refused pm_law_refused an_law_refused cd_law_refused ct_law_refused), sl_law_refused⟩) (c_law_refused : PySem.W.codeIn K cd_law_refused "_law_refused" = true) (k_law_refused : PySem.W.keepIn K (.ref f_law_refused) = true)
    (a_law_refusals : PySem.W.nsIn K mainGlobals "_law_refusals" = some (some (.ref f_law_refusals))) (l_law_refusals : K.lookup f_law_refusals = some ⟨oc_law_refusals, od_law_refusals, .func (PySem.W.fnOf "_law_refusals" "_law_refusals" (defArgs s_law_refusals) (defBody s_law_refusals) (defScope s_law_refusals) .none kV_law_refusals dc_law_refusals pm_law_refusals an_law_refusals cd_law_refusals ct_law_refusals), sl_law_refusals⟩) (c_law_refusals : PySem.W.codeIn K cd_law_refusals "_law_refusals" = true) (k_law_refusals : PySem.W.keepIn K (.ref f_law_refusals) = true)
    (a_law : PySem.W.nsIn K mainGlobals "law" = some (some (.ref f_law))) (l_law : K.lookup f_law = some ⟨oc_law, od_law, .func (PySem.W.fnOf "law" "law" (defArgs s_law) (defBody s_law) (defScope s_law) .none kV_law dc_law pm_law an_law cd_law ct_law), sl_law⟩) (c_law : PySem.W.codeIn K cd_law "law" = true) (k_law : PySem.W.keepIn K (.ref f_law) = true)
    (x_cb : PySem.W.nsIn K mainGlobals "comb" = some (some (.builtin "math.comb")))
    (x_g : PySem.W.nsIn K mainGlobals "InvalidCode" = some (some (.ref D)))
    (x_gE : PySem.W.nsIn K mainGlobals "CodeError" = some (some (.ref cE)))
    (x_x : PySem.W.excIn K D [.type "ValueError", .type "Exception", .type "BaseException", .type "object"] "ValueError.__new__" = true)
    (x_k : PySem.W.keepIn K (.ref D) = true)
    (x_b : PySem.W.subIn K (.ref D) (.type "BaseException") = some true)
    (x_t : PySem.W.typeIn K (.ref D) = some (.type "type"))
    (x_ga : PySem.W.findIn K (.ref D) "__getattribute__" = some (some (.builtin "BaseException.__getattribute__")))
    (x_gg : PySem.W.findIn K (.ref D) "__getattr__" = some none)
    (x_hd : PySem.W.hasDictIn K D = true)
    (x_cl : PySem.W.findIn K (.ref D) "__class__" = some (some (.builtin "object.__class__")))
    (x_sp : PySem.W.specialIn K (.builtin "object.__class__") "__get__" = some (some (.builtin "getset_descriptor.__get__")))
    (x_tk : PySem.W.takesIn K (.builtin "object.__class__") = some true)
    (x_mr : PySem.W.mroIn K D (.type "object") = some true)
    (x_e : PySem.W.exmOne K (.ref D) (.ref D) = some true)
    (x_k1 : PySem.W.kitOne K (.ref D) (.ref cE) = some true)
    (x_k2 : PySem.W.kitOne K (.ref D) (.type "ValueError") = some true)
    (z_LARGEST_ORDER : PySem.W.nsIn K mainGlobals "LARGEST_ORDER" = some (some (.int 256 t_LARGEST_ORDER)))
    (z_GREATEST_LENGTH : PySem.W.nsIn K mainGlobals "GREATEST_LENGTH" = some (some (.int 255 t_GREATEST_LENGTH)))
    (z_ValueError : PySem.W.nsIn K mainGlobals "ValueError" = some none)
    (z_len : PySem.W.nsIn K mainGlobals "len" = some none)
    (z_abs : PySem.W.nsIn K mainGlobals "abs" = some none)
    (z_int : PySem.W.nsIn K mainGlobals "int" = some none)
    (z_bool : PySem.W.nsIn K mainGlobals "bool" = some none)
    (z_max : PySem.W.nsIn K mainGlobals "max" = some none)
    (z_range : PySem.W.nsIn K mainGlobals "range" = some none)
    (z_list : PySem.W.nsIn K mainGlobals "list" = some none)
    (z_isinstance : PySem.W.nsIn K mainGlobals "isinstance" = some none)
    (z_zip : PySem.W.nsIn K mainGlobals "zip" = some none)
    (z_any : PySem.W.nsIn K mainGlobals "any" = some none)
    (z_reversed : PySem.W.nsIn K mainGlobals "reversed" = some none)
    (z_min : PySem.W.nsIn K mainGlobals "min" = some none)
    (z_sum : PySem.W.nsIn K mainGlobals "sum" = some none)
    : ∃ fd : FuncData, (∀ (s : Shared) (v : Value), BindsTo s fd ⟨[v], []⟩ [("script", v)]) ∧ ∀ base : Heap, K.In base → base.Ns mainGlobals mg → TabB base mg c0 Pt → FnOk l.prog w K mg base CX0 6 fa fd ["script"] (spLawT K [Pt]) := by
  have e := hfa.symm.trans (PySem.W.mg_of X G a_law)
  cases e
  have F_int_power := fun_mk (st := s_int_power) l_int_power c_int_power k_int_power
  have b_int_power := F_int_power.binds (ps := ["base", "exponent"]) fun _ _ _ _ _ _ us hl => match us, hl with | [_, _], _ => rfl
  have g_int_power := PySem.W.mg_of X G a_int_power
  have F_choose := fun_mk (st := s_choose) l_choose c_choose k_choose
  have b_choose := F_choose.binds (ps := ["many", "few"]) fun _ _ _ _ _ _ us hl => match us, hl with | [_, _], _ => rfl
  have g_choose := PySem.W.mg_of X G a_choose
  have F_krawtchouk := fun_mk (st := s_krawtchouk) l_krawtchouk c_krawtchouk k_krawtchouk
  have b_krawtchouk := F_krawtchouk.binds (ps := ["order", "length", "k", "x"]) fun _ _ _ _ _ _ us hl => match us, hl with | [_, _, _, _], _ => rfl
  have g_krawtchouk := PySem.W.mg_of X G a_krawtchouk
  have F_is_power := fun_mk (st := s_is_power) l_is_power c_is_power k_is_power
  have b_is_power := F_is_power.binds (ps := ["number", "base", "most"]) fun _ _ _ _ _ _ us hl => match us, hl with | [_, _, _], _ => rfl
  have g_is_power := PySem.W.mg_of X G a_is_power
  have F_may_be_counts := fun_mk (st := s_may_be_counts) l_may_be_counts c_may_be_counts k_may_be_counts
  have b_may_be_counts := F_may_be_counts.binds (ps := ["order", "counts"]) fun _ _ _ _ _ _ us hl => match us, hl with | [_, _], _ => rfl
  have g_may_be_counts := PySem.W.mg_of X G a_may_be_counts
  have F_times_line := fun_mk (st := s_times_line) l_times_line c_times_line k_times_line
  have b_times_line := F_times_line.binds (ps := ["numbers", "slope"]) fun _ _ _ _ _ _ us hl => match us, hl with | [_, _], _ => rfl
  have g_times_line := PySem.W.mg_of X G a_times_line
  have F_krawtchouk_sums := fun_mk (st := s_krawtchouk_sums) l_krawtchouk_sums c_krawtchouk_sums k_krawtchouk_sums
  have b_krawtchouk_sums := F_krawtchouk_sums.binds (ps := ["order", "counts"]) fun _ _ _ _ _ _ us hl => match us, hl with | [_, _], _ => rfl
  have g_krawtchouk_sums := PySem.W.mg_of X G a_krawtchouk_sums
  have F_dual_enumerator := fun_mk (st := s_dual_enumerator) l_dual_enumerator c_dual_enumerator k_dual_enumerator
  have b_dual_enumerator := F_dual_enumerator.binds (ps := ["order", "counts"]) fun _ _ _ _ _ _ us hl => match us, hl with | [_, _], _ => rfl
  have g_dual_enumerator := PySem.W.mg_of X G a_dual_enumerator
  have F_law_row := fun_mk (st := s_law_row) l_law_row c_law_row k_law_row
  have b_law_row := F_law_row.binds (ps := ["cell", "many"]) fun _ _ _ _ _ _ us hl => match us, hl with | [_, _], _ => rfl
  have g_law_row := PySem.W.mg_of X G a_law_row
  have F_law_numbers := fun_mk (st := s_law_numbers) l_law_numbers c_law_numbers k_law_numbers
  have b_law_numbers := F_law_numbers.binds (ps := ["script", "many"]) fun _ _ _ _ _ _ us hl => match us, hl with | [_, _], _ => rfl
  have g_law_numbers := PySem.W.mg_of X G a_law_numbers
  have F_law_is_integer := fun_mk (st := s_law_is_integer) l_law_is_integer c_law_is_integer k_law_is_integer
  have b_law_is_integer := F_law_is_integer.binds (ps := ["actual"]) fun _ _ _ _ _ _ us hl => match us, hl with | [_], _ => rfl
  have g_law_is_integer := PySem.W.mg_of X G a_law_is_integer
  have F_law_product := fun_mk (st := s_law_product) l_law_product c_law_product k_law_product
  have b_law_product := F_law_product.binds (ps := ["first", "second"]) fun _ _ _ _ _ _ us hl => match us, hl with | [_, _], _ => rfl
  have g_law_product := PySem.W.mg_of X G a_law_product
  have F_law_repeated := fun_mk (st := s_law_repeated) l_law_repeated c_law_repeated k_law_repeated
  have b_law_repeated := F_law_repeated.binds (ps := ["factor", "times"]) fun _ _ _ _ _ _ us hl => match us, hl with | [_, _], _ => rfl
  have g_law_repeated := PySem.W.mg_of X G a_law_repeated
  have F_law_number := fun_mk (st := s_law_number) l_law_number c_law_number k_law_number
  have b_law_number := F_law_number.binds (ps := ["order", "length", "k", "x"]) fun _ _ _ _ _ _ us hl => match us, hl with | [_, _, _, _], _ => rfl
  have g_law_number := PySem.W.mg_of X G a_law_number
  have F_law_krawtchouk := fun_mk (st := s_law_krawtchouk) l_law_krawtchouk c_law_krawtchouk k_law_krawtchouk
  have b_law_krawtchouk := F_law_krawtchouk.binds (ps := ["order", "length", "k", "x"]) fun _ _ _ _ _ _ us hl => match us, hl with | [_, _, _, _], _ => rfl
  have g_law_krawtchouk := PySem.W.mg_of X G a_law_krawtchouk
  have F_law_block := fun_mk (st := s_law_block) l_law_block c_law_block k_law_block
  have b_law_block := F_law_block.binds (ps := ["order", "size", "kind"]) fun _ _ _ _ _ _ us hl => match us, hl with | [_, _, _], _ => rfl
  have g_law_block := PySem.W.mg_of X G a_law_block
  have F_law_refused := fun_mk (st := s_law_refused) l_law_refused c_law_refused k_law_refused
  have b_law_refused := F_law_refused.binds (ps := ["order", "counts"]) fun _ _ _ _ _ _ us hl => match us, hl with | [_, _], _ => rfl
  have g_law_refused := PySem.W.mg_of X G a_law_refused
  have F_law_refusals := fun_mk (st := s_law_refusals) l_law_refusals c_law_refusals k_law_refusals
  have b_law_refusals := F_law_refusals.binds (ps := ["order", "counts"]) fun _ _ _ _ _ _ us hl => match us, hl with | [_, _], _ => rfl
  have g_law_refusals := PySem.W.mg_of X G a_law_refusals
  have F_law := fun_mk (st := s_law) l_law c_law k_law
  have b_law := F_law.binds (ps := ["script"]) fun _ _ _ _ _ _ us hl => match us, hl with | [_], _ => rfl
  have g_law := PySem.W.mg_of X G a_law
  have y_LARGEST_ORDER := PySem.W.mg_of X G z_LARGEST_ORDER
  have y_GREATEST_LENGTH := PySem.W.mg_of X G z_GREATEST_LENGTH
  have y_ValueError := PySem.W.mg_none_of X G z_ValueError
  have y_len := PySem.W.mg_none_of X G z_len
  have y_abs := PySem.W.mg_none_of X G z_abs
  have y_int := PySem.W.mg_none_of X G z_int
  have y_bool := PySem.W.mg_none_of X G z_bool
  have y_max := PySem.W.mg_none_of X G z_max
  have y_range := PySem.W.mg_none_of X G z_range
  have y_list := PySem.W.mg_none_of X G z_list
  have y_isinstance := PySem.W.mg_none_of X G z_isinstance
  have y_zip := PySem.W.mg_none_of X G z_zip
  have y_any := PySem.W.mg_none_of X G z_any
  have y_reversed := PySem.W.mg_none_of X G z_reversed
  have y_min := PySem.W.mg_none_of X G z_min
  have y_sum := PySem.W.mg_none_of X G z_sum
  refine ⟨PySem.W.fnOf "law" "law" (defArgs s_law) (defBody s_law) (defScope s_law) .none kV_law dc_law pm_law an_law cd_law ct_law, fun s v => .of_eq rfl, fun base _ _ TB => ?_⟩
  have T : FTxt mg := ⟨y_len, y_abs, y_int, y_bool, y_max, y_range, y_list, y_isinstance, y_zip, y_any, y_reversed, y_min, y_sum, PySem.W.mg_of X G x_cb, ⟨_, y_GREATEST_LENGTH⟩, ⟨_, y_LARGEST_ORDER⟩⟩
  have TX : XTxt K mg "InvalidCode" D := ⟨PySem.W.mg_of X G x_g, x_x, x_k, x_b, x_t⟩
  have TE : XErr K mg D cE := ⟨⟨x_ga, x_gg, x_b, x_hd, x_cl, x_sp, x_tk, x_mr⟩, x_e, PySem.W.mg_of X G x_gE, y_ValueError, x_k1, x_k2⟩
  have p_pow : Dk l.prog w K mg base CX0 1 "int_power" ["base", "exponent"] spPow := ⟨_, _, g_int_power, k_int_power, b_int_power, ok_pow F_int_power⟩
  have p_cho : Dk l.prog w K mg base CX0 1 "choose" ["many", "few"] spCho := ⟨_, _, g_choose, k_choose, b_choose, ok_cho F_choose T⟩
  have p_kr : Dk l.prog w K mg base CX0 2 "krawtchouk" ["order", "length", "k", "x"] spKr := ⟨_, _, g_krawtchouk, k_krawtchouk, b_krawtchouk, ok_kr F_krawtchouk T p_cho p_pow⟩
  have p_ip : Dk l.prog w K mg base CX0 1 "_is_power" ["number", "base", "most"] spIsPow := ⟨_, _, g_is_power, k_is_power, b_is_power, ok_ispow F_is_power T⟩
  have p_may : Dk l.prog w K mg base CX0 2 "_may_be_counts" ["order", "counts"] (spMay K) := ⟨_, _, g_may_be_counts, k_may_be_counts, b_may_be_counts, ok_may F_may_be_counts T p_ip⟩
  have p_line : Dk l.prog w K mg base CX0 1 "_times_line" ["numbers", "slope"] (spLine K) := ⟨_, _, g_times_line, k_times_line, b_times_line, ok_line F_times_line T⟩
  have p_ks : Dk l.prog w K mg base CX0 2 "_krawtchouk_sums" ["order", "counts"] (spKS K) := ⟨_, _, g_krawtchouk_sums, k_krawtchouk_sums, b_krawtchouk_sums, ok_ks F_krawtchouk_sums T p_line⟩
  have p_dual : Dk l.prog w K mg base (L2.CX l.prog w) 3 "dual_enumerator" ["order", "counts"] (spDual K D Pt) := ⟨_, _, g_dual_enumerator, k_dual_enumerator, b_dual_enumerator, ok_dual l_dual_enumerator c_dual_enumerator T TB TX p_may p_ks⟩
  have d_row : Dk l.prog w K mg base CX0 1 "_law_row" ["cell", "many"] spRow := ⟨_, _, g_law_row, k_law_row, b_law_row, ok_row F_law_row T⟩
  have d_nums : Dk l.prog w K mg base CX0 2 "_law_numbers" ["script", "many"] (spNumbers K) := ⟨_, _, g_law_numbers, k_law_numbers, b_law_numbers, ok_numbers F_law_numbers T d_row⟩
  have d_int : Dk l.prog w K mg base CX0 1 "_law_is_integer" ["actual"] spIsInt := ⟨_, _, g_law_is_integer, k_law_is_integer, b_law_is_integer, ok_isint F_law_is_integer T⟩
  have d_prod : Dk l.prog w K mg base CX0 1 "_law_product" ["first", "second"] (spProd K) := ⟨_, _, g_law_product, k_law_product, b_law_product, ok_prod F_law_product T⟩
  have d_rep : Dk l.prog w K mg base CX0 2 "_law_repeated" ["factor", "times"] (spRep K) := ⟨_, _, g_law_repeated, k_law_repeated, b_law_repeated, ok_rep F_law_repeated T d_prod⟩
  have d_num : Dk l.prog w K mg base CX0 3 "_law_number" ["order", "length", "k", "x"] (spNum K) := ⟨_, _, g_law_number, k_law_number, b_law_number, ok_num F_law_number T (d_prod.up (by decide)) d_rep⟩
  have d_lk : Dk l.prog w K mg base CX0 4 "_law_krawtchouk" ["order", "length", "k", "x"] spLK := ⟨_, _, g_law_krawtchouk, k_law_krawtchouk, b_law_krawtchouk, ok_lk F_law_krawtchouk T (p_kr.up (by decide)) d_num (d_int.up (by decide)) (d_rep.up (by decide))⟩
  have d_blk : Dk l.prog w K mg base CX0 4 "_law_block" ["order", "size", "kind"] (spBlk K) := ⟨_, _, g_law_block, k_law_block, b_law_block, ok_blk F_law_block T (d_rep.up (by decide))⟩
  have d_ref : Dk l.prog w K mg base CX0 4 "_law_refused" ["order", "counts"] (spRef K Pt) := ⟨_, _, g_law_refused, k_law_refused, b_law_refused, ok_ref F_law_refused T TX TE p_dual⟩
  have d_refs : Dk l.prog w K mg base CX0 5 "_law_refusals" ["order", "counts"] (spRefs K Pt) := ⟨_, _, g_law_refusals, k_law_refusals, b_law_refusals, ok_refs F_law_refusals T d_ref⟩
  exact ok_law F_law T (d_nums.up (by decide)) (d_lk.up (by decide)) (p_kr.up (by decide)) (d_blk.up (by decide)) (d_prod.up (by decide)) (d_ref.up (by decide)) (p_dual.up (by decide)) (d_int.up (by decide)) d_refs
end My
set_option Elab.async false
set_option linter.all false
open PySem PySem.W PyProof.Rows in
set_option maxRecDepth 100000 in
set_option maxHeartbeats 0 in
theorem PySem.Challenge.cw_nearestword_k28_dual_counts_of_any_order_holds : PySem.Challenge.rw_nearestword_k28_dual_counts_of_any_order.Holds := by
  w_on; o_law; k_head; (case hw => w_witness2)
  k_fill
  refine My.walk_tabs (l := PySem.Challenge.rw_nearestword_k28_dual_counts_of_any_order) (n := 63) (k := 6) (x := "script") (cs := [("dual_enumerator", 116, 114)]) rfl (by decide) rfl ⟨rfl, by decide, by decide⟩ (fun w h Y => PySem.W.kIn_of Y) ?hf ?ht ?hP ?F
  case hf => exact (My.all1 (by kernel_rfl))
  case ht => intro w; exact (My.all1 (by kernel_rfl))
  case hP => intro w; exact (My.all1 (by kernel_rfl))
  case F =>
    intro w mg fa h KX G hmg
    refine' My.tb_of1 (My.all_mk KX G hmg ?a_int_power ?l_int_power ?c_int_power ?k_int_power ?a_choose ?l_choose ?c_choose ?k_choose ?a_krawtchouk ?l_krawtchouk ?c_krawtchouk ?k_krawtchouk ?a_is_power ?l_is_power ?c_is_power ?k_is_power ?a_may_be_counts ?l_may_be_counts ?c_may_be_counts ?k_may_be_counts ?a_times_line ?l_times_line ?c_times_line ?k_times_line ?a_krawtchouk_sums ?l_krawtchouk_sums ?c_krawtchouk_sums ?k_krawtchouk_sums ?a_dual_enumerator ?l_dual_enumerator ?c_dual_enumerator ?k_dual_enumerator ?a_law_row ?l_law_row ?c_law_row ?k_law_row ?a_law_numbers ?l_law_numbers ?c_law_numbers ?k_law_numbers ?a_law_is_integer ?l_law_is_integer ?c_law_is_integer ?k_law_is_integer ?a_law_product ?l_law_product ?c_law_product ?k_law_product ?a_law_repeated ?l_law_repeated ?c_law_repeated ?k_law_repeated ?a_law_number ?l_law_number ?c_law_number ?k_law_number ?a_law_krawtchouk ?l_law_krawtchouk ?c_law_krawtchouk ?k_law_krawtchouk ?a_law_block ?l_law_block ?c_law_block ?k_law_block ?a_law_refused ?l_law_refused ?c_law_refused ?k_law_refused ?a_law_refusals ?l_law_refusals ?c_law_refusals ?k_law_refusals ?a_law ?l_law ?c_law ?k_law ?x_cb ?x_g ?x_gE ?x_x ?x_k ?x_b ?x_t ?x_ga ?x_gg ?x_hd ?x_cl ?x_sp ?x_tk ?x_mr ?x_e ?x_k1 ?x_k2 ?z_LARGEST_ORDER ?z_GREATEST_LENGTH ?z_ValueError ?z_len ?z_abs ?z_int ?z_bool ?z_max ?z_range ?z_list ?z_isinstance ?z_zip ?z_any ?z_reversed ?z_min ?z_sum)
    (case a_int_power => first | k_is | rfl | k_exc | kernel_rfl)
    (case l_int_power => first | k_is | rfl | k_exc | kernel_rfl)
    (case c_int_power => first | k_is | rfl | k_exc | kernel_rfl)
    (case k_int_power => first | k_is | rfl | k_exc | kernel_rfl)
    (case a_choose => first | k_is | rfl | k_exc | kernel_rfl)
    (case l_choose => first | k_is | rfl | k_exc | kernel_rfl)
    (case c_choose => first | k_is | rfl | k_exc | kernel_rfl)
    (case k_choose => first | k_is | rfl | k_exc | kernel_rfl)
    (case a_krawtchouk => first | k_is | rfl | k_exc | kernel_rfl)
    (case l_krawtchouk => first | k_is | rfl | k_exc | kernel_rfl)
    (case c_krawtchouk => first | k_is | rfl | k_exc | kernel_rfl)
    (case k_krawtchouk => first | k_is | rfl | k_exc | kernel_rfl)
    (case a_is_power => first | k_is | rfl | k_exc | kernel_rfl)
    (case l_is_power => first | k_is | rfl | k_exc | kernel_rfl)
    (case c_is_power => first | k_is | rfl | k_exc | kernel_rfl)
    (case k_is_power => first | k_is | rfl | k_exc | kernel_rfl)
    (case a_may_be_counts => first | k_is | rfl | k_exc | kernel_rfl)
    (case l_may_be_counts => first | k_is | rfl | k_exc | kernel_rfl)
    (case c_may_be_counts => first | k_is | rfl | k_exc | kernel_rfl)
    (case k_may_be_counts => first | k_is | rfl | k_exc | kernel_rfl)
    (case a_times_line => first | k_is | rfl | k_exc | kernel_rfl)
    (case l_times_line => first | k_is | rfl | k_exc | kernel_rfl)
    (case c_times_line => first | k_is | rfl | k_exc | kernel_rfl)
    (case k_times_line => first | k_is | rfl | k_exc | kernel_rfl)
    (case a_krawtchouk_sums => first | k_is | rfl | k_exc | kernel_rfl)
    (case l_krawtchouk_sums => first | k_is | rfl | k_exc | kernel_rfl)
    (case c_krawtchouk_sums => first | k_is | rfl | k_exc | kernel_rfl)
    (case k_krawtchouk_sums => first | k_is | rfl | k_exc | kernel_rfl)
    (case a_dual_enumerator => first | k_is | rfl | k_exc | kernel_rfl)
    (case l_dual_enumerator => first | k_is | rfl | k_exc | kernel_rfl)
    (case c_dual_enumerator => first | k_is | rfl | k_exc | kernel_rfl)
    (case k_dual_enumerator => first | k_is | rfl | k_exc | kernel_rfl)
    (case a_law_row => first | k_is | rfl | k_exc | kernel_rfl)
    (case l_law_row => first | k_is | rfl | k_exc | kernel_rfl)
    (case c_law_row => first | k_is | rfl | k_exc | kernel_rfl)
    (case k_law_row => first | k_is | rfl | k_exc | kernel_rfl)
    (case a_law_numbers => first | k_is | rfl | k_exc | kernel_rfl)
    (case l_law_numbers => first | k_is | rfl | k_exc | kernel_rfl)
    (case c_law_numbers => first | k_is | rfl | k_exc | kernel_rfl)
    (case k_law_numbers => first | k_is | rfl | k_exc | kernel_rfl)
    (case a_law_is_integer => first | k_is | rfl | k_exc | kernel_rfl)
    (case l_law_is_integer => first | k_is | rfl | k_exc | kernel_rfl)
    (case c_law_is_integer => first | k_is | rfl | k_exc | kernel_rfl)
    (case k_law_is_integer => first | k_is | rfl | k_exc | kernel_rfl)
    (case a_law_product => first | k_is | rfl | k_exc | kernel_rfl)
    (case l_law_product => first | k_is | rfl | k_exc | kernel_rfl)
    (case c_law_product => first | k_is | rfl | k_exc | kernel_rfl)
    (case k_law_product => first | k_is | rfl | k_exc | kernel_rfl)
    (case a_law_repeated => first | k_is | rfl | k_exc | kernel_rfl)
    (case l_law_repeated => first | k_is | rfl | k_exc | kernel_rfl)
    (case c_law_repeated => first | k_is | rfl | k_exc | kernel_rfl)
    (case k_law_repeated => first | k_is | rfl | k_exc | kernel_rfl)
    (case a_law_number => first | k_is | rfl | k_exc | kernel_rfl)
    (case l_law_number => first | k_is | rfl | k_exc | kernel_rfl)
    (case c_law_number => first | k_is | rfl | k_exc | kernel_rfl)
    (case k_law_number => first | k_is | rfl | k_exc | kernel_rfl)
    (case a_law_krawtchouk => first | k_is | rfl | k_exc | kernel_rfl)
    (case l_law_krawtchouk => first | k_is | rfl | k_exc | kernel_rfl)
    (case c_law_krawtchouk => first | k_is | rfl | k_exc | kernel_rfl)
    (case k_law_krawtchouk => first | k_is | rfl | k_exc | kernel_rfl)
    (case a_law_block => first | k_is | rfl | k_exc | kernel_rfl)
    (case l_law_block => first | k_is | rfl | k_exc | kernel_rfl)
    (case c_law_block => first | k_is | rfl | k_exc | kernel_rfl)
    (case k_law_block => first | k_is | rfl | k_exc | kernel_rfl)
    (case a_law_refused => first | k_is | rfl | k_exc | kernel_rfl)
    (case l_law_refused => first | k_is | rfl | k_exc | kernel_rfl)
    (case c_law_refused => first | k_is | rfl | k_exc | kernel_rfl)
    (case k_law_refused => first | k_is | rfl | k_exc | kernel_rfl)
    (case a_law_refusals => first | k_is | rfl | k_exc | kernel_rfl)
    (case l_law_refusals => first | k_is | rfl | k_exc | kernel_rfl)
    (case c_law_refusals => first | k_is | rfl | k_exc | kernel_rfl)
    (case k_law_refusals => first | k_is | rfl | k_exc | kernel_rfl)
    (case a_law => first | k_is | rfl | k_exc | kernel_rfl)
    (case l_law => first | k_is | rfl | k_exc | kernel_rfl)
    (case c_law => first | k_is | rfl | k_exc | kernel_rfl)
    (case k_law => first | k_is | rfl | k_exc | kernel_rfl)
    (case x_cb => first | k_is | rfl | k_exc | kernel_rfl)
    (case x_g => first | k_is | rfl | k_exc | kernel_rfl)
    (case x_gE => first | k_is | rfl | k_exc | kernel_rfl)
    (case x_x => first | k_is | rfl | k_exc | kernel_rfl)
    (case x_k => first | k_is | rfl | k_exc | kernel_rfl)
    (case x_b => first | k_is | rfl | k_exc | kernel_rfl)
    (case x_t => first | k_is | rfl | k_exc | kernel_rfl)
    (case x_ga => first | k_is | rfl | k_exc | kernel_rfl)
    (case x_gg => first | k_is | rfl | k_exc | kernel_rfl)
    (case x_hd => first | k_is | rfl | k_exc | kernel_rfl)
    (case x_cl => first | k_is | rfl | k_exc | kernel_rfl)
    (case x_sp => first | k_is | rfl | k_exc | kernel_rfl)
    (case x_tk => first | k_is | rfl | k_exc | kernel_rfl)
    (case x_mr => first | k_is | rfl | k_exc | kernel_rfl)
    (case x_e => first | k_is | rfl | k_exc | kernel_rfl)
    (case x_k1 => first | k_is | rfl | k_exc | kernel_rfl)
    (case x_k2 => first | k_is | rfl | k_exc | kernel_rfl)
    (case z_LARGEST_ORDER => first | k_is | rfl | k_exc | kernel_rfl)
    (case z_GREATEST_LENGTH => first | k_is | rfl | k_exc | kernel_rfl)
    (case z_ValueError => first | k_is | rfl | k_exc | kernel_rfl)
    (case z_len => first | k_is | rfl | k_exc | kernel_rfl)
    (case z_abs => first | k_is | rfl | k_exc | kernel_rfl)
    (case z_int => first | k_is | rfl | k_exc | kernel_rfl)
    (case z_bool => first | k_is | rfl | k_exc | kernel_rfl)
    (case z_max => first | k_is | rfl | k_exc | kernel_rfl)
    (case z_range => first | k_is | rfl | k_exc | kernel_rfl)
    (case z_list => first | k_is | rfl | k_exc | kernel_rfl)
    (case z_isinstance => first | k_is | rfl | k_exc | kernel_rfl)
    (case z_zip => first | k_is | rfl | k_exc | kernel_rfl)
    (case z_any => first | k_is | rfl | k_exc | kernel_rfl)
    (case z_reversed => first | k_is | rfl | k_exc | kernel_rfl)
    (case z_min => first | k_is | rfl | k_exc | kernel_rfl)
    (case z_sum => first | k_is | rfl | k_exc | kernel_rfl)
#print axioms PySem.Challenge.cw_nearestword_k28_dual_counts_of_any_order_holds
