import PyProof.Rows.All
import Wide.All
import OpenK.AllK
import Wide.FinOn
import PySem.Challenge.RW_boundsmith_k13_what_goes_right_ahead
import HandS.ForMost
import HandS.IsInst
import HandS.Wide
import HandS.WideBits
import HandS.Evl
import HandS.Replace
import HandS.Codes
import HandS.SetBool
import HandS.Strs
import HandS.SortKw
import KE.DataMinMax
import PyProof.ReprRoads
import HandS.Ends
import HandS.EndBits
import HandS.DictTup
import HandS.DictComp
import HandS.TupLen
import HandS.TupSets
import HandS.Conv
import HandS.SortRule
import HandS.SortInts
import KE.KDictCopyH
import HandS.Walk
import HandS.Iter
import PyProof.ListRange
import HandS.Style
import PyProof.P3Eq
set_option Elab.async false
set_option linter.all false
set_option maxRecDepth 100000
/-! words shared by the proofs of one program's laws -/
namespace Bs
open PySem PySem.Spec PyProof.Rows L2
open Evl (Ex)

/-! ### a def that may be called: its name, its slots' names, its promise -/
structure Cal (P : Program) (w : World) (K : PySem.W.Frag) (mg : Str → Option Value) (base : Heap) (k : Nat) (x : Str) (ps : List Str) (sp : Sp) : Prop where
  ex : ∃ (f : Addr) (fd : FuncData), mg x = some (.ref f) ∧ PySem.W.keepIn K (.ref f) = true ∧ Binds K fd ps [] ∧ FnOk P w K mg base CX0 k f fd ps sp
theorem Cal.mono {P : Program} {w : World} {K : PySem.W.Frag} {mg : Str → Option Value} {base : Heap} {j k : Nat} {x : Str} {ps : List Str} {sp : Sp} (G : Cal P w K mg base j x ps sp) (h : j ≤ k) : Cal P w K mg base k x ps sp := by
  obtain ⟨f, fd, a, b, c, F⟩ := G.ex
  exact ⟨f, fd, a, b, c, F.mono h⟩
theorem pe_cal {X : Cx} {k : Nat} {x : Str} {ps : List Str} {sp : Sp} {p pos : Pos} {e : Expr} {es : List Expr} {t : TA} (G : Cal X.prog X.w X.K X.mg X.base k x ps sp) (hr : Room k X.A) (hg : Gl X x)
    (ha : PA X (e :: es) t) (hdb : (x == ("__debug__" : Str)) = false := by decide) (he : starEach (e :: es) X.env = (false, eval e X.env) :: starEach es X.env := by rfl) (hpl : (backTo pos (starEach es X.env)).any (·.1) = false := by rfl) :
    PE X (.Call (.Name x p) (e :: es) [] pos) (tCall sp [] E0 t) := by
  obtain ⟨f, fd, hm, hk, hb, F⟩ := G.ex
  exact pe_call F hr hg hm hk hb .nil pass0 ha hdb he hpl
/-- what the top holds of a def -/
structure Dfn (K : PySem.W.Frag) (mg : Str → Option Value) (x : Str) (st : Stmt) (ps : List Str) : Prop where
  ex : ∃ (f : Addr) (fd : FuncData), Fun K x x st f fd ∧ mg x = some (.ref f) ∧ ∀ us : List Value, us.length = ps.length → bindArgs fd ⟨us, []⟩ = pure (ps.zip us)
theorem Dfn.cal {P : Program} {w : World} {K : PySem.W.Frag} {mg : Str → Option Value} {base : Heap} {k : Nat} {x : Str} {st : Stmt} {N ps : List Str} {sp : Sp} (D : Dfn K mg x st ps) (S : FnScope N ps (defScope st)) (len : ∀ vs H Q E, sp vs H Q E → vs.length = ps.length)
    (hbody : ∀ (f : Addr) (cdv : Value) (A : Around) (outer : List Env) (s : Shared) (H : Hp) (vs : List V) (Q : VK) (E : XK), Room k (A.deeper (envOfC x (defScope st) s.heap.objs.size f cdv)) → sp vs H Q E →
      ∃ t, PSs (cxOf CX0 P w K mg base N x (defScope st) f cdv A outer s H E).nox (defBody st) t ∧ t { nx := fun _ H' => Q .non H', rt := Q } (start N vs) H) : Cal P w K mg base (k + 1) x ps sp := by
  obtain ⟨f, fd, F, g, b⟩ := D.ex
  exact ⟨f, fd, g, F.kp, .all b, F.ok S len fun cdv A outer s H vs Q E hr h => hbody f cdv A outer s H vs Q E hr h⟩
theorem dfn_mk {K : PySem.W.Frag} {mg : Str → Option Value} {h : Heap} {x : Str} {st : Stmt} {ps : List Str} {f : Addr} {oc : Value} {od an : Option Addr} {osl : Array (Option Value)} {kV doc pm cdv ct : Value} (X : K.In h) (G : h.Ns mainGlobals mg)
    (a : PySem.W.nsIn K mainGlobals x = some (some (.ref f)))
    (l : K.lookup f = some ⟨oc, od, .func (PySem.W.fnOf x x (defArgs st) (defBody st) (defScope st) .none kV doc pm an cdv ct), osl⟩)
    (c : PySem.W.codeIn K cdv x = true) (k : PySem.W.keepIn K (.ref f) = true)
    (hb : ∀ (kV doc pm : Value) (an : Option Addr) (cdv ct : Value) (us : List Value), us.length = ps.length → bindArgs (PySem.W.fnOf x x (defArgs st) (defBody st) (defScope st) .none kV doc pm an cdv ct) ⟨us, []⟩ = pure (ps.zip us)) : Dfn K mg x st ps :=
  ⟨f, _, fun_mk (st := st) l c k, PySem.W.mg_of X G a, hb kV doc pm an cdv ct⟩

theorem pe_globE {X : Cx} {x : Str} {v : V} {pos : Pos} (hg : Gl X x) (h : ∃ u, X.mg x = some u ∧ RelV v u) (hd : (x == ("__debug__" : Str)) = false := by decide) : PE X (.Name x pos) (tC v) := by
  obtain ⟨u, hm, r⟩ := h
  exact pe_glob hg hm r hd
/-- the law's own end -/
theorem law_end {P : Program} {w : World} {K : PySem.W.Frag} {mg : Str → Option Value} {k : Nat} {x : Str} {st : Stmt} {sp : Sp} {fa : Addr} (D : Dfn K mg x st ["script"]) (hfa : mg x = some (.ref fa))
    (ok : ∀ (base : Heap) (f : Addr) (fd : FuncData), Fun K x x st f fd → FnOk P w K mg base CX0 k f fd ["script"] sp) :
    ∃ fd : FuncData, (∀ (s : Shared) (v : Value), BindsTo s fd ⟨[v], []⟩ [("script", v)]) ∧ ∀ base : Heap, K.In base → base.Ns mainGlobals mg → FnOk P w K mg base CX0 k fa fd ["script"] sp := by
  obtain ⟨f, fd, F, g, b⟩ := D.ex
  have e := hfa.symm.trans g
  cases e
  exact ⟨fd, fun s v => .of_eq (b [v] rfl), fun base _ _ => ok base fa fd F⟩
/-! ### loops over a text -/
theorem lc_str {x : Str} {g : TG} {tt : TT} {te : TE} {vs : List Nat} {σ : L2.St} {H1 : Hp} {D : Addr} {Qd : Hp → Prop} (Pv : Nat → Hp → Prop) (h0 : Pv 0 (upd H1 D (.lst [])))
    (hs : ∀ i c H, x.cps[i]? = some c → Pv i H → g (.str ⟨#[c]⟩) (wipe σ vs) H fun σ2 H2 => wipe σ2 vs = wipe σ vs ∧ tt σ2 H2 fun b H3 =>
      if b = true then te σ2 H3 fun y H4 => ∃ acc, H4 D = some (.lst acc) ∧ acc.length < sizeLine ∧ Pv (i + 1) (upd H4 D (.lst (acc ++ [y]))) else Pv (i + 1) H3) (hd : ∀ H, Pv x.cps.size H → Qd H) :
    ∃ W : Nat → Nat → Hp → Prop, (∃ m, W 0 m (upd H1 D (.lst []))) ∧ ∀ i m H, W i m H →
      ((Its x).stop i H ∧ Qd H) ∨ ((Its x).go i H ∧ ∃ Nx : Hp → Prop, (∀ H', Nx H' → ∃ m', m' < m ∧ W (i + 1) m' H') ∧ ∀ x' H', (Its x).yld i H x' H' → g x' (wipe σ vs) H' fun σ2 H2 => wipe σ2 vs = wipe σ vs ∧ tt σ2 H2 fun b H3 =>
        if b = true then te σ2 H3 fun y H4 => ∃ acc, H4 D = some (.lst acc) ∧ acc.length < sizeLine ∧ Nx (upd H4 D (.lst (acc ++ [y]))) else Nx H3) := by
  refine ⟨fun i m H => m = x.cps.size - i ∧ i ≤ x.cps.size ∧ Pv i H, ⟨x.cps.size, by simp, Nat.zero_le _, h0⟩, ?_⟩
  rintro i m H ⟨rfl, hi, p⟩
  by_cases hlt : i < x.cps.size
  · refine .inr ⟨hlt, Pv (i + 1), fun H' p' => ⟨x.cps.size - (i + 1), by omega, rfl, hlt, p'⟩, fun x' H' y => ?_⟩
    obtain ⟨e, c, hc, y⟩ := y
    subst e y
    exact hs i c _ hc p
  · have e : i = x.cps.size := by omega
    subst e
    exact .inl ⟨Nat.le_refl _, hd H p⟩
theorem for_str {x : Str} {g : TG} {tb : TS} {D : Ends} {σ : L2.St} {H : Hp} (Pv : Nat → L2.St → Hp → Prop) (h0 : Pv 0 σ H)
    (hs : ∀ i c σ H, x.cps[i]? = some c → Pv i σ H → g (.str ⟨#[c]⟩) σ H fun σ2 H2 => tb { D with nx := Pv (i + 1), ct := Pv (i + 1), bk := D.nx } σ2 H2) (hd : ∀ σ H, Pv x.cps.size σ H → D.nx σ H) :
    ∃ W : Nat → Nat → L2.St → Hp → Prop, (∃ m, W 0 m σ H) ∧ ∀ i m σ H, W i m σ H → ((Its x).stop i H ∧ D.nx σ H) ∨ ((Its x).go i H ∧ ∃ Nx : L2.St → Hp → Prop, (∀ σ' H', Nx σ' H' → ∃ m', m' < m ∧ W (i + 1) m' σ' H') ∧
      ∀ x' H', (Its x).yld i H x' H' → g x' σ H' fun σ2 H2 => tb { D with nx := Nx, ct := Nx, bk := D.nx } σ2 H2) := by
  refine ⟨fun i m σ H => m = x.cps.size - i ∧ i ≤ x.cps.size ∧ Pv i σ H, ⟨x.cps.size, by simp, Nat.zero_le _, h0⟩, ?_⟩
  rintro i m σ H ⟨rfl, hi, p⟩
  by_cases hlt : i < x.cps.size
  · refine .inr ⟨hlt, Pv (i + 1), fun σ' H' p' => ⟨x.cps.size - (i + 1), by omega, rfl, hlt, p'⟩, fun x' H' y => ?_⟩
    obtain ⟨e, c, hc, y⟩ := y
    subst e y
    exact hs i c _ _ hc p
  · have e : i = x.cps.size := by omega
    subst e
    exact .inl ⟨Nat.le_refl _, hd σ H p⟩

/-! ### kinds of things -/
inductive Kd (K : PySem.W.Frag) (H : Hp) : V → String → Prop
  | non : Kd K H .non "NoneType"
  | bl (b : Bool) : Kd K H (.bl b) "bool"
  | int (i : Int) : Kd K H (.int i) "int"
  | str (x : Str) : Kd K H (.str x) "str"
  | lst {a : Addr} (t : TyX K H (.ref a) (.type "list")) : Kd K H (.ref a) "list"
  | tup {a : Addr} (t : TyX K H (.ref a) (.type "tuple")) : Kd K H (.ref a) "tuple"
  | dic {a : Addr} (t : TyX K H (.ref a) (.type "dict")) : Kd K H (.ref a) "dict"
theorem Kd.ty {K : PySem.W.Frag} {H : Hp} {x : V} {n : String} (h : Kd K H x n) : TyX K H x (.type n) := by
  cases h with
  | non => exact .base .non
  | bl b => exact .base (.bl b)
  | int i => exact .base (.int i)
  | str x => exact .base (.str x)
  | lst t => exact t
  | tup t => exact t
  | dic t => exact t
theorem tyx_ex {K : PySem.W.Frag} {H H' : Hp} (e : Evl.Ex H H') {x : V} {t : Value} (h : TyX K H x t) : TyX K H' x t := by
  cases h with
  | base b =>
    refine .base ?_
    cases b with
    | non => exact .non
    | bl y => exact .bl y
    | int i => exact .int i
    | str y => exact .str y
    | flt y => exact .flt y
    | lst h => exact .lst (e _ _ h)
    | frz h => exact .frz (e _ _ h)
    | tup h => exact .tup (e _ _ h)
    | dK h => exact .dK (e _ _ h)
    | dT h => exact .dT (e _ _ h)
    | ins h cl ha hn htk hm => exact .ins (e _ _ h) cl ha hn htk hm
  | byt b => exact .byt b
  | set h => exact .set (e _ _ h)
  | kList h c => exact .kList h c
  | kTuple h c => exact .kTuple h c
  | kDict h c => exact .kDict h c
  | fTuple h => exact .fTuple (e _ _ h)
  | fDict h => exact .fDict (e _ _ h)
theorem Kd.ex {K : PySem.W.Frag} {H H' : Hp} (e : Evl.Ex H H') {x : V} {n : String} (h : Kd K H x n) : Kd K H' x n := by
  cases h with
  | non => exact .non
  | bl b => exact .bl b
  | int i => exact .int i
  | str x => exact .str x
  | lst t => exact .lst (tyx_ex e t)
  | tup t => exact .tup (tyx_ex e t)
  | dic t => exact .dic (tyx_ex e t)
def isW : V → Bool
  | .int _ => true
  | _ => false
def isB : V → Bool
  | .bl _ => true
  | _ => false
def isS : V → Bool
  | .str _ => true
  | _ => false
def isI (x : V) : Bool := isW x || isB x
theorem Kd.int? {K : PySem.W.Frag} {H : Hp} {x : V} {n : String} (h : Kd K H x n) : PySem.W.kitOne K (.type n) (.type "int") = some (isI x) := by
  cases h <;> first | exact kit_ty (r := true) (by decide +kernel) | exact kit_ty (r := false) (by decide +kernel)
theorem Kd.bool? {K : PySem.W.Frag} {H : Hp} {x : V} {n : String} (h : Kd K H x n) : PySem.W.kitOne K (.type n) (.type "bool") = some (isB x) := by
  cases h <;> first | exact kit_ty (r := true) (by decide +kernel) | exact kit_ty (r := false) (by decide +kernel)
theorem Kd.str? {K : PySem.W.Frag} {H : Hp} {x : V} {n : String} (h : Kd K H x n) : PySem.W.kitOne K (.type n) (.type "str") = some (isS x) := by
  cases h <;> first | exact kit_ty (r := true) (by decide +kernel) | exact kit_ty (r := false) (by decide +kernel)
section
variable {K : PySem.W.Frag} {H : Hp} {x : V} {n : String} {σ : L2.St} {i : Nat} {Q : VK}
theorem rd_int? (e : σ[i]? = some (some x)) (h : Kd K H x n) (q : Q (.bl (isI x)) H) : tCB (rIsi K) (tCons (tVar i) (tCons (tC (.ty "int")) tNil)) σ H Q := ⟨x, e, x, .ty "int", _, _, _, rfl, .ty _, h.ty, h.int?, q⟩
theorem rd_bool? (e : σ[i]? = some (some x)) (h : Kd K H x n) (q : Q (.bl (isB x)) H) : tCB (rIsi K) (tCons (tVar i) (tCons (tC (.ty "bool")) tNil)) σ H Q := ⟨x, e, x, .ty "bool", _, _, _, rfl, .ty _, h.ty, h.bool?, q⟩
theorem rd_str? (e : σ[i]? = some (some x)) (h : Kd K H x n) (q : Q (.bl (isS x)) H) : tCB (rIsi K) (tCons (tVar i) (tCons (tC (.ty "str")) tNil)) σ H Q := ⟨x, e, x, .ty "str", _, _, _, rfl, .ty _, h.ty, h.str?, q⟩
end

/-! ### data that is asked for == -/
abbrev Asc (z : Str) : Prop := ∀ c ∈ z.cps.toList, c < 128
theorem strOk_asc {z : Str} (h : Asc z) : PyData.strOk z = true := by
  unfold PyData.strOk
  rw [Array.all_eq_true_iff_forall_mem]
  intro c hc
  have := h c (Array.mem_toList_iff.mpr hc)
  simp only [decide_eq_true_eq]
  omega
theorem sh_strs : ∀ {zs : List Str}, (∀ z ∈ zs, Asc z) → PyData.canLayAll0 (zs.map PyData.str) = true
  | [], _ => rfl
  | z :: r, h => by
    show (PyData.canLay0 (.str z) && PyData.canLayAll0 (r.map PyData.str)) = true
    rw [show PyData.canLay0 (.str z) = PyData.strOk z from rfl, strOk_asc (h z List.mem_cons_self), sh_strs fun y hy => h y (List.mem_cons_of_mem _ hy)]
    rfl
theorem dp_strs : ∀ {zs : List Str}, PyData.depthAll (zs.map PyData.str) = 0
  | [] => rfl
  | z :: r => by
    show max (PyData.depth (.str z)) (PyData.depthAll (r.map PyData.str)) = 0
    rw [dp_strs]
    rfl
theorem shaped_strs {zs : List Str} (h : ∀ z ∈ zs, Asc z) : SeqAt.shaped (.list (zs.map PyData.str)) = true := by
  unfold SeqAt.shaped
  rw [show PyData.canLay0 (.list (zs.map PyData.str)) = PyData.canLayAll0 (zs.map PyData.str) from rfl, sh_strs h]
  rw [show PyData.depth (.list (zs.map PyData.str)) = PyData.depthAll (zs.map PyData.str) + 1 from rfl, dp_strs]
  rfl
theorem sh_ints : ∀ {ns : List Int}, PyData.canLayAll0 (ns.map PyData.int) = true
  | [] => rfl
  | n :: r => by
    show (PyData.canLay0 (.int n) && PyData.canLayAll0 (r.map PyData.int)) = true
    rw [sh_ints]
    rfl
theorem dp_ints : ∀ {ns : List Int}, PyData.depthAll (ns.map PyData.int) = 0
  | [] => rfl
  | z :: r => by
    show max (PyData.depth (.int z)) (PyData.depthAll (r.map PyData.int)) = 0
    rw [dp_ints]
    rfl
theorem shaped_ints {ns : List Int} : SeqAt.shaped (.list (ns.map PyData.int)) = true := by
  unfold SeqAt.shaped
  rw [show PyData.canLay0 (.list (ns.map PyData.int)) = PyData.canLayAll0 (ns.map PyData.int) from rfl, sh_ints]
  rw [show PyData.depth (.list (ns.map PyData.int)) = PyData.depthAll (ns.map PyData.int) + 1 from rfl, dp_ints]
  rfl
theorem shaped_nil : SeqAt.shaped (.list []) = true := rfl
theorem dpa_strs {K : PySem.W.Frag} {H : Hp} : ∀ {zs : List Str}, DpAll K H (zs.map V.str) (zs.map PyData.str)
  | [] => .nil
  | z :: r => .cons (.str z) dpa_strs
theorem dpa_ints {K : PySem.W.Frag} {H : Hp} : ∀ {ns : List Int}, DpAll K H (ns.map V.int) (ns.map PyData.int)
  | [] => .nil
  | z :: r => .cons (.int z) dpa_ints
theorem eqv_nil (ds : List PyData) : PyData.eqv (.list ds) (.list []) = ds.isEmpty := by
  cases ds <;> rfl
/-! ### a comprehension over a text, its element by itself -/
theorem lcS {z : Str} {g : TG} {tt : TT} {te : TE} {vs : List Nat} {σ : L2.St} {H : Hp} {Qd : Addr → Hp → Prop} (f : Nat → V) (p : Nat → Bool) (hz : z.cps.size ≤ 16000000)
    (turn : ∀ c H', c ∈ z.cps.toList → Ex H H' → ∀ (R : VK) (R0 : Hp → Prop), (p c = true → ∀ H4, Ex H' H4 → R (f c) H4) → (p c = false → ∀ H4, Ex H' H4 → R0 H4) →
      g (.str ⟨#[c]⟩) (wipe σ vs) H' fun σ2 H2 => wipe σ2 vs = wipe σ vs ∧ tt σ2 H2 fun b H3 => if b = true then te σ2 H3 R else R0 H3)
    (q : ∀ D H', H D = none → Ex H H' → H' D = some (.lst ((z.cps.toList.filter p).map f)) → Qd D H') : ∀ D, H D = none →
    ∃ W : Nat → Nat → Hp → Prop, (∃ m, W 0 m (upd H D (.lst []))) ∧ ∀ i m H, W i m H →
      ((Its z).stop i H ∧ Qd D H) ∨ ((Its z).go i H ∧ ∃ Nx : Hp → Prop, (∀ H', Nx H' → ∃ m', m' < m ∧ W (i + 1) m' H') ∧ ∀ x' H', (Its z).yld i H x' H' → g x' (wipe σ vs) H' fun σ2 H2 => wipe σ2 vs = wipe σ vs ∧ tt σ2 H2 fun b H3 =>
        if b = true then te σ2 H3 fun y H4 => ∃ acc, H4 D = some (.lst acc) ∧ acc.length < sizeLine ∧ Nx (upd H4 D (.lst (acc ++ [y]))) else Nx H3) := fun D hD => by
  have small : ∀ i, (((z.cps.toList.take i).filter p).map f).length < sizeLine := fun i => by
    rw [List.length_map]
    have h1 := List.length_filter_le p (z.cps.toList.take i)
    have h2 : (z.cps.toList.take i).length ≤ z.cps.toList.length := by rw [List.length_take]; omega
    have h3 : z.cps.toList.length = z.cps.size := Array.length_toList
    rw [sizeLine_eq]
    omega
  refine lc_str (x := z) (fun i H' => Ex H H' ∧ H' D = some (.lst (((z.cps.toList.take i).filter p).map f))) ⟨Evl.Ex.new hD, by rw [upd_same]; rfl⟩ ?_ ?_
  · rintro i c H' hc ⟨e, hl⟩
    have hcl : z.cps.toList[i]? = some c := by rw [Array.getElem?_toList]; exact hc
    have ht : z.cps.toList.take (i + 1) = z.cps.toList.take i ++ [c] := by rw [List.take_add_one, hcl]; rfl
    refine turn c H' (List.mem_of_getElem? hcl) e _ _ (fun hp H4 e4 => ?_) (fun hp H4 e4 => ?_)
    · refine ⟨_, e4 _ _ hl, small i, ?_, ?_⟩
      · exact (e.trans e4).mut hD
      · rw [upd_same, ht, List.filter_append, List.map_append, List.filter_cons_of_pos hp]
        rfl
    · refine ⟨e.trans e4, ?_⟩
      rw [e4 _ _ hl, ht, List.filter_append, List.filter_cons_of_neg (by simp [hp])]
      simp
  · rintro H' ⟨e, hl⟩
    have h3 : z.cps.toList.take z.cps.size = z.cps.toList := by rw [← Array.length_toList]; exact List.take_length
    rw [h3] at hl
    exact q D H' hD e hl
/-! ### a text some times -/
theorem rep_size (c : Array Nat) : ∀ (k : Nat) (acc : Array Nat), (List.foldl (fun x1 x2 => x1 ++ x2) acc (List.replicate k c)).size = acc.size + c.size * k
  | 0, acc => by simp
  | k + 1, acc => by
    rw [List.replicate_succ, List.foldl_cons, rep_size c k, Array.size_append, Nat.mul_succ]
    omega
def rRepS : R2 := fun x y H Q => ∃ (z : Str) (k : Int), x = .str z ∧ y = .int k ∧ 2 ≤ k ∧ 0 < z.length ∧ z.length * k.toNat ≤ 16000000 ∧ ∀ u : Str, u.length = z.length * k.toNat → u.cps = (List.replicate k.toNat z.cps).foldl (· ++ ·) #[] → Q (.str u) H
theorem op_repS {X : Cx} : OpR X (binaryOp .Mult) rRepS := by
  intro pins s σ H x y v u Q I rx ry h
  obtain ⟨z, k, rfl, rfl, h2, h0, hz, q⟩ := h
  obtain ⟨t, rfl⟩ := rx
  obtain ⟨t', rfl⟩ := ry
  have k1 : k.toNat ≤ z.length * k.toNat := Nat.le_mul_of_pos_left _ h0
  have z1 : z.length ≤ z.length * k.toNat := Nat.le_mul_of_pos_right _ (by omega)
  have zk : (z.length : Int) * k ≤ 16000000 := by
    have : ((z.length * k.toNat : Nat) : Int) ≤ ((16000000 : Nat) : Int) := Int.ofNat_le.mpr hz
    rw [Int.natCast_mul, Int.toNat_of_nonneg (by omega)] at this
    exact this
  refine PySem.P.mul_str ?_ ?_ ?_ ?_
  · rw [decide_eq_false (by omega), decide_eq_false (by omega)]
    rfl
  · intro _ _ hh
    have : (2 ^ 63 - 1) / k * k ≤ 2 ^ 63 - 1 := Int.ediv_mul_le _ (by omega)
    have h5 : ((z.length : Int) - 1) * k ≥ (2 ^ 63 - 1) / k * k := Int.mul_le_mul_of_nonneg_right (by omega) (by omega)
    have h6 : (2 ^ 63 - 1) < (2 ^ 63 - 1) / k * k + k := by
      have := Int.lt_ediv_add_one_mul_self (2 ^ 63 - 1) (show 0 < k by omega)
      rw [Int.add_mul] at this
      omega
    rw [Int.sub_mul] at h5
    omega
  · intro _ _
    unfold Builtin.Str.tooLong
    rw [sizeLine_eq]
    exact decide_eq_false (by omega)
  · rw [if_neg (by omega), if_neg (by
      have e1 : (k == 1) = false := beq_eq_false_iff_ne.mpr fun e => absurd (e ▸ h2 : (2 : Int) ≤ 1) (by decide)
      have e2 : (z.length == 0) = false := beq_eq_false_iff_ne.mpr (Nat.ne_of_gt h0)
      rw [e1, e2]
      exact Bool.false_ne_true)]
    refine ⟨?_, ?_⟩
    · have e := rep_size z.cps k.toNat #[]
      show (List.foldl (fun x1 x2 => x1 ++ x2) #[] (List.replicate k.toNat z.cps)).size ≤ sizeLine
      rw [e, sizeLine_eq]
      have : z.cps.size * k.toNat ≤ 16000000 := hz
      simp only [Array.size_empty]
      omega
    · exact ⟨.str _, H, I.tok _, ⟨_, rfl⟩, q _ (by
        have e := rep_size z.cps k.toNat #[]
        show (List.foldl (fun x1 x2 => x1 ++ x2) #[] (List.replicate k.toNat z.cps)).size = z.length * k.toNat
        rw [e]
        simp only [Array.size_empty, Nat.zero_add]
        rfl) rfl⟩
end Bs

set_option autoImplicit false
namespace Bs
open PySem PySem.Spec PyProof.Rows L2 PpSet
open Evl (Ex)

/-! ### {e for .. in .. if ..}, the members whole numbers -/
section
variable {X : Cx}
/-- one member more of the set at D -/
theorem add_int {pins : List (Addr × Obj)} {σ : L2.St} {H : Hp} {s : Shared} {E : Value → Shared → Prop} {D : Addr} {S : Int → Bool} {n : Nat} {k : Int} {tk : Tok} {Q : Value → Shared → Prop} (J : L2.Inv X pins σ H s) (at_ : H D = some (SetO X.w D S n)) (few : n + 1 < scanBound)
    (next : ∀ s', L2.Inv X pins σ (upd H D (SetO X.w D (fun j => S j || decide (j = k)) (if S k = true then n else n + 1))) s' → Q .none s') : wpAny (model X.prog X.w) X.A (call (.builtin "set.add") [.ref D, .int k tk]) Q E s := by
  refine setR_add (setO_get J at_) few fun h2 same made => ?_
  obtain ⟨ob, hob⟩ : ∃ ob, h2.get? D = some ob := by
    have ⟨ob, _, _, _, hob, _⟩ := made
    exact ⟨ob, hob⟩
  exact next _ (J.write (e := D) (t' := s.toks + 1) (by rw [at_]; trivial) (.inl rfl) (fun b u hb hu => (same.2 b hb).trans hu) ⟨ob, hob⟩ (setO_new made))
def tScI (w : World) (wi : TI) (g : TG) (tt : TT) (te : TE) (vs : List Nat) : TE := fun σ H Q => wi σ H fun J H1 => ∀ D, H1 D = none → ∃ W : Nat → Nat → Hp → Prop, (∃ m, W 0 m (upd H1 D (SetO w D (fun _ => false) 0))) ∧ ∀ i m H, W i m H →
  (J.stop i H ∧ Q (.ref D) H) ∨ (J.go i H ∧ ∃ Nx : Hp → Prop, (∀ H', Nx H' → ∃ m', m' < m ∧ W (i + 1) m' H') ∧ ∀ x H', J.yld i H x H' → g x (wipe σ vs) H' fun σ2 H2 => wipe σ2 vs = wipe σ vs ∧ tt σ2 H2 fun b H3 =>
    if b = true then te σ2 H3 fun y H4 => ∃ (k : Int) (S : Int → Bool) (n : Nat), y = .int k ∧ H4 D = some (SetO w D S n) ∧ n + 1 < scanBound ∧ Nx (upd H4 D (SetO w D (fun j => S j || decide (j = k)) (if S k = true then n else n + 1))) else Nx H3)
/-- the object that a set comprehension begins with -/
abbrev set0 (w : World) : Obj := { cls := .type "set", dict := none, data := .set #[] 0 (.fresh 0 0 (!w.params.followText "set-order")) }
theorem pe_scI {elt tg iter : Expr} {ifs : List Expr} {scope : Scope} {own : List (PySem.Str × Nat)} {pos : Pos} {wi : TI} {g : TG} {tt : TT} {te : TE} (calm : X.calm = true) (nd : X.N.Nodup) (pi : PI X tg iter wi) (blk : BlkOk X.N X.env.scope scope own)
    (pgs : ∀ (s : Shared) (H : Hp) (C : Addr) (cl : List (PySem.Str × Addr)) (fp : List Addr), PG (X.blk s H scope (compEnvC scope cl C X.env) fp) tg g)
    (pts : ∀ (s : Shared) (H : Hp) (C : Addr) (cl : List (PySem.Str × Addr)) (fp : List Addr), PTs (X.blk s H scope (compEnvC scope cl C X.env) fp) ifs tt)
    (pes : ∀ (s : Shared) (H : Hp) (C : Addr) (cl : List (PySem.Str × Addr)) (fp : List Addr), PE (X.blk s H scope (compEnvC scope cl C X.env) fp) elt te) (fold : ∀ x, foldedSetIterable iter X.env x = pure x := by intro _; rfl) :
    PE X (.SetComp elt [⟨tg, iter, ifs, 0⟩] scope pos) (tScI X.w wi g tt te (own.map (·.2))) := by
  refine ⟨fun pins s σ H Q I hyp => ?_⟩
  rw [eval_SetComp]
  have cellsOk : ∀ y ∈ scope.names, y.2 = .free → ∃ c, X.env.cells.lookup y.1 = some c := fun y my fy => (blk.free y my fy).elim (fun k => I.ok.has _ (.inl k)) fun k => I.ok.has _ (.inr k)
  refine wpAny_comprehension_free rfl fold (closure_ok cellsOk) blk.kind (fun y my fy => by rw [blk.uniq y my, fy]) (thn (pi.run pins s σ H _ I hyp) fun _ _ a1 => thn a1 fun _ sA a2 => ?_)
  obtain ⟨it, fp, tn, J, HA, rfl, IA, T, stA, frA, q⟩ := a2
  refine newSet_ok (newEnv_comp ?_)
  -- the new set stands at D
  obtain ⟨D, eD⟩ : ∃ D, sA.heap.objs.size = D := ⟨_, rfl⟩
  have free : HA D = none := IA.hok.fresh (Nat.le_of_eq eD)
  obtain ⟨W, ⟨m0, w0⟩, turn⟩ := q D free
  obtain ⟨sB, eB⟩ : ∃ sB : Shared, ({ sA with heap := sA.heap.push (set0 X.w) } : Shared) = sB := ⟨_, rfl⟩
  obtain ⟨HB, eHB⟩ : ∃ HB : Hp, upd HA D (SetO X.w D (fun _ => false) 0) = HB := ⟨_, rfl⟩
  have hpB : sB.heap = sA.heap.push (set0 X.w) := by rw [← eB]
  have IB : L2.Inv X pins σ HB sB := by
    rw [← eB, ← eHB]
    refine IA.laid (t' := sA.toks) (fun b o e => Heap.get?_push_of_some _ e) (Nat.le_of_eq eD) ?_
    rw [← eD]
    exact setO_new (setR_fresh X.w)
  have below : ∀ b ∈ fp, b < sA.heap.objs.size := fun b mb => (T.obj _ _ stA b mb).elim fun _ e => Heap.lt_size e.1
  have frB : ∀ b ∈ fp, FpOk X pins HB b ∧ b < sB.heap.objs.size := fun b mb => by
    refine ⟨⟨?_, (frA b mb).2⟩, by rw [hpB, Heap.size_push]; exact Nat.lt_succ_of_lt (below b mb)⟩
    rw [← eHB, upd_ne (by rw [← eD]; exact Nat.ne_of_lt (below b mb))]
    exact (frA b mb).1
  have stB : tn 0 sB.heap := T.keep _ _ _ stA fun _ _ _ e => by rw [hpB]; exact Heap.get?_push_of_some _ e
  have IC := block_start IB blk nd frB
  -- the block's own frame
  obtain ⟨cells, ecl⟩ : ∃ cells, cellsFrom (sB.heap.objs.size + 1) scope.names (cloFrom X.env.cells scope.names []) = cells := ⟨_, rfl⟩
  obtain ⟨ce, ece⟩ : ∃ ce, compEnvC scope cells sB.heap.objs.size X.env = ce := ⟨_, rfl⟩
  obtain ⟨sC, eC⟩ : ∃ sC : Shared, ({ sB with heap := pushCells (sB.heap.push { cls := .type "dict", data := .dict #[] }) scope.names } : Shared) = sC := ⟨_, rfl⟩
  have pg := pgs sB HB sB.heap.objs.size cells fp
  have pt := pts sB HB sB.heap.objs.size cells fp
  have pe := pes sB HB sB.heap.objs.size cells fp
  rw [ecl, ece, eC] at IC
  rw [ece] at pg pt pe
  have lo : ce.locals = sB.heap.objs.size := by rw [← ece]; rfl
  have none_ : ∀ b ∈ fp, HB b = none := fun b mb => (frB b mb).1.1
  have stC : tn 0 sC.heap := T.keep _ _ _ stB fun _ _ _ e => by rw [← eC]; exact pushCells_keeps _ _ _ _ (Heap.get?_push_of_some _ e)
  have pinned_ : ∀ {τ : L2.St} {H1 : Hp} {s1 : Shared}, L2.Inv (X.blk sB HB scope ce fp) [] τ H1 s1 → (∀ b ∈ fp, H1 b = none) → ∀ b ∈ fp, FpOk (X.blk sB HB scope ce fp) [] H1 b := fun {τ H1 s1} J1 hn b mb => by
    exact ⟨hn b mb, (J1.ok.exf b mb).1, J1.ok.exfs b mb, .inl mb, fun x c e => (J1.ok.exf b mb).2 x c e, fun p hp => nomatch (show p ∈ ([] : List (Addr × Obj)) from by simpa using hp)⟩
  rw [eB, eD, ecl]
  show codeAny _ _ (.compStart (.SetComp elt [⟨tg, iter, ifs, 0⟩] scope pos) 0 (.ref it) (.ref D) (compEnvC scope cells sB.heap.objs.size X.env)) _ { sB with heap := pushCells (sB.heap.push { cls := .type "dict", data := .dict #[] }) scope.names }
  rw [ece, eC]
  have loop : codeAny (model X.prog X.w) X.A (.compLoop (.SetComp elt [⟨tg, iter, ifs, 0⟩] scope pos) 0 (.ref it) (.ref D) ce) (compPost (model X.prog X.w) X.A X.xe none (EP X pins σ Q) (.ref D) sB.heap.objs.size) sC := by
    refine compLoopS_any (fun n t => ∃ i H1, L2.Inv (X.blk sB HB scope ce fp) [] (wipe σ (own.map (·.2))) H1 t ∧ tn i t.heap ∧ (∀ b ∈ fp, H1 b = none) ∧ W i n H1) ?_ m0 ⟨0, HB, IC, stC, none_, by rw [← eHB]; exact w0⟩
    rintro n t5 ⟨i, H5, I5, st5, n5, w5⟩
    rcases turn i n H5 w5 with ⟨stop, fin_⟩ | ⟨go, Nx, back, step⟩
    · refine thnF (T.done (X.blk sB HB scope ce fp) rfl rfl rfl calm i [] t5 _ H5 (fun _ _ => False) I5 (pinned_ I5 n5) st5 stop) fun r t6 ⟨er, I6⟩ => ?_
      subst er
      have I7 : L2.Inv X pins σ H5 t6 := IB.call' (ch := fp) I6.os I6.base I6.hok I6.bare fun b mb => ⟨(frB b mb).1.2.2.2.1, (frB b mb).1.2.1, (frB b mb).1.2.2.2.2.1, (frB b mb).1.2.2.2.2.2⟩
      have fl : H5 sB.heap.objs.size = none := lo ▸ (show H5 ce.locals = none from I6.free)
      obtain ⟨m, hm, _⟩ := I6.loc
      have hm' : t6.heap.Ns sB.heap.objs.size m := lo ▸ (show t6.heap.Ns ce.locals m from hm)
      refine ⟨m, hm', fun h'' sb => ?_⟩
      obtain ⟨f0, f1, f2, f3, f4, f5⟩ := IB.fpOk (Nat.le_refl _) fl
      exact ⟨.ref D, H5, I7.turned (t' := t6.toks) (fun b o hb e => (sb.2 b hb).trans e) f0 f1 f3 f4 f5, rfl, fin_⟩
    · refine thnF (T.item (X.blk sB HB scope ce fp) rfl rfl rfl calm i [] t5 _ H5 (fun _ _ => False) I5 (pinned_ I5 n5) st5 go) fun r t6 ⟨u, er, h6⟩ => ?_
      subst er
      refine thnF h6 fun _ t7 ⟨x, H7, I7, r7, y7, st7, n7⟩ => ?_
      refine thnF (pg.run _ t7 _ H7 x u _ (I7.pinned (pinned_ I7 n7) (T.obj _ _ st7)) r7 (step x H7 y7)) fun _ t8 ⟨τ, H8, I8, ew, q8⟩ => ?_
      refine thnF (pt.run _ t8 τ H8 _ I8 q8) fun b t9 ⟨H9, I9, q9⟩ => ?_
      have again : ∀ {t : Shared} {H1 : Hp}, L2.Inv (X.blk sB HB scope ce fp) ([] ++ pinsAt fp t7.heap) τ H1 t → Nx H1 → ∃ m, m < n ∧ ∃ i H1, L2.Inv (X.blk sB HB scope ce fp) [] (wipe σ (own.map (·.2))) H1 t ∧ tn i t.heap ∧ (∀ b ∈ fp, H1 b = none) ∧ W i m H1 := fun {t H1} J1 nx => by
        obtain ⟨m', lt, w'⟩ := back H1 nx
        have held : ∀ b ∈ fp, ∀ o, t7.heap.get? b = some o → t.heap.get? b = some o ∧ H1 b = none := fun b mb o e => by
          have z := J1.pin (b, o) (List.mem_append_right _ (List.mem_append_right _ (mem_pinsAt mb e)))
          exact ⟨z.1, z.2.1⟩
        refine ⟨m', lt, i + 1, H1, (J1.unpinned (pins := [])).weak (by rw [← ew, wipe_length]) (fun j v e => (wipe_some (by rw [ew]; exact e)).1), T.keep _ _ _ st7 fun b mb o e => (held b mb o e).1, fun b mb => ?_, w'⟩
        obtain ⟨o, e, _⟩ := T.obj _ _ st7 b mb
        exact (held b mb o e).2
      cases b with
      | false =>
        simp only [Bool.false_eq_true, if_false] at q9 ⊢
        exact again I9 q9
      | true =>
        simp only [if_true] at q9 ⊢
        refine thnF (pe.run _ t9 τ H9 _ I9 q9) fun z t10 ⟨_, H10, I10, r10, k, S0, n0, ek, at10, few, nx⟩ => ?_
        subst ek
        obtain ⟨tk, rfl⟩ := r10
        exact add_int (X := X.blk sB HB scope ce fp) I10 at10 few fun t11 I11 => again I11 nx
  exact codeAny_compStart_set loop (T.self X.A 0 _ _ _ stC loop)
end
end Bs

namespace Bs
open PySem PySem.Spec PyProof.Rows L2
open Evl (Ex)
/-! ### rules by the written part -/
section
variable {X : Cx} {K : PySem.W.Frag}
theorem ixL (h : X.K = K := by rfl) : IxR X (rIxL K) := h ▸ ix_list
theorem ixT (h : X.K = K := by rfl) : IxR X (rIxT K) := h ▸ ix_tup
theorem eqDK (hu : X.A.units + 64 < cLine) (h : X.K = K := by rfl) : OpR X (compareOp .Eq) (rEqD K) := h ▸ op_eqD hu
theorem neDK (hu : X.A.units + 64 < cLine) (h : X.K = K := by rfl) : OpR X (compareOp .NotEq) (rNeD K) := h ▸ op_neD hu
theorem inSK (h : X.K = K := by rfl) : OpR X (compareOp .In) (rIn K false) := h ▸ op_in_seq
theorem niSK (h : X.K = K := by rfl) : OpR X (compareOp .NotIn) (rIn K true) := h ▸ op_notIn_seq
theorem slTK (h : X.K = K := by rfl) : SlR X (rSlT K) := h ▸ sl_tup
theorem slLK (h : X.K = K := by rfl) : SlR X (rSlL K) := h ▸ sl_list
theorem piTK {tg l : Expr} {tl : TE} (hl : PE X l tl) (h : X.K = K := by rfl) : PI X tg l (iTup K tl) := h ▸ pi_tup hl
theorem piLK {tg l : Expr} {tl : TE} (hl : PE X l tl) (h : X.K = K := by rfl) : PI X tg l (iList K tl) := h ▸ pi_list hl
theorem isiK (h : X.K = K := by rfl) : CallR X (.builtin "isinstance") (rIsi K) := h ▸ call_isi
theorem pgTK {es : List Expr} {k : Nat} {pos : Pos} {t : TGs} {n : Nat} (hc : X.calm = true) (h : PGs X es t) (hn : (assignEach es X.env).length = n := by rfl) (hst : (assignEach es X.env).findIdx? (·.1) = none := by rfl) (hK : X.K = K := by rfl) : PG X (.Tuple es k pos) (gTup K n t) := hK ▸ pg_tup hc h hn hst
def rLenK (K : PySem.W.Frag) : List V → Hp → VK → Prop := fun xs H Q => ∃ p ys, xs = [.ref p] ∧ (SqL K H p ys ∨ SqT K H p ys) ∧ Q (.int ys.length) H
theorem lenK (h : X.K = K := by rfl) : CallR X (.builtin "len") (rLenK K) := h ▸ call_len_seq
end
/-! ### data all of tuples -/
mutual
inductive TD (H : Hp) : V → PyData → Prop
  | non : TD H .non .none
  | bl (b : Bool) : TD H (.bl b) (.bool b)
  | int (i : Int) : TD H (.int i) (.int i)
  | str (x : Str) : TD H (.str x) (.str x)
  | tup {a : Addr} {xs : List V} {ds : List PyData} : H a = some (.tup xs) → TDs H xs ds → TD H (.ref a) (.tuple ds)
inductive TDs (H : Hp) : List V → List PyData → Prop
  | nil : TDs H [] []
  | cons {v : V} {vs : List V} {d : PyData} {ds : List PyData} : TD H v d → TDs H vs ds → TDs H (v :: vs) (d :: ds)
end
/-- all tuples stand -/
def Tp (H H' : Hp) : Prop := ∀ b xs, H b = some (.tup xs) → H' b = some (.tup xs)
theorem Tp.refl (H : Hp) : Tp H H := fun _ _ h => h
theorem Tp.trans {H H1 H2 : Hp} (a : Tp H H1) (b : Tp H1 H2) : Tp H H2 := fun x o h => b x o (a x o h)
theorem Tp.ex {H H1 : Hp} (a : Ex H H1) : Tp H H1 := fun x o h => a x _ h
theorem Tp.upd {H : Hp} {p : Addr} {xs : List V} {o : HO} (h : H p = some (.lst xs)) : Tp H (upd H p o) := fun b ys e => by
  rw [upd_ne (ne_of e h (by intro z; cases z))]
  exact e
mutual
theorem TD.tp {H H' : Hp} (e : Tp H H') : ∀ {v : V} {d : PyData}, TD H v d → TD H' v d
  | _, _, .non => .non
  | _, _, .bl b => .bl b
  | _, _, .int i => .int i
  | _, _, .str x => .str x
  | _, _, .tup h hs => .tup (e _ _ h) (TDs.tp e hs)
theorem TDs.tp {H H' : Hp} (e : Tp H H') : ∀ {v : List V} {d : List PyData}, TDs H v d → TDs H' v d
  | _, _, .nil => .nil
  | _, _, .cons h hs => .cons (TD.tp e h) (TDs.tp e hs)
end
mutual
theorem TD.dp {K : PySem.W.Frag} {H : Hp} : ∀ {v : V} {d : PyData}, TD H v d → Dp K H v d
  | _, _, .non => .non
  | _, _, .bl b => .bl b
  | _, _, .int i => .int i
  | _, _, .str x => .str x
  | _, _, .tup h hs => .tup (SqT.of h) (TDs.dp hs)
theorem TDs.dp {K : PySem.W.Frag} {H : Hp} : ∀ {v : List V} {d : List PyData}, TDs H v d → DpAll K H v d
  | _, _, .nil => .nil
  | _, _, .cons h hs => .cons (TD.dp h) (TDs.dp hs)
end
theorem TDs.len {H : Hp} : ∀ {xs : List V} {ds : List PyData}, TDs H xs ds → xs.length = ds.length
  | _, _, .nil => rfl
  | _, _, .cons _ h => by
    rw [List.length_cons, List.length_cons, TDs.len h]
theorem TDs.get {H : Hp} : ∀ {xs : List V} {ds : List PyData} {i : Nat} {d : PyData}, TDs H xs ds → ds[i]? = some d → ∃ v, xs[i]? = some v ∧ TD H v d
  | _, _, _, _, .nil, e => by simp at e
  | _, _, 0, _, .cons h _, e => ⟨_, rfl, by
    have := Option.some.inj e
    subst this
    exact h⟩
  | _, _, i + 1, d, .cons _ h, e => TDs.get (i := i) h e
theorem TDs.get' {H : Hp} : ∀ {xs : List V} {ds : List PyData} {i : Nat} {v : V}, TDs H xs ds → xs[i]? = some v → ∃ d, ds[i]? = some d ∧ TD H v d
  | _, _, _, _, .nil, e => by simp at e
  | _, _, 0, _, .cons h _, e => ⟨_, rfl, by
    have := Option.some.inj e
    subst this
    exact h⟩
  | _, _, i + 1, d, .cons _ h, e => TDs.get' (i := i) h e
theorem TD.tupI {H : Hp} {v : V} {ds : List PyData} (h : TD H v (.tuple ds)) : ∃ a xs, v = .ref a ∧ H a = some (.tup xs) ∧ TDs H xs ds := by
  cases h with
  | tup h hs => exact ⟨_, _, rfl, h, hs⟩
theorem TD.intI {H : Hp} {v : V} {i : Int} (h : TD H v (.int i)) : v = .int i := by
  cases h
  rfl
theorem TD.strI {H : Hp} {v : V} {i : Str} (h : TD H v (.str i)) : v = .str i := by
  cases h
  rfl
theorem TD.noneI {H : Hp} {v : V} (h : TD H v .none) : v = .non := by
  cases h
  rfl
theorem TDs.append {H : Hp} : ∀ {xs ys : List V} {ds es : List PyData}, TDs H xs ds → TDs H ys es → TDs H (xs ++ ys) (ds ++ es)
  | _, _, _, _, .nil, s => s
  | _, _, _, _, .cons r t, s => .cons r (TDs.append t s)
theorem TDs.strs {H : Hp} : ∀ (zs : List Str), TDs H (zs.map V.str) (zs.map PyData.str)
  | [] => .nil
  | z :: r => .cons (.str z) (TDs.strs r)
/-- rows that stand in a list of values, each a datum -/
def RowsAt {β : Type} (D : β → PyData) (H : Hp) (xs : List V) (rows : List β) : Prop := TDs H xs (rows.map D)
theorem RowsAt.get {β : Type} {D : β → PyData} {H : Hp} {xs : List V} {rows : List β} (h : RowsAt D H xs rows) {i : Nat} {v : V} (e : xs[i]? = some v) : ∃ b, rows[i]? = some b ∧ TD H v (D b) := by
  obtain ⟨d, h1, h2⟩ := TDs.get' h e
  rw [List.getElem?_map] at h1
  cases hb : rows[i]? with
  | none =>
    rw [hb] at h1
    cases h1
  | some b =>
    rw [hb] at h1
    have := Option.some.inj h1
    subst this
    exact ⟨b, rfl, h2⟩
theorem RowsAt.len {β : Type} {D : β → PyData} {H : Hp} {xs : List V} {rows : List β} (h : RowsAt D H xs rows) : xs.length = rows.length := by
  have := TDs.len h
  rw [List.length_map] at this
  exact this
theorem RowsAt.tp {β : Type} {D : β → PyData} {H H' : Hp} {xs : List V} {rows : List β} (e : Tp H H') (h : RowsAt D H xs rows) : RowsAt D H' xs rows := TDs.tp e h
/-! ### comprehensions over rows, all that stood standing -/
section
variable {K : PySem.W.Frag} {w : World} {β : Type} {D' : β → PyData} {a : Addr} {xs : List V} {rows : List β} {g : TG} {tt : TT} {te : TE} {vs : List Nat} {σ : L2.St} {H : Hp}
theorem take_snoc {α : Type} {l : List α} {i : Nat} {b : α} (h : l[i]? = some b) : l.take (i + 1) = l.take i ++ [b] := by
  rw [List.take_add_one, h]
  rfl
/-- {e for row in a tuple if ..} -/
theorem scT {Qd : Addr → Hp → Prop} (p : β → Bool) (f : β → Int) (hx : SqT K H a xs) (hr : RowsAt D' H xs rows) (small : rows.length ≤ 1000)
    (turn : ∀ b v H', b ∈ rows → TD H' v (D' b) → Ex H H' → ∀ (R : VK) (R0 : Hp → Prop), (p b = true → ∀ H4, Ex H' H4 → R (.int (f b)) H4) → (p b = false → ∀ H4, Ex H' H4 → R0 H4) →
      g v (wipe σ vs) H' fun σ2 H2 => wipe σ2 vs = wipe σ vs ∧ tt σ2 H2 fun c H3 => if c = true then te σ2 H3 R else R0 H3)
    (q : ∀ D H' S n, H D = none → Ex H H' → H' D = some (SetO w D S n) → (∀ k : Int, S k = true ↔ ∃ b ∈ rows, p b = true ∧ f b = k) → n ≤ rows.length → Qd D H') : ∀ D, H D = none →
    ∃ W : Nat → Nat → Hp → Prop, (∃ m, W 0 m (upd H D (SetO w D (fun _ => false) 0))) ∧ ∀ i m H, W i m H →
      ((Itt K a).stop i H ∧ Qd D H) ∨ ((Itt K a).go i H ∧ ∃ Nx : Hp → Prop, (∀ H', Nx H' → ∃ m', m' < m ∧ W (i + 1) m' H') ∧ ∀ x H', (Itt K a).yld i H x H' → g x (wipe σ vs) H' fun σ2 H2 => wipe σ2 vs = wipe σ vs ∧ tt σ2 H2 fun b H3 =>
        if b = true then te σ2 H3 fun y H4 => ∃ (k : Int) (S : Int → Bool) (n : Nat), y = .int k ∧ H4 D = some (SetO w D S n) ∧ n + 1 < scanBound ∧ Nx (upd H4 D (SetO w D (fun j => S j || decide (j = k)) (if S k = true then n else n + 1))) else Nx H3) := fun D hD => by
  have sb : (2000 : Nat) < scanBound := by decide
  refine ⟨fun i m H1 => m = xs.length - i ∧ i ≤ xs.length ∧ Ex H H1 ∧ ∃ S n, H1 D = some (SetO w D S n) ∧ (∀ k : Int, S k = true ↔ ∃ b ∈ rows.take i, p b = true ∧ f b = k) ∧ n ≤ i, ⟨xs.length, by simp, Nat.zero_le _, Ex.new hD, _, 0, upd_same, fun k => by simp, Nat.le_refl _⟩, ?_⟩
  rintro i m H1 ⟨rfl, hi, e, S, n, hS, hk, hn⟩
  have hx1 : SqT K H1 a xs := Evl.ex_t e hx
  by_cases hlt : i < xs.length
  · refine .inr ⟨⟨xs, xs[i], hx1, by simp [hlt]⟩, fun H2 => Ex H H2 ∧ ∃ S n, H2 D = some (SetO w D S n) ∧ (∀ k : Int, S k = true ↔ ∃ b ∈ rows.take (i + 1), p b = true ∧ f b = k) ∧ n ≤ i + 1, fun H2 h2 => ⟨xs.length - (i + 1), by omega, rfl, hlt, h2⟩, fun x H' y => ?_⟩
    obtain ⟨e1, y⟩ := y
    subst e1
    have ex := y xs hx1
    obtain ⟨b, hb, ht⟩ := hr.get ex
    refine turn b x _ (List.mem_of_getElem? hb) (TD.tp (Tp.ex e) ht) e _ _ (fun hp H4 e4 => ?_) (fun hp H4 e4 => ?_)
    · refine ⟨f b, S, n, rfl, e4 _ _ hS, by rw [hr.len] at hlt; omega, (e.trans e4).mut hD, _, _, upd_same, fun k => ?_, by split <;> omega⟩
      rw [take_snoc hb, Bool.or_eq_true, hk k, decide_eq_true_iff]
      constructor
      · rintro (⟨c, hc, h1, h2⟩ | h)
        · exact ⟨c, List.mem_append_left _ hc, h1, h2⟩
        · exact ⟨b, List.mem_append_right _ (List.mem_singleton.mpr rfl), hp, h.symm⟩
      · rintro ⟨c, hc, h1, h2⟩
        rcases List.mem_append.mp hc with hc | hc
        · exact .inl ⟨c, hc, h1, h2⟩
        · rw [List.mem_singleton.mp hc] at h2
          exact .inr h2.symm
    · refine ⟨e.trans e4, S, n, e4 _ _ hS, fun k => ?_, Nat.le_succ_of_le hn⟩
      rw [take_snoc hb, hk k]
      constructor
      · rintro ⟨c, hc, h1, h2⟩
        exact ⟨c, List.mem_append_left _ hc, h1, h2⟩
      · rintro ⟨c, hc, h1, h2⟩
        rcases List.mem_append.mp hc with hc | hc
        · exact ⟨c, hc, h1, h2⟩
        · rw [List.mem_singleton.mp hc, hp] at h1
          cases h1
  · have e1 : i = xs.length := by omega
    subst e1
    refine .inl ⟨⟨xs, hx1, Nat.le_refl _⟩, q D H1 S n hD e hS (fun k => ?_) (by rw [hr.len] at hn; exact hn)⟩
    rw [hk k, hr.len, List.take_length]
/-- [e for row in a tuple if ..], its items made without another thing's change -/
theorem lcT {Qd : Addr → Hp → Prop} (p : β → Bool) (f : β → V) (hx : SqT K H a xs) (hr : RowsAt D' H xs rows) (small : rows.length ≤ 10000)
    (turn : ∀ b v H', b ∈ rows → TD H' v (D' b) → Ex H H' → ∀ (R : VK) (R0 : Hp → Prop), (p b = true → ∀ H4, Ex H' H4 → R (f b) H4) → (p b = false → ∀ H4, Ex H' H4 → R0 H4) →
      g v (wipe σ vs) H' fun σ2 H2 => wipe σ2 vs = wipe σ vs ∧ tt σ2 H2 fun c H3 => if c = true then te σ2 H3 R else R0 H3)
    (q : ∀ D H', H D = none → Ex H H' → H' D = some (.lst ((rows.filter p).map f)) → Qd D H') : ∀ D, H D = none →
    ∃ W : Nat → Nat → Hp → Prop, (∃ m, W 0 m (upd H D (.lst []))) ∧ ∀ i m H, W i m H →
      ((Itt K a).stop i H ∧ Qd D H) ∨ ((Itt K a).go i H ∧ ∃ Nx : Hp → Prop, (∀ H', Nx H' → ∃ m', m' < m ∧ W (i + 1) m' H') ∧ ∀ x H', (Itt K a).yld i H x H' → g x (wipe σ vs) H' fun σ2 H2 => wipe σ2 vs = wipe σ vs ∧ tt σ2 H2 fun b H3 =>
        if b = true then te σ2 H3 fun y H4 => ∃ acc, H4 D = some (.lst acc) ∧ acc.length < sizeLine ∧ Nx (upd H4 D (.lst (acc ++ [y]))) else Nx H3) := fun D hD => by
  have len : ∀ i, (((rows.take i).filter p).map f).length < sizeLine := fun i => by
    rw [List.length_map]
    have h1 := List.length_filter_le p (rows.take i)
    have h2 : (rows.take i).length ≤ rows.length := by rw [List.length_take]; omega
    rw [sizeLine_eq]
    omega
  refine lc_tup (K := K) (a := a) (xs := xs) (fun i H' => Ex H H' ∧ H' D = some (.lst (((rows.take i).filter p).map f))) ⟨Ex.new hD, by rw [upd_same]; rfl⟩ (fun i H' _ h => Evl.ex_t h.1 hx) ?_ ?_
  · rintro i x H' ex ⟨e, hl⟩
    obtain ⟨b, hb, ht⟩ := hr.get ex
    refine turn b x _ (List.mem_of_getElem? hb) (TD.tp (Tp.ex e) ht) e _ _ (fun hp H4 e4 => ?_) (fun hp H4 e4 => ?_)
    · refine ⟨_, e4 _ _ hl, len i, (e.trans e4).mut hD, ?_⟩
      rw [upd_same, take_snoc hb, List.filter_append, List.map_append, List.filter_cons_of_pos hp]
      rfl
    · refine ⟨e.trans e4, ?_⟩
      rw [e4 _ _ hl, take_snoc hb, List.filter_append, List.filter_cons_of_neg (by simp [hp])]
      simp
  · rintro H' ⟨e, hl⟩
    rw [hr.len, List.take_length] at hl
    exact q D H' hD e hl
end
/-! ### a text that tells a thing -/
def okInt : PyData → Prop
  | .int i => i.natAbs.log2 < 1920
  | .bool _ => False
  | .str _ => False
  | _ => True
def rReprD (K : PySem.W.Frag) : List V → Hp → VK → Prop := fun xs H Q => ∃ x d, xs = [x] ∧ Dp K H x d ∧ okInt d ∧ d.showable = true ∧ d.hasDict = false ∧ d.depth ≤ 50 ∧ d.shown.length ≤ sizeLine ∧ Q (.str d.shown) H
theorem call_reprD {X : Cx} (hg : X.A.guards = some []) (hu : X.A.units + 64 < cLine) : CallR X (.builtin "repr") (rReprD X.K) := by
  intro pins s σ H xs us Q I r h
  obtain ⟨x, d, rfl, hd, h0, h1, h2, h3, h4, q⟩ := h
  obtain ⟨u, rfl, r1⟩ := vals1 r
  have far : ∀ a, x = .ref a → wpAny (model X.prog X.w) X.A (call (.builtin "repr") [u]) (EP X pins σ Q) X.xe s := fun a ea => by
    subst ea
    obtain rfl : u = Value.ref a := r1
    obtain ⟨as, rd⟩ := Dp.reads I d _ _ hd (show L2.RelV (.ref a) (.ref a) from rfl)
    refine repr_of_reads' (h₀ := s.heap) rd h1 (fun z => by rw [h2] at z; cases z) hg (by omega) (fun _ _ e => e) (fun h' v tk kept => ?_) h4
    exact ⟨.str d.shown, H, I.call' (ch := []) rfl (Un.kept kept) (I.hok.kept kept) I.bare (fun _ z => nomatch z), ⟨_, rfl⟩, q⟩
  cases hd with
  | non =>
    obtain rfl : u = Value.none := r1
    exact PySem.P.repr_of_none ⟨.str _, H, I.tok _, ⟨_, rfl⟩, q⟩
  | int i =>
    obtain ⟨t, rfl⟩ := r1
    exact PySem.P.repr_of_int h0 ⟨.str _, H, I.tok _, ⟨_, rfl⟩, q⟩
  | bl b => exact h0.elim
  | str z => exact h0.elim
  | lst _ _ => exact far _ rfl
  | tup _ _ => exact far _ rfl
/-! rows of small numbers, shown -/
theorem shown_le {xs : List PyData} {B : Nat} (h : ∀ x ∈ xs, x.shown.length ≤ B) : (PyData.list xs).shown.length ≤ 2 + xs.length * (B + 2) := by
  have lb : ∀ {ys : List PyData}, (∀ x ∈ ys, x.shown.length ≤ B) → ((PyData.shownAll ys).map (·.length)).sum ≤ ys.length * B := by
    intro ys
    induction ys with
    | nil =>
      intro _
      exact Nat.zero_le _
    | cons y r ih =>
      intro hy
      have h1 := ih fun x hx => hy x (List.mem_cons_of_mem _ hx)
      have h2 := hy y List.mem_cons_self
      rw [PyData.shownAll_cons, List.map_cons, List.sum_cons, List.length_cons, Nat.succ_mul]
      omega
  have ap : ∀ x y : Str, (x ++ y).length = x.length + y.length := fun x y => by
    show (x.cps ++ y.cps).size = _
    rw [Array.size_append]
    rfl
  have l1 : Str.length ("[" : Str) = 1 := by decide +kernel
  have l2 : Str.length ("]" : Str) = 1 := by decide +kernel
  have l3 : Str.length (", " : Str) = 2 := by decide +kernel
  have j := StrLaws.join_length_le ", " (PyData.shownAll xs)
  rw [l3, PyData.shownAll_length] at j
  have s1 := lb h
  rw [PyData.shown_list, ap, ap, l1, l2, Nat.mul_add]
  omega
/-- rows of rows of numbers -/
def nest (ls : List (List Int)) : PyData := .list (ls.map fun l => .list (l.map .int))
def Few (ls : List (List Int)) : Prop := ls.length ≤ 40 ∧ ∀ l ∈ ls, l.length ≤ 40 ∧ ∀ n ∈ l, 0 ≤ n ∧ n < 130
theorem num_short {n : Int} (h0 : 0 ≤ n) (h1 : n < 130) : (PyData.int n).shown.length ≤ 3 := by
  obtain ⟨k, rfl⟩ : ∃ k : Nat, n = (k : Int) := ⟨_, (Int.toNat_of_nonneg h0).symm⟩
  have all : ∀ k : Fin 130, (PyData.int ((k.val : Nat) : Int)).shown.length ≤ 3 := by decide +kernel
  exact all ⟨k, by omega⟩
theorem num_log {n : Int} (h0 : 0 ≤ n) (h1 : n < 130) : n.natAbs.log2 < 1920 := Nat.lt_of_le_of_lt (Nat.log2_le_self _) (by omega)
theorem nest_show {ls : List (List Int)} (h : Few ls) : (nest ls).shown.length ≤ sizeLine := by
  have i : ∀ x ∈ (ls.map fun l => PyData.list (l.map .int)), x.shown.length ≤ 300 := fun x hx => by
    obtain ⟨l, hl, rfl⟩ := List.mem_map.mp hx
    obtain ⟨h1, h2⟩ := h.2 l hl
    have := shown_le (xs := l.map .int) (B := 3) fun y hy => by
      obtain ⟨n, hn, rfl⟩ := List.mem_map.mp hy
      exact num_short (h2 n hn).1 (h2 n hn).2
    rw [List.length_map] at this
    omega
  have := shown_le i
  rw [List.length_map] at this
  have h1 := h.1
  rw [sizeLine_eq]
  unfold nest
  have : ls.length * (300 + 2) ≤ 40 * 302 := Nat.mul_le_mul_right _ h1
  omega
theorem nest_showable {ls : List (List Int)} (h : Few ls) : (nest ls).showable = true := by
  have key : ∀ ms : List (List Int), (∀ l ∈ ms, ∀ n ∈ l, n.natAbs.log2 < 1920) → PyData.showableAll (ms.map fun l => PyData.list (l.map .int)) = true := by
    intro ms
    induction ms with
    | nil => intro _; rfl
    | cons m r ih =>
      intro hm
      show (PyData.showable (.list (m.map .int)) && PyData.showableAll (r.map fun l => PyData.list (l.map .int))) = true
      rw [show PyData.showable (.list (m.map .int)) = PyData.showableAll (m.map .int) from rfl, PyData.showableAll_ints m (hm m List.mem_cons_self), ih fun l hl => hm l (List.mem_cons_of_mem _ hl)]
      rfl
  exact key ls fun l hl n hn => num_log ((h.2 l hl).2 n hn).1 ((h.2 l hl).2 n hn).2
theorem nest_plain : ∀ ls : List (List Int), (nest ls).hasDict = false := by
  have i : ∀ l : List Int, PyData.hasDictAll (l.map .int) = false := by
    intro l
    induction l with
    | nil => rfl
    | cons n r ih =>
      show (PyData.hasDict (.int n) || PyData.hasDictAll (r.map .int)) = false
      rw [ih]
      rfl
  intro ls
  show PyData.hasDictAll (ls.map fun l => PyData.list (l.map .int)) = false
  induction ls with
  | nil => rfl
  | cons l r ih =>
    show (PyData.hasDict (.list (l.map .int)) || PyData.hasDictAll (r.map fun l => PyData.list (l.map .int))) = false
    rw [show PyData.hasDict (.list (l.map .int)) = PyData.hasDictAll (l.map .int) from rfl, i l, ih]
    rfl
theorem nest_depth (ls : List (List Int)) : (nest ls).depth ≤ 50 := by
  have : PyData.depthAll (ls.map fun l => PyData.list (l.map .int)) ≤ 1 := by
    induction ls with
    | nil => exact Nat.zero_le _
    | cons l r ih =>
      show max (PyData.depth (.list (l.map .int))) (PyData.depthAll (r.map fun l => PyData.list (l.map .int))) ≤ 1
      rw [show PyData.depth (.list (l.map .int)) = PyData.depthAll (l.map .int) + 1 from rfl, dp_ints]
      omega
  show PyData.depthAll (ls.map fun l => PyData.list (l.map .int)) + 1 ≤ 50
  omega
/-- a list of lists of numbers stands: their places -/
def NestAt (K : PySem.W.Frag) (H : Hp) : List V → List (List Int) → Prop
  | [], [] => True
  | v :: vs, l :: ls => (∃ a, v = .ref a ∧ SqL K H a (l.map V.int)) ∧ NestAt K H vs ls
  | _, _ => False
theorem NestAt.dp {K : PySem.W.Frag} {H : Hp} : ∀ {vs : List V} {ls : List (List Int)}, NestAt K H vs ls → DpAll K H vs (ls.map fun l => .list (l.map .int))
  | [], [], _ => .nil
  | v :: vs, l :: ls, h => by
    obtain ⟨⟨a, rfl, hs⟩, h2⟩ := h
    exact .cons (.lst hs dpa_ints) (NestAt.dp h2)
  | [], _ :: _, h => h.elim
  | _ :: _, [], h => h.elim
theorem rd_nest {K : PySem.W.Frag} {H : Hp} {a : Addr} {vs : List V} {ls : List (List Int)} {Q : VK} (hs : SqL K H a vs) (h : NestAt K H vs ls) (f : Few ls) (q : Q (.str (nest ls).shown) H) : rReprD K [.ref a] H Q :=
  ⟨.ref a, nest ls, rfl, .lst hs h.dp, True.intro, nest_showable f, nest_plain ls, nest_depth ls, nest_show f, q⟩
/-! ### max(.., default=None) -/
def rMaxD (K : PySem.W.Frag) : List V → List V → Hp → VK → Prop := fun vs zs H Q => ∃ (a : Addr) (ns : List Int), vs = [.ref a] ∧ zs = [.non] ∧ SqL K H a (ns.map V.int) ∧ (ns = [] → Q .non H) ∧ ∀ m ∈ ns, (∀ n ∈ ns, n ≤ m) → Q (.int m) H
theorem max_in : ∀ (ns : List Int) (n : Int), (ns.foldl max n ∈ n :: ns) ∧ ∀ k ∈ n :: ns, k ≤ ns.foldl max n
  | [], n => ⟨List.mem_cons_self, fun k hk => by rw [List.mem_singleton.mp hk]; exact Int.le_refl _⟩
  | m :: r, n => by
    obtain ⟨h1, h2⟩ := max_in r (max n m)
    rw [List.foldl_cons]
    constructor
    · rcases List.mem_cons.mp h1 with e | e
      · rw [e]
        rcases Int.le_total n m with h | h
        · rw [Int.max_eq_right h]
          exact List.mem_cons_of_mem _ List.mem_cons_self
        · rw [Int.max_eq_left h]
          exact List.mem_cons_self
      · exact List.mem_cons_of_mem _ (List.mem_cons_of_mem _ e)
    · intro k hk
      have h3 := h2 _ List.mem_cons_self
      rcases List.mem_cons.mp hk with e | e
      · subst e
        exact Int.le_trans (Int.le_max_left _ _) h3
      · rcases List.mem_cons.mp e with e | e
        · subst e
          exact Int.le_trans (Int.le_max_right _ _) h3
        · exact h2 k (List.mem_cons_of_mem _ e)
theorem cr_maxD {X : Cx} (hc : X.calm = true) (hu : X.A.units + 64 < cLine) : CallRK X (.builtin "max") [Str.ofString "default"] (rMaxD X.K) := by
  intro pins s σ H xs zs us ws Q I r1 r2 h
  obtain ⟨a, ns, rfl, rfl, hs, h0, h1⟩ := h
  obtain ⟨u, rfl, ru⟩ := vals1 r1
  obtain ⟨w', rfl, rw'⟩ := vals1 r2
  obtain rfl : u = Value.ref a := ru
  obtain rfl : w' = Value.none := rw'
  obtain ⟨its, rv, hl, _⟩ := I.list hs
  obtain ⟨as, rd⟩ := Dp.readsAll I (ns.map .int) _ _ dpa_ints rv
  have back : ∀ {h' : Heap} {tk : Nat}, (∀ b o, s.heap.get? b = some o → h'.get? b = some o) → L2.Inv X pins σ H { s with heap := h', toks := tk } := fun {h' tk} kept => I.call' (ch := []) rfl (Un.kept kept) (I.hok.kept kept) I.bare (fun _ z => nomatch z)
  have al : PySem.W.AlikeAll (ns.map .int) := ⟨fun x hx y hy => by
    obtain ⟨i, _, rfl⟩ := List.mem_map.mp hx
    obtain ⟨j, _, rfl⟩ := List.mem_map.mp hy
    rfl, fun x hx => by
    obtain ⟨i, _, rfl⟩ := List.mem_map.mp hx
    intro z
    cases z⟩
  refine PySem.W.max_list_default (vs := its.toArray) (I.ok.hd hc) hl.isList (by simpa using rd) al (by rw [dp_ints]; omega) (fun e h' tk kept => ?_) fun y ys i v h' tk bs e hv hr kept => ?_
  · have : ns = [] := by
      cases ns with
      | nil => rfl
      | cons n r => cases e
    exact ⟨.non, H, back kept, rfl, h0 this⟩
  · cases ns with
    | nil => cases e
    | cons n r =>
      have e1 : PyData.int n = y := (List.cons.inj e).1
      have e2 : r.map PyData.int = ys := (List.cons.inj e).2
      subst e1 e2
      rw [PySem.W.maxD_ints] at hr
      obtain ⟨t, rfl⟩ : ∃ t, v = .int (r.foldl max n) t := by
        cases hr with
        | int => exact ⟨_, rfl⟩
      obtain ⟨g1, g2⟩ := max_in r n
      exact ⟨.int _, H, back kept, ⟨t, rfl⟩, h1 _ g1 g2⟩
end Bs

namespace Bs
open PySem PySem.Spec PyProof.Rows L2
open Evl (Ex)
/-! ### a def that is run at one place, of which more is known than of any -/
section
variable {P : Program} {w : World} {K : PySem.W.Frag} {mg : Str → Option Value} {base : Heap}
def RunAt (P : Program) (w : World) (K : PySem.W.Frag) (mg : Str → Option Value) (base : Heap) (A : Around) (f : Addr) (fd : FuncData) (ps : List Str) (sp : Sp) : Prop :=
  ∀ (outer : List Env) (s : Shared) (H : Hp) (args : Args) (us : List Value) (vs : List V) (Q : VK) (E : XK), Env0 P w K mg base A outer s H → BindsTo s fd args (ps.zip us) → Vals vs us → sp vs H Q E →
    codeAny (model P w) A (.call (.ref f) args) (CR CX0 outer P w H s Q E) s
theorem run_at {x qual : Str} {st : Stmt} {f : Addr} {fd : FuncData} {N ps : List Str} {k : Nat} {sp : Sp} {A : Around} (F : Fun K x qual st f fd) (S : FnScope N ps (defScope st)) (len : ∀ vs H Q E, sp vs H Q E → vs.length = ps.length) (room : Room (k + 1) A)
    (body : ∀ (cdv : Value) (outer : List Env) (s : Shared) (H : Hp) (vs : List V) (Q : VK) (E : XK), Room k (A.deeper (envOfC qual (defScope st) s.heap.objs.size f cdv)) → sp vs H Q E →
      ∃ t, PSs (cxOf CX0 P w K mg base N qual (defScope st) f cdv A outer s H E).nox (defBody st) t ∧ t { nx := fun _ H' => Q .non H', rt := Q } (start N vs) H) : RunAt P w K mg base A f fd ps sp := by
  obtain ⟨oc, od, kV, doc, pm, an, cdv, ct, osl, rfl, lk, hcd⟩ := F.ex
  intro outer s H args us vs Q E e0 hb r hsp
  have keep_ : ∀ b o, base.get? b = some o → s.heap.get? b = some o := fun b o e => (e0.bs b o e).1
  have KX : K.In s.heap := e0.mod.kin.keeps keep_
  have kinds : ∀ y ∈ ps.zip us, (defScope st).names.lookup y.1 = some .local ∨ ((defScope st).names.lookup y.1 = some .cell ∧ ((cellsFrom (s.heap.objs.size + 1) (defScope st).names []).lookup y.1).isSome = true) := fun y hy =>
    (S.par y.1 (List.of_mem_zip (a := y.1) (b := y.2) hy).1).imp id fun q => ⟨q, PySem.W.cellsFrom_some _ _ _ (.inl q)⟩
  refine codeAny_call_function room.depth (KX _ _ lk) rfl S.co S.gen rfl (PySem.W.codeRec_of KX hcd) (hb _ _ _ _ (wpAny_newFunctionEnv_cells S.kind kinds fun env he s1 made => ?_))
  subst he
  refine ⟨(e0.mod.nolimit.keeps keep_).keeps made.toInCall.keep, codeAny_func ?_⟩
  obtain ⟨t, ht, hq⟩ := body cdv outer s H vs Q E (room.deeper _) hsp
  have J := inv_start (CX := CX0) (E := E) (cd := cdv) (f := f) (qual := qual) S room.hd e0 (len _ _ _ _ hsp) r made
  refine wpAny_mono (ht.nox.run [] s1 (start N vs) H _ J hq) (fun fl s2 hs => ?_) fun _ _ hs => hs
  cases fl with
  | ret u => exact hs.elim fun v ⟨_, H2, J2, rv, q2⟩ => ⟨v, H2, J2.os, J2.bare, J2.base, J2.hok, rv, q2⟩
  | next => exact hs.elim fun _ ⟨H2, J2, q2⟩ => ⟨V.non, H2, J2.os, J2.bare, J2.base, J2.hok, rfl, q2⟩
  | brk => exact hs.elim fun _ ⟨_, _, q2⟩ => q2.elim
  | cont => exact hs.elim fun _ ⟨_, _, q2⟩ => q2.elim
/-- the law's call, its def run at the caller's place alone -/
theorem law_callG {mb : Str → Option Value} {fa a : Addr} {fd : FuncData} {x : Str} {sp : Sp} {s₁ : Shared} {vs : List Value} {ns : List Int}
    (KX : K.In s₁.heap) (hns : s₁.heap.Ns mainGlobals mg) (hb : s₁.heap.Ns builtinsNs mb) (hbb : ∀ x : Str, x ≠ "__name__" → mb x = bootBuiltins x) (hlim : s₁.heap.NoLimit) (hg : s₁.gens = #[])
    (ha : s₁.heap.get? a = some { cls := .type "list", data := .seq vs.toArray }) (hi : IntsAre vs ns) (hl : ns.length ≤ sizeLine)
    (F : ∀ base : Heap, K.In base → base.Ns mainGlobals mg → RunAt P w K mg base callerA fa fd [x] sp) (hbind : ∀ (s : Shared) (u : Value), BindsTo s fd ⟨[u], []⟩ [(x, u)])
    (hsp : ∀ H : Hp, Only H → SqL K H a (ns.map V.int) → sp [.ref a] H (fun v _ => v = .bl true) fun _ _ _ => False) :
    codeAny (model P w) callerA (.call (.ref fa) ⟨[.ref a], []⟩) (fun r s' => r = .ok (.ret (.bool true)) ∧ OldK s₁.heap s'.heap ∧ s'.os = s₁.os ∧ AllBare s'.gens) s₁ := by
  have rv := vals_ints hi
  have from_ : ∀ H : Hp, Only H → SqL K H a (ns.map V.int) → HOk P w H s₁.heap → (∀ b u, H b = some u → b = a ∧ K.lookup a = none) →
      codeAny (model P w) callerA (.call (.ref fa) ⟨[.ref a], []⟩) (fun r s' => r = .ok (.ret (.bool true)) ∧ OldK s₁.heap s'.heap ∧ s'.os = s₁.os ∧ AllBare s'.gens) s₁ := by
    intro H hO hS hok hA
    have notA : ∀ {b : Addr}, b ≠ a → H b = none := fun {b} n => by
      cases q : H b with
      | none => rfl
      | some u => exact absurd (hA b u q).1 n
    have space : ∀ {b : Addr} {m : Str → Option Value}, s₁.heap.Ns b m → (hidT s₁.heap H).Ns b m := fun {b m} z => by
      obtain ⟨o, es, ep, e, d, r⟩ := z
      refine ⟨o, es, ep, hidT_get e (notA fun eb => ?_), d, r⟩
      subst eb
      rw [ha] at e
      cases e
      exact absurd (show Data.seq vs.toArray _ = Data.dict es ep from d) (by intro z; cases z)
    have written : K.In (hidT s₁.heap H) := fun b o e => hidT_get (KX b o e) (by
      cases q : H b with
      | none => rfl
      | some u =>
        obtain ⟨eb, none_⟩ := hA b u q
        subst eb
        rw [none_] at e
        cases e)
    obtain ⟨mc, l1, l2⟩ := hlim
    have e0 : Env0 P w K mg (hidT s₁.heap H) callerA [] s₁ H :=
      { frames := rfl, mod := ⟨written, space hns, ⟨mb, space hb, hbb⟩, ⟨mc, space l1, l2⟩⟩, bs := fun _ _ e => of_hidT e, bsz := Nat.le_of_eq (hidT_size _ _), funs := trivial, frf := (fun _ z => nomatch (show _ ∈ ([] : List Addr) from z)), hok := hok, bare := .of_eq hg }
    refine codeAny_mono (F _ written (space hns) [] s₁ H ⟨[.ref a], []⟩ [.ref a] [.ref a] _ _ e0 (hbind s₁ (.ref a)) (.cons rfl .nil) (hsp H hO hS)) fun r s' h => ?_
    cases r with
    | error e => exact h.elim
    | ok fl =>
      cases fl with
      | next => exact h.elim
      | brk => exact h.elim
      | cont => exact h.elim
      | ret u =>
        obtain ⟨v, H', os, bare, un, hok', r', q⟩ := h
        have q' : v = .bl true := q
        subst q'
        obtain rfl : u = Value.bool true := r'
        refine ⟨rfl, OldK.of_keep fun b o e => ?_, os, bare⟩
        rcases hO b with z | ⟨ob, xs, z⟩
        · exact un.keep b o e z (fun z => nomatch (show b ∈ ([] : List Addr) from z)) (fun z => nomatch z)
        · have g1 := (hok b _ z).1
          rw [e] at g1
          cases g1
          exact (hok' b _ (un.frzs b _ _ z)).1
  have len_ := hi.length
  cases hk : K.lookup a with
  | some o =>
    have e := KX a o hk
    rw [ha] at e
    cases e
    exact from_ (fun _ => none) (fun _ => .inl rfl) (.inr ⟨_, vs.toArray, _, hk, rfl, rfl, rfl, by rw [List.size_toArray, len_]; exact hl, by simpa using rv⟩) (fun b u z => nomatch (show (none : Option HO) = some u from z)) fun b u z => nomatch (show (none : Option HO) = some u from z)
  | none =>
    have at_ : ∀ b u, (if b = a then some (HO.frz { cls := .type "list", data := .seq vs.toArray } (.lst (ns.map V.int))) else none) = some u → b = a ∧ u = .frz { cls := .type "list", data := .seq vs.toArray } (.lst (ns.map V.int)) := fun b u z => by
      by_cases eb : b = a
      · rw [if_pos eb] at z
        exact ⟨eb, (Option.some.inj z).symm⟩
      · rw [if_neg eb] at z
        cases z
    refine from_ (fun b => if b = a then some (.frz { cls := .type "list", data := .seq vs.toArray } (.lst (ns.map V.int))) else none) (fun b => ?_) (.inl (.inr ⟨{ cls := .type "list", data := .seq vs.toArray }, if_pos rfl⟩)) (fun b u z => ?_) fun b u z => ⟨(at_ b u z).1, hk⟩
    · by_cases eb : b = a
      · exact .inr ⟨_, _, if_pos eb⟩
      · exact .inl (if_neg eb)
    · obtain ⟨eb, eu⟩ := at_ b u z
      subst eb eu
      exact ⟨ha, by rw [List.length_map]; exact hl, vs, _, rv, ha⟩
end
/-- the end of a law row, its def run at the caller's place -/
theorem walk_ofG {l : PySem.W.OpenLaw} {n : Nat} {q : Program} {loose : List Str} {XP : (Str → Option Value) → Heap → Prop} {YP : World → Heap → Prop} {d : DefRec} {K : Params → PySem.W.Frag} {sp : World → Sp} {x : Str}
    (hn : l.most = some n) (hn2 : n ≤ sizeLine) (hdf : d.params.defaults = []) (hY : ∀ (w : World) (h : Heap), YP w h → (K w.params).In h)
    (F : ∀ (w : World) (mg : Str → Option Value) (fa : Addr) (h : Heap), (K w.params).In h → h.Ns mainGlobals mg → mg d.name = some (.ref fa) →
      ∃ fd : FuncData, (∀ (s : Shared) (u : Value), BindsTo s fd ⟨[u], []⟩ [(x, u)]) ∧ ∀ base : Heap, (K w.params).In base → base.Ns mainGlobals mg → RunAt l.prog w (K w.params) mg base callerA fa fd [x] (sp w))
    (hsp : ∀ (w : World) (H : Hp) (a : Addr) (ns : List Int), ns.length ≤ n → Only H → SqL (K w.params) H a (ns.map V.int) → sp w [.ref a] H (fun v _ => v = .bl true) fun _ _ _ => False) :
    PySem.W.WalkO q loose XP YP l.row.toRowW d [] (fun f vs => PySem.call f vs) := by
  refine Att.attach_call hn hdf fun w s₀ s₁ mg mb fa o pm cd doc a vs ns G Y ho hd hcd hmg hobj hints hlen hg => ?_
  have KX := hY w _ Y
  obtain ⟨fd, hb, hF⟩ := F w mg fa _ KX G.T.g hmg
  exact law_callG KX G.T.g G.T.b G.T.builtins G.T.nolimit hg hobj hints (Nat.le_trans hlen hn2) hF hb fun H hO hS => hsp w H a ns hlen hO hS
theorem law_endG {P : Program} {w : World} {K : PySem.W.Frag} {mg : Str → Option Value} {x : Str} {st : Stmt} {sp : Sp} {fa : Addr} (D : Dfn K mg x st ["script"]) (hfa : mg x = some (.ref fa))
    (ok : ∀ (base : Heap) (f : Addr) (fd : FuncData), Fun K x x st f fd → RunAt P w K mg base callerA f fd ["script"] sp) :
    ∃ fd : FuncData, (∀ (s : Shared) (v : Value), BindsTo s fd ⟨[v], []⟩ [("script", v)]) ∧ ∀ base : Heap, K.In base → base.Ns mainGlobals mg → RunAt P w K mg base callerA fa fd ["script"] sp := by
  obtain ⟨f, fd, F, g, b⟩ := D.ex
  have e := hfa.symm.trans g
  cases e
  exact ⟨fd, fun s v => .of_eq (b [v] rfl), fun base _ _ => ok base fa fd F⟩
end Bs

namespace Bs
open PySem PySem.Spec PyProof.Rows L2
open Evl (Ex)
/-! ### books -/
structure Tk where
  name : Str
  len : Int
  mach : Str
  needs : List (Str × Int)
  frm : Int
  due : Option Int
  wt : Int
structure Wt where
  a : Int
  b : Int
  gap : Int
structure Bk where
  machs : List Str
  goods : List (Str × Int)
  tasks : List Tk
  waits : List Wt
  fixed : List (Int × Int)
def goodD (g : Str × Int) : PyData := .tuple [.str g.1, .int g.2]
def dueD : Option Int → PyData
  | some i => .int i
  | none => .none
def dueV : Option Int → V
  | some i => .int i
  | none => .non
def taskD (t : Tk) : PyData := .tuple [.str t.name, .int t.len, .str t.mach, .tuple (t.needs.map goodD), .int t.frm, dueD t.due, .int t.wt]
def waitD (x : Wt) : PyData := .tuple [.int x.a, .int x.b, .int x.gap]
def fixD (x : Int × Int) : PyData := .tuple [.int x.1, .int x.2]
def bookD (b : Bk) : PyData := .tuple [.tuple (b.machs.map .str), .tuple (b.goods.map goodD), .tuple (b.tasks.map taskD), .tuple (b.waits.map waitD), .tuple (b.fixed.map fixD)]
/-- a task's numbers are in their bounds -/
structure TaskOk (t : Tk) : Prop where
  len : 1 ≤ t.len ∧ t.len ≤ 1000
  frm : 0 ≤ t.frm ∧ t.frm ≤ 1000000
  due : ∀ d, t.due = some d → 0 ≤ d ∧ d ≤ 1000000
  wt : 0 ≤ t.wt ∧ t.wt ≤ 1000
structure BookOk (b : Bk) (most : Int) : Prop where
  few : 1 ≤ b.tasks.length ∧ (b.tasks.length : Int) ≤ most
  task : ∀ t ∈ b.tasks, TaskOk t
  waits : b.waits.length ≤ 60
  wait : ∀ x ∈ b.waits, 0 ≤ x.a ∧ x.a < x.b ∧ x.b < b.tasks.length ∧ 0 ≤ x.gap ∧ x.gap ≤ 1000
  fixeds : b.fixed.length ≤ 30
  fixed : ∀ x ∈ b.fixed, 0 ≤ x.1 ∧ x.1 < b.tasks.length ∧ 0 ≤ x.2 ∧ x.2 ≤ 1000000
/-- the five tuples of a book -/
theorem book_parts {H : Hp} {v : V} {b : Bk} (h : TD H v (bookD b)) : ∃ a m g t w f, v = .ref a ∧ H a = some (.tup [.ref m, .ref g, .ref t, .ref w, .ref f]) ∧
    (∃ xs, H m = some (.tup xs) ∧ RowsAt PyData.str H xs b.machs) ∧ (∃ xs, H g = some (.tup xs) ∧ RowsAt goodD H xs b.goods) ∧ (∃ xs, H t = some (.tup xs) ∧ RowsAt taskD H xs b.tasks) ∧
    (∃ xs, H w = some (.tup xs) ∧ RowsAt waitD H xs b.waits) ∧ (∃ xs, H f = some (.tup xs) ∧ RowsAt fixD H xs b.fixed) := by
  obtain ⟨a, xs, rfl, ha, hs⟩ := h.tupI
  cases hs with
  | cons h1 hs =>
    cases hs with
    | cons h2 hs =>
      cases hs with
      | cons h3 hs =>
        cases hs with
        | cons h4 hs =>
          cases hs with
          | cons h5 hs =>
            cases hs
            obtain ⟨m, x1, rfl, g1, k1⟩ := h1.tupI
            obtain ⟨g, x2, rfl, g2, k2⟩ := h2.tupI
            obtain ⟨t, x3, rfl, g3, k3⟩ := h3.tupI
            obtain ⟨w, x4, rfl, g4, k4⟩ := h4.tupI
            obtain ⟨f, x5, rfl, g5, k5⟩ := h5.tupI
            exact ⟨a, m, g, t, w, f, rfl, ha, ⟨x1, g1, k1⟩, ⟨x2, g2, k2⟩, ⟨x3, g3, k3⟩, ⟨x4, g4, k4⟩, ⟨x5, g5, k5⟩⟩
theorem wait_parts {H : Hp} {v : V} {x : Wt} (h : TD H v (waitD x)) : ∃ p, v = .ref p ∧ H p = some (.tup [.int x.a, .int x.b, .int x.gap]) := by
  obtain ⟨p, xs, rfl, ha, hs⟩ := h.tupI
  cases hs with
  | cons h1 hs =>
    cases hs with
    | cons h2 hs =>
      cases hs with
      | cons h3 hs =>
        cases hs
        rw [h1.intI, h2.intI, h3.intI] at ha
        exact ⟨p, rfl, ha⟩
theorem good_parts {H : Hp} {v : V} {x : Str × Int} (h : TD H v (goodD x)) : ∃ p, v = .ref p ∧ H p = some (.tup [.str x.1, .int x.2]) := by
  obtain ⟨p, xs, rfl, ha, hs⟩ := h.tupI
  cases hs with
  | cons h1 hs =>
    cases hs with
    | cons h2 hs =>
      cases hs
      rw [h1.strI, h2.intI] at ha
      exact ⟨p, rfl, ha⟩
theorem fix_parts {H : Hp} {v : V} {x : Int × Int} (h : TD H v (fixD x)) : ∃ p, v = .ref p ∧ H p = some (.tup [.int x.1, .int x.2]) := by
  obtain ⟨p, xs, rfl, ha, hs⟩ := h.tupI
  cases hs with
  | cons h1 hs =>
    cases hs with
    | cons h2 hs =>
      cases hs
      rw [h1.intI, h2.intI] at ha
      exact ⟨p, rfl, ha⟩
theorem due_parts {H : Hp} {v : V} {o : Option Int} (h : TD H v (dueD o)) : v = dueV o := by
  cases o with
  | none => exact h.noneI
  | some i => exact h.intI
theorem task_parts {H : Hp} {v : V} {t : Tk} (h : TD H v (taskD t)) : ∃ p q xs, v = .ref p ∧ H p = some (.tup [.str t.name, .int t.len, .str t.mach, .ref q, .int t.frm, dueV t.due, .int t.wt]) ∧ H q = some (.tup xs) ∧ RowsAt goodD H xs t.needs := by
  obtain ⟨p, xs, rfl, ha, hs⟩ := h.tupI
  cases hs with
  | cons h1 hs =>
    cases hs with
    | cons h2 hs =>
      cases hs with
      | cons h3 hs =>
        cases hs with
        | cons h4 hs =>
          cases hs with
          | cons h5 hs =>
            cases hs with
            | cons h6 hs =>
              cases hs with
              | cons h7 hs =>
                cases hs
                obtain ⟨q, ys, e4, g4, k4⟩ := h4.tupI
                rw [h1.strI, h2.intI, h3.strI, e4, h5.intI, due_parts h6, h7.intI] at ha
                exact ⟨p, q, ys, rfl, ha, g4, k4⟩
end Bs

namespace Bs
open PySem PySem.Spec PyProof.Rows L2
open Evl (Ex)
section
variable {K : PySem.W.Frag} {w : World} {β : Type} {D' : β → PyData} {a : Addr} {xs : List V} {rows : List β} {g : TG} {tt : TT} {te : TE} {vs : List Nat} {σ : L2.St} {H : Hp}
/-- [row for row in a tuple if ..] -/
theorem lcTD {Qd : Addr → Hp → Prop} (p : β → Bool) (hx : SqT K H a xs) (hr : RowsAt D' H xs rows) (small : rows.length ≤ 10000)
    (turn : ∀ b v H', b ∈ rows → TD H' v (D' b) → Ex H H' → ∀ (R : VK) (R0 : Hp → Prop), (p b = true → ∀ H4, Ex H' H4 → R v H4) → (p b = false → ∀ H4, Ex H' H4 → R0 H4) →
      g v (wipe σ vs) H' fun σ2 H2 => wipe σ2 vs = wipe σ vs ∧ tt σ2 H2 fun c H3 => if c = true then te σ2 H3 R else R0 H3)
    (q : ∀ D H' zs, H D = none → Ex H H' → H' D = some (.lst zs) → RowsAt D' H' zs (rows.filter p) → Qd D H') : ∀ D, H D = none →
    ∃ W : Nat → Nat → Hp → Prop, (∃ m, W 0 m (upd H D (.lst []))) ∧ ∀ i m H, W i m H →
      ((Itt K a).stop i H ∧ Qd D H) ∨ ((Itt K a).go i H ∧ ∃ Nx : Hp → Prop, (∀ H', Nx H' → ∃ m', m' < m ∧ W (i + 1) m' H') ∧ ∀ x H', (Itt K a).yld i H x H' → g x (wipe σ vs) H' fun σ2 H2 => wipe σ2 vs = wipe σ vs ∧ tt σ2 H2 fun b H3 =>
        if b = true then te σ2 H3 fun y H4 => ∃ acc, H4 D = some (.lst acc) ∧ acc.length < sizeLine ∧ Nx (upd H4 D (.lst (acc ++ [y]))) else Nx H3) := fun D hD => by
  refine lc_tup (K := K) (a := a) (xs := xs) (fun i H' => Ex H H' ∧ ∃ zs, H' D = some (.lst zs) ∧ RowsAt D' H' zs ((rows.take i).filter p)) ⟨Ex.new hD, [], upd_same, .nil⟩ (fun i H' _ h => Evl.ex_t h.1 hx) ?_ ?_
  · rintro i x H' ex ⟨e, zs, hl, hz⟩
    obtain ⟨b, hb, ht⟩ := hr.get ex
    refine turn b x _ (List.mem_of_getElem? hb) (TD.tp (Tp.ex e) ht) e _ _ (fun hp H4 e4 => ?_) (fun hp H4 e4 => ?_)
    · have h4 := e4 _ _ hl
      refine ⟨zs, h4, ?_, (e.trans e4).mut hD, zs ++ [x], upd_same, ?_⟩
      · rw [hz.len, sizeLine_eq]
        have h1 := List.length_filter_le p (rows.take i)
        have h2 : (rows.take i).length ≤ rows.length := by rw [List.length_take]; omega
        omega
      · rw [take_snoc hb, List.filter_append, List.filter_cons_of_pos hp]
        have w1 : RowsAt D' H4 (zs ++ [x]) ((rows.take i).filter p ++ [b]) := by
          unfold RowsAt
          rw [List.map_append]
          exact TDs.append (RowsAt.tp (Tp.ex e4) hz) (.cons (TD.tp (Tp.ex (e.trans e4)) ht) .nil)
        exact RowsAt.tp (Tp.upd h4) w1
    · refine ⟨e.trans e4, zs, e4 _ _ hl, ?_⟩
      rw [take_snoc hb, List.filter_append, List.filter_cons_of_neg (by simp [hp])]
      simpa using RowsAt.tp (Tp.ex e4) hz
  · rintro H' ⟨e, zs, hl, hz⟩
    rw [hr.len, List.take_length] at hz
    exact q D H' zs hD e hl hz
/-- [e for k in range(n) if ..] -/
theorem lcR {Qd : Addr → Hp → Prop} {n : Nat} (p : Nat → Bool) (f : Nat → V) (small : n ≤ 10000)
    (turn : ∀ i H', i < n → Ex H H' → ∀ (R : VK) (R0 : Hp → Prop), (p i = true → ∀ H4, Ex H' H4 → R (f i) H4) → (p i = false → ∀ H4, Ex H' H4 → R0 H4) →
      g (.int (0 + i)) (wipe σ vs) H' fun σ2 H2 => wipe σ2 vs = wipe σ vs ∧ tt σ2 H2 fun c H3 => if c = true then te σ2 H3 R else R0 H3)
    (q : ∀ D H', H D = none → Ex H H' → H' D = some (.lst (((List.range n).filter p).map f)) → Qd D H') : ∀ D, H D = none →
    ∃ W : Nat → Nat → Hp → Prop, (∃ m, W 0 m (upd H D (.lst []))) ∧ ∀ i m H, W i m H →
      ((Itr 0 n).stop i H ∧ Qd D H) ∨ ((Itr 0 n).go i H ∧ ∃ Nx : Hp → Prop, (∀ H', Nx H' → ∃ m', m' < m ∧ W (i + 1) m' H') ∧ ∀ x H', (Itr 0 n).yld i H x H' → g x (wipe σ vs) H' fun σ2 H2 => wipe σ2 vs = wipe σ vs ∧ tt σ2 H2 fun b H3 =>
        if b = true then te σ2 H3 fun y H4 => ∃ acc, H4 D = some (.lst acc) ∧ acc.length < sizeLine ∧ Nx (upd H4 D (.lst (acc ++ [y]))) else Nx H3) := fun D hD => by
  refine lc_range (lo := 0) (n := n) (fun i H' => Ex H H' ∧ H' D = some (.lst (((List.range i).filter p).map f))) ⟨Ex.new hD, by rw [upd_same]; rfl⟩ ?_ ?_
  · rintro i H' hi ⟨e, hl⟩
    refine turn i _ hi e _ _ (fun hp H4 e4 => ?_) (fun hp H4 e4 => ?_)
    · refine ⟨_, e4 _ _ hl, ?_, (e.trans e4).mut hD, ?_⟩
      · rw [List.length_map, sizeLine_eq]
        have h1 := List.length_filter_le p (List.range i)
        rw [List.length_range] at h1
        omega
      · rw [upd_same, List.range_succ, List.filter_append, List.map_append, List.filter_cons_of_pos hp]
        rfl
    · refine ⟨e.trans e4, ?_⟩
      rw [e4 _ _ hl, List.range_succ, List.filter_append, List.filter_cons_of_neg (by simp [hp])]
      simp
  · rintro H' ⟨e, hl⟩
    exact q D H' hD e hl
end
/-! ### data of waits, compared -/
theorem shaped_waits (ws : List Wt) : SeqAt.shaped (.list (ws.map waitD)) = true := by
  have h1 : PyData.canLayAll0 (ws.map waitD) = true := by
    induction ws with
    | nil => rfl
    | cons x r ih =>
      show (PyData.canLay0 (waitD x) && PyData.canLayAll0 (r.map waitD)) = true
      rw [ih]
      rfl
  have h2 : PyData.depthAll (ws.map waitD) ≤ 1 := by
    induction ws with
    | nil => exact Nat.zero_le _
    | cons x r ih =>
      have := ih (by
        have h := h1
        rw [show PyData.canLayAll0 ((x :: r).map waitD) = (PyData.canLay0 (waitD x) && PyData.canLayAll0 (r.map waitD)) from rfl, Bool.and_eq_true] at h
        exact h.2)
      show max (PyData.depth (waitD x)) (PyData.depthAll (r.map waitD)) ≤ 1
      have e : PyData.depth (waitD x) = 1 := rfl
      omega
  unfold SeqAt.shaped
  rw [show PyData.canLay0 (.list (ws.map waitD)) = PyData.canLayAll0 (ws.map waitD) from rfl, h1]
  exact decide_eq_true (show PyData.depthAll (ws.map waitD) + 1 ≤ 64 by omega)
theorem cut2 {a b g : V} : cutV [a, b, g] none (some 2) = [a, b] := by
  unfold cutV
  rw [HT.sIx_none, show (some (2 : Int)) = some ((2 : Nat) : Int) from rfl, HT.sIx_nat]
  rfl
/-- a strictly rising list is told by its members -/
theorem rise_ext : ∀ {xs ys : List Int}, xs.Pairwise (· < ·) → ys.Pairwise (· < ·) → (∀ k, k ∈ xs ↔ k ∈ ys) → xs = ys
  | [], [], _, _, _ => rfl
  | [], y :: r, _, _, h => absurd ((h y).mpr List.mem_cons_self) (by simp)
  | x :: r, [], _, _, h => absurd ((h x).mp List.mem_cons_self) (by simp)
  | x :: r, y :: t, hx, hy, h => by
    rw [List.pairwise_cons] at hx hy
    have e : x = y := by
      rcases List.mem_cons.mp ((h x).mp List.mem_cons_self) with e | e
      · exact e
      · rcases List.mem_cons.mp ((h y).mpr List.mem_cons_self) with e2 | e2
        · exact e2.symm
        · have h1 := hy.1 x e
          have h2 := hx.1 y e2
          omega
    subst e
    rw [rise_ext hx.2 hy.2 fun k => ⟨fun hk => by
      rcases List.mem_cons.mp ((h k).mp (List.mem_cons_of_mem _ hk)) with e | e
      · have := hx.1 k hk
        omega
      · exact e, fun hk => by
      rcases List.mem_cons.mp ((h k).mpr (List.mem_cons_of_mem _ hk)) with e | e
      · have := hy.1 k hk
        omega
      · exact e⟩]
/-! ### what goes ahead by waits -/
def isAhead (b : Bk) (t o : Nat) : Bool := b.waits.any fun x => decide (x.a = o) && decide (x.b = t)
def ahd (b : Bk) (t : Nat) : List Int := ((List.range b.tasks.length).filter (isAhead b t)).map fun (o : Nat) => (o : Int)
def ahds (b : Bk) : List (List Int) := (List.range b.tasks.length).map (ahd b)
theorem isAhead_iff {b : Bk} {t o : Nat} : isAhead b t o = true ↔ ∃ x ∈ b.waits, x.a = o ∧ x.b = t := by
  unfold isAhead
  rw [List.any_eq_true]
  constructor
  · rintro ⟨x, hx, h⟩
    rw [Bool.and_eq_true, decide_eq_true_iff, decide_eq_true_iff] at h
    exact ⟨x, hx, h.1, h.2⟩
  · rintro ⟨x, hx, h1, h2⟩
    exact ⟨x, hx, by rw [decide_eq_true h1, decide_eq_true h2]; rfl⟩
theorem ahd_rise (b : Bk) (t : Nat) : (ahd b t).Pairwise (· < ·) := by
  unfold ahd
  rw [List.pairwise_map]
  refine List.Pairwise.imp (R := fun x y : Nat => x < y) (fun h => by omega) ?_
  exact List.Pairwise.filter _ List.pairwise_lt_range
theorem ahd_mem {b : Bk} {most : Int} (ok : BookOk b most) {t : Nat} {k : Int} : k ∈ ahd b t ↔ ∃ x ∈ b.waits, decide (x.b = (t : Int)) = true ∧ x.a = k := by
  unfold ahd
  rw [List.mem_map]
  constructor
  · rintro ⟨o, ho, rfl⟩
    obtain ⟨_, h2⟩ := List.mem_filter.mp ho
    obtain ⟨x, hx, h3, h4⟩ := isAhead_iff.mp h2
    exact ⟨x, hx, decide_eq_true h4, h3⟩
  · rintro ⟨x, hx, h1, h2⟩
    have h3 := ok.wait x hx
    refine ⟨x.a.toNat, List.mem_filter.mpr ⟨List.mem_range.mpr (by omega), isAhead_iff.mpr ⟨x, hx, by omega, of_decide_eq_true h1⟩⟩, by omega⟩
theorem ahds_few {b : Bk} {most : Int} (ok : BookOk b most) (h : most ≤ 30) : Few (ahds b) := by
  have := ok.few
  unfold ahds
  refine ⟨by rw [List.length_map, List.length_range]; omega, fun l hl => ?_⟩
  obtain ⟨t, _, rfl⟩ := List.mem_map.mp hl
  constructor
  · unfold ahd
    rw [List.length_map]
    have h1 := List.length_filter_le (isAhead b t) (List.range b.tasks.length)
    rw [List.length_range] at h1
    omega
  · intro n hn
    unfold ahd at hn
    obtain ⟨o, ho, rfl⟩ := List.mem_map.mp hn
    have := List.mem_range.mp (List.mem_filter.mp ho).1
    omega
/-- the greatest gap that waits tell -/
def GapOf (ws : List Wt) (x y : Int) : Option Int → Prop
  | none => ∀ z ∈ ws, ¬ (z.a = x ∧ z.b = y)
  | some g => (∃ z ∈ ws, (z.a = x ∧ z.b = y) ∧ z.gap = g) ∧ ∀ z ∈ ws, z.a = x ∧ z.b = y → z.gap ≤ g
def GapIs (b : Bk) (x y : Int) : Option Int → Prop := GapOf b.waits x y
theorem GapOf.same {ws : List Wt} {x y : Int} : ∀ {o u : Option Int}, GapOf ws x y o → GapOf ws x y u → o = u
  | none, none, _, _ => rfl
  | none, some g, h, k => by
    obtain ⟨⟨z, hz, h1, _⟩, _⟩ := k
    exact absurd h1 (h z hz)
  | some g, none, k, h => by
    obtain ⟨⟨z, hz, h1, _⟩, _⟩ := k
    exact absurd h1 (h z hz)
  | some g, some g', h, k => by
    obtain ⟨⟨z, hz, h1, h2⟩, h3⟩ := h
    obtain ⟨⟨y', hy, k1, k2⟩, k3⟩ := k
    have e1 := h3 y' hy k1
    have e2 := k3 z hz h1
    have : g = g' := by omega
    rw [this]
theorem GapOf.skip {ws : List Wt} {x y : Int} {o : Option Int} {z : Wt} (h : GapOf ws x y o) (n : (z.a = x ∧ z.b = y) → ∃ g, o = some g ∧ z.gap ≤ g) : GapOf (ws ++ [z]) x y o := by
  cases o with
  | none =>
    intro u hu
    rcases List.mem_append.mp hu with hu | hu
    · exact h u hu
    · rw [List.mem_singleton.mp hu]
      intro hh
      obtain ⟨g, e, _⟩ := n hh
      cases e
  | some g =>
    obtain ⟨⟨u, hu, h1, h2⟩, h3⟩ := h
    refine ⟨⟨u, List.mem_append_left _ hu, h1, h2⟩, fun r hr hh => ?_⟩
    rcases List.mem_append.mp hr with hr | hr
    · exact h3 r hr hh
    · rw [List.mem_singleton.mp hr] at hh ⊢
      obtain ⟨g', e, le⟩ := n hh
      cases e
      exact le
theorem GapOf.take_ {ws : List Wt} {x y : Int} {o : Option Int} {z : Wt} (h : GapOf ws x y o) (e : z.a = x ∧ z.b = y) (n : ∀ g, o = some g → g ≤ z.gap) : GapOf (ws ++ [z]) x y (some z.gap) := by
  refine ⟨⟨z, List.mem_append_right _ (List.mem_singleton.mpr rfl), e, rfl⟩, fun r hr hh => ?_⟩
  rcases List.mem_append.mp hr with hr | hr
  · cases o with
    | none => exact absurd hh (h r hr)
    | some g => exact Int.le_trans (h.2 r hr hh) (n g rfl)
  · rw [List.mem_singleton.mp hr]
    exact Int.le_refl _
theorem gap_short {n : Int} (h0 : 0 ≤ n) (h1 : n ≤ 1000) : (PyData.int n).shown.length ≤ 4 := by
  obtain ⟨k, rfl⟩ : ∃ k : Nat, n = (k : Int) := ⟨_, (Int.toNat_of_nonneg h0).symm⟩
  have all : ∀ k : Fin 1001, (PyData.int ((k.val : Nat) : Int)).shown.length ≤ 4 := by decide +kernel
  exact all ⟨k, by omega⟩
theorem rd_due {K : PySem.W.Frag} {H : Hp} {o : Option Int} {Q : VK} (h : ∀ g, o = some g → 0 ≤ g ∧ g ≤ 1000) (q : Q (.str (dueD o).shown) H) : rReprD K [dueV o] H Q := by
  cases o with
  | none => exact ⟨.non, .none, rfl, .non, True.intro, rfl, rfl, by decide, by decide +kernel, q⟩
  | some g =>
    obtain ⟨g0, g1⟩ := h g rfl
    have lg : g.natAbs.log2 < 1920 := Nat.lt_of_le_of_lt (Nat.log2_le_self _) (by omega)
    refine ⟨.int g, .int g, rfl, .int g, lg, decide_eq_true lg, rfl, Nat.zero_le _, ?_, q⟩
    have := gap_short g0 g1
    rw [sizeLine_eq]
    omega
end Bs

namespace Bs
open PySem PySem.Spec PyProof.Rows L2
open Evl (Ex)
/-! ### {k: v for .. in .. if ..}, the keys tuples of ints and texts -/
section
variable {X : Cx}
theorem put_tup {pins : List (Addr × Obj)} {σ : L2.St} {H : Hp} {s : Shared} {E : Value → Shared → Prop} {D b : Addr} {kvs : List (List L2.Key × V)} {k : List L2.Key} {v : V} {u r : Value} {Q : Unit → Shared → Prop} (hu : X.A.units + 64 < cLine) (J : L2.Inv X pins σ H s) (at_ : H D = some (.dT kvs)) (kb : H b = some (.tup (k.map kV)))
    (few : kvs.length < sizeLine) (ru : RelV (.ref b) u) (rr : RelV v r) (next : ∀ s', L2.Inv X pins σ (upd H D (.dT (putK kvs k v))) s' → Q () s') : wpAny (model X.prog X.w) X.A (dictSet D u r) Q E s := by
  cases (show u = Value.ref b from ru)
  obtain ⟨z, ns, ents, rel, dd⟩ := dt_of J.hok at_
  have room : ents.length ≤ sizeLine := by
    rw [← Paired.length rel]
    exact z
  have more := length_putK kvs k v
  refine wpAny_dictSet_heap (hsz := room) (show X.A.units < cLine by omega) (key_of J.hok kb) dd fun h2 made same => next _ ?_
  obtain ⟨ob, es, ep, hob, c1, c2, c3, _, c5⟩ := made
  refine d_write J (by rw [at_]; trivial) same ⟨ob, hob⟩ ⟨by omega, ns, _, (rel.put k kb rr).keeps fun c ys ec => ?_, ob, es, ep, hob, c1, c2, c3, c5⟩
  rw [upd_ne (ne_of ec at_ fun y => nomatch y)]
  exact ec
def tDcT (wi : TI) (g : TG) (tt : TT) (tk te : TE) (vs : List Nat) : TE := fun σ H Q => wi σ H fun J H1 => ∀ D, H1 D = none → ∃ W : Nat → Nat → Hp → Prop, (∃ m, W 0 m (upd H1 D (.dT []))) ∧ ∀ i m H, W i m H →
  (J.stop i H ∧ Q (.ref D) H) ∨ (J.go i H ∧ ∃ Nx : Hp → Prop, (∀ H', Nx H' → ∃ m', m' < m ∧ W (i + 1) m' H') ∧ ∀ x H', J.yld i H x H' → g x (wipe σ vs) H' fun σ2 H2 => wipe σ2 vs = wipe σ vs ∧ tt σ2 H2 fun b H3 =>
    if b = true then tk σ2 H3 fun y H4 => te σ2 H4 fun z H5 => ∃ (kvs : List (List L2.Key × V)) (k : List L2.Key) (a : Addr), y = .ref a ∧ H5 D = some (.dT kvs) ∧ H5 a = some (.tup (k.map kV)) ∧ kvs.length < sizeLine ∧ Nx (upd H5 D (.dT (putK kvs k z))) else Nx H3)
abbrev dict0 : Obj := { cls := .type "dict", data := .dict #[] }
theorem pe_dcT {kx elt tg iter : Expr} {ifs : List Expr} {scope : Scope} {own : List (PySem.Str × Nat)} {pos : Pos} {wi : TI} {g : TG} {tt : TT} {tk te : TE} (hu : X.A.units + 64 < cLine) (calm : X.calm = true) (nd : X.N.Nodup) (pi : PI X tg iter wi) (blk : BlkOk X.N X.env.scope scope own)
    (pgs : ∀ (s : Shared) (H : Hp) (C : Addr) (cl : List (PySem.Str × Addr)) (fp : List Addr), PG (X.blk s H scope (compEnvC scope cl C X.env) fp) tg g)
    (pts : ∀ (s : Shared) (H : Hp) (C : Addr) (cl : List (PySem.Str × Addr)) (fp : List Addr), PTs (X.blk s H scope (compEnvC scope cl C X.env) fp) ifs tt)
    (pks : ∀ (s : Shared) (H : Hp) (C : Addr) (cl : List (PySem.Str × Addr)) (fp : List Addr), PE (X.blk s H scope (compEnvC scope cl C X.env) fp) kx tk)
    (pes : ∀ (s : Shared) (H : Hp) (C : Addr) (cl : List (PySem.Str × Addr)) (fp : List Addr), PE (X.blk s H scope (compEnvC scope cl C X.env) fp) elt te) (fold : ∀ x, foldedSetIterable iter X.env x = pure x := by intro _; rfl) :
    PE X (.DictComp kx elt [⟨tg, iter, ifs, 0⟩] scope pos) (tDcT wi g tt tk te (own.map (·.2))) := by
  refine ⟨fun pins s σ H Q I hyp => ?_⟩
  rw [arm_eval_DictComp]
  have cellsOk : ∀ y ∈ scope.names, y.2 = .free → ∃ c, X.env.cells.lookup y.1 = some c := fun y my fy => (blk.free y my fy).elim (fun k => I.ok.has _ (.inl k)) fun k => I.ok.has _ (.inr k)
  refine wpAny_comprehension_free rfl fold (closure_ok cellsOk) blk.kind (fun y my fy => by rw [blk.uniq y my, fy]) (thn (pi.run pins s σ H _ I hyp) fun _ _ a1 => thn a1 fun _ sA a2 => ?_)
  obtain ⟨it, fp, tn, J, HA, rfl, IA, T, stA, frA, q⟩ := a2
  refine wpAny_newObj_type (newEnv_comp ?_)
  -- the new set stands at D
  obtain ⟨D, eD⟩ : ∃ D, sA.heap.objs.size = D := ⟨_, rfl⟩
  have free : HA D = none := IA.hok.fresh (Nat.le_of_eq eD)
  obtain ⟨W, ⟨m0, w0⟩, turn⟩ := q D free
  obtain ⟨sB, eB⟩ : ∃ sB : Shared, ({ sA with heap := sA.heap.push (dict0) } : Shared) = sB := ⟨_, rfl⟩
  obtain ⟨HB, eHB⟩ : ∃ HB : Hp, upd HA D (.dT []) = HB := ⟨_, rfl⟩
  have hpB : sB.heap = sA.heap.push (dict0) := by rw [← eB]
  have IB : L2.Inv X pins σ HB sB := by
    rw [← eB, ← eHB]
    refine IA.laid (t' := sA.toks) (fun b o e => Heap.get?_push_of_some _ e) (Nat.le_of_eq eD) ?_
    rw [← eD]
    exact dt_empty sA.heap IA.big
  have below : ∀ b ∈ fp, b < sA.heap.objs.size := fun b mb => (T.obj _ _ stA b mb).elim fun _ e => Heap.lt_size e.1
  have frB : ∀ b ∈ fp, FpOk X pins HB b ∧ b < sB.heap.objs.size := fun b mb => by
    refine ⟨⟨?_, (frA b mb).2⟩, by rw [hpB, Heap.size_push]; exact Nat.lt_succ_of_lt (below b mb)⟩
    rw [← eHB, upd_ne (by rw [← eD]; exact Nat.ne_of_lt (below b mb))]
    exact (frA b mb).1
  have stB : tn 0 sB.heap := T.keep _ _ _ stA fun _ _ _ e => by rw [hpB]; exact Heap.get?_push_of_some _ e
  have IC := block_start IB blk nd frB
  -- the block's own frame
  obtain ⟨cells, ecl⟩ : ∃ cells, cellsFrom (sB.heap.objs.size + 1) scope.names (cloFrom X.env.cells scope.names []) = cells := ⟨_, rfl⟩
  obtain ⟨ce, ece⟩ : ∃ ce, compEnvC scope cells sB.heap.objs.size X.env = ce := ⟨_, rfl⟩
  obtain ⟨sC, eC⟩ : ∃ sC : Shared, ({ sB with heap := pushCells (sB.heap.push { cls := .type "dict", data := .dict #[] }) scope.names } : Shared) = sC := ⟨_, rfl⟩
  have pg := pgs sB HB sB.heap.objs.size cells fp
  have pt := pts sB HB sB.heap.objs.size cells fp
  have pk := pks sB HB sB.heap.objs.size cells fp
  have pe := pes sB HB sB.heap.objs.size cells fp
  rw [ecl, ece, eC] at IC
  rw [ece] at pg pt pk pe
  have lo : ce.locals = sB.heap.objs.size := by rw [← ece]; rfl
  have none_ : ∀ b ∈ fp, HB b = none := fun b mb => (frB b mb).1.1
  have stC : tn 0 sC.heap := T.keep _ _ _ stB fun _ _ _ e => by rw [← eC]; exact pushCells_keeps _ _ _ _ (Heap.get?_push_of_some _ e)
  have pinned_ : ∀ {τ : L2.St} {H1 : Hp} {s1 : Shared}, L2.Inv (X.blk sB HB scope ce fp) [] τ H1 s1 → (∀ b ∈ fp, H1 b = none) → ∀ b ∈ fp, FpOk (X.blk sB HB scope ce fp) [] H1 b := fun {τ H1 s1} J1 hn b mb => by
    exact ⟨hn b mb, (J1.ok.exf b mb).1, J1.ok.exfs b mb, .inl mb, fun x c e => (J1.ok.exf b mb).2 x c e, fun p hp => nomatch (show p ∈ ([] : List (Addr × Obj)) from by simpa using hp)⟩
  rw [eB, eD, ecl]
  show codeAny _ _ (.compStart (.DictComp kx elt [⟨tg, iter, ifs, 0⟩] scope pos) 0 (.ref it) (.ref D) (compEnvC scope cells sB.heap.objs.size X.env)) _ { sB with heap := pushCells (sB.heap.push { cls := .type "dict", data := .dict #[] }) scope.names }
  rw [ece, eC]
  have loop : codeAny (model X.prog X.w) X.A (.compLoop (.DictComp kx elt [⟨tg, iter, ifs, 0⟩] scope pos) 0 (.ref it) (.ref D) ce) (compPost (model X.prog X.w) X.A X.xe none (EP X pins σ Q) (.ref D) sB.heap.objs.size) sC := by
    refine compLoop_anyD (fun n t => ∃ i H1, L2.Inv (X.blk sB HB scope ce fp) [] (wipe σ (own.map (·.2))) H1 t ∧ tn i t.heap ∧ (∀ b ∈ fp, H1 b = none) ∧ W i n H1) ?_ m0 ⟨0, HB, IC, stC, none_, by rw [← eHB]; exact w0⟩
    rintro n t5 ⟨i, H5, I5, st5, n5, w5⟩
    rcases turn i n H5 w5 with ⟨stop, fin_⟩ | ⟨go, Nx, back, step⟩
    · refine thnF (T.done (X.blk sB HB scope ce fp) rfl rfl rfl calm i [] t5 _ H5 (fun _ _ => False) I5 (pinned_ I5 n5) st5 stop) fun r t6 ⟨er, I6⟩ => ?_
      subst er
      have I7 : L2.Inv X pins σ H5 t6 := IB.call' (ch := fp) I6.os I6.base I6.hok I6.bare fun b mb => ⟨(frB b mb).1.2.2.2.1, (frB b mb).1.2.1, (frB b mb).1.2.2.2.2.1, (frB b mb).1.2.2.2.2.2⟩
      have fl : H5 sB.heap.objs.size = none := lo ▸ (show H5 ce.locals = none from I6.free)
      obtain ⟨m, hm, _⟩ := I6.loc
      have hm' : t6.heap.Ns sB.heap.objs.size m := lo ▸ (show t6.heap.Ns ce.locals m from hm)
      refine ⟨m, hm', fun h'' sb => ?_⟩
      obtain ⟨f0, f1, f2, f3, f4, f5⟩ := IB.fpOk (Nat.le_refl _) fl
      exact ⟨.ref D, H5, I7.turned (t' := t6.toks) (fun b o hb e => (sb.2 b hb).trans e) f0 f1 f3 f4 f5, rfl, fin_⟩
    · refine thnF (T.item (X.blk sB HB scope ce fp) rfl rfl rfl calm i [] t5 _ H5 (fun _ _ => False) I5 (pinned_ I5 n5) st5 go) fun r t6 ⟨u, er, h6⟩ => ?_
      subst er
      refine thnF h6 fun _ t7 ⟨x, H7, I7, r7, y7, st7, n7⟩ => ?_
      refine thnF (pg.run _ t7 _ H7 x u _ (I7.pinned (pinned_ I7 n7) (T.obj _ _ st7)) r7 (step x H7 y7)) fun _ t8 ⟨τ, H8, I8, ew, q8⟩ => ?_
      refine thnF (pt.run _ t8 τ H8 _ I8 q8) fun b t9 ⟨H9, I9, q9⟩ => ?_
      have again : ∀ {t : Shared} {H1 : Hp}, L2.Inv (X.blk sB HB scope ce fp) ([] ++ pinsAt fp t7.heap) τ H1 t → Nx H1 → ∃ m, m < n ∧ ∃ i H1, L2.Inv (X.blk sB HB scope ce fp) [] (wipe σ (own.map (·.2))) H1 t ∧ tn i t.heap ∧ (∀ b ∈ fp, H1 b = none) ∧ W i m H1 := fun {t H1} J1 nx => by
        obtain ⟨m', lt, w'⟩ := back H1 nx
        have held : ∀ b ∈ fp, ∀ o, t7.heap.get? b = some o → t.heap.get? b = some o ∧ H1 b = none := fun b mb o e => by
          have z := J1.pin (b, o) (List.mem_append_right _ (List.mem_append_right _ (mem_pinsAt mb e)))
          exact ⟨z.1, z.2.1⟩
        refine ⟨m', lt, i + 1, H1, (J1.unpinned (pins := [])).weak (by rw [← ew, wipe_length]) (fun j v e => (wipe_some (by rw [ew]; exact e)).1), T.keep _ _ _ st7 fun b mb o e => (held b mb o e).1, fun b mb => ?_, w'⟩
        obtain ⟨o, e, _⟩ := T.obj _ _ st7 b mb
        exact (held b mb o e).2
      cases b with
      | false =>
        simp only [Bool.false_eq_true, if_false] at q9 ⊢
        exact again I9 q9
      | true =>
        simp only [if_true] at q9 ⊢
        refine thnF (pk.run _ t9 τ H9 _ I9 q9) fun z t10 ⟨ky, H10, I10, r10, q10⟩ => ?_
        refine thnF (pe.run _ t10 τ H10 _ I10 q10) fun z2 t11 ⟨vy, H11, I11, r11, kvs, key, ka, ek, at11, ka11, few, nx⟩ => ?_
        subst ek
        exact put_tup (X := X.blk sB HB scope ce fp) hu I11 at11 ka11 few r10 r11 fun t12 I12 => again I12 nx
  exact codeAny_compStart_dict loop (T.self X.A 0 _ _ _ stC loop)
end
end Bs

namespace Bs
open PySem PySem.Spec PyProof.Rows L2
open Evl (Ex)
/-! ### sorted(d), d's keys pairs of ints -/
/-- the two ints of a pair that stands -/
def prAt (H : Hp) : V → Int × Int
  | .ref b => match H b with
    | some (.tup [.int x, .int y]) => (x, y)
    | _ => (0, 0)
  | _ => (0, 0)
theorem prAt_is {H : Hp} {b : Addr} {x y : Int} (e : H b = some (.tup [.int x, .int y])) : prAt H (.ref b) = (x, y) := by
  unfold prAt
  simp only [e]
abbrev kP (p : Int × Int) : List L2.Key := [Sum.inl p.1, Sum.inl p.2]
def rSortedDT (K : PySem.W.Frag) : List V → Hp → VK → Prop := fun vs H Q => ∃ (a : Addr) (kvs : List (List L2.Key × V)), vs = [V.ref a] ∧ H a = some (.dT kvs) ∧ (∀ e ∈ kvs, ∃ p, e.1 = kP p) ∧
  ∀ (bs : List Addr) (ys : List V) (p : Addr), IsKeys H kvs bs → SrtO.Srtd (ltP (prAt H)) ys → ys.Perm (bs.map V.ref) → H p = none → Q (.ref p) (upd H p (.lst ys))
theorem isKeys_at {H : Hp} : ∀ {kvs : List (List L2.Key × V)} {bs : List Addr}, IsKeys H kvs bs → (∀ e ∈ kvs, ∃ p, e.1 = kP p) → ∀ b ∈ bs, ∃ x y : Int, H b = some (.tup [.int x, .int y])
  | _, _, .nil, _, b, hb => nomatch hb
  | e :: kvs, c :: bs, .cons h t, ok, b, hb => by
    rcases List.mem_cons.mp hb with z | z
    · subst z
      obtain ⟨p, hp⟩ := ok e List.mem_cons_self
      rw [hp] at h
      exact ⟨p.1, p.2, h⟩
    · exact isKeys_at t (fun e' m => ok e' (List.mem_cons_of_mem _ m)) b z
theorem cr_sortedDT {X : Cx} (hc : X.calm = true) : CallR X (.builtin "sorted") (rSortedDT X.K) := by
  intro pins s σ H vs us Q I r h
  obtain ⟨d, kvs, rfl, hd, ok, q⟩ := h
  rw [Vals.ref1 r]
  obtain ⟨z, ns, ks, pr, o, es, ep, ho, hx, hdt, he, hn⟩ := dt_of I.hok hd
  have l1 : es.size = ks.length := size_of_entries he
  have l2 : kvs.length = ks.length := Paired.length pr
  have keys := isKeys_of pr
  have pairs := isKeys_at keys ok
  refine Calls.call_function_entry PyProof.Rows.kind_sorted PyProof.Rows.plain_sorted PyProof.Rows.entry_sorted (PyProof.Rows.args_sorted1 _) ?_
  unfold Builtin.«sorted»
  refine wpAny_bind (m := checkCount "sorted" 1 1 _) (wpAny_pure ?_)
  refine wpAny_bind (PySem.W.kdu_collect (A := X.A.in1) (kdl_raw ns hx hdt) (I.ok.hd hc) ho (by omega) fun h' tk acc kp it => ?_)
  have ea : acc.toList = (ks.map fun x => x.2.1).map Value.ref := by
    have hl : acc.toList.length = ks.length := by rw [Array.length_toList, it.1]; exact l1
    rw [List.map_map]
    apply List.ext_getElem?
    intro j
    rw [List.getElem?_map]
    cases hj : acc.toList[j]? with
    | none =>
      have h1 := List.getElem?_eq_none_iff.mp hj
      rw [List.getElem?_eq_none (by omega)]
      rfl
    | some v =>
      obtain ⟨en, hen, hv⟩ := it.2 j v (by rw [← Array.getElem?_toList]; exact hj)
      have qe := entry_at he j
      rw [hen] at qe
      cases hb : ks[j]? with
      | none =>
        rw [hb] at qe
        exact nomatch (show some en = none from qe)
      | some b =>
        rw [hb] at qe
        have e2 : en = entryOfKey (tupleKind (mixKind X.prog X.w)) b := Option.some.inj qe
        rw [hv, e2]
        rfl
  generalize hbs : (ks.map fun x => x.2.1) = bs at keys pairs ea
  have hbl : bs.length = kvs.length := by rw [← hbs, List.length_map]; omega
  have I1 : Inv X pins σ H { s with heap := h', toks := tk } := I.kept kp
  refine wpAny_bind (wpAny_newList ?_ (by rw [ea, List.length_map]; omega))
  have hoL : (h'.push (seqObj "list" acc.toList.toArray 0)).get? h'.objs.size = some (seqObj "list" acc.toList.toArray 0) := Heap.get?_push_size _ rfl
  have up : ∀ b u, s.heap.get? b = some u → (h'.push (seqObj "list" acc.toList.toArray 0)).get? b = some u := fun b u e => Heap.get?_push_of_some _ (kp b u e)
  have hp : ∀ v ∈ acc.toList, Srt.IsPair (h'.push (seqObj "list" acc.toList.toArray 0)) v (prAt H (backV v)).1 (prAt H (backV v)).2 := fun v hv => by
    rw [ea] at hv
    obtain ⟨b, hb, rfl⟩ := List.mem_map.mp hv
    obtain ⟨x, y, hxy⟩ := pairs b hb
    have e0 : prAt H (backV (Value.ref b)) = (x, y) := prAt_is hxy
    rw [e0]
    obtain ⟨_, its2, r2, ob, hob, hcl, n, hdt2⟩ := I.hok _ _ hxy
    obtain ⟨u1, u2, rfl, ri, rj⟩ := vals2 r2
    obtain ⟨t1, rfl⟩ := ri
    obtain ⟨t2, rfl⟩ := rj
    exact ⟨b, ob, t1, t2, n, rfl, up _ _ hob, hcl, hdt2⟩
  show wpAny _ _ _ _ _ { s with heap := h'.push (seqObj "list" acc.toList.toArray 0), toks := tk }
  refine wpAny_bind (wpAny_holding (wpAny_call_entry PyProof.Rows.slot_list_sort ⟨_, hoL, rfl⟩ PyProof.Rows.entry_list_sort
    (SrtO.list_sort_ord (s := { s with heap := h'.push (seqObj "list" acc.toList.toArray 0), toks := tk }) (SrtO.swo_lex fun u => prAt H (backV u)) hoL (by rw [ea, List.length_map]; omega) (fun h2 => SrtO.pairs_sortableO (by omega) hp fun o e => ?_) fun out g1 g2 => ⟨_, rfl, ?_⟩) (PyProof.Rows.args_list_sort _)))
  · have e' : some o = some (seqObj "list" acc.toList.toArray 0) := e.symm.trans hoL
    cases e'
    intro c
    exact absurd (Value.type.inj c) (by decide)
  · have h3 : ∀ u ∈ out, ∃ a, u = Value.ref a := fun u hu => by
      have := g2.perm.mem_iff.mp hu
      rw [ea] at this
      obtain ⟨b, _, e⟩ := List.mem_map.mp this
      exact ⟨b, e.symm⟩
    obtain ⟨c', he'⟩ := PyProof.Rows.sortedHeap_at (vs := acc.toList) (out := out.toArray) hoL
    have pm : (out.map backV).Perm (bs.map V.ref) := by
      have := g2.perm.map backV
      rw [ea, List.map_map] at this
      exact this
    have hlen : (out.map backV).length ≤ sizeLine := by
      rw [pm.length_eq, List.length_map]
      omega
    refine wpAny_pure ⟨_, rfl, .ref h'.objs.size, upd H h'.objs.size (.lst (out.map backV)), I1.laid (t' := tk) (fun b u e => ?_) (Nat.le_refl _) ⟨hlen, out, c', vals_back h3, he'⟩, rfl, q bs _ _ keys (SrtO.srtd_map g1) pm (I1.hok.fresh (Nat.le_refl _))⟩
    have hb : b < h'.objs.size := Heap.lt_size e
    rw [PyProof.Rows.sortedHeap_old (Nat.ne_of_lt hb) (by rw [size_push']; exact Nat.lt_succ_of_lt hb)]
    exact Heap.get?_push_of_some _ e
end Bs

namespace Bs
open PySem PySem.Spec PyProof.Rows L2
open Evl (Ex)
/-! ### the items of a dict, keys pairs of ints, values ints -/
abbrev Ent := (Int × Int) × Int
abbrev entP (e : Ent) : List L2.Key × V := (kP e.1, .int e.2)
def itemD (e : Ent) : PyData := .tuple [.tuple [.int e.1.1, .int e.1.2], .int e.2]
theorem pair_at {α β : Type} {F : α → β → Prop} : ∀ {l : List α} {m : List β} {j : Nat} {y : β}, Paired F l m → m[j]? = some y → ∃ x, l[j]? = some x ∧ F x y
  | _, _, _, _, .nil, h => by simp at h
  | x :: _, _ :: _, 0, _, .cons f _, h => by
    have := Option.some.inj h
    subst this
    exact ⟨x, rfl, f⟩
  | _ :: _, _ :: _, j + 1, _, .cons _ t, h => pair_at (j := j) t h
section
variable {X : Cx} {pins : List (Addr × Obj)} {σ : L2.St} {H : Hp} {s : Shared} {d : Addr} {es : List Ent} {ents : Array DictEntry} {xs : List (List L2.Key × Addr × Value)} {lo : Addr} {h' : Heap} {as : List Addr}
/-- what the made pairs hold -/
theorem made_at (rel : KT H (es.map entP) xs) (hes : ents.toList = xs.map (entryOfKey (tupleKind (mixKind X.prog X.w)))) (G : DT.Made ents lo h' as) {j : Nat} {t : Addr} (ht : as[j]? = some t) :
    ∃ (e : Ent) (q : Addr) (k : Tok), es[j]? = some e ∧ H q = some (.tup [.int e.1.1, .int e.1.2]) ∧ h'.get? t = some { cls := .type "tuple", data := .seq #[Value.ref q, Value.int e.2 k] } := by
  obtain ⟨en, hen, got⟩ := G.pairs j t ht
  rw [← Array.getElem?_toList, hes, List.getElem?_map] at hen
  cases hx : xs[j]? with
  | none =>
    rw [hx] at hen
    cases hen
  | some x =>
    rw [hx] at hen
    have e1 : entryOfKey (tupleKind (mixKind X.prog X.w)) x = en := Option.some.inj hen
    obtain ⟨kv, hkv, r1, r2, r3⟩ := pair_at rel hx
    rw [List.getElem?_map] at hkv
    cases he : es[j]? with
    | none =>
      rw [he] at hkv
      cases hkv
    | some e =>
      rw [he] at hkv
      have e2 : entP e = kv := Option.some.inj hkv
      subst e2
      obtain ⟨k, ek⟩ := (show ∃ k, x.2.2 = Value.int e.2 k from r3)
      refine ⟨e, x.2.1, k, rfl, r2, ?_⟩
      rw [got, ← e1, ← ek]
      rfl
/-- the new list and the made pairs are tracked -/
theorem items_track {hF : Heap} {tk : Nat} {l : Addr} {c : Nat} {zs : List Addr} (I : L2.Inv X pins σ H s) (kS : ∀ b o, s.heap.get? b = some o → hF.get? b = some o) (hl : s.heap.objs.size ≤ l) (nl : l ∉ as) (nd : as.Nodup) (ab : ∀ t ∈ as, s.heap.objs.size ≤ t)
    (at_ : ∀ (j : Nat) (t : Addr), as[j]? = some t → ∃ (e : Ent) (q : Addr) (k : Tok), es[j]? = some e ∧ H q = some (.tup [.int e.1.1, .int e.1.2]) ∧ hF.get? t = some { cls := .type "tuple", data := .seq #[Value.ref q, Value.int e.2 k] })
    (small : zs.length ≤ sizeLine) (hL : hF.get? l = some { cls := .type "list", data := .seq (zs.map Value.ref).toArray c }) :
    ∃ H' : Hp, L2.Inv X pins σ H' { s with heap := hF, toks := tk } ∧ Ex H H' ∧ H l = none ∧ H' l = some (.lst (zs.map V.ref)) ∧ ∀ (j : Nat) (t : Addr) (e : Ent), as[j]? = some t → es[j]? = some e → TD H' (.ref t) (itemD e) := by
  have I1 : L2.Inv X pins σ H { s with heap := hF, toks := tk } := I.kept (t' := tk) kS
  have free : H l = none := I.hok.fresh hl
  have I2 : L2.Inv X pins σ (upd H l (.lst (zs.map V.ref))) { s with heap := hF, toks := tk } :=
    I1.take (h' := hF) (t' := tk) (fun b ob _ e => e) (I.fpOk hl free) ⟨by rw [List.length_map]; exact small, zs.map Value.ref, c, L2.vals_refs zs, hL⟩
  obtain ⟨H2, I3, up, made⟩ := DX.takeT (P := fun t vs => ∃ (j : Nat) (e : Ent) (q : Addr), as[j]? = some t ∧ es[j]? = some e ∧ vs = [.ref q, .int e.2] ∧ H q = some (.tup [.int e.1.1, .int e.1.2])) I as _ I2 nd fun t mt => by
    obtain ⟨j, hj⟩ := List.mem_iff_getElem?.mp mt
    obtain ⟨e, q, k, he, hq, got⟩ := at_ j t hj
    refine ⟨ab t mt, ?_, [.ref q, .int e.2], ⟨j, e, q, hj, he, rfl, hq⟩, fun H3 => ⟨by rw [sizeLine_eq]; show 2 ≤ 16777216; decide, [Value.ref q, Value.int e.2 k], .cons rfl (.cons ⟨k, rfl⟩ .nil), ⟨_, got, rfl, 0, rfl⟩⟩⟩
    rw [upd_ne (fun z => nl (by rw [← z]; exact mt))]
    exact I.hok.fresh (ab t mt)
  have ex : Ex H H2 := fun b o e => up b o (by rw [upd_ne (ne_of_none e free)]; exact e)
  refine ⟨H2, I3, ex, free, up _ _ upd_same, fun j t e hj he => ?_⟩
  obtain ⟨vs, ⟨i, e2, q, hi, he2, rfl, hq⟩, ht⟩ := made t (List.mem_of_getElem? hj)
  have ij : j = i := (List.getElem?_inj (List.getElem?_eq_some_iff.mp hj).1 nd).mp (hj.trans hi.symm)
  subst ij
  have ee : e2 = e := Option.some.inj (he2.symm.trans he)
  subst ee
  exact .tup ht (.cons (.tup (ex _ _ hq) (.cons (.int _) (.cons (.int _) .nil))) (.cons (.int _) .nil))
end
end Bs

namespace Bs
open PySem PySem.Spec PyProof.Rows L2
open Evl (Ex)
/-! ### sorted(d.items()), keys pairs of ints -/
/-- a made pair in a heap -/
def EntIn (h : Heap) (v : Value) (e : Ent) : Prop := ∃ (t q : Addr) (k k1 k2 : Tok), v = .ref t ∧ IsTup h t #[.ref q, .int e.2 k] ∧ IsTup h q #[.int e.1.1 k1, .int e.1.2 k2]
theorem EntIn.keeps {h h' : Heap} {v : Value} {e : Ent} (x : EntIn h v e) (kp : ∀ b o, h.get? b = some o → o.cls = .type "tuple" → h'.get? b = some o) : EntIn h' v e := by
  obtain ⟨t, q, k, k1, k2, ev, ⟨o, a1, a2, a3⟩, ⟨o', b1, b2, b3⟩⟩ := x
  exact ⟨t, q, k, k1, k2, ev, ⟨o, kp _ _ a1 a2, a2, a3⟩, ⟨o', kp _ _ b1 b2, b2, b3⟩⟩
section
variable {prog : Program} {w : World} {A : Around} {E : Value → Shared → Prop} {s : Shared}
theorem ent_firsts {h : Heap} {f : Value → Ent} : ∀ vs : List Value, (∀ v ∈ vs, EntIn h v (f v)) → ∃ fs : List Value, PySem.W.KatTups h vs fs ∧ fs.length = vs.length ∧ ∀ u ∈ fs, ∃ (q : Addr) (o : Obj), u = Value.ref q ∧ h.get? q = some o ∧ o.cls = .type "tuple"
  | [], _ => ⟨[], PySem.W.KatTups.nil, rfl, fun _ m => nomatch m⟩
  | v :: vs, x => by
    obtain ⟨fs, k, hl, hi⟩ := ent_firsts vs fun u m => x u (List.mem_cons_of_mem _ m)
    obtain ⟨t, q, _, _, _, ev, ⟨o, a1, a2, n, a3⟩, ⟨o', b1, b2, _⟩⟩ := x v List.mem_cons_self
    subst ev
    refine ⟨.ref q :: fs, PySem.W.KatTups.cons a1 a2 a3 rfl k, by rw [List.length_cons, List.length_cons, hl], fun u m => ?_⟩
    rcases List.mem_cons.mp m with z | z
    · exact ⟨q, o', z, b1, b2⟩
    · exact hi u z
theorem lt_pair {l b : Addr} {x y x' y' : Int} {t1 t2 t3 t4 : Tok} {Q : Value → Shared → Prop} (hl : IsTup s.heap l #[.int x t1, .int y t2]) (hb : IsTup s.heap b #[.int x' t3, .int y' t4]) (hu : A.units < cLine)
    (h : Q (.bool (SrtO.lexB (x, y) (x', y'))) s) : wpAny (model prog w) A (compareOp .Lt (.ref l) (.ref b)) Q E s := by
  obtain ⟨⟨cls, dd, data, sl⟩, a1, a2, n, a3⟩ := id hl
  obtain ⟨⟨cls', dd', data', sl'⟩, b1, b2, n', b3⟩ := id hb
  simp only at a2 a3 b2 b3
  subst a2 a3 b2 b3
  have e : HT.lexLt [x, y] [x', y'] = SrtO.lexB (x, y) (x', y') := by
    show (if x = x' then (if y = y' then false else decide (y < y')) else decide (x < x')) = (if x = x' then decide (y < y') else decide (x < x'))
    by_cases c : x = x'
    · rw [if_pos c, if_pos c]
      by_cases c' : y = y'
      · rw [if_pos c', c']
        exact (decide_eq_false (Int.lt_irrefl _)).symm
      · rw [if_neg c']
    · rw [if_neg c, if_neg c]
  rw [← e] at h
  exact richCompare_meets_room (op := .Lt) ⟨_, a1, rfl⟩ ⟨_, b1, rfl⟩ PySem.F.slot_tuple_lt PySem.F.entry_tuple_lt (PySem.F.args_tuple_lt_2 _ _) (HT.tuple_lt_ints l b _ _ n n' dd dd' sl sl' [x, y] [x', y'] (.cons x t1 (.cons y t2 .nil)) (.cons x' t3 (.cons y' t4 .nil)))
    ⟨a1, b1, show Value.bool (HT.lexLt [x, y] [x', y']) ≠ Value.notImplemented ∧ Q (.bool (HT.lexLt [x, y] [x', y'])) s from ⟨(fun z => nomatch z), h⟩⟩ hu
/-- the sort's question -/
theorem ent_sortable {a : Addr} {vs : List Value} {f : Value → Ent} (hu : A.units < cLine) (h0 : 0 < vs.length) (x : ∀ v ∈ vs, EntIn s.heap v (f v)) (one : ∀ v ∈ vs, ∀ u ∈ vs, (f v).1 = (f u).1 → f v = f u) (ha : ∀ o, s.heap.get? a = some o → o.cls ≠ .type "tuple") :
    SrtO.SortableO prog w A s a vs fun v u => SrtO.lexB (f v).1 (f u).1 := by
  intro h' keep
  have x' : ∀ v ∈ vs, EntIn h' v (f v) := fun v m => (x v m).keeps fun b o e c => keep b o (fun z => by subst z; exact ha o e c) e
  obtain ⟨fs, k, hl, hi⟩ := ent_firsts vs x'
  refine ⟨tuples' false, fun Q E' hq => ?_, ?_⟩
  · refine PySem.W.kat_kind (T := Value.type "tuple") k (by omega) (fun u m => ?_) rfl ?_
    · obtain ⟨q, o, rfl, ho, hc⟩ := hi u m
      have z : PySem.W.Looks (model prog w) h' (typeOf (.ref q)) o.cls := (PySem.W.Looks.ld ho).andThen .now
      rw [hc] at z
      exact z
    · have hb : (Value.type "tuple" != Value.type "tuple") = false := by first | rfl | decide | simp
      rw [hb]
      exact hq
  · intro p q mp mq
    have h1 := x' _ mp
    have h2 := x' _ mq
    have h3 := one _ mp _ mq
    show wpAny (model prog w) A (keyLt' (tuples' false) p.1 q.1) (fun r s' => s' = { s with heap := h' } ∧ r = SrtO.lexB (f p.1).1 (f q.1).1) (fun _ _ => False) { s with heap := h' }
    generalize f p.1 = e at h1 h3 ⊢
    generalize f q.1 = e' at h2 h3 ⊢
    obtain ⟨t, kq, k, k1, k2, ev, ⟨o, a1, a2, n, a3⟩, g1⟩ := h1
    obtain ⟨t', kq', k', k1', k2', ev', ⟨o', b1, b2, n', b3⟩, g2⟩ := h2
    rw [ev, ev']
    refine PySem.W.kat_lt a1 a3 b1 b3 ?_
    show PySem.W.KatLex prog w A false false _ [(Value.ref kq, Value.ref kq'), (Value.int e.2 k, Value.int e'.2 k')] 0 { s with heap := h' }
    have t1 : IsTupleKey (L2.mixKind prog w) h' [Sum.inl e.1.1, Sum.inl e.1.2] kq := by
      obtain ⟨ok, c1, c2, nk, c3⟩ := g1
      exact ⟨ok, _, nk, c1, c2, c3, .cons (L2.mixKind_int prog w _ _) (.cons (L2.mixKind_int prog w _ _) .nil)⟩
    have t2 : IsTupleKey (L2.mixKind prog w) h' [Sum.inl e'.1.1, Sum.inl e'.1.2] kq' := by
      obtain ⟨ok, c1, c2, nk, c3⟩ := g2
      exact ⟨ok, _, nk, c1, c2, c3, .cons (L2.mixKind_int prog w _ _) (.cons (L2.mixKind_int prog w _ _) .nil)⟩
    by_cases c : e.1 = e'.1
    · have ee := h3 c
      subst ee
      have irr : SrtO.lexB e.1 e.1 = false := SrtO.lexB_no.mpr (by omega)
      rw [irr]
      refine PySem.W.kat_cons (wpAny_eqBool_tuple hu t1 t2 ?_)
      refine PySem.W.kat_go (fun _ => ?_) (fun e0 => absurd rfl (of_decide_eq_false e0))
      refine PySem.W.kat_yes (PySem.W.kat_cons (SeqAt.EqAt.int_int e.2 k e.2 k' prog w _ _ ?_))
      refine PySem.W.kat_go (fun _ => ?_) (fun e0 => absurd e0 (by simp))
      exact PySem.W.kat_yes (PySem.W.kat_nil ⟨rfl, rfl⟩)
    · refine PySem.W.kat_cons (wpAny_eqBool_tuple hu t1 t2 ?_)
      refine PySem.W.kat_go (fun e0 => ?_) (fun _ => ?_)
      · refine absurd ?_ c
        have z0 := of_decide_eq_true e0
        injection z0 with z1 z2
        injection z2 with z2 _
        injection z1 with z1
        injection z2 with z2
        exact Prod.ext z1 z2
      · exact PySem.W.kat_no (PySem.W.kat_one _ _ (lt_pair g1 g2 hu ⟨rfl, rfl⟩))
end
end Bs

namespace Bs
open PySem PySem.Spec PyProof.Rows L2
open Evl (Ex)
theorem kt_keys {H : Hp} : ∀ {kvs : List (List L2.Key × V)} {xs : List (List L2.Key × Addr × Value)}, KT H kvs xs → kvs.map (·.1) = xs.map (·.1)
  | _, _, .nil => rfl
  | _, _, .cons h t => by
    rw [List.map_cons, List.map_cons, kt_keys t, h.1]
def entOf (as : List Addr) (es : List Ent) : Value → Ent
  | .ref t => ((as.zip es).lookup t).getD ((0, 0), 0)
  | _ => ((0, 0), 0)
theorem entOf_at : ∀ {as : List Addr} {es : List Ent} {j : Nat} {t : Addr} {e : Ent}, as.Nodup → as[j]? = some t → es[j]? = some e → entOf as es (.ref t) = e
  | [], _, _, _, _, _, h, _ => by simp at h
  | _ :: _, [], _, _, _, _, _, h => by simp at h
  | a :: as, e0 :: es, 0, t, e, _, h1, h2 => by
    have x1 : a = t := Option.some.inj h1
    have x2 : e0 = e := Option.some.inj h2
    subst x1 x2
    show (((a, e0) :: as.zip es).lookup a).getD _ = _
    rw [List.lookup_cons_self]
    rfl
  | a :: as, e0 :: es, j + 1, t, e, nd, h1, h2 => by
    have ih := entOf_at (as := as) (es := es) (j := j) (t := t) (e := e) (List.nodup_cons.mp nd).2 h1 h2
    have ne : ¬ t = a := fun z => (List.nodup_cons.mp nd).1 (by rw [← z]; exact List.mem_of_getElem? (show as[j]? = some t from h1))
    show (((a, e0) :: as.zip es).lookup t).getD _ = _
    rw [List.lookup_cons, show (t == a) = false from by simpa using ne]
    exact ih
theorem ent_one {es : List Ent} (nd : (es.map fun e => kP e.1).Nodup) {i j : Nat} {e f : Ent} (hi : es[i]? = some e) (hj : es[j]? = some f) (k : e.1 = f.1) : e = f := by
  have p := List.pairwise_iff_getElem.mp nd
  obtain ⟨i1, i2⟩ := List.getElem?_eq_some_iff.mp hi
  obtain ⟨j1, j2⟩ := List.getElem?_eq_some_iff.mp hj
  subst i2 j2
  rcases Nat.lt_trichotomy i j with c | c | c
  · have := p i j (by simpa using i1) (by simpa using j1) c
    rw [List.getElem_map, List.getElem_map, k] at this
    exact absurd rfl this
  · subst c
    rfl
  · have := p j i (by simpa using j1) (by simpa using i1) c
    rw [List.getElem_map, List.getElem_map, k] at this
    exact absurd rfl this
/-- refs to data, by their places -/
theorem tds_of {H : Hp} {β : Type} {D : β → PyData} : ∀ {ts : List Addr} {es : List β}, ts.length = es.length → (∀ (j : Nat) (t : Addr) (e : β), ts[j]? = some t → es[j]? = some e → TD H (.ref t) (D e)) → TDs H (ts.map V.ref) (es.map D)
  | [], [], _, _ => .nil
  | [], _ :: _, h, _ => nomatch h
  | _ :: _, [], h, _ => nomatch h
  | t :: ts, e :: es, h, r => .cons (r 0 t e rfl rfl) (tds_of (Nat.succ.inj h) fun j u f h1 h2 => r (j + 1) u f h1 h2)
def rSortItP : List V → Hp → VK → Prop := fun vs H Q => ∃ (p d : Addr) (es : List Ent), vs = [.ref p] ∧ H p = some (DX.itemsO p d) ∧ H d = some (.dT (es.map entP)) ∧
  ∀ (H' : Hp) (l : Addr) (ts : List Addr) (es' : List Ent), es'.Perm es → es'.Pairwise (fun e f => SrtO.lexB f.1 e.1 = false) → Ex H H' → H l = none → H' l = some (.lst (ts.map V.ref)) → TDs H' (ts.map V.ref) (es'.map itemD) → Q (.ref l) H'
theorem cr_sortItP {X : Cx} (hc : X.calm = true) (hu : X.A.units + 64 < cLine) : CallR X (.builtin "sorted") rSortItP := by
  intro pins s σ H vs us Q I r h
  obtain ⟨p, d, es, rfl, hp, hd, q⟩ := h
  rw [Vals.ref1 r]
  have view : s.heap.IsItemsView p d := (show ObjOk X.prog X.w H s.heap p (DX.itemsO p d) from I.hok p _ hp).1
  obtain ⟨z, ns, xs, rel, o, ents, ep, ho, hx, hdat, hes, his, nd0⟩ := dt_of I.hok hd
  have l1 : (es.map entP).length = xs.length := Paired.length rel
  rw [List.length_map] at l1 z
  have l2 : ents.size = xs.length := size_of_entries hes
  have ndk : (es.map fun e => kP e.1).Nodup := by
    rw [← kt_keys rel, List.map_map] at nd0
    exact nd0
  refine DT.sortedI (es := ents) (ep := ep) (I.ok.hd hc) view ⟨o, ho, hx, hdat⟩ (by omega) fun h' tk as hk hlt hl G => ?_
  have la : as.length = es.length := by omega
  have nd : as.Nodup := List.Pairwise.imp (fun c => Nat.ne_of_lt c) G.rise
  have made : ∀ (j : Nat) (t : Addr), as[j]? = some t → _ := fun j t ht => made_at (X := X) rel hes G ht
  have hob : (h'.push { cls := .type "list", data := .seq (as.map Value.ref).toArray }).get? h'.objs.size = some (seqObj "list" (as.map Value.ref).toArray 0) := Heap.get?_push_size _ rfl
  generalize hh2 : h'.push { cls := .type "list", data := .seq (as.map Value.ref).toArray } = h2 at hob ⊢
  have up2 : ∀ b o, h'.get? b = some o → h2.get? b = some o := fun b o e => by rw [← hh2]; exact Heap.get?_push_of_some _ e
  have off : ∀ b o, h'.get? b = some o → b ≠ h'.objs.size := fun b o e => Nat.ne_of_lt (Heap.lt_size e)
  have ix : ∀ v ∈ as.map Value.ref, ∃ (j : Nat) (t : Addr) (e : Ent), v = .ref t ∧ as[j]? = some t ∧ es[j]? = some e ∧ entOf as es v = e := fun v hv => by
    obtain ⟨t, ht, rfl⟩ := List.mem_map.mp hv
    obtain ⟨j, hj⟩ := List.mem_iff_getElem?.mp ht
    obtain ⟨e, _, _, he, _⟩ := made j t hj
    exact ⟨j, t, e, rfl, hj, he, entOf_at nd hj he⟩
  have isIn : ∀ v ∈ as.map Value.ref, EntIn h2 v (entOf as es v) := fun v hv => by
    obtain ⟨j, t, e, rfl, hj, he, ev⟩ := ix v hv
    obtain ⟨e', kq, k, he', hkq, got⟩ := made j t hj
    have ee : e' = e := Option.some.inj (he'.symm.trans he)
    subst ee
    obtain ⟨_, its, rv, ot, a1, a2, nt, a3⟩ := (show ObjOk X.prog X.w H s.heap kq (.tup [.int e'.1.1, .int e'.1.2]) from I.hok kq _ hkq)
    obtain ⟨u1, u2, rfl, ri, rj⟩ := vals2 rv
    obtain ⟨t1, rfl⟩ := ri
    obtain ⟨t2, rfl⟩ := rj
    rw [ev]
    exact ⟨t, kq, k, t1, t2, rfl, ⟨_, up2 _ _ got, rfl, 0, rfl⟩, ⟨ot, up2 _ _ (hk _ _ a1), a2, nt, a3⟩⟩
  refine wpAny_call_entry PyProof.Rows.slot_list_sort ⟨_, hob, rfl⟩ PyProof.Rows.entry_list_sort
    (SrtO.list_sort_ord (s := { s with heap := h2, toks := tk }) (ltv := fun v u => SrtO.lexB (entOf as es v).1 (entOf as es u).1) (SrtO.swo_lex fun v => (entOf as es v).1) hob (by rw [List.length_map]; omega)
      (fun n2 => ent_sortable (by show X.A.units + 1 + 1 < cLine; omega) (by omega) isIn (fun v hv u hu' k => ?_) fun o e => ?_) fun out g1 g2 => ⟨.none, rfl, ?_⟩) (PyProof.Rows.args_list_sort _)
  · obtain ⟨i, t, e, _, hi, he, ev⟩ := ix v hv
    obtain ⟨j, t', f, _, hj, hf, eu⟩ := ix u hu'
    rw [ev, eu] at k ⊢
    exact ent_one ndk he hf k
  · have e' : some o = some (seqObj "list" (as.map Value.ref).toArray 0) := e.symm.trans hob
    cases e'
    intro c
    exact absurd (Value.type.inj c) (by decide)
  · show EP X pins σ Q (.ref h'.objs.size) { s with heap := sortedHeap h2 h'.objs.size (as.map Value.ref) out.toArray, toks := tk }
    obtain ⟨zs, pz, ez⟩ := perm_lift (fun z : Addr × Ent => Value.ref z.1) g2.perm (as.zip es) (by
      rw [show (fun z : Addr × Ent => Value.ref z.1) = Value.ref ∘ Prod.fst from rfl, ← List.map_map, List.map_fst_zip (by omega)])
    have idx : ∀ z ∈ zs, ∃ j : Nat, as[j]? = some z.1 ∧ es[j]? = some z.2 := fun z hz => by
      obtain ⟨j, hj⟩ := List.mem_iff_getElem?.mp (pz.mem_iff.mp hz)
      exact ⟨j, List.getElem?_zip_eq_some.mp hj⟩
    have hout : out = (zs.map (·.1)).map Value.ref := by
      rw [← ez, List.map_map]
      rfl
    have pm : (zs.map (·.2)).Perm es := by
      have e := pz.map (·.2)
      rw [List.map_snd_zip (by omega)] at e
      exact e
    have srt : (zs.map (·.2)).Pairwise (fun e f => SrtO.lexB f.1 e.1 = false) := by
      have g3 : out.Pairwise (fun v u => SrtO.lexB (entOf as es u).1 (entOf as es v).1 = false) := g1
      rw [← ez, List.pairwise_map] at g3
      rw [List.pairwise_map]
      refine List.Pairwise.imp_of_mem (fun {x y} hx hy c => ?_) g3
      obtain ⟨j, j1, j2⟩ := idx x hx
      obtain ⟨i, i1, i2⟩ := idx y hy
      rw [entOf_at nd j1 j2, entOf_at nd i1 i2] at c
      exact c
    have kF : ∀ b o, b ≠ h'.objs.size → h2.get? b = some o → (sortedHeap h2 h'.objs.size (as.map Value.ref) out.toArray).get? b = some o := fun b o hb e => (PyProof.Rows.sortedHeap_old hb (Heap.lt_size e)).trans e
    obtain ⟨c, hL⟩ := PyProof.Rows.sortedHeap_at (vs := as.map Value.ref) (out := out.toArray) hob
    obtain ⟨H', J, ex, free, hl', tds⟩ := items_track (hF := sortedHeap h2 h'.objs.size (as.map Value.ref) out.toArray) (tk := tk) (l := h'.objs.size) (c := c) (zs := zs.map (·.1)) I (fun b o e => kF b o (off _ _ (hk b o e)) (up2 _ _ (hk b o e))) (Nat.le_of_lt hlt)
      (fun m => Nat.lt_irrefl _ (G.there m)) nd (fun t m => Nat.le_of_lt (G.above t m)) (fun j t hj => by
        obtain ⟨e, kq, k, he, hkq, got⟩ := made j t hj
        exact ⟨e, kq, k, he, hkq, kF _ _ (off _ _ got) (up2 _ _ got)⟩) (by
        have := pm.length_eq
        rw [List.length_map] at this ⊢
        omega) (by rw [← hout]; exact hL)
    refine ⟨.ref h'.objs.size, H', J, rfl, q H' h'.objs.size (zs.map (·.1)) (zs.map (·.2)) pm srt ex free hl' (tds_of (by rw [List.length_map, List.length_map]) fun j t e h1 h2 => ?_)⟩
    rw [List.getElem?_map] at h1 h2
    cases hz : zs[j]? with
    | none =>
      rw [hz] at h1
      cases h1
    | some z =>
      rw [hz] at h1 h2
      have x1 : z.1 = t := Option.some.inj h1
      have x2 : z.2 = e := Option.some.inj h2
      subst x1 x2
      obtain ⟨i, i1, i2⟩ := idx z (List.mem_of_getElem? hz)
      exact tds i _ _ i1 i2
end Bs

namespace Bs
open PySem PySem.Spec PyProof.Rows L2
open Evl (Ex)
/-! ### list(d.items()), keys pairs of ints -/
section
open PySem.W PySem.Calls
variable {prog : Program} {w : World} {A : Around} {E : Value → Shared → Prop} {s : Shared} {r d : Addr} {es : Array DictEntry} {ep : Nat}
theorem list_view {Q : Value → Shared → Prop} (calm : A.handled = none) (view : s.heap.IsItemsView r d) (raw : DT.Raw s.heap d es ep) (fits : es.size ≤ sizeLine)
    (next : ∀ h' tk acc c as, (∀ b o, s.heap.get? b = some o → h'.get? b = some o) → h'.get? s.heap.objs.size = some { cls := .type "list", dict := none, data := .seq acc c, slots := #[] } → as.length = es.size → DT.Made es s.heap.objs.size h' as →
      acc.toList = as.map Value.ref → Q (.ref s.heap.objs.size) { s with heap := h', toks := tk }) : wpAny (model prog w) A (call (.type "list") [.ref r]) Q E s := by
  refine callType_codes (Q₁ := fun obj s₁ => obj = .ref s.heap.objs.size ∧ s₁ = { s with heap := s.heap.push { cls := .type "list", data := .seq #[] } }) PySem.F.called_list (PySem.F.typeCall_list_1 _) PySem.F.entry_list_init (code_list_new _ ⟨rfl, rfl⟩) fun obj s₁ two => ?_
  obtain ⟨e1, e2⟩ := two
  subst e1 e2
  have at_ : (s.heap.push { cls := .type "list", data := .seq #[] }).get? s.heap.objs.size = some { cls := .type "list", data := .seq #[] } := Heap.get?_push_size _ rfl
  obtain ⟨ov, hv, rv⟩ := view
  have lr : r < s.heap.objs.size := Heap.lt_size hv
  have ld := raw.lt
  refine ⟨⟨_, at_, rfl⟩, PySem.F.args_list_init_2 _ _, ?_⟩
  show wpAny (model prog w) A.in1.in1 (do let old ← Builtin.List.listItems (.ref s.heap.objs.size); Builtin.List.listUpdate (.ref s.heap.objs.size) (fun _ => #[]); letGo old.toList.reverse; Builtin.List.listExtendWith (.ref s.heap.objs.size) (.ref r) .none) _ _ _
  refine wpAny_bind ?_
  unfold Builtin.List.listItems
  refine wpAny_bind (wpAny_seqItems at_ rfl (wpAny_pure ?_))
  show wpAny _ _ (updateSeq s.heap.objs.size (fun _ => #[]) >>= fun _ => letGo (#[] : Array Value).toList.reverse >>= fun _ => Builtin.List.listExtendWith (.ref s.heap.objs.size) (.ref r) .none) _ _ _
  refine wpAny_bind (wpAny_updateSeq at_ rfl ?_)
  have at2 := Heap.get?_update_self (Obj.mapSeq (fun _ => (#[] : Array Value))) at_ rfl
  obtain ⟨c0, at3⟩ : ∃ c0, ((s.heap.push { cls := .type "list", data := .seq #[] }).update s.heap.objs.size (Obj.mapSeq (fun _ => (#[] : Array Value)))).get? s.heap.objs.size = some { cls := .type "list", data := .seq #[] c0 } := ⟨_, at2⟩
  have other : ∀ b o, b ≠ s.heap.objs.size → (s.heap.push { cls := .type "list", data := .seq #[] }).get? b = some o → ((s.heap.push { cls := .type "list", data := .seq #[] }).update s.heap.objs.size (Obj.mapSeq (fun _ => (#[] : Array Value)))).get? b = some o :=
    fun b o hb e => (Heap.get?_update_other _ _ (Ne.symm hb)).trans e
  have low : ∀ b o, s.heap.get? b = some o → ((s.heap.push { cls := .type "list", data := .seq #[] }).update s.heap.objs.size (Obj.mapSeq (fun _ => (#[] : Array Value)))).get? b = some o :=
    fun b o e => other b o (Nat.ne_of_lt (Heap.lt_size e)) (Heap.get?_push_of_some _ e)
  refine wpAny_bind (wpAny_letGo ?_)
  refine DT.extI (s := { s with heap := (s.heap.push { cls := .type "list", data := .seq #[] }).update s.heap.objs.size (Obj.mapSeq (fun _ => (#[] : Array Value))) }) (A := A.in1) (es := es) (ep := ep) (show A.in1.handled = none from calm) ⟨ov, low _ _ hv, rv⟩ (raw.at' fun o e => low d o e) s.heap.objs.size (Nat.ne_of_gt lr) (Nat.ne_of_lt ld) (.none) c0 at3 (fun h' tk acc c as up got len made eq => ?_) fits
  exact ⟨rfl, next h' tk acc c as (fun b o e => up b o (Nat.ne_of_lt (Heap.lt_size e)) (low b o e)) got len (made.low (Nat.le_of_lt (Heap.lt_size at2))) eq⟩
end
def rListItP : List V → Hp → VK → Prop := fun vs H Q => ∃ (p d : Addr) (es : List Ent), vs = [.ref p] ∧ H p = some (DX.itemsO p d) ∧ H d = some (.dT (es.map entP)) ∧
  ∀ (H' : Hp) (l : Addr) (ts : List Addr), Ex H H' → H l = none → H' l = some (.lst (ts.map V.ref)) → TDs H' (ts.map V.ref) (es.map itemD) → Q (.ref l) H'
theorem cr_listItP {X : Cx} (hc : X.calm = true) : CallR X (.type "list") rListItP := by
  intro pins s σ H vs us Q I r h
  obtain ⟨p, d, es, rfl, hp, hd, q⟩ := h
  rw [Vals.ref1 r]
  have view : s.heap.IsItemsView p d := (show ObjOk X.prog X.w H s.heap p (DX.itemsO p d) from I.hok p _ hp).1
  obtain ⟨z, ns, xs, rel, o, ents, ep, ho, hx, hdat, hes, his, nd0⟩ := dt_of I.hok hd
  have l1 : (es.map entP).length = xs.length := Paired.length rel
  rw [List.length_map] at l1 z
  have l2 : ents.size = xs.length := size_of_entries hes
  refine list_view (es := ents) (ep := ep) (I.ok.hd hc) view ⟨o, ho, hx, hdat⟩ (by omega) fun h' tk acc c as hk hL hl G ea => ?_
  have nd : as.Nodup := List.Pairwise.imp (fun c => Nat.ne_of_lt c) G.rise
  obtain ⟨H', J, ex, free, hl', tds⟩ := items_track (hF := h') (tk := tk) (l := s.heap.objs.size) (c := c) (zs := as) I hk (Nat.le_refl _) (fun m => Nat.lt_irrefl _ (G.above _ m)) nd (fun t m => Nat.le_of_lt (G.above t m))
    (fun j t hj => made_at (X := X) rel hes G hj) (by omega) (by
      have : acc = (as.map Value.ref).toArray := by rw [← ea, Array.toArray_toList]
      rw [hL, this])
  exact ⟨.ref _, H', J, rfl, q H' _ as ex free hl' (tds_of (by omega) tds)⟩
/-! ### d.clear() -/
def rClearT : V → List V → Hp → VK → Prop := fun x xs H Q => ∃ (d : Addr) (kvs : List (List L2.Key × V)), x = .ref d ∧ xs = [] ∧ H d = some (.dT kvs) ∧ Q .non (upd H d (.dT []))
theorem mt_clearT {X : Cx} : MtR X "dict.clear" rClearT := by
  intro pins s σ H x xs v us Q I rx rxs h
  obtain ⟨d, kvs, rfl, rfl, hd, q⟩ := h
  cases rx
  cases rxs
  obtain ⟨z, ns, ents, rel, o, es, ep, ho, hx, hdat, hes, his, nd⟩ := dt_of I.hok hd
  have l1 := Paired.length rel
  have l2 : es.size = ents.length := size_of_entries hes
  refine call_meetsIn PySem.F.slot_dict_clear ⟨o, ho, hx.1⟩ PySem.F.entry_dict_clear (PySem.F.args_dict_clear_1 _) (PySem.meets_dict_clear_raw d) ⟨es, ep, ⟨o, ho, hx, hdat⟩, by omega, fun h2 raw same => ?_⟩
  obtain ⟨o2, ho2, hx2, hdat2⟩ := raw
  exact ⟨.non, _, d_write (t' := s.toks) (ob := .dT []) I (by rw [hd]; trivial) same ⟨o2, ho2⟩ ⟨Nat.zero_le _, ns, [], .nil, o2, #[], ep + 1, ho2, hx2, hdat2, rfl, List.nodup_nil⟩, rfl, q⟩
end Bs

namespace Bs
open PySem PySem.Spec PyProof.Rows L2
open Evl (Ex)
/-! ### for .., .. in d.items(), keys pairs of ints, d locked -/
def Itp (d : Addr) (o : Obj) (es : List Ent) : It :=
  { go := fun i H => H d = some (.frz o (.dT (es.map entP))) ∧ i < es.length
    yld := fun i H x H' => ∃ (a : Addr) (e : Ent) (q : Addr), es[i]? = some e ∧ x = .ref a ∧ H a = none ∧ H q = some (.tup [.int e.1.1, .int e.1.2]) ∧ H' = upd H a (.tup [.ref q, .int e.2])
    stop := fun i H => H d = some (.frz o (.dT (es.map entP))) ∧ es.length ≤ i }
section
variable {X : Cx} {pins : List (Addr × Obj)} {σ : L2.St} {H : Hp} {s : Shared} {d : Addr} {o : Obj} {es : List Ent}
theorem frz_items (I : L2.Inv X pins σ H s) (h : H d = some (.frz o (.dT (es.map entP)))) :
    (d == sysModules) = false ∧ ∃ (ents : Array DictEntry) (ep : Nat), DT.Raw s.heap d ents ep ∧ o.data = .dict ents ep ∧ ents.size = es.length ∧ ents.size ≤ sizeLine ∧
      ∀ (i : Nat) (e : Ent), es[i]? = some e → ∃ (en : DictEntry) (q : Addr) (k : Tok), ents[i]? = some en ∧ en.key = .ref q ∧ en.val = .int e.2 k ∧ H q = some (.tup [.int e.1.1, .int e.1.2]) := by
  obtain ⟨at_, z, ns, xs, rel, o', ents, ep, ho, hx, hdat, hes, _⟩ := I.hok d _ h
  have oo : o = o' := Option.some.inj (at_.symm.trans ho)
  subst oo
  have l1 : (es.map entP).length = xs.length := Paired.length rel
  rw [List.length_map] at l1 z
  have l2 : ents.size = xs.length := size_of_entries hes
  refine ⟨ns, ents, ep, ⟨o, ho, hx, hdat⟩, hdat, by omega, by omega, fun i e he => ?_⟩
  have lt : i < xs.length := by
    have := (List.getElem?_eq_some_iff.mp he).1
    omega
  have hxi : xs[i]? = some xs[i] := List.getElem?_eq_getElem lt
  obtain ⟨kv, hkv, r1, r2, r3⟩ := pair_at rel hxi
  rw [List.getElem?_map, he] at hkv
  have ek : entP e = kv := Option.some.inj hkv
  subst ek
  obtain ⟨k, hk⟩ := (show ∃ k, xs[i].2.2 = Value.int e.2 k from r3)
  refine ⟨entryOfKey (tupleKind (mixKind X.prog X.w)) xs[i], xs[i].2.1, k, ?_, rfl, hk, r2⟩
  rw [entry_at hes i, hxi]
  rfl
end
theorem turn_itp {P : Program} {w : World} {K : PySem.W.Frag} {d : Addr} {o : Obj} {es : List Ent} {ents : Array DictEntry} {ep : Nat} {elts : List Expr} {kk : Nat} {tpos : Pos} (it : Addr) (dat : o.data = .dict ents ep) :
    Turn P w K (.Tuple elts kk tpos) (Itp d o es) [it] it (fun i h => ∃ ok ov, IsItemIter h it d i ents.size ep ok ov) where
  mem := by simp
  obj := fun i h st b hb => by
    obtain ⟨ok, ov, e⟩ := st
    rw [List.mem_singleton.mp hb]
    exact ⟨_, e, fun v z => nomatch z⟩
  keep := fun i h h' st k => st.elim fun ok z => z.elim fun ov e => ⟨ok, ov, k it (List.mem_singleton.mpr rfl) _ e⟩
  item := by
    intro X hP hw hK hc i pins s σ H E I hf st hg
    subst hP hw hK
    obtain ⟨hd, hi⟩ := hg
    obtain ⟨ns, ents', ep', raw, dat', size, _, ent⟩ := frz_items I hd
    obtain ⟨e1, e2⟩ := dict_ep dat dat'
    subst e1 e2
    obtain ⟨e, he⟩ : ∃ e, es[i]? = some e := ⟨_, List.getElem?_eq_getElem hi⟩
    obtain ⟨en, q, k, hen, hkey, hval, hq⟩ := ent i e he
    obtain ⟨ok, ov, hit⟩ := st
    have lt : it < s.heap.objs.size := Heap.lt_size hit
    have li : i < ents'.size := by omega
    have ei : ents'[i] = en := by
      rw [Array.getElem?_eq_getElem li] at hen
      exact Option.some.inj hen
    refine DT.nextI hit raw li fun h' out at_ sz kept => ?_
    rw [ei, hkey, hval] at at_
    refine ⟨_, rfl, wpAny_letOwnedTupleGo_items (s := { s with heap := h' }) out fun h2 again same => ?_⟩
    have at2 : h2.get? s.heap.objs.size = some { cls := .type "tuple", data := .seq #[Value.ref q, Value.int e.2 k] } := (same.2 _ (Nat.ne_of_gt lt)).trans at_
    have new : ObjOk X.prog X.w (upd H s.heap.objs.size (.tup [.ref q, .int e.2])) h2 s.heap.objs.size (.tup [.ref q, .int e.2]) :=
      ⟨by show 2 ≤ sizeLine; decide, [Value.ref q, Value.int e.2 k], .cons rfl (.cons ⟨k, rfl⟩ .nil), ⟨_, at2, rfl, _, rfl⟩⟩
    have J : L2.Inv X pins σ (upd H s.heap.objs.size (.tup [.ref q, .int e.2])) { s with heap := h2 } :=
      I.turnedNew (t' := s.toks) (ch := [it]) (fun b ob hb e => (same.2 b (by simpa using hb)).trans (kept b ob (by simpa using hb) e)) hf (Nat.le_refl _) new
    refine ⟨.ref s.heap.objs.size, _, J, rfl, ⟨_, e, q, he, rfl, I.hok.fresh (Nat.le_refl _), hq, rfl⟩, ⟨_, _, again⟩, fun b hb => ?_⟩
    rw [List.mem_singleton.mp hb, upd_ne (Nat.ne_of_lt lt)]
    exact (hf it (List.mem_singleton.mpr rfl)).1
  done := by
    intro X hP hw hK hc i pins s σ H E I hf st hg
    subst hP hw hK
    obtain ⟨hd, hi⟩ := hg
    obtain ⟨f0, f1, f2, f3, f4, f5⟩ := hf it (List.mem_singleton.mpr rfl)
    obtain ⟨ns, ents', ep', raw, dat', size, _, ent⟩ := frz_items I hd
    obtain ⟨e1, e2⟩ := dict_ep dat dat'
    subst e1 e2
    obtain ⟨ok, ov, hit⟩ := st
    exact DT.endI (I.ok.hd hc) hit raw (by omega) fun h' eb => ⟨rfl, I.turned (t' := s.toks) (fun b ob hb e => eb b ob hb e) f0 f1 f3 f4 f5⟩
  self := fun A i s Q E st h => st.elim fun _ z => z.elim fun _ e => PySem.W.kcp_self e h
def iItp (td : TE) : TI := fun σ H R => td σ H fun x H1 => ∃ d o es, x = .ref d ∧ H1 d = some (.frz o (.dT (es.map entP))) ∧ R (Itp d o es) H1
theorem pi_itp {X : Cx} {e : Expr} {td : TE} {apos cpos : Pos} {elts : List Expr} {kk : Nat} {tpos : Pos} (he : PE X e td) (hbase : attributeBase e "items" X.env (eval e X.env) = eval e X.env := by rfl) (hline : (apos.endLine == cpos.line) = true := by rfl) :
    PI X (.Tuple elts kk tpos) (.Call (.Attribute e "items" apos) [] [] cpos) (iItp td) := by
  refine ⟨fun pins s σ H R I h => ?_⟩
  refine wpAny_Call_method (T := "dict") (id := "dict.items") hbase rfl hline F.plainAttrs_dict F.slot_dict_items F.type_dict_items (thn (he.run pins s σ H _ I h) fun u s1 ⟨x, H1, J, rx, d, o, es, ex, hd, q⟩ => ?_)
  subst ex
  obtain rfl : u = Value.ref d := rx
  obtain ⟨ns, ents, ep, raw, dat, size, fits, ent⟩ := frz_items J hd
  obtain ⟨o', ho, hx, _⟩ := id raw
  refine ⟨⟨o', ho, hx.1⟩, (fun b z => by
    cases z
    exact ⟨o', ho, hx.2.1⟩), ?_⟩
  have J2 : L2.Inv X pins σ H1 { s1 with heap := s1.heap.push { cls := .type "dict_items", data := .fields #[.ref d] } } := J.kept (t' := s1.toks) fun b ob q => Heap.get?_push_of_some _ q
  have fin : wpAny (model X.prog X.w) X.A (pyIter (.ref s1.heap.objs.size)) (PIE X pins σ (.Tuple elts kk tpos) R) X.xe { s1 with heap := s1.heap.push { cls := .type "dict_items", data := .fields #[.ref d] } } := by
    refine DT.iterI (d := d) ⟨_, Heap.get?_push_size _ rfl, rfl, rfl⟩ (raw.push _) (pi_one (tk := s1.toks) J2 _ (turn_itp _ dat) ⟨.none, .none, Heap.get?_push_size _ rfl⟩ q)
  show wpAny _ _ (callWith cpos (.builtin "dict.items") [.ref d] [] []) _ X.xe s1
  exact method_meetsIn F.slot_dict_items F.entry_dict_items rfl (PySem.evalArgs_none ⟨rfl, ⟨o', ho, hx.1⟩, F.args_dict_items_1 _, _, DT.meetsItems (es := ents) (ep := ep) ns, ⟨raw, fin⟩⟩)
end Bs

namespace Bs
open PySem PySem.Spec PyProof.Rows L2
open Evl (Ex)
/-! ### range(n) as a value, list(range(n)) -/
theorem cr_range1 {X : Cx} : CallR X (.type "range") (fun vs H Q => ∃ n, vs = [V.int n] ∧ ∀ p, H p = none → Q (.ref p) (upd H p (.rng 0 n))) := by
  intro pins s σ H vs us Q I r h
  obtain ⟨n, rfl, q⟩ := h
  obtain ⟨u, rfl, ru⟩ := vals1 r
  obtain ⟨t, rfl⟩ := ru
  exact call_range_1 ⟨.ref s.heap.objs.size, upd H s.heap.objs.size (.rng 0 n), I.laid (t' := s.toks + 1 + 1) (fun b o e => Heap.get?_push_of_some _ e) (Nat.le_refl _) ⟨s.toks, t, s.toks + 1, Heap.get?_push_size _ rfl⟩, rfl, q _ (I.hok.fresh (Nat.le_refl _))⟩
def upTo (n : Nat) : List Int := (List.range n).map fun (k : Nat) => (k : Int)
theorem vals_upTo : ∀ (vs : List Value) (a : Nat), (∀ (i : Nat) (v : Value), vs[i]? = some v → ∃ t, v = .int (a + i : Nat) t) → Vals ((List.range' a vs.length).map fun (k : Nat) => V.int (k : Int)) vs
  | [], _, _ => .nil
  | v :: vs, a, h => by
    rw [List.length_cons, List.range'_succ, List.map_cons]
    refine .cons ?_ (vals_upTo vs (a + 1) fun i u e => ?_)
    · obtain ⟨t, e⟩ := h 0 v rfl
      exact ⟨t, e⟩
    · obtain ⟨t, e'⟩ := h (i + 1) u e
      exact ⟨t, by rw [e', show a + (i + 1) = a + 1 + i from by omega]⟩
theorem cr_listRng {X : Cx} (hc : X.calm = true) : CallR X (.type "list") (fun vs H Q => ∃ (r : Addr) (n : Nat), vs = [.ref r] ∧ H r = some (.rng 0 n) ∧ n ≤ 100000 ∧ ∀ p, H p = none → Q (.ref p) (upd H p (.lst ((upTo n).map V.int)))) := by
  intro pins s σ H vs us Q I r h
  obtain ⟨a, n, rfl, ha, hn, q⟩ := h
  rw [Vals.ref1 r]
  obtain ⟨t, u, v, e⟩ := (show ∃ t u v, s.heap.get? a = some { cls := .type "range", data := .fields #[.int 0 t, .int n u, .int 1 v] } from I.hok a _ ha)
  refine call_list_range (n := n) (t := t) (u := u) (v := v) (I.ok.hd hc) e (small_one (by omega) (by omega) (by omega) (by omega)) (by rw [rangeSize_one]; omega) (by omega) fun h' tk acc c up got it => ?_
  have len : acc.toList.length = n := by rw [Array.length_toList]; exact it.1
  have rv : Vals ((upTo n).map V.int) acc.toList := by
    have := vals_upTo acc.toList 0 fun i v e => by
      obtain ⟨t, e'⟩ := it.2 i v (by rw [← Array.getElem?_toList]; exact e)
      exact ⟨t, by rw [e', Int.mul_one]; simp⟩
    rw [len, ← List.range_eq_range'] at this
    unfold upTo
    rw [List.map_map]
    exact this
  refine ⟨.ref _, _, I.laid (t' := tk) (o := .lst ((upTo n).map V.int)) up (Nat.le_refl _) ⟨?_, acc.toList, c, rv, ?_⟩, rfl, q _ (I.hok.fresh (Nat.le_refl _))⟩
  · unfold upTo
    rw [List.length_map, List.length_map, List.length_range, sizeLine_eq]
    omega
  · rw [Array.toArray_toList]
    exact got
/-! ### t[::-1], t a pair -/
section
variable {prog : Program} {w : World} {A : Around} {E : Value → Shared → Prop} {s : Shared}
theorem getItem_pair_back {t sl : Addr} {x y vl vu vs : Value} {Q : Value → Shared → Prop} (ht : IsTup s.heap t #[x, y]) (hs : s.heap.IsSliceOf sl vl vu vs) (pl : IsPart vl none) (pu : IsPart vu none) (ps : IsPart vs (some (-1)))
    (h : Q (.ref s.heap.objs.size) { s with heap := s.heap.push { cls := .type "tuple", data := .seq #[y, x] } }) : wpAny (model prog w) A (getItem (.ref t) (.ref sl)) Q E s := by
  obtain ⟨os, hos, hcs, hds⟩ := id hs
  have hTs : s.TypeIs (.ref sl) "slice" := ⟨os, hos, hcs⟩
  unfold getItem
  try with_reducible refine wpAny_holding ?_
  first | refine wpAny_bind (wpAny_pure ?_) | skip
  refine wpAny_bind (wpAny_sequenceKey ht.typeIs (by decide) ?_)
  refine wpAny_bind (wpAny_callSpecial?_slot (name := Str.ofString "__getitem__") ht.typeIs PyProof.Rows.slot_tuple_getitem
    (wpAny_call_entry PyProof.Rows.slot_tuple_getitem ht.typeIs entry_tuple_getitem ?_ (args_tuple_getitem _ _)))
  show wpAny _ _ (Builtin.Tuple.tupleItemsOf (.ref t) >>= _) _ _ s
  refine wpAny_bind (tupleItemsOf_ ht ?_)
  refine wpAny_bind (wpAny_typeOf hTs ?_)
  rw [if_pos (by decide)]
  refine wpAny_bind ?_
  unfold Builtin.Slice.sliceApplied Builtin.Slice.sliceFields
  refine wpAny_bind (wpAny_bind (wpAny_field hos hds (x := vl) rfl (wpAny_bind (wpAny_field hos hds (x := vu) rfl (wpAny_bind (wpAny_field hos hds (x := vs) rfl (wpAny_pure ?_)))))))
  refine wpAny_bind (HT.slicePart_ ps ?_)
  show wpAny _ _ (if ((-1 : Int) == 0) = true then _ else _) _ _ s
  rw [if_neg (by decide)]
  refine wpAny_bind (HT.slicePart_ pl (wpAny_bind (HT.slicePart_ pu (wpAny_bind (wpAny_pure ?_)))))
  have adj : Builtin.Slice.sliceAdjust none none (-1) ((#[x, y] : Array Value).size : Int) = (1, -1) := by
    show Builtin.Slice.sliceAdjust none none (-1) 2 = (1, -1)
    decide
  show wpAny _ _ (match Builtin.Slice.sliceAdjust none none (-1) ((#[x, y] : Array Value).size : Int) with | (lo, hi) => pure (lo, (-1 : Int), Builtin.Slice.slicePlaces lo hi (-1))) _ _ s
  rw [adj]
  show wpAny _ _ (pure ((1 : Int), (-1 : Int), Builtin.Slice.slicePlaces 1 (-1) (-1))) _ _ s
  have pl2 : Builtin.Slice.slicePlaces 1 (-1) (-1) = 2 := by decide
  rw [pl2]
  refine wpAny_pure ?_
  show wpAny _ _ (if ((1 : Int) == 0 && (-1 : Int) == 1 && (2 : Nat) == (#[x, y] : Array Value).size) = true then _ else _) _ _ s
  rw [if_neg (by simp)]
  have pick : ((List.range 2).filterMap fun (k : Nat) => (#[x, y] : Array Value)[((1 : Int) + (k : Int) * (-1)).toNat]?).toArray = #[y, x] := rfl
  rw [pick]
  have fits : sizeOk (.seq (#[y, x] : Array Value)) := by
    show (#[y, x] : Array Value).size ≤ sizeLine
    rw [sizeLine_eq]
    show 2 ≤ 16777216
    decide
  first
    | exact wpAny_bind (m := Builtin.Tuple.tupleExact _) (wpAny_newObj_type (wpAny_pure ⟨_, rfl, wpAny_pure h⟩) fits)
    | exact wpAny_bind (m := Builtin.Tuple.tupleExact _) (wpAny_newObj_type (wpAny_bind (wpAny_pure (wpAny_pure ⟨_, rfl, wpAny_pure h⟩))) fits)
    | exact wpAny_bind (wpAny_bind (m := Builtin.Tuple.tupleExact _) (wpAny_newObj_type (wpAny_pure (wpAny_pure ⟨_, rfl, wpAny_pure h⟩)) fits))
    | exact wpAny_bind (wpAny_bind (m := Builtin.Tuple.tupleExact _) (wpAny_newObj_type (wpAny_pure ⟨_, rfl, wpAny_pure h⟩) fits))
end
def tRevP (te : TE) : TE := fun σ H Q => te σ H fun x H1 => ∃ (a : Addr) (u v : V), x = .ref a ∧ H1 a = some (.tup [u, v]) ∧ ∀ p, H1 p = none → Q (.ref p) (upd H1 p (.tup [v, u]))
theorem pe_revP {X : Cx} {e : Expr} {te : TE} {k : Nat} {p1 p2 p3 pos : Pos} (he : PE X e te) : PE X (.Subscript e (.Slice none none (some (.UnaryOp .USub (.Constant (.int 1) k p1) p2)) p3) pos) (tRevP te) := by
  refine ⟨fun pins s σ H Q I h => ?_⟩
  refine Subscript_ (thn (he.run pins s σ H _ I h) fun v s1 ⟨x, H1, I1, r1, a, y1, y2, ex, hx, q⟩ => ?_)
  subst ex
  cases r1
  have step : PO X (some (.UnaryOp .USub (.Constant (.int 1) k p1) p2)) (tPart (tUn (rU fun i => .int (-i)) (tC (.int 1)))) := po_some (pe_un un_neg pe_int)
  refine wpAny_Slice (thn (po_none.run pins s1 σ H1 (fun o H2 => o = none ∧ H2 = H1) I1 ⟨rfl, rfl⟩) fun vl s2 ⟨l, H2, I2, pl, e1, e2⟩ => ?_)
  subst e1 e2
  refine thn (po_none.run pins s2 σ H2 (fun o H3 => o = none ∧ H3 = H2) I2 ⟨rfl, rfl⟩) fun vu s3 ⟨u, H3, I3, pu, e3, e4⟩ => ?_
  subst e3 e4
  refine thn (step.run pins s3 σ H3 (fun o H4 => o = some (-1) ∧ H4 = H3) I3 ⟨1, rfl, -1, rfl, rfl, rfl⟩) fun vs s4 ⟨o, H4, I4, ps, e5, e6⟩ => ?_
  subst e5 e6
  have I5 : L2.Inv X pins σ H4 { s4 with heap := s4.heap.push { cls := .type "slice", data := .fields #[vl, vu, vs] } } := I4.kept (t' := s4.toks) fun b ob q => Heap.get?_push_of_some _ q
  obtain ⟨z, its, rv, at_⟩ := I5.hok a _ hx
  obtain ⟨v1, v2, rfl, rx, ry⟩ := vals2 rv
  have tp : IsTup (s4.heap.push { cls := .type "slice", data := .fields #[vl, vu, vs] }) a #[v1, v2] := at_
  show wpAny (model X.prog X.w) X.A (subscriptTail e (.Slice none none (some (.UnaryOp .USub (.Constant (.int 1) k p1) p2)) p3) (.ref a) (.ref s4.heap.objs.size)) (EP X pins σ Q) X.xe { s4 with heap := s4.heap.push { cls := .type "slice", data := .fields #[vl, vu, vs] } }
  refine tail_any (ops := [.ref a, .ref s4.heap.objs.size]) (show Shared.TypeIs { s4 with heap := s4.heap.push { cls := .type "slice", data := .fields #[vl, vu, vs] } } (.ref a) "tuple" from tp.typeIs) (PyProof.Rows.slot_tuple_getitem.lookup) ?_ (by with_unfolding_all rfl)
  refine getItem_pair_back tp (Heap.IsSliceOf.new _ vl vu vs) pl pu ps ?_
  refine ⟨.ref _, _, I5.laid (t' := s4.toks) (o := .tup [y2, y1]) (fun b ob q => Heap.get?_push_of_some _ q) (Nat.le_refl _) ⟨z, [v2, v1], .cons ry (.cons rx .nil), IsTup.new _ _⟩, rfl, q _ (I5.hok.fresh (Nat.le_refl _))⟩
end Bs

namespace Bs
open PySem PySem.Spec PyProof.Rows L2
open Evl (Ex)
/-! ### gaps of pairs -/
abbrev PP := Int × Int
def hits (z : Wt) (p : PP) : Bool := decide (z.a = p.1) && decide (z.b = p.2)
/-- the greater one of two -/
def mx (i j : Int) : Int := if j > i then j else i
def gapVal (ws : List Wt) (p : PP) : Int := ws.foldl (fun m z => if hits z p = true then mx z.gap m else m) 0
def hasKey (ws : List Wt) (arcs : List PP) (p : PP) : Bool := decide (p ∈ arcs) || ws.any fun z => hits z p
theorem gapVal_snoc (ws : List Wt) (z : Wt) (p : PP) : gapVal (ws ++ [z]) p = if hits z p = true then mx z.gap (gapVal ws p) else gapVal ws p := by
  unfold gapVal
  rw [List.foldl_append]
  rfl
theorem gapVal_none {ws : List Wt} {p : PP} (h : (ws.any fun z => hits z p) = false) : gapVal ws p = 0 := by
  have : ∀ (ws : List Wt) (m : Int), (ws.any fun z => hits z p) = false → ws.foldl (fun m z => if hits z p = true then mx z.gap m else m) m = m := by
    intro ws
    induction ws with
    | nil => intro m _; rfl
    | cons z r ih =>
      intro m h
      rw [List.any_cons, Bool.or_eq_false_iff] at h
      rw [List.foldl_cons, h.1]
      exact ih m h.2
  exact this ws 0 h
theorem hasKey_snoc (ws : List Wt) (z : Wt) (arcs : List PP) (p : PP) : hasKey (ws ++ [z]) arcs p = (hasKey ws arcs p || hits z p) := by
  unfold hasKey
  rw [List.any_append]
  simp [Bool.or_assoc]
theorem hasKey_arc (ws : List Wt) (arcs : List PP) (q p : PP) : hasKey ws (arcs ++ [q]) p = (hasKey ws arcs p || decide (p = q)) := by
  unfold hasKey
  by_cases a : p ∈ arcs <;> by_cases b : p = q <;> simp [a, b]
theorem hits_iff {z : Wt} {p : PP} : hits z p = true ↔ p = (z.a, z.b) := by
  unfold hits
  rw [Bool.and_eq_true, decide_eq_true_iff, decide_eq_true_iff]
  constructor
  · rintro ⟨h1, h2⟩
    exact Prod.ext h1.symm h2.symm
  · rintro h
    subst h
    exact ⟨rfl, rfl⟩
theorem keys_put {κ : Type} [DecidableEq κ] (kvs : List (κ × V)) (k : κ) (v : V) : (putK kvs k v).map (·.1) = if (valV kvs k).isSome = true then kvs.map (·.1) else kvs.map (·.1) ++ [k] := by
  unfold putK
  rw [valV_any]
  by_cases a : (valV kvs k).isSome = true
  · rw [if_pos a, if_pos a, List.map_map]
    refine List.map_congr_left fun e _ => ?_
    show (if e.1 = k then (e.1, v) else e).1 = e.1
    split <;> rfl
  · rw [if_neg a, if_neg a, List.map_append]
    rfl
theorem nodup_put {κ : Type} [DecidableEq κ] {kvs : List (κ × V)} (k : κ) (v : V) (nd : (kvs.map (·.1)).Nodup) : ((putK kvs k v).map (·.1)).Nodup := by
  rw [keys_put]
  by_cases a : (valV kvs k).isSome = true
  · rw [if_pos a]
    exact nd
  · rw [if_neg a, List.nodup_append]
    refine ⟨nd, by simp, fun x hx y hy e => ?_⟩
    rw [List.mem_singleton.mp hy] at e
    subst e
    obtain ⟨q, hq, e⟩ := List.mem_map.mp hx
    rw [← valV_any] at a
    exact a (List.any_eq_true.mpr ⟨q, hq, decide_eq_true e⟩)
theorem form_put {κ : Type} [DecidableEq κ] {kvs : List (κ × V)} {F : κ × V → Prop} (k : κ) (v : V) (f : ∀ e ∈ kvs, F e) (n : F (k, v)) : ∀ e ∈ putK kvs k v, F e := by
  intro e he
  unfold putK at he
  split at he
  · obtain ⟨x, hx, rfl⟩ := List.mem_map.mp he
    split
    · rename_i h
      rw [h]
      exact n
    · exact f x hx
  · rcases List.mem_append.mp he with h | h
    · exact f e h
    · rw [List.mem_singleton.mp h]
      exact n
theorem kP_inj {p q : PP} (h : kP p = kP q) : p = q := by
  injection h with h1 h2
  injection h2 with h2 _
  injection h1 with h1
  injection h2 with h2
  exact Prod.ext h1 h2
/-- a dict that holds just what waits and arcs tell -/
structure DK (kvs : List (List L2.Key × V)) (ws : List Wt) (arcs : List PP) : Prop where
  val : ∀ p : PP, valV kvs (kP p) = if hasKey ws arcs p = true then some (.int (gapVal ws p)) else none
  form : ∀ e ∈ kvs, ∃ x : Ent, e = entP x
  nd : (kvs.map (·.1)).Nodup
  len : kvs.length ≤ ws.length + arcs.length
theorem DK.nil : DK [] [] [] := ⟨fun p => rfl, (fun _ h => nomatch h), List.nodup_nil, Nat.le_refl _⟩
theorem DK.got {kvs : List (List L2.Key × V)} {ws : List Wt} {arcs : List PP} (h : DK kvs ws arcs) (p : PP) : (valV kvs (kP p)).getD (.int 0) = .int (gapVal ws p) := by
  rw [h.val p]
  by_cases a : hasKey ws arcs p = true
  · rw [if_pos a]
    rfl
  · rw [if_neg a]
    have : (ws.any fun z => hits z p) = false := by
      cases c : ws.any fun z => hits z p with
      | false => rfl
      | true => exact absurd (by unfold hasKey; rw [c, Bool.or_true]) a
    rw [gapVal_none this]
    rfl
theorem DK.wait {kvs : List (List L2.Key × V)} {ws : List Wt} {arcs : List PP} (h : DK kvs ws arcs) (z : Wt) : DK (putK kvs (kP (z.a, z.b)) (.int (mx z.gap (gapVal ws (z.a, z.b))))) (ws ++ [z]) arcs := by
  refine ⟨fun p => ?_, form_put _ _ h.form ⟨((z.a, z.b), mx z.gap (gapVal ws (z.a, z.b))), rfl⟩, nodup_put _ _ h.nd, ?_⟩
  · rw [valV_put, hasKey_snoc, gapVal_snoc, h.val p]
    by_cases e : p = (z.a, z.b)
    · subst e
      rw [if_pos rfl, hits_iff.mpr rfl, Bool.or_true]
      rfl
    · rw [if_neg fun c => e (kP_inj c)]
      have hn : hits z p = false := Bool.eq_false_iff.mpr fun c => e (hits_iff.mp c)
      rw [hn, Bool.or_false]
      rfl
  · have := length_putK kvs (kP (z.a, z.b)) (.int (mx z.gap (gapVal ws (z.a, z.b))))
    have := h.len
    rw [List.length_append, List.length_singleton]
    omega
theorem DK.arc {kvs : List (List L2.Key × V)} {ws : List Wt} {arcs : List PP} (h : DK kvs ws arcs) (q : PP) : DK (putK kvs (kP q) (.int (gapVal ws q))) ws (arcs ++ [q]) := by
  refine ⟨fun p => ?_, form_put _ _ h.form ⟨(q, gapVal ws q), rfl⟩, nodup_put _ _ h.nd, ?_⟩
  · rw [valV_put, hasKey_arc, h.val p]
    by_cases e : p = q
    · subst e
      rw [if_pos rfl, decide_eq_true rfl, Bool.or_true]
      rfl
    · rw [if_neg fun c => e (kP_inj c), decide_eq_false e, Bool.or_false]
  · have := length_putK kvs (kP q) (.int (gapVal ws q))
    have := h.len
    rw [List.length_append, List.length_singleton]
    omega
/-- such a dict by its entries -/
theorem DK.ents {kvs : List (List L2.Key × V)} {ws : List Wt} {arcs : List PP} (h : DK kvs ws arcs) : ∃ es : List Ent, kvs = es.map entP ∧ (es.map (·.1)).Nodup ∧ (∀ p, p ∈ es.map (·.1) ↔ hasKey ws arcs p = true) ∧ ∀ e ∈ es, e.2 = gapVal ws e.1 := by
  have ex : ∀ l : List (List L2.Key × V), (∀ e ∈ l, ∃ x : Ent, e = entP x) → ∃ es : List Ent, l = es.map entP := by
    intro l
    induction l with
    | nil => intro _; exact ⟨[], rfl⟩
    | cons a r ih =>
      intro f
      obtain ⟨x, hx⟩ := f a List.mem_cons_self
      obtain ⟨es, he⟩ := ih fun e m => f e (List.mem_cons_of_mem _ m)
      exact ⟨x :: es, by rw [hx, he]; rfl⟩
  obtain ⟨es, he⟩ := ex kvs h.form
  subst he
  have nd : (es.map (·.1)).Nodup := by
    have := h.nd
    rw [List.map_map] at this
    rw [List.Nodup, List.pairwise_map] at this ⊢
    exact this.imp fun c e => c (by show kP _ = kP _; rw [e])
  have some_ : ∀ p, (valV (es.map entP) (kP p)).isSome = true ↔ p ∈ es.map (·.1) := fun p => by
    rw [← valV_any, List.any_eq_true, List.mem_map]
    constructor
    · rintro ⟨x, hx, d⟩
      obtain ⟨e, me, rfl⟩ := List.mem_map.mp hx
      exact ⟨e, me, kP_inj (of_decide_eq_true d)⟩
    · rintro ⟨e, me, rfl⟩
      exact ⟨entP e, List.mem_map_of_mem me, decide_eq_true rfl⟩
  refine ⟨es, rfl, nd, fun p => ?_, fun e me => ?_⟩
  · rw [← some_ p, h.val p]
    by_cases a : hasKey ws arcs p = true
    · rw [if_pos a, a]
      simp
    · rw [if_neg a]
      simp [a]
  · have at_ : ∀ es : List Ent, (es.map (·.1)).Nodup → e ∈ es → valV (es.map entP) (kP e.1) = some (.int e.2) := by
      intro es
      induction es with
      | nil => intro _ m; cases m
      | cons x r ih =>
        intro nd m
        rw [List.map_cons, List.nodup_cons] at nd
        rcases List.mem_cons.mp m with c | c
        · subst c
          exact valV_pos (p := entP e) rfl
        · have ne : ¬ (entP x).1 = kP e.1 := fun c' => nd.1 (by
            rw [kP_inj c']
            exact List.mem_map_of_mem c)
          rw [List.map_cons, valV_neg ne]
          exact ih nd.2 c
    have v := h.val e.1
    rw [at_ es nd me] at v
    by_cases a : hasKey ws arcs e.1 = true
    · rw [if_pos a] at v
      exact V.int.inj (Option.some.inj v)
    · rw [if_neg a] at v
      cases v
/-! ### lists in the pairs' order -/
theorem lex_ne {p q : PP} (h : SrtO.lexB q p = false) (n : p ≠ q) : SrtO.lexB p q = true := by
  have a := SrtO.lexB_no.mp h
  refine SrtO.lexB_iff.mpr ?_
  have : ¬ (p.1 = q.1 ∧ p.2 = q.2) := fun c => n (Prod.ext c.1 c.2)
  omega
theorem lex_ext : ∀ {ps qs : List PP}, ps.Pairwise (fun p q => SrtO.lexB p q = true) → qs.Pairwise (fun p q => SrtO.lexB p q = true) → (∀ p, p ∈ ps ↔ p ∈ qs) → ps = qs
  | [], [], _, _, _ => rfl
  | [], q :: _, _, _, h => nomatch (h q).mpr List.mem_cons_self
  | p :: _, [], _, _, h => nomatch (h p).mp List.mem_cons_self
  | p :: ps, q :: qs, hp, hq, h => by
    rw [List.pairwise_cons] at hp hq
    have irr : ∀ x y : PP, SrtO.lexB x y = true → SrtO.lexB y x = true → False := fun x y a b => by
      have a' := SrtO.lexB_iff.mp a
      have b' := SrtO.lexB_iff.mp b
      omega
    have self : ∀ x : PP, SrtO.lexB x x = true → False := fun x a => irr x x a a
    have e : p = q := by
      rcases List.mem_cons.mp ((h p).mp List.mem_cons_self) with c | c
      · exact c
      · rcases List.mem_cons.mp ((h q).mpr List.mem_cons_self) with d | d
        · exact d.symm
        · exact (irr _ _ (hq.1 p c) (hp.1 q d)).elim
    subst e
    rw [lex_ext hp.2 hq.2 fun x => ⟨fun m => ?_, fun m => ?_⟩]
    · rcases List.mem_cons.mp ((h x).mp (List.mem_cons_of_mem _ m)) with c | c
      · rw [c] at m
        exact (self _ (hp.1 p m)).elim
      · exact c
    · rcases List.mem_cons.mp ((h x).mpr (List.mem_cons_of_mem _ m)) with c | c
      · rw [c] at m
        exact (self _ (hq.1 p m)).elim
      · exact c
theorem strict_of {ps : List PP} (h : ps.Pairwise fun p q => SrtO.lexB q p = false) (nd : ps.Nodup) : ps.Pairwise fun p q => SrtO.lexB p q = true :=
  (List.Pairwise.and h nd).imp fun c => lex_ne c.1 c.2
/-- entries in order, all that waits and arcs tell -/
structure EK (es : List Ent) (ws : List Wt) (arcs : List PP) : Prop where
  up : (es.map (·.1)).Pairwise fun p q => SrtO.lexB p q = true
  keys : ∀ p, p ∈ es.map (·.1) ↔ hasKey ws arcs p = true
  val : ∀ e ∈ es, e.2 = gapVal ws e.1
theorem EK.same {es fs : List Ent} {ws : List Wt} {arcs : List PP} (h : EK es ws arcs) (k : EK fs ws arcs) : es = fs := by
  have e := lex_ext h.up k.up fun p => (h.keys p).trans (k.keys p).symm
  have b : ∀ l : List Ent, (∀ e ∈ l, e.2 = gapVal ws e.1) → l = (l.map (·.1)).map fun p => (p, gapVal ws p) := fun l v => by
    rw [List.map_map]
    conv => lhs; rw [← List.map_id l]
    exact List.map_congr_left fun e m => Prod.ext rfl (v e m)
  rw [b es h.val, b fs k.val, e]
theorem u1 {n c : Nat} (h : n + 64 < c) : n + 1 < c := by omega
theorem ps_off {X : Cx} {st : Stmt} : PS X st (fun _ _ _ => False) := ⟨fun _ _ _ _ _ _ h => h.elim⟩
theorem rneIF {i j : Int} {H : Hp} {Q : VK} (e : i = j) (q : Q (.bl false) H) : rNe (.int i) (.int j) H Q := ⟨rfl, by
  rw [e, decide_eq_true rfl]
  exact q⟩
theorem rneIT {i j : Int} {H : Hp} {Q : VK} (e : i ≠ j) (q : Q (.bl true) H) : rNe (.int i) (.int j) H Q := ⟨rfl, by
  rw [decide_eq_false fun z => e (V.int.inj z)]
  exact q⟩
theorem reqIT {i j : Int} {H : Hp} {Q : VK} (e : i = j) (q : Q (.bl true) H) : rEq (.int i) (.int j) H Q := ⟨rfl, by
  rw [e, decide_eq_true rfl]
  exact q⟩
theorem reqIF {i j : Int} {H : Hp} {Q : VK} (e : i ≠ j) (q : Q (.bl false) H) : rEq (.int i) (.int j) H Q := ⟨rfl, by
  rw [decide_eq_false fun z => e (V.int.inj z)]
  exact q⟩
/-! ### arcs -/
def arcD (p : PP) : PyData := .tuple [.int p.1, .int p.2]
theorem arc_parts {H : Hp} {v : V} {p : PP} (h : TD H v (arcD p)) : ∃ a, v = .ref a ∧ H a = some (.tup [.int p.1, .int p.2]) := by
  obtain ⟨a, xs, rfl, ha, hs⟩ := h.tupI
  cases hs with
  | cons h1 hs =>
    cases hs with
    | cons h2 hs =>
      cases hs
      rw [h1.intI, h2.intI] at ha
      exact ⟨a, rfl, ha⟩
structure ArcOk (n : Nat) (p : PP) : Prop where
  a : 0 ≤ p.1 ∧ p.1 < n
  b : 0 ≤ p.2 ∧ p.2 < n
  ne : p.1 ≠ p.2
def ArcsAt (H : Hp) (l : Addr) (n : Nat) (arcs : List PP) : Prop := (∃ xs, H l = some (.lst xs) ∧ RowsAt arcD H xs arcs) ∧ (∀ p ∈ arcs, ArcOk n p) ∧ arcs.length ≤ 200
theorem ArcsAt.ex {H H' : Hp} {l : Addr} {n : Nat} {arcs : List PP} (h : ArcsAt H l n arcs) (e : Ex H H') : ArcsAt H' l n arcs := by
  obtain ⟨⟨xs, h1, h2⟩, h3⟩ := h
  exact ⟨⟨xs, e _ _ h1, RowsAt.tp (Tp.ex e) h2⟩, h3⟩
/-! ### {k: v for .. in a list} -/
theorem dct_list {K : PySem.W.Frag} {a : Addr} {xs : List V} {g : TG} {tt : TT} {tk te : TE} {vs : List Nat} {σ : L2.St} {H1 : Hp} {D : Addr} {Qd : Hp → Prop} (Pv : Nat → Hp → Prop) (h0 : Pv 0 (upd H1 D (.dT []))) (hl : ∀ i H, i ≤ xs.length → Pv i H → SqL K H a xs)
    (hs : ∀ i x H, xs[i]? = some x → Pv i H → g x (wipe σ vs) H fun σ2 H2 => wipe σ2 vs = wipe σ vs ∧ tt σ2 H2 fun b H3 =>
      if b = true then tk σ2 H3 fun y H4 => te σ2 H4 fun z H5 => ∃ (kvs : List (List L2.Key × V)) (k : List L2.Key) (a : Addr), y = .ref a ∧ H5 D = some (.dT kvs) ∧ H5 a = some (.tup (k.map kV)) ∧ kvs.length < sizeLine ∧ Pv (i + 1) (upd H5 D (.dT (putK kvs k z))) else Pv (i + 1) H3)
    (hd : ∀ H, Pv xs.length H → Qd H) :
    ∃ W : Nat → Nat → Hp → Prop, (∃ m, W 0 m (upd H1 D (.dT []))) ∧ ∀ i m H, W i m H →
      ((Itl K a).stop i H ∧ Qd H) ∨ ((Itl K a).go i H ∧ ∃ Nx : Hp → Prop, (∀ H', Nx H' → ∃ m', m' < m ∧ W (i + 1) m' H') ∧ ∀ x H', (Itl K a).yld i H x H' → g x (wipe σ vs) H' fun σ2 H2 => wipe σ2 vs = wipe σ vs ∧ tt σ2 H2 fun b H3 =>
        if b = true then tk σ2 H3 fun y H4 => te σ2 H4 fun z H5 => ∃ (kvs : List (List L2.Key × V)) (k : List L2.Key) (a : Addr), y = .ref a ∧ H5 D = some (.dT kvs) ∧ H5 a = some (.tup (k.map kV)) ∧ kvs.length < sizeLine ∧ Nx (upd H5 D (.dT (putK kvs k z))) else Nx H3) := by
  refine ⟨fun i m H => m = xs.length - i ∧ i ≤ xs.length ∧ Pv i H, ⟨xs.length, by simp, Nat.zero_le _, h0⟩, ?_⟩
  rintro i m H ⟨rfl, hi, p⟩
  have q := hl i H hi p
  by_cases lt : i < xs.length
  · refine .inr ⟨⟨xs, xs[i], q, by simp [lt]⟩, Pv (i + 1), fun H' p' => ⟨xs.length - (i + 1), by omega, rfl, lt, p'⟩, fun x H' y => ?_⟩
    obtain ⟨e, y⟩ := y
    subst e
    exact hs i x _ (y xs q) p
  · have e : i = xs.length := by omega
    subst e
    exact .inl ⟨⟨xs, q, Nat.le_refl _⟩, hd H p⟩
theorem keys_pairs {H : Hp} : ∀ {es : List Ent} {bs : List Addr}, IsKeys H (es.map entP) bs → (bs.map V.ref).map (prAt H) = es.map (·.1)
  | [], _, .nil => rfl
  | e :: es, b :: bs, .cons h t => by
    have e1 : prAt H (.ref b) = (e.1.1, e.1.2) := prAt_is h
    rw [List.map_cons, List.map_cons, List.map_cons, keys_pairs t, e1]
theorem valV_off {kvs : List (List L2.Key × V)} {k : List L2.Key} (h : ∀ e ∈ kvs, e.1 ≠ k) : valV kvs k = none := by
  cases c : valV kvs k with
  | none => rfl
  | some v =>
    have : (valV kvs k).isSome = true := by rw [c]; rfl
    rw [← valV_any, List.any_eq_true] at this
    obtain ⟨e, me, d⟩ := this
    exact absurd (of_decide_eq_true d) (h e me)
end Bs

namespace Bs
open PySem PySem.Spec PyProof.Rows L2
open Evl (Ex)
theorem shaped_rows {β : Type} {D : β → PyData} (h1 : ∀ x, PyData.canLay0 (D x) = true) (h2 : ∀ x, PyData.depth (D x) ≤ 10) (xs : List β) : SeqAt.shaped (.list (xs.map D)) = true := by
  have a : PyData.canLayAll0 (xs.map D) = true := by
    induction xs with
    | nil => rfl
    | cons x r ih =>
      show (PyData.canLay0 (D x) && PyData.canLayAll0 (r.map D)) = true
      rw [ih, h1 x]
      rfl
  have b : PyData.depthAll (xs.map D) ≤ 10 := by
    induction xs with
    | nil => exact Nat.zero_le _
    | cons x r ih =>
      have h := a
      rw [show PyData.canLayAll0 ((x :: r).map D) = (PyData.canLay0 (D x) && PyData.canLayAll0 (r.map D)) from rfl, Bool.and_eq_true] at h
      have i1 := ih h.2
      have i2 := h2 x
      show max (PyData.depth (D x)) (PyData.depthAll (r.map D)) ≤ 10
      omega
  unfold SeqAt.shaped
  rw [show PyData.canLay0 (.list (xs.map D)) = PyData.canLayAll0 (xs.map D) from rfl, a]
  exact decide_eq_true (show PyData.depthAll (xs.map D) + 1 ≤ 64 by omega)
theorem shaped_arcs (arcs : List PP) : SeqAt.shaped (.list (arcs.map arcD)) = true := shaped_rows (fun x => rfl) (fun x => by show 1 ≤ 10; decide) arcs
theorem shaped_items (es : List Ent) : SeqAt.shaped (.list (es.map itemD)) = true := shaped_rows (fun x => rfl) (fun x => by show 2 ≤ 10; decide) es
theorem eqv_same {d : PyData} (h : SeqAt.shaped d = true) : PyData.eqv d d = true := by
  unfold SeqAt.shaped at h
  rw [Bool.and_eq_true] at h
  exact SeqAt.eqv_refl d h.1
/-- a != of two lists of one datum -/
theorem neD_same {K : PySem.W.Frag} {H : Hp} {a b : Addr} {xs ys : List V} {ds : List PyData} {Q : VK} (ha : H a = some (.lst xs)) (hb : H b = some (.lst ys)) (hx : TDs H xs ds) (hy : TDs H ys ds) (sh : SeqAt.shaped (.list ds) = true) (q : Q (.bl false) H) : rNeD K (.ref a) (.ref b) H Q :=
  ⟨.list ds, .list ds, .lst (SqL.of ha) (TDs.dp hx), .lst (SqL.of hb) (TDs.dp hy), sh, sh, by
    rw [eqv_same sh]
    exact q⟩
theorem walk_itp {d : Addr} {o : Obj} {es : List Ent} : Walk (Itp d o es) es.length (fun H => H d = some (.frz o (.dT (es.map entP)))) (fun i H x H' => ∃ (a : Addr) (e : Ent) (q : Addr), es[i]? = some e ∧ x = .ref a ∧ H a = none ∧ H q = some (.tup [.int e.1.1, .int e.1.2]) ∧ H' = upd H a (.tup [.ref q, .int e.2])) :=
  ⟨fun _ _ hi h => ⟨h, hi⟩, fun _ h => ⟨h, Nat.le_refl _⟩, fun _ _ _ _ _ _ y => y⟩
end Bs

set_option maxHeartbeats 4000000
namespace Bk13
open PySem PySem.Spec PyProof.Rows L2 Bs
open Evl (Ex)
def topS (i : Nat) : Stmt := PySem.Challenge.pw_boundsmith_k13_what_goes_right_ahead.main.body.getD i (.Pass ⟨0, 0, 0, 0⟩)
abbrev s_is_whole : Stmt := topS 8
abbrev N_is_whole : List Str := ["thing"]
theorem sc_is_whole : FnScope N_is_whole ["thing"] (defScope s_is_whole) := ⟨rfl, rfl, rfl, by decide +kernel, rfl, by decide +kernel, by decide +kernel⟩
abbrev s_is_among : Stmt := topS 9
abbrev N_is_among : List Str := ["thing", "least", "most"]
theorem sc_is_among : FnScope N_is_among ["thing", "least", "most"] (defScope s_is_among) := ⟨rfl, rfl, rfl, by decide +kernel, rfl, by decide +kernel, by decide +kernel⟩
abbrev s_is_task_of : Stmt := topS 12
abbrev N_is_task_of : List Str := ["book", "thing"]
theorem sc_is_task_of : FnScope N_is_task_of ["book", "thing"] (defScope s_is_task_of) := ⟨rfl, rfl, rfl, by decide +kernel, rfl, by decide +kernel, by decide +kernel⟩
abbrev s_is_arc : Stmt := topS 13
abbrev N_is_arc : List Str := ["book", "thing"]
theorem sc_is_arc : FnScope N_is_arc ["book", "thing"] (defScope s_is_arc) := ⟨rfl, rfl, rfl, by decide +kernel, rfl, by decide +kernel, by decide +kernel⟩
abbrev s_need_arcs : Stmt := topS 14
abbrev N_need_arcs : List Str := ["book", "arcs", "arc"]
theorem sc_need_arcs : FnScope N_need_arcs ["book", "arcs"] (defScope s_need_arcs) := ⟨rfl, rfl, rfl, by decide +kernel, rfl, by decide +kernel, by decide +kernel⟩
abbrev s_first_of : Stmt := topS 15
abbrev N_first_of : List Str := ["book", "task", "fixed", "begin"]
theorem sc_first_of : FnScope N_first_of ["book", "task"] (defScope s_first_of) := ⟨rfl, rfl, rfl, by decide +kernel, rfl, by decide +kernel, by decide +kernel⟩
abbrev s_steps : Stmt := topS 16
abbrev N_steps : List Str := ["book", "arcs", "gaps", "first", "second", "gap", "arc", "pair"]
theorem sc_steps : FnScope N_steps ["book", "arcs"] (defScope s_steps) := ⟨rfl, rfl, rfl, by decide +kernel, rfl, by decide +kernel, by decide +kernel⟩
abbrev s__law_mixed : Stmt := topS 18
abbrev N__law_mixed : List Str := ["cell", "k", "number"]
theorem sc__law_mixed : FnScope N__law_mixed ["cell", "k"] (defScope s__law_mixed) := ⟨rfl, rfl, rfl, by decide +kernel, rfl, by decide +kernel, by decide +kernel⟩
abbrev s__law_draw : Stmt := topS 19
abbrev N__law_draw : List Str := ["script", "k", "cell", "own", "turn"]
theorem sc__law_draw : FnScope N__law_draw ["script", "k"] (defScope s__law_draw) := ⟨rfl, rfl, rfl, by decide +kernel, rfl, by decide +kernel, by decide +kernel⟩
abbrev s__law_next : Stmt := topS 20
abbrev N__law_next : List Str := ["draw", "many", "found", "number"]
theorem sc__law_next : FnScope N__law_next ["draw", "many"] (defScope s__law_next) := ⟨rfl, rfl, rfl, by decide +kernel, rfl, by decide +kernel, by decide +kernel⟩
abbrev s__law_some : Stmt := topS 21
abbrev N__law_some : List Str := ["draw", "things", "first"]
theorem sc__law_some : FnScope N__law_some ["draw", "things"] (defScope s__law_some) := ⟨rfl, rfl, rfl, by decide +kernel, rfl, by decide +kernel, by decide +kernel⟩
abbrev s__law_task : Stmt := topS 22
abbrev N__law_task : List Str := ["draw", "name", "machines", "goods", "length", "machine", "needs", "good", "many", "first", "due"]
theorem sc__law_task : FnScope N__law_task ["draw", "name", "machines", "goods"] (defScope s__law_task) := ⟨rfl, rfl, rfl, by decide +kernel, rfl, by decide +kernel, by decide +kernel⟩
abbrev s__law_waits : Stmt := topS 23
abbrev N__law_waits : List Str := ["draw", "many", "most", "found", "k", "a", "b"]
theorem sc__law_waits : FnScope N__law_waits ["draw", "many", "most"] (defScope s__law_waits) := ⟨rfl, rfl, rfl, by decide +kernel, rfl, by decide +kernel, by decide +kernel⟩
abbrev s__law_book : Stmt := topS 24
abbrev N__law_book : List Str := ["script", "most", "draw", "machines", "goods", "many", "names", "tasks", "waits", "fixed", "k", "name"]
theorem sc__law_book : FnScope N__law_book ["script", "most"] (defScope s__law_book) := ⟨rfl, rfl, rfl, by decide +kernel, rfl, by decide +kernel, by decide +kernel⟩
abbrev s__law_whole : Stmt := topS 25
abbrev N__law_whole : List Str := ["thing"]
theorem sc__law_whole : FnScope N__law_whole ["thing"] (defScope s__law_whole) := ⟨rfl, rfl, rfl, by decide +kernel, rfl, by decide +kernel, by decide +kernel⟩
abbrev s__law_arcs : Stmt := topS 26
abbrev N__law_arcs : List Str := ["script", "k", "many", "is_loose", "draw", "order", "first", "found", "turn", "low", "high", "pair"]
theorem sc__law_arcs : FnScope N__law_arcs ["script", "k", "many", "is_loose"] (defScope s__law_arcs) := ⟨rfl, rfl, rfl, by decide +kernel, rfl, by decide +kernel, by decide +kernel⟩
abbrev s__law_gaps : Stmt := topS 27
abbrev N__law_gaps : List Str := ["book", "arcs", "found", "a", "b", "gap", "pair"]
theorem sc__law_gaps : FnScope N__law_gaps ["book", "arcs"] (defScope s__law_gaps) := ⟨rfl, rfl, rfl, by decide +kernel, rfl, by decide +kernel, by decide +kernel⟩
abbrev s__law_begin : Stmt := topS 28
abbrev N__law_begin : List Str := ["book", "task", "number", "begin"]
theorem sc__law_begin : FnScope N__law_begin ["book", "task"] (defScope s__law_begin) := ⟨rfl, rfl, rfl, by decide +kernel, rfl, by decide +kernel, by decide +kernel⟩
abbrev s_law : Stmt := topS 29
abbrev N_law : List Str := ["script", "book", "many", "arcs", "due", "handed", "turn", "found", "pair", "gap", "task", "one"]
theorem sc_law : FnScope N_law ["script"] (defScope s_law) := ⟨rfl, rfl, rfl, by decide +kernel, rfl, by decide +kernel, by decide +kernel⟩
/-- what the top has left -/
structure Tx (K : PySem.W.Frag) (mg : Str → Option Value) : Prop where
  c_TASKS : ∃ u, mg "TASKS" = some u ∧ RelV (.int 2) u
  c_WAITS : ∃ u, mg "WAITS" = some u ∧ RelV (.int 3) u
  c_FIXED : ∃ u, mg "FIXED" = some u ∧ RelV (.int 4) u
  c_FROM : ∃ u, mg "FROM" = some u ∧ RelV (.int 4) u
  c_MOST_ARCS : ∃ u, mg "MOST_ARCS" = some u ∧ RelV (.int 900) u
  b_isinstance : mg "isinstance" = none
  b_int : mg "int" = none
  b_bool : mg "bool" = none
  b_len : mg "len" = none
  b_tuple : mg "tuple" = none
  b_list : mg "list" = none
  b_all : mg "all" = none
  b_max : mg "max" = none
  b_sorted : mg "sorted" = none
  b_range : mg "range" = none
  b_min : mg "min" = none
  b_dict : mg "dict" = none
  d_is_whole : Dfn K mg "is_whole" s_is_whole ["thing"]
  d_is_among : Dfn K mg "is_among" s_is_among ["thing", "least", "most"]
  d_is_task_of : Dfn K mg "is_task_of" s_is_task_of ["book", "thing"]
  d_is_arc : Dfn K mg "is_arc" s_is_arc ["book", "thing"]
  d_need_arcs : Dfn K mg "need_arcs" s_need_arcs ["book", "arcs"]
  d_first_of : Dfn K mg "first_of" s_first_of ["book", "task"]
  d_steps : Dfn K mg "steps" s_steps ["book", "arcs"]
  d__law_mixed : Dfn K mg "_law_mixed" s__law_mixed ["cell", "k"]
  d__law_draw : Dfn K mg "_law_draw" s__law_draw ["script", "k"]
  d__law_next : Dfn K mg "_law_next" s__law_next ["draw", "many"]
  d__law_some : Dfn K mg "_law_some" s__law_some ["draw", "things"]
  d__law_task : Dfn K mg "_law_task" s__law_task ["draw", "name", "machines", "goods"]
  d__law_waits : Dfn K mg "_law_waits" s__law_waits ["draw", "many", "most"]
  d__law_book : Dfn K mg "_law_book" s__law_book ["script", "most"]
  d__law_whole : Dfn K mg "_law_whole" s__law_whole ["thing"]
  d__law_arcs : Dfn K mg "_law_arcs" s__law_arcs ["script", "k", "many", "is_loose"]
  d__law_gaps : Dfn K mg "_law_gaps" s__law_gaps ["book", "arcs"]
  d__law_begin : Dfn K mg "_law_begin" s__law_begin ["book", "task"]
  d_law : Dfn K mg "law" s_law ["script"]

section
variable {P : Program} {w : World} {K : PySem.W.Frag} {mg : Str → Option Value} {base : Heap}
theorem sz16 {n : Nat} (h : n ≤ 16000000) : n ≤ sizeLine := by
  rw [sizeLine_eq]
  omega
theorem at_mem {xs : List V} {n : Int} (h0 : 0 ≤ n) (h1 : n < xs.length) : ∃ v, v ∈ xs ∧ atI xs n = some v := by
  obtain ⟨j, rfl⟩ : ∃ j : Nat, n = (j : Int) := ⟨_, (Int.toNat_of_nonneg h0).symm⟩
  have hj : j < xs.length := by omega
  exact ⟨xs[j], List.getElem_mem hj, atI_nat (List.getElem?_eq_getElem hj)⟩
/-! ### draws -/
theorem mulBd {i j : Int} (a : -(10 ^ 60) < i) (b : i < 10 ^ 60) (c : -(10 ^ 60) < j) (d : j < 10 ^ 60) : CMulX i j :=
  mulx_ok (a := 200) (b := 200) (by
    have : (10 : Nat) ^ 60 < 2 ^ 200 := by decide
    omega) (by
    have : (10 : Nat) ^ 60 < 2 ^ 200 := by decide
    omega) (by decide)
theorem divBd {i j : Int} (a : 0 < j) (b : j < 10 ^ 60) : CDivW i j := wide_div (b := 200) a (by
    have : (10 : Nat) ^ 60 < 2 ^ 200 := by decide
    omega) (by decide) (by decide)
/-- all but one object stand -/
def But (d : Addr) (H H' : Hp) : Prop := ∀ b o, b ≠ d → H b = some o → H' b = some o
theorem But.refl (d : Addr) (H : Hp) : But d H H := fun _ _ _ h => h
theorem But.trans {d : Addr} {H H1 H2 : Hp} (a : But d H H1) (b : But d H1 H2) : But d H H2 := fun x o n h => b x o n (a x o n h)
theorem But.ex {d : Addr} {H H1 H2 : Hp} (a : But d H H1) (b : Ex H1 H2) : But d H H2 := fun x o n h => b x o (a x o n h)
theorem But.of {d : Addr} {H H1 : Hp} (a : Ex H H1) : But d H H1 := fun x o _ h => a x o h
theorem But.exl {d : Addr} {H H1 H2 : Hp} (a : Ex H H1) (b : But d H1 H2) : But d H H2 := fun x o n h => b x o n (a x o h)
theorem But.mut {d p : Addr} {H H1 : Hp} {o : HO} (a : But d H H1) (h : H p = none) : But d H (upd H1 p o) := fun x u n e => by
  rw [upd_ne (ne_of_none e h)]
  exact a x u n e
theorem But.self {d : Addr} {H : Hp} {o : HO} : But d H (upd H d o) := fun x u n e => by
  rw [upd_ne n]
  exact e
/-- an object that did not stand may change -/
theorem But.toEx {d : Addr} {H0 H H1 : Hp} (e : Ex H0 H) (a : But d H H1) (h : H0 d = none) : Ex H0 H1 := fun x u k => a x u (ne_of_none k h) (e x u k)
/-- a draw at d: its counter c -/
def Drw (H : Hp) (d : Addr) (c : Int) : Prop := ∃ cell own : Int, H d = some (.lst [.int cell, .int c, .int own]) ∧ 0 ≤ own ∧ 0 ≤ c
theorem Drw.some {H : Hp} {d : Addr} {c : Int} (h : Drw H d c) : ∃ o, H d = some o := by
  obtain ⟨_, _, e, _⟩ := h
  exact ⟨_, e⟩
theorem Drw.ex {H H' : Hp} {d : Addr} {c : Int} (h : Drw H d c) (e : Ex H H') : Drw H' d c := by
  obtain ⟨a, b, h1, h2⟩ := h
  exact ⟨a, b, e _ _ h1, h2⟩
theorem Drw.ne {H : Hp} {d p : Addr} {c : Int} (h : Drw H d c) (n : H p = none) : d ≠ p := by
  obtain ⟨a, b, h1, _⟩ := h
  exact ne_of_none h1 n
theorem Drw.upd {H : Hp} {d p : Addr} {c : Int} {o : HO} (h : Drw H d c) (n : d ≠ p) : Drw (upd H p o) d c := by
  obtain ⟨a, b, h1, h2⟩ := h
  exact ⟨a, b, by rw [upd_ne n]; exact h1, h2⟩
theorem Drw.pos {H : Hp} {d : Addr} {c : Int} (h : Drw H d c) : 0 ≤ c := by
  obtain ⟨_, _, _, _, h⟩ := h
  exact h
def spMixed : Sp := fun vs H Q _ => ∃ cell k : Int, vs = [.int cell, .int k] ∧ 0 ≤ k ∧ k ≤ 10 ^ 12 ∧ ∀ r : Int, 0 ≤ r → r < 2147483629 → Q (.int r) H
theorem ok__law_mixed (T : Tx K mg) : Cal P w K mg base 1 "_law_mixed" ["cell", "k"] spMixed := by
  refine T.d__law_mixed.cal sc__law_mixed (fun vs H Q E h => ?_) (fun f cdv A outer s H vs Q E hr h => ?_)
  · obtain ⟨x, n, rfl, _⟩ := h
    rfl
  · obtain ⟨cell, k, rfl, k0, k1, q⟩ := h
    refine ⟨_, (pss_cons (ps_set (i := 2) sc__law_mixed.nd rfl (.inl rfl) (pe_op op_mod (pe_op op_mulX (pe_op op_add (pe_op op_add (pe_op op_mod (pv 0) pe_int) (pe_op op_mulX (pe_op op_mulX pe_int (pv 1)) (pv 1))) pe_int) pe_int) pe_int))
    (pss_one (ps_ret (pe_op op_mod (pe_op op_mulX (pv 2) (pe_op op_add pe_int (pe_op op_mulX pe_int (pv 1)))) pe_int)))), ?_⟩
    have kk : 31 * k * k ≤ 31 * 10 ^ 12 * 10 ^ 12 := Int.mul_le_mul (by omega) k1 k0 (by omega)
    have kk0 : 0 ≤ 31 * k * k := Int.mul_nonneg (by omega) k0
    refine ⟨.int cell, rfl, cell, 1000000007, rfl, rfl, (show (0 : Int) < 1000000007 by decide), .int k, rfl, 31, k, rfl, rfl, mulBd (by decide) (by decide) (by omega) (by omega), .int k, rfl, 31 * k, k, rfl, rfl, mulBd (by omega) (by omega) (by omega) (by omega), _, _, rfl, rfl,
      _, 7, rfl, rfl, _, 48271, rfl, rfl, mulBd (by omega) (by omega) (by decide) (by decide), _, 2147483647, rfl, rfl, (show (0 : Int) < 2147483647 by decide), ?_⟩
    have h1 : 0 ≤ (cell % 1000000007 + 31 * k * k + 7) * 48271 % 2147483647 := Int.emod_nonneg _ (by decide)
    have h2 : (cell % 1000000007 + 31 * k * k + 7) * 48271 % 2147483647 < 2147483647 := Int.emod_lt_of_pos _ (by decide)
    refine ⟨_, rfl, .int k, rfl, 7919, k, rfl, rfl, mulBd (by decide) (by decide) (by omega) (by omega), 16807, _, rfl, rfl, (cell % 1000000007 + 31 * k * k + 7) * 48271 % 2147483647, 16807 + 7919 * k, rfl, rfl, mulBd (by omega) (by omega) (by omega) (by omega), _, 2147483629, rfl, rfl, (show (0 : Int) < 2147483629 by decide), ?_⟩
    exact q _ (Int.emod_nonneg _ (by decide)) (Int.emod_lt_of_pos _ (by decide))
def spNext : Sp := fun vs H Q _ => ∃ (d : Addr) (many c : Int), vs = [.ref d, .int many] ∧ Drw H d c ∧ 0 < many ∧ many ≤ 10 ^ 18 ∧ c ≤ 10 ^ 11 ∧
  ∀ (n c' : Int) (H' : Hp), 0 ≤ n → n < many → c ≤ c' → c' ≤ c + 1 → But d H H' → Drw H' d c' → Q (.int n) H'
theorem ok__law_next (T : Tx K mg) : Cal P w K mg base 2 "_law_next" ["draw", "many"] spNext := by
  have G__law_mixed : Cal P w K mg base 1 "_law_mixed" ["cell", "k"] spMixed := ok__law_mixed T
  refine T.d__law_next.cal sc__law_next (fun vs H Q E h => ?_) (fun f cdv A outer s H vs Q E hr h => ?_)
  · obtain ⟨x, n, c, rfl, _⟩ := h
    rfl
  · obtain ⟨d, many, c, rfl, ⟨cell, own, hd, o0, c0⟩, m0, m1, c1, q⟩ := h
    refine ⟨_, (pss_cons (ps_if (pt_cmpR op_gt (pe_ix ix_list (pv 0) pe_int (fun _ _ => rfl)) pe_int (nomark _)) (pss_cons (ps_set (i := 2) sc__law_next.nd rfl (.inl rfl) (pe_op op_mod (pe_ix ix_list (pv 0) pe_int (fun _ _ => rfl)) (pv 1)))
    (pss_cons (ps_asg (pe_op op_fdivW (pe_ix ix_list (pv 0) pe_int (fun _ _ => rfl)) (pv 1)) (pg_sub (pv 0) pe_int set_list))
    (pss_one (ps_ret (pv 2))))) pss_nil)
    (pss_cons (ps_asg (pe_op op_add (pe_ix ix_list (pv 0) pe_int (fun _ _ => rfl)) pe_int) (pg_sub (pv 0) pe_int set_list))
    (pss_cons (ps_set (i := 3) sc__law_next.nd rfl (.inl rfl) (pe_op op_add (pe_op op_mulX (pe_cal G__law_mixed hr (by rfl) (pa_cons (pe_ix ix_list (pv 0) pe_int (fun _ _ => rfl)) (pa_cons (pe_ix ix_list (pv 0) pe_int (fun _ _ => rfl)) pa_nil))) pe_int) (pe_cal G__law_mixed hr (by rfl) (pa_cons (pe_ix ix_list (pv 0) pe_int (fun _ _ => rfl)) (pa_cons (pe_op op_add (pe_ix ix_list (pv 0) pe_int (fun _ _ => rfl)) pe_int) pa_nil)))))
    (pss_one (ps_ret (pe_op op_mod (pe_op op_fdivW (pv 3) pe_int) (pv 1))))))), ?_⟩
    refine ⟨.ref d, rfl, d, _, 2, .int own, rfl, rfl, SqL.of hd, rfl, own, 0, rfl, rfl, _, rfl, ite2 (fun e => ?_) (fun e => ?_)⟩
    · refine ⟨.ref d, rfl, d, _, 2, .int own, rfl, rfl, SqL.of hd, rfl, .int many, rfl, own, many, rfl, rfl, m0, ?_⟩
      refine ⟨.ref d, rfl, d, _, 2, .int own, rfl, rfl, SqL.of hd, rfl, .int many, rfl, own, many, rfl, rfl, divBd m0 (by omega), .ref d, rfl, d, _, 2, 2, rfl, rfl, hd, rfl, ?_⟩
      refine ⟨_, rfl, ?_⟩
      exact q _ c _ (Int.emod_nonneg _ (by omega)) (Int.emod_lt_of_pos _ m0) (Int.le_refl _) (by omega) But.self ⟨cell, own / many, upd_same, Int.ediv_nonneg o0 (by omega), c0⟩
    · refine ⟨.ref d, rfl, d, _, 1, .int c, rfl, rfl, SqL.of hd, rfl, c, 1, rfl, rfl, .ref d, rfl, d, _, 1, 1, rfl, rfl, hd, rfl, ?_⟩
      have hd1 : (L2.upd H d (.lst [.int cell, .int (c + 1), .int own])) d = some (.lst [.int cell, .int (c + 1), .int own]) := upd_same
      refine ⟨.ref d, rfl, d, _, 0, .int cell, rfl, rfl, SqL.of hd1, rfl, .ref d, rfl, d, _, 1, .int (c + 1), rfl, rfl, SqL.of hd1, rfl, cell, c + 1, rfl, by omega, by omega, fun r r0 r1 => ?_⟩
      refine ⟨r, 2147483629, rfl, rfl, mulBd (by omega) (by omega) (by decide) (by decide), ?_⟩
      refine ⟨.ref d, rfl, d, _, 0, .int cell, rfl, rfl, SqL.of hd1, rfl, .ref d, rfl, d, _, 1, .int (c + 1), rfl, rfl, SqL.of hd1, rfl, c + 1, 9001, rfl, rfl, cell, c + 1 + 9001, rfl, by omega, by omega, fun r' _ _ => ?_⟩
      refine ⟨_, _, rfl, rfl, ?_⟩
      refine ⟨_, rfl, _, 11, rfl, rfl, divBd (by decide) (by decide), .int many, rfl, _, many, rfl, rfl, m0, ?_⟩
      exact q _ (c + 1) _ (Int.emod_nonneg _ (by omega)) (Int.emod_lt_of_pos _ m0) (by omega) (Int.le_refl _) But.self ⟨cell, own, hd1, o0, by omega⟩
theorem le_max1 (j : Int) : 1 ≤ (if j > 1 then j else 1) := by split <;> omega
theorem div_in {k m : Int} (k0 : 0 ≤ k) (k1 : k ≤ 10 ^ 6) (hm : 1 ≤ m) : -(2 ^ 62) ≤ k / m ∧ k / m < 2 ^ 62 := by
  have h1 := Int.ediv_nonneg k0 (show 0 ≤ m by omega)
  have h2 := Int.ediv_le_self m k0
  omega
def spDraw (K : PySem.W.Frag) : Sp := fun vs H Q _ => ∃ (a : Addr) (ns : List Int) (k : Int), vs = [.ref a, .int k] ∧ SqL K H a (ns.map V.int) ∧ ns.length ≤ 63 ∧ 0 ≤ k ∧ k ≤ 10 ^ 6 ∧
  ∀ (d : Addr) (H' : Hp), Ex H H' → H d = none → Drw H' d (64 * k) → Q (.ref d) H'
theorem ok__law_draw (T : Tx K mg) : Cal P w K mg base 1 "_law_draw" ["script", "k"] (spDraw K) := by
  refine T.d__law_draw.cal sc__law_draw (fun vs H Q E h => ?_) (fun f cdv A outer s H vs Q E hr h => ?_)
  · obtain ⟨x, n, c, rfl, _⟩ := h
    rfl
  · obtain ⟨a, ns, k, rfl, hS, hl, k0, k1, q⟩ := h
    refine ⟨_, (pss_cons (ps_set (i := 2) sc__law_draw.nd rfl (.inl rfl) (pe_ifExp (pt_cmpR (neDK (K := K) hr.units) (pv 0) (pe_lst pa_nil) (nomark _)) (pe_ix ix_list (pv 0) (pe_op op_mod (pv 1) (pe_callB call_len_seq (by rfl) T.b_len (by decide +kernel) (pa_cons (pv 0) pa_nil))) (fun _ _ => rfl)) pe_int))
    (pss_cons (ps_set (i := 3) sc__law_draw.nd rfl (.inl rfl) (pe_ifExp (pt_cmpR op_ge (pv 2) (pe_op op_pow pe_int pe_int) (nomark _)) (pv 2) pe_int))
    (pss_cons (ps_for PassesOwn.never rfl (pi_range1 (by rfl) T.b_range (pa_cons (pe_op op_fdivW (pv 1) (pe_callB (call_max2 rfl) (by rfl) T.b_max (by decide +kernel) (pa_cons pe_int (pa_cons (pe_callB call_len_seq (by rfl) T.b_len (by decide +kernel) (pa_cons (pv 0) pa_nil)) pa_nil)))) pa_nil)) (pg_name (i := 4) sc__law_draw.nd rfl (.inl rfl)) (pss_one (ps_set (i := 3) sc__law_draw.nd rfl (.inl rfl) (pe_op op_fdivW (pv 3) (pe_op op_pow pe_int pe_int)))))
    (pss_one (ps_ret (pe_lst (pa_cons (pv 2) (pa_cons (pe_op op_mulX pe_int (pv 1)) (pa_cons (pv 3) pa_nil))))))))), ?_⟩
    refine ⟨.ref a, rfl, Nat.zero_le _, fun p hp => ?_⟩
    have e1 : Ex H (upd H p (.lst [])) := Evl.Ex.new hp
    have hS1 : SqL K (upd H p (.lst [])) a (ns.map V.int) := Evl.ex_l e1 hS
    refine ⟨.list (ns.map PyData.int), .list [], .lst hS1 dpa_ints, .lst (SqL.of upd_same) .nil, shaped_ints, shaped_nil, _, rfl, ?_⟩
    rw [eqv_nil]
    rcases ns with _ | ⟨n, r⟩
    rotate_left
    have hlen : (0 : Int) < (((n :: r).map V.int).length : Int) := by
      rw [List.length_map, List.length_cons]
      omega
    have m0 := Int.emod_nonneg k (show (((n :: r).map V.int).length : Int) ≠ 0 by omega)
    have m1 := Int.emod_lt_of_pos k hlen
    obtain ⟨j, hj⟩ : ∃ j : Nat, k % (((n :: r).map V.int).length : Int) = (j : Int) := ⟨_, (Int.toNat_of_nonneg m0).symm⟩
    have hlt : j < (n :: r).length := by
      rw [hj, List.length_map] at m1
      omega
    have hat : atI ((n :: r).map V.int) (k % (((n :: r).map V.int).length : Int)) = some (.int ((n :: r)[j])) := by
      rw [hj]
      exact atI_nat (by rw [List.getElem?_map, List.getElem?_eq_getElem hlt]; rfl)
    refine iteT ⟨.ref a, rfl, .int k, rfl, .ref a, rfl, a, _, rfl, .inl hS1, k, _, rfl, rfl, hlen, a, _, _, _, rfl, rfl, hS1, hat, ?_⟩
    rotate_left
    refine iteF ?_
    all_goals (refine ⟨_, rfl, 10, 18, rfl, rfl, ⟨by decide, by decide, by decide⟩, _, _, rfl, rfl, _, rfl, ?_⟩)
    all_goals (refine ite2 (fun e => ⟨_, rfl, ?_⟩) (fun e => ?_))
    all_goals (refine ⟨.int k, rfl, .ref a, rfl, a, _, rfl, .inl hS1, 1, _, rfl, k, _, rfl, rfl, ?_, _, rfl, ?_⟩)
    all_goals first
      | (show CDivW _ _
         simp only [List.length_map, List.length_nil, List.length_cons] at hl ⊢
         exact divBd (by split <;> omega) (by split <;> omega))
      | skip
    all_goals (refine ⟨(div_in k0 k1 (le_max1 _)).1, (div_in k0 k1 (le_max1 _)).2, for_range (fun i σ H' => H' = upd H p (.lst []) ∧ ∃ own t, σ = [some (.ref a), some (.int k), some (.int _), some (.int own), t] ∧ 0 ≤ own) ⟨rfl, _, _, rfl, ?_⟩ ?_ ?_⟩)
    all_goals first
      | (rintro i σ H' hi ⟨rfl, own, t, rfl, h0⟩
         refine ⟨_, rfl, 10, 18, rfl, rfl, ⟨by decide, by decide, by decide⟩, own, _, rfl, rfl, divBd (by decide) (by decide), ?_⟩
         exact ⟨rfl, _, _, rfl, Int.ediv_nonneg h0 (by decide)⟩)
      | (rintro σ H' ⟨rfl, own, t, rfl, h0⟩
         refine ⟨_, rfl, .int k, rfl, 64, k, rfl, rfl, mulBd (by decide) (by decide) (by omega) (by omega), _, rfl, sz16 (by show 3 ≤ 16000000; decide), fun d hd => ?_⟩
         exact q d _ (e1.trans (Evl.Ex.new hd)) (Evl.fresh_back e1 hd) ⟨_, own, upd_same, h0, by omega⟩)
      | exact Int.le_trans (show (0 : Int) ≤ 10 ^ Int.toNat 18 by decide) (of_decide_eq_true e)
      | exact Int.le_refl _

/-! ### drawn books -/
def spSome : Sp := fun vs H Q _ => ∃ (d p : Addr) (c : Int) (xs : List V), vs = [.ref d, .ref p] ∧ Drw H d c ∧ c ≤ 10 ^ 10 ∧ H p = some (.lst xs) ∧ d ≠ p ∧ 1 ≤ xs.length ∧ xs.length ≤ 10 ∧
  ∀ (q : Addr) (c' : Int) (ys : List V) (H' : Hp), (∀ y ∈ ys, y ∈ xs) → ys.length ≤ xs.length → c ≤ c' → c' ≤ c + 2 → But d H H' → Drw H' d c' → H q = none → H' q = some (.lst ys) → Q (.ref q) H'
theorem cutV_mem {xs : List V} {a b : Option Int} {y : V} (h : y ∈ cutV xs a b) : y ∈ xs := List.mem_of_mem_drop (List.mem_of_mem_take h)
theorem ok__law_some (T : Tx K mg) : Cal P w K mg base 3 "_law_some" ["draw", "things"] spSome := by
  have G__law_next : Cal P w K mg base 2 "_law_next" ["draw", "many"] spNext := ok__law_next T
  refine T.d__law_some.cal sc__law_some (fun vs H Q E h => ?_) (fun f cdv A outer s H vs Q E hr h => ?_)
  · obtain ⟨_, _, _, _, rfl, _⟩ := h
    rfl
  · obtain ⟨d, p, c, xs, rfl, hd, c1, hp, ne, l1, l2, q⟩ := h
    refine ⟨_, (pss_cons (ps_set (i := 2) sc__law_some.nd rfl (.inl rfl) (pe_cal G__law_next hr (by rfl) (pa_cons (pv 0) (pa_cons (pe_callB call_len_seq (by rfl) T.b_len (by decide +kernel) (pa_cons (pv 1) pa_nil)) pa_nil))))
    (pss_one (ps_ret (pe_slice sl_list (pe_op op_cat (pe_slice sl_list (pv 1) (po_some (pv 2)) po_none) (pe_slice sl_list (pv 1) po_none (po_some (pv 2)))) po_none (po_some (pe_cal G__law_next hr (by rfl) (pa_cons (pv 0) (pa_cons (pe_op op_add (pe_callB call_len_seq (by rfl) T.b_len (by decide +kernel) (pa_cons (pv 1) pa_nil)) pe_int) pa_nil)))))))), ?_⟩
    refine ⟨.ref d, rfl, .ref p, rfl, p, xs, rfl, .inl (SqL.of hp), d, xs.length, c, rfl, hd, by omega, by omega, by omega, fun n c2 H2 n0 n1 k1 k2 b2 d2 => ?_⟩
    have hp2 := b2 p _ ne.symm hp
    refine ⟨.ref p, rfl, .int n, rfl, n, rfl, p, xs, rfl, SqL.of hp2, fun a ha => ?_⟩
    have hp3 := Evl.Ex.new (o := .lst (cutV xs (some n) none)) ha p _ hp2
    refine ⟨.ref p, rfl, .int n, rfl, n, rfl, p, xs, rfl, SqL.of hp3, fun b hb => ?_⟩
    have ha4 := Evl.Ex.new (o := .lst (cutV xs none (some n))) hb a _ (upd_same (H := H2) (o := .lst (cutV xs (some n) none)))
    have t1 := cutV_length xs (some n) none
    have t2 := cutV_length xs none (some n)
    refine ⟨a, b, _, _, rfl, rfl, ha4, upd_same, by rw [sizeLine_eq]; omega, fun g hg => ?_⟩
    have e3 := (Evl.Ex.new (o := .lst (cutV xs (some n) none)) ha).trans ((Evl.Ex.new (o := .lst (cutV xs none (some n))) hb).trans (Evl.Ex.new (o := .lst (cutV xs (some n) none ++ cutV xs none (some n))) hg))
    refine ⟨.ref d, rfl, .ref p, rfl, p, xs, rfl, .inl (SqL.of (e3 p _ hp2)), xs.length, 1, rfl, rfl, d, _, c2, rfl, d2.ex e3, by omega, by omega, by omega, fun m c5 H5 m0 m1 k3 k4 b5 d5 => ?_⟩
    have hg2 : H2 g = none := Evl.fresh_back ((Evl.Ex.new (o := .lst (cutV xs (some n) none)) ha).trans (Evl.Ex.new (o := .lst (cutV xs none (some n))) hb)) hg
    have hg5 := b5 g _ (d2.ne hg2).symm upd_same
    refine ⟨m, rfl, g, _, rfl, SqL.of hg5, fun r hr' => ?_⟩
    have bb : But d H H5 := b2.trans (But.exl e3 b5)
    have hr0 : H r = none := by
      cases z : H r with
      | none => rfl
      | some o =>
        by_cases er : r = d
        · obtain ⟨o', z'⟩ := d5.some
          rw [er, z'] at hr'
          cases hr'
        · rw [bb r o er z] at hr'
          cases hr'
    refine q r c5 _ _ (fun y hy => ?_) ?_ (by omega) (by omega) (bb.ex (Evl.Ex.new hr')) (d5.ex (Evl.Ex.new hr')) hr0 upd_same
    · have := cutV_mem hy
      rcases List.mem_append.mp this with h | h <;> exact cutV_mem h
    · have t3 := cutV_length (cutV xs (some n) none ++ cutV xs none (some n)) none (some m)
      have t4 : (cutV xs (some n) none ++ cutV xs none (some n)).length ≤ xs.length := by
        obtain ⟨j, rfl⟩ : ∃ j : Nat, n = (j : Int) := ⟨_, (Int.toNat_of_nonneg n0).symm⟩
        unfold cutV
        rw [HT.sIx_nat, HT.sIx_nat, HT.sIx_none, HT.sIx_none, List.length_append, List.length_take, List.length_drop, List.length_take, List.length_drop]
        omega
      omega

theorem tp_but {d : Addr} {H H' : Hp} {c : Int} (h : Drw H d c) (b : But d H H') : Tp H H' := fun x xs e => by
  obtain ⟨_, _, hd, _⟩ := h
  exact b x _ (ne_of e hd (by intro z; cases z)) e
theorem fresh_but {d p : Addr} {H H' : Hp} {c : Int} (b : But d H H') (h : Drw H' d c) (n : H' p = none) : H p = none := by
  cases z : H p with
  | none => rfl
  | some o =>
    by_cases e : p = d
    · obtain ⟨o', z'⟩ := h.some
      rw [e, z'] at n
      cases n
    · rw [b p o e z] at n
      cases n
def spTask : Sp := fun vs H Q _ => ∃ (d pm pg : Addr) (c : Int) (name : Str) (ms : List Str) (gxs : List V) (goods : List (Str × Int)), vs = [.ref d, .str name, .ref pm, .ref pg] ∧ Drw H d c ∧ c ≤ 10 ^ 10 ∧
  H pm = some (.lst (ms.map V.str)) ∧ d ≠ pm ∧ ms.length ≤ 10 ∧ H pg = some (.lst gxs) ∧ d ≠ pg ∧ RowsAt goodD H gxs goods ∧ goods.length ≤ 10 ∧ (∀ g ∈ goods, 1 ≤ g.2 ∧ g.2 ≤ 99) ∧
  ∀ (v : V) (c' : Int) (t : Tk) (H' : Hp), t.name = name → TaskOk t → c ≤ c' → c' ≤ c + 100 → But d H H' → Drw H' d c' → TD H' v (taskD t) → Q v H'
theorem ok__law_task (T : Tx K mg) : Cal P w K mg base 3 "_law_task" ["draw", "name", "machines", "goods"] spTask := by
  have G__law_next : Cal P w K mg base 2 "_law_next" ["draw", "many"] spNext := ok__law_next T
  refine T.d__law_task.cal sc__law_task (fun vs H Q E h => ?_) (fun f cdv A outer s H vs Q E hr h => ?_)
  · obtain ⟨_, _, _, _, _, _, _, _, rfl, _⟩ := h
    rfl
  · obtain ⟨d, pm, pg, c, name, ms, gxs, goods, rfl, hd, c1, hpm, nm, lms, hpg, ng, hrows, lg, gok, q⟩ := h
    refine ⟨_, (pss_cons (ps_set (i := 4) sc__law_task.nd rfl (.inl rfl) (pe_op op_add pe_int (pe_ix ix_list (pe_lst (pa_cons (pe_cal G__law_next hr (by rfl) (pa_cons (pv 0) (pa_cons pe_int pa_nil))) (pa_cons (pe_cal G__law_next hr (by rfl) (pa_cons (pv 0) (pa_cons pe_int pa_nil))) pa_nil))) (pe_op op_fdivW (pe_cal G__law_next hr (by rfl) (pa_cons (pv 0) (pa_cons pe_int pa_nil))) pe_int) (fun _ _ => rfl))))
    (pss_cons (ps_set (i := 5) sc__law_task.nd rfl (.inl rfl) (pe_ix ix_list (pe_op op_cat (pv 2) (pe_lst (pa_cons pe_str pa_nil))) (pe_cal G__law_next hr (by rfl) (pa_cons (pv 0) (pa_cons (pe_op op_add (pe_callB call_len_seq (by rfl) T.b_len (by decide +kernel) (pa_cons (pv 2) pa_nil)) pe_int) pa_nil))) (fun _ _ => rfl)))
    (pss_cons (ps_set (i := 6) sc__law_task.nd rfl (.inl rfl) (pe_lst pa_nil))
    (pss_cons (ps_for PassesOwn.never rfl (pi_list (pv 3)) (pg_tup (by rfl) (pgs_cons (pg_name (i := 7) sc__law_task.nd rfl (.inl rfl)) (pgs_cons (pg_name (i := 8) sc__law_task.nd rfl (.inl rfl)) pgs_nil))) (pss_one (ps_if (pt_cmpR op_eq (pe_cal G__law_next hr (by rfl) (pa_cons (pv 0) (pa_cons pe_int pa_nil))) pe_int (nomark _)) (pss_one (ps_expr (pe_bm PySem.F.plainAttrs_list PySem.F.slot_list_append PySem.F.type_list_append mt_append (pv 6) (pa_cons (pe_tup (pa_cons (pv 7) (pa_cons (pe_op op_add pe_int (pe_cal G__law_next hr (by rfl) (pa_cons (pv 0) (pa_cons (pv 8) pa_nil)))) pa_nil))) pa_nil)))) pss_nil)))
    (pss_cons (ps_set (i := 9) sc__law_task.nd rfl (.inl rfl) (pe_ix ix_list (pe_lst (pa_cons pe_int (pa_cons (pe_cal G__law_next hr (by rfl) (pa_cons (pv 0) (pa_cons pe_int pa_nil))) (pa_cons (pe_cal G__law_next hr (by rfl) (pa_cons (pv 0) (pa_cons pe_int pa_nil))) pa_nil)))) (pe_op op_fdivW (pe_cal G__law_next hr (by rfl) (pa_cons (pv 0) (pa_cons pe_int pa_nil))) pe_int) (fun _ _ => rfl)))
    (pss_cons (ps_set (i := 10) sc__law_task.nd rfl (.inl rfl) (pe_ix ix_list (pe_lst (pa_cons pe_non (pa_cons (pe_cal G__law_next hr (by rfl) (pa_cons (pv 0) (pa_cons pe_int pa_nil))) (pa_cons (pe_cal G__law_next hr (by rfl) (pa_cons (pv 0) (pa_cons pe_int pa_nil))) pa_nil)))) (pe_op op_fdivW (pe_cal G__law_next hr (by rfl) (pa_cons (pv 0) (pa_cons pe_int pa_nil))) pe_int) (fun _ _ => rfl)))
    (pss_one (ps_ret (pe_tup (pa_cons (pv 1) (pa_cons (pv 4) (pa_cons (pv 5) (pa_cons (pe_callTy call_tuple_of (by rfl) T.b_tuple (by decide +kernel) (pa_cons (pv 6) pa_nil)) (pa_cons (pv 9) (pa_cons (pv 10) (pa_cons (pe_ix ix_list (pe_lst (pa_cons pe_int (pa_cons pe_int (pa_cons (pe_cal G__law_next hr (by rfl) (pa_cons (pv 0) (pa_cons pe_int pa_nil))) pa_nil)))) (pe_cal G__law_next hr (by rfl) (pa_cons (pv 0) (pa_cons pe_int pa_nil))) (fun _ _ => rfl)) pa_nil)))))))))))))))), ?_⟩
    -- length
    refine ⟨.ref d, rfl, d, 6, c, rfl, hd, by decide, by decide, by omega, fun n1 c2 H1 a1 a2 a3 a4 b1 d1 => ?_⟩
    refine ⟨.ref d, rfl, d, 1000, c2, rfl, d1, by decide, by decide, by omega, fun n2 c3 H2 a5 a6 a7 a8 b2 d2 => ?_⟩
    refine ⟨sz16 (by show 2 ≤ 16000000; decide), fun p hp => ?_⟩
    refine ⟨.ref d, rfl, d, 8, c3, rfl, d2.upd (d2.ne hp), by decide, by decide, by omega, fun n3 c4 H3 a9 a10 a11 a12 b3 d3 => ?_⟩
    obtain ⟨v, hv, hat⟩ := at_mem (xs := [.int n1, .int n2]) (n := n3 / 7) (by omega) (by show n3 / 7 < 2; omega)
    obtain ⟨ln, rfl, ln0, ln1⟩ : ∃ ln : Int, v = .int ln ∧ 0 ≤ ln ∧ ln < 1000 := by
      simp only [List.mem_cons, List.not_mem_nil, or_false] at hv
      rcases hv with e | e <;> subst e
      · exact ⟨_, rfl, by omega, by omega⟩
      · exact ⟨_, rfl, by omega, by omega⟩
    refine ⟨n3, 7, rfl, rfl, divBd (by decide) (by decide), p, _, n3 / 7, _, rfl, rfl, SqL.of (b3 p _ (d2.ne hp).symm upd_same), hat, 1, ln, rfl, rfl, ?_⟩
    have B3 : But d H H3 := (b1.trans b2).trans (But.exl (Ex.new hp) b3)
    -- machine
    refine ⟨.ref pm, rfl, sz16 (by decide), fun p1 hp1 => ?_⟩
    have e1 : Ex H3 (upd H3 p1 (.lst [V.str ""])) := Ex.new hp1
    refine ⟨pm, p1, _, _, rfl, rfl, e1 _ _ (B3 pm _ nm.symm hpm), upd_same, by rw [List.length_map, sizeLine_eq]; show ms.length + 1 ≤ _; omega, fun p2 hp2 => ?_⟩
    have e2 : Ex H3 (upd (upd H3 p1 (.lst [V.str ""])) p2 (.lst (ms.map V.str ++ [V.str ""]))) := e1.trans (Ex.new hp2)
    have lcat : ((ms.map V.str ++ [V.str ""]).length : Int) = ms.length + 1 := by
      rw [List.length_append, List.length_map]
      rfl
    refine ⟨.ref d, rfl, .ref pm, rfl, pm, _, rfl, .inl (SqL.of (e2 _ _ (B3 pm _ nm.symm hpm))), _, 1, rfl, rfl, d, _, c4, rfl, d3.ex e2, by rw [List.length_map]; omega, by rw [List.length_map]; omega, by omega, fun n5 c5 H5 a13 a14 a15 a16 b5 d5 => ?_⟩
    obtain ⟨v, hv, hat5⟩ := at_mem (xs := ms.map V.str ++ [V.str ""]) a13 (by rw [lcat]; rw [List.length_map] at a14; exact a14)
    obtain ⟨mc, rfl⟩ : ∃ mc : Str, v = .str mc := by
      rcases List.mem_append.mp hv with h | h
      · obtain ⟨z, _, rfl⟩ := List.mem_map.mp h
        exact ⟨z, rfl⟩
      · exact ⟨"", List.mem_singleton.mp h⟩
    refine ⟨p2, _, n5, _, rfl, rfl, SqL.of (b5 p2 _ (d3.ne (Evl.fresh_back e1 hp2)).symm upd_same), hat5, ?_⟩
    have B5 : But d H H5 := B3.trans (But.exl e2 b5)
    -- needs
    refine ⟨sz16 (by decide), fun pn hpn => ?_⟩
    have hpn0 : H pn = none := fresh_but B5 d5 hpn
    have npn : d ≠ pn := hd.ne hpn0
    have B6 : But d H (upd H5 pn (.lst [])) := B5.ex (Ex.new hpn)
    have lgx := hrows.len
    refine ⟨.ref pg, rfl, pg, rfl, ⟨_, SqL.of (B6 pg _ ng.symm hpg)⟩, for_list (K := K) (a := pg) (xs := gxs) (fun i σ H' => ∃ (c' : Int) (nv : List V) (needs : List (Str × Int)) (t7 t8 : Option V), σ = [some (.ref d), some (.str name), some (.ref pm), some (.ref pg), some (.int (1 + ln)), some (.str mc), some (.ref pn), t7, t8, none, none] ∧
        c5 ≤ c' ∧ c' ≤ c5 + 2 * i ∧ But d H H' ∧ Drw H' d c' ∧ H' pn = some (.lst nv) ∧ RowsAt goodD H' nv needs ∧ needs.length ≤ i)
      ⟨c5, [], [], none, none, rfl, Int.le_refl _, by omega, B6, d5.upd npn, upd_same, .nil, Nat.le_refl _⟩ (fun i σ H' _ h => ?_) ?_ ?_⟩
    · obtain ⟨c', nv, needs, t7, t8, _, _, _, b, _⟩ := h
      exact SqL.of (b pg _ ng.symm hpg)
    · rintro i x σ H' hx ⟨c', nv, needs, t7, t8, rfl, x1, x2, x3, x4, x5, x6, x7⟩
      obtain ⟨g, hg, ht⟩ := hrows.get hx
      have hi : i < goods.length := by
        rcases Nat.lt_or_ge i goods.length with h | h
        · exact h
        · rw [List.getElem?_eq_none h] at hg
          cases hg
      obtain ⟨gn, gm⟩ := g
      obtain ⟨pt, rfl, hpt⟩ := good_parts (TD.tp (tp_but hd x3) ht)
      obtain ⟨g1, g2⟩ := gok _ (List.mem_of_getElem? hg)
      refine ⟨pt, _, rfl, SqT.of hpt, rfl, _, _, rfl, _, _, rfl, rfl, ?_⟩
      refine ⟨.ref d, rfl, d, 2, c', rfl, x4, by decide, by decide, by omega, fun n6 c6 H6 a17 a18 a19 a20 b6 d6 => ⟨rfl, _, rfl, ite2 (fun e => ?_) (fun e => ?_)⟩⟩
      · refine ⟨.ref pn, rfl, .inl ⟨rfl, _, SqL.of (b6 pn _ npn.symm x5)⟩, .str gn, rfl, .ref d, rfl, .int gm, rfl, d, gm, c6, rfl, d6, by omega, by omega, by omega, fun n7 c7 H7 a21 a22 a23 a24 b7 d7 => ?_⟩
        refine ⟨1, n7, rfl, rfl, sz16 (by show 2 ≤ 16000000; decide), fun t ht7 => ?_⟩
        have h7 := b7 pn _ npn.symm (b6 pn _ npn.symm x5)
        have h8 := Ex.new (o := .tup [.str gn, .int (1 + n7)]) ht7 pn _ h7
        refine ⟨pn, nv, .ref t, rfl, rfl, h8, by rw [x6.len, sizeLine_eq]; omega, ?_⟩
        have ex7 : Ex H7 (upd H7 t (.tup [.str gn, .int (1 + n7)])) := Ex.new ht7
        have tp7 : Tp H' (upd H7 t (.tup [.str gn, .int (1 + n7)])) := (tp_but x4 (b6.trans b7)).trans (Tp.ex ex7)
        refine ⟨c7, nv ++ [.ref t], needs ++ [(gn, 1 + n7)], _, _, rfl, by omega, by omega, (((x3.trans b6).trans b7).ex ex7).mut hpn0, (d7.ex ex7).upd npn, upd_same, ?_, by rw [List.length_append]; show needs.length + 1 ≤ i + 1; omega⟩
        have w1 : RowsAt goodD (upd H7 t (.tup [.str gn, .int (1 + n7)])) (nv ++ [.ref t]) (needs ++ [(gn, 1 + n7)]) := by
          unfold RowsAt
          rw [List.map_append]
          exact TDs.append (RowsAt.tp tp7 x6) (.cons (.tup upd_same (.cons (.str _) (.cons (.int _) .nil))) .nil)
        exact RowsAt.tp (Tp.upd h8) w1
      · refine ⟨c6, nv, needs, _, _, rfl, by omega, by omega, x3.trans b6, d6, b6 pn _ npn.symm x5, RowsAt.tp (tp_but x4 b6) x6, by omega⟩
    · rintro σ H' ⟨c', nv, needs, t7, t8, rfl, x1, x2, x3, x4, x5, x6, x7⟩
      rw [lgx] at x2 x7
      -- first
      refine ⟨.ref d, rfl, d, 20, c', rfl, x4, by decide, by decide, by omega, fun m1 k1 I1 y1 y2 y3 y4 z1 w1 => ?_⟩
      refine ⟨.ref d, rfl, d, 1000001, k1, rfl, w1, by decide, by decide, by omega, fun m2 k2 I2 y5 y6 y7 y8 z2 w2 => ?_⟩
      refine ⟨sz16 (by show 3 ≤ 16000000; decide), fun r1 hr1 => ?_⟩
      refine ⟨.ref d, rfl, d, 12, k2, rfl, w2.upd (w2.ne hr1), by decide, by decide, by omega, fun m3 k3 I3 y9 y10 y11 y12 z3 w3 => ?_⟩
      obtain ⟨v, hv, hat6⟩ := at_mem (xs := [.int 0, .int m1, .int m2]) (n := m3 / 5) (by omega) (by show m3 / 5 < 3; omega)
      obtain ⟨fr, rfl, fr0, fr1⟩ : ∃ fr : Int, v = .int fr ∧ 0 ≤ fr ∧ fr ≤ 1000000 := by
        simp only [List.mem_cons, List.not_mem_nil, or_false] at hv
        rcases hv with e | e | e <;> subst e
        · exact ⟨_, rfl, by decide, by decide⟩
        · exact ⟨_, rfl, by omega, by omega⟩
        · exact ⟨_, rfl, by omega, by omega⟩
      refine ⟨m3, 5, rfl, rfl, divBd (by decide) (by decide), r1, _, m3 / 5, _, rfl, rfl, SqL.of (z3 r1 _ (w2.ne hr1).symm upd_same), hat6, ?_⟩
      have Z3 : But d H' I3 := (z1.trans z2).trans (But.exl (Ex.new hr1) z3)
      -- due
      refine ⟨.ref d, rfl, d, 40, k3, rfl, w3, by decide, by decide, by omega, fun m4 k4 I4 y13 y14 y15 y16 z4 w4 => ?_⟩
      refine ⟨.ref d, rfl, d, 1000001, k4, rfl, w4, by decide, by decide, by omega, fun m5 k5 I5 y17 y18 y19 y20 z5 w5 => ?_⟩
      refine ⟨sz16 (by show 3 ≤ 16000000; decide), fun r2 hr2 => ?_⟩
      refine ⟨.ref d, rfl, d, 12, k5, rfl, w5.upd (w5.ne hr2), by decide, by decide, by omega, fun m6 k6 I6 y21 y22 y23 y24 z6 w6 => ?_⟩
      obtain ⟨v, hv, hat7⟩ := at_mem (xs := [.non, .int m4, .int m5]) (n := m6 / 5) (by omega) (by show m6 / 5 < 3; omega)
      obtain ⟨du, rfl, du0⟩ : ∃ du : Option Int, v = dueV du ∧ ∀ x, du = some x → 0 ≤ x ∧ x ≤ 1000000 := by
        simp only [List.mem_cons, List.not_mem_nil, or_false] at hv
        rcases hv with e | e | e <;> subst e
        · exact ⟨none, rfl, fun x h => nomatch h⟩
        · exact ⟨some m4, rfl, fun x h => by cases h; omega⟩
        · exact ⟨some m5, rfl, fun x h => by cases h; omega⟩
      refine ⟨m6, 5, rfl, rfl, divBd (by decide) (by decide), r2, _, m6 / 5, _, rfl, rfl, SqL.of (z6 r2 _ (w5.ne hr2).symm upd_same), hat7, ?_⟩
      have Z6 : But d H' I6 := Z3.trans ((z4.trans z5).trans (But.exl (Ex.new hr2) z6))
      -- the row
      have hn6 := Z6 pn _ npn.symm x5
      refine ⟨.str name, rfl, .int (1 + ln), rfl, .str mc, rfl, .ref pn, rfl, pn, nv, rfl, .inl ⟨SqL.of hn6, fun qn hqn => ?_⟩⟩
      have eq1 : Ex I6 (upd I6 qn (.tup nv)) := Ex.new hqn
      refine ⟨.int fr, rfl, dueV du, rfl, .ref d, rfl, d, 1001, k6, rfl, w6.ex eq1, by decide, by decide, by omega, fun m7 k7 I7 y25 y26 y27 y28 z7 w7 => ?_⟩
      refine ⟨sz16 (by show 3 ≤ 16000000; decide), fun r3 hr3 => ?_⟩
      refine ⟨.ref d, rfl, d, 3, k7, rfl, w7.upd (w7.ne hr3), by decide, by decide, by omega, fun m8 k8 I8 y29 y30 y31 y32 z8 w8 => ?_⟩
      obtain ⟨v, hv, hat8⟩ := at_mem (xs := [.int 0, .int 1, .int m7]) y29 y30
      obtain ⟨wt, rfl, wt0, wt1⟩ : ∃ wt : Int, v = .int wt ∧ 0 ≤ wt ∧ wt ≤ 1000 := by
        simp only [List.mem_cons, List.not_mem_nil, or_false] at hv
        rcases hv with e | e | e <;> subst e
        · exact ⟨_, rfl, by decide, by decide⟩
        · exact ⟨_, rfl, by decide, by decide⟩
        · exact ⟨_, rfl, by omega, by omega⟩
      refine ⟨r3, _, m8, _, rfl, rfl, SqL.of (z8 r3 _ (w7.ne hr3).symm upd_same), hat8, sz16 (by show 7 ≤ 16000000; decide), fun u hu => ?_⟩
      have Z8 : But d I6 I8 := But.exl eq1 (z7.trans (But.exl (Ex.new hr3) z8))
      have ZZ : But d H' I8 := Z6.trans Z8
      have eu : Ex I8 (upd I8 u (.tup [.str name, .int (1 + ln), .str mc, .ref qn, .int fr, dueV du, .int wt])) := Ex.new hu
      have nq : d ≠ qn := w6.ne hqn
      have hq8 : I8 qn = some (.tup nv) := (z7.trans (But.exl (Ex.new hr3) z8)) qn _ nq.symm upd_same
      refine q (.ref u) k8 ⟨name, 1 + ln, mc, needs, fr, du, wt⟩ _ rfl ⟨by constructor <;> (dsimp only; omega), ⟨fr0, fr1⟩, du0, ⟨wt0, wt1⟩⟩ (by omega) (by omega) ((x3.trans ZZ).ex eu) (w8.ex eu) ?_
      refine .tup upd_same (.cons (.str _) (.cons (.int _) (.cons (.str _) (.cons (.tup (eu _ _ hq8) ?_) (.cons (.int _) (.cons ?_ (.cons (.int _) .nil)))))))
      · exact RowsAt.tp ((tp_but x4 ZZ).trans (Tp.ex eu)) x6
      · cases du with
        | none => exact .non
        | some x => exact .int x

def spWaits : Sp := fun vs H Q _ => ∃ (d : Addr) (many most c : Int), vs = [.ref d, .int many, .int most] ∧ Drw H d c ∧ c ≤ 10 ^ 10 ∧ 1 ≤ many ∧ many ≤ 30 ∧ 0 ≤ most ∧ most ≤ 60 ∧
  ∀ (v : V) (c' : Int) (ws : List Wt) (H' : Hp), (ws.length : Int) ≤ most → (∀ x ∈ ws, 0 ≤ x.a ∧ x.a < x.b ∧ x.b < many ∧ 0 ≤ x.gap ∧ x.gap ≤ 1000) → c ≤ c' → c' ≤ c + 1000 → But d H H' → Drw H' d c' → TD H' v (.tuple (ws.map waitD)) → Q v H'
theorem ok__law_waits (T : Tx K mg) : Cal P w K mg base 3 "_law_waits" ["draw", "many", "most"] spWaits := by
  have G__law_next : Cal P w K mg base 2 "_law_next" ["draw", "many"] spNext := ok__law_next T
  refine T.d__law_waits.cal sc__law_waits (fun vs H Q E h => ?_) (fun f cdv A outer s H vs Q E hr h => ?_)
  · obtain ⟨_, _, _, _, rfl, _⟩ := h
    rfl
  · obtain ⟨d, many, most, c, rfl, hd, c1, l1, l2, l3, l4, q⟩ := h
    refine ⟨_, (pss_cons (ps_set (i := 3) sc__law_waits.nd rfl (.inl rfl) (pe_lst pa_nil))
    (pss_cons (ps_for PassesOwn.never rfl (pi_range1 (by rfl) T.b_range (pa_cons (pe_ifExp (pt_cmpR op_gt (pv 1) pe_int (nomark _)) (pe_cal G__law_next hr (by rfl) (pa_cons (pv 0) (pa_cons (pe_op op_add (pv 2) pe_int) pa_nil))) pe_int) pa_nil)) (pg_name (i := 4) sc__law_waits.nd rfl (.inl rfl)) (pss_cons (ps_set (i := 5) sc__law_waits.nd rfl (.inl rfl) (pe_cal G__law_next hr (by rfl) (pa_cons (pv 0) (pa_cons (pe_op op_sub (pv 1) pe_int) pa_nil))))
    (pss_cons (ps_set (i := 6) sc__law_waits.nd rfl (.inl rfl) (pe_op op_add (pe_op op_add (pv 5) pe_int) (pe_cal G__law_next hr (by rfl) (pa_cons (pv 0) (pa_cons (pe_op op_sub (pe_op op_sub (pv 1) pe_int) (pv 5)) pa_nil)))))
    (pss_one (ps_expr (pe_bm PySem.F.plainAttrs_list PySem.F.slot_list_append PySem.F.type_list_append mt_append (pv 3) (pa_cons (pe_tup (pa_cons (pv 5) (pa_cons (pv 6) (pa_cons (pe_ix ix_list (pe_lst (pa_cons pe_int (pa_cons (pe_cal G__law_next hr (by rfl) (pa_cons (pv 0) (pa_cons pe_int pa_nil))) (pa_cons (pe_cal G__law_next hr (by rfl) (pa_cons (pv 0) (pa_cons pe_int pa_nil))) pa_nil)))) (pe_op op_fdivW (pe_cal G__law_next hr (by rfl) (pa_cons (pv 0) (pa_cons pe_int pa_nil))) pe_int) (fun _ _ => rfl)) pa_nil)))) pa_nil)))))))
    (pss_one (ps_ret (pe_callTy call_tuple_of (by rfl) T.b_tuple (by decide +kernel) (pa_cons (pv 3) pa_nil)))))), ?_⟩
    refine ⟨sz16 (by decide), fun pn hpn => ?_⟩
    have npn : d ≠ pn := hd.ne hpn
    have e0 : Ex H (upd H pn (.lst [])) := Ex.new hpn
    refine ⟨.int many, rfl, many, 1, rfl, rfl, _, rfl, ite2 (fun e => ?_) (fun e => ?_)⟩
    · have hm : (1 : Int) < many := of_decide_eq_true e
      refine ⟨.ref d, rfl, .int most, rfl, most, 1, rfl, rfl, d, most + 1, c, rfl, hd.ex e0, by omega, by omega, by omega, fun n c2 H2 n0 n1 k1 k2 b2 d2 => ?_⟩
      refine ⟨n, rfl, by omega, by omega, for_range (fun i σ H' => ∃ (c' : Int) (nv : List V) (ws : List Wt) (t4 t5 t6 : Option V), σ = [some (.ref d), some (.int many), some (.int most), some (.ref pn), t4, t5, t6] ∧ c2 ≤ c' ∧ c' ≤ c2 + 5 * i ∧
          But d H H' ∧ Drw H' d c' ∧ H' pn = some (.lst nv) ∧ RowsAt waitD H' nv ws ∧ ws.length ≤ i ∧ ∀ x ∈ ws, 0 ≤ x.a ∧ x.a < x.b ∧ x.b < many ∧ 0 ≤ x.gap ∧ x.gap ≤ 1000)
        ⟨c2, [], [], none, none, none, rfl, Int.le_refl _, by omega, But.exl e0 b2, d2, b2 pn _ npn.symm upd_same, .nil, Nat.le_refl _, fun _ h => nomatch h⟩ ?_ ?_⟩
      · rintro i σ H' hi ⟨c', nv, ws, t4, t5, t6, rfl, x1, x2, x3, x4, x5, x6, x7, x8⟩
        have hi61 : (i : Int) < 61 := by omega
        refine ⟨.ref d, rfl, .int many, rfl, many, 1, rfl, rfl, d, many - 1, c', rfl, x4, by omega, by omega, by omega, fun a c3 H3 a0 a1 a2 a3 b3 d3 => ?_⟩
        refine ⟨.int a, rfl, a, 1, rfl, rfl, .ref d, rfl, .int many, rfl, many, 1, rfl, rfl, .int a, rfl, many - 1, a, rfl, rfl, d, many - 1 - a, c3, rfl, d3, by omega, by omega, by omega, fun b c4 H4 a4 a5 a6 a7 b4 d4 => ⟨a + 1, b, rfl, rfl, ?_⟩⟩
        refine ⟨.ref pn, rfl, .inl ⟨rfl, _, SqL.of (b4 pn _ npn.symm (b3 pn _ npn.symm x5))⟩, .int a, rfl, .int (a + 1 + b), rfl, ?_⟩
        refine ⟨.ref d, rfl, d, 4, c4, rfl, d4, by decide, by decide, by omega, fun m1 k1 I1 y1 y2 y3 y4 z1 w1 => ?_⟩
        refine ⟨.ref d, rfl, d, 1001, k1, rfl, w1, by decide, by decide, by omega, fun m2 k2 I2 y5 y6 y7 y8 z2 w2 => ?_⟩
        refine ⟨sz16 (by show 3 ≤ 16000000; decide), fun r1 hr1 => ?_⟩
        refine ⟨.ref d, rfl, d, 8, k2, rfl, w2.upd (w2.ne hr1), by decide, by decide, by omega, fun m3 k3 I3 y9 y10 y11 y12 z3 w3 => ?_⟩
        obtain ⟨v, hv, hat6⟩ := at_mem (xs := [.int 0, .int m1, .int m2]) (n := m3 / 3) (by omega) (by show m3 / 3 < 3; omega)
        obtain ⟨gp, rfl, g0, g1⟩ : ∃ gp : Int, v = .int gp ∧ 0 ≤ gp ∧ gp ≤ 1000 := by
          simp only [List.mem_cons, List.not_mem_nil, or_false] at hv
          rcases hv with e | e | e <;> subst e
          · exact ⟨_, rfl, by decide, by decide⟩
          · exact ⟨_, rfl, by omega, by omega⟩
          · exact ⟨_, rfl, by omega, by omega⟩
        refine ⟨m3, 3, rfl, rfl, divBd (by decide) (by decide), r1, _, m3 / 3, _, rfl, rfl, SqL.of (z3 r1 _ (w2.ne hr1).symm upd_same), hat6, sz16 (by show 3 ≤ 16000000; decide), fun t ht => ?_⟩
        have B : But d H' I3 := (b3.trans b4).trans ((z1.trans z2).trans (But.exl (Ex.new hr1) z3))
        have eu : Ex I3 (upd I3 t (.tup [.int a, .int (a + 1 + b), .int gp])) := Ex.new ht
        have h8 := eu pn _ (B pn _ npn.symm x5)
        refine ⟨pn, nv, .ref t, rfl, rfl, h8, by rw [x6.len, sizeLine_eq]; omega, ?_⟩
        refine ⟨k3, nv ++ [.ref t], ws ++ [⟨a, a + 1 + b, gp⟩], _, _, _, rfl, by omega, by omega, ((x3.trans B).ex eu).mut hpn, (w3.ex eu).upd npn, upd_same, ?_, by rw [List.length_append]; show ws.length + 1 ≤ i + 1; omega, fun x hx => ?_⟩
        · have w1 : RowsAt waitD (upd I3 t (.tup [.int a, .int (a + 1 + b), .int gp])) (nv ++ [.ref t]) (ws ++ [⟨a, a + 1 + b, gp⟩]) := by
            unfold RowsAt
            rw [List.map_append]
            exact TDs.append (RowsAt.tp ((tp_but x4 B).trans (Tp.ex eu)) x6) (.cons (.tup upd_same (.cons (.int _) (.cons (.int _) (.cons (.int _) .nil)))) .nil)
          exact RowsAt.tp (Tp.upd h8) w1
        · rcases List.mem_append.mp hx with h | h
          · exact x8 x h
          · rw [List.mem_singleton.mp h]
            refine ⟨a0, ?_, ?_, g0, g1⟩ <;> (dsimp only; omega)
      · rintro σ H' ⟨c', nv, ws, t4, t5, t6, rfl, x1, x2, x3, x4, x5, x6, x7, x8⟩
        refine ⟨.ref pn, rfl, pn, nv, rfl, .inl ⟨SqL.of x5, fun u hu => ?_⟩⟩
        have eu : Ex H' (upd H' u (.tup nv)) := Ex.new hu
        exact q _ c' ws _ (by omega) x8 (by omega) (by omega) (x3.ex eu) (x4.ex eu) (.tup upd_same (RowsAt.tp (Tp.ex eu) x6))
    · refine ⟨0, rfl, by decide, by decide, for_range (fun i σ H' => H' = upd H pn (.lst []) ∧ σ = [some (.ref d), some (.int many), some (.int most), some (.ref pn), none, none, none]) ⟨rfl, rfl⟩ (fun i σ H' hi _ => absurd hi (Nat.not_lt_zero _)) ?_⟩
      rintro σ H' ⟨rfl, rfl⟩
      refine ⟨.ref pn, rfl, pn, [], rfl, .inl ⟨SqL.of upd_same, fun u hu => ?_⟩⟩
      have eu : Ex (upd H pn (.lst [])) (upd (upd H pn (.lst [])) u (.tup [])) := Ex.new hu
      exact q _ c [] _ (by simpa using l3) (fun _ h => nomatch h) (Int.le_refl _) (by omega) (But.of (e0.trans eu)) (hd.ex (e0.trans eu)) (.tup upd_same .nil)

theorem strs_of {xs ys : List V} (h : ∀ y ∈ ys, y ∈ xs) (hx : ∀ x ∈ xs, ∃ z : Str, x = .str z) : ∃ zs : List Str, ys = zs.map V.str := by
  induction ys with
  | nil => exact ⟨[], rfl⟩
  | cons y r ih =>
    obtain ⟨zs, rfl⟩ := ih fun z hz => h z (List.mem_cons_of_mem _ hz)
    obtain ⟨z, rfl⟩ := hx y (h y List.mem_cons_self)
    exact ⟨z :: zs, rfl⟩
theorem at_nat2 {α : Type} {xs : List α} {j : Nat} {v : α} {n : Int} (e : n = (j : Int)) (h : xs[j]? = some v) : atI xs n = some v := by
  rw [e]
  exact atI_nat h
def spBook (K : PySem.W.Frag) : Sp := fun vs H Q _ => ∃ (a : Addr) (ns : List Int) (most : Int), vs = [.ref a, .int most] ∧ SqL K H a (ns.map V.int) ∧ ns.length ≤ 63 ∧ 1 ≤ most ∧ most ≤ 30 ∧
  ∀ (v : V) (b : Bk) (H' : Hp), BookOk b most → Ex H H' → TD H' v (bookD b) → Q v H'
theorem ok__law_book (T : Tx K mg) : Cal P w K mg base 4 "_law_book" ["script", "most"] (spBook K) := by
  have G__law_next : Cal P w K mg base 2 "_law_next" ["draw", "many"] spNext := ok__law_next T
  have G__law_draw : Cal P w K mg base 1 "_law_draw" ["script", "k"] (spDraw K) := ok__law_draw T
  have G__law_some : Cal P w K mg base 3 "_law_some" ["draw", "things"] spSome := ok__law_some T
  have G__law_task : Cal P w K mg base 3 "_law_task" ["draw", "name", "machines", "goods"] spTask := ok__law_task T
  have G__law_waits : Cal P w K mg base 3 "_law_waits" ["draw", "many", "most"] spWaits := ok__law_waits T
  refine T.d__law_book.cal sc__law_book (fun vs H Q E h => ?_) (fun f cdv A outer s H vs Q E hr h => ?_)
  · obtain ⟨_, _, _, rfl, _⟩ := h
    rfl
  · obtain ⟨a, ns, most, rfl, hS, hl, m0, m1, q⟩ := h
    refine ⟨_, (pss_cons (ps_set (i := 2) sc__law_book.nd rfl (.inr rfl) (pe_cal G__law_draw (hr.mono (by decide)) (by rfl) (pa_cons (pv 0) (pa_cons pe_int pa_nil))))
    (pss_cons (ps_set (i := 3) sc__law_book.nd rfl (.inr rfl) (pe_cal G__law_some hr (by rfl) (pa_cons (pv 2) (pa_cons (pe_lst (pa_cons pe_str (pa_cons pe_str (pa_cons pe_str (pa_cons pe_str (pa_cons pe_str (pa_cons pe_str pa_nil))))))) pa_nil))))
    (pss_cons (ps_set (i := 4) sc__law_book.nd rfl (.inr rfl) (pe_lc (own := [("name", 11)]) rfl sc__law_book.nd (pi_list (pe_cal G__law_some hr (by rfl) (pa_cons (pv 2) (pa_cons (pe_lst (pa_cons pe_str (pa_cons pe_str (pa_cons pe_str (pa_cons pe_str pa_nil))))) pa_nil)))) (blkOk_by (own := [("name", 11)]) (N := N__law_book) (sc := defScope s__law_book) (by decide +kernel)) (fun _ _ _ _ _ => (pg_name (i := 11) sc__law_book.nd rfl (.inl rfl))) (fun _ _ _ _ _ => pts_nil) (fun _ _ _ _ _ => (pe_tup (pa_cons (pv 11) (pa_cons (pe_ix (ixL (K := K)) (pe_lst (pa_cons pe_int (pa_cons pe_int (pa_cons pe_int (pa_cons pe_int pa_nil))))) (pe_cal G__law_next (hr.mono (by decide)) (by rfl) (pa_cons (pv 2) (pa_cons pe_int pa_nil))) (fun _ _ => rfl)) pa_nil))))))
    (pss_cons (ps_set (i := 5) sc__law_book.nd rfl (.inl rfl) (pe_op op_add pe_int (pe_cal G__law_next (hr.mono (by decide)) (by rfl) (pa_cons (pv 2) (pa_cons (pv 1) pa_nil)))))
    (pss_cons (ps_set (i := 6) sc__law_book.nd rfl (.inr rfl) (pe_lc (own := [("k", 10)]) rfl sc__law_book.nd (pi_range1 (by rfl) T.b_range (pa_cons (pv 5) pa_nil)) (blkOk_by (own := [("k", 10)]) (N := N__law_book) (sc := defScope s__law_book) (by decide +kernel)) (fun _ _ _ _ _ => (pg_name (i := 10) sc__law_book.nd rfl (.inl rfl))) (fun _ _ _ _ _ => pts_nil) (fun _ _ _ _ _ => (pe_slice sl_str (pe_op op_add_str pe_str pe_str) (po_some (pv 10)) (po_some (pe_op op_add (pe_op op_add (pv 10) pe_int) (pe_op op_mod (pv 10) pe_int)))))))
    (pss_cons (ps_if (pt_cmpR op_eq (pe_cal G__law_next (hr.mono (by decide)) (by rfl) (pa_cons (pv 2) (pa_cons pe_int pa_nil))) pe_int (nomark _)) (pss_one (ps_set (i := 6) sc__law_book.nd rfl (.inr rfl) (pe_revL (pv 6)))) pss_nil)
    (pss_cons (ps_setLc (i := 7) (own := [("k", 10)]) rfl sc__law_book.nd rfl rfl (sw_true rfl rfl rfl (by decide +kernel)) (pi_range1 (by rfl) T.b_range (pa_cons (pv 5) pa_nil)) (blkOk_by (own := [("k", 10)]) (N := N__law_book) (sc := defScope s__law_book) (by decide +kernel)) (fun _ _ _ _ _ => (pg_name (i := 10) sc__law_book.nd rfl (.inl rfl))) (fun _ _ _ _ _ => pts_nil) (fun _ _ _ _ _ => (pe_cal G__law_task hr (by rfl) (pa_cons (pe_cal G__law_draw (hr.mono (by decide)) (by rfl) (pa_cons (pv 0) (pa_cons (pe_op op_add pe_int (pv 10)) pa_nil))) (pa_cons (pe_ix (ixL (K := K)) (pv 6) (pv 10) (fun _ _ => rfl)) (pa_cons (pv 3) (pa_cons (pv 4) pa_nil)))))))
    (pss_cons (ps_set (i := 2) sc__law_book.nd rfl (.inr rfl) (pe_cal G__law_draw (hr.mono (by decide)) (by rfl) (pa_cons (pv 0) (pa_cons pe_int pa_nil))))
    (pss_cons (ps_set (i := 8) sc__law_book.nd rfl (.inl rfl) (pe_cal G__law_waits hr (by rfl) (pa_cons (pv 2) (pa_cons (pv 5) (pa_cons (pe_op op_mulX pe_int (pv 5)) pa_nil)))))
    (pss_cons (ps_set (i := 9) sc__law_book.nd rfl (.inl rfl) (pe_lst pa_nil))
    (pss_cons (ps_for PassesOwn.never rfl (pi_range1 (by rfl) T.b_range (pa_cons (pv 5) pa_nil)) (pg_name (i := 10) sc__law_book.nd rfl (.inl rfl)) (pss_one (ps_if (pt_cmpR op_eq (pe_cal G__law_next (hr.mono (by decide)) (by rfl) (pa_cons (pv 2) (pa_cons pe_int pa_nil))) pe_int (nomark _)) (pss_one (ps_expr (pe_bm PySem.F.plainAttrs_list PySem.F.slot_list_append PySem.F.type_list_append mt_append (pv 9) (pa_cons (pe_tup (pa_cons (pv 10) (pa_cons (pe_callB (call_min2 rfl) (by rfl) T.b_min (by decide +kernel) (pa_cons pe_int (pa_cons (pe_op op_add (pe_ix ix_tup (pe_ix ix_list (pv 7) (pv 10) (fun _ _ => rfl)) pe_int (fun _ _ => rfl)) (pe_cal G__law_next (hr.mono (by decide)) (by rfl) (pa_cons (pv 2) (pa_cons pe_int pa_nil)))) pa_nil))) pa_nil))) pa_nil)))) pss_nil)))
    (pss_one (ps_ret (pe_tup (pa_cons (pe_callTy call_tuple_of (by rfl) T.b_tuple (by decide +kernel) (pa_cons (pv 3) pa_nil)) (pa_cons (pe_callTy call_tuple_of (by rfl) T.b_tuple (by decide +kernel) (pa_cons (pv 4) pa_nil)) (pa_cons (pe_callTy call_tuple_of (by rfl) T.b_tuple (by decide +kernel) (pa_cons (pv 7) pa_nil)) (pa_cons (pv 8) (pa_cons (pe_callTy call_tuple_of (by rfl) T.b_tuple (by decide +kernel) (pa_cons (pv 9) pa_nil)) pa_nil))))))))))))))))))), ?_⟩
    -- draw, machines
    refine ⟨.ref a, rfl, a, ns, 0, rfl, hS, hl, by decide, by decide, fun d H1 e1 hd d1 => ?_⟩
    refine ⟨.ref d, rfl, sz16 (by decide), fun p hp => ?_⟩
    refine ⟨d, p, _, _, rfl, d1.upd (d1.ne hp), by decide, upd_same, d1.ne hp, by decide, by decide, fun pm c2 ys H2 s1 s2 k1 k2 b2 d2 hpm0 hpm => ?_⟩
    obtain ⟨ms, rfl⟩ := strs_of s1 fun x hx => by
      simp only [List.mem_cons, List.not_mem_nil, or_false] at hx
      rcases hx with e | e | e | e | e | e <;> exact ⟨_, e⟩
    have lms : ms.length ≤ 6 := by
      rw [List.length_map] at s2
      exact s2
    have E2 : Ex H H2 := But.toEx (e1.trans (Ex.new hp)) b2 hd
    have npm : d ≠ pm := (d1.upd (o := .lst _) (d1.ne hp)).ne hpm0
    -- goods
    refine ⟨.ref d, rfl, sz16 (by decide), fun p2 hp2 => ?_⟩
    refine ⟨d, p2, c2, _, rfl, d2.upd (d2.ne hp2), by omega, upd_same, d2.ne hp2, by decide, by decide, fun p3 c3 gs H3 s3 s4 k3 k4 b3 d3 _ hp3 => ?_⟩
    obtain ⟨gns, rfl⟩ := strs_of s3 fun x hx => by
      simp only [List.mem_cons, List.not_mem_nil, or_false] at hx
      rcases hx with e | e | e | e <;> exact ⟨_, e⟩
    have lgn : gns.length ≤ 4 := by
      rw [List.length_map] at s4
      exact s4
    have E3 : Ex H H3 := But.toEx (E2.trans (Ex.new hp2)) b3 hd
    have hpm3 : H3 pm = some (.lst (ms.map V.str)) := b3 pm _ npm.symm (Ex.new hp2 pm _ hpm)
    refine ⟨p3, rfl, ⟨_, SqL.of hp3⟩, fun D hD => ?_⟩
    have np3 : d ≠ p3 := fun e => by
      obtain ⟨_, _, h, _⟩ := d3
      rw [e, hp3] at h
      have := HO.lst.inj (Option.some.inj h)
      cases gns with
      | nil => cases this
      | cons g r => cases (List.cons.inj this).1
    have hD0 : H D = none := Evl.fresh_back E3 hD
    have nD : d ≠ D := d3.ne hD
    refine lc_list (K := K) (a := p3) (xs := gns.map V.str) (fun i H' => ∃ (c' : Int) (nv : List V) (goods : List (Str × Int)), c3 ≤ c' ∧ c' ≤ c3 + i ∧ But d H3 H' ∧ Drw H' d c' ∧ H' D = some (.lst nv) ∧ RowsAt goodD H' nv goods ∧ goods.length = i ∧ ∀ g ∈ goods, 1 ≤ g.2 ∧ g.2 ≤ 99)
      ⟨c3, [], [], Int.le_refl _, by omega, But.of (Ex.new hD), d3.upd nD, upd_same, .nil, rfl, fun _ h => nomatch h⟩ (fun i H' _ h => ?_) ?_ ?_
    · obtain ⟨_, _, _, _, _, b, _⟩ := h
      exact SqL.of (b p3 _ np3.symm hp3)
    · rintro i x H' hx ⟨c', nv, goods, x1, x2, x3, x4, x5, x6, x7, x8⟩
      obtain ⟨gn, rfl⟩ : ∃ gn : Str, x = .str gn := by
        obtain ⟨z, _, e⟩ := List.mem_map.mp (List.mem_of_getElem? hx)
        exact ⟨z, e.symm⟩
      have hi : i < gns.length := by
        rcases Nat.lt_or_ge i gns.length with h | h
        · exact h
        · rw [List.getElem?_eq_none (by rw [List.length_map]; exact h)] at hx
          cases hx
      refine ⟨rfl, .str gn, rfl, sz16 (by decide), fun r hr1 => ?_⟩
      refine ⟨.ref d, rfl, d, 4, c', rfl, x4.upd (x4.ne hr1), by decide, by decide, by omega, fun n c4 H4 n0 n1 y1 y2 b4 d4 => ?_⟩
      obtain ⟨v, hv, hat⟩ := at_mem (xs := [.int 1, .int 2, .int 3, .int 99]) n0 n1
      obtain ⟨gm, rfl, gm0, gm1⟩ : ∃ gm : Int, v = .int gm ∧ 1 ≤ gm ∧ gm ≤ 99 := by
        simp only [List.mem_cons, List.not_mem_nil, or_false] at hv
        rcases hv with e | e | e | e <;> subst e <;> exact ⟨_, rfl, by decide, by decide⟩
      refine ⟨r, _, n, _, rfl, rfl, SqL.of (b4 r _ (x4.ne hr1).symm upd_same), hat, sz16 (by show 2 ≤ 16000000; decide), fun t ht => ?_⟩
      have eu : Ex H4 (upd H4 t (.tup [.str gn, .int gm])) := Ex.new ht
      have B : But d H' H4 := But.exl (Ex.new hr1) b4
      have h8 := eu D _ (B D _ nD.symm x5)
      refine ⟨nv, h8, by rw [x6.len, sizeLine_eq]; omega, c4, nv ++ [.ref t], goods ++ [(gn, gm)], by omega, by omega, ((x3.trans B).ex eu).mut hD, (d4.ex eu).upd nD, upd_same, ?_, by rw [List.length_append, x7]; rfl, fun g hg => ?_⟩
      · have w1 : RowsAt goodD (upd H4 t (.tup [.str gn, .int gm])) (nv ++ [.ref t]) (goods ++ [(gn, gm)]) := by
          unfold RowsAt
          rw [List.map_append]
          exact TDs.append (RowsAt.tp ((tp_but x4 B).trans (Tp.ex eu)) x6) (.cons (.tup upd_same (.cons (.str _) (.cons (.int _) .nil))) .nil)
        exact RowsAt.tp (Tp.upd h8) w1
      · rcases List.mem_append.mp hg with h | h
        · exact x8 g h
        · rw [List.mem_singleton.mp h]
          exact ⟨gm0, gm1⟩
    · rintro H4 ⟨c4, gv, goods, x1, x2, b4, d4, hgo, rgo, lgo, gok⟩
      rw [List.length_map] at x2 lgo
      have E4 : Ex H H4 := But.toEx E3 b4 hd
      have hpm4 := b4 pm _ npm.symm hpm3
      -- many
      refine ⟨.ref d, rfl, .int most, rfl, d, most, c4, rfl, d4, by omega, by omega, by omega, fun n c5 H5 n0 n1 y1 y2 b5 d5 => ⟨1, n, rfl, rfl, ?_⟩⟩
      have E5 : Ex H H5 := But.toEx E4 b5 hd
      obtain ⟨mn, hmn⟩ : ∃ mn : Nat, 1 + n = (mn : Int) := ⟨_, (Int.toNat_of_nonneg (show 0 ≤ 1 + n by omega)).symm⟩
      have mt : (1 + n).toNat = mn := by omega
      -- names
      refine ⟨.int (1 + n), rfl, 1 + n, rfl, by omega, by omega, fun D2 hD2 => ?_⟩
      rw [mt]
      have hD20 : H D2 = none := Evl.fresh_back E5 hD2
      have e26 : Str.length ("abcdefghijklmnopqrstuvwxyz" : Str) = 26 := by decide +kernel
      have e5 : Str.length ("nooon" : Str) = 5 := by decide +kernel
      refine lc_range (fun i H' => ∃ zs : List Str, Ex H5 H' ∧ H' D2 = some (.lst (zs.map V.str)) ∧ zs.length = i) ⟨[], Ex.new hD2, upd_same, rfl⟩ ?_ ?_
      · rintro i H' hi ⟨zs, x3, x4, x5⟩
        refine ⟨rfl, _, _, rfl, rfl, sz16 (by rw [e26, e5]; decide), .int (0 + i), rfl, 0 + i, rfl, .int (0 + i), rfl, 0 + i, 1, rfl, rfl, .int (0 + i), rfl, 0 + i, 3, rfl, rfl, (show (0 : Int) < 3 by decide), _, _, rfl, rfl, _, rfl, ?_⟩
        refine ⟨_, rfl, sz16 ?_, _, x4, by rw [List.length_map, sizeLine_eq]; omega, zs ++ [_], x3.mut hD2, by rw [upd_same, List.map_append]; rfl, by rw [List.length_append, x5]; rfl⟩
        show (("abcdefghijklmnopqrstuvwxyz" : Str) ++ ("nooon" : Str)).cps.size ≤ 16000000
        decide +kernel
      · rintro H6 ⟨zs, e6, hz, lz⟩
        have d6 := d5.ex e6
        have E6 : Ex H H6 := E5.trans e6
        have B6 : But d H4 H6 := b5.ex e6
        refine ⟨.ref d, rfl, d, 2, c5, rfl, d6, by decide, by decide, by omega, fun n7 c7 H7 y3 y4 y5 y6 b7 d7 => ⟨rfl, _, rfl, ite2 (fun e => ⟨.ref D2, rfl, D2, _, rfl, SqL.of (b7 D2 _ (d5.ne hD2).symm hz), fun p7 hp7 => ?g1⟩) (fun e => ?g2)⟩⟩
        case' g1 =>
          have x7 : Ex H7 (upd H7 p7 (.lst (zs.map V.str).reverse)) := Ex.new hp7
          have hz8 : (upd H7 p7 (.lst (zs.map V.str).reverse)) p7 = some (.lst (zs.reverse.map V.str)) := by rw [upd_same, List.map_reverse]
          have lz8 : zs.reverse.length = mn := by rw [List.length_reverse]; exact lz
          generalize zs.reverse = zs2 at hz8 lz8
        case' g2 =>
          have x7 : Ex H7 H7 := Ex.refl _
          have hz8 := b7 D2 _ (d5.ne hD2).symm hz
          have lz8 := lz
        all_goals (have E8 := (But.toEx E6 b7 hd).trans x7)
        all_goals (have B8 : But d H4 _ := (B6.trans b7).ex x7)
        all_goals (have d8 := d7.ex x7)
        all_goals (have hpm8 := B8 pm _ npm.symm hpm4)
        all_goals (have hgo8 := B8 D _ nD.symm hgo)
        all_goals (have rgo8 := RowsAt.tp (tp_but d4 B8) rgo)
        -- tasks
        all_goals (refine ⟨.int (1 + n), rfl, 1 + n, rfl, by omega, by omega, fun D3 hD3 => ?_⟩)
        all_goals (rw [mt])
        all_goals (refine lc_range (fun i H' => ∃ (tv : List V) (tasks : List Tk), Ex _ H' ∧ H' D3 = some (.lst tv) ∧ RowsAt taskD H' tv tasks ∧ tasks.length = i ∧ ∀ t ∈ tasks, TaskOk t) ⟨[], [], Ex.new hD3, upd_same, .nil, rfl, fun _ h => nomatch h⟩ ?_ ?_)
        all_goals first
          | (rintro i H' hi ⟨tv, tasks, x1, x2, x3, x4, x5⟩
             have hi2 : (i : Int) < 30 := by omega
             obtain ⟨nm, hnm⟩ : ∃ nm : Str, atI (List.map V.str _) (0 + (i : Int)) = some (V.str nm) := ⟨_, at_nat2 (j := i) (Int.zero_add _) (by rw [List.getElem?_map, List.getElem?_eq_getElem (by rw [lz8]; exact hi)]; rfl)⟩
             refine ⟨rfl, .ref a, rfl, .int (0 + i), rfl, 2, 0 + i, rfl, rfl, a, ns, 2 + (0 + i), rfl, Evl.ex_l (E8.trans x1) hS, hl, by omega, by omega, fun dk H9 e9 hdk d9 => ?_⟩
             have x9 := x1.trans e9
             refine ⟨.ref _, rfl, .int (0 + i), rfl, _, _, 0 + i, .str nm, rfl, rfl, SqL.of (x9 _ _ hz8), hnm, .ref pm, rfl, .ref D, rfl, ?_⟩
             refine ⟨dk, pm, D, 64 * (2 + (0 + i)), nm, ms, gv, goods, rfl, d9, by omega, x9 _ _ hpm8, fun e => ?_, by omega, x9 _ _ hgo8, fun e => ?_, RowsAt.tp (Tp.ex x9) rgo8, by omega, gok, fun v c10 t H10 _ tok _ _ b10 d10 htd => ?_⟩
             · have := x1 _ _ hpm8
               rw [← e, hdk] at this
               cases this
             · have := x1 _ _ hgo8
               rw [← e, hdk] at this
               cases this
             · have X10 : Ex H' H10 := But.toEx e9 b10 hdk
               have h10 := X10 D3 _ x2
               refine ⟨tv, h10, by rw [x3.len, sizeLine_eq]; omega, tv ++ [v], tasks ++ [t], (x1.trans X10).mut hD3, upd_same, ?_, by rw [List.length_append, x4]; rfl, fun y hy => ?_⟩
               · have w1 : RowsAt taskD H10 (tv ++ [v]) (tasks ++ [t]) := by
                   unfold RowsAt
                   rw [List.map_append]
                   exact TDs.append (RowsAt.tp (Tp.ex X10) x3) (.cons htd .nil)
                 exact RowsAt.tp (Tp.upd h10) w1
               · rcases List.mem_append.mp hy with h | h
                 · exact x5 y h
                 · rw [List.mem_singleton.mp h]
                   exact tok)
          | rintro H11 ⟨tv, tasks, x11, htv, rtv, ltk, tok⟩
        all_goals (have E11 := E8.trans x11)
        all_goals (have ltv := rtv.len)
        -- waits
        all_goals (refine ⟨.ref a, rfl, a, ns, 1, rfl, Evl.ex_l E11 hS, hl, by decide, by decide, fun d2 H12 e12 hd2 dd2 => ?_⟩)
        all_goals (refine ⟨.ref d2, rfl, .int (1 + n), rfl, .int (1 + n), rfl, 2, 1 + n, rfl, rfl, mulBd (by decide) (by decide) (by omega) (by omega), d2, 1 + n, 2 * (1 + n), _, rfl, dd2, by decide, by omega, by omega, by omega, by omega, fun wv c13 ws H13 lws wok y7 y8 b13 d13 htw => ?_⟩)
        all_goals (have X13 : Ex H11 H13 := But.toEx e12 b13 hd2)
        -- fixed
        all_goals (refine ⟨sz16 (by decide), fun pf hpf => ?_⟩)
        all_goals (have npf : d2 ≠ pf := d13.ne hpf)
        all_goals (have hpf11 : H11 pf = none := Evl.fresh_back X13 hpf)
        all_goals (have X14 := X13.trans (Ex.new (o := .lst []) hpf))
        all_goals (refine ⟨.int (1 + n), rfl, 1 + n, rfl, by omega, by omega, ?_⟩)
        all_goals (rw [mt])
        all_goals (refine for_range (fun i σ H' => ∃ (c' : Int) (fv : List V) (fx : List (Int × Int)) (t10 t11 : Option V), σ = [some (.ref a), some (.int most), some (.ref d2), some (.ref pm), some (.ref D), some (.int (1 + n)), some (.ref _), some (.ref D3), some wv, some (.ref pf), t10, t11] ∧ c13 ≤ c' ∧ c' ≤ c13 + 2 * i ∧
          Ex H11 H' ∧ TD H' wv (.tuple (ws.map waitD)) ∧ Drw H' d2 c' ∧ H' pf = some (.lst fv) ∧ RowsAt fixD H' fv fx ∧ fx.length ≤ i ∧ ∀ x ∈ fx, 0 ≤ x.1 ∧ x.1 < i ∧ 0 ≤ x.2 ∧ x.2 ≤ 1000000) ⟨c13, [], [], none, none, rfl, Int.le_refl _, by omega, X14, TD.tp (Tp.ex (Ex.new hpf)) htw, d13.upd npf, upd_same, .nil, Nat.le_refl _, fun _ h => nomatch h⟩ ?_ ?_)
        all_goals first
          | (rintro i σ H' hi ⟨c', fv, fx, t10, t11, rfl, x1, x2, x3, x4, x5, x6, x7, x8, x9⟩
             have hi2 : (i : Int) < 30 := by omega
             refine ⟨.ref d2, rfl, d2, 6, c', rfl, x5, by decide, by decide, by omega, fun n14 c14 H14 y9 y10 y11 y12 b14 d14 => ⟨rfl, _, rfl, ite2 (fun e => ?_) (fun e => ?_)⟩⟩
             · have X14' : Ex H11 H14 := But.toEx x3 b14 hd2
               obtain ⟨tk, htk⟩ : ∃ tk, tv[i]? = some tk := ⟨_, List.getElem?_eq_getElem (by rw [ltv, ltk]; exact hi)⟩
               obtain ⟨t, ht, htd⟩ := rtv.get htk
               obtain ⟨tp, tq, txs, rfl, ht1, _, _⟩ := task_parts (TD.tp (Tp.ex X14') htd)
               have tfr := (tok t (List.mem_of_getElem? ht)).frm
               refine ⟨.ref pf, rfl, .inl ⟨rfl, _, SqL.of (b14 pf _ npf.symm x6)⟩, .int (0 + i), rfl, .ref D3, rfl, .int (0 + i), rfl, D3, tv, 0 + i, .ref tp, rfl, rfl, SqL.of (X14' D3 _ htv), at_nat2 (Int.zero_add _) htk, tp, _, 4, .int t.frm, rfl, rfl, SqT.of ht1, rfl, ?_⟩
               refine ⟨.ref d2, rfl, d2, 30, c14, rfl, d14, by decide, by decide, by omega, fun n15 c15 H15 y13 y14 y15 y16 b15 d15 => ⟨t.frm, n15, rfl, rfl, 1000000, t.frm + n15, rfl, sz16 (by show 2 ≤ 16000000; decide), fun u hu => ?_⟩⟩
               have eu := Ex.new (o := .tup [.int (0 + i), .int (if t.frm + n15 < 1000000 then t.frm + n15 else 1000000)]) hu
               have B := b14.trans b15
               have h8 := eu pf _ (B pf _ npf.symm x6)
               have tp8 := (tp_but x5 B).trans (Tp.ex eu)
               refine ⟨pf, fv, .ref u, rfl, rfl, h8, by rw [x7.len, sizeLine_eq]; omega, ?_⟩
               refine ⟨c15, fv ++ [.ref u], fx ++ [((0 + i : Int), (if t.frm + n15 < 1000000 then t.frm + n15 else 1000000))], _, _, rfl, by omega, by omega, ((But.toEx x3 B hd2).trans eu).mut hpf11, TD.tp (tp8.trans (Tp.upd h8)) x4, (d15.ex eu).upd npf, upd_same, ?_, by rw [List.length_append]; show fx.length + 1 ≤ i + 1; omega, fun x hx => ?_⟩
               · have w1 : RowsAt fixD (upd H15 u (.tup [.int (0 + i), .int (if t.frm + n15 < 1000000 then t.frm + n15 else 1000000)])) (fv ++ [.ref u]) (fx ++ [((0 + i : Int), (if t.frm + n15 < 1000000 then t.frm + n15 else 1000000))]) := by
                   unfold RowsAt
                   rw [List.map_append]
                   exact TDs.append (RowsAt.tp tp8 x7) (.cons (.tup upd_same (.cons (.int _) (.cons (.int _) .nil))) .nil)
                 exact RowsAt.tp (Tp.upd h8) w1
               · rcases List.mem_append.mp hx with h | h
                 · have := x9 x h
                   omega
                 · rw [List.mem_singleton.mp h]
                   dsimp only
                   split <;> omega
             · exact ⟨c14, fv, fx, _, _, rfl, by omega, by omega, But.toEx x3 b14 hd2, TD.tp (tp_but x5 b14) x4, d14, b14 pf _ npf.symm x6, RowsAt.tp (tp_but x5 b14) x7, by omega, fun x hx => by have := x9 x hx; omega⟩)
          | (rintro σ H' ⟨c', fv, fx, t10, t11, rfl, x1, x2, x3, x4, x5, x6, x7, x8, x9⟩
             have hm := x3 _ _ (x11 _ _ hpm8)
             have hg := x3 _ _ (x11 _ _ hgo8)
             have ht := x3 _ _ htv
             refine ⟨.ref pm, rfl, pm, _, rfl, .inl ⟨SqL.of hm, fun u1 hu1 => ?_⟩⟩
             have z1 := Ex.new (o := .tup (ms.map V.str)) hu1
             refine ⟨.ref D, rfl, D, _, rfl, .inl ⟨SqL.of (z1 _ _ hg), fun u2 hu2 => ?_⟩⟩
             have z2 := z1.trans (Ex.new (o := .tup gv) hu2)
             refine ⟨.ref D3, rfl, D3, _, rfl, .inl ⟨SqL.of (z2 _ _ ht), fun u3 hu3 => ?_⟩⟩
             have z3 := z2.trans (Ex.new (o := .tup tv) hu3)
             refine ⟨wv, rfl, .ref pf, rfl, pf, _, rfl, .inl ⟨SqL.of (z3 _ _ x6), fun u4 hu4 => ?_⟩⟩
             have z4 := z3.trans (Ex.new (o := .tup fv) hu4)
             refine ⟨sz16 (by show 5 ≤ 16000000; decide), fun u5 hu5 => ?_⟩
             have w4 := Ex.new (o := .tup [.ref u1, .ref u2, .ref u3, wv, .ref u4]) hu5
             have z5 := z4.trans w4
             have w3 := (Ex.new (o := .tup fv) hu4).trans w4
             have w2 := (Ex.new (o := .tup tv) hu3).trans w3
             have w1 := (Ex.new (o := .tup gv) hu2).trans w2
             have lfx := x7.len
             refine q (.ref u5) ⟨ms, goods, tasks, ws, fx⟩ _ ⟨by dsimp only; omega, tok, by dsimp only; omega, fun x hx => by have := wok x hx; dsimp only; omega, by dsimp only; omega, fun x hx => by have := x9 x hx; dsimp only; omega⟩ (E11.trans (x3.trans z5)) ?_
             refine .tup upd_same (.cons (.tup (w1 _ _ upd_same) (TDs.strs ms)) (.cons (.tup (w2 _ _ upd_same) ?_) (.cons (.tup (w3 _ _ upd_same) ?_) (.cons (TD.tp (Tp.ex z5) x4) (.cons (.tup (w4 _ _ upd_same) ?_) .nil)))))
             · exact RowsAt.tp (Tp.ex (x11.trans (x3.trans z5))) rgo8
             · exact RowsAt.tp (Tp.ex (x3.trans z5)) rtv
             · exact RowsAt.tp (Tp.ex z5) x7)

end
end Bk13

namespace Bk13
open PySem PySem.Spec PyProof.Rows L2 Bs
open Evl (Ex)
section
variable {P : Program} {w : World} {K : PySem.W.Frag} {mg : Str → Option Value} {base : Heap}
def spWhole (K : PySem.W.Frag) : Sp := fun vs H Q _ => ∃ x n, vs = [x] ∧ Kd K H x n ∧ Q (.bl (isW x)) H
theorem ok_is_whole (T : Tx K mg) : Cal P w K mg base 1 "is_whole" ["thing"] (spWhole K) := by
  refine T.d_is_whole.cal sc_is_whole (fun vs H Q E h => ?_) (fun f cdv A outer s H vs Q E hr h => ?_)
  · obtain ⟨x, n, rfl, _⟩ := h
    rfl
  · obtain ⟨x, n, rfl, hk, q⟩ := h
    refine ⟨_, (pss_one (ps_ret (pe_and (pe_callB call_isi (by rfl) T.b_isinstance (by decide +kernel) (pa_cons (pv 0) (pa_cons (pe_bltn (v := .ty "int") rfl T.b_int (by decide +kernel) rfl) pa_nil))) (pe_one (pe_not (pe_callB call_isi (by rfl) T.b_isinstance (by decide +kernel) (pa_cons (pv 0) (pa_cons (pe_bltn (v := .ty "bool") rfl T.b_bool (by decide +kernel) rfl) pa_nil)))))))), ?_⟩
    refine rd_int? rfl hk ⟨_, rfl, ?_⟩
    cases x <;> first | exact iteF q | exact iteT (rd_bool? rfl hk ⟨_, rfl, q⟩)
def spAmong (K : PySem.W.Frag) : Sp := fun vs H Q _ => ∃ x n a b, vs = [x, .int a, .int b] ∧ Kd K H x n ∧ Q (.bl (match x with | .int i => decide (a ≤ i) && decide (i ≤ b) | _ => false)) H
theorem ok_is_among (T : Tx K mg) : Cal P w K mg base 2 "is_among" ["thing", "least", "most"] (spAmong K) := by
  have G_is_whole : Cal P w K mg base 1 "is_whole" ["thing"] (spWhole K) := ok_is_whole T
  refine T.d_is_among.cal sc_is_among (fun vs H Q E h => ?_) (fun f cdv A outer s H vs Q E hr h => ?_)
  · obtain ⟨x, n, a, b, rfl, _⟩ := h
    rfl
  · obtain ⟨x, n, a, b, rfl, hk, q⟩ := h
    refine ⟨_, (pss_one (ps_ret (pe_and (pe_cal G_is_whole hr (by rfl) (pa_cons (pv 0) pa_nil)) (pe_and (pe_cal G_is_whole hr (by rfl) (pa_cons (pv 1) pa_nil)) (pe_and (pe_cal G_is_whole hr (by rfl) (pa_cons (pv 2) pa_nil)) (pe_one (pe_chain op_le op_le (pv 1) (pv 0) (pv 2)))))))), ?_⟩
    refine ⟨x, rfl, x, n, rfl, hk, _, rfl, ?_⟩
    cases x with
    | int i =>
      refine iteT ⟨.int a, rfl, .int a, _, rfl, .int a, _, rfl, iteT ⟨.int b, rfl, .int b, _, rfl, .int b, _, rfl, iteT ⟨.int a, rfl, .int i, rfl, a, i, rfl, rfl, _, rfl, ite2 (fun e => ?_) (fun e => ?_)⟩⟩⟩
      · refine ⟨.int b, rfl, i, b, rfl, rfl, ?_⟩
        have q' : Q (.bl (decide (a ≤ i) && decide (i ≤ b))) H := q
        rw [e] at q'
        exact q'
      · have q' : Q (.bl (decide (a ≤ i) && decide (i ≤ b))) H := q
        rw [Bool.eq_false_iff.mpr e] at q'
        exact q'
    | _ => exact iteF q

theorem kd_i {H : Hp} (i : Int) : Kd K H (.int i) "int" := .int i
def spTaskOf : Sp := fun vs H Q _ => ∃ (v : V) (b : Bk) (most i : Int), vs = [v, .int i] ∧ TD H v (bookD b) ∧ BookOk b most ∧ most ≤ 30 ∧ 0 ≤ i ∧ i < b.tasks.length ∧ Q (.bl true) H
theorem ok_is_task_of (T : Tx K mg) : Cal P w K mg base 3 "is_task_of" ["book", "thing"] spTaskOf := by
  have G_is_among : Cal P w K mg base 2 "is_among" ["thing", "least", "most"] (spAmong K) := ok_is_among T
  refine T.d_is_task_of.cal sc_is_task_of (fun vs H Q E h => ?_) (fun f cdv A outer s H vs Q E hr h => ?_)
  · obtain ⟨_, _, _, _, rfl, _⟩ := h
    rfl
  · obtain ⟨v, b, most, i, rfl, hb, ok, hm, i0, i1, q⟩ := h
    refine ⟨_, (pss_one (ps_ret (pe_cal G_is_among hr (by rfl) (pa_cons (pv 1) (pa_cons pe_int (pa_cons (pe_op op_sub (pe_callB call_len_seq (by rfl) T.b_len (by decide +kernel) (pa_cons (pe_ix ix_tup (pv 0) (pe_globE rfl T.c_TASKS) (fun _ _ => rfl)) pa_nil)) pe_int) pa_nil)))))), ?_⟩
    obtain ⟨ab, m, g, t, wt, fx, rfl, hab, _, _, ⟨txs, ht, rt⟩, _, _⟩ := book_parts hb
    have few := ok.few
    have lt := rt.len
    refine ⟨.int i, rfl, .ref ab, rfl, ab, _, 2, .ref t, rfl, rfl, SqT.of hab, rfl, t, txs, rfl, .inr (SqT.of ht), txs.length, 1, rfl, rfl, .int i, "int", 0, (txs.length : Int) - 1, rfl, .int i, ?_⟩
    dsimp only
    rw [decide_eq_true (show (0 : Int) ≤ i from i0), decide_eq_true (show i ≤ (txs.length : Int) - 1 by omega)]
    exact q
def spArc : Sp := fun vs H Q _ => ∃ (v : V) (b : Bk) (most : Int) (a : Addr) (p : PP), vs = [v, .ref a] ∧ TD H v (bookD b) ∧ BookOk b most ∧ most ≤ 30 ∧ H a = some (.tup [.int p.1, .int p.2]) ∧ ArcOk b.tasks.length p ∧ Q (.bl true) H
theorem ok_is_arc (T : Tx K mg) : Cal P w K mg base 4 "is_arc" ["book", "thing"] spArc := by
  have G_is_task_of : Cal P w K mg base 3 "is_task_of" ["book", "thing"] spTaskOf := ok_is_task_of T
  refine T.d_is_arc.cal sc_is_arc (fun vs H Q E h => ?_) (fun f cdv A outer s H vs Q E hr h => ?_)
  · obtain ⟨_, _, _, _, _, rfl, _⟩ := h
    rfl
  · obtain ⟨v, b, most, a, p, rfl, hb, ok, hm, ha, hp, q⟩ := h
    refine ⟨_, (pss_cons (ps_if (PW.pt (pw_or (pt_not (pt_val (pe_callB call_isi (by rfl) T.b_isinstance (by decide +kernel) (pa_cons (pv 1) (pa_cons (pe_bltn (v := .ty "tuple") rfl T.b_tuple (by decide +kernel) rfl) pa_nil))))) (pw_or1 (pt_cmpR op_ne (pe_callB call_len_seq (by rfl) T.b_len (by decide +kernel) (pa_cons (pv 1) pa_nil)) pe_int (nomark _))))) (pss_one (ps_ret pe_bl)) pss_nil)
    (pss_one (ps_ret (pe_and (pe_cal G_is_task_of hr (by rfl) (pa_cons (pv 0) (pa_cons (pe_ix ix_tup (pv 1) pe_int (fun _ _ => rfl)) pa_nil))) (pe_and (pe_cal G_is_task_of hr (by rfl) (pa_cons (pv 0) (pa_cons (pe_ix ix_tup (pv 1) pe_int (fun _ _ => rfl)) pa_nil))) (pe_one (pe_cmpR op_ne (pe_ix ix_tup (pv 1) pe_int (fun _ _ => rfl)) (pe_ix ix_tup (pv 1) pe_int (fun _ _ => rfl)) (nomark _)))))))), ?_⟩
    refine ⟨.ref a, rfl, .ref a, .ty "tuple", _, _, _, rfl, .ty _, .base (.tup ha), kit_ty (r := true) (by decide +kernel), _, rfl, ?_⟩
    refine ⟨.ref a, rfl, a, _, rfl, .inr (SqT.of ha), ?_⟩
    refine ⟨rfl, _, rfl, ?_⟩
    rw [decide_eq_true (show V.int (([V.int p.1, V.int p.2].length : Nat) : Int) = V.int 2 from rfl)]
    refine iteF ?_
    refine ⟨v, rfl, .ref a, rfl, a, _, 0, .int p.1, rfl, rfl, SqT.of ha, rfl, v, b, most, p.1, rfl, hb, ok, hm, hp.a.1, hp.a.2, _, rfl, iteT ?_⟩
    refine ⟨v, rfl, .ref a, rfl, a, _, 1, .int p.2, rfl, rfl, SqT.of ha, rfl, v, b, most, p.2, rfl, hb, ok, hm, hp.b.1, hp.b.2, _, rfl, iteT ?_⟩
    exact ⟨.ref a, rfl, a, _, 0, .int p.1, rfl, rfl, SqT.of ha, rfl, .ref a, rfl, a, _, 1, .int p.2, rfl, rfl, SqT.of ha, rfl, rneIT hp.ne q⟩
def spNeed (K : PySem.W.Frag) : Sp := fun vs H Q _ => ∃ (v : V) (b : Bk) (most : Int) (l : Addr) (arcs : List PP), vs = [v, .ref l] ∧ TD H v (bookD b) ∧ BookOk b most ∧ most ≤ 30 ∧ ArcsAt H l b.tasks.length arcs ∧ ∀ H', Ex H H' → Q .non H'
theorem ok_need_arcs (T : Tx K mg) : Cal P w K mg base 5 "need_arcs" ["book", "arcs"] (spNeed K) := by
  have G_is_arc : Cal P w K mg base 4 "is_arc" ["book", "thing"] spArc := ok_is_arc T
  refine T.d_need_arcs.cal sc_need_arcs (fun vs H Q E h => ?_) (fun f cdv A outer s H vs Q E hr h => ?_)
  · obtain ⟨_, _, _, _, _, rfl, _⟩ := h
    rfl
  · obtain ⟨v, b, most, l, arcs, rfl, hb, ok, hm, ⟨⟨xs, hl, rx⟩, hok, hz⟩, q⟩ := h
    refine ⟨_, (pss_one (ps_if (PW.pt (pw_or (pt_not (pt_val (pe_callB call_isi (by rfl) T.b_isinstance (by decide +kernel) (pa_cons (pv 1) (pa_cons (pe_bltn (v := .ty "list") rfl T.b_list (by decide +kernel) rfl) pa_nil))))) (pw_or (pt_cmpR op_gt (pe_callB call_len_seq (by rfl) T.b_len (by decide +kernel) (pa_cons (pv 1) pa_nil)) (pe_globE rfl T.c_MOST_ARCS) (nomark _)) (pw_or1 (pt_not (pt_val (pe_callB (cr_all rfl) (by rfl) T.b_all (by decide +kernel) (pa_cons (pe_lc (own := [("arc", 2)]) rfl sc_need_arcs.nd (pi_list (pv 1)) (blkOk_by (own := [("arc", 2)]) (N := N_need_arcs) (sc := defScope s_need_arcs) (by decide +kernel)) (fun _ _ _ _ _ => (pg_name (i := 2) sc_need_arcs.nd rfl (.inl rfl))) (fun _ _ _ _ _ => pts_nil) (fun _ _ _ _ _ => (pe_cal G_is_arc hr (by rfl) (pa_cons (pv 0) (pa_cons (pv 2) pa_nil))))) pa_nil)))))))) (pss_one ps_off) pss_nil)), ?_⟩
    have lx := rx.len
    refine ⟨.ref l, rfl, .ref l, .ty "list", _, _, _, rfl, .ty _, .base (.lst hl), kit_ty (r := true) (by decide +kernel), _, rfl, ?_⟩
    refine ⟨.ref l, rfl, l, _, rfl, .inl (SqL.of hl), (xs.length : Int), 900, rfl, rfl, false, congrArg V.bl (decide_eq_false (by omega)), iteF ?_⟩
    refine ⟨.ref l, rfl, l, rfl, ⟨xs, SqL.of hl⟩, fun D hD => lc_list (K := K) (a := l) (xs := xs) (fun i H' => Ex H H' ∧ H' D = some (.lst ((List.replicate i true).map V.bl))) ⟨Ex.new hD, upd_same⟩ (fun i H' _ h => Evl.ex_l h.1 (SqL.of hl)) ?_ ?_⟩
    · rintro i x H' hx ⟨e, hD'⟩
      obtain ⟨p, hp, htd⟩ := rx.get hx
      obtain ⟨a, rfl, ha⟩ := arc_parts (TD.tp (Tp.ex e) htd)
      have li : i < arcs.length := (List.getElem?_eq_some_iff.mp hp).1
      refine ⟨rfl, v, rfl, .ref a, rfl, v, b, most, a, p, rfl, TD.tp (Tp.ex e) hb, ok, hm, ha, hok p (List.mem_of_getElem? hp), _, hD', by rw [List.length_map, List.length_replicate, sizeLine_eq]; omega, e.mut hD, ?_⟩
      rw [upd_same, List.replicate_succ', List.map_append]
      rfl
    · rintro H' ⟨e, hD'⟩
      refine ⟨D, _, rfl, SqL.of hD', ?_⟩
      have all : (List.replicate xs.length true).all id = true := List.all_eq_true.mpr fun x hx => List.eq_of_mem_replicate hx
      rw [all]
      exact ⟨_, rfl, q H' e⟩
def begOf (b : Bk) (t : Nat) : Int := match b.fixed.find? (fun x => decide (x.1 = (t : Int))) with
  | some x => x.2
  | none => match b.tasks[t]? with
    | some k => k.frm
    | none => 0
def spBeg : Sp := fun vs H Q _ => ∃ (v : V) (b : Bk) (most : Int) (t : Nat), vs = [v, .int t] ∧ TD H v (bookD b) ∧ BookOk b most ∧ t < b.tasks.length ∧ Q (.int (begOf b t)) H
theorem find_take {α : Type} (p : α → Bool) : ∀ (l : List α) (i : Nat) (x : α), l[i]? = some x → (∀ y ∈ l.take i, p y = false) → p x = true → l.find? p = some x
  | [], _, _, h, _, _ => by simp at h
  | a :: l, 0, x, h, _, hp => by
    have := Option.some.inj h
    subst this
    rw [List.find?_cons, hp]
  | a :: l, i + 1, x, h, n, hp => by
    rw [List.find?_cons, n a (by simp)]
    exact find_take p l i x h (fun y m => n y (by rw [List.take_succ_cons]; exact List.mem_cons_of_mem _ m)) hp
theorem ok_first_of (T : Tx K mg) : Cal P w K mg base 1 "first_of" ["book", "task"] spBeg := by
  refine T.d_first_of.cal sc_first_of (fun vs H Q E h => ?_) (fun f cdv A outer s H vs Q E hr h => ?_)
  · obtain ⟨_, _, _, _, rfl, _⟩ := h
    rfl
  · obtain ⟨v, b, most, t, rfl, hb, ok, ht, q⟩ := h
    refine ⟨_, (pss_cons (ps_for PassesOwn.never rfl (pi_tup (pe_ix ix_tup (pv 0) (pe_globE rfl T.c_FIXED) (fun _ _ => rfl))) (pg_tup (by rfl) (pgs_cons (pg_name (i := 2) sc_first_of.nd rfl (.inl rfl)) (pgs_cons (pg_name (i := 3) sc_first_of.nd rfl (.inl rfl)) pgs_nil))) (pss_one (ps_if (pt_cmpR op_eq (pv 2) (pv 1) (nomark _)) (pss_one (ps_ret (pv 3))) pss_nil)))
    (pss_one (ps_ret (pe_ix ix_tup (pe_ix ix_tup (pe_ix ix_tup (pv 0) (pe_globE rfl T.c_TASKS) (fun _ _ => rfl)) (pv 1) (fun _ _ => rfl)) (pe_globE rfl T.c_FROM) (fun _ _ => rfl))))), ?_⟩
    obtain ⟨ab, m, g, ta, wt, fx, rfl, hab, _, _, ⟨txs, hta, rt⟩, _, ⟨fxs, hfx, rf⟩⟩ := book_parts hb
    refine ⟨.ref ab, rfl, ab, _, 4, .ref fx, rfl, rfl, SqT.of hab, rfl, fx, rfl, ⟨_, SqT.of hfx⟩, ?_⟩
    refine for_tup (K := K) (a := fx) (xs := fxs) (fun i σ H' => H' = H ∧ ∃ t2 t3, σ = [some (.ref ab), some (.int t), t2, t3] ∧ ∀ y ∈ b.fixed.take i, (fun x : Int × Int => decide (x.1 = (t : Int))) y = false) ⟨rfl, none, none, rfl, fun y hy => by simp at hy⟩ (fun i σ H' _ h => by rw [h.1]; exact SqT.of hfx) ?_ ?_
    · rintro i x σ H' hx ⟨rfl, t2, t3, rfl, hn⟩
      obtain ⟨fv, hfv, htd⟩ := rf.get hx
      obtain ⟨pf, rfl, hpf⟩ := fix_parts htd
      refine ⟨pf, _, rfl, SqT.of hpf, rfl, _, _, rfl, _, _, rfl, rfl, .int fv.1, rfl, .int t, rfl, ?_⟩
      by_cases e : fv.1 = (t : Int)
      · refine reqIT e ⟨true, rfl, iteT ⟨.int fv.2, rfl, ?_⟩⟩
        have : begOf b t = fv.2 := by
          unfold begOf
          rw [find_take _ _ i fv hfv hn (decide_eq_true e)]
        rw [← this]
        exact q
      · refine reqIF e ⟨false, rfl, iteF ⟨rfl, _, _, rfl, fun y hy => ?_⟩⟩
        rw [take_snoc hfv] at hy
        rcases List.mem_append.mp hy with h | h
        · exact hn y h
        · rw [List.mem_singleton.mp h]
          exact decide_eq_false e
    · rintro σ H' ⟨rfl, t2, t3, rfl, hn⟩
      rw [rf.len, List.take_length] at hn
      have lt := rt.len
      obtain ⟨tv, htv⟩ : ∃ tv, txs[t]? = some tv := ⟨_, List.getElem?_eq_getElem (by omega)⟩
      obtain ⟨k, hk, htd⟩ := rt.get htv
      obtain ⟨pt, _, _, rfl, hpt, _⟩ := task_parts htd
      refine ⟨.ref ab, rfl, ab, _, 2, .ref ta, rfl, rfl, SqT.of hab, rfl, .int t, rfl, ta, txs, t, .ref pt, rfl, rfl, SqT.of hta, atI_nat htv, pt, _, 4, .int k.frm, rfl, rfl, SqT.of hpt, rfl, ?_⟩
      have : begOf b t = k.frm := by
        unfold begOf
        have none_ : b.fixed.find? (fun x => decide (x.1 = (t : Int))) = none := List.find?_eq_none.mpr fun y hy => by
          rw [show decide (y.1 = (t : Int)) = false from hn y hy]
          exact Bool.false_ne_true
        rw [none_, hk]
      rw [← this]
      exact q
theorem ok__law_begin (T : Tx K mg) : Cal P w K mg base 1 "_law_begin" ["book", "task"] spBeg := by
  refine T.d__law_begin.cal sc__law_begin (fun vs H Q E h => ?_) (fun f cdv A outer s H vs Q E hr h => ?_)
  · obtain ⟨_, _, _, _, rfl, _⟩ := h
    rfl
  · obtain ⟨v, b, most, t, rfl, hb, ok, ht, q⟩ := h
    refine ⟨_, (pss_cons (ps_for PassesOwn.never rfl (pi_tup (pe_ix ix_tup (pv 0) pe_int (fun _ _ => rfl))) (pg_tup (by rfl) (pgs_cons (pg_name (i := 2) sc__law_begin.nd rfl (.inl rfl)) (pgs_cons (pg_name (i := 3) sc__law_begin.nd rfl (.inl rfl)) pgs_nil))) (pss_one (ps_if (pt_cmpR op_eq (pv 2) (pv 1) (nomark _)) (pss_one (ps_ret (pv 3))) pss_nil)))
    (pss_one (ps_ret (pe_ix ix_tup (pe_ix ix_tup (pe_ix ix_tup (pv 0) pe_int (fun _ _ => rfl)) (pv 1) (fun _ _ => rfl)) pe_int (fun _ _ => rfl))))), ?_⟩
    obtain ⟨ab, m, g, ta, wt, fx, rfl, hab, _, _, ⟨txs, hta, rt⟩, _, ⟨fxs, hfx, rf⟩⟩ := book_parts hb
    refine ⟨.ref ab, rfl, ab, _, 4, .ref fx, rfl, rfl, SqT.of hab, rfl, fx, rfl, ⟨_, SqT.of hfx⟩, ?_⟩
    refine for_tup (K := K) (a := fx) (xs := fxs) (fun i σ H' => H' = H ∧ ∃ t2 t3, σ = [some (.ref ab), some (.int t), t2, t3] ∧ ∀ y ∈ b.fixed.take i, (fun x : Int × Int => decide (x.1 = (t : Int))) y = false) ⟨rfl, none, none, rfl, fun y hy => by simp at hy⟩ (fun i σ H' _ h => by rw [h.1]; exact SqT.of hfx) ?_ ?_
    · rintro i x σ H' hx ⟨rfl, t2, t3, rfl, hn⟩
      obtain ⟨fv, hfv, htd⟩ := rf.get hx
      obtain ⟨pf, rfl, hpf⟩ := fix_parts htd
      refine ⟨pf, _, rfl, SqT.of hpf, rfl, _, _, rfl, _, _, rfl, rfl, .int fv.1, rfl, .int t, rfl, ?_⟩
      by_cases e : fv.1 = (t : Int)
      · refine reqIT e ⟨true, rfl, iteT ⟨.int fv.2, rfl, ?_⟩⟩
        have : begOf b t = fv.2 := by
          unfold begOf
          rw [find_take _ _ i fv hfv hn (decide_eq_true e)]
        rw [← this]
        exact q
      · refine reqIF e ⟨false, rfl, iteF ⟨rfl, _, _, rfl, fun y hy => ?_⟩⟩
        rw [take_snoc hfv] at hy
        rcases List.mem_append.mp hy with h | h
        · exact hn y h
        · rw [List.mem_singleton.mp h]
          exact decide_eq_false e
    · rintro σ H' ⟨rfl, t2, t3, rfl, hn⟩
      rw [rf.len, List.take_length] at hn
      have lt := rt.len
      obtain ⟨tv, htv⟩ : ∃ tv, txs[t]? = some tv := ⟨_, List.getElem?_eq_getElem (by omega)⟩
      obtain ⟨k, hk, htd⟩ := rt.get htv
      obtain ⟨pt, _, _, rfl, hpt, _⟩ := task_parts htd
      refine ⟨.ref ab, rfl, ab, _, 2, .ref ta, rfl, rfl, SqT.of hab, rfl, .int t, rfl, ta, txs, t, .ref pt, rfl, rfl, SqT.of hta, atI_nat htv, pt, _, 4, .int k.frm, rfl, rfl, SqT.of hpt, rfl, ?_⟩
      have : begOf b t = k.frm := by
        unfold begOf
        have none_ : b.fixed.find? (fun x => decide (x.1 = (t : Int))) = none := List.find?_eq_none.mpr fun y hy => by
          rw [show decide (y.1 = (t : Int)) = false from hn y hy]
          exact Bool.false_ne_true
        rw [none_, hk]
      rw [← this]
      exact q

end
end Bk13

namespace Bk13
open PySem PySem.Spec PyProof.Rows L2 Bs
open Evl (Ex)
section
variable {P : Program} {w : World} {K : PySem.W.Frag} {mg : Str → Option Value} {base : Heap}
def spSteps : Sp := fun vs H Q _ => ∃ (v : V) (b : Bk) (most : Int) (l : Addr) (arcs : List PP), vs = [v, .ref l] ∧ TD H v (bookD b) ∧ BookOk b most ∧ most ≤ 30 ∧ ArcsAt H l b.tasks.length arcs ∧
  ∀ (d : Addr) (es : List Ent) (H' : Hp), EK es b.waits arcs → H d = none → Ex H H' → H' d = some (.dT (es.map entP)) → Q (.ref d) H'
theorem ok_steps (T : Tx K mg) : Cal P w K mg base 6 "steps" ["book", "arcs"] spSteps := by
  have G_need_arcs : Cal P w K mg base 5 "need_arcs" ["book", "arcs"] (spNeed K) := ok_need_arcs T
  refine T.d_steps.cal sc_steps (fun vs H Q E h => ?_) (fun f cdv A outer s H vs Q E hr h => ?_)
  · obtain ⟨_, _, _, _, _, rfl, _⟩ := h
    rfl
  · obtain ⟨v, b, most, l, arcs, rfl, hb, ok, hm, hA, q⟩ := h
    refine ⟨_, (pss_cons (ps_expr (pe_cal G_need_arcs hr (by rfl) (pa_cons (pv 0) (pa_cons (pv 1) pa_nil))))
    (pss_cons (ps_set (i := 2) sc_steps.nd rfl (.inr rfl) (pe_dcT hr.units (own := [("arc", 6)]) rfl sc_steps.nd (pi_list (pv 1)) (blkOk_by (own := [("arc", 6)]) (N := N_steps) (sc := defScope s_steps) (by decide +kernel)) (fun _ _ _ _ _ => (pg_name (i := 6) sc_steps.nd rfl (.inl rfl))) (fun _ _ _ _ _ => pts_nil) (fun _ _ _ _ _ => (pv 6)) (fun _ _ _ _ _ => pe_int)))
    (pss_cons (ps_for PassesOwn.never rfl (pi_tup (pe_ix ix_tup (pv 0) (pe_globE rfl T.c_WAITS) (fun _ _ => rfl))) (pg_tup (by rfl) (pgs_cons (pg_name (i := 3) sc_steps.nd rfl (.inl rfl)) (pgs_cons (pg_name (i := 4) sc_steps.nd rfl (.inl rfl)) (pgs_cons (pg_name (i := 5) sc_steps.nd rfl (.inl rfl)) pgs_nil)))) (pss_one (ps_dput (u1 hr.units) (pv 2) (pe_tup (pa_cons (pv 3) (pa_cons (pv 4) pa_nil))) (pe_callB (call_max2 rfl) (by rfl) T.b_max (by decide +kernel) (pa_cons (pv 5) (pa_cons (pe_dget2 (u1 hr.units) (pv 2) (pe_tup (pa_cons (pv 3) (pa_cons (pv 4) pa_nil))) pe_int ⟨rfl, rfl, rfl, rfl⟩) pa_nil))) (by rfl))))
    (pss_one (ps_ret (pe_dcT hr.units (own := [("pair", 7)]) rfl sc_steps.nd (pi_list (pe_callB (cr_sortedDT rfl) (by rfl) T.b_sorted (by decide +kernel) (pa_cons (pv 2) pa_nil))) (blkOk_by (own := [("pair", 7)]) (N := N_steps) (sc := defScope s_steps) (by decide +kernel)) (fun _ _ _ _ _ => (pg_name (i := 7) sc_steps.nd rfl (.inl rfl))) (fun _ _ _ _ _ => pts_nil) (fun _ _ _ _ _ => (pv 7)) (fun _ _ _ _ _ => (pe_dget (u1 hr.units) (pv 2) (pv 7) (fun _ _ => rfl))))))))), ?_⟩
    refine ⟨v, rfl, .ref l, rfl, v, b, most, l, arcs, rfl, hb, ok, hm, hA, fun H1 e1 => ?_⟩
    obtain ⟨⟨xs, hl, rx⟩, hok, hz⟩ := hA.ex e1
    have lx := rx.len
    obtain ⟨ab, m, g, t, wt, fx, rfl, hab, _, _, _, ⟨wxs, hw, rw_⟩, _⟩ := book_parts (TD.tp (Tp.ex e1) hb)
    have nw := ok.waits
    have lw := rw_.len
    -- the arcs' zeros
    refine ⟨.ref l, rfl, l, rfl, ⟨xs, SqL.of hl⟩, fun D hD => dct_list (K := K) (a := l) (xs := xs) (fun i H' => Ex H1 H' ∧ ∃ kvs, H' D = some (.dT kvs) ∧ DK kvs [] (arcs.take i)) ⟨Ex.new hD, [], upd_same, DK.nil⟩ (fun i H' _ h => Evl.ex_l h.1 (SqL.of hl)) ?_ ?_⟩
    · rintro i x H' hx ⟨e, kvs, hD', dk⟩
      obtain ⟨p, hp, htd⟩ := rx.get hx
      obtain ⟨a, rfl, ha⟩ := arc_parts (TD.tp (Tp.ex e) htd)
      have ln := dk.len
      have lt : (arcs.take i).length ≤ arcs.length := by rw [List.length_take]; omega
      refine ⟨rfl, .ref a, rfl, kvs, kP p, a, rfl, hD', ha, by rw [sizeLine_eq]; simp at ln; omega, e.mut hD, _, upd_same, ?_⟩
      rw [take_snoc hp]
      exact dk.arc p
    · rintro H2 ⟨e2, kvs0, hD2, dk0⟩
      rw [lx, List.take_length] at dk0
      -- the waits
      have e12 := e1.trans e2
      have hD0 : H D = none := Evl.fresh_back e1 hD
      refine ⟨.ref ab, rfl, ab, _, 3, .ref wt, rfl, rfl, SqT.of (e2 _ _ hab), rfl, wt, rfl, ⟨_, SqT.of (e2 _ _ hw)⟩, ?_⟩
      refine for_tup (K := K) (a := wt) (xs := wxs) (fun i σ H' => Ex H1 H' ∧ ∃ kvs t3 t4 t5, σ = [some (.ref ab), some (.ref l), some (.ref D), t3, t4, t5, none, none] ∧ H' D = some (.dT kvs) ∧ DK kvs (b.waits.take i) arcs) ⟨e2, kvs0, none, none, none, rfl, hD2, dk0⟩ (fun i σ H' _ h => Evl.ex_t h.1 (SqT.of hw)) ?_ ?_
      · rintro i z σ H' hx ⟨e, kvs, t3, t4, t5, rfl, hD', dk⟩
        obtain ⟨wv, hwv, htd⟩ := rw_.get hx
        obtain ⟨pt, rfl, hpt⟩ := wait_parts (TD.tp (Tp.ex e) htd)
        refine ⟨pt, _, rfl, SqT.of hpt, rfl, _, _, rfl, _, _, rfl, _, _, rfl, rfl, ?_⟩
        have ln := dk.len
        have lt : (b.waits.take i).length ≤ b.waits.length := by rw [List.length_take]; omega
        refine ⟨.int wv.gap, rfl, .ref D, rfl, D, rfl, .inr ⟨kvs, .inl hD'⟩, .int wv.a, rfl, .int wv.b, rfl, sz16 (by show 2 ≤ 16000000; decide), fun p1 hp1 => ?_⟩
        have n1 := Ex.new (o := .tup [V.int wv.a, V.int wv.b]) hp1
        refine ⟨_, DGet.t (k := kP (wv.a, wv.b)) (n1 _ _ hD') upd_same, ?_⟩
        refine ⟨wv.gap, gapVal (b.waits.take i) (wv.a, wv.b), by rw [dk.got], .ref D, rfl, .int wv.a, rfl, .int wv.b, rfl, sz16 (by show 2 ≤ 16000000; decide), fun p2 hp2 => ?_⟩
        have n2 := n1.trans (Ex.new (o := .tup [V.int wv.a, V.int wv.b]) hp2)
        refine ⟨D, _, rfl, DPut.t (k := kP (wv.a, wv.b)) (n2 _ _ hD') upd_same (by rw [sizeLine_eq]; omega), (e.trans n2).mut hD, _, _, _, _, rfl, upd_same, ?_⟩
        rw [take_snoc hwv]
        exact dk.wait wv
      · rintro σ H3 ⟨e3, kvs, t3, t4, t5, rfl, hD3, dk⟩
        rw [lw, List.take_length] at dk
        obtain ⟨es, rfl, ndk, keys, vals⟩ := dk.ents
        refine ⟨.ref D, rfl, D, _, rfl, hD3, (fun e he => by
          obtain ⟨x, _, rfl⟩ := List.mem_map.mp he
          exact ⟨x.1, rfl⟩), fun bs ys p hbs srt pm hp => ?_⟩
        have n4 := Ex.new (o := .lst ys) hp
        have at_ : ∀ y ∈ ys, ∃ (a : Addr) (x z : Int), y = .ref a ∧ H3 a = some (.tup [.int x, .int z]) ∧ prAt H3 y = (x, z) := fun y hy => by
          obtain ⟨a, ha, rfl⟩ := List.mem_map.mp (pm.mem_iff.mp hy)
          obtain ⟨x, z, hxz⟩ := isKeys_at hbs (fun e he => by
            obtain ⟨x, _, rfl⟩ := List.mem_map.mp he
            exact ⟨x.1, rfl⟩) a ha
          exact ⟨a, x, z, rfl, hxz, prAt_is hxz⟩
        have pm2 : (ys.map (prAt H3)).Perm (es.map (·.1)) := by
          have := pm.map (prAt H3)
          rw [keys_pairs hbs] at this
          exact this
        have nps : (ys.map (prAt H3)).Nodup := pm2.nodup_iff.mpr ndk
        have lys : ys.length ≤ 300 := by
          have h1 := pm2.length_eq
          have h2 := dk.len
          rw [List.length_map, List.length_map] at h1
          rw [List.length_map] at h2
          omega
        refine ⟨p, rfl, ⟨ys, SqL.of upd_same⟩, fun D2 hD2 => dct_list (K := K) (a := p) (xs := ys) (fun i H' => Ex (upd H3 p (.lst ys)) H' ∧ H' D2 = some (.dT (((ys.map (prAt H3)).take i).map fun x => entP (x, gapVal b.waits x)))) ⟨Ex.new hD2, by rw [upd_same]; rfl⟩ (fun i H' _ h => Evl.ex_l h.1 (SqL.of upd_same)) ?_ ?_⟩
        · rintro i y H' hy ⟨e, hD2'⟩
          obtain ⟨a, x, z, rfl, hxz, pr⟩ := at_ y (List.mem_of_getElem? hy)
          have e' := n4.trans e
          have hps : (ys.map (prAt H3))[i]? = some (x, z) := by rw [List.getElem?_map, hy]; exact congrArg some pr
          have key : hasKey b.waits arcs (x, z) = true := (keys _).mp (pm2.mem_iff.mp (List.mem_of_getElem? hps))
          have vv : valV (es.map entP) (kP (x, z)) = some (.int (gapVal b.waits (x, z))) := by rw [dk.val, if_pos key]
          have off : valV (((ys.map (prAt H3)).take i).map fun x => entP (x, gapVal b.waits x)) (kP (x, z)) = none := valV_off fun e he c => by
            obtain ⟨u, hu, rfl⟩ := List.mem_map.mp he
            have hu2 : u = (x, z) := kP_inj c
            subst hu2
            obtain ⟨j, hj⟩ := List.mem_iff_getElem?.mp hu
            have lj : j < i := by
              have := (List.getElem?_eq_some_iff.mp hj).1
              rw [List.length_take] at this
              omega
            rw [List.getElem?_take_of_lt lj] at hj
            have := (List.getElem?_inj (List.getElem?_eq_some_iff.mp hj).1 nps).mp (hj.trans hps.symm)
            omega
          refine ⟨rfl, .ref a, rfl, .ref D, rfl, .ref a, rfl, D, .int (gapVal b.waits (x, z)), rfl, by rw [← vv]; exact DGet.t (e' _ _ hD3) (e' _ _ hxz), _, kP (x, z), a, rfl, hD2', e' _ _ hxz, by rw [List.length_map, List.length_take, List.length_map, sizeLine_eq]; omega, e.mut hD2, ?_⟩
          rw [upd_same, putK_new _ off, take_snoc hps, List.map_append]
          rfl
        · rintro H5 ⟨e5, hD5⟩
          have len : ys.length = (ys.map (prAt H3)).length := (List.length_map _).symm
          rw [len, List.take_length] at hD5
          have e25 := e3.trans (n4.trans e5)
          have back : H D2 = none := Evl.fresh_back e1 (Evl.fresh_back e3 (Evl.fresh_back n4 hD2))
          refine q D2 ((ys.map (prAt H3)).map fun x => (x, gapVal b.waits x)) H5 ⟨?_, fun x => ?_, fun e he => ?_⟩ back (e1.trans e25) (by rw [List.map_map]; exact hD5)
          · rw [List.map_map]
            show ((ys.map (prAt H3)).map fun x => x).Pairwise _
            rw [List.map_id']
            exact strict_of (List.pairwise_map.mpr srt) nps
          · rw [List.map_map]
            show x ∈ ((ys.map (prAt H3)).map fun x => x) ↔ _
            rw [List.map_id', pm2.mem_iff]
            exact keys x
          · obtain ⟨u, _, rfl⟩ := List.mem_map.mp he
            rfl
def spGaps : Sp := fun vs H Q _ => ∃ (v : V) (b : Bk) (most : Int) (l : Addr) (arcs : List PP), vs = [v, .ref l] ∧ TD H v (bookD b) ∧ BookOk b most ∧ ArcsAt H l b.tasks.length arcs ∧
  ∀ (d : Addr) (es : List Ent) (H' : Hp), (es.map (·.1)).Nodup → (∀ p, p ∈ es.map (·.1) ↔ hasKey b.waits arcs p = true) → (∀ e ∈ es, e.2 = gapVal b.waits e.1) → H d = none → Ex H H' → H' d = some (.dT (es.map entP)) → Q (.ref d) H'
theorem ok__law_gaps (T : Tx K mg) : Cal P w K mg base 1 "_law_gaps" ["book", "arcs"] spGaps := by
  refine T.d__law_gaps.cal sc__law_gaps (fun vs H Q E h => ?_) (fun f cdv A outer s H vs Q E hr h => ?_)
  · obtain ⟨_, _, _, _, _, rfl, _⟩ := h
    rfl
  · obtain ⟨v, b, most, l, arcs, rfl, hb, ok, hA, q⟩ := h
    refine ⟨_, (pss_cons (ps_set (i := 2) sc__law_gaps.nd rfl (.inl rfl) pe_dnewT)
    (pss_cons (ps_for PassesOwn.never rfl (pi_tup (pe_ix ix_tup (pv 0) pe_int (fun _ _ => rfl))) (pg_tup (by rfl) (pgs_cons (pg_name (i := 3) sc__law_gaps.nd rfl (.inl rfl)) (pgs_cons (pg_name (i := 4) sc__law_gaps.nd rfl (.inl rfl)) (pgs_cons (pg_name (i := 5) sc__law_gaps.nd rfl (.inl rfl)) pgs_nil)))) (pss_one (ps_dput (u1 hr.units) (pv 2) (pe_tup (pa_cons (pv 3) (pa_cons (pv 4) pa_nil))) (pe_callB (call_max2 rfl) (by rfl) T.b_max (by decide +kernel) (pa_cons (pv 5) (pa_cons (pe_dget2 (u1 hr.units) (pv 2) (pe_tup (pa_cons (pv 3) (pa_cons (pv 4) pa_nil))) pe_int ⟨rfl, rfl, rfl, rfl⟩) pa_nil))) (by rfl))))
    (pss_cons (ps_for PassesOwn.never rfl (pi_list (pv 1)) (pg_name (i := 6) sc__law_gaps.nd rfl (.inl rfl)) (pss_one (ps_dput (u1 hr.units) (pv 2) (pv 6) (pe_dget2 (u1 hr.units) (pv 2) (pv 6) pe_int ⟨rfl, rfl, rfl, rfl⟩) (by rfl))))
    (pss_one (ps_ret (pv 2)))))), ?_⟩
    obtain ⟨⟨xs, hl, rx⟩, hok, hz⟩ := hA
    have lx := rx.len
    obtain ⟨ab, m, g, t, wt, fx, rfl, hab, _, _, _, ⟨wxs, hw, rw_⟩, _⟩ := book_parts hb
    have nw := ok.waits
    have lw := rw_.len
    refine fun D hD => ?_
    have e0 := Ex.new (o := .dT []) hD
    refine ⟨.ref ab, rfl, ab, _, 3, .ref wt, rfl, rfl, SqT.of (e0 _ _ hab), rfl, wt, rfl, ⟨_, SqT.of (e0 _ _ hw)⟩, ?_⟩
    refine for_tup (K := K) (a := wt) (xs := wxs) (fun i σ H' => Ex H H' ∧ ∃ kvs t3 t4 t5, σ = [some (.ref ab), some (.ref l), some (.ref D), t3, t4, t5, none] ∧ H' D = some (.dT kvs) ∧ DK kvs (b.waits.take i) []) ⟨e0, [], none, none, none, rfl, upd_same, DK.nil⟩ (fun i σ H' _ h => Evl.ex_t h.1 (SqT.of hw)) ?_ ?_
    · rintro i z σ H' hx ⟨e, kvs, t3, t4, t5, rfl, hD', dk⟩
      obtain ⟨wv, hwv, htd⟩ := rw_.get hx
      obtain ⟨pt, rfl, hpt⟩ := wait_parts (TD.tp (Tp.ex e) htd)
      refine ⟨pt, _, rfl, SqT.of hpt, rfl, _, _, rfl, _, _, rfl, _, _, rfl, rfl, ?_⟩
      have ln := dk.len
      have lt : (b.waits.take i).length ≤ b.waits.length := by rw [List.length_take]; omega
      refine ⟨.int wv.gap, rfl, .ref D, rfl, D, rfl, .inr ⟨kvs, .inl hD'⟩, .int wv.a, rfl, .int wv.b, rfl, sz16 (by show 2 ≤ 16000000; decide), fun p1 hp1 => ?_⟩
      have n1 := Ex.new (o := .tup [V.int wv.a, V.int wv.b]) hp1
      refine ⟨_, DGet.t (k := kP (wv.a, wv.b)) (n1 _ _ hD') upd_same, ?_⟩
      refine ⟨wv.gap, gapVal (b.waits.take i) (wv.a, wv.b), by rw [dk.got], .ref D, rfl, .int wv.a, rfl, .int wv.b, rfl, sz16 (by show 2 ≤ 16000000; decide), fun p2 hp2 => ?_⟩
      have n2 := n1.trans (Ex.new (o := .tup [V.int wv.a, V.int wv.b]) hp2)
      refine ⟨D, _, rfl, DPut.t (k := kP (wv.a, wv.b)) (n2 _ _ hD') upd_same (by rw [sizeLine_eq]; simp at ln; omega), (e.trans n2).mut hD, _, _, _, _, rfl, upd_same, ?_⟩
      rw [take_snoc hwv]
      exact dk.wait wv
    · rintro σ H3 ⟨e3, kvs3, t3, t4, t5, rfl, hD3, dk3⟩
      rw [lw, List.take_length] at dk3
      refine ⟨.ref l, rfl, l, rfl, ⟨xs, SqL.of (e3 _ _ hl)⟩, ?_⟩
      refine for_list (K := K) (a := l) (xs := xs) (fun i σ H' => Ex H H' ∧ ∃ kvs t6, σ = [some (.ref ab), some (.ref l), some (.ref D), t3, t4, t5, t6] ∧ H' D = some (.dT kvs) ∧ DK kvs b.waits (arcs.take i)) ⟨e3, kvs3, none, rfl, hD3, dk3⟩ (fun i σ H' _ h => Evl.ex_l h.1 (SqL.of hl)) ?_ ?_
      · rintro i z σ H' hx ⟨e, kvs, t6, rfl, hD', dk⟩
        obtain ⟨p, hp, htd⟩ := rx.get hx
        obtain ⟨a, rfl, ha⟩ := arc_parts (TD.tp (Tp.ex e) htd)
        have ln := dk.len
        have lt : (arcs.take i).length ≤ arcs.length := by rw [List.length_take]; omega
        refine ⟨.ref D, rfl, D, rfl, .inr ⟨kvs, .inl hD'⟩, .ref a, rfl, _, DGet.t (k := kP p) hD' ha, ?_⟩
        rw [dk.got]
        refine ⟨.ref D, rfl, .ref a, rfl, D, _, rfl, DPut.t (k := kP p) hD' ha (by rw [sizeLine_eq]; omega), e.mut hD, _, _, rfl, upd_same, ?_⟩
        rw [take_snoc hp]
        exact dk.arc p
      · rintro σ H4 ⟨e4, kvs, t6, rfl, hD4, dk⟩
        rw [lx, List.take_length] at dk
        obtain ⟨es, rfl, ndk, keys, vals⟩ := dk.ents
        exact ⟨.ref D, rfl, q D es H4 ndk keys vals hD e4 hD4⟩

end
end Bk13

namespace Bk13
open PySem PySem.Spec PyProof.Rows L2 Bs
open Evl (Ex)
section
variable {P : Program} {w : World} {K : PySem.W.Frag} {mg : Str → Option Value} {base : Heap}
theorem nestAt_of {H : Hp} : ∀ {as : List Addr} {ls : List (List Int)}, as.length = ls.length → (∀ (j : Nat) (x : Addr) (l : List Int), as[j]? = some x → ls[j]? = some l → SqL K H x (l.map V.int)) → NestAt K H (as.map V.ref) ls
  | [], [], _, _ => True.intro
  | [], _ :: _, h, _ => nomatch h
  | _ :: _, [], h, _ => nomatch h
  | x :: as, l :: ls, h, r => ⟨⟨x, rfl, r 0 x l rfl rfl⟩, nestAt_of (Nat.succ.inj h) fun j y m h1 h2 => r (j + 1) y m h1 h2⟩
theorem nest_cut {H : Hp} : ∀ {as : List Addr} {ls : List (List Int)} (a : Nat), as.length = ls.length → (∀ (j : Nat) (x : Addr) (l : List Int), j ≠ a → as[j]? = some x → ls[j]? = some l → SqL K H x (l.map V.int)) →
    NestAt K H ((as.map V.ref).take a ++ (as.map V.ref).drop (a + 1)) (ls.take a ++ ls.drop (a + 1))
  | [], [], 0, _, _ => True.intro
  | [], [], _ + 1, _, _ => True.intro
  | [], _ :: _, _, h, _ => nomatch h
  | _ :: _, [], _, h, _ => nomatch h
  | x :: as, l :: ls, 0, h, r => nestAt_of (K := K) (as := as) (ls := ls) (Nat.succ.inj h) fun j y m h1 h2 => r (j + 1) y m (Nat.succ_ne_zero j) h1 h2
  | x :: as, l :: ls, a + 1, h, r => ⟨⟨x, rfl, r 0 x l (by omega) rfl rfl⟩, nest_cut a (Nat.succ.inj h) fun j y m e h1 h2 => r (j + 1) y m (by omega) h1 h2⟩
theorem few_cut {ls : List (List Int)} (h : Few ls) (a : Nat) : Few (ls.take a ++ ls.drop (a + 1)) := by
  refine ⟨?_, fun l hl => ?_⟩
  · have := h.1
    rw [List.length_append, List.length_take, List.length_drop]
    omega
  · rcases List.mem_append.mp hl with z | z
    · exact h.2 l (List.mem_of_mem_take z)
    · exact h.2 l (List.mem_of_mem_drop z)
theorem cut_lo {xs : List V} {a : Nat} (h : a ≤ xs.length) : cutV xs none (some (a : Int)) = xs.take a := by
  unfold cutV
  rw [HT.sIx_nat, HT.sIx_none, List.drop_zero, Nat.min_eq_left h, Nat.sub_zero]
theorem cut_hi {xs : List V} {a : Nat} (h : a ≤ xs.length) : cutV xs (some (a : Int)) none = xs.drop a := by
  unfold cutV
  rw [HT.sIx_nat, HT.sIx_none, Nat.min_eq_left h]
  exact List.take_of_length_le (by rw [List.length_drop]; exact Nat.le_refl _)
theorem rd_nestN {H : Hp} {σ : L2.St} {a : Addr} {vs : List V} {ls : List (List Int)} {Q : VK} (hs : SqL K H a vs) (h : NestAt K H vs ls) (f : Few ls) (q : Q (.str (nest ls).shown) H) : tNil σ H (fun xs H1 => rReprD K (.ref a :: xs) H1 Q) := rd_nest hs h f q
theorem rd_dueN {H : Hp} {σ : L2.St} {o : Option Int} {Q : VK} (h : ∀ g, o = some g → 0 ≤ g ∧ g ≤ 1000) (q : Q (.str (dueD o).shown) H) : tNil σ H (fun xs H1 => rReprD K (dueV o :: xs) H1 Q) := rd_due h q
theorem rneS {s : Str} {H : Hp} {Q : VK} (q : Q (.bl false) H) : rNe (.str s) (.str s) H Q := ⟨by rfl, by
  rw [decide_eq_true rfl]
  exact q⟩
theorem nodup_ne {l : List Addr} (h : l.Nodup) {i j : Nat} {x y : Addr} (hi : l[i]? = some x) (hj : l[j]? = some y) (ne : i ≠ j) : x ≠ y := by
  have p := List.pairwise_iff_getElem.mp h
  obtain ⟨i1, i2⟩ := List.getElem?_eq_some_iff.mp hi
  obtain ⟨j1, j2⟩ := List.getElem?_eq_some_iff.mp hj
  subst i2 j2
  rcases Nat.lt_or_gt_of_ne ne with k | k
  · exact p i j i1 j1 k
  · exact (p j i j1 i1 k).symm
theorem rModI {i j k : Int} {H : Hp} {Q : VK} (hj : 0 < j) (e : i % j = k) (q : Q (.int k) H) : rI (fun _ j => 0 < j) (fun i j => .int (i % j)) (.int i) (.int j) H Q := ⟨i, j, rfl, rfl, hj, by
  show Q (.int (i % j)) H
  rw [e]
  exact q⟩

theorem nodup_ne' {α : Type} {l : List α} (h : l.Nodup) {i j : Nat} {x y : α} (hi : l[i]? = some x) (hj : l[j]? = some y) (ne : i ≠ j) : x ≠ y := by
  have p := List.pairwise_iff_getElem.mp h
  obtain ⟨i1, i2⟩ := List.getElem?_eq_some_iff.mp hi
  obtain ⟨j1, j2⟩ := List.getElem?_eq_some_iff.mp hj
  subst i2 j2
  rcases Nat.lt_or_gt_of_ne ne with k | k
  · exact p i j i1 j1 k
  · exact (p j i j1 i1 k).symm
/-- a list of the first n numbers in some order -/
def OrdAt (H : Hp) (o : Addr) (n : Nat) : Prop := ∃ os : List Int, H o = some (.lst (os.map V.int)) ∧ os.Nodup ∧ os.length = n ∧ ∀ x ∈ os, 0 ≤ x ∧ x < n
theorem OrdAt.ex {H H' : Hp} {o : Addr} {n : Nat} (h : OrdAt H o n) (e : Ex H H') : OrdAt H' o n := by
  obtain ⟨os, h1, h2⟩ := h
  exact ⟨os, e _ _ h1, h2⟩
theorem OrdAt.but {H H' : Hp} {o d : Addr} {n : Nat} (h : OrdAt H o n) (e : But d H H') (ne : o ≠ d) : OrdAt H' o n := by
  obtain ⟨os, h1, h2⟩ := h
  exact ⟨os, e _ _ ne h1, h2⟩
theorem upTo_nodup (n : Nat) : (Bs.upTo n).Nodup := by
  unfold Bs.upTo
  rw [List.Nodup, List.pairwise_map]
  exact List.nodup_range.imp fun h e => h (Int.ofNat.inj e)
theorem upTo_mem {n : Nat} {x : Int} (h : x ∈ Bs.upTo n) : 0 ≤ x ∧ x < n := by
  obtain ⟨k, hk, rfl⟩ := List.mem_map.mp h
  have := List.mem_range.mp hk
  omega
theorem OrdAt.at_ {H : Hp} {o : Addr} {n : Nat} (h : OrdAt H o n) {i j : Int} (i0 : 0 ≤ i) (i1 : i < j) (j1 : j < n) : ∃ (xs : List V) (x y : Int), H o = some (.lst xs) ∧ atI xs i = some (.int x) ∧ atI xs j = some (.int y) ∧ 0 ≤ x ∧ x < n ∧ 0 ≤ y ∧ y < n ∧ x ≠ y := by
  obtain ⟨os, h1, h2, h3, h4⟩ := h
  obtain ⟨a, rfl⟩ : ∃ a : Nat, i = (a : Int) := ⟨_, (Int.toNat_of_nonneg i0).symm⟩
  obtain ⟨b, rfl⟩ : ∃ b : Nat, j = (b : Int) := ⟨_, (Int.toNat_of_nonneg (by omega)).symm⟩
  have ha : os[a]? = some (os[a]'(by omega)) := List.getElem?_eq_getElem (by omega)
  have hb : os[b]? = some (os[b]'(by omega)) := List.getElem?_eq_getElem (by omega)
  refine ⟨_, _, _, h1, atI_nat (by rw [List.getElem?_map, ha]; rfl), atI_nat (by rw [List.getElem?_map, hb]; rfl), (h4 _ (List.mem_of_getElem? ha)).1, (h4 _ (List.mem_of_getElem? ha)).2, (h4 _ (List.mem_of_getElem? hb)).1, (h4 _ (List.mem_of_getElem? hb)).2, nodup_ne' h2 ha hb (by omega)⟩
def spArcs (K : PySem.W.Frag) : Sp := fun vs H Q _ => ∃ (a : Addr) (ns : List Int) (k : Int) (n : Nat), vs = [.ref a, .int k, .int n, .bl true] ∧ SqL K H a (ns.map V.int) ∧ ns.length ≤ 63 ∧ 0 ≤ k ∧ k ≤ 10 ^ 6 ∧ 1 ≤ n ∧ n ≤ 30 ∧
  ∀ (l : Addr) (arcs : List PP) (H' : Hp), ArcsAt H' l n arcs → H l = none → Ex H H' → Q (.ref l) H'
theorem ok__law_arcs (T : Tx K mg) : Cal P w K mg base 3 "_law_arcs" ["script", "k", "many", "is_loose"] (spArcs K) := by
  have G__law_draw : Cal P w K mg base 1 "_law_draw" ["script", "k"] (spDraw K) := ok__law_draw T
  have G__law_next : Cal P w K mg base 2 "_law_next" ["draw", "many"] spNext := ok__law_next T
  refine T.d__law_arcs.cal sc__law_arcs (fun vs H Q E h => ?_) (fun f cdv A outer s H vs Q E hr h => ?_)
  · obtain ⟨_, _, _, _, rfl, _⟩ := h
    rfl
  · obtain ⟨a, ns, k, n, rfl, hS, hl, k0, k1, n0, n1, q⟩ := h
    refine ⟨_, (pss_cons (ps_set (i := 4) sc__law_arcs.nd rfl (.inl rfl) (pe_cal G__law_draw (hr.mono (by decide)) (by rfl) (pa_cons (pv 0) (pa_cons (pv 1) pa_nil))))
    (pss_cons (ps_set (i := 5) sc__law_arcs.nd rfl (.inl rfl) (pe_callTy (cr_listRng rfl) (by rfl) T.b_list (by decide +kernel) (pa_cons (pe_callTy cr_range1 (by rfl) T.b_range (by decide +kernel) (pa_cons (pv 2) pa_nil)) pa_nil)))
    (pss_cons (ps_set (i := 6) sc__law_arcs.nd rfl (.inl rfl) (pe_cal G__law_next hr (by rfl) (pa_cons (pv 4) (pa_cons (pv 2) pa_nil))))
    (pss_cons (ps_set (i := 5) sc__law_arcs.nd rfl (.inl rfl) (pe_ifExp (PW.pt (pw_and (pt_val (pv 3)) (pw_and1 (pt_cmpR op_eq (pe_cal G__law_next hr (by rfl) (pa_cons (pv 4) (pa_cons pe_int pa_nil))) pe_int (nomark _))))) (pe_op op_cat (pe_slice sl_list (pv 5) (po_some (pv 6)) po_none) (pe_slice sl_list (pv 5) po_none (po_some (pv 6)))) (pv 5)))
    (pss_cons (ps_set (i := 7) sc__law_arcs.nd rfl (.inl rfl) (pe_lst pa_nil))
    (pss_cons (ps_for PassesOwn.never rfl (pi_range1 (by rfl) T.b_range (pa_cons (pe_ifExp (pt_cmpR op_gt (pv 2) pe_int (nomark _)) (pe_cal G__law_next hr (by rfl) (pa_cons (pv 4) (pa_cons (pe_op op_mulX pe_int (pv 2)) pa_nil))) pe_int) pa_nil)) (pg_name (i := 8) sc__law_arcs.nd rfl (.inl rfl)) (pss_cons (ps_set (i := 9) sc__law_arcs.nd rfl (.inl rfl) (pe_cal G__law_next hr (by rfl) (pa_cons (pv 4) (pa_cons (pe_op op_sub (pv 2) pe_int) pa_nil))))
    (pss_cons (ps_set (i := 10) sc__law_arcs.nd rfl (.inl rfl) (pe_op op_add (pe_op op_add (pv 9) pe_int) (pe_cal G__law_next hr (by rfl) (pa_cons (pv 4) (pa_cons (pe_op op_sub (pe_op op_sub (pv 2) pe_int) (pv 9)) pa_nil)))))
    (pss_cons (ps_set (i := 11) sc__law_arcs.nd rfl (.inl rfl) (pe_tup (pa_cons (pe_ix ix_list (pv 5) (pv 9) (fun _ _ => rfl)) (pa_cons (pe_ix ix_list (pv 5) (pv 10) (fun _ _ => rfl)) pa_nil))))
    (pss_one (ps_expr (pe_bm PySem.F.plainAttrs_list PySem.F.slot_list_append PySem.F.type_list_append mt_append (pv 7) (pa_cons (pe_ifExp (PW.pt (pw_and (pt_val (pv 3)) (pw_and1 (pt_cmpR op_eq (pe_cal G__law_next hr (by rfl) (pa_cons (pv 4) (pa_cons pe_int pa_nil))) pe_int (nomark _))))) (pe_revP (pv 11)) (pv 11)) pa_nil))))))))
    (pss_one (ps_ret (pv 7))))))))), ?_⟩
    refine ⟨.ref a, rfl, .int k, rfl, a, ns, k, rfl, hS, hl, k0, k1, fun d H1 e1 hd d1 => ?_⟩
    refine ⟨.int n, rfl, n, rfl, fun p hp => ⟨p, n, rfl, upd_same, by omega, fun o ho => ?_⟩⟩
    have n2 := Ex.new (o := .rng 0 n) hp
    have n3 := Ex.new (o := .lst ((Bs.upTo n).map V.int)) ho
    have ord3 : OrdAt (upd (upd H1 p (.rng 0 n)) o (.lst ((Bs.upTo n).map V.int))) o n := ⟨_, upd_same, upTo_nodup n, by unfold Bs.upTo; rw [List.length_map, List.length_range], fun x h => upTo_mem h⟩
    have E3 := (e1.trans n2).trans n3
    have d3 := (d1.ex n2).ex n3
    have ho0 : H1 o = none := Evl.fresh_back n2 ho
    have nod : o ≠ d := (d1.ne ho0).symm
    generalize upd (upd H1 p (.rng 0 n)) o (.lst ((Bs.upTo n).map V.int)) = H3 at ord3 E3 d3 ⊢
    have p1 : (10 : Int) ^ 6 = 1000000 := by decide
    have p2 : (10 : Int) ^ 11 = 100000000000 := by decide
    have p3 : (10 : Int) ^ 18 = 1000000000000000000 := by decide
    refine ⟨.ref d, rfl, .int n, rfl, d, n, 64 * k, rfl, d3, by omega, by omega, by omega, fun m c4 H4 m0 m1 g1 g2 b4 d4 => ?_⟩
    have E4 : Ex H H4 := But.toEx E3 b4 hd
    have ord4 := ord3.but b4 nod
    refine ⟨.bl true, rfl, true, rfl, iteT ⟨.ref d, rfl, d, 3, c4, rfl, d4, by decide, by decide, by omega, fun m5 c5 H5 _ _ g3 g4 b5 d5 => ⟨rfl, _, rfl, ite2 (fun e => ?_) (fun e => ?_)⟩⟩⟩
    · have E5 : Ex H H5 := But.toEx E4 b5 hd
      obtain ⟨os, hos, nd, len, bd⟩ := ord4.but b5 nod
      obtain ⟨mn, rfl⟩ : ∃ mn : Nat, m = (mn : Int) := ⟨_, (Int.toNat_of_nonneg m0).symm⟩
      have lo : (os.map V.int).length = n := by rw [List.length_map]; exact len
      refine ⟨.ref o, rfl, .int mn, rfl, mn, rfl, o, _, rfl, SqL.of hos, fun a1 ha1 => ?_⟩
      rw [cut_hi (by omega)]
      have x1 := Ex.new (o := .lst ((os.map V.int).drop mn)) ha1
      refine ⟨.ref o, rfl, .int mn, rfl, mn, rfl, o, _, rfl, SqL.of (x1 _ _ hos), fun a2 ha2 => ?_⟩
      rw [cut_lo (by omega)]
      have x2 := Ex.new (o := .lst ((os.map V.int).take mn)) ha2
      refine ⟨a1, a2, _, _, rfl, rfl, x2 _ _ upd_same, upd_same, by rw [List.length_take, List.length_drop, sizeLine_eq]; omega, fun o2 ho2 => ?_⟩
      have x3 := Ex.new (o := .lst ((os.map V.int).drop mn ++ (os.map V.int).take mn)) ho2
      have pm : (os.drop mn ++ os.take mn).Perm os := by
        have := List.perm_append_comm (l₁ := os.drop mn) (l₂ := os.take mn)
        rw [List.take_append_drop] at this
        exact this
      have ord6 : OrdAt (upd (upd (upd H5 a1 (.lst ((os.map V.int).drop mn))) a2 (.lst ((os.map V.int).take mn))) o2 (.lst ((os.map V.int).drop mn ++ (os.map V.int).take mn))) o2 n := by
        refine ⟨os.drop mn ++ os.take mn, ?_, pm.nodup_iff.mpr nd, pm.length_eq.trans len, fun x h => bd x (pm.mem_iff.mp h)⟩
        rw [upd_same, List.map_append, List.map_drop, List.map_take]
      have X := x1.trans (x2.trans x3)
      have E6 := E5.trans X
      have d6 := d5.ex X
      have no2 : o2 ≠ d := (d5.ne (Evl.fresh_back x1 (Evl.fresh_back x2 ho2))).symm
      generalize upd (upd (upd H5 a1 (.lst ((os.map V.int).drop mn))) a2 (.lst ((os.map V.int).take mn))) o2 (.lst ((os.map V.int).drop mn ++ (os.map V.int).take mn)) = H6 at ord6 E6 d6 ⊢
      clear ord3 E3 d3 nod ord4 E4 d4 b4 b5 d5 X x1 x2 x3 E5
      refine ⟨sz16 (by decide), fun fo hfo => ?_⟩
      have x7 := Ex.new (o := .lst []) hfo
      have E7 := E6.trans x7
      have d7 := d6.ex x7
      have ord7 := ord6.ex x7
      have hf7 : upd H6 fo (.lst []) fo = some (.lst []) := upd_same
      have nfd : fo ≠ d := (d6.ne hfo).symm
      have nfo : o2 ≠ fo := fun z => by
        obtain ⟨_, z1, _⟩ := ord6
        rw [z, hfo] at z1
        cases z1
      have hfo0 : H fo = none := Evl.fresh_back E6 hfo
      generalize upd H6 fo (.lst []) = H7 at E7 d7 ord7 hf7 ⊢
      refine ⟨.int n, rfl, n, 1, rfl, rfl, _, rfl, ite2 (fun e => ?_) (fun e => ?_)⟩
      · have n1' : 1 < n := by
          have := of_decide_eq_true e
          omega
        refine ⟨.ref d, rfl, .int n, rfl, 2, n, rfl, rfl, mulBd (by omega) (by omega) (by omega) (by omega), d, 2 * n, c5, rfl, d7, by omega, by omega, by omega, fun cnt c8 H8 w0 w1 w2 w3 b8 d8 => ?_⟩
        have E8 : Ex H H8 := But.toEx E7 b8 hd
        refine ⟨cnt, rfl, by omega, by omega, ?_⟩
        refine for_range (fun i σ H' => ∃ (c' : Int) (arcs : List PP) (xs : List V) (t6 t8 t9 t10 t11 : Option V), σ = [some (.ref a), some (.int k), some (.int n), some (.bl true), some (.ref d), some (.ref o2), t6, some (.ref fo), t8, t9, t10, t11] ∧ Ex H H' ∧ Drw H' d c' ∧ c' ≤ c8 + 3 * i ∧ OrdAt H' o2 n ∧ H' fo = some (.lst xs) ∧ RowsAt arcD H' xs arcs ∧ arcs.length = i ∧ ∀ p ∈ arcs, ArcOk n p)
          ⟨c8, [], [], _, none, none, none, none, rfl, E8, d8, by omega, ord7.but b8 no2, b8 _ _ nfd hf7, .nil, rfl, fun _ h => nomatch h⟩ ?_ ?_
        · rintro i σ H9 hi ⟨c9, arcs, xs, t6, t8, t9, t10, t11, rfl, y1, y2, y3, y4, y5, y6, y7, y8⟩
          refine ⟨.ref d, rfl, .int n, rfl, n, 1, rfl, rfl, d, (n : Int) - 1, c9, rfl, y2, by omega, by omega, by omega, fun lo c10 H10 l0 l1 l2 l3 b10 d10 => ?_⟩
          refine ⟨.int lo, rfl, lo, 1, rfl, rfl, .ref d, rfl, .int n, rfl, n, 1, rfl, rfl, .int lo, rfl, (n : Int) - 1, lo, rfl, rfl, d, (n : Int) - 1 - lo, c10, rfl, d10, by omega, by omega, by omega, fun hi' c11 H11 h0 h1 h2 h3 b11 d11 => ⟨lo + 1, hi', rfl, rfl, ?_⟩⟩
          have bb := b10.trans b11
          have ord11 := y4.but bb no2
          obtain ⟨ys, u, v, ho11, at1, at2, u0, u1, v0, v1, ne⟩ := ord11.at_ (i := lo) (j := lo + 1 + hi') l0 (by omega) (by omega)
          refine ⟨.ref o2, rfl, .int lo, rfl, o2, _, lo, .int u, rfl, rfl, SqL.of ho11, at1, .ref o2, rfl, .int (lo + 1 + hi'), rfl, o2, _, lo + 1 + hi', .int v, rfl, rfl, SqL.of ho11, at2, sz16 (by show 2 ≤ 16000000; decide), fun pr hpr => ?_⟩
          have x12 := Ex.new (o := .tup [V.int u, V.int v]) hpr
          have hf12 := x12 _ _ (bb _ _ nfd y5)
          have lxs := y6.len
          refine ⟨.ref fo, rfl, .inl ⟨rfl, _, SqL.of hf12⟩, .bl true, rfl, true, rfl, iteT ⟨.ref d, rfl, d, 20, c11, rfl, d11.ex x12, by decide, by decide, by omega, fun m13 c13 H13 _ _ g13 g14 b13 d13 => ⟨rfl, _, rfl, ite2 (fun e => ?_) (fun e => ?_)⟩⟩⟩
          · have npd : pr ≠ d := (d11.ne hpr).symm
            have hpr13 := b13 _ _ npd (upd_same (H := H11) (o := .tup [V.int u, V.int v]))
            refine ⟨.ref pr, rfl, pr, .int u, .int v, rfl, hpr13, fun rp hrp => ?_⟩
            have x14 := Ex.new (o := .tup [V.int v, V.int u]) hrp
            have bA : But d H9 (upd H13 rp (.tup [V.int v, V.int u])) := (bb.ex x12).trans (b13.ex x14)
            have hf14 := bA _ _ nfd y5
            refine ⟨fo, xs, .ref rp, rfl, rfl, hf14, by rw [sizeLine_eq]; omega, ?_⟩
            have bB : But fo (upd H13 rp (.tup [V.int v, V.int u])) (upd (upd H13 rp (.tup [V.int v, V.int u])) fo (.lst (xs ++ [V.ref rp]))) := But.self
            have nrf : rp ≠ fo := fun z => by
              have := b13 _ _ nfd hf12
              rw [← z, hrp] at this
              cases this
            refine ⟨c13, arcs ++ [(v, u)], _, t6, _, _, _, _, rfl, (But.toEx y1 bA hd).mut hfo0, (d13.ex x14).upd nfd.symm, by omega, (y4.but bA no2).but bB nfo, upd_same, ?_, by rw [List.length_append, y7]; rfl, fun p hp => ?_⟩
            · unfold RowsAt
              rw [List.map_append]
              have tps : Tp H9 (upd (upd H13 rp (.tup [V.int v, V.int u])) fo (.lst (xs ++ [V.ref rp]))) := Tp.trans (tp_but y2 bA) (Tp.upd hf14)
              refine TDs.append (RowsAt.tp tps y6) (.cons (.tup (by rw [upd_ne nrf, upd_same]) (.cons (.int _) (.cons (.int _) .nil))) .nil)
            · rcases List.mem_append.mp hp with h | h
              · exact y8 p h
              · rw [List.mem_singleton.mp h]
                exact ⟨⟨v0, v1⟩, ⟨u0, u1⟩, fun z => ne z.symm⟩
          · have npd : pr ≠ d := (d11.ne hpr).symm
            have hpr13 := b13 _ _ npd (upd_same (H := H11) (o := .tup [V.int u, V.int v]))
            have bA : But d H9 H13 := (bb.ex x12).trans b13
            have hf14 := bA _ _ nfd y5
            refine ⟨.ref pr, rfl, fo, xs, .ref pr, rfl, rfl, hf14, by rw [sizeLine_eq]; omega, ?_⟩
            have bB : But fo H13 (upd H13 fo (.lst (xs ++ [V.ref pr]))) := But.self
            have nrf : pr ≠ fo := fun z => by
              have := bb _ _ nfd y5
              rw [← z, hpr] at this
              cases this
            refine ⟨c13, arcs ++ [(u, v)], _, t6, _, _, _, _, rfl, (But.toEx y1 bA hd).mut hfo0, d13.upd nfd.symm, by omega, (y4.but bA no2).but bB nfo, upd_same, ?_, by rw [List.length_append, y7]; rfl, fun p hp => ?_⟩
            · unfold RowsAt
              rw [List.map_append]
              have tps : Tp H9 (upd H13 fo (.lst (xs ++ [V.ref pr]))) := Tp.trans (tp_but y2 bA) (Tp.upd hf14)
              refine TDs.append (RowsAt.tp tps y6) (.cons (.tup (by rw [upd_ne nrf]; exact hpr13) (.cons (.int _) (.cons (.int _) .nil))) .nil)
            · rcases List.mem_append.mp hp with h | h
              · exact y8 p h
              · rw [List.mem_singleton.mp h]
                exact ⟨⟨u0, u1⟩, ⟨v0, v1⟩, ne⟩
        · rintro σ H9 ⟨c9, arcs, xs, t6, t8, t9, t10, t11, rfl, y1, y2, y3, y4, y5, y6, y7, y8⟩
          exact ⟨.ref fo, rfl, q fo arcs H9 ⟨⟨xs, y5, y6⟩, y8, by omega⟩ hfo0 y1⟩
      · refine ⟨0, rfl, by decide, by decide, ?_⟩
        refine for_range (fun i σ H' => H' = H7 ∧ ∃ t6, σ = [some (.ref a), some (.int k), some (.int n), some (.bl true), some (.ref d), some (.ref o2), t6, some (.ref fo), none, none, none, none]) ⟨rfl, _, rfl⟩ (fun i σ H' hi _ => absurd hi (by simp)) ?_
        rintro σ H' ⟨rfl, t6, rfl⟩
        exact ⟨.ref fo, rfl, q fo [] H' ⟨⟨[], hf7, .nil⟩, (fun _ h => nomatch h), by decide⟩ hfo0 E7⟩
    · have E6 : Ex H H5 := But.toEx E4 b5 hd
      have ord6 := ord4.but b5 nod
      refine ⟨.ref o, rfl, ?_⟩
      have no2 := nod
      have d6 := d5
      generalize o = o2 at ord6 no2 ⊢
      generalize H5 = H6 at ord6 E6 d6 ⊢
      refine ⟨sz16 (by decide), fun fo hfo => ?_⟩
      have x7 := Ex.new (o := .lst []) hfo
      have E7 := E6.trans x7
      have d7 := d6.ex x7
      have ord7 := ord6.ex x7
      have hf7 : upd H6 fo (.lst []) fo = some (.lst []) := upd_same
      have nfd : fo ≠ d := (d6.ne hfo).symm
      have nfo : o2 ≠ fo := fun z => by
        obtain ⟨_, z1, _⟩ := ord6
        rw [z, hfo] at z1
        cases z1
      have hfo0 : H fo = none := Evl.fresh_back E6 hfo
      generalize upd H6 fo (.lst []) = H7 at E7 d7 ord7 hf7 ⊢
      refine ⟨.int n, rfl, n, 1, rfl, rfl, _, rfl, ite2 (fun e => ?_) (fun e => ?_)⟩
      · have n1' : 1 < n := by
          have := of_decide_eq_true e
          omega
        refine ⟨.ref d, rfl, .int n, rfl, 2, n, rfl, rfl, mulBd (by omega) (by omega) (by omega) (by omega), d, 2 * n, c5, rfl, d7, by omega, by omega, by omega, fun cnt c8 H8 w0 w1 w2 w3 b8 d8 => ?_⟩
        have E8 : Ex H H8 := But.toEx E7 b8 hd
        refine ⟨cnt, rfl, by omega, by omega, ?_⟩
        refine for_range (fun i σ H' => ∃ (c' : Int) (arcs : List PP) (xs : List V) (t6 t8 t9 t10 t11 : Option V), σ = [some (.ref a), some (.int k), some (.int n), some (.bl true), some (.ref d), some (.ref o2), t6, some (.ref fo), t8, t9, t10, t11] ∧ Ex H H' ∧ Drw H' d c' ∧ c' ≤ c8 + 3 * i ∧ OrdAt H' o2 n ∧ H' fo = some (.lst xs) ∧ RowsAt arcD H' xs arcs ∧ arcs.length = i ∧ ∀ p ∈ arcs, ArcOk n p)
          ⟨c8, [], [], _, none, none, none, none, rfl, E8, d8, by omega, ord7.but b8 no2, b8 _ _ nfd hf7, .nil, rfl, fun _ h => nomatch h⟩ ?_ ?_
        · rintro i σ H9 hi ⟨c9, arcs, xs, t6, t8, t9, t10, t11, rfl, y1, y2, y3, y4, y5, y6, y7, y8⟩
          refine ⟨.ref d, rfl, .int n, rfl, n, 1, rfl, rfl, d, (n : Int) - 1, c9, rfl, y2, by omega, by omega, by omega, fun lo c10 H10 l0 l1 l2 l3 b10 d10 => ?_⟩
          refine ⟨.int lo, rfl, lo, 1, rfl, rfl, .ref d, rfl, .int n, rfl, n, 1, rfl, rfl, .int lo, rfl, (n : Int) - 1, lo, rfl, rfl, d, (n : Int) - 1 - lo, c10, rfl, d10, by omega, by omega, by omega, fun hi' c11 H11 h0 h1 h2 h3 b11 d11 => ⟨lo + 1, hi', rfl, rfl, ?_⟩⟩
          have bb := b10.trans b11
          have ord11 := y4.but bb no2
          obtain ⟨ys, u, v, ho11, at1, at2, u0, u1, v0, v1, ne⟩ := ord11.at_ (i := lo) (j := lo + 1 + hi') l0 (by omega) (by omega)
          refine ⟨.ref o2, rfl, .int lo, rfl, o2, _, lo, .int u, rfl, rfl, SqL.of ho11, at1, .ref o2, rfl, .int (lo + 1 + hi'), rfl, o2, _, lo + 1 + hi', .int v, rfl, rfl, SqL.of ho11, at2, sz16 (by show 2 ≤ 16000000; decide), fun pr hpr => ?_⟩
          have x12 := Ex.new (o := .tup [V.int u, V.int v]) hpr
          have hf12 := x12 _ _ (bb _ _ nfd y5)
          have lxs := y6.len
          refine ⟨.ref fo, rfl, .inl ⟨rfl, _, SqL.of hf12⟩, .bl true, rfl, true, rfl, iteT ⟨.ref d, rfl, d, 20, c11, rfl, d11.ex x12, by decide, by decide, by omega, fun m13 c13 H13 _ _ g13 g14 b13 d13 => ⟨rfl, _, rfl, ite2 (fun e => ?_) (fun e => ?_)⟩⟩⟩
          · have npd : pr ≠ d := (d11.ne hpr).symm
            have hpr13 := b13 _ _ npd (upd_same (H := H11) (o := .tup [V.int u, V.int v]))
            refine ⟨.ref pr, rfl, pr, .int u, .int v, rfl, hpr13, fun rp hrp => ?_⟩
            have x14 := Ex.new (o := .tup [V.int v, V.int u]) hrp
            have bA : But d H9 (upd H13 rp (.tup [V.int v, V.int u])) := (bb.ex x12).trans (b13.ex x14)
            have hf14 := bA _ _ nfd y5
            refine ⟨fo, xs, .ref rp, rfl, rfl, hf14, by rw [sizeLine_eq]; omega, ?_⟩
            have bB : But fo (upd H13 rp (.tup [V.int v, V.int u])) (upd (upd H13 rp (.tup [V.int v, V.int u])) fo (.lst (xs ++ [V.ref rp]))) := But.self
            have nrf : rp ≠ fo := fun z => by
              have := b13 _ _ nfd hf12
              rw [← z, hrp] at this
              cases this
            refine ⟨c13, arcs ++ [(v, u)], _, t6, _, _, _, _, rfl, (But.toEx y1 bA hd).mut hfo0, (d13.ex x14).upd nfd.symm, by omega, (y4.but bA no2).but bB nfo, upd_same, ?_, by rw [List.length_append, y7]; rfl, fun p hp => ?_⟩
            · unfold RowsAt
              rw [List.map_append]
              have tps : Tp H9 (upd (upd H13 rp (.tup [V.int v, V.int u])) fo (.lst (xs ++ [V.ref rp]))) := Tp.trans (tp_but y2 bA) (Tp.upd hf14)
              refine TDs.append (RowsAt.tp tps y6) (.cons (.tup (by rw [upd_ne nrf, upd_same]) (.cons (.int _) (.cons (.int _) .nil))) .nil)
            · rcases List.mem_append.mp hp with h | h
              · exact y8 p h
              · rw [List.mem_singleton.mp h]
                exact ⟨⟨v0, v1⟩, ⟨u0, u1⟩, fun z => ne z.symm⟩
          · have npd : pr ≠ d := (d11.ne hpr).symm
            have hpr13 := b13 _ _ npd (upd_same (H := H11) (o := .tup [V.int u, V.int v]))
            have bA : But d H9 H13 := (bb.ex x12).trans b13
            have hf14 := bA _ _ nfd y5
            refine ⟨.ref pr, rfl, fo, xs, .ref pr, rfl, rfl, hf14, by rw [sizeLine_eq]; omega, ?_⟩
            have bB : But fo H13 (upd H13 fo (.lst (xs ++ [V.ref pr]))) := But.self
            have nrf : pr ≠ fo := fun z => by
              have := bb _ _ nfd y5
              rw [← z, hpr] at this
              cases this
            refine ⟨c13, arcs ++ [(u, v)], _, t6, _, _, _, _, rfl, (But.toEx y1 bA hd).mut hfo0, d13.upd nfd.symm, by omega, (y4.but bA no2).but bB nfo, upd_same, ?_, by rw [List.length_append, y7]; rfl, fun p hp => ?_⟩
            · unfold RowsAt
              rw [List.map_append]
              have tps : Tp H9 (upd H13 fo (.lst (xs ++ [V.ref pr]))) := Tp.trans (tp_but y2 bA) (Tp.upd hf14)
              refine TDs.append (RowsAt.tp tps y6) (.cons (.tup (by rw [upd_ne nrf]; exact hpr13) (.cons (.int _) (.cons (.int _) .nil))) .nil)
            · rcases List.mem_append.mp hp with h | h
              · exact y8 p h
              · rw [List.mem_singleton.mp h]
                exact ⟨⟨u0, u1⟩, ⟨v0, v1⟩, ne⟩
        · rintro σ H9 ⟨c9, arcs, xs, t6, t8, t9, t10, t11, rfl, y1, y2, y3, y4, y5, y6, y7, y8⟩
          exact ⟨.ref fo, rfl, q fo arcs H9 ⟨⟨xs, y5, y6⟩, y8, by omega⟩ hfo0 y1⟩
      · refine ⟨0, rfl, by decide, by decide, ?_⟩
        refine for_range (fun i σ H' => H' = H7 ∧ ∃ t6, σ = [some (.ref a), some (.int k), some (.int n), some (.bl true), some (.ref d), some (.ref o2), t6, some (.ref fo), none, none, none, none]) ⟨rfl, _, rfl⟩ (fun i σ H' hi _ => absurd hi (by simp)) ?_
        rintro σ H' ⟨rfl, t6, rfl⟩
        exact ⟨.ref fo, rfl, q fo [] H' ⟨⟨[], hf7, .nil⟩, (fun _ h => nomatch h), by decide⟩ hfo0 E7⟩

end
end Bk13

namespace Bk13
open PySem PySem.Spec PyProof.Rows L2 Bs
open Evl (Ex)
section
variable {P : Program} {w : World} {K : PySem.W.Frag} {mg : Str → Option Value} {base : Heap}
def spLaw (K : PySem.W.Frag) : Sp := fun vs H Q _ => ∃ (a : Addr) (ns : List Int), vs = [.ref a] ∧ SqL K H a (ns.map V.int) ∧ ns.length ≤ 63 ∧ ∀ H', Q (.bl true) H'
theorem ok__law_whole (T : Tx K mg) : Cal P w K mg base 1 "_law_whole" ["thing"] (spWhole K) := by
  refine T.d__law_whole.cal sc__law_whole (fun vs H Q E h => ?_) (fun f cdv A outer s H vs Q E hr h => ?_)
  · obtain ⟨x, n, rfl, _⟩ := h
    rfl
  · obtain ⟨x, n, rfl, hk, q⟩ := h
    refine ⟨_, (pss_one (ps_ret (pe_and (pe_callB call_isi (by rfl) T.b_isinstance (by decide +kernel) (pa_cons (pv 0) (pa_cons (pe_bltn (v := .ty "int") rfl T.b_int (by decide +kernel) rfl) pa_nil))) (pe_one (pe_not (pe_callB call_isi (by rfl) T.b_isinstance (by decide +kernel) (pa_cons (pv 0) (pa_cons (pe_bltn (v := .ty "bool") rfl T.b_bool (by decide +kernel) rfl) pa_nil)))))))), ?_⟩
    refine rd_int? rfl hk ⟨_, rfl, ?_⟩
    cases x <;> first | exact iteF q | exact iteT (rd_bool? rfl hk ⟨_, rfl, q⟩)
theorem ok_law (T : Tx K mg) {f : Addr} {fd : FuncData} (F : Fun K "law" "law" s_law f fd) : FnOk P w K mg base CX0 7 f fd ["script"] (spLaw K) := by
  have G__law_book : Cal P w K mg base 4 "_law_book" ["script", "most"] (spBook K) := ok__law_book T
  have G__law_arcs : Cal P w K mg base 3 "_law_arcs" ["script", "k", "many", "is_loose"] (spArcs K) := ok__law_arcs T
  have G__law_gaps : Cal P w K mg base 1 "_law_gaps" ["book", "arcs"] spGaps := ok__law_gaps T
  have G_steps : Cal P w K mg base 6 "steps" ["book", "arcs"] spSteps := ok_steps T
  have G__law_whole : Cal P w K mg base 1 "_law_whole" ["thing"] (spWhole K) := ok__law_whole T
  have G_first_of : Cal P w K mg base 1 "first_of" ["book", "task"] spBeg := ok_first_of T
  have G__law_begin : Cal P w K mg base 1 "_law_begin" ["book", "task"] spBeg := ok__law_begin T
  refine F.ok sc_law (fun vs H Q E h => ?_) (fun cdv A outer s H vs Q E hr h => ?_)
  · obtain ⟨a, ns, rfl, _⟩ := h
    rfl
  · obtain ⟨a, ns, rfl, hS, hl, q⟩ := h
    refine ⟨_, (pss_cons (ps_set (i := 1) sc_law.nd rfl (.inl rfl) (pe_cal G__law_book (hr.mono (by decide)) (by rfl) (pa_cons (pv 0) (pa_cons pe_int pa_nil))))
    (pss_cons (ps_set (i := 2) sc_law.nd rfl (.inl rfl) (pe_callB call_len_seq (by rfl) T.b_len (by decide +kernel) (pa_cons (pe_ix ix_tup (pv 1) pe_int (fun _ _ => rfl)) pa_nil)))
    (pss_cons (ps_set (i := 3) sc_law.nd rfl (.inl rfl) (pe_cal G__law_arcs (hr.mono (by decide)) (by rfl) (pa_cons (pv 0) (pa_cons pe_int (pa_cons (pv 2) (pa_cons pe_bl pa_nil))))))
    (pss_cons (ps_set (i := 4) sc_law.nd rfl (.inl rfl) (pe_cal G__law_gaps (hr.mono (by decide)) (by rfl) (pa_cons (pv 1) (pa_cons (pv 3) pa_nil))))
    (pss_cons (ps_set (i := 5) sc_law.nd rfl (.inl rfl) (pe_callTy call_list_of (by rfl) T.b_list (by decide +kernel) (pa_cons (pv 3) pa_nil)))
    (pss_cons (ps_for PassesOwn.never rfl (pi_range1 (by rfl) T.b_range (pa_cons pe_int pa_nil)) (pg_name (i := 6) sc_law.nd rfl (.inl rfl)) (pss_cons (ps_set (i := 7) sc_law.nd rfl (.inl rfl) (pe_cal G_steps hr (by rfl) (pa_cons (pv 1) (pa_cons (pv 5) pa_nil))))
    (pss_cons (ps_if (PW.pt (pw_or (pt_not (pt_val (pe_callB call_isi (by rfl) T.b_isinstance (by decide +kernel) (pa_cons (pv 7) (pa_cons (pe_bltn (v := .ty "dict") rfl T.b_dict (by decide +kernel) rfl) pa_nil))))) (pw_or (pt_cmpR (neDK (K := K) hr.units) (pe_callTy (cr_listItP rfl) (by rfl) T.b_list (by decide +kernel) (pa_cons (pe_bm0 PySem.F.plainAttrs_dict PySem.F.slot_dict_items PySem.F.type_dict_items DX.mt_itemsT (pv 7)) pa_nil)) (pe_callB (cr_sortItP rfl hr.units) (by rfl) T.b_sorted (by decide +kernel) (pa_cons (pe_bm0 PySem.F.plainAttrs_dict PySem.F.slot_dict_items PySem.F.type_dict_items DX.mt_itemsT (pv 4)) pa_nil)) (nomark _)) (pw_or1 (pt_cmpR (neDK (K := K) hr.units) (pv 5) (pv 3) (nomark _)))))) (pss_one (ps_ret pe_bl)) pss_nil)
    (pss_cons (ps_lock (ps_for PassesOwn.never rfl (pi_itp (pv 7)) (pg_tup (by rfl) (pgs_cons (pg_name (i := 8) sc_law.nd rfl (.inl rfl)) (pgs_cons (pg_name (i := 9) sc_law.nd rfl (.inl rfl)) pgs_nil))) (pss_one (ps_if (PW.pt (pw_or (pt_not (pt_val (pe_callB call_isi (by rfl) T.b_isinstance (by decide +kernel) (pa_cons (pv 8) (pa_cons (pe_bltn (v := .ty "tuple") rfl T.b_tuple (by decide +kernel) rfl) pa_nil))))) (pw_or (pt_not (pt_val (pe_callB (cr_all rfl) (by rfl) T.b_all (by decide +kernel) (pa_cons (pe_lc (own := [("one", 11)]) rfl sc_law.nd (pi_tup (pv 8)) (blkOk_by (own := [("one", 11)]) (N := N_law) (sc := defScope s_law) (by decide +kernel)) (fun _ _ _ _ _ => (pg_name (i := 11) sc_law.nd rfl (.inl rfl))) (fun _ _ _ _ _ => pts_nil) (fun _ _ _ _ _ => (pe_cal G__law_whole (hr.mono (by decide)) (by rfl) (pa_cons (pv 11) pa_nil)))) pa_nil)))) (pw_or1 (pt_not (pt_val (pe_cal G__law_whole (hr.mono (by decide)) (by rfl) (pa_cons (pv 9) pa_nil)))))))) (pss_one (ps_ret pe_bl)) pss_nil))))
    (pss_one (ps_expr (pe_bm0 PySem.F.plainAttrs_dict PySem.F.slot_dict_clear PySem.F.type_dict_clear mt_clearT (pv 7))))))))
    (pss_cons (ps_for PassesOwn.never rfl (pi_range1 (by rfl) T.b_range (pa_cons (pv 2) pa_nil)) (pg_name (i := 10) sc_law.nd rfl (.inl rfl)) (pss_one (ps_if (PW.pt (pw_or (pt_cmpR op_ne (pe_cal G_first_of (hr.mono (by decide)) (by rfl) (pa_cons (pv 1) (pa_cons (pv 10) pa_nil))) (pe_cal G__law_begin (hr.mono (by decide)) (by rfl) (pa_cons (pv 1) (pa_cons (pv 10) pa_nil))) (nomark _)) (pw_or1 (pt_not (pt_val (pe_cal G__law_whole (hr.mono (by decide)) (by rfl) (pa_cons (pe_cal G_first_of (hr.mono (by decide)) (by rfl) (pa_cons (pv 1) (pa_cons (pv 10) pa_nil))) pa_nil))))))) (pss_one (ps_ret pe_bl)) pss_nil)))
    (pss_one (ps_ret pe_bl))))))))), ?_⟩
    refine ⟨.ref a, rfl, a, ns, 30, rfl, hS, hl, by decide, by decide, fun v b H1 ok e1 hb => ?_⟩
    have fw := ok.few
    obtain ⟨ab, m_, g_, t_, wt, fx, rfl, hab, _, _, ⟨txs, ht, rt⟩, _, _⟩ := book_parts hb
    have lt := rt.len
    refine ⟨.ref ab, rfl, ab, _, 2, .ref t_, rfl, rfl, SqT.of hab, rfl, t_, txs, rfl, .inr (SqT.of ht), ?_⟩
    refine ⟨.ref a, rfl, .int txs.length, rfl, a, ns, 40, txs.length, rfl, Evl.ex_l e1 hS, hl, by decide, by decide, by omega, by omega, fun l arcs H2 hA hl0 e2 => ?_⟩
    rw [lt] at hA
    refine ⟨.ref ab, rfl, .ref l, rfl, .ref ab, b, 30, l, arcs, rfl, TD.tp (Tp.ex e2) hb, ok, hA, fun dd es H3 nd keys vals hdd0 e3 hdd => ?_⟩
    have hA3 := hA.ex e3
    obtain ⟨⟨xs, hxs, rx⟩, hok, hz⟩ := id hA3
    refine ⟨.ref l, rfl, l, xs, rfl, .inl (SqL.of hxs), fun hd hhd => ?_⟩
    have e4 := Ex.new (o := .lst xs) hhd
    have hA4 := hA3.ex e4
    have hB4 : ArcsAt (upd H3 hd (.lst xs)) hd b.tasks.length arcs := ⟨⟨xs, upd_same, RowsAt.tp (Tp.ex e4) rx⟩, hok, hz⟩
    have hdd4 := e4 _ _ hdd
    have e14 := e2.trans (e3.trans e4)
    have hb4 := TD.tp (Tp.ex e14) hb
    generalize upd H3 hd (.lst xs) = H4 at e4 hA4 hB4 hdd4 e14 hb4 ⊢
    refine ⟨2, rfl, by decide, by decide, for_range (fun i σ H' => Ex H4 H' ∧ ∃ t6 t7 t8 t9, σ = [some (.ref a), some (.ref ab), some (.int txs.length), some (.ref l), some (.ref dd), some (.ref hd), t6, t7, t8, t9, none, none]) ⟨Ex.refl _, none, none, none, none, rfl⟩ ?_ ?_⟩
    · rintro i σ H' hi ⟨eH, t6, t7, t8, t9, rfl⟩
      refine ⟨.ref ab, rfl, .ref hd, rfl, .ref ab, b, 30, hd, arcs, rfl, TD.tp (Tp.ex eH) hb4, ok, by decide, hB4.ex eH, fun fd' fs H5 ek hfd0 e5 hfd => ?_⟩
      have E5 := eH.trans e5
      refine ⟨.ref fd', rfl, .ref fd', .ty "dict", _, _, _, rfl, .ty _, .base (.dT hfd), kit_ty (r := true) (by decide +kernel), _, rfl, ?_⟩
      refine ⟨.ref fd', rfl, .inr (.inr (.inl ⟨rfl, .inr ⟨_, hfd⟩⟩)), fd', _, rfl, rfl, hfd, fun p5 hp5 => ?_⟩
      have x5 := Ex.new (o := DX.itemsO p5 fd') hp5
      refine ⟨p5, fd', fs, rfl, upd_same, x5 _ _ hfd, fun H6 l6 ts6 e6 hl60 hl6 td6 => ?_⟩
      have E6 := (E5.trans x5).trans e6
      refine ⟨.ref dd, rfl, .inr (.inr (.inl ⟨rfl, .inr ⟨_, E6 _ _ hdd4⟩⟩)), dd, _, rfl, rfl, E6 _ _ hdd4, fun p7 hp7 => ?_⟩
      have x7 := Ex.new (o := DX.itemsO p7 dd) hp7
      refine ⟨p7, dd, es, rfl, upd_same, x7 _ _ (E6 _ _ hdd4), fun H8 l8 ts8 es' pm srt e8 hl80 hl8 td8 => ?_⟩
      have E68 := x7.trans e8
      have pmk : (es'.map (·.1)).Perm (es.map (·.1)) := pm.map _
      have ek' : EK es' b.waits arcs := ⟨strict_of (List.pairwise_map.mpr srt) (pmk.nodup_iff.mpr nd), fun p => pmk.mem_iff.trans (keys p), fun e he => vals e (pm.mem_iff.mp he)⟩
      have same : es' = fs := ek'.same ek
      subst same
      refine neD_same (E68 _ _ hl6) hl8 (TDs.tp (Tp.ex E68) td6) td8 (shaped_items _) ⟨false, rfl, iteF ?_⟩
      have E8 := E6.trans E68
      obtain ⟨⟨zs, hzs, rz⟩, _, _⟩ := hA4.ex E8
      obtain ⟨⟨ys, hys, ry⟩, _, _⟩ := hB4.ex E8
      refine ⟨.ref hd, rfl, .ref l, rfl, neD_same hys hzs ry rz (shaped_arcs arcs) ⟨false, rfl, iteF ?_⟩⟩
      have hfd8 := ((x5.trans e6).trans E68) _ _ hfd
      refine ⟨fd', _, hfd8, True.intro, fun od => ?_⟩
      refine ⟨.ref fd', rfl, fd', od, es', rfl, upd_same, ?_⟩
      refine for_it walk_itp (fun j σ H9 => Ex (upd H8 fd' (.frz od (.dT (es'.map entP)))) H9 ∧ ∃ t6 t8 t9, σ = [some (.ref a), some (.ref ab), some (.int txs.length), some (.ref l), some (.ref dd), some (.ref hd), t6, some (.ref fd'), t8, t9, none, none]) ⟨Ex.refl _, _, _, _, rfl⟩ (fun i σ H9 _ h => h.1 _ _ upd_same) ?_ ?_
      · rintro j x σ H9 H10 hj ⟨e9, t6', t8', t9', rfl⟩ ⟨pa, en, pq, hen, rfl, hpa, hpq, rfl⟩
        have x9 := Ex.new (o := .tup [V.ref pq, V.int en.2]) hpa
        have hpq' := x9 _ _ hpq
        refine ⟨pa, _, rfl, SqT.of upd_same, rfl, _, _, rfl, _, _, rfl, rfl, ?_⟩
        refine ⟨.ref pq, rfl, .ref pq, .ty "tuple", _, _, _, rfl, .ty _, .base (.tup hpq'), kit_ty (r := true) (by decide +kernel), _, rfl, ?_⟩
        refine ⟨.ref pq, rfl, pq, rfl, ⟨_, SqT.of hpq'⟩, fun D hD => lc_tup (K := K) (a := pq) (xs := [V.int en.1.1, V.int en.1.2]) (fun i H' => Ex (upd H9 pa (.tup [V.ref pq, V.int en.2])) H' ∧ H' D = some (.lst ((List.replicate i true).map V.bl))) ⟨Ex.new hD, upd_same⟩ (fun i H' _ h => Evl.ex_t h.1 (SqT.of hpq')) ?_ ?_⟩
        · rintro i x H' hx ⟨e, hD'⟩
          have li : i < 2 := (List.getElem?_eq_some_iff.mp hx).1
          obtain ⟨z, rfl⟩ : ∃ z, x = V.int z := by
            have m := List.mem_of_getElem? hx
            simp only [List.mem_cons, List.not_mem_nil, or_false] at m
            rcases m with m | m <;> exact ⟨_, m⟩
          refine ⟨rfl, .int z, rfl, .int z, "int", rfl, .int z, _, hD', by rw [List.length_map, List.length_replicate, sizeLine_eq]; omega, e.mut hD, ?_⟩
          rw [upd_same, List.replicate_succ', List.map_append]
          rfl
        · rintro H' ⟨e, hD'⟩
          refine ⟨D, _, rfl, SqL.of hD', ?_⟩
          have all : (List.replicate 2 true).all id = true := rfl
          refine ⟨_, rfl, .int en.2, rfl, .int en.2, "int", rfl, .int _, _, rfl, iteF ⟨(e9.trans x9).trans e, _, _, _, rfl⟩⟩
      · rintro σ H9 ⟨e9, t6', t8', t9', rfl⟩
        have hf4 : H4 fd' = none := Evl.fresh_back eH hfd0
        refine ⟨e9 _ _ upd_same, .ref fd', rfl, .inr (.inr (.inl ⟨rfl, .inr ⟨_, upd_same⟩⟩)), fd', _, rfl, rfl, upd_same, fun x o hx => ?_, _, _, _, _, rfl⟩
        have ne : x ≠ fd' := ne_of_none hx hf4
        rw [upd_ne ne, upd_ne ne]
        exact e9 _ _ (by rw [upd_ne ne]; exact E8 _ _ hx)
    · rintro σ H' ⟨eH, t6, t7, t8, t9, rfl⟩
      have hb5 := TD.tp (Tp.ex eH) hb4
      refine ⟨.int txs.length, rfl, txs.length, rfl, by omega, by omega, ?_⟩
      refine for_range (fun i σ H3 => Ex H' H3 ∧ ∃ t10, σ = [some (.ref a), some (.ref ab), some (.int txs.length), some (.ref l), some (.ref dd), some (.ref hd), t6, t7, t8, t9, t10, none]) ⟨Ex.refl _, none, rfl⟩ ?_ ?_
      · rintro i σ H3 hi ⟨e3', t10, rfl⟩
        have hb6 := TD.tp (Tp.ex e3') hb5
        have hi2 : i < b.tasks.length := by omega
        have z0 : (0 : Int) + (i : Int) = (i : Int) := Int.zero_add _
        refine ⟨.ref ab, rfl, .int (0 + i), rfl, .ref ab, b, 30, i, by rw [z0]; rfl, hb6, ok, hi2, .ref ab, rfl, .int (0 + i), rfl, .ref ab, b, 30, i, by rw [z0]; rfl, hb6, ok, hi2, rneIF rfl ⟨false, rfl, iteF ?_⟩⟩
        exact ⟨.ref ab, rfl, .int (0 + i), rfl, .ref ab, b, 30, i, by rw [z0]; rfl, hb6, ok, hi2, .int _, "int", rfl, .int _, _, rfl, iteF ⟨e3', _, rfl⟩⟩
      · rintro σ H3 ⟨e3', t10, rfl⟩
        exact q _

theorem law_of (T : Tx K mg) {fa : Addr} (hfa : mg "law" = some (.ref fa)) :
    ∃ fd : FuncData, (∀ (s : Shared) (v : Value), BindsTo s fd ⟨[v], []⟩ [("script", v)]) ∧ ∀ base : Heap, K.In base → base.Ns mainGlobals mg → FnOk P w K mg base CX0 7 fa fd ["script"] (spLaw K) :=
  law_end T.d_law hfa fun _ _ _ F => ok_law T F
end
theorem tx_mk {K : PySem.W.Frag} {h : Heap} {mg : Str → Option Value} (X : K.In h) (G : h.Ns mainGlobals mg)
    {t1 t2 t3 t4 t5 : Tok}
    {f18 f19 f20 f21 f22 f23 f24 f25 f26 f27 f28 f29 f30 f31 f32 f33 f34 f35 f36 : Addr} {od18 an18 od19 an19 od20 an20 od21 an21 od22 an22 od23 an23 od24 an24 od25 an25 od26 an26 od27 an27 od28 an28 od29 an29 od30 an30 od31 an31 od32 an32 od33 an33 od34 an34 od35 an35 od36 an36 : Option Addr} {sl18 sl19 sl20 sl21 sl22 sl23 sl24 sl25 sl26 sl27 sl28 sl29 sl30 sl31 sl32 sl33 sl34 sl35 sl36 : Array (Option Value)} {oc18 kV18 dc18 pm18 cd18 ct18 oc19 kV19 dc19 pm19 cd19 ct19 oc20 kV20 dc20 pm20 cd20 ct20 oc21 kV21 dc21 pm21 cd21 ct21 oc22 kV22 dc22 pm22 cd22 ct22 oc23 kV23 dc23 pm23 cd23 ct23 oc24 kV24 dc24 pm24 cd24 ct24 oc25 kV25 dc25 pm25 cd25 ct25 oc26 kV26 dc26 pm26 cd26 ct26 oc27 kV27 dc27 pm27 cd27 ct27 oc28 kV28 dc28 pm28 cd28 ct28 oc29 kV29 dc29 pm29 cd29 ct29 oc30 kV30 dc30 pm30 cd30 ct30 oc31 kV31 dc31 pm31 cd31 ct31 oc32 kV32 dc32 pm32 cd32 ct32 oc33 kV33 dc33 pm33 cd33 ct33 oc34 kV34 dc34 pm34 cd34 ct34 oc35 kV35 dc35 pm35 cd35 ct35 oc36 kV36 dc36 pm36 cd36 ct36 : Value}
    (e1 : PySem.W.nsIn K mainGlobals "TASKS" = some (some (.int 2 t1)))
    (e2 : PySem.W.nsIn K mainGlobals "WAITS" = some (some (.int 3 t2)))
    (e3 : PySem.W.nsIn K mainGlobals "FIXED" = some (some (.int 4 t3)))
    (e4 : PySem.W.nsIn K mainGlobals "FROM" = some (some (.int 4 t4)))
    (e5 : PySem.W.nsIn K mainGlobals "MOST_ARCS" = some (some (.int 900 t5)))
    (e6 : PySem.W.nsIn K mainGlobals "isinstance" = some none)
    (e7 : PySem.W.nsIn K mainGlobals "int" = some none)
    (e8 : PySem.W.nsIn K mainGlobals "bool" = some none)
    (e9 : PySem.W.nsIn K mainGlobals "len" = some none)
    (e10 : PySem.W.nsIn K mainGlobals "tuple" = some none)
    (e11 : PySem.W.nsIn K mainGlobals "list" = some none)
    (e12 : PySem.W.nsIn K mainGlobals "all" = some none)
    (e13 : PySem.W.nsIn K mainGlobals "max" = some none)
    (e14 : PySem.W.nsIn K mainGlobals "sorted" = some none)
    (e15 : PySem.W.nsIn K mainGlobals "range" = some none)
    (e16 : PySem.W.nsIn K mainGlobals "min" = some none)
    (e17 : PySem.W.nsIn K mainGlobals "dict" = some none)
    (a18 : PySem.W.nsIn K mainGlobals "is_whole" = some (some (.ref f18)))
    (l18 : K.lookup f18 = some ⟨oc18, od18, .func (PySem.W.fnOf "is_whole" "is_whole" (defArgs s_is_whole) (defBody s_is_whole) (defScope s_is_whole) .none kV18 dc18 pm18 an18 cd18 ct18), sl18⟩)
    (c18 : PySem.W.codeIn K cd18 "is_whole" = true)
    (k18 : PySem.W.keepIn K (.ref f18) = true)
    (a19 : PySem.W.nsIn K mainGlobals "is_among" = some (some (.ref f19)))
    (l19 : K.lookup f19 = some ⟨oc19, od19, .func (PySem.W.fnOf "is_among" "is_among" (defArgs s_is_among) (defBody s_is_among) (defScope s_is_among) .none kV19 dc19 pm19 an19 cd19 ct19), sl19⟩)
    (c19 : PySem.W.codeIn K cd19 "is_among" = true)
    (k19 : PySem.W.keepIn K (.ref f19) = true)
    (a20 : PySem.W.nsIn K mainGlobals "is_task_of" = some (some (.ref f20)))
    (l20 : K.lookup f20 = some ⟨oc20, od20, .func (PySem.W.fnOf "is_task_of" "is_task_of" (defArgs s_is_task_of) (defBody s_is_task_of) (defScope s_is_task_of) .none kV20 dc20 pm20 an20 cd20 ct20), sl20⟩)
    (c20 : PySem.W.codeIn K cd20 "is_task_of" = true)
    (k20 : PySem.W.keepIn K (.ref f20) = true)
    (a21 : PySem.W.nsIn K mainGlobals "is_arc" = some (some (.ref f21)))
    (l21 : K.lookup f21 = some ⟨oc21, od21, .func (PySem.W.fnOf "is_arc" "is_arc" (defArgs s_is_arc) (defBody s_is_arc) (defScope s_is_arc) .none kV21 dc21 pm21 an21 cd21 ct21), sl21⟩)
    (c21 : PySem.W.codeIn K cd21 "is_arc" = true)
    (k21 : PySem.W.keepIn K (.ref f21) = true)
    (a22 : PySem.W.nsIn K mainGlobals "need_arcs" = some (some (.ref f22)))
    (l22 : K.lookup f22 = some ⟨oc22, od22, .func (PySem.W.fnOf "need_arcs" "need_arcs" (defArgs s_need_arcs) (defBody s_need_arcs) (defScope s_need_arcs) .none kV22 dc22 pm22 an22 cd22 ct22), sl22⟩)
    (c22 : PySem.W.codeIn K cd22 "need_arcs" = true)
    (k22 : PySem.W.keepIn K (.ref f22) = true)
    (a23 : PySem.W.nsIn K mainGlobals "first_of" = some (some (.ref f23)))
    (l23 : K.lookup f23 = some ⟨oc23, od23, .func (PySem.W.fnOf "first_of" "first_of" (defArgs s_first_of) (defBody s_first_of) (defScope s_first_of) .none kV23 dc23 pm23 an23 cd23 ct23), sl23⟩)
    (c23 : PySem.W.codeIn K cd23 "first_of" = true)
    (k23 : PySem.W.keepIn K (.ref f23) = true)
    (a24 : PySem.W.nsIn K mainGlobals "steps" = some (some (.ref f24)))
    (l24 : K.lookup f24 = some ⟨oc24, od24, .func (PySem.W.fnOf "steps" "steps" (defArgs s_steps) (defBody s_steps) (defScope s_steps) .none kV24 dc24 pm24 an24 cd24 ct24), sl24⟩)
    (c24 : PySem.W.codeIn K cd24 "steps" = true)
    (k24 : PySem.W.keepIn K (.ref f24) = true)
    (a25 : PySem.W.nsIn K mainGlobals "_law_mixed" = some (some (.ref f25)))
    (l25 : K.lookup f25 = some ⟨oc25, od25, .func (PySem.W.fnOf "_law_mixed" "_law_mixed" (defArgs s__law_mixed) (defBody s__law_mixed) (defScope s__law_mixed) .none kV25 dc25 pm25 an25 cd25 ct25), sl25⟩)
    (c25 : PySem.W.codeIn K cd25 "_law_mixed" = true)
    (k25 : PySem.W.keepIn K (.ref f25) = true)
    (a26 : PySem.W.nsIn K mainGlobals "_law_draw" = some (some (.ref f26)))
    (l26 : K.lookup f26 = some ⟨oc26, od26, .func (PySem.W.fnOf "_law_draw" "_law_draw" (defArgs s__law_draw) (defBody s__law_draw) (defScope s__law_draw) .none kV26 dc26 pm26 an26 cd26 ct26), sl26⟩)
    (c26 : PySem.W.codeIn K cd26 "_law_draw" = true)
    (k26 : PySem.W.keepIn K (.ref f26) = true)
    (a27 : PySem.W.nsIn K mainGlobals "_law_next" = some (some (.ref f27)))
    (l27 : K.lookup f27 = some ⟨oc27, od27, .func (PySem.W.fnOf "_law_next" "_law_next" (defArgs s__law_next) (defBody s__law_next) (defScope s__law_next) .none kV27 dc27 pm27 an27 cd27 ct27), sl27⟩)
    (c27 : PySem.W.codeIn K cd27 "_law_next" = true)
    (k27 : PySem.W.keepIn K (.ref f27) = true)
    (a28 : PySem.W.nsIn K mainGlobals "_law_some" = some (some (.ref f28)))
    (l28 : K.lookup f28 = some ⟨oc28, od28, .func (PySem.W.fnOf "_law_some" "_law_some" (defArgs s__law_some) (defBody s__law_some) (defScope s__law_some) .none kV28 dc28 pm28 an28 cd28 ct28), sl28⟩)
    (c28 : PySem.W.codeIn K cd28 "_law_some" = true)
    (k28 : PySem.W.keepIn K (.ref f28) = true)
    (a29 : PySem.W.nsIn K mainGlobals "_law_task" = some (some (.ref f29)))
    (l29 : K.lookup f29 = some ⟨oc29, od29, .func (PySem.W.fnOf "_law_task" "_law_task" (defArgs s__law_task) (defBody s__law_task) (defScope s__law_task) .none kV29 dc29 pm29 an29 cd29 ct29), sl29⟩)
    (c29 : PySem.W.codeIn K cd29 "_law_task" = true)
    (k29 : PySem.W.keepIn K (.ref f29) = true)
    (a30 : PySem.W.nsIn K mainGlobals "_law_waits" = some (some (.ref f30)))
    (l30 : K.lookup f30 = some ⟨oc30, od30, .func (PySem.W.fnOf "_law_waits" "_law_waits" (defArgs s__law_waits) (defBody s__law_waits) (defScope s__law_waits) .none kV30 dc30 pm30 an30 cd30 ct30), sl30⟩)
    (c30 : PySem.W.codeIn K cd30 "_law_waits" = true)
    (k30 : PySem.W.keepIn K (.ref f30) = true)
    (a31 : PySem.W.nsIn K mainGlobals "_law_book" = some (some (.ref f31)))
    (l31 : K.lookup f31 = some ⟨oc31, od31, .func (PySem.W.fnOf "_law_book" "_law_book" (defArgs s__law_book) (defBody s__law_book) (defScope s__law_book) .none kV31 dc31 pm31 an31 cd31 ct31), sl31⟩)
    (c31 : PySem.W.codeIn K cd31 "_law_book" = true)
    (k31 : PySem.W.keepIn K (.ref f31) = true)
    (a32 : PySem.W.nsIn K mainGlobals "_law_whole" = some (some (.ref f32)))
    (l32 : K.lookup f32 = some ⟨oc32, od32, .func (PySem.W.fnOf "_law_whole" "_law_whole" (defArgs s__law_whole) (defBody s__law_whole) (defScope s__law_whole) .none kV32 dc32 pm32 an32 cd32 ct32), sl32⟩)
    (c32 : PySem.W.codeIn K cd32 "_law_whole" = true)
    (k32 : PySem.W.keepIn K (.ref f32) = true)
    (a33 : PySem.W.nsIn K mainGlobals "_law_arcs" = some (some (.ref f33)))
    (l33 : K.lookup f33 = some ⟨oc33, od33, .func (PySem.W.fnOf "_law_arcs" "_law_arcs" (defArgs s__law_arcs) (defBody s__law_arcs) (defScope s__law_arcs) .none kV33 dc33 pm33 an33 cd33 ct33), sl33⟩)
    (c33 : PySem.W.codeIn K cd33 "_law_arcs" = true)
    (k33 : PySem.W.keepIn K (.ref f33) = true)
    (a34 : PySem.W.nsIn K mainGlobals "_law_gaps" = some (some (.ref f34)))
    (l34 : K.lookup f34 = some ⟨oc34, od34, .func (PySem.W.fnOf "_law_gaps" "_law_gaps" (defArgs s__law_gaps) (defBody s__law_gaps) (defScope s__law_gaps) .none kV34 dc34 pm34 an34 cd34 ct34), sl34⟩)
    (c34 : PySem.W.codeIn K cd34 "_law_gaps" = true)
    (k34 : PySem.W.keepIn K (.ref f34) = true)
    (a35 : PySem.W.nsIn K mainGlobals "_law_begin" = some (some (.ref f35)))
    (l35 : K.lookup f35 = some ⟨oc35, od35, .func (PySem.W.fnOf "_law_begin" "_law_begin" (defArgs s__law_begin) (defBody s__law_begin) (defScope s__law_begin) .none kV35 dc35 pm35 an35 cd35 ct35), sl35⟩)
    (c35 : PySem.W.codeIn K cd35 "_law_begin" = true)
    (k35 : PySem.W.keepIn K (.ref f35) = true)
    (a36 : PySem.W.nsIn K mainGlobals "law" = some (some (.ref f36)))
    (l36 : K.lookup f36 = some ⟨oc36, od36, .func (PySem.W.fnOf "law" "law" (defArgs s_law) (defBody s_law) (defScope s_law) .none kV36 dc36 pm36 an36 cd36 ct36), sl36⟩)
    (c36 : PySem.W.codeIn K cd36 "law" = true)
    (k36 : PySem.W.keepIn K (.ref f36) = true)
    : Tx K mg where
  c_TASKS := ⟨_, PySem.W.mg_of X G e1, _, rfl⟩
  c_WAITS := ⟨_, PySem.W.mg_of X G e2, _, rfl⟩
  c_FIXED := ⟨_, PySem.W.mg_of X G e3, _, rfl⟩
  c_FROM := ⟨_, PySem.W.mg_of X G e4, _, rfl⟩
  c_MOST_ARCS := ⟨_, PySem.W.mg_of X G e5, _, rfl⟩
  b_isinstance := PySem.W.mg_none_of X G e6
  b_int := PySem.W.mg_none_of X G e7
  b_bool := PySem.W.mg_none_of X G e8
  b_len := PySem.W.mg_none_of X G e9
  b_tuple := PySem.W.mg_none_of X G e10
  b_list := PySem.W.mg_none_of X G e11
  b_all := PySem.W.mg_none_of X G e12
  b_max := PySem.W.mg_none_of X G e13
  b_sorted := PySem.W.mg_none_of X G e14
  b_range := PySem.W.mg_none_of X G e15
  b_min := PySem.W.mg_none_of X G e16
  b_dict := PySem.W.mg_none_of X G e17
  d_is_whole := dfn_mk X G a18 l18 c18 k18 fun _ _ _ _ _ _ us hl => match us, hl with | [_], _ => rfl
  d_is_among := dfn_mk X G a19 l19 c19 k19 fun _ _ _ _ _ _ us hl => match us, hl with | [_, _, _], _ => rfl
  d_is_task_of := dfn_mk X G a20 l20 c20 k20 fun _ _ _ _ _ _ us hl => match us, hl with | [_, _], _ => rfl
  d_is_arc := dfn_mk X G a21 l21 c21 k21 fun _ _ _ _ _ _ us hl => match us, hl with | [_, _], _ => rfl
  d_need_arcs := dfn_mk X G a22 l22 c22 k22 fun _ _ _ _ _ _ us hl => match us, hl with | [_, _], _ => rfl
  d_first_of := dfn_mk X G a23 l23 c23 k23 fun _ _ _ _ _ _ us hl => match us, hl with | [_, _], _ => rfl
  d_steps := dfn_mk X G a24 l24 c24 k24 fun _ _ _ _ _ _ us hl => match us, hl with | [_, _], _ => rfl
  d__law_mixed := dfn_mk X G a25 l25 c25 k25 fun _ _ _ _ _ _ us hl => match us, hl with | [_, _], _ => rfl
  d__law_draw := dfn_mk X G a26 l26 c26 k26 fun _ _ _ _ _ _ us hl => match us, hl with | [_, _], _ => rfl
  d__law_next := dfn_mk X G a27 l27 c27 k27 fun _ _ _ _ _ _ us hl => match us, hl with | [_, _], _ => rfl
  d__law_some := dfn_mk X G a28 l28 c28 k28 fun _ _ _ _ _ _ us hl => match us, hl with | [_, _], _ => rfl
  d__law_task := dfn_mk X G a29 l29 c29 k29 fun _ _ _ _ _ _ us hl => match us, hl with | [_, _, _, _], _ => rfl
  d__law_waits := dfn_mk X G a30 l30 c30 k30 fun _ _ _ _ _ _ us hl => match us, hl with | [_, _, _], _ => rfl
  d__law_book := dfn_mk X G a31 l31 c31 k31 fun _ _ _ _ _ _ us hl => match us, hl with | [_, _], _ => rfl
  d__law_whole := dfn_mk X G a32 l32 c32 k32 fun _ _ _ _ _ _ us hl => match us, hl with | [_], _ => rfl
  d__law_arcs := dfn_mk X G a33 l33 c33 k33 fun _ _ _ _ _ _ us hl => match us, hl with | [_, _, _, _], _ => rfl
  d__law_gaps := dfn_mk X G a34 l34 c34 k34 fun _ _ _ _ _ _ us hl => match us, hl with | [_, _], _ => rfl
  d__law_begin := dfn_mk X G a35 l35 c35 k35 fun _ _ _ _ _ _ us hl => match us, hl with | [_, _], _ => rfl
  d_law := dfn_mk X G a36 l36 c36 k36 fun _ _ _ _ _ _ us hl => match us, hl with | [_], _ => rfl
end Bk13
open PySem PySem.W PyProof.Rows
set_option maxHeartbeats 0 in
theorem PySem.Challenge.cw_boundsmith_k13_what_goes_right_ahead_holds : PySem.Challenge.rw_boundsmith_k13_what_goes_right_ahead.Holds := by
  w_on; o_law; k_head; (case hw => w_witness2)
  k_fill
  refine L2.walk_of (l := PySem.Challenge.rw_boundsmith_k13_what_goes_right_ahead) (n := 63) (k := 7) (x := "script") (CX := fun _ => L2.CX0) (sp := fun w => Bk13.spLaw _) rfl (by decide) rfl ⟨rfl, by decide, by decide⟩ (fun w h Y => PySem.W.kIn_of Y) ?F (fun _ _ a ns hl _ hS => ⟨a, ns, rfl, hS, hl, fun _ => rfl⟩) (fun _ _ _ _ _ h => h)
  case F =>
    intro w mg fa h KX G hmg
    refine Bk13.law_of (P := _) ?_ hmg
    refine' Bk13.tx_mk KX G ?e1 ?e2 ?e3 ?e4 ?e5 ?e6 ?e7 ?e8 ?e9 ?e10 ?e11 ?e12 ?e13 ?e14 ?e15 ?e16 ?e17 ?a18 ?l18 ?c18 ?k18 ?a19 ?l19 ?c19 ?k19 ?a20 ?l20 ?c20 ?k20 ?a21 ?l21 ?c21 ?k21 ?a22 ?l22 ?c22 ?k22 ?a23 ?l23 ?c23 ?k23 ?a24 ?l24 ?c24 ?k24 ?a25 ?l25 ?c25 ?k25 ?a26 ?l26 ?c26 ?k26 ?a27 ?l27 ?c27 ?k27 ?a28 ?l28 ?c28 ?k28 ?a29 ?l29 ?c29 ?k29 ?a30 ?l30 ?c30 ?k30 ?a31 ?l31 ?c31 ?k31 ?a32 ?l32 ?c32 ?k32 ?a33 ?l33 ?c33 ?k33 ?a34 ?l34 ?c34 ?k34 ?a35 ?l35 ?c35 ?k35 ?a36 ?l36 ?c36 ?k36
    (case e1 => k_is); (case e2 => k_is); (case e3 => k_is); (case e4 => k_is); (case e5 => k_is); (case e6 => k_is); (case e7 => k_is); (case e8 => k_is); (case e9 => k_is); (case e10 => k_is); (case e11 => k_is); (case e12 => k_is); (case e13 => k_is); (case e14 => k_is); (case e15 => k_is); (case e16 => k_is); (case e17 => k_is); (case a18 => k_is); (case l18 => k_is); (case c18 => k_is); (case k18 => k_is); (case a19 => k_is); (case l19 => k_is); (case c19 => k_is); (case k19 => k_is); (case a20 => k_is); (case l20 => k_is); (case c20 => k_is); (case k20 => k_is); (case a21 => k_is); (case l21 => k_is); (case c21 => k_is); (case k21 => k_is); (case a22 => k_is); (case l22 => k_is); (case c22 => k_is); (case k22 => k_is); (case a23 => k_is); (case l23 => k_is); (case c23 => k_is); (case k23 => k_is); (case a24 => k_is); (case l24 => k_is); (case c24 => k_is); (case k24 => k_is); (case a25 => k_is); (case l25 => k_is); (case c25 => k_is); (case k25 => k_is); (case a26 => k_is); (case l26 => k_is); (case c26 => k_is); (case k26 => k_is); (case a27 => k_is); (case l27 => k_is); (case c27 => k_is); (case k27 => k_is); (case a28 => k_is); (case l28 => k_is); (case c28 => k_is); (case k28 => k_is); (case a29 => k_is); (case l29 => k_is); (case c29 => k_is); (case k29 => k_is); (case a30 => k_is); (case l30 => k_is); (case c30 => k_is); (case k30 => k_is); (case a31 => k_is); (case l31 => k_is); (case c31 => k_is); (case k31 => k_is); (case a32 => k_is); (case l32 => k_is); (case c32 => k_is); (case k32 => k_is); (case a33 => k_is); (case l33 => k_is); (case c33 => k_is); (case k33 => k_is); (case a34 => k_is); (case l34 => k_is); (case c34 => k_is); (case k34 => k_is); (case a35 => k_is); (case l35 => k_is); (case c35 => k_is); (case k35 => k_is); (case a36 => k_is); (case l36 => k_is); (case c36 => k_is); (case k36 => k_is)


