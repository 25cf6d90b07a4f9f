import PyProof.Rows.All
import Wide.All
import OpenK.AllK
import Wide.FinOn
import PySem.Challenge.RW_boundsmith_k33_parted_hour_by_hour
import HandS.ForMost
import HandS.IsInst
import HandS.Wide
import HandS.WideBits
import HandS.Evl
import HandS.Replace
import HandS.Codes
import HandS.SetBool
import HandS.Strs
import HandS.SortKw
import KE.DataMinMax
import PyProof.ReprRoads
import HandS.DictTup
import HandS.DictComp
import HandS.TupLen
import HandS.TupSets
import HandS.Conv
import HandS.SortRule
import HandS.SortInts
import KE.KDictCopyH
import HandS.Walk
import HandS.Iter
import PyProof.ListRange
import HandS.Style
import HandS.Ends
import HandS.EndBits
import PyProof.P3Eq
import HandS.Zip
import HandS.CallLocal
import PyProof.ReprLen
import HandS.NamedTupSort
import HandS.Flow
import KE.DataAny
import KE.SortData
import HandS.RevRange
import HandS.SetFor
set_option Elab.async false
set_option linter.all false
set_option maxRecDepth 100000
/-! words shared by the proofs of one program's laws -/
namespace Bs
open PySem PySem.Spec PyProof.Rows L2
open Evl (Ex)

/-! ### a def that may be called: its name, its slots' names, its promise -/
structure Cal (P : Program) (w : World) (K : PySem.W.Frag) (mg : Str → Option Value) (base : Heap) (k : Nat) (x : Str) (ps : List Str) (sp : Sp) : Prop where
  ex : ∃ (f : Addr) (fd : FuncData), mg x = some (.ref f) ∧ PySem.W.keepIn K (.ref f) = true ∧ Binds K fd ps [] ∧ FnOk P w K mg base CX0 k f fd ps sp
theorem Cal.mono {P : Program} {w : World} {K : PySem.W.Frag} {mg : Str → Option Value} {base : Heap} {j k : Nat} {x : Str} {ps : List Str} {sp : Sp} (G : Cal P w K mg base j x ps sp) (h : j ≤ k) : Cal P w K mg base k x ps sp := by
  obtain ⟨f, fd, a, b, c, F⟩ := G.ex
  exact ⟨f, fd, a, b, c, F.mono h⟩
theorem pe_cal {X : Cx} {k : Nat} {x : Str} {ps : List Str} {sp : Sp} {p pos : Pos} {e : Expr} {es : List Expr} {t : TA} (G : Cal X.prog X.w X.K X.mg X.base k x ps sp) (hr : Room k X.A) (hg : Gl X x)
    (ha : PA X (e :: es) t) (hdb : (x == ("__debug__" : Str)) = false := by decide) (he : starEach (e :: es) X.env = (false, eval e X.env) :: starEach es X.env := by rfl) (hpl : (backTo pos (starEach es X.env)).any (·.1) = false := by rfl) :
    PE X (.Call (.Name x p) (e :: es) [] pos) (tCall sp [] E0 t) := by
  obtain ⟨f, fd, hm, hk, hb, F⟩ := G.ex
  exact pe_call F hr hg hm hk hb .nil pass0 ha hdb he hpl
/-- what the top holds of a def -/
structure Dfn (K : PySem.W.Frag) (mg : Str → Option Value) (x : Str) (st : Stmt) (ps : List Str) : Prop where
  ex : ∃ (f : Addr) (fd : FuncData), Fun K x x st f fd ∧ mg x = some (.ref f) ∧ ∀ us : List Value, us.length = ps.length → bindArgs fd ⟨us, []⟩ = pure (ps.zip us)
theorem Dfn.cal {P : Program} {w : World} {K : PySem.W.Frag} {mg : Str → Option Value} {base : Heap} {k : Nat} {x : Str} {st : Stmt} {N ps : List Str} {sp : Sp} (D : Dfn K mg x st ps) (S : FnScope N ps (defScope st)) (len : ∀ vs H Q E, sp vs H Q E → vs.length = ps.length)
    (hbody : ∀ (f : Addr) (cdv : Value) (A : Around) (outer : List Env) (s : Shared) (H : Hp) (vs : List V) (Q : VK) (E : XK), Room k (A.deeper (envOfC x (defScope st) s.heap.objs.size f cdv)) → sp vs H Q E →
      ∃ t, PSs (cxOf CX0 P w K mg base N x (defScope st) f cdv A outer s H E).nox (defBody st) t ∧ t { nx := fun _ H' => Q .non H', rt := Q } (start N vs) H) : Cal P w K mg base (k + 1) x ps sp := by
  obtain ⟨f, fd, F, g, b⟩ := D.ex
  exact ⟨f, fd, g, F.kp, .all b, F.ok S len fun cdv A outer s H vs Q E hr h => hbody f cdv A outer s H vs Q E hr h⟩
theorem dfn_mk {K : PySem.W.Frag} {mg : Str → Option Value} {h : Heap} {x : Str} {st : Stmt} {ps : List Str} {f : Addr} {oc : Value} {od an : Option Addr} {osl : Array (Option Value)} {kV doc pm cdv ct : Value} (X : K.In h) (G : h.Ns mainGlobals mg)
    (a : PySem.W.nsIn K mainGlobals x = some (some (.ref f)))
    (l : K.lookup f = some ⟨oc, od, .func (PySem.W.fnOf x x (defArgs st) (defBody st) (defScope st) .none kV doc pm an cdv ct), osl⟩)
    (c : PySem.W.codeIn K cdv x = true) (k : PySem.W.keepIn K (.ref f) = true)
    (hb : ∀ (kV doc pm : Value) (an : Option Addr) (cdv ct : Value) (us : List Value), us.length = ps.length → bindArgs (PySem.W.fnOf x x (defArgs st) (defBody st) (defScope st) .none kV doc pm an cdv ct) ⟨us, []⟩ = pure (ps.zip us)) : Dfn K mg x st ps :=
  ⟨f, _, fun_mk (st := st) l c k, PySem.W.mg_of X G a, hb kV doc pm an cdv ct⟩

theorem pe_globE {X : Cx} {x : Str} {v : V} {pos : Pos} (hg : Gl X x) (h : ∃ u, X.mg x = some u ∧ RelV v u) (hd : (x == ("__debug__" : Str)) = false := by decide) : PE X (.Name x pos) (tC v) := by
  obtain ⟨u, hm, r⟩ := h
  exact pe_glob hg hm r hd
/-- the law's own end -/
theorem law_end {P : Program} {w : World} {K : PySem.W.Frag} {mg : Str → Option Value} {k : Nat} {x : Str} {st : Stmt} {sp : Sp} {fa : Addr} (D : Dfn K mg x st ["script"]) (hfa : mg x = some (.ref fa))
    (ok : ∀ (base : Heap) (f : Addr) (fd : FuncData), Fun K x x st f fd → FnOk P w K mg base CX0 k f fd ["script"] sp) :
    ∃ fd : FuncData, (∀ (s : Shared) (v : Value), BindsTo s fd ⟨[v], []⟩ [("script", v)]) ∧ ∀ base : Heap, K.In base → base.Ns mainGlobals mg → FnOk P w K mg base CX0 k fa fd ["script"] sp := by
  obtain ⟨f, fd, F, g, b⟩ := D.ex
  have e := hfa.symm.trans g
  cases e
  exact ⟨fd, fun s v => .of_eq (b [v] rfl), fun base _ _ => ok base fa fd F⟩
/-! ### loops over a text -/
theorem lc_str {x : Str} {g : TG} {tt : TT} {te : TE} {vs : List Nat} {σ : L2.St} {H1 : Hp} {D : Addr} {Qd : Hp → Prop} (Pv : Nat → Hp → Prop) (h0 : Pv 0 (upd H1 D (.lst [])))
    (hs : ∀ i c H, x.cps[i]? = some c → Pv i H → g (.str ⟨#[c]⟩) (wipe σ vs) H fun σ2 H2 => wipe σ2 vs = wipe σ vs ∧ tt σ2 H2 fun b H3 =>
      if b = true then te σ2 H3 fun y H4 => ∃ acc, H4 D = some (.lst acc) ∧ acc.length < sizeLine ∧ Pv (i + 1) (upd H4 D (.lst (acc ++ [y]))) else Pv (i + 1) H3) (hd : ∀ H, Pv x.cps.size H → Qd H) :
    ∃ W : Nat → Nat → Hp → Prop, (∃ m, W 0 m (upd H1 D (.lst []))) ∧ ∀ i m H, W i m H →
      ((Its x).stop i H ∧ Qd H) ∨ ((Its x).go i H ∧ ∃ Nx : Hp → Prop, (∀ H', Nx H' → ∃ m', m' < m ∧ W (i + 1) m' H') ∧ ∀ x' H', (Its x).yld i H x' H' → g x' (wipe σ vs) H' fun σ2 H2 => wipe σ2 vs = wipe σ vs ∧ tt σ2 H2 fun b H3 =>
        if b = true then te σ2 H3 fun y H4 => ∃ acc, H4 D = some (.lst acc) ∧ acc.length < sizeLine ∧ Nx (upd H4 D (.lst (acc ++ [y]))) else Nx H3) := by
  refine ⟨fun i m H => m = x.cps.size - i ∧ i ≤ x.cps.size ∧ Pv i H, ⟨x.cps.size, by simp, Nat.zero_le _, h0⟩, ?_⟩
  rintro i m H ⟨rfl, hi, p⟩
  by_cases hlt : i < x.cps.size
  · refine .inr ⟨hlt, Pv (i + 1), fun H' p' => ⟨x.cps.size - (i + 1), by omega, rfl, hlt, p'⟩, fun x' H' y => ?_⟩
    obtain ⟨e, c, hc, y⟩ := y
    subst e y
    exact hs i c _ hc p
  · have e : i = x.cps.size := by omega
    subst e
    exact .inl ⟨Nat.le_refl _, hd H p⟩
theorem for_str {x : Str} {g : TG} {tb : TS} {D : Ends} {σ : L2.St} {H : Hp} (Pv : Nat → L2.St → Hp → Prop) (h0 : Pv 0 σ H)
    (hs : ∀ i c σ H, x.cps[i]? = some c → Pv i σ H → g (.str ⟨#[c]⟩) σ H fun σ2 H2 => tb { D with nx := Pv (i + 1), ct := Pv (i + 1), bk := D.nx } σ2 H2) (hd : ∀ σ H, Pv x.cps.size σ H → D.nx σ H) :
    ∃ W : Nat → Nat → L2.St → Hp → Prop, (∃ m, W 0 m σ H) ∧ ∀ i m σ H, W i m σ H → ((Its x).stop i H ∧ D.nx σ H) ∨ ((Its x).go i H ∧ ∃ Nx : L2.St → Hp → Prop, (∀ σ' H', Nx σ' H' → ∃ m', m' < m ∧ W (i + 1) m' σ' H') ∧
      ∀ x' H', (Its x).yld i H x' H' → g x' σ H' fun σ2 H2 => tb { D with nx := Nx, ct := Nx, bk := D.nx } σ2 H2) := by
  refine ⟨fun i m σ H => m = x.cps.size - i ∧ i ≤ x.cps.size ∧ Pv i σ H, ⟨x.cps.size, by simp, Nat.zero_le _, h0⟩, ?_⟩
  rintro i m σ H ⟨rfl, hi, p⟩
  by_cases hlt : i < x.cps.size
  · refine .inr ⟨hlt, Pv (i + 1), fun σ' H' p' => ⟨x.cps.size - (i + 1), by omega, rfl, hlt, p'⟩, fun x' H' y => ?_⟩
    obtain ⟨e, c, hc, y⟩ := y
    subst e y
    exact hs i c _ _ hc p
  · have e : i = x.cps.size := by omega
    subst e
    exact .inl ⟨Nat.le_refl _, hd σ H p⟩

/-! ### kinds of things -/
inductive Kd (K : PySem.W.Frag) (H : Hp) : V → String → Prop
  | non : Kd K H .non "NoneType"
  | bl (b : Bool) : Kd K H (.bl b) "bool"
  | int (i : Int) : Kd K H (.int i) "int"
  | str (x : Str) : Kd K H (.str x) "str"
  | lst {a : Addr} (t : TyX K H (.ref a) (.type "list")) : Kd K H (.ref a) "list"
  | tup {a : Addr} (t : TyX K H (.ref a) (.type "tuple")) : Kd K H (.ref a) "tuple"
  | dic {a : Addr} (t : TyX K H (.ref a) (.type "dict")) : Kd K H (.ref a) "dict"
theorem Kd.ty {K : PySem.W.Frag} {H : Hp} {x : V} {n : String} (h : Kd K H x n) : TyX K H x (.type n) := by
  cases h with
  | non => exact .base .non
  | bl b => exact .base (.bl b)
  | int i => exact .base (.int i)
  | str x => exact .base (.str x)
  | lst t => exact t
  | tup t => exact t
  | dic t => exact t
theorem tyx_ex {K : PySem.W.Frag} {H H' : Hp} (e : Evl.Ex H H') {x : V} {t : Value} (h : TyX K H x t) : TyX K H' x t := by
  cases h with
  | base b =>
    refine .base ?_
    cases b with
    | non => exact .non
    | bl y => exact .bl y
    | int i => exact .int i
    | str y => exact .str y
    | flt y => exact .flt y
    | lst h => exact .lst (e _ _ h)
    | frz h => exact .frz (e _ _ h)
    | tup h => exact .tup (e _ _ h)
    | dK h => exact .dK (e _ _ h)
    | dT h => exact .dT (e _ _ h)
    | ins h cl ha hn htk hm => exact .ins (e _ _ h) cl ha hn htk hm
  | byt b => exact .byt b
  | set h => exact .set (e _ _ h)
  | kList h c => exact .kList h c
  | kTuple h c => exact .kTuple h c
  | kDict h c => exact .kDict h c
  | fTuple h => exact .fTuple (e _ _ h)
  | fDict h => exact .fDict (e _ _ h)
theorem Kd.ex {K : PySem.W.Frag} {H H' : Hp} (e : Evl.Ex H H') {x : V} {n : String} (h : Kd K H x n) : Kd K H' x n := by
  cases h with
  | non => exact .non
  | bl b => exact .bl b
  | int i => exact .int i
  | str x => exact .str x
  | lst t => exact .lst (tyx_ex e t)
  | tup t => exact .tup (tyx_ex e t)
  | dic t => exact .dic (tyx_ex e t)
def isW : V → Bool
  | .int _ => true
  | _ => false
def isB : V → Bool
  | .bl _ => true
  | _ => false
def isS : V → Bool
  | .str _ => true
  | _ => false
def isI (x : V) : Bool := isW x || isB x
theorem Kd.int? {K : PySem.W.Frag} {H : Hp} {x : V} {n : String} (h : Kd K H x n) : PySem.W.kitOne K (.type n) (.type "int") = some (isI x) := by
  cases h <;> first | exact kit_ty (r := true) (by decide +kernel) | exact kit_ty (r := false) (by decide +kernel)
theorem Kd.bool? {K : PySem.W.Frag} {H : Hp} {x : V} {n : String} (h : Kd K H x n) : PySem.W.kitOne K (.type n) (.type "bool") = some (isB x) := by
  cases h <;> first | exact kit_ty (r := true) (by decide +kernel) | exact kit_ty (r := false) (by decide +kernel)
theorem Kd.str? {K : PySem.W.Frag} {H : Hp} {x : V} {n : String} (h : Kd K H x n) : PySem.W.kitOne K (.type n) (.type "str") = some (isS x) := by
  cases h <;> first | exact kit_ty (r := true) (by decide +kernel) | exact kit_ty (r := false) (by decide +kernel)
section
variable {K : PySem.W.Frag} {H : Hp} {x : V} {n : String} {σ : L2.St} {i : Nat} {Q : VK}
theorem rd_int? (e : σ[i]? = some (some x)) (h : Kd K H x n) (q : Q (.bl (isI x)) H) : tCB (rIsi K) (tCons (tVar i) (tCons (tC (.ty "int")) tNil)) σ H Q := ⟨x, e, x, .ty "int", _, _, _, rfl, .ty _, h.ty, h.int?, q⟩
theorem rd_bool? (e : σ[i]? = some (some x)) (h : Kd K H x n) (q : Q (.bl (isB x)) H) : tCB (rIsi K) (tCons (tVar i) (tCons (tC (.ty "bool")) tNil)) σ H Q := ⟨x, e, x, .ty "bool", _, _, _, rfl, .ty _, h.ty, h.bool?, q⟩
theorem rd_str? (e : σ[i]? = some (some x)) (h : Kd K H x n) (q : Q (.bl (isS x)) H) : tCB (rIsi K) (tCons (tVar i) (tCons (tC (.ty "str")) tNil)) σ H Q := ⟨x, e, x, .ty "str", _, _, _, rfl, .ty _, h.ty, h.str?, q⟩
end

/-! ### data that is asked for == -/
abbrev Asc (z : Str) : Prop := ∀ c ∈ z.cps.toList, c < 128
theorem strOk_asc {z : Str} (h : Asc z) : PyData.strOk z = true := by
  unfold PyData.strOk
  rw [Array.all_eq_true_iff_forall_mem]
  intro c hc
  have := h c (Array.mem_toList_iff.mpr hc)
  simp only [decide_eq_true_eq]
  omega
theorem sh_strs : ∀ {zs : List Str}, (∀ z ∈ zs, Asc z) → PyData.canLayAll0 (zs.map PyData.str) = true
  | [], _ => rfl
  | z :: r, h => by
    show (PyData.canLay0 (.str z) && PyData.canLayAll0 (r.map PyData.str)) = true
    rw [show PyData.canLay0 (.str z) = PyData.strOk z from rfl, strOk_asc (h z List.mem_cons_self), sh_strs fun y hy => h y (List.mem_cons_of_mem _ hy)]
    rfl
theorem dp_strs : ∀ {zs : List Str}, PyData.depthAll (zs.map PyData.str) = 0
  | [] => rfl
  | z :: r => by
    show max (PyData.depth (.str z)) (PyData.depthAll (r.map PyData.str)) = 0
    rw [dp_strs]
    rfl
theorem shaped_strs {zs : List Str} (h : ∀ z ∈ zs, Asc z) : SeqAt.shaped (.list (zs.map PyData.str)) = true := by
  unfold SeqAt.shaped
  rw [show PyData.canLay0 (.list (zs.map PyData.str)) = PyData.canLayAll0 (zs.map PyData.str) from rfl, sh_strs h]
  rw [show PyData.depth (.list (zs.map PyData.str)) = PyData.depthAll (zs.map PyData.str) + 1 from rfl, dp_strs]
  rfl
theorem sh_ints : ∀ {ns : List Int}, PyData.canLayAll0 (ns.map PyData.int) = true
  | [] => rfl
  | n :: r => by
    show (PyData.canLay0 (.int n) && PyData.canLayAll0 (r.map PyData.int)) = true
    rw [sh_ints]
    rfl
theorem dp_ints : ∀ {ns : List Int}, PyData.depthAll (ns.map PyData.int) = 0
  | [] => rfl
  | z :: r => by
    show max (PyData.depth (.int z)) (PyData.depthAll (r.map PyData.int)) = 0
    rw [dp_ints]
    rfl
theorem shaped_ints {ns : List Int} : SeqAt.shaped (.list (ns.map PyData.int)) = true := by
  unfold SeqAt.shaped
  rw [show PyData.canLay0 (.list (ns.map PyData.int)) = PyData.canLayAll0 (ns.map PyData.int) from rfl, sh_ints]
  rw [show PyData.depth (.list (ns.map PyData.int)) = PyData.depthAll (ns.map PyData.int) + 1 from rfl, dp_ints]
  rfl
theorem shaped_nil : SeqAt.shaped (.list []) = true := rfl
theorem dpa_strs {K : PySem.W.Frag} {H : Hp} : ∀ {zs : List Str}, DpAll K H (zs.map V.str) (zs.map PyData.str)
  | [] => .nil
  | z :: r => .cons (.str z) dpa_strs
theorem dpa_ints {K : PySem.W.Frag} {H : Hp} : ∀ {ns : List Int}, DpAll K H (ns.map V.int) (ns.map PyData.int)
  | [] => .nil
  | z :: r => .cons (.int z) dpa_ints
theorem eqv_nil (ds : List PyData) : PyData.eqv (.list ds) (.list []) = ds.isEmpty := by
  cases ds <;> rfl
/-! ### a comprehension over a text, its element by itself -/
theorem lcS {z : Str} {g : TG} {tt : TT} {te : TE} {vs : List Nat} {σ : L2.St} {H : Hp} {Qd : Addr → Hp → Prop} (f : Nat → V) (p : Nat → Bool) (hz : z.cps.size ≤ 16000000)
    (turn : ∀ c H', c ∈ z.cps.toList → Ex H H' → ∀ (R : VK) (R0 : Hp → Prop), (p c = true → ∀ H4, Ex H' H4 → R (f c) H4) → (p c = false → ∀ H4, Ex H' H4 → R0 H4) →
      g (.str ⟨#[c]⟩) (wipe σ vs) H' fun σ2 H2 => wipe σ2 vs = wipe σ vs ∧ tt σ2 H2 fun b H3 => if b = true then te σ2 H3 R else R0 H3)
    (q : ∀ D H', H D = none → Ex H H' → H' D = some (.lst ((z.cps.toList.filter p).map f)) → Qd D H') : ∀ D, H D = none →
    ∃ W : Nat → Nat → Hp → Prop, (∃ m, W 0 m (upd H D (.lst []))) ∧ ∀ i m H, W i m H →
      ((Its z).stop i H ∧ Qd D H) ∨ ((Its z).go i H ∧ ∃ Nx : Hp → Prop, (∀ H', Nx H' → ∃ m', m' < m ∧ W (i + 1) m' H') ∧ ∀ x' H', (Its z).yld i H x' H' → g x' (wipe σ vs) H' fun σ2 H2 => wipe σ2 vs = wipe σ vs ∧ tt σ2 H2 fun b H3 =>
        if b = true then te σ2 H3 fun y H4 => ∃ acc, H4 D = some (.lst acc) ∧ acc.length < sizeLine ∧ Nx (upd H4 D (.lst (acc ++ [y]))) else Nx H3) := fun D hD => by
  have small : ∀ i, (((z.cps.toList.take i).filter p).map f).length < sizeLine := fun i => by
    rw [List.length_map]
    have h1 := List.length_filter_le p (z.cps.toList.take i)
    have h2 : (z.cps.toList.take i).length ≤ z.cps.toList.length := by rw [List.length_take]; omega
    have h3 : z.cps.toList.length = z.cps.size := Array.length_toList
    rw [sizeLine_eq]
    omega
  refine lc_str (x := z) (fun i H' => Ex H H' ∧ H' D = some (.lst (((z.cps.toList.take i).filter p).map f))) ⟨Evl.Ex.new hD, by rw [upd_same]; rfl⟩ ?_ ?_
  · rintro i c H' hc ⟨e, hl⟩
    have hcl : z.cps.toList[i]? = some c := by rw [Array.getElem?_toList]; exact hc
    have ht : z.cps.toList.take (i + 1) = z.cps.toList.take i ++ [c] := by rw [List.take_add_one, hcl]; rfl
    refine turn c H' (List.mem_of_getElem? hcl) e _ _ (fun hp H4 e4 => ?_) (fun hp H4 e4 => ?_)
    · refine ⟨_, e4 _ _ hl, small i, ?_, ?_⟩
      · exact (e.trans e4).mut hD
      · rw [upd_same, ht, List.filter_append, List.map_append, List.filter_cons_of_pos hp]
        rfl
    · refine ⟨e.trans e4, ?_⟩
      rw [e4 _ _ hl, ht, List.filter_append, List.filter_cons_of_neg (by simp [hp])]
      simp
  · rintro H' ⟨e, hl⟩
    have h3 : z.cps.toList.take z.cps.size = z.cps.toList := by rw [← Array.length_toList]; exact List.take_length
    rw [h3] at hl
    exact q D H' hD e hl
/-! ### a text some times -/
theorem rep_size (c : Array Nat) : ∀ (k : Nat) (acc : Array Nat), (List.foldl (fun x1 x2 => x1 ++ x2) acc (List.replicate k c)).size = acc.size + c.size * k
  | 0, acc => by simp
  | k + 1, acc => by
    rw [List.replicate_succ, List.foldl_cons, rep_size c k, Array.size_append, Nat.mul_succ]
    omega
def rRepS : R2 := fun x y H Q => ∃ (z : Str) (k : Int), x = .str z ∧ y = .int k ∧ 2 ≤ k ∧ 0 < z.length ∧ z.length * k.toNat ≤ 16000000 ∧ ∀ u : Str, u.length = z.length * k.toNat → u.cps = (List.replicate k.toNat z.cps).foldl (· ++ ·) #[] → Q (.str u) H
theorem op_repS {X : Cx} : OpR X (binaryOp .Mult) rRepS := by
  intro pins s σ H x y v u Q I rx ry h
  obtain ⟨z, k, rfl, rfl, h2, h0, hz, q⟩ := h
  obtain ⟨t, rfl⟩ := rx
  obtain ⟨t', rfl⟩ := ry
  have k1 : k.toNat ≤ z.length * k.toNat := Nat.le_mul_of_pos_left _ h0
  have z1 : z.length ≤ z.length * k.toNat := Nat.le_mul_of_pos_right _ (by omega)
  have zk : (z.length : Int) * k ≤ 16000000 := by
    have : ((z.length * k.toNat : Nat) : Int) ≤ ((16000000 : Nat) : Int) := Int.ofNat_le.mpr hz
    rw [Int.natCast_mul, Int.toNat_of_nonneg (by omega)] at this
    exact this
  refine PySem.P.mul_str ?_ ?_ ?_ ?_
  · rw [decide_eq_false (by omega), decide_eq_false (by omega)]
    rfl
  · intro _ _ hh
    have : (2 ^ 63 - 1) / k * k ≤ 2 ^ 63 - 1 := Int.ediv_mul_le _ (by omega)
    have h5 : ((z.length : Int) - 1) * k ≥ (2 ^ 63 - 1) / k * k := Int.mul_le_mul_of_nonneg_right (by omega) (by omega)
    have h6 : (2 ^ 63 - 1) < (2 ^ 63 - 1) / k * k + k := by
      have := Int.lt_ediv_add_one_mul_self (2 ^ 63 - 1) (show 0 < k by omega)
      rw [Int.add_mul] at this
      omega
    rw [Int.sub_mul] at h5
    omega
  · intro _ _
    unfold Builtin.Str.tooLong
    rw [sizeLine_eq]
    exact decide_eq_false (by omega)
  · rw [if_neg (by omega), if_neg (by
      have e1 : (k == 1) = false := beq_eq_false_iff_ne.mpr fun e => absurd (e ▸ h2 : (2 : Int) ≤ 1) (by decide)
      have e2 : (z.length == 0) = false := beq_eq_false_iff_ne.mpr (Nat.ne_of_gt h0)
      rw [e1, e2]
      exact Bool.false_ne_true)]
    refine ⟨?_, ?_⟩
    · have e := rep_size z.cps k.toNat #[]
      show (List.foldl (fun x1 x2 => x1 ++ x2) #[] (List.replicate k.toNat z.cps)).size ≤ sizeLine
      rw [e, sizeLine_eq]
      have : z.cps.size * k.toNat ≤ 16000000 := hz
      simp only [Array.size_empty]
      omega
    · exact ⟨.str _, H, I.tok _, ⟨_, rfl⟩, q _ (by
        have e := rep_size z.cps k.toNat #[]
        show (List.foldl (fun x1 x2 => x1 ++ x2) #[] (List.replicate k.toNat z.cps)).size = z.length * k.toNat
        rw [e]
        simp only [Array.size_empty, Nat.zero_add]
        rfl) rfl⟩
end Bs

set_option autoImplicit false
namespace Bs
open PySem PySem.Spec PyProof.Rows L2 PpSet
open Evl (Ex)

/-! ### {e for .. in .. if ..}, the members whole numbers -/
section
variable {X : Cx}
/-- one member more of the set at D -/
theorem add_int {pins : List (Addr × Obj)} {σ : L2.St} {H : Hp} {s : Shared} {E : Value → Shared → Prop} {D : Addr} {S : Int → Bool} {n : Nat} {k : Int} {tk : Tok} {Q : Value → Shared → Prop} (J : L2.Inv X pins σ H s) (at_ : H D = some (SetO X.w D S n)) (few : n + 1 < scanBound)
    (next : ∀ s', L2.Inv X pins σ (upd H D (SetO X.w D (fun j => S j || decide (j = k)) (if S k = true then n else n + 1))) s' → Q .none s') : wpAny (model X.prog X.w) X.A (call (.builtin "set.add") [.ref D, .int k tk]) Q E s := by
  refine setR_add (setO_get J at_) few fun h2 same made => ?_
  obtain ⟨ob, hob⟩ : ∃ ob, h2.get? D = some ob := by
    have ⟨ob, _, _, _, hob, _⟩ := made
    exact ⟨ob, hob⟩
  exact next _ (J.write (e := D) (t' := s.toks + 1) (by rw [at_]; trivial) (.inl rfl) (fun b u hb hu => (same.2 b hb).trans hu) ⟨ob, hob⟩ (setO_new made))
def tScI (w : World) (wi : TI) (g : TG) (tt : TT) (te : TE) (vs : List Nat) : TE := fun σ H Q => wi σ H fun J H1 => ∀ D, H1 D = none → ∃ W : Nat → Nat → Hp → Prop, (∃ m, W 0 m (upd H1 D (SetO w D (fun _ => false) 0))) ∧ ∀ i m H, W i m H →
  (J.stop i H ∧ Q (.ref D) H) ∨ (J.go i H ∧ ∃ Nx : Hp → Prop, (∀ H', Nx H' → ∃ m', m' < m ∧ W (i + 1) m' H') ∧ ∀ x H', J.yld i H x H' → g x (wipe σ vs) H' fun σ2 H2 => wipe σ2 vs = wipe σ vs ∧ tt σ2 H2 fun b H3 =>
    if b = true then te σ2 H3 fun y H4 => ∃ (k : Int) (S : Int → Bool) (n : Nat), y = .int k ∧ H4 D = some (SetO w D S n) ∧ n + 1 < scanBound ∧ Nx (upd H4 D (SetO w D (fun j => S j || decide (j = k)) (if S k = true then n else n + 1))) else Nx H3)
/-- the object that a set comprehension begins with -/
abbrev set0 (w : World) : Obj := { cls := .type "set", dict := none, data := .set #[] 0 (.fresh 0 0 (!w.params.followText "set-order")) }
theorem pe_scI {elt tg iter : Expr} {ifs : List Expr} {scope : Scope} {own : List (PySem.Str × Nat)} {pos : Pos} {wi : TI} {g : TG} {tt : TT} {te : TE} (calm : X.calm = true) (nd : X.N.Nodup) (pi : PI X tg iter wi) (blk : BlkOk X.N X.env.scope scope own)
    (pgs : ∀ (s : Shared) (H : Hp) (C : Addr) (cl : List (PySem.Str × Addr)) (fp : List Addr), PG (X.blk s H scope (compEnvC scope cl C X.env) fp) tg g)
    (pts : ∀ (s : Shared) (H : Hp) (C : Addr) (cl : List (PySem.Str × Addr)) (fp : List Addr), PTs (X.blk s H scope (compEnvC scope cl C X.env) fp) ifs tt)
    (pes : ∀ (s : Shared) (H : Hp) (C : Addr) (cl : List (PySem.Str × Addr)) (fp : List Addr), PE (X.blk s H scope (compEnvC scope cl C X.env) fp) elt te) (fold : ∀ x, foldedSetIterable iter X.env x = pure x := by intro _; rfl) :
    PE X (.SetComp elt [⟨tg, iter, ifs, 0⟩] scope pos) (tScI X.w wi g tt te (own.map (·.2))) := by
  refine ⟨fun pins s σ H Q I hyp => ?_⟩
  rw [eval_SetComp]
  have cellsOk : ∀ y ∈ scope.names, y.2 = .free → ∃ c, X.env.cells.lookup y.1 = some c := fun y my fy => (blk.free y my fy).elim (fun k => I.ok.has _ (.inl k)) fun k => I.ok.has _ (.inr k)
  refine wpAny_comprehension_free rfl fold (closure_ok cellsOk) blk.kind (fun y my fy => by rw [blk.uniq y my, fy]) (thn (pi.run pins s σ H _ I hyp) fun _ _ a1 => thn a1 fun _ sA a2 => ?_)
  obtain ⟨it, fp, tn, J, HA, rfl, IA, T, stA, frA, q⟩ := a2
  refine newSet_ok (newEnv_comp ?_)
  -- the new set stands at D
  obtain ⟨D, eD⟩ : ∃ D, sA.heap.objs.size = D := ⟨_, rfl⟩
  have free : HA D = none := IA.hok.fresh (Nat.le_of_eq eD)
  obtain ⟨W, ⟨m0, w0⟩, turn⟩ := q D free
  obtain ⟨sB, eB⟩ : ∃ sB : Shared, ({ sA with heap := sA.heap.push (set0 X.w) } : Shared) = sB := ⟨_, rfl⟩
  obtain ⟨HB, eHB⟩ : ∃ HB : Hp, upd HA D (SetO X.w D (fun _ => false) 0) = HB := ⟨_, rfl⟩
  have hpB : sB.heap = sA.heap.push (set0 X.w) := by rw [← eB]
  have IB : L2.Inv X pins σ HB sB := by
    rw [← eB, ← eHB]
    refine IA.laid (t' := sA.toks) (fun b o e => Heap.get?_push_of_some _ e) (Nat.le_of_eq eD) ?_
    rw [← eD]
    exact setO_new (setR_fresh X.w)
  have below : ∀ b ∈ fp, b < sA.heap.objs.size := fun b mb => (T.obj _ _ stA b mb).elim fun _ e => Heap.lt_size e.1
  have frB : ∀ b ∈ fp, FpOk X pins HB b ∧ b < sB.heap.objs.size := fun b mb => by
    refine ⟨⟨?_, (frA b mb).2⟩, by rw [hpB, Heap.size_push]; exact Nat.lt_succ_of_lt (below b mb)⟩
    rw [← eHB, upd_ne (by rw [← eD]; exact Nat.ne_of_lt (below b mb))]
    exact (frA b mb).1
  have stB : tn 0 sB.heap := T.keep _ _ _ stA fun _ _ _ e => by rw [hpB]; exact Heap.get?_push_of_some _ e
  have IC := block_start IB blk nd frB
  -- the block's own frame
  obtain ⟨cells, ecl⟩ : ∃ cells, cellsFrom (sB.heap.objs.size + 1) scope.names (cloFrom X.env.cells scope.names []) = cells := ⟨_, rfl⟩
  obtain ⟨ce, ece⟩ : ∃ ce, compEnvC scope cells sB.heap.objs.size X.env = ce := ⟨_, rfl⟩
  obtain ⟨sC, eC⟩ : ∃ sC : Shared, ({ sB with heap := pushCells (sB.heap.push { cls := .type "dict", data := .dict #[] }) scope.names } : Shared) = sC := ⟨_, rfl⟩
  have pg := pgs sB HB sB.heap.objs.size cells fp
  have pt := pts sB HB sB.heap.objs.size cells fp
  have pe := pes sB HB sB.heap.objs.size cells fp
  rw [ecl, ece, eC] at IC
  rw [ece] at pg pt pe
  have lo : ce.locals = sB.heap.objs.size := by rw [← ece]; rfl
  have none_ : ∀ b ∈ fp, HB b = none := fun b mb => (frB b mb).1.1
  have stC : tn 0 sC.heap := T.keep _ _ _ stB fun _ _ _ e => by rw [← eC]; exact pushCells_keeps _ _ _ _ (Heap.get?_push_of_some _ e)
  have pinned_ : ∀ {τ : L2.St} {H1 : Hp} {s1 : Shared}, L2.Inv (X.blk sB HB scope ce fp) [] τ H1 s1 → (∀ b ∈ fp, H1 b = none) → ∀ b ∈ fp, FpOk (X.blk sB HB scope ce fp) [] H1 b := fun {τ H1 s1} J1 hn b mb => by
    exact ⟨hn b mb, (J1.ok.exf b mb).1, J1.ok.exfs b mb, .inl mb, fun x c e => (J1.ok.exf b mb).2 x c e, fun p hp => nomatch (show p ∈ ([] : List (Addr × Obj)) from by simpa using hp)⟩
  rw [eB, eD, ecl]
  show codeAny _ _ (.compStart (.SetComp elt [⟨tg, iter, ifs, 0⟩] scope pos) 0 (.ref it) (.ref D) (compEnvC scope cells sB.heap.objs.size X.env)) _ { sB with heap := pushCells (sB.heap.push { cls := .type "dict", data := .dict #[] }) scope.names }
  rw [ece, eC]
  have loop : codeAny (model X.prog X.w) X.A (.compLoop (.SetComp elt [⟨tg, iter, ifs, 0⟩] scope pos) 0 (.ref it) (.ref D) ce) (compPost (model X.prog X.w) X.A X.xe none (EP X pins σ Q) (.ref D) sB.heap.objs.size) sC := by
    refine compLoopS_any (fun n t => ∃ i H1, L2.Inv (X.blk sB HB scope ce fp) [] (wipe σ (own.map (·.2))) H1 t ∧ tn i t.heap ∧ (∀ b ∈ fp, H1 b = none) ∧ W i n H1) ?_ m0 ⟨0, HB, IC, stC, none_, by rw [← eHB]; exact w0⟩
    rintro n t5 ⟨i, H5, I5, st5, n5, w5⟩
    rcases turn i n H5 w5 with ⟨stop, fin_⟩ | ⟨go, Nx, back, step⟩
    · refine thnF (T.done (X.blk sB HB scope ce fp) rfl rfl rfl calm i [] t5 _ H5 (fun _ _ => False) I5 (pinned_ I5 n5) st5 stop) fun r t6 ⟨er, I6⟩ => ?_
      subst er
      have I7 : L2.Inv X pins σ H5 t6 := IB.call' (ch := fp) I6.os I6.base I6.hok I6.bare fun b mb => ⟨(frB b mb).1.2.2.2.1, (frB b mb).1.2.1, (frB b mb).1.2.2.2.2.1, (frB b mb).1.2.2.2.2.2⟩
      have fl : H5 sB.heap.objs.size = none := lo ▸ (show H5 ce.locals = none from I6.free)
      obtain ⟨m, hm, _⟩ := I6.loc
      have hm' : t6.heap.Ns sB.heap.objs.size m := lo ▸ (show t6.heap.Ns ce.locals m from hm)
      refine ⟨m, hm', fun h'' sb => ?_⟩
      obtain ⟨f0, f1, f2, f3, f4, f5⟩ := IB.fpOk (Nat.le_refl _) fl
      exact ⟨.ref D, H5, I7.turned (t' := t6.toks) (fun b o hb e => (sb.2 b hb).trans e) f0 f1 f3 f4 f5, rfl, fin_⟩
    · refine thnF (T.item (X.blk sB HB scope ce fp) rfl rfl rfl calm i [] t5 _ H5 (fun _ _ => False) I5 (pinned_ I5 n5) st5 go) fun r t6 ⟨u, er, h6⟩ => ?_
      subst er
      refine thnF h6 fun _ t7 ⟨x, H7, I7, r7, y7, st7, n7⟩ => ?_
      refine thnF (pg.run _ t7 _ H7 x u _ (I7.pinned (pinned_ I7 n7) (T.obj _ _ st7)) r7 (step x H7 y7)) fun _ t8 ⟨τ, H8, I8, ew, q8⟩ => ?_
      refine thnF (pt.run _ t8 τ H8 _ I8 q8) fun b t9 ⟨H9, I9, q9⟩ => ?_
      have again : ∀ {t : Shared} {H1 : Hp}, L2.Inv (X.blk sB HB scope ce fp) ([] ++ pinsAt fp t7.heap) τ H1 t → Nx H1 → ∃ m, m < n ∧ ∃ i H1, L2.Inv (X.blk sB HB scope ce fp) [] (wipe σ (own.map (·.2))) H1 t ∧ tn i t.heap ∧ (∀ b ∈ fp, H1 b = none) ∧ W i m H1 := fun {t H1} J1 nx => by
        obtain ⟨m', lt, w'⟩ := back H1 nx
        have held : ∀ b ∈ fp, ∀ o, t7.heap.get? b = some o → t.heap.get? b = some o ∧ H1 b = none := fun b mb o e => by
          have z := J1.pin (b, o) (List.mem_append_right _ (List.mem_append_right _ (mem_pinsAt mb e)))
          exact ⟨z.1, z.2.1⟩
        refine ⟨m', lt, i + 1, H1, (J1.unpinned (pins := [])).weak (by rw [← ew, wipe_length]) (fun j v e => (wipe_some (by rw [ew]; exact e)).1), T.keep _ _ _ st7 fun b mb o e => (held b mb o e).1, fun b mb => ?_, w'⟩
        obtain ⟨o, e, _⟩ := T.obj _ _ st7 b mb
        exact (held b mb o e).2
      cases b with
      | false =>
        simp only [Bool.false_eq_true, if_false] at q9 ⊢
        exact again I9 q9
      | true =>
        simp only [if_true] at q9 ⊢
        refine thnF (pe.run _ t9 τ H9 _ I9 q9) fun z t10 ⟨_, H10, I10, r10, k, S0, n0, ek, at10, few, nx⟩ => ?_
        subst ek
        obtain ⟨tk, rfl⟩ := r10
        exact add_int (X := X.blk sB HB scope ce fp) I10 at10 few fun t11 I11 => again I11 nx
  exact codeAny_compStart_set loop (T.self X.A 0 _ _ _ stC loop)
end
end Bs

namespace Bs
open PySem PySem.Spec PyProof.Rows L2
open Evl (Ex)
/-! ### rules by the written part -/
section
variable {X : Cx} {K : PySem.W.Frag}
theorem ixL (h : X.K = K := by rfl) : IxR X (rIxL K) := h ▸ ix_list
theorem ixT (h : X.K = K := by rfl) : IxR X (rIxT K) := h ▸ ix_tup
theorem eqDK (hu : X.A.units + 64 < cLine) (h : X.K = K := by rfl) : OpR X (compareOp .Eq) (rEqD K) := h ▸ op_eqD hu
theorem neDK (hu : X.A.units + 64 < cLine) (h : X.K = K := by rfl) : OpR X (compareOp .NotEq) (rNeD K) := h ▸ op_neD hu
theorem inSK (h : X.K = K := by rfl) : OpR X (compareOp .In) (rIn K false) := h ▸ op_in_seq
theorem niSK (h : X.K = K := by rfl) : OpR X (compareOp .NotIn) (rIn K true) := h ▸ op_notIn_seq
theorem slTK (h : X.K = K := by rfl) : SlR X (rSlT K) := h ▸ sl_tup
theorem slLK (h : X.K = K := by rfl) : SlR X (rSlL K) := h ▸ sl_list
theorem piTK {tg l : Expr} {tl : TE} (hl : PE X l tl) (h : X.K = K := by rfl) : PI X tg l (iTup K tl) := h ▸ pi_tup hl
theorem piLK {tg l : Expr} {tl : TE} (hl : PE X l tl) (h : X.K = K := by rfl) : PI X tg l (iList K tl) := h ▸ pi_list hl
theorem isiK (h : X.K = K := by rfl) : CallR X (.builtin "isinstance") (rIsi K) := h ▸ call_isi
theorem pgTK {es : List Expr} {k : Nat} {pos : Pos} {t : TGs} {n : Nat} (hc : X.calm = true) (h : PGs X es t) (hn : (assignEach es X.env).length = n := by rfl) (hst : (assignEach es X.env).findIdx? (·.1) = none := by rfl) (hK : X.K = K := by rfl) : PG X (.Tuple es k pos) (gTup K n t) := hK ▸ pg_tup hc h hn hst
def rLenK (K : PySem.W.Frag) : List V → Hp → VK → Prop := fun xs H Q => ∃ p ys, xs = [.ref p] ∧ (SqL K H p ys ∨ SqT K H p ys) ∧ Q (.int ys.length) H
theorem lenK (h : X.K = K := by rfl) : CallR X (.builtin "len") (rLenK K) := h ▸ call_len_seq
end
/-! ### data all of tuples -/
mutual
inductive TD (H : Hp) : V → PyData → Prop
  | non : TD H .non .none
  | bl (b : Bool) : TD H (.bl b) (.bool b)
  | int (i : Int) : TD H (.int i) (.int i)
  | str (x : Str) : TD H (.str x) (.str x)
  | tup {a : Addr} {xs : List V} {ds : List PyData} : H a = some (.tup xs) → TDs H xs ds → TD H (.ref a) (.tuple ds)
inductive TDs (H : Hp) : List V → List PyData → Prop
  | nil : TDs H [] []
  | cons {v : V} {vs : List V} {d : PyData} {ds : List PyData} : TD H v d → TDs H vs ds → TDs H (v :: vs) (d :: ds)
end
/-- all tuples stand -/
def Tp (H H' : Hp) : Prop := ∀ b xs, H b = some (.tup xs) → H' b = some (.tup xs)
theorem Tp.refl (H : Hp) : Tp H H := fun _ _ h => h
theorem Tp.trans {H H1 H2 : Hp} (a : Tp H H1) (b : Tp H1 H2) : Tp H H2 := fun x o h => b x o (a x o h)
theorem Tp.ex {H H1 : Hp} (a : Ex H H1) : Tp H H1 := fun x o h => a x _ h
theorem Tp.upd {H : Hp} {p : Addr} {xs : List V} {o : HO} (h : H p = some (.lst xs)) : Tp H (upd H p o) := fun b ys e => by
  rw [upd_ne (ne_of e h (by intro z; cases z))]
  exact e
mutual
theorem TD.tp {H H' : Hp} (e : Tp H H') : ∀ {v : V} {d : PyData}, TD H v d → TD H' v d
  | _, _, .non => .non
  | _, _, .bl b => .bl b
  | _, _, .int i => .int i
  | _, _, .str x => .str x
  | _, _, .tup h hs => .tup (e _ _ h) (TDs.tp e hs)
theorem TDs.tp {H H' : Hp} (e : Tp H H') : ∀ {v : List V} {d : List PyData}, TDs H v d → TDs H' v d
  | _, _, .nil => .nil
  | _, _, .cons h hs => .cons (TD.tp e h) (TDs.tp e hs)
end
mutual
theorem TD.dp {K : PySem.W.Frag} {H : Hp} : ∀ {v : V} {d : PyData}, TD H v d → Dp K H v d
  | _, _, .non => .non
  | _, _, .bl b => .bl b
  | _, _, .int i => .int i
  | _, _, .str x => .str x
  | _, _, .tup h hs => .tup (SqT.of h) (TDs.dp hs)
theorem TDs.dp {K : PySem.W.Frag} {H : Hp} : ∀ {v : List V} {d : List PyData}, TDs H v d → DpAll K H v d
  | _, _, .nil => .nil
  | _, _, .cons h hs => .cons (TD.dp h) (TDs.dp hs)
end
theorem TDs.len {H : Hp} : ∀ {xs : List V} {ds : List PyData}, TDs H xs ds → xs.length = ds.length
  | _, _, .nil => rfl
  | _, _, .cons _ h => by
    rw [List.length_cons, List.length_cons, TDs.len h]
theorem TDs.get {H : Hp} : ∀ {xs : List V} {ds : List PyData} {i : Nat} {d : PyData}, TDs H xs ds → ds[i]? = some d → ∃ v, xs[i]? = some v ∧ TD H v d
  | _, _, _, _, .nil, e => by simp at e
  | _, _, 0, _, .cons h _, e => ⟨_, rfl, by
    have := Option.some.inj e
    subst this
    exact h⟩
  | _, _, i + 1, d, .cons _ h, e => TDs.get (i := i) h e
theorem TDs.get' {H : Hp} : ∀ {xs : List V} {ds : List PyData} {i : Nat} {v : V}, TDs H xs ds → xs[i]? = some v → ∃ d, ds[i]? = some d ∧ TD H v d
  | _, _, _, _, .nil, e => by simp at e
  | _, _, 0, _, .cons h _, e => ⟨_, rfl, by
    have := Option.some.inj e
    subst this
    exact h⟩
  | _, _, i + 1, d, .cons _ h, e => TDs.get' (i := i) h e
theorem TD.tupI {H : Hp} {v : V} {ds : List PyData} (h : TD H v (.tuple ds)) : ∃ a xs, v = .ref a ∧ H a = some (.tup xs) ∧ TDs H xs ds := by
  cases h with
  | tup h hs => exact ⟨_, _, rfl, h, hs⟩
theorem TD.intI {H : Hp} {v : V} {i : Int} (h : TD H v (.int i)) : v = .int i := by
  cases h
  rfl
theorem TD.strI {H : Hp} {v : V} {i : Str} (h : TD H v (.str i)) : v = .str i := by
  cases h
  rfl
theorem TD.noneI {H : Hp} {v : V} (h : TD H v .none) : v = .non := by
  cases h
  rfl
theorem TDs.append {H : Hp} : ∀ {xs ys : List V} {ds es : List PyData}, TDs H xs ds → TDs H ys es → TDs H (xs ++ ys) (ds ++ es)
  | _, _, _, _, .nil, s => s
  | _, _, _, _, .cons r t, s => .cons r (TDs.append t s)
theorem TDs.strs {H : Hp} : ∀ (zs : List Str), TDs H (zs.map V.str) (zs.map PyData.str)
  | [] => .nil
  | z :: r => .cons (.str z) (TDs.strs r)
/-- rows that stand in a list of values, each a datum -/
def RowsAt {β : Type} (D : β → PyData) (H : Hp) (xs : List V) (rows : List β) : Prop := TDs H xs (rows.map D)
theorem RowsAt.get {β : Type} {D : β → PyData} {H : Hp} {xs : List V} {rows : List β} (h : RowsAt D H xs rows) {i : Nat} {v : V} (e : xs[i]? = some v) : ∃ b, rows[i]? = some b ∧ TD H v (D b) := by
  obtain ⟨d, h1, h2⟩ := TDs.get' h e
  rw [List.getElem?_map] at h1
  cases hb : rows[i]? with
  | none =>
    rw [hb] at h1
    cases h1
  | some b =>
    rw [hb] at h1
    have := Option.some.inj h1
    subst this
    exact ⟨b, rfl, h2⟩
theorem RowsAt.len {β : Type} {D : β → PyData} {H : Hp} {xs : List V} {rows : List β} (h : RowsAt D H xs rows) : xs.length = rows.length := by
  have := TDs.len h
  rw [List.length_map] at this
  exact this
theorem RowsAt.tp {β : Type} {D : β → PyData} {H H' : Hp} {xs : List V} {rows : List β} (e : Tp H H') (h : RowsAt D H xs rows) : RowsAt D H' xs rows := TDs.tp e h
/-! ### comprehensions over rows, all that stood standing -/
section
variable {K : PySem.W.Frag} {w : World} {β : Type} {D' : β → PyData} {a : Addr} {xs : List V} {rows : List β} {g : TG} {tt : TT} {te : TE} {vs : List Nat} {σ : L2.St} {H : Hp}
theorem take_snoc {α : Type} {l : List α} {i : Nat} {b : α} (h : l[i]? = some b) : l.take (i + 1) = l.take i ++ [b] := by
  rw [List.take_add_one, h]
  rfl
/-- {e for row in a tuple if ..} -/
theorem scT {Qd : Addr → Hp → Prop} (p : β → Bool) (f : β → Int) (hx : SqT K H a xs) (hr : RowsAt D' H xs rows) (small : rows.length ≤ 1000)
    (turn : ∀ b v H', b ∈ rows → TD H' v (D' b) → Ex H H' → ∀ (R : VK) (R0 : Hp → Prop), (p b = true → ∀ H4, Ex H' H4 → R (.int (f b)) H4) → (p b = false → ∀ H4, Ex H' H4 → R0 H4) →
      g v (wipe σ vs) H' fun σ2 H2 => wipe σ2 vs = wipe σ vs ∧ tt σ2 H2 fun c H3 => if c = true then te σ2 H3 R else R0 H3)
    (q : ∀ D H' S n, H D = none → Ex H H' → H' D = some (SetO w D S n) → (∀ k : Int, S k = true ↔ ∃ b ∈ rows, p b = true ∧ f b = k) → n ≤ rows.length → Qd D H') : ∀ D, H D = none →
    ∃ W : Nat → Nat → Hp → Prop, (∃ m, W 0 m (upd H D (SetO w D (fun _ => false) 0))) ∧ ∀ i m H, W i m H →
      ((Itt K a).stop i H ∧ Qd D H) ∨ ((Itt K a).go i H ∧ ∃ Nx : Hp → Prop, (∀ H', Nx H' → ∃ m', m' < m ∧ W (i + 1) m' H') ∧ ∀ x H', (Itt K a).yld i H x H' → g x (wipe σ vs) H' fun σ2 H2 => wipe σ2 vs = wipe σ vs ∧ tt σ2 H2 fun b H3 =>
        if b = true then te σ2 H3 fun y H4 => ∃ (k : Int) (S : Int → Bool) (n : Nat), y = .int k ∧ H4 D = some (SetO w D S n) ∧ n + 1 < scanBound ∧ Nx (upd H4 D (SetO w D (fun j => S j || decide (j = k)) (if S k = true then n else n + 1))) else Nx H3) := fun D hD => by
  have sb : (2000 : Nat) < scanBound := by decide
  refine ⟨fun i m H1 => m = xs.length - i ∧ i ≤ xs.length ∧ Ex H H1 ∧ ∃ S n, H1 D = some (SetO w D S n) ∧ (∀ k : Int, S k = true ↔ ∃ b ∈ rows.take i, p b = true ∧ f b = k) ∧ n ≤ i, ⟨xs.length, by simp, Nat.zero_le _, Ex.new hD, _, 0, upd_same, fun k => by simp, Nat.le_refl _⟩, ?_⟩
  rintro i m H1 ⟨rfl, hi, e, S, n, hS, hk, hn⟩
  have hx1 : SqT K H1 a xs := Evl.ex_t e hx
  by_cases hlt : i < xs.length
  · refine .inr ⟨⟨xs, xs[i], hx1, by simp [hlt]⟩, fun H2 => Ex H H2 ∧ ∃ S n, H2 D = some (SetO w D S n) ∧ (∀ k : Int, S k = true ↔ ∃ b ∈ rows.take (i + 1), p b = true ∧ f b = k) ∧ n ≤ i + 1, fun H2 h2 => ⟨xs.length - (i + 1), by omega, rfl, hlt, h2⟩, fun x H' y => ?_⟩
    obtain ⟨e1, y⟩ := y
    subst e1
    have ex := y xs hx1
    obtain ⟨b, hb, ht⟩ := hr.get ex
    refine turn b x _ (List.mem_of_getElem? hb) (TD.tp (Tp.ex e) ht) e _ _ (fun hp H4 e4 => ?_) (fun hp H4 e4 => ?_)
    · refine ⟨f b, S, n, rfl, e4 _ _ hS, by rw [hr.len] at hlt; omega, (e.trans e4).mut hD, _, _, upd_same, fun k => ?_, by split <;> omega⟩
      rw [take_snoc hb, Bool.or_eq_true, hk k, decide_eq_true_iff]
      constructor
      · rintro (⟨c, hc, h1, h2⟩ | h)
        · exact ⟨c, List.mem_append_left _ hc, h1, h2⟩
        · exact ⟨b, List.mem_append_right _ (List.mem_singleton.mpr rfl), hp, h.symm⟩
      · rintro ⟨c, hc, h1, h2⟩
        rcases List.mem_append.mp hc with hc | hc
        · exact .inl ⟨c, hc, h1, h2⟩
        · rw [List.mem_singleton.mp hc] at h2
          exact .inr h2.symm
    · refine ⟨e.trans e4, S, n, e4 _ _ hS, fun k => ?_, Nat.le_succ_of_le hn⟩
      rw [take_snoc hb, hk k]
      constructor
      · rintro ⟨c, hc, h1, h2⟩
        exact ⟨c, List.mem_append_left _ hc, h1, h2⟩
      · rintro ⟨c, hc, h1, h2⟩
        rcases List.mem_append.mp hc with hc | hc
        · exact ⟨c, hc, h1, h2⟩
        · rw [List.mem_singleton.mp hc, hp] at h1
          cases h1
  · have e1 : i = xs.length := by omega
    subst e1
    refine .inl ⟨⟨xs, hx1, Nat.le_refl _⟩, q D H1 S n hD e hS (fun k => ?_) (by rw [hr.len] at hn; exact hn)⟩
    rw [hk k, hr.len, List.take_length]
/-- [e for row in a tuple if ..], its items made without another thing's change -/
theorem lcT {Qd : Addr → Hp → Prop} (p : β → Bool) (f : β → V) (hx : SqT K H a xs) (hr : RowsAt D' H xs rows) (small : rows.length ≤ 10000)
    (turn : ∀ b v H', b ∈ rows → TD H' v (D' b) → Ex H H' → ∀ (R : VK) (R0 : Hp → Prop), (p b = true → ∀ H4, Ex H' H4 → R (f b) H4) → (p b = false → ∀ H4, Ex H' H4 → R0 H4) →
      g v (wipe σ vs) H' fun σ2 H2 => wipe σ2 vs = wipe σ vs ∧ tt σ2 H2 fun c H3 => if c = true then te σ2 H3 R else R0 H3)
    (q : ∀ D H', H D = none → Ex H H' → H' D = some (.lst ((rows.filter p).map f)) → Qd D H') : ∀ D, H D = none →
    ∃ W : Nat → Nat → Hp → Prop, (∃ m, W 0 m (upd H D (.lst []))) ∧ ∀ i m H, W i m H →
      ((Itt K a).stop i H ∧ Qd D H) ∨ ((Itt K a).go i H ∧ ∃ Nx : Hp → Prop, (∀ H', Nx H' → ∃ m', m' < m ∧ W (i + 1) m' H') ∧ ∀ x H', (Itt K a).yld i H x H' → g x (wipe σ vs) H' fun σ2 H2 => wipe σ2 vs = wipe σ vs ∧ tt σ2 H2 fun b H3 =>
        if b = true then te σ2 H3 fun y H4 => ∃ acc, H4 D = some (.lst acc) ∧ acc.length < sizeLine ∧ Nx (upd H4 D (.lst (acc ++ [y]))) else Nx H3) := fun D hD => by
  have len : ∀ i, (((rows.take i).filter p).map f).length < sizeLine := fun i => by
    rw [List.length_map]
    have h1 := List.length_filter_le p (rows.take i)
    have h2 : (rows.take i).length ≤ rows.length := by rw [List.length_take]; omega
    rw [sizeLine_eq]
    omega
  refine lc_tup (K := K) (a := a) (xs := xs) (fun i H' => Ex H H' ∧ H' D = some (.lst (((rows.take i).filter p).map f))) ⟨Ex.new hD, by rw [upd_same]; rfl⟩ (fun i H' _ h => Evl.ex_t h.1 hx) ?_ ?_
  · rintro i x H' ex ⟨e, hl⟩
    obtain ⟨b, hb, ht⟩ := hr.get ex
    refine turn b x _ (List.mem_of_getElem? hb) (TD.tp (Tp.ex e) ht) e _ _ (fun hp H4 e4 => ?_) (fun hp H4 e4 => ?_)
    · refine ⟨_, e4 _ _ hl, len i, (e.trans e4).mut hD, ?_⟩
      rw [upd_same, take_snoc hb, List.filter_append, List.map_append, List.filter_cons_of_pos hp]
      rfl
    · refine ⟨e.trans e4, ?_⟩
      rw [e4 _ _ hl, take_snoc hb, List.filter_append, List.filter_cons_of_neg (by simp [hp])]
      simp
  · rintro H' ⟨e, hl⟩
    rw [hr.len, List.take_length] at hl
    exact q D H' hD e hl
end
/-! ### a text that tells a thing -/
def okInt : PyData → Prop
  | .int i => i.natAbs.log2 < 1920
  | .bool _ => False
  | .str _ => False
  | _ => True
def rReprD (K : PySem.W.Frag) : List V → Hp → VK → Prop := fun xs H Q => ∃ x d, xs = [x] ∧ Dp K H x d ∧ okInt d ∧ d.showable = true ∧ d.hasDict = false ∧ d.depth ≤ 50 ∧ d.shown.length ≤ sizeLine ∧ Q (.str d.shown) H
theorem call_reprD {X : Cx} (hg : X.A.guards = some []) (hu : X.A.units + 64 < cLine) : CallR X (.builtin "repr") (rReprD X.K) := by
  intro pins s σ H xs us Q I r h
  obtain ⟨x, d, rfl, hd, h0, h1, h2, h3, h4, q⟩ := h
  obtain ⟨u, rfl, r1⟩ := vals1 r
  have far : ∀ a, x = .ref a → wpAny (model X.prog X.w) X.A (call (.builtin "repr") [u]) (EP X pins σ Q) X.xe s := fun a ea => by
    subst ea
    obtain rfl : u = Value.ref a := r1
    obtain ⟨as, rd⟩ := Dp.reads I d _ _ hd (show L2.RelV (.ref a) (.ref a) from rfl)
    refine repr_of_reads' (h₀ := s.heap) rd h1 (fun z => by rw [h2] at z; cases z) hg (by omega) (fun _ _ e => e) (fun h' v tk kept => ?_) h4
    exact ⟨.str d.shown, H, I.call' (ch := []) rfl (Un.kept kept) (I.hok.kept kept) I.bare (fun _ z => nomatch z), ⟨_, rfl⟩, q⟩
  cases hd with
  | non =>
    obtain rfl : u = Value.none := r1
    exact PySem.P.repr_of_none ⟨.str _, H, I.tok _, ⟨_, rfl⟩, q⟩
  | int i =>
    obtain ⟨t, rfl⟩ := r1
    exact PySem.P.repr_of_int h0 ⟨.str _, H, I.tok _, ⟨_, rfl⟩, q⟩
  | bl b => exact h0.elim
  | str z => exact h0.elim
  | lst _ _ => exact far _ rfl
  | tup _ _ => exact far _ rfl
/-! rows of small numbers, shown -/
theorem shown_le {xs : List PyData} {B : Nat} (h : ∀ x ∈ xs, x.shown.length ≤ B) : (PyData.list xs).shown.length ≤ 2 + xs.length * (B + 2) := by
  have lb : ∀ {ys : List PyData}, (∀ x ∈ ys, x.shown.length ≤ B) → ((PyData.shownAll ys).map (·.length)).sum ≤ ys.length * B := by
    intro ys
    induction ys with
    | nil =>
      intro _
      exact Nat.zero_le _
    | cons y r ih =>
      intro hy
      have h1 := ih fun x hx => hy x (List.mem_cons_of_mem _ hx)
      have h2 := hy y List.mem_cons_self
      rw [PyData.shownAll_cons, List.map_cons, List.sum_cons, List.length_cons, Nat.succ_mul]
      omega
  have ap : ∀ x y : Str, (x ++ y).length = x.length + y.length := fun x y => by
    show (x.cps ++ y.cps).size = _
    rw [Array.size_append]
    rfl
  have l1 : Str.length ("[" : Str) = 1 := by decide +kernel
  have l2 : Str.length ("]" : Str) = 1 := by decide +kernel
  have l3 : Str.length (", " : Str) = 2 := by decide +kernel
  have j := StrLaws.join_length_le ", " (PyData.shownAll xs)
  rw [l3, PyData.shownAll_length] at j
  have s1 := lb h
  rw [PyData.shown_list, ap, ap, l1, l2, Nat.mul_add]
  omega
/-- rows of rows of numbers -/
def nest (ls : List (List Int)) : PyData := .list (ls.map fun l => .list (l.map .int))
def Few (ls : List (List Int)) : Prop := ls.length ≤ 40 ∧ ∀ l ∈ ls, l.length ≤ 40 ∧ ∀ n ∈ l, 0 ≤ n ∧ n < 130
theorem num_short {n : Int} (h0 : 0 ≤ n) (h1 : n < 130) : (PyData.int n).shown.length ≤ 3 := by
  obtain ⟨k, rfl⟩ : ∃ k : Nat, n = (k : Int) := ⟨_, (Int.toNat_of_nonneg h0).symm⟩
  have all : ∀ k : Fin 130, (PyData.int ((k.val : Nat) : Int)).shown.length ≤ 3 := by decide +kernel
  exact all ⟨k, by omega⟩
theorem num_log {n : Int} (h0 : 0 ≤ n) (h1 : n < 130) : n.natAbs.log2 < 1920 := Nat.lt_of_le_of_lt (Nat.log2_le_self _) (by omega)
theorem nest_show {ls : List (List Int)} (h : Few ls) : (nest ls).shown.length ≤ sizeLine := by
  have i : ∀ x ∈ (ls.map fun l => PyData.list (l.map .int)), x.shown.length ≤ 300 := fun x hx => by
    obtain ⟨l, hl, rfl⟩ := List.mem_map.mp hx
    obtain ⟨h1, h2⟩ := h.2 l hl
    have := shown_le (xs := l.map .int) (B := 3) fun y hy => by
      obtain ⟨n, hn, rfl⟩ := List.mem_map.mp hy
      exact num_short (h2 n hn).1 (h2 n hn).2
    rw [List.length_map] at this
    omega
  have := shown_le i
  rw [List.length_map] at this
  have h1 := h.1
  rw [sizeLine_eq]
  unfold nest
  have : ls.length * (300 + 2) ≤ 40 * 302 := Nat.mul_le_mul_right _ h1
  omega
theorem nest_showable {ls : List (List Int)} (h : Few ls) : (nest ls).showable = true := by
  have key : ∀ ms : List (List Int), (∀ l ∈ ms, ∀ n ∈ l, n.natAbs.log2 < 1920) → PyData.showableAll (ms.map fun l => PyData.list (l.map .int)) = true := by
    intro ms
    induction ms with
    | nil => intro _; rfl
    | cons m r ih =>
      intro hm
      show (PyData.showable (.list (m.map .int)) && PyData.showableAll (r.map fun l => PyData.list (l.map .int))) = true
      rw [show PyData.showable (.list (m.map .int)) = PyData.showableAll (m.map .int) from rfl, PyData.showableAll_ints m (hm m List.mem_cons_self), ih fun l hl => hm l (List.mem_cons_of_mem _ hl)]
      rfl
  exact key ls fun l hl n hn => num_log ((h.2 l hl).2 n hn).1 ((h.2 l hl).2 n hn).2
theorem nest_plain : ∀ ls : List (List Int), (nest ls).hasDict = false := by
  have i : ∀ l : List Int, PyData.hasDictAll (l.map .int) = false := by
    intro l
    induction l with
    | nil => rfl
    | cons n r ih =>
      show (PyData.hasDict (.int n) || PyData.hasDictAll (r.map .int)) = false
      rw [ih]
      rfl
  intro ls
  show PyData.hasDictAll (ls.map fun l => PyData.list (l.map .int)) = false
  induction ls with
  | nil => rfl
  | cons l r ih =>
    show (PyData.hasDict (.list (l.map .int)) || PyData.hasDictAll (r.map fun l => PyData.list (l.map .int))) = false
    rw [show PyData.hasDict (.list (l.map .int)) = PyData.hasDictAll (l.map .int) from rfl, i l, ih]
    rfl
theorem nest_depth (ls : List (List Int)) : (nest ls).depth ≤ 50 := by
  have : PyData.depthAll (ls.map fun l => PyData.list (l.map .int)) ≤ 1 := by
    induction ls with
    | nil => exact Nat.zero_le _
    | cons l r ih =>
      show max (PyData.depth (.list (l.map .int))) (PyData.depthAll (r.map fun l => PyData.list (l.map .int))) ≤ 1
      rw [show PyData.depth (.list (l.map .int)) = PyData.depthAll (l.map .int) + 1 from rfl, dp_ints]
      omega
  show PyData.depthAll (ls.map fun l => PyData.list (l.map .int)) + 1 ≤ 50
  omega
/-- a list of lists of numbers stands: their places -/
def NestAt (K : PySem.W.Frag) (H : Hp) : List V → List (List Int) → Prop
  | [], [] => True
  | v :: vs, l :: ls => (∃ a, v = .ref a ∧ SqL K H a (l.map V.int)) ∧ NestAt K H vs ls
  | _, _ => False
theorem NestAt.dp {K : PySem.W.Frag} {H : Hp} : ∀ {vs : List V} {ls : List (List Int)}, NestAt K H vs ls → DpAll K H vs (ls.map fun l => .list (l.map .int))
  | [], [], _ => .nil
  | v :: vs, l :: ls, h => by
    obtain ⟨⟨a, rfl, hs⟩, h2⟩ := h
    exact .cons (.lst hs dpa_ints) (NestAt.dp h2)
  | [], _ :: _, h => h.elim
  | _ :: _, [], h => h.elim
theorem rd_nest {K : PySem.W.Frag} {H : Hp} {a : Addr} {vs : List V} {ls : List (List Int)} {Q : VK} (hs : SqL K H a vs) (h : NestAt K H vs ls) (f : Few ls) (q : Q (.str (nest ls).shown) H) : rReprD K [.ref a] H Q :=
  ⟨.ref a, nest ls, rfl, .lst hs h.dp, True.intro, nest_showable f, nest_plain ls, nest_depth ls, nest_show f, q⟩
/-! ### max(.., default=None) -/
def rMaxD (K : PySem.W.Frag) : List V → List V → Hp → VK → Prop := fun vs zs H Q => ∃ (a : Addr) (ns : List Int), vs = [.ref a] ∧ zs = [.non] ∧ SqL K H a (ns.map V.int) ∧ (ns = [] → Q .non H) ∧ ∀ m ∈ ns, (∀ n ∈ ns, n ≤ m) → Q (.int m) H
theorem max_in : ∀ (ns : List Int) (n : Int), (ns.foldl max n ∈ n :: ns) ∧ ∀ k ∈ n :: ns, k ≤ ns.foldl max n
  | [], n => ⟨List.mem_cons_self, fun k hk => by rw [List.mem_singleton.mp hk]; exact Int.le_refl _⟩
  | m :: r, n => by
    obtain ⟨h1, h2⟩ := max_in r (max n m)
    rw [List.foldl_cons]
    constructor
    · rcases List.mem_cons.mp h1 with e | e
      · rw [e]
        rcases Int.le_total n m with h | h
        · rw [Int.max_eq_right h]
          exact List.mem_cons_of_mem _ List.mem_cons_self
        · rw [Int.max_eq_left h]
          exact List.mem_cons_self
      · exact List.mem_cons_of_mem _ (List.mem_cons_of_mem _ e)
    · intro k hk
      have h3 := h2 _ List.mem_cons_self
      rcases List.mem_cons.mp hk with e | e
      · subst e
        exact Int.le_trans (Int.le_max_left _ _) h3
      · rcases List.mem_cons.mp e with e | e
        · subst e
          exact Int.le_trans (Int.le_max_right _ _) h3
        · exact h2 k (List.mem_cons_of_mem _ e)
theorem cr_maxD {X : Cx} (hc : X.calm = true) (hu : X.A.units + 64 < cLine) : CallRK X (.builtin "max") [Str.ofString "default"] (rMaxD X.K) := by
  intro pins s σ H xs zs us ws Q I r1 r2 h
  obtain ⟨a, ns, rfl, rfl, hs, h0, h1⟩ := h
  obtain ⟨u, rfl, ru⟩ := vals1 r1
  obtain ⟨w', rfl, rw'⟩ := vals1 r2
  obtain rfl : u = Value.ref a := ru
  obtain rfl : w' = Value.none := rw'
  obtain ⟨its, rv, hl, _⟩ := I.list hs
  obtain ⟨as, rd⟩ := Dp.readsAll I (ns.map .int) _ _ dpa_ints rv
  have back : ∀ {h' : Heap} {tk : Nat}, (∀ b o, s.heap.get? b = some o → h'.get? b = some o) → L2.Inv X pins σ H { s with heap := h', toks := tk } := fun {h' tk} kept => I.call' (ch := []) rfl (Un.kept kept) (I.hok.kept kept) I.bare (fun _ z => nomatch z)
  have al : PySem.W.AlikeAll (ns.map .int) := ⟨fun x hx y hy => by
    obtain ⟨i, _, rfl⟩ := List.mem_map.mp hx
    obtain ⟨j, _, rfl⟩ := List.mem_map.mp hy
    rfl, fun x hx => by
    obtain ⟨i, _, rfl⟩ := List.mem_map.mp hx
    intro z
    cases z⟩
  refine PySem.W.max_list_default (vs := its.toArray) (I.ok.hd hc) hl.isList (by simpa using rd) al (by rw [dp_ints]; omega) (fun e h' tk kept => ?_) fun y ys i v h' tk bs e hv hr kept => ?_
  · have : ns = [] := by
      cases ns with
      | nil => rfl
      | cons n r => cases e
    exact ⟨.non, H, back kept, rfl, h0 this⟩
  · cases ns with
    | nil => cases e
    | cons n r =>
      have e1 : PyData.int n = y := (List.cons.inj e).1
      have e2 : r.map PyData.int = ys := (List.cons.inj e).2
      subst e1 e2
      rw [PySem.W.maxD_ints] at hr
      obtain ⟨t, rfl⟩ : ∃ t, v = .int (r.foldl max n) t := by
        cases hr with
        | int => exact ⟨_, rfl⟩
      obtain ⟨g1, g2⟩ := max_in r n
      exact ⟨.int _, H, back kept, ⟨t, rfl⟩, h1 _ g1 g2⟩
end Bs

namespace Bs
open PySem PySem.Spec PyProof.Rows L2
open Evl (Ex)
/-! ### {k: v for .. in .. if ..}, the keys tuples of ints and texts -/
section
variable {X : Cx}
theorem put_tup {pins : List (Addr × Obj)} {σ : L2.St} {H : Hp} {s : Shared} {E : Value → Shared → Prop} {D b : Addr} {kvs : List (List L2.Key × V)} {k : List L2.Key} {v : V} {u r : Value} {Q : Unit → Shared → Prop} (hu : X.A.units + 64 < cLine) (J : L2.Inv X pins σ H s) (at_ : H D = some (.dT kvs)) (kb : H b = some (.tup (k.map kV)))
    (few : kvs.length < sizeLine) (ru : RelV (.ref b) u) (rr : RelV v r) (next : ∀ s', L2.Inv X pins σ (upd H D (.dT (putK kvs k v))) s' → Q () s') : wpAny (model X.prog X.w) X.A (dictSet D u r) Q E s := by
  cases (show u = Value.ref b from ru)
  obtain ⟨z, ns, ents, rel, dd⟩ := dt_of J.hok at_
  have room : ents.length ≤ sizeLine := by
    rw [← Paired.length rel]
    exact z
  have more := length_putK kvs k v
  refine wpAny_dictSet_heap (hsz := room) (show X.A.units < cLine by omega) (key_of J.hok kb) dd fun h2 made same => next _ ?_
  obtain ⟨ob, es, ep, hob, c1, c2, c3, _, c5⟩ := made
  refine d_write J (by rw [at_]; trivial) same ⟨ob, hob⟩ ⟨by omega, ns, _, (rel.put k kb rr).keeps fun c ys ec => ?_, ob, es, ep, hob, c1, c2, c3, c5⟩
  rw [upd_ne (ne_of ec at_ fun y => nomatch y)]
  exact ec
def tDcT (wi : TI) (g : TG) (tt : TT) (tk te : TE) (vs : List Nat) : TE := fun σ H Q => wi σ H fun J H1 => ∀ D, H1 D = none → ∃ W : Nat → Nat → Hp → Prop, (∃ m, W 0 m (upd H1 D (.dT []))) ∧ ∀ i m H, W i m H →
  (J.stop i H ∧ Q (.ref D) H) ∨ (J.go i H ∧ ∃ Nx : Hp → Prop, (∀ H', Nx H' → ∃ m', m' < m ∧ W (i + 1) m' H') ∧ ∀ x H', J.yld i H x H' → g x (wipe σ vs) H' fun σ2 H2 => wipe σ2 vs = wipe σ vs ∧ tt σ2 H2 fun b H3 =>
    if b = true then tk σ2 H3 fun y H4 => te σ2 H4 fun z H5 => ∃ (kvs : List (List L2.Key × V)) (k : List L2.Key) (a : Addr), y = .ref a ∧ H5 D = some (.dT kvs) ∧ H5 a = some (.tup (k.map kV)) ∧ kvs.length < sizeLine ∧ Nx (upd H5 D (.dT (putK kvs k z))) else Nx H3)
abbrev dict0 : Obj := { cls := .type "dict", data := .dict #[] }
theorem pe_dcT {kx elt tg iter : Expr} {ifs : List Expr} {scope : Scope} {own : List (PySem.Str × Nat)} {pos : Pos} {wi : TI} {g : TG} {tt : TT} {tk te : TE} (hu : X.A.units + 64 < cLine) (calm : X.calm = true) (nd : X.N.Nodup) (pi : PI X tg iter wi) (blk : BlkOk X.N X.env.scope scope own)
    (pgs : ∀ (s : Shared) (H : Hp) (C : Addr) (cl : List (PySem.Str × Addr)) (fp : List Addr), PG (X.blk s H scope (compEnvC scope cl C X.env) fp) tg g)
    (pts : ∀ (s : Shared) (H : Hp) (C : Addr) (cl : List (PySem.Str × Addr)) (fp : List Addr), PTs (X.blk s H scope (compEnvC scope cl C X.env) fp) ifs tt)
    (pks : ∀ (s : Shared) (H : Hp) (C : Addr) (cl : List (PySem.Str × Addr)) (fp : List Addr), PE (X.blk s H scope (compEnvC scope cl C X.env) fp) kx tk)
    (pes : ∀ (s : Shared) (H : Hp) (C : Addr) (cl : List (PySem.Str × Addr)) (fp : List Addr), PE (X.blk s H scope (compEnvC scope cl C X.env) fp) elt te) (fold : ∀ x, foldedSetIterable iter X.env x = pure x := by intro _; rfl) :
    PE X (.DictComp kx elt [⟨tg, iter, ifs, 0⟩] scope pos) (tDcT wi g tt tk te (own.map (·.2))) := by
  refine ⟨fun pins s σ H Q I hyp => ?_⟩
  rw [arm_eval_DictComp]
  have cellsOk : ∀ y ∈ scope.names, y.2 = .free → ∃ c, X.env.cells.lookup y.1 = some c := fun y my fy => (blk.free y my fy).elim (fun k => I.ok.has _ (.inl k)) fun k => I.ok.has _ (.inr k)
  refine wpAny_comprehension_free rfl fold (closure_ok cellsOk) blk.kind (fun y my fy => by rw [blk.uniq y my, fy]) (thn (pi.run pins s σ H _ I hyp) fun _ _ a1 => thn a1 fun _ sA a2 => ?_)
  obtain ⟨it, fp, tn, J, HA, rfl, IA, T, stA, frA, q⟩ := a2
  refine wpAny_newObj_type (newEnv_comp ?_)
  -- the new set stands at D
  obtain ⟨D, eD⟩ : ∃ D, sA.heap.objs.size = D := ⟨_, rfl⟩
  have free : HA D = none := IA.hok.fresh (Nat.le_of_eq eD)
  obtain ⟨W, ⟨m0, w0⟩, turn⟩ := q D free
  obtain ⟨sB, eB⟩ : ∃ sB : Shared, ({ sA with heap := sA.heap.push (dict0) } : Shared) = sB := ⟨_, rfl⟩
  obtain ⟨HB, eHB⟩ : ∃ HB : Hp, upd HA D (.dT []) = HB := ⟨_, rfl⟩
  have hpB : sB.heap = sA.heap.push (dict0) := by rw [← eB]
  have IB : L2.Inv X pins σ HB sB := by
    rw [← eB, ← eHB]
    refine IA.laid (t' := sA.toks) (fun b o e => Heap.get?_push_of_some _ e) (Nat.le_of_eq eD) ?_
    rw [← eD]
    exact dt_empty sA.heap IA.big
  have below : ∀ b ∈ fp, b < sA.heap.objs.size := fun b mb => (T.obj _ _ stA b mb).elim fun _ e => Heap.lt_size e.1
  have frB : ∀ b ∈ fp, FpOk X pins HB b ∧ b < sB.heap.objs.size := fun b mb => by
    refine ⟨⟨?_, (frA b mb).2⟩, by rw [hpB, Heap.size_push]; exact Nat.lt_succ_of_lt (below b mb)⟩
    rw [← eHB, upd_ne (by rw [← eD]; exact Nat.ne_of_lt (below b mb))]
    exact (frA b mb).1
  have stB : tn 0 sB.heap := T.keep _ _ _ stA fun _ _ _ e => by rw [hpB]; exact Heap.get?_push_of_some _ e
  have IC := block_start IB blk nd frB
  -- the block's own frame
  obtain ⟨cells, ecl⟩ : ∃ cells, cellsFrom (sB.heap.objs.size + 1) scope.names (cloFrom X.env.cells scope.names []) = cells := ⟨_, rfl⟩
  obtain ⟨ce, ece⟩ : ∃ ce, compEnvC scope cells sB.heap.objs.size X.env = ce := ⟨_, rfl⟩
  obtain ⟨sC, eC⟩ : ∃ sC : Shared, ({ sB with heap := pushCells (sB.heap.push { cls := .type "dict", data := .dict #[] }) scope.names } : Shared) = sC := ⟨_, rfl⟩
  have pg := pgs sB HB sB.heap.objs.size cells fp
  have pt := pts sB HB sB.heap.objs.size cells fp
  have pk := pks sB HB sB.heap.objs.size cells fp
  have pe := pes sB HB sB.heap.objs.size cells fp
  rw [ecl, ece, eC] at IC
  rw [ece] at pg pt pk pe
  have lo : ce.locals = sB.heap.objs.size := by rw [← ece]; rfl
  have none_ : ∀ b ∈ fp, HB b = none := fun b mb => (frB b mb).1.1
  have stC : tn 0 sC.heap := T.keep _ _ _ stB fun _ _ _ e => by rw [← eC]; exact pushCells_keeps _ _ _ _ (Heap.get?_push_of_some _ e)
  have pinned_ : ∀ {τ : L2.St} {H1 : Hp} {s1 : Shared}, L2.Inv (X.blk sB HB scope ce fp) [] τ H1 s1 → (∀ b ∈ fp, H1 b = none) → ∀ b ∈ fp, FpOk (X.blk sB HB scope ce fp) [] H1 b := fun {τ H1 s1} J1 hn b mb => by
    exact ⟨hn b mb, (J1.ok.exf b mb).1, J1.ok.exfs b mb, .inl mb, fun x c e => (J1.ok.exf b mb).2 x c e, fun p hp => nomatch (show p ∈ ([] : List (Addr × Obj)) from by simpa using hp)⟩
  rw [eB, eD, ecl]
  show codeAny _ _ (.compStart (.DictComp kx elt [⟨tg, iter, ifs, 0⟩] scope pos) 0 (.ref it) (.ref D) (compEnvC scope cells sB.heap.objs.size X.env)) _ { sB with heap := pushCells (sB.heap.push { cls := .type "dict", data := .dict #[] }) scope.names }
  rw [ece, eC]
  have loop : codeAny (model X.prog X.w) X.A (.compLoop (.DictComp kx elt [⟨tg, iter, ifs, 0⟩] scope pos) 0 (.ref it) (.ref D) ce) (compPost (model X.prog X.w) X.A X.xe none (EP X pins σ Q) (.ref D) sB.heap.objs.size) sC := by
    refine compLoop_anyD (fun n t => ∃ i H1, L2.Inv (X.blk sB HB scope ce fp) [] (wipe σ (own.map (·.2))) H1 t ∧ tn i t.heap ∧ (∀ b ∈ fp, H1 b = none) ∧ W i n H1) ?_ m0 ⟨0, HB, IC, stC, none_, by rw [← eHB]; exact w0⟩
    rintro n t5 ⟨i, H5, I5, st5, n5, w5⟩
    rcases turn i n H5 w5 with ⟨stop, fin_⟩ | ⟨go, Nx, back, step⟩
    · refine thnF (T.done (X.blk sB HB scope ce fp) rfl rfl rfl calm i [] t5 _ H5 (fun _ _ => False) I5 (pinned_ I5 n5) st5 stop) fun r t6 ⟨er, I6⟩ => ?_
      subst er
      have I7 : L2.Inv X pins σ H5 t6 := IB.call' (ch := fp) I6.os I6.base I6.hok I6.bare fun b mb => ⟨(frB b mb).1.2.2.2.1, (frB b mb).1.2.1, (frB b mb).1.2.2.2.2.1, (frB b mb).1.2.2.2.2.2⟩
      have fl : H5 sB.heap.objs.size = none := lo ▸ (show H5 ce.locals = none from I6.free)
      obtain ⟨m, hm, _⟩ := I6.loc
      have hm' : t6.heap.Ns sB.heap.objs.size m := lo ▸ (show t6.heap.Ns ce.locals m from hm)
      refine ⟨m, hm', fun h'' sb => ?_⟩
      obtain ⟨f0, f1, f2, f3, f4, f5⟩ := IB.fpOk (Nat.le_refl _) fl
      exact ⟨.ref D, H5, I7.turned (t' := t6.toks) (fun b o hb e => (sb.2 b hb).trans e) f0 f1 f3 f4 f5, rfl, fin_⟩
    · refine thnF (T.item (X.blk sB HB scope ce fp) rfl rfl rfl calm i [] t5 _ H5 (fun _ _ => False) I5 (pinned_ I5 n5) st5 go) fun r t6 ⟨u, er, h6⟩ => ?_
      subst er
      refine thnF h6 fun _ t7 ⟨x, H7, I7, r7, y7, st7, n7⟩ => ?_
      refine thnF (pg.run _ t7 _ H7 x u _ (I7.pinned (pinned_ I7 n7) (T.obj _ _ st7)) r7 (step x H7 y7)) fun _ t8 ⟨τ, H8, I8, ew, q8⟩ => ?_
      refine thnF (pt.run _ t8 τ H8 _ I8 q8) fun b t9 ⟨H9, I9, q9⟩ => ?_
      have again : ∀ {t : Shared} {H1 : Hp}, L2.Inv (X.blk sB HB scope ce fp) ([] ++ pinsAt fp t7.heap) τ H1 t → Nx H1 → ∃ m, m < n ∧ ∃ i H1, L2.Inv (X.blk sB HB scope ce fp) [] (wipe σ (own.map (·.2))) H1 t ∧ tn i t.heap ∧ (∀ b ∈ fp, H1 b = none) ∧ W i m H1 := fun {t H1} J1 nx => by
        obtain ⟨m', lt, w'⟩ := back H1 nx
        have held : ∀ b ∈ fp, ∀ o, t7.heap.get? b = some o → t.heap.get? b = some o ∧ H1 b = none := fun b mb o e => by
          have z := J1.pin (b, o) (List.mem_append_right _ (List.mem_append_right _ (mem_pinsAt mb e)))
          exact ⟨z.1, z.2.1⟩
        refine ⟨m', lt, i + 1, H1, (J1.unpinned (pins := [])).weak (by rw [← ew, wipe_length]) (fun j v e => (wipe_some (by rw [ew]; exact e)).1), T.keep _ _ _ st7 fun b mb o e => (held b mb o e).1, fun b mb => ?_, w'⟩
        obtain ⟨o, e, _⟩ := T.obj _ _ st7 b mb
        exact (held b mb o e).2
      cases b with
      | false =>
        simp only [Bool.false_eq_true, if_false] at q9 ⊢
        exact again I9 q9
      | true =>
        simp only [if_true] at q9 ⊢
        refine thnF (pk.run _ t9 τ H9 _ I9 q9) fun z t10 ⟨ky, H10, I10, r10, q10⟩ => ?_
        refine thnF (pe.run _ t10 τ H10 _ I10 q10) fun z2 t11 ⟨vy, H11, I11, r11, kvs, key, ka, ek, at11, ka11, few, nx⟩ => ?_
        subst ek
        exact put_tup (X := X.blk sB HB scope ce fp) hu I11 at11 ka11 few r10 r11 fun t12 I12 => again I12 nx
  exact codeAny_compStart_dict loop (T.self X.A 0 _ _ _ stC loop)
end
end Bs

namespace Bs
open PySem PySem.Spec PyProof.Rows L2
open Evl (Ex)
/-! ### sorted(d), d's keys pairs of ints -/
/-- the two ints of a pair that stands -/
def prAt (H : Hp) : V → Int × Int
  | .ref b => match H b with
    | some (.tup [.int x, .int y]) => (x, y)
    | _ => (0, 0)
  | _ => (0, 0)
theorem prAt_is {H : Hp} {b : Addr} {x y : Int} (e : H b = some (.tup [.int x, .int y])) : prAt H (.ref b) = (x, y) := by
  unfold prAt
  simp only [e]
abbrev kP (p : Int × Int) : List L2.Key := [Sum.inl p.1, Sum.inl p.2]
def rSortedDT (K : PySem.W.Frag) : List V → Hp → VK → Prop := fun vs H Q => ∃ (a : Addr) (kvs : List (List L2.Key × V)), vs = [V.ref a] ∧ H a = some (.dT kvs) ∧ (∀ e ∈ kvs, ∃ p, e.1 = kP p) ∧
  ∀ (bs : List Addr) (ys : List V) (p : Addr), IsKeys H kvs bs → SrtO.Srtd (ltP (prAt H)) ys → ys.Perm (bs.map V.ref) → H p = none → Q (.ref p) (upd H p (.lst ys))
theorem isKeys_at {H : Hp} : ∀ {kvs : List (List L2.Key × V)} {bs : List Addr}, IsKeys H kvs bs → (∀ e ∈ kvs, ∃ p, e.1 = kP p) → ∀ b ∈ bs, ∃ x y : Int, H b = some (.tup [.int x, .int y])
  | _, _, .nil, _, b, hb => nomatch hb
  | e :: kvs, c :: bs, .cons h t, ok, b, hb => by
    rcases List.mem_cons.mp hb with z | z
    · subst z
      obtain ⟨p, hp⟩ := ok e List.mem_cons_self
      rw [hp] at h
      exact ⟨p.1, p.2, h⟩
    · exact isKeys_at t (fun e' m => ok e' (List.mem_cons_of_mem _ m)) b z
theorem cr_sortedDT {X : Cx} (hc : X.calm = true) : CallR X (.builtin "sorted") (rSortedDT X.K) := by
  intro pins s σ H vs us Q I r h
  obtain ⟨d, kvs, rfl, hd, ok, q⟩ := h
  rw [Vals.ref1 r]
  obtain ⟨z, ns, ks, pr, o, es, ep, ho, hx, hdt, he, hn⟩ := dt_of I.hok hd
  have l1 : es.size = ks.length := size_of_entries he
  have l2 : kvs.length = ks.length := Paired.length pr
  have keys := isKeys_of pr
  have pairs := isKeys_at keys ok
  refine Calls.call_function_entry PyProof.Rows.kind_sorted PyProof.Rows.plain_sorted PyProof.Rows.entry_sorted (PyProof.Rows.args_sorted1 _) ?_
  unfold Builtin.«sorted»
  refine wpAny_bind (m := checkCount "sorted" 1 1 _) (wpAny_pure ?_)
  refine wpAny_bind (PySem.W.kdu_collect (A := X.A.in1) (kdl_raw ns hx hdt) (I.ok.hd hc) ho (by omega) fun h' tk acc kp it => ?_)
  have ea : acc.toList = (ks.map fun x => x.2.1).map Value.ref := by
    have hl : acc.toList.length = ks.length := by rw [Array.length_toList, it.1]; exact l1
    rw [List.map_map]
    apply List.ext_getElem?
    intro j
    rw [List.getElem?_map]
    cases hj : acc.toList[j]? with
    | none =>
      have h1 := List.getElem?_eq_none_iff.mp hj
      rw [List.getElem?_eq_none (by omega)]
      rfl
    | some v =>
      obtain ⟨en, hen, hv⟩ := it.2 j v (by rw [← Array.getElem?_toList]; exact hj)
      have qe := entry_at he j
      rw [hen] at qe
      cases hb : ks[j]? with
      | none =>
        rw [hb] at qe
        exact nomatch (show some en = none from qe)
      | some b =>
        rw [hb] at qe
        have e2 : en = entryOfKey (tupleKind (mixKind X.prog X.w)) b := Option.some.inj qe
        rw [hv, e2]
        rfl
  generalize hbs : (ks.map fun x => x.2.1) = bs at keys pairs ea
  have hbl : bs.length = kvs.length := by rw [← hbs, List.length_map]; omega
  have I1 : Inv X pins σ H { s with heap := h', toks := tk } := I.kept kp
  refine wpAny_bind (wpAny_newList ?_ (by rw [ea, List.length_map]; omega))
  have hoL : (h'.push (seqObj "list" acc.toList.toArray 0)).get? h'.objs.size = some (seqObj "list" acc.toList.toArray 0) := Heap.get?_push_size _ rfl
  have up : ∀ b u, s.heap.get? b = some u → (h'.push (seqObj "list" acc.toList.toArray 0)).get? b = some u := fun b u e => Heap.get?_push_of_some _ (kp b u e)
  have hp : ∀ v ∈ acc.toList, Srt.IsPair (h'.push (seqObj "list" acc.toList.toArray 0)) v (prAt H (backV v)).1 (prAt H (backV v)).2 := fun v hv => by
    rw [ea] at hv
    obtain ⟨b, hb, rfl⟩ := List.mem_map.mp hv
    obtain ⟨x, y, hxy⟩ := pairs b hb
    have e0 : prAt H (backV (Value.ref b)) = (x, y) := prAt_is hxy
    rw [e0]
    obtain ⟨_, its2, r2, ob, hob, hcl, n, hdt2⟩ := I.hok _ _ hxy
    obtain ⟨u1, u2, rfl, ri, rj⟩ := vals2 r2
    obtain ⟨t1, rfl⟩ := ri
    obtain ⟨t2, rfl⟩ := rj
    exact ⟨b, ob, t1, t2, n, rfl, up _ _ hob, hcl, hdt2⟩
  show wpAny _ _ _ _ _ { s with heap := h'.push (seqObj "list" acc.toList.toArray 0), toks := tk }
  refine wpAny_bind (wpAny_holding (wpAny_call_entry PyProof.Rows.slot_list_sort ⟨_, hoL, rfl⟩ PyProof.Rows.entry_list_sort
    (SrtO.list_sort_ord (s := { s with heap := h'.push (seqObj "list" acc.toList.toArray 0), toks := tk }) (SrtO.swo_lex fun u => prAt H (backV u)) hoL (by rw [ea, List.length_map]; omega) (fun h2 => SrtO.pairs_sortableO (by omega) hp fun o e => ?_) fun out g1 g2 => ⟨_, rfl, ?_⟩) (PyProof.Rows.args_list_sort _)))
  · have e' : some o = some (seqObj "list" acc.toList.toArray 0) := e.symm.trans hoL
    cases e'
    intro c
    exact absurd (Value.type.inj c) (by decide)
  · have h3 : ∀ u ∈ out, ∃ a, u = Value.ref a := fun u hu => by
      have := g2.perm.mem_iff.mp hu
      rw [ea] at this
      obtain ⟨b, _, e⟩ := List.mem_map.mp this
      exact ⟨b, e.symm⟩
    obtain ⟨c', he'⟩ := PyProof.Rows.sortedHeap_at (vs := acc.toList) (out := out.toArray) hoL
    have pm : (out.map backV).Perm (bs.map V.ref) := by
      have := g2.perm.map backV
      rw [ea, List.map_map] at this
      exact this
    have hlen : (out.map backV).length ≤ sizeLine := by
      rw [pm.length_eq, List.length_map]
      omega
    refine wpAny_pure ⟨_, rfl, .ref h'.objs.size, upd H h'.objs.size (.lst (out.map backV)), I1.laid (t' := tk) (fun b u e => ?_) (Nat.le_refl _) ⟨hlen, out, c', vals_back h3, he'⟩, rfl, q bs _ _ keys (SrtO.srtd_map g1) pm (I1.hok.fresh (Nat.le_refl _))⟩
    have hb : b < h'.objs.size := Heap.lt_size e
    rw [PyProof.Rows.sortedHeap_old (Nat.ne_of_lt hb) (by rw [size_push']; exact Nat.lt_succ_of_lt hb)]
    exact Heap.get?_push_of_some _ e
end Bs

namespace Bs
open PySem PySem.Spec PyProof.Rows L2
open Evl (Ex)
/-! ### the items of a dict, keys pairs of ints, values ints -/
abbrev Ent := (Int × Int) × Int
abbrev entP (e : Ent) : List L2.Key × V := (kP e.1, .int e.2)
def itemD (e : Ent) : PyData := .tuple [.tuple [.int e.1.1, .int e.1.2], .int e.2]
theorem pair_at {α β : Type} {F : α → β → Prop} : ∀ {l : List α} {m : List β} {j : Nat} {y : β}, Paired F l m → m[j]? = some y → ∃ x, l[j]? = some x ∧ F x y
  | _, _, _, _, .nil, h => by simp at h
  | x :: _, _ :: _, 0, _, .cons f _, h => by
    have := Option.some.inj h
    subst this
    exact ⟨x, rfl, f⟩
  | _ :: _, _ :: _, j + 1, _, .cons _ t, h => pair_at (j := j) t h
section
variable {X : Cx} {pins : List (Addr × Obj)} {σ : L2.St} {H : Hp} {s : Shared} {d : Addr} {es : List Ent} {ents : Array DictEntry} {xs : List (List L2.Key × Addr × Value)} {lo : Addr} {h' : Heap} {as : List Addr}
/-- what the made pairs hold -/
theorem made_at (rel : KT H (es.map entP) xs) (hes : ents.toList = xs.map (entryOfKey (tupleKind (mixKind X.prog X.w)))) (G : DT.Made ents lo h' as) {j : Nat} {t : Addr} (ht : as[j]? = some t) :
    ∃ (e : Ent) (q : Addr) (k : Tok), es[j]? = some e ∧ H q = some (.tup [.int e.1.1, .int e.1.2]) ∧ h'.get? t = some { cls := .type "tuple", data := .seq #[Value.ref q, Value.int e.2 k] } := by
  obtain ⟨en, hen, got⟩ := G.pairs j t ht
  rw [← Array.getElem?_toList, hes, List.getElem?_map] at hen
  cases hx : xs[j]? with
  | none =>
    rw [hx] at hen
    cases hen
  | some x =>
    rw [hx] at hen
    have e1 : entryOfKey (tupleKind (mixKind X.prog X.w)) x = en := Option.some.inj hen
    obtain ⟨kv, hkv, r1, r2, r3⟩ := pair_at rel hx
    rw [List.getElem?_map] at hkv
    cases he : es[j]? with
    | none =>
      rw [he] at hkv
      cases hkv
    | some e =>
      rw [he] at hkv
      have e2 : entP e = kv := Option.some.inj hkv
      subst e2
      obtain ⟨k, ek⟩ := (show ∃ k, x.2.2 = Value.int e.2 k from r3)
      refine ⟨e, x.2.1, k, rfl, r2, ?_⟩
      rw [got, ← e1, ← ek]
      rfl
/-- the new list and the made pairs are tracked -/
theorem items_track {hF : Heap} {tk : Nat} {l : Addr} {c : Nat} {zs : List Addr} (I : L2.Inv X pins σ H s) (kS : ∀ b o, s.heap.get? b = some o → hF.get? b = some o) (hl : s.heap.objs.size ≤ l) (nl : l ∉ as) (nd : as.Nodup) (ab : ∀ t ∈ as, s.heap.objs.size ≤ t)
    (at_ : ∀ (j : Nat) (t : Addr), as[j]? = some t → ∃ (e : Ent) (q : Addr) (k : Tok), es[j]? = some e ∧ H q = some (.tup [.int e.1.1, .int e.1.2]) ∧ hF.get? t = some { cls := .type "tuple", data := .seq #[Value.ref q, Value.int e.2 k] })
    (small : zs.length ≤ sizeLine) (hL : hF.get? l = some { cls := .type "list", data := .seq (zs.map Value.ref).toArray c }) :
    ∃ H' : Hp, L2.Inv X pins σ H' { s with heap := hF, toks := tk } ∧ Ex H H' ∧ H l = none ∧ H' l = some (.lst (zs.map V.ref)) ∧ ∀ (j : Nat) (t : Addr) (e : Ent), as[j]? = some t → es[j]? = some e → TD H' (.ref t) (itemD e) := by
  have I1 : L2.Inv X pins σ H { s with heap := hF, toks := tk } := I.kept (t' := tk) kS
  have free : H l = none := I.hok.fresh hl
  have I2 : L2.Inv X pins σ (upd H l (.lst (zs.map V.ref))) { s with heap := hF, toks := tk } :=
    I1.take (h' := hF) (t' := tk) (fun b ob _ e => e) (I.fpOk hl free) ⟨by rw [List.length_map]; exact small, zs.map Value.ref, c, L2.vals_refs zs, hL⟩
  obtain ⟨H2, I3, up, made⟩ := DX.takeT (P := fun t vs => ∃ (j : Nat) (e : Ent) (q : Addr), as[j]? = some t ∧ es[j]? = some e ∧ vs = [.ref q, .int e.2] ∧ H q = some (.tup [.int e.1.1, .int e.1.2])) I as _ I2 nd fun t mt => by
    obtain ⟨j, hj⟩ := List.mem_iff_getElem?.mp mt
    obtain ⟨e, q, k, he, hq, got⟩ := at_ j t hj
    refine ⟨ab t mt, ?_, [.ref q, .int e.2], ⟨j, e, q, hj, he, rfl, hq⟩, fun H3 => ⟨by rw [sizeLine_eq]; show 2 ≤ 16777216; decide, [Value.ref q, Value.int e.2 k], .cons rfl (.cons ⟨k, rfl⟩ .nil), ⟨_, got, rfl, 0, rfl⟩⟩⟩
    rw [upd_ne (fun z => nl (by rw [← z]; exact mt))]
    exact I.hok.fresh (ab t mt)
  have ex : Ex H H2 := fun b o e => up b o (by rw [upd_ne (ne_of_none e free)]; exact e)
  refine ⟨H2, I3, ex, free, up _ _ upd_same, fun j t e hj he => ?_⟩
  obtain ⟨vs, ⟨i, e2, q, hi, he2, rfl, hq⟩, ht⟩ := made t (List.mem_of_getElem? hj)
  have ij : j = i := (List.getElem?_inj (List.getElem?_eq_some_iff.mp hj).1 nd).mp (hj.trans hi.symm)
  subst ij
  have ee : e2 = e := Option.some.inj (he2.symm.trans he)
  subst ee
  exact .tup ht (.cons (.tup (ex _ _ hq) (.cons (.int _) (.cons (.int _) .nil))) (.cons (.int _) .nil))
end
end Bs

namespace Bs
open PySem PySem.Spec PyProof.Rows L2
open Evl (Ex)
/-! ### sorted(d.items()), keys pairs of ints -/
/-- a made pair in a heap -/
def EntIn (h : Heap) (v : Value) (e : Ent) : Prop := ∃ (t q : Addr) (k k1 k2 : Tok), v = .ref t ∧ IsTup h t #[.ref q, .int e.2 k] ∧ IsTup h q #[.int e.1.1 k1, .int e.1.2 k2]
theorem EntIn.keeps {h h' : Heap} {v : Value} {e : Ent} (x : EntIn h v e) (kp : ∀ b o, h.get? b = some o → o.cls = .type "tuple" → h'.get? b = some o) : EntIn h' v e := by
  obtain ⟨t, q, k, k1, k2, ev, ⟨o, a1, a2, a3⟩, ⟨o', b1, b2, b3⟩⟩ := x
  exact ⟨t, q, k, k1, k2, ev, ⟨o, kp _ _ a1 a2, a2, a3⟩, ⟨o', kp _ _ b1 b2, b2, b3⟩⟩
section
variable {prog : Program} {w : World} {A : Around} {E : Value → Shared → Prop} {s : Shared}
theorem ent_firsts {h : Heap} {f : Value → Ent} : ∀ vs : List Value, (∀ v ∈ vs, EntIn h v (f v)) → ∃ fs : List Value, PySem.W.KatTups h vs fs ∧ fs.length = vs.length ∧ ∀ u ∈ fs, ∃ (q : Addr) (o : Obj), u = Value.ref q ∧ h.get? q = some o ∧ o.cls = .type "tuple"
  | [], _ => ⟨[], PySem.W.KatTups.nil, rfl, fun _ m => nomatch m⟩
  | v :: vs, x => by
    obtain ⟨fs, k, hl, hi⟩ := ent_firsts vs fun u m => x u (List.mem_cons_of_mem _ m)
    obtain ⟨t, q, _, _, _, ev, ⟨o, a1, a2, n, a3⟩, ⟨o', b1, b2, _⟩⟩ := x v List.mem_cons_self
    subst ev
    refine ⟨.ref q :: fs, PySem.W.KatTups.cons a1 a2 a3 rfl k, by rw [List.length_cons, List.length_cons, hl], fun u m => ?_⟩
    rcases List.mem_cons.mp m with z | z
    · exact ⟨q, o', z, b1, b2⟩
    · exact hi u z
theorem lt_pair {l b : Addr} {x y x' y' : Int} {t1 t2 t3 t4 : Tok} {Q : Value → Shared → Prop} (hl : IsTup s.heap l #[.int x t1, .int y t2]) (hb : IsTup s.heap b #[.int x' t3, .int y' t4]) (hu : A.units < cLine)
    (h : Q (.bool (SrtO.lexB (x, y) (x', y'))) s) : wpAny (model prog w) A (compareOp .Lt (.ref l) (.ref b)) Q E s := by
  obtain ⟨⟨cls, dd, data, sl⟩, a1, a2, n, a3⟩ := id hl
  obtain ⟨⟨cls', dd', data', sl'⟩, b1, b2, n', b3⟩ := id hb
  simp only at a2 a3 b2 b3
  subst a2 a3 b2 b3
  have e : HT.lexLt [x, y] [x', y'] = SrtO.lexB (x, y) (x', y') := by
    show (if x = x' then (if y = y' then false else decide (y < y')) else decide (x < x')) = (if x = x' then decide (y < y') else decide (x < x'))
    by_cases c : x = x'
    · rw [if_pos c, if_pos c]
      by_cases c' : y = y'
      · rw [if_pos c', c']
        exact (decide_eq_false (Int.lt_irrefl _)).symm
      · rw [if_neg c']
    · rw [if_neg c, if_neg c]
  rw [← e] at h
  exact richCompare_meets_room (op := .Lt) ⟨_, a1, rfl⟩ ⟨_, b1, rfl⟩ PySem.F.slot_tuple_lt PySem.F.entry_tuple_lt (PySem.F.args_tuple_lt_2 _ _) (HT.tuple_lt_ints l b _ _ n n' dd dd' sl sl' [x, y] [x', y'] (.cons x t1 (.cons y t2 .nil)) (.cons x' t3 (.cons y' t4 .nil)))
    ⟨a1, b1, show Value.bool (HT.lexLt [x, y] [x', y']) ≠ Value.notImplemented ∧ Q (.bool (HT.lexLt [x, y] [x', y'])) s from ⟨(fun z => nomatch z), h⟩⟩ hu
/-- the sort's question -/
theorem ent_sortable {a : Addr} {vs : List Value} {f : Value → Ent} (hu : A.units < cLine) (h0 : 0 < vs.length) (x : ∀ v ∈ vs, EntIn s.heap v (f v)) (one : ∀ v ∈ vs, ∀ u ∈ vs, (f v).1 = (f u).1 → f v = f u) (ha : ∀ o, s.heap.get? a = some o → o.cls ≠ .type "tuple") :
    SrtO.SortableO prog w A s a vs fun v u => SrtO.lexB (f v).1 (f u).1 := by
  intro h' keep
  have x' : ∀ v ∈ vs, EntIn h' v (f v) := fun v m => (x v m).keeps fun b o e c => keep b o (fun z => by subst z; exact ha o e c) e
  obtain ⟨fs, k, hl, hi⟩ := ent_firsts vs x'
  refine ⟨tuples' false, fun Q E' hq => ?_, ?_⟩
  · refine PySem.W.kat_kind (T := Value.type "tuple") k (by omega) (fun u m => ?_) rfl ?_
    · obtain ⟨q, o, rfl, ho, hc⟩ := hi u m
      have z : PySem.W.Looks (model prog w) h' (typeOf (.ref q)) o.cls := (PySem.W.Looks.ld ho).andThen .now
      rw [hc] at z
      exact z
    · have hb : (Value.type "tuple" != Value.type "tuple") = false := by first | rfl | decide | simp
      rw [hb]
      exact hq
  · intro p q mp mq
    have h1 := x' _ mp
    have h2 := x' _ mq
    have h3 := one _ mp _ mq
    show wpAny (model prog w) A (keyLt' (tuples' false) p.1 q.1) (fun r s' => s' = { s with heap := h' } ∧ r = SrtO.lexB (f p.1).1 (f q.1).1) (fun _ _ => False) { s with heap := h' }
    generalize f p.1 = e at h1 h3 ⊢
    generalize f q.1 = e' at h2 h3 ⊢
    obtain ⟨t, kq, k, k1, k2, ev, ⟨o, a1, a2, n, a3⟩, g1⟩ := h1
    obtain ⟨t', kq', k', k1', k2', ev', ⟨o', b1, b2, n', b3⟩, g2⟩ := h2
    rw [ev, ev']
    refine PySem.W.kat_lt a1 a3 b1 b3 ?_
    show PySem.W.KatLex prog w A false false _ [(Value.ref kq, Value.ref kq'), (Value.int e.2 k, Value.int e'.2 k')] 0 { s with heap := h' }
    have t1 : IsTupleKey (L2.mixKind prog w) h' [Sum.inl e.1.1, Sum.inl e.1.2] kq := by
      obtain ⟨ok, c1, c2, nk, c3⟩ := g1
      exact ⟨ok, _, nk, c1, c2, c3, .cons (L2.mixKind_int prog w _ _) (.cons (L2.mixKind_int prog w _ _) .nil)⟩
    have t2 : IsTupleKey (L2.mixKind prog w) h' [Sum.inl e'.1.1, Sum.inl e'.1.2] kq' := by
      obtain ⟨ok, c1, c2, nk, c3⟩ := g2
      exact ⟨ok, _, nk, c1, c2, c3, .cons (L2.mixKind_int prog w _ _) (.cons (L2.mixKind_int prog w _ _) .nil)⟩
    by_cases c : e.1 = e'.1
    · have ee := h3 c
      subst ee
      have irr : SrtO.lexB e.1 e.1 = false := SrtO.lexB_no.mpr (by omega)
      rw [irr]
      refine PySem.W.kat_cons (wpAny_eqBool_tuple hu t1 t2 ?_)
      refine PySem.W.kat_go (fun _ => ?_) (fun e0 => absurd rfl (of_decide_eq_false e0))
      refine PySem.W.kat_yes (PySem.W.kat_cons (SeqAt.EqAt.int_int e.2 k e.2 k' prog w _ _ ?_))
      refine PySem.W.kat_go (fun _ => ?_) (fun e0 => absurd e0 (by simp))
      exact PySem.W.kat_yes (PySem.W.kat_nil ⟨rfl, rfl⟩)
    · refine PySem.W.kat_cons (wpAny_eqBool_tuple hu t1 t2 ?_)
      refine PySem.W.kat_go (fun e0 => ?_) (fun _ => ?_)
      · refine absurd ?_ c
        have z0 := of_decide_eq_true e0
        injection z0 with z1 z2
        injection z2 with z2 _
        injection z1 with z1
        injection z2 with z2
        exact Prod.ext z1 z2
      · exact PySem.W.kat_no (PySem.W.kat_one _ _ (lt_pair g1 g2 hu ⟨rfl, rfl⟩))
end
end Bs

namespace Bs
open PySem PySem.Spec PyProof.Rows L2
open Evl (Ex)
theorem kt_keys {H : Hp} : ∀ {kvs : List (List L2.Key × V)} {xs : List (List L2.Key × Addr × Value)}, KT H kvs xs → kvs.map (·.1) = xs.map (·.1)
  | _, _, .nil => rfl
  | _, _, .cons h t => by
    rw [List.map_cons, List.map_cons, kt_keys t, h.1]
def entOf (as : List Addr) (es : List Ent) : Value → Ent
  | .ref t => ((as.zip es).lookup t).getD ((0, 0), 0)
  | _ => ((0, 0), 0)
theorem entOf_at : ∀ {as : List Addr} {es : List Ent} {j : Nat} {t : Addr} {e : Ent}, as.Nodup → as[j]? = some t → es[j]? = some e → entOf as es (.ref t) = e
  | [], _, _, _, _, _, h, _ => by simp at h
  | _ :: _, [], _, _, _, _, _, h => by simp at h
  | a :: as, e0 :: es, 0, t, e, _, h1, h2 => by
    have x1 : a = t := Option.some.inj h1
    have x2 : e0 = e := Option.some.inj h2
    subst x1 x2
    show (((a, e0) :: as.zip es).lookup a).getD _ = _
    rw [List.lookup_cons_self]
    rfl
  | a :: as, e0 :: es, j + 1, t, e, nd, h1, h2 => by
    have ih := entOf_at (as := as) (es := es) (j := j) (t := t) (e := e) (List.nodup_cons.mp nd).2 h1 h2
    have ne : ¬ t = a := fun z => (List.nodup_cons.mp nd).1 (by rw [← z]; exact List.mem_of_getElem? (show as[j]? = some t from h1))
    show (((a, e0) :: as.zip es).lookup t).getD _ = _
    rw [List.lookup_cons, show (t == a) = false from by simpa using ne]
    exact ih
theorem ent_one {es : List Ent} (nd : (es.map fun e => kP e.1).Nodup) {i j : Nat} {e f : Ent} (hi : es[i]? = some e) (hj : es[j]? = some f) (k : e.1 = f.1) : e = f := by
  have p := List.pairwise_iff_getElem.mp nd
  obtain ⟨i1, i2⟩ := List.getElem?_eq_some_iff.mp hi
  obtain ⟨j1, j2⟩ := List.getElem?_eq_some_iff.mp hj
  subst i2 j2
  rcases Nat.lt_trichotomy i j with c | c | c
  · have := p i j (by simpa using i1) (by simpa using j1) c
    rw [List.getElem_map, List.getElem_map, k] at this
    exact absurd rfl this
  · subst c
    rfl
  · have := p j i (by simpa using j1) (by simpa using i1) c
    rw [List.getElem_map, List.getElem_map, k] at this
    exact absurd rfl this
/-- refs to data, by their places -/
theorem tds_of {H : Hp} {β : Type} {D : β → PyData} : ∀ {ts : List Addr} {es : List β}, ts.length = es.length → (∀ (j : Nat) (t : Addr) (e : β), ts[j]? = some t → es[j]? = some e → TD H (.ref t) (D e)) → TDs H (ts.map V.ref) (es.map D)
  | [], [], _, _ => .nil
  | [], _ :: _, h, _ => nomatch h
  | _ :: _, [], h, _ => nomatch h
  | t :: ts, e :: es, h, r => .cons (r 0 t e rfl rfl) (tds_of (Nat.succ.inj h) fun j u f h1 h2 => r (j + 1) u f h1 h2)
def rSortItP : List V → Hp → VK → Prop := fun vs H Q => ∃ (p d : Addr) (es : List Ent), vs = [.ref p] ∧ H p = some (DX.itemsO p d) ∧ H d = some (.dT (es.map entP)) ∧
  ∀ (H' : Hp) (l : Addr) (ts : List Addr) (es' : List Ent), es'.Perm es → es'.Pairwise (fun e f => SrtO.lexB f.1 e.1 = false) → Ex H H' → H l = none → H' l = some (.lst (ts.map V.ref)) → TDs H' (ts.map V.ref) (es'.map itemD) → Q (.ref l) H'
theorem cr_sortItP {X : Cx} (hc : X.calm = true) (hu : X.A.units + 64 < cLine) : CallR X (.builtin "sorted") rSortItP := by
  intro pins s σ H vs us Q I r h
  obtain ⟨p, d, es, rfl, hp, hd, q⟩ := h
  rw [Vals.ref1 r]
  have view : s.heap.IsItemsView p d := (show ObjOk X.prog X.w H s.heap p (DX.itemsO p d) from I.hok p _ hp).1
  obtain ⟨z, ns, xs, rel, o, ents, ep, ho, hx, hdat, hes, his, nd0⟩ := dt_of I.hok hd
  have l1 : (es.map entP).length = xs.length := Paired.length rel
  rw [List.length_map] at l1 z
  have l2 : ents.size = xs.length := size_of_entries hes
  have ndk : (es.map fun e => kP e.1).Nodup := by
    rw [← kt_keys rel, List.map_map] at nd0
    exact nd0
  refine DT.sortedI (es := ents) (ep := ep) (I.ok.hd hc) view ⟨o, ho, hx, hdat⟩ (by omega) fun h' tk as hk hlt hl G => ?_
  have la : as.length = es.length := by omega
  have nd : as.Nodup := List.Pairwise.imp (fun c => Nat.ne_of_lt c) G.rise
  have made : ∀ (j : Nat) (t : Addr), as[j]? = some t → _ := fun j t ht => made_at (X := X) rel hes G ht
  have hob : (h'.push { cls := .type "list", data := .seq (as.map Value.ref).toArray }).get? h'.objs.size = some (seqObj "list" (as.map Value.ref).toArray 0) := Heap.get?_push_size _ rfl
  generalize hh2 : h'.push { cls := .type "list", data := .seq (as.map Value.ref).toArray } = h2 at hob ⊢
  have up2 : ∀ b o, h'.get? b = some o → h2.get? b = some o := fun b o e => by rw [← hh2]; exact Heap.get?_push_of_some _ e
  have off : ∀ b o, h'.get? b = some o → b ≠ h'.objs.size := fun b o e => Nat.ne_of_lt (Heap.lt_size e)
  have ix : ∀ v ∈ as.map Value.ref, ∃ (j : Nat) (t : Addr) (e : Ent), v = .ref t ∧ as[j]? = some t ∧ es[j]? = some e ∧ entOf as es v = e := fun v hv => by
    obtain ⟨t, ht, rfl⟩ := List.mem_map.mp hv
    obtain ⟨j, hj⟩ := List.mem_iff_getElem?.mp ht
    obtain ⟨e, _, _, he, _⟩ := made j t hj
    exact ⟨j, t, e, rfl, hj, he, entOf_at nd hj he⟩
  have isIn : ∀ v ∈ as.map Value.ref, EntIn h2 v (entOf as es v) := fun v hv => by
    obtain ⟨j, t, e, rfl, hj, he, ev⟩ := ix v hv
    obtain ⟨e', kq, k, he', hkq, got⟩ := made j t hj
    have ee : e' = e := Option.some.inj (he'.symm.trans he)
    subst ee
    obtain ⟨_, its, rv, ot, a1, a2, nt, a3⟩ := (show ObjOk X.prog X.w H s.heap kq (.tup [.int e'.1.1, .int e'.1.2]) from I.hok kq _ hkq)
    obtain ⟨u1, u2, rfl, ri, rj⟩ := vals2 rv
    obtain ⟨t1, rfl⟩ := ri
    obtain ⟨t2, rfl⟩ := rj
    rw [ev]
    exact ⟨t, kq, k, t1, t2, rfl, ⟨_, up2 _ _ got, rfl, 0, rfl⟩, ⟨ot, up2 _ _ (hk _ _ a1), a2, nt, a3⟩⟩
  refine wpAny_call_entry PyProof.Rows.slot_list_sort ⟨_, hob, rfl⟩ PyProof.Rows.entry_list_sort
    (SrtO.list_sort_ord (s := { s with heap := h2, toks := tk }) (ltv := fun v u => SrtO.lexB (entOf as es v).1 (entOf as es u).1) (SrtO.swo_lex fun v => (entOf as es v).1) hob (by rw [List.length_map]; omega)
      (fun n2 => ent_sortable (by show X.A.units + 1 + 1 < cLine; omega) (by omega) isIn (fun v hv u hu' k => ?_) fun o e => ?_) fun out g1 g2 => ⟨.none, rfl, ?_⟩) (PyProof.Rows.args_list_sort _)
  · obtain ⟨i, t, e, _, hi, he, ev⟩ := ix v hv
    obtain ⟨j, t', f, _, hj, hf, eu⟩ := ix u hu'
    rw [ev, eu] at k ⊢
    exact ent_one ndk he hf k
  · have e' : some o = some (seqObj "list" (as.map Value.ref).toArray 0) := e.symm.trans hob
    cases e'
    intro c
    exact absurd (Value.type.inj c) (by decide)
  · show EP X pins σ Q (.ref h'.objs.size) { s with heap := sortedHeap h2 h'.objs.size (as.map Value.ref) out.toArray, toks := tk }
    obtain ⟨zs, pz, ez⟩ := perm_lift (fun z : Addr × Ent => Value.ref z.1) g2.perm (as.zip es) (by
      rw [show (fun z : Addr × Ent => Value.ref z.1) = Value.ref ∘ Prod.fst from rfl, ← List.map_map, List.map_fst_zip (by omega)])
    have idx : ∀ z ∈ zs, ∃ j : Nat, as[j]? = some z.1 ∧ es[j]? = some z.2 := fun z hz => by
      obtain ⟨j, hj⟩ := List.mem_iff_getElem?.mp (pz.mem_iff.mp hz)
      exact ⟨j, List.getElem?_zip_eq_some.mp hj⟩
    have hout : out = (zs.map (·.1)).map Value.ref := by
      rw [← ez, List.map_map]
      rfl
    have pm : (zs.map (·.2)).Perm es := by
      have e := pz.map (·.2)
      rw [List.map_snd_zip (by omega)] at e
      exact e
    have srt : (zs.map (·.2)).Pairwise (fun e f => SrtO.lexB f.1 e.1 = false) := by
      have g3 : out.Pairwise (fun v u => SrtO.lexB (entOf as es u).1 (entOf as es v).1 = false) := g1
      rw [← ez, List.pairwise_map] at g3
      rw [List.pairwise_map]
      refine List.Pairwise.imp_of_mem (fun {x y} hx hy c => ?_) g3
      obtain ⟨j, j1, j2⟩ := idx x hx
      obtain ⟨i, i1, i2⟩ := idx y hy
      rw [entOf_at nd j1 j2, entOf_at nd i1 i2] at c
      exact c
    have kF : ∀ b o, b ≠ h'.objs.size → h2.get? b = some o → (sortedHeap h2 h'.objs.size (as.map Value.ref) out.toArray).get? b = some o := fun b o hb e => (PyProof.Rows.sortedHeap_old hb (Heap.lt_size e)).trans e
    obtain ⟨c, hL⟩ := PyProof.Rows.sortedHeap_at (vs := as.map Value.ref) (out := out.toArray) hob
    obtain ⟨H', J, ex, free, hl', tds⟩ := items_track (hF := sortedHeap h2 h'.objs.size (as.map Value.ref) out.toArray) (tk := tk) (l := h'.objs.size) (c := c) (zs := zs.map (·.1)) I (fun b o e => kF b o (off _ _ (hk b o e)) (up2 _ _ (hk b o e))) (Nat.le_of_lt hlt)
      (fun m => Nat.lt_irrefl _ (G.there m)) nd (fun t m => Nat.le_of_lt (G.above t m)) (fun j t hj => by
        obtain ⟨e, kq, k, he, hkq, got⟩ := made j t hj
        exact ⟨e, kq, k, he, hkq, kF _ _ (off _ _ got) (up2 _ _ got)⟩) (by
        have := pm.length_eq
        rw [List.length_map] at this ⊢
        omega) (by rw [← hout]; exact hL)
    refine ⟨.ref h'.objs.size, H', J, rfl, q H' h'.objs.size (zs.map (·.1)) (zs.map (·.2)) pm srt ex free hl' (tds_of (by rw [List.length_map, List.length_map]) fun j t e h1 h2 => ?_)⟩
    rw [List.getElem?_map] at h1 h2
    cases hz : zs[j]? with
    | none =>
      rw [hz] at h1
      cases h1
    | some z =>
      rw [hz] at h1 h2
      have x1 : z.1 = t := Option.some.inj h1
      have x2 : z.2 = e := Option.some.inj h2
      subst x1 x2
      obtain ⟨i, i1, i2⟩ := idx z (List.mem_of_getElem? hz)
      exact tds i _ _ i1 i2
end Bs

namespace Bs
open PySem PySem.Spec PyProof.Rows L2
open Evl (Ex)
/-! ### list(d.items()), keys pairs of ints -/
section
open PySem.W PySem.Calls
variable {prog : Program} {w : World} {A : Around} {E : Value → Shared → Prop} {s : Shared} {r d : Addr} {es : Array DictEntry} {ep : Nat}
theorem list_view {Q : Value → Shared → Prop} (calm : A.handled = none) (view : s.heap.IsItemsView r d) (raw : DT.Raw s.heap d es ep) (fits : es.size ≤ sizeLine)
    (next : ∀ h' tk acc c as, (∀ b o, s.heap.get? b = some o → h'.get? b = some o) → h'.get? s.heap.objs.size = some { cls := .type "list", dict := none, data := .seq acc c, slots := #[] } → as.length = es.size → DT.Made es s.heap.objs.size h' as →
      acc.toList = as.map Value.ref → Q (.ref s.heap.objs.size) { s with heap := h', toks := tk }) : wpAny (model prog w) A (call (.type "list") [.ref r]) Q E s := by
  refine callType_codes (Q₁ := fun obj s₁ => obj = .ref s.heap.objs.size ∧ s₁ = { s with heap := s.heap.push { cls := .type "list", data := .seq #[] } }) PySem.F.called_list (PySem.F.typeCall_list_1 _) PySem.F.entry_list_init (code_list_new _ ⟨rfl, rfl⟩) fun obj s₁ two => ?_
  obtain ⟨e1, e2⟩ := two
  subst e1 e2
  have at_ : (s.heap.push { cls := .type "list", data := .seq #[] }).get? s.heap.objs.size = some { cls := .type "list", data := .seq #[] } := Heap.get?_push_size _ rfl
  obtain ⟨ov, hv, rv⟩ := view
  have lr : r < s.heap.objs.size := Heap.lt_size hv
  have ld := raw.lt
  refine ⟨⟨_, at_, rfl⟩, PySem.F.args_list_init_2 _ _, ?_⟩
  show wpAny (model prog w) A.in1.in1 (do let old ← Builtin.List.listItems (.ref s.heap.objs.size); Builtin.List.listUpdate (.ref s.heap.objs.size) (fun _ => #[]); letGo old.toList.reverse; Builtin.List.listExtendWith (.ref s.heap.objs.size) (.ref r) .none) _ _ _
  refine wpAny_bind ?_
  unfold Builtin.List.listItems
  refine wpAny_bind (wpAny_seqItems at_ rfl (wpAny_pure ?_))
  show wpAny _ _ (updateSeq s.heap.objs.size (fun _ => #[]) >>= fun _ => letGo (#[] : Array Value).toList.reverse >>= fun _ => Builtin.List.listExtendWith (.ref s.heap.objs.size) (.ref r) .none) _ _ _
  refine wpAny_bind (wpAny_updateSeq at_ rfl ?_)
  have at2 := Heap.get?_update_self (Obj.mapSeq (fun _ => (#[] : Array Value))) at_ rfl
  obtain ⟨c0, at3⟩ : ∃ c0, ((s.heap.push { cls := .type "list", data := .seq #[] }).update s.heap.objs.size (Obj.mapSeq (fun _ => (#[] : Array Value)))).get? s.heap.objs.size = some { cls := .type "list", data := .seq #[] c0 } := ⟨_, at2⟩
  have other : ∀ b o, b ≠ s.heap.objs.size → (s.heap.push { cls := .type "list", data := .seq #[] }).get? b = some o → ((s.heap.push { cls := .type "list", data := .seq #[] }).update s.heap.objs.size (Obj.mapSeq (fun _ => (#[] : Array Value)))).get? b = some o :=
    fun b o hb e => (Heap.get?_update_other _ _ (Ne.symm hb)).trans e
  have low : ∀ b o, s.heap.get? b = some o → ((s.heap.push { cls := .type "list", data := .seq #[] }).update s.heap.objs.size (Obj.mapSeq (fun _ => (#[] : Array Value)))).get? b = some o :=
    fun b o e => other b o (Nat.ne_of_lt (Heap.lt_size e)) (Heap.get?_push_of_some _ e)
  refine wpAny_bind (wpAny_letGo ?_)
  refine DT.extI (s := { s with heap := (s.heap.push { cls := .type "list", data := .seq #[] }).update s.heap.objs.size (Obj.mapSeq (fun _ => (#[] : Array Value))) }) (A := A.in1) (es := es) (ep := ep) (show A.in1.handled = none from calm) ⟨ov, low _ _ hv, rv⟩ (raw.at' fun o e => low d o e) s.heap.objs.size (Nat.ne_of_gt lr) (Nat.ne_of_lt ld) (.none) c0 at3 (fun h' tk acc c as up got len made eq => ?_) fits
  exact ⟨rfl, next h' tk acc c as (fun b o e => up b o (Nat.ne_of_lt (Heap.lt_size e)) (low b o e)) got len (made.low (Nat.le_of_lt (Heap.lt_size at2))) eq⟩
end
def rListItP : List V → Hp → VK → Prop := fun vs H Q => ∃ (p d : Addr) (es : List Ent), vs = [.ref p] ∧ H p = some (DX.itemsO p d) ∧ H d = some (.dT (es.map entP)) ∧
  ∀ (H' : Hp) (l : Addr) (ts : List Addr), Ex H H' → H l = none → H' l = some (.lst (ts.map V.ref)) → TDs H' (ts.map V.ref) (es.map itemD) → Q (.ref l) H'
theorem cr_listItP {X : Cx} (hc : X.calm = true) : CallR X (.type "list") rListItP := by
  intro pins s σ H vs us Q I r h
  obtain ⟨p, d, es, rfl, hp, hd, q⟩ := h
  rw [Vals.ref1 r]
  have view : s.heap.IsItemsView p d := (show ObjOk X.prog X.w H s.heap p (DX.itemsO p d) from I.hok p _ hp).1
  obtain ⟨z, ns, xs, rel, o, ents, ep, ho, hx, hdat, hes, his, nd0⟩ := dt_of I.hok hd
  have l1 : (es.map entP).length = xs.length := Paired.length rel
  rw [List.length_map] at l1 z
  have l2 : ents.size = xs.length := size_of_entries hes
  refine list_view (es := ents) (ep := ep) (I.ok.hd hc) view ⟨o, ho, hx, hdat⟩ (by omega) fun h' tk acc c as hk hL hl G ea => ?_
  have nd : as.Nodup := List.Pairwise.imp (fun c => Nat.ne_of_lt c) G.rise
  obtain ⟨H', J, ex, free, hl', tds⟩ := items_track (hF := h') (tk := tk) (l := s.heap.objs.size) (c := c) (zs := as) I hk (Nat.le_refl _) (fun m => Nat.lt_irrefl _ (G.above _ m)) nd (fun t m => Nat.le_of_lt (G.above t m))
    (fun j t hj => made_at (X := X) rel hes G hj) (by omega) (by
      have : acc = (as.map Value.ref).toArray := by rw [← ea, Array.toArray_toList]
      rw [hL, this])
  exact ⟨.ref _, H', J, rfl, q H' _ as ex free hl' (tds_of (by omega) tds)⟩
/-! ### d.clear() -/
def rClearT : V → List V → Hp → VK → Prop := fun x xs H Q => ∃ (d : Addr) (kvs : List (List L2.Key × V)), x = .ref d ∧ xs = [] ∧ H d = some (.dT kvs) ∧ Q .non (upd H d (.dT []))
theorem mt_clearT {X : Cx} : MtR X "dict.clear" rClearT := by
  intro pins s σ H x xs v us Q I rx rxs h
  obtain ⟨d, kvs, rfl, rfl, hd, q⟩ := h
  cases rx
  cases rxs
  obtain ⟨z, ns, ents, rel, o, es, ep, ho, hx, hdat, hes, his, nd⟩ := dt_of I.hok hd
  have l1 := Paired.length rel
  have l2 : es.size = ents.length := size_of_entries hes
  refine call_meetsIn PySem.F.slot_dict_clear ⟨o, ho, hx.1⟩ PySem.F.entry_dict_clear (PySem.F.args_dict_clear_1 _) (PySem.meets_dict_clear_raw d) ⟨es, ep, ⟨o, ho, hx, hdat⟩, by omega, fun h2 raw same => ?_⟩
  obtain ⟨o2, ho2, hx2, hdat2⟩ := raw
  exact ⟨.non, _, d_write (t' := s.toks) (ob := .dT []) I (by rw [hd]; trivial) same ⟨o2, ho2⟩ ⟨Nat.zero_le _, ns, [], .nil, o2, #[], ep + 1, ho2, hx2, hdat2, rfl, List.nodup_nil⟩, rfl, q⟩
end Bs

namespace Bs
open PySem PySem.Spec PyProof.Rows L2
open Evl (Ex)
/-! ### for .., .. in d.items(), keys pairs of ints, d locked -/
def Itp (d : Addr) (o : Obj) (es : List Ent) : It :=
  { go := fun i H => H d = some (.frz o (.dT (es.map entP))) ∧ i < es.length
    yld := fun i H x H' => ∃ (a : Addr) (e : Ent) (q : Addr), es[i]? = some e ∧ x = .ref a ∧ H a = none ∧ H q = some (.tup [.int e.1.1, .int e.1.2]) ∧ H' = upd H a (.tup [.ref q, .int e.2])
    stop := fun i H => H d = some (.frz o (.dT (es.map entP))) ∧ es.length ≤ i }
section
variable {X : Cx} {pins : List (Addr × Obj)} {σ : L2.St} {H : Hp} {s : Shared} {d : Addr} {o : Obj} {es : List Ent}
theorem frz_items (I : L2.Inv X pins σ H s) (h : H d = some (.frz o (.dT (es.map entP)))) :
    (d == sysModules) = false ∧ ∃ (ents : Array DictEntry) (ep : Nat), DT.Raw s.heap d ents ep ∧ o.data = .dict ents ep ∧ ents.size = es.length ∧ ents.size ≤ sizeLine ∧
      ∀ (i : Nat) (e : Ent), es[i]? = some e → ∃ (en : DictEntry) (q : Addr) (k : Tok), ents[i]? = some en ∧ en.key = .ref q ∧ en.val = .int e.2 k ∧ H q = some (.tup [.int e.1.1, .int e.1.2]) := by
  obtain ⟨at_, z, ns, xs, rel, o', ents, ep, ho, hx, hdat, hes, _⟩ := I.hok d _ h
  have oo : o = o' := Option.some.inj (at_.symm.trans ho)
  subst oo
  have l1 : (es.map entP).length = xs.length := Paired.length rel
  rw [List.length_map] at l1 z
  have l2 : ents.size = xs.length := size_of_entries hes
  refine ⟨ns, ents, ep, ⟨o, ho, hx, hdat⟩, hdat, by omega, by omega, fun i e he => ?_⟩
  have lt : i < xs.length := by
    have := (List.getElem?_eq_some_iff.mp he).1
    omega
  have hxi : xs[i]? = some xs[i] := List.getElem?_eq_getElem lt
  obtain ⟨kv, hkv, r1, r2, r3⟩ := pair_at rel hxi
  rw [List.getElem?_map, he] at hkv
  have ek : entP e = kv := Option.some.inj hkv
  subst ek
  obtain ⟨k, hk⟩ := (show ∃ k, xs[i].2.2 = Value.int e.2 k from r3)
  refine ⟨entryOfKey (tupleKind (mixKind X.prog X.w)) xs[i], xs[i].2.1, k, ?_, rfl, hk, r2⟩
  rw [entry_at hes i, hxi]
  rfl
end
theorem turn_itp {P : Program} {w : World} {K : PySem.W.Frag} {d : Addr} {o : Obj} {es : List Ent} {ents : Array DictEntry} {ep : Nat} {elts : List Expr} {kk : Nat} {tpos : Pos} (it : Addr) (dat : o.data = .dict ents ep) :
    Turn P w K (.Tuple elts kk tpos) (Itp d o es) [it] it (fun i h => ∃ ok ov, IsItemIter h it d i ents.size ep ok ov) where
  mem := by simp
  obj := fun i h st b hb => by
    obtain ⟨ok, ov, e⟩ := st
    rw [List.mem_singleton.mp hb]
    exact ⟨_, e, fun v z => nomatch z⟩
  keep := fun i h h' st k => st.elim fun ok z => z.elim fun ov e => ⟨ok, ov, k it (List.mem_singleton.mpr rfl) _ e⟩
  item := by
    intro X hP hw hK hc i pins s σ H E I hf st hg
    subst hP hw hK
    obtain ⟨hd, hi⟩ := hg
    obtain ⟨ns, ents', ep', raw, dat', size, _, ent⟩ := frz_items I hd
    obtain ⟨e1, e2⟩ := dict_ep dat dat'
    subst e1 e2
    obtain ⟨e, he⟩ : ∃ e, es[i]? = some e := ⟨_, List.getElem?_eq_getElem hi⟩
    obtain ⟨en, q, k, hen, hkey, hval, hq⟩ := ent i e he
    obtain ⟨ok, ov, hit⟩ := st
    have lt : it < s.heap.objs.size := Heap.lt_size hit
    have li : i < ents'.size := by omega
    have ei : ents'[i] = en := by
      rw [Array.getElem?_eq_getElem li] at hen
      exact Option.some.inj hen
    refine DT.nextI hit raw li fun h' out at_ sz kept => ?_
    rw [ei, hkey, hval] at at_
    refine ⟨_, rfl, wpAny_letOwnedTupleGo_items (s := { s with heap := h' }) out fun h2 again same => ?_⟩
    have at2 : h2.get? s.heap.objs.size = some { cls := .type "tuple", data := .seq #[Value.ref q, Value.int e.2 k] } := (same.2 _ (Nat.ne_of_gt lt)).trans at_
    have new : ObjOk X.prog X.w (upd H s.heap.objs.size (.tup [.ref q, .int e.2])) h2 s.heap.objs.size (.tup [.ref q, .int e.2]) :=
      ⟨by show 2 ≤ sizeLine; decide, [Value.ref q, Value.int e.2 k], .cons rfl (.cons ⟨k, rfl⟩ .nil), ⟨_, at2, rfl, _, rfl⟩⟩
    have J : L2.Inv X pins σ (upd H s.heap.objs.size (.tup [.ref q, .int e.2])) { s with heap := h2 } :=
      I.turnedNew (t' := s.toks) (ch := [it]) (fun b ob hb e => (same.2 b (by simpa using hb)).trans (kept b ob (by simpa using hb) e)) hf (Nat.le_refl _) new
    refine ⟨.ref s.heap.objs.size, _, J, rfl, ⟨_, e, q, he, rfl, I.hok.fresh (Nat.le_refl _), hq, rfl⟩, ⟨_, _, again⟩, fun b hb => ?_⟩
    rw [List.mem_singleton.mp hb, upd_ne (Nat.ne_of_lt lt)]
    exact (hf it (List.mem_singleton.mpr rfl)).1
  done := by
    intro X hP hw hK hc i pins s σ H E I hf st hg
    subst hP hw hK
    obtain ⟨hd, hi⟩ := hg
    obtain ⟨f0, f1, f2, f3, f4, f5⟩ := hf it (List.mem_singleton.mpr rfl)
    obtain ⟨ns, ents', ep', raw, dat', size, _, ent⟩ := frz_items I hd
    obtain ⟨e1, e2⟩ := dict_ep dat dat'
    subst e1 e2
    obtain ⟨ok, ov, hit⟩ := st
    exact DT.endI (I.ok.hd hc) hit raw (by omega) fun h' eb => ⟨rfl, I.turned (t' := s.toks) (fun b ob hb e => eb b ob hb e) f0 f1 f3 f4 f5⟩
  self := fun A i s Q E st h => st.elim fun _ z => z.elim fun _ e => PySem.W.kcp_self e h
def iItp (td : TE) : TI := fun σ H R => td σ H fun x H1 => ∃ d o es, x = .ref d ∧ H1 d = some (.frz o (.dT (es.map entP))) ∧ R (Itp d o es) H1
theorem pi_itp {X : Cx} {e : Expr} {td : TE} {apos cpos : Pos} {elts : List Expr} {kk : Nat} {tpos : Pos} (he : PE X e td) (hbase : attributeBase e "items" X.env (eval e X.env) = eval e X.env := by rfl) (hline : (apos.endLine == cpos.line) = true := by rfl) :
    PI X (.Tuple elts kk tpos) (.Call (.Attribute e "items" apos) [] [] cpos) (iItp td) := by
  refine ⟨fun pins s σ H R I h => ?_⟩
  refine wpAny_Call_method (T := "dict") (id := "dict.items") hbase rfl hline F.plainAttrs_dict F.slot_dict_items F.type_dict_items (thn (he.run pins s σ H _ I h) fun u s1 ⟨x, H1, J, rx, d, o, es, ex, hd, q⟩ => ?_)
  subst ex
  obtain rfl : u = Value.ref d := rx
  obtain ⟨ns, ents, ep, raw, dat, size, fits, ent⟩ := frz_items J hd
  obtain ⟨o', ho, hx, _⟩ := id raw
  refine ⟨⟨o', ho, hx.1⟩, (fun b z => by
    cases z
    exact ⟨o', ho, hx.2.1⟩), ?_⟩
  have J2 : L2.Inv X pins σ H1 { s1 with heap := s1.heap.push { cls := .type "dict_items", data := .fields #[.ref d] } } := J.kept (t' := s1.toks) fun b ob q => Heap.get?_push_of_some _ q
  have fin : wpAny (model X.prog X.w) X.A (pyIter (.ref s1.heap.objs.size)) (PIE X pins σ (.Tuple elts kk tpos) R) X.xe { s1 with heap := s1.heap.push { cls := .type "dict_items", data := .fields #[.ref d] } } := by
    refine DT.iterI (d := d) ⟨_, Heap.get?_push_size _ rfl, rfl, rfl⟩ (raw.push _) (pi_one (tk := s1.toks) J2 _ (turn_itp _ dat) ⟨.none, .none, Heap.get?_push_size _ rfl⟩ q)
  show wpAny _ _ (callWith cpos (.builtin "dict.items") [.ref d] [] []) _ X.xe s1
  exact method_meetsIn F.slot_dict_items F.entry_dict_items rfl (PySem.evalArgs_none ⟨rfl, ⟨o', ho, hx.1⟩, F.args_dict_items_1 _, _, DT.meetsItems (es := ents) (ep := ep) ns, ⟨raw, fin⟩⟩)
end Bs

namespace Bs
open PySem PySem.Spec PyProof.Rows L2
open Evl (Ex)
/-! ### range(n) as a value, list(range(n)) -/
theorem cr_range1 {X : Cx} : CallR X (.type "range") (fun vs H Q => ∃ n, vs = [V.int n] ∧ ∀ p, H p = none → Q (.ref p) (upd H p (.rng 0 n))) := by
  intro pins s σ H vs us Q I r h
  obtain ⟨n, rfl, q⟩ := h
  obtain ⟨u, rfl, ru⟩ := vals1 r
  obtain ⟨t, rfl⟩ := ru
  exact call_range_1 ⟨.ref s.heap.objs.size, upd H s.heap.objs.size (.rng 0 n), I.laid (t' := s.toks + 1 + 1) (fun b o e => Heap.get?_push_of_some _ e) (Nat.le_refl _) ⟨s.toks, t, s.toks + 1, Heap.get?_push_size _ rfl⟩, rfl, q _ (I.hok.fresh (Nat.le_refl _))⟩
def upTo (n : Nat) : List Int := (List.range n).map fun (k : Nat) => (k : Int)
theorem vals_upTo : ∀ (vs : List Value) (a : Nat), (∀ (i : Nat) (v : Value), vs[i]? = some v → ∃ t, v = .int (a + i : Nat) t) → Vals ((List.range' a vs.length).map fun (k : Nat) => V.int (k : Int)) vs
  | [], _, _ => .nil
  | v :: vs, a, h => by
    rw [List.length_cons, List.range'_succ, List.map_cons]
    refine .cons ?_ (vals_upTo vs (a + 1) fun i u e => ?_)
    · obtain ⟨t, e⟩ := h 0 v rfl
      exact ⟨t, e⟩
    · obtain ⟨t, e'⟩ := h (i + 1) u e
      exact ⟨t, by rw [e', show a + (i + 1) = a + 1 + i from by omega]⟩
theorem cr_listRng {X : Cx} (hc : X.calm = true) : CallR X (.type "list") (fun vs H Q => ∃ (r : Addr) (n : Nat), vs = [.ref r] ∧ H r = some (.rng 0 n) ∧ n ≤ 100000 ∧ ∀ p, H p = none → Q (.ref p) (upd H p (.lst ((upTo n).map V.int)))) := by
  intro pins s σ H vs us Q I r h
  obtain ⟨a, n, rfl, ha, hn, q⟩ := h
  rw [Vals.ref1 r]
  obtain ⟨t, u, v, e⟩ := (show ∃ t u v, s.heap.get? a = some { cls := .type "range", data := .fields #[.int 0 t, .int n u, .int 1 v] } from I.hok a _ ha)
  refine call_list_range (n := n) (t := t) (u := u) (v := v) (I.ok.hd hc) e (small_one (by omega) (by omega) (by omega) (by omega)) (by rw [rangeSize_one]; omega) (by omega) fun h' tk acc c up got it => ?_
  have len : acc.toList.length = n := by rw [Array.length_toList]; exact it.1
  have rv : Vals ((upTo n).map V.int) acc.toList := by
    have := vals_upTo acc.toList 0 fun i v e => by
      obtain ⟨t, e'⟩ := it.2 i v (by rw [← Array.getElem?_toList]; exact e)
      exact ⟨t, by rw [e', Int.mul_one]; simp⟩
    rw [len, ← List.range_eq_range'] at this
    unfold upTo
    rw [List.map_map]
    exact this
  refine ⟨.ref _, _, I.laid (t' := tk) (o := .lst ((upTo n).map V.int)) up (Nat.le_refl _) ⟨?_, acc.toList, c, rv, ?_⟩, rfl, q _ (I.hok.fresh (Nat.le_refl _))⟩
  · unfold upTo
    rw [List.length_map, List.length_map, List.length_range, sizeLine_eq]
    omega
  · rw [Array.toArray_toList]
    exact got
/-! ### t[::-1], t a pair -/
section
variable {prog : Program} {w : World} {A : Around} {E : Value → Shared → Prop} {s : Shared}
theorem getItem_pair_back {t sl : Addr} {x y vl vu vs : Value} {Q : Value → Shared → Prop} (ht : IsTup s.heap t #[x, y]) (hs : s.heap.IsSliceOf sl vl vu vs) (pl : IsPart vl none) (pu : IsPart vu none) (ps : IsPart vs (some (-1)))
    (h : Q (.ref s.heap.objs.size) { s with heap := s.heap.push { cls := .type "tuple", data := .seq #[y, x] } }) : wpAny (model prog w) A (getItem (.ref t) (.ref sl)) Q E s := by
  obtain ⟨os, hos, hcs, hds⟩ := id hs
  have hTs : s.TypeIs (.ref sl) "slice" := ⟨os, hos, hcs⟩
  unfold getItem
  try with_reducible refine wpAny_holding ?_
  first | refine wpAny_bind (wpAny_pure ?_) | skip
  refine wpAny_bind (wpAny_sequenceKey ht.typeIs (by decide) ?_)
  refine wpAny_bind (wpAny_callSpecial?_slot (name := Str.ofString "__getitem__") ht.typeIs PyProof.Rows.slot_tuple_getitem
    (wpAny_call_entry PyProof.Rows.slot_tuple_getitem ht.typeIs entry_tuple_getitem ?_ (args_tuple_getitem _ _)))
  show wpAny _ _ (Builtin.Tuple.tupleItemsOf (.ref t) >>= _) _ _ s
  refine wpAny_bind (tupleItemsOf_ ht ?_)
  refine wpAny_bind (wpAny_typeOf hTs ?_)
  rw [if_pos (by decide)]
  refine wpAny_bind ?_
  unfold Builtin.Slice.sliceApplied Builtin.Slice.sliceFields
  refine wpAny_bind (wpAny_bind (wpAny_field hos hds (x := vl) rfl (wpAny_bind (wpAny_field hos hds (x := vu) rfl (wpAny_bind (wpAny_field hos hds (x := vs) rfl (wpAny_pure ?_)))))))
  refine wpAny_bind (HT.slicePart_ ps ?_)
  show wpAny _ _ (if ((-1 : Int) == 0) = true then _ else _) _ _ s
  rw [if_neg (by decide)]
  refine wpAny_bind (HT.slicePart_ pl (wpAny_bind (HT.slicePart_ pu (wpAny_bind (wpAny_pure ?_)))))
  have adj : Builtin.Slice.sliceAdjust none none (-1) ((#[x, y] : Array Value).size : Int) = (1, -1) := by
    show Builtin.Slice.sliceAdjust none none (-1) 2 = (1, -1)
    decide
  show wpAny _ _ (match Builtin.Slice.sliceAdjust none none (-1) ((#[x, y] : Array Value).size : Int) with | (lo, hi) => pure (lo, (-1 : Int), Builtin.Slice.slicePlaces lo hi (-1))) _ _ s
  rw [adj]
  show wpAny _ _ (pure ((1 : Int), (-1 : Int), Builtin.Slice.slicePlaces 1 (-1) (-1))) _ _ s
  have pl2 : Builtin.Slice.slicePlaces 1 (-1) (-1) = 2 := by decide
  rw [pl2]
  refine wpAny_pure ?_
  show wpAny _ _ (if ((1 : Int) == 0 && (-1 : Int) == 1 && (2 : Nat) == (#[x, y] : Array Value).size) = true then _ else _) _ _ s
  rw [if_neg (by simp)]
  have pick : ((List.range 2).filterMap fun (k : Nat) => (#[x, y] : Array Value)[((1 : Int) + (k : Int) * (-1)).toNat]?).toArray = #[y, x] := rfl
  rw [pick]
  have fits : sizeOk (.seq (#[y, x] : Array Value)) := by
    show (#[y, x] : Array Value).size ≤ sizeLine
    rw [sizeLine_eq]
    show 2 ≤ 16777216
    decide
  first
    | exact wpAny_bind (m := Builtin.Tuple.tupleExact _) (wpAny_newObj_type (wpAny_pure ⟨_, rfl, wpAny_pure h⟩) fits)
    | exact wpAny_bind (m := Builtin.Tuple.tupleExact _) (wpAny_newObj_type (wpAny_bind (wpAny_pure (wpAny_pure ⟨_, rfl, wpAny_pure h⟩))) fits)
    | exact wpAny_bind (wpAny_bind (m := Builtin.Tuple.tupleExact _) (wpAny_newObj_type (wpAny_pure (wpAny_pure ⟨_, rfl, wpAny_pure h⟩)) fits))
    | exact wpAny_bind (wpAny_bind (m := Builtin.Tuple.tupleExact _) (wpAny_newObj_type (wpAny_pure ⟨_, rfl, wpAny_pure h⟩) fits))
end
def tRevP (te : TE) : TE := fun σ H Q => te σ H fun x H1 => ∃ (a : Addr) (u v : V), x = .ref a ∧ H1 a = some (.tup [u, v]) ∧ ∀ p, H1 p = none → Q (.ref p) (upd H1 p (.tup [v, u]))
theorem pe_revP {X : Cx} {e : Expr} {te : TE} {k : Nat} {p1 p2 p3 pos : Pos} (he : PE X e te) : PE X (.Subscript e (.Slice none none (some (.UnaryOp .USub (.Constant (.int 1) k p1) p2)) p3) pos) (tRevP te) := by
  refine ⟨fun pins s σ H Q I h => ?_⟩
  refine Subscript_ (thn (he.run pins s σ H _ I h) fun v s1 ⟨x, H1, I1, r1, a, y1, y2, ex, hx, q⟩ => ?_)
  subst ex
  cases r1
  have step : PO X (some (.UnaryOp .USub (.Constant (.int 1) k p1) p2)) (tPart (tUn (rU fun i => .int (-i)) (tC (.int 1)))) := po_some (pe_un un_neg pe_int)
  refine wpAny_Slice (thn (po_none.run pins s1 σ H1 (fun o H2 => o = none ∧ H2 = H1) I1 ⟨rfl, rfl⟩) fun vl s2 ⟨l, H2, I2, pl, e1, e2⟩ => ?_)
  subst e1 e2
  refine thn (po_none.run pins s2 σ H2 (fun o H3 => o = none ∧ H3 = H2) I2 ⟨rfl, rfl⟩) fun vu s3 ⟨u, H3, I3, pu, e3, e4⟩ => ?_
  subst e3 e4
  refine thn (step.run pins s3 σ H3 (fun o H4 => o = some (-1) ∧ H4 = H3) I3 ⟨1, rfl, -1, rfl, rfl, rfl⟩) fun vs s4 ⟨o, H4, I4, ps, e5, e6⟩ => ?_
  subst e5 e6
  have I5 : L2.Inv X pins σ H4 { s4 with heap := s4.heap.push { cls := .type "slice", data := .fields #[vl, vu, vs] } } := I4.kept (t' := s4.toks) fun b ob q => Heap.get?_push_of_some _ q
  obtain ⟨z, its, rv, at_⟩ := I5.hok a _ hx
  obtain ⟨v1, v2, rfl, rx, ry⟩ := vals2 rv
  have tp : IsTup (s4.heap.push { cls := .type "slice", data := .fields #[vl, vu, vs] }) a #[v1, v2] := at_
  show wpAny (model X.prog X.w) X.A (subscriptTail e (.Slice none none (some (.UnaryOp .USub (.Constant (.int 1) k p1) p2)) p3) (.ref a) (.ref s4.heap.objs.size)) (EP X pins σ Q) X.xe { s4 with heap := s4.heap.push { cls := .type "slice", data := .fields #[vl, vu, vs] } }
  refine tail_any (ops := [.ref a, .ref s4.heap.objs.size]) (show Shared.TypeIs { s4 with heap := s4.heap.push { cls := .type "slice", data := .fields #[vl, vu, vs] } } (.ref a) "tuple" from tp.typeIs) (PyProof.Rows.slot_tuple_getitem.lookup) ?_ (by with_unfolding_all rfl)
  refine getItem_pair_back tp (Heap.IsSliceOf.new _ vl vu vs) pl pu ps ?_
  refine ⟨.ref _, _, I5.laid (t' := s4.toks) (o := .tup [y2, y1]) (fun b ob q => Heap.get?_push_of_some _ q) (Nat.le_refl _) ⟨z, [v2, v1], .cons ry (.cons rx .nil), IsTup.new _ _⟩, rfl, q _ (I5.hok.fresh (Nat.le_refl _))⟩
end Bs

namespace Bs
open PySem PySem.Spec PyProof.Rows L2
open Evl (Ex)
/-! ### a def that is run at one place, of which more is known than of any -/
section
variable {P : Program} {w : World} {K : PySem.W.Frag} {mg : Str → Option Value} {base : Heap}
def RunAt (P : Program) (w : World) (K : PySem.W.Frag) (mg : Str → Option Value) (base : Heap) (A : Around) (f : Addr) (fd : FuncData) (ps : List Str) (sp : Sp) : Prop :=
  ∀ (outer : List Env) (s : Shared) (H : Hp) (args : Args) (us : List Value) (vs : List V) (Q : VK) (E : XK), Env0 P w K mg base A outer s H → BindsTo s fd args (ps.zip us) → Vals vs us → sp vs H Q E →
    codeAny (model P w) A (.call (.ref f) args) (CR CX0 outer P w H s Q E) s
theorem run_at {x qual : Str} {st : Stmt} {f : Addr} {fd : FuncData} {N ps : List Str} {k : Nat} {sp : Sp} {A : Around} (F : Fun K x qual st f fd) (S : FnScope N ps (defScope st)) (len : ∀ vs H Q E, sp vs H Q E → vs.length = ps.length) (room : Room (k + 1) A)
    (body : ∀ (cdv : Value) (outer : List Env) (s : Shared) (H : Hp) (vs : List V) (Q : VK) (E : XK), Room k (A.deeper (envOfC qual (defScope st) s.heap.objs.size f cdv)) → sp vs H Q E →
      ∃ t, PSs (cxOf CX0 P w K mg base N qual (defScope st) f cdv A outer s H E).nox (defBody st) t ∧ t { nx := fun _ H' => Q .non H', rt := Q } (start N vs) H) : RunAt P w K mg base A f fd ps sp := by
  obtain ⟨oc, od, kV, doc, pm, an, cdv, ct, osl, rfl, lk, hcd⟩ := F.ex
  intro outer s H args us vs Q E e0 hb r hsp
  have keep_ : ∀ b o, base.get? b = some o → s.heap.get? b = some o := fun b o e => (e0.bs b o e).1
  have KX : K.In s.heap := e0.mod.kin.keeps keep_
  have kinds : ∀ y ∈ ps.zip us, (defScope st).names.lookup y.1 = some .local ∨ ((defScope st).names.lookup y.1 = some .cell ∧ ((cellsFrom (s.heap.objs.size + 1) (defScope st).names []).lookup y.1).isSome = true) := fun y hy =>
    (S.par y.1 (List.of_mem_zip (a := y.1) (b := y.2) hy).1).imp id fun q => ⟨q, PySem.W.cellsFrom_some _ _ _ (.inl q)⟩
  refine codeAny_call_function room.depth (KX _ _ lk) rfl S.co S.gen rfl (PySem.W.codeRec_of KX hcd) (hb _ _ _ _ (wpAny_newFunctionEnv_cells S.kind kinds fun env he s1 made => ?_))
  subst he
  refine ⟨(e0.mod.nolimit.keeps keep_).keeps made.toInCall.keep, codeAny_func ?_⟩
  obtain ⟨t, ht, hq⟩ := body cdv outer s H vs Q E (room.deeper _) hsp
  have J := inv_start (CX := CX0) (E := E) (cd := cdv) (f := f) (qual := qual) S room.hd e0 (len _ _ _ _ hsp) r made
  refine wpAny_mono (ht.nox.run [] s1 (start N vs) H _ J hq) (fun fl s2 hs => ?_) fun _ _ hs => hs
  cases fl with
  | ret u => exact hs.elim fun v ⟨_, H2, J2, rv, q2⟩ => ⟨v, H2, J2.os, J2.bare, J2.base, J2.hok, rv, q2⟩
  | next => exact hs.elim fun _ ⟨H2, J2, q2⟩ => ⟨V.non, H2, J2.os, J2.bare, J2.base, J2.hok, rfl, q2⟩
  | brk => exact hs.elim fun _ ⟨_, _, q2⟩ => q2.elim
  | cont => exact hs.elim fun _ ⟨_, _, q2⟩ => q2.elim
/-- the law's call, its def run at the caller's place alone -/
theorem law_callG {mb : Str → Option Value} {fa a : Addr} {fd : FuncData} {x : Str} {sp : Sp} {s₁ : Shared} {vs : List Value} {ns : List Int}
    (KX : K.In s₁.heap) (hns : s₁.heap.Ns mainGlobals mg) (hb : s₁.heap.Ns builtinsNs mb) (hbb : ∀ x : Str, x ≠ "__name__" → mb x = bootBuiltins x) (hlim : s₁.heap.NoLimit) (hg : s₁.gens = #[])
    (ha : s₁.heap.get? a = some { cls := .type "list", data := .seq vs.toArray }) (hi : IntsAre vs ns) (hl : ns.length ≤ sizeLine)
    (F : ∀ base : Heap, K.In base → base.Ns mainGlobals mg → RunAt P w K mg base callerA fa fd [x] sp) (hbind : ∀ (s : Shared) (u : Value), BindsTo s fd ⟨[u], []⟩ [(x, u)])
    (hsp : ∀ H : Hp, Only H → SqL K H a (ns.map V.int) → sp [.ref a] H (fun v _ => v = .bl true) fun _ _ _ => False) :
    codeAny (model P w) callerA (.call (.ref fa) ⟨[.ref a], []⟩) (fun r s' => r = .ok (.ret (.bool true)) ∧ OldK s₁.heap s'.heap ∧ s'.os = s₁.os ∧ AllBare s'.gens) s₁ := by
  have rv := vals_ints hi
  have from_ : ∀ H : Hp, Only H → SqL K H a (ns.map V.int) → HOk P w H s₁.heap → (∀ b u, H b = some u → b = a ∧ K.lookup a = none) →
      codeAny (model P w) callerA (.call (.ref fa) ⟨[.ref a], []⟩) (fun r s' => r = .ok (.ret (.bool true)) ∧ OldK s₁.heap s'.heap ∧ s'.os = s₁.os ∧ AllBare s'.gens) s₁ := by
    intro H hO hS hok hA
    have notA : ∀ {b : Addr}, b ≠ a → H b = none := fun {b} n => by
      cases q : H b with
      | none => rfl
      | some u => exact absurd (hA b u q).1 n
    have space : ∀ {b : Addr} {m : Str → Option Value}, s₁.heap.Ns b m → (hidT s₁.heap H).Ns b m := fun {b m} z => by
      obtain ⟨o, es, ep, e, d, r⟩ := z
      refine ⟨o, es, ep, hidT_get e (notA fun eb => ?_), d, r⟩
      subst eb
      rw [ha] at e
      cases e
      exact absurd (show Data.seq vs.toArray _ = Data.dict es ep from d) (by intro z; cases z)
    have written : K.In (hidT s₁.heap H) := fun b o e => hidT_get (KX b o e) (by
      cases q : H b with
      | none => rfl
      | some u =>
        obtain ⟨eb, none_⟩ := hA b u q
        subst eb
        rw [none_] at e
        cases e)
    obtain ⟨mc, l1, l2⟩ := hlim
    have e0 : Env0 P w K mg (hidT s₁.heap H) callerA [] s₁ H :=
      { frames := rfl, mod := ⟨written, space hns, ⟨mb, space hb, hbb⟩, ⟨mc, space l1, l2⟩⟩, bs := fun _ _ e => of_hidT e, bsz := Nat.le_of_eq (hidT_size _ _), funs := trivial, frf := (fun _ z => nomatch (show _ ∈ ([] : List Addr) from z)), hok := hok, bare := .of_eq hg }
    refine codeAny_mono (F _ written (space hns) [] s₁ H ⟨[.ref a], []⟩ [.ref a] [.ref a] _ _ e0 (hbind s₁ (.ref a)) (.cons rfl .nil) (hsp H hO hS)) fun r s' h => ?_
    cases r with
    | error e => exact h.elim
    | ok fl =>
      cases fl with
      | next => exact h.elim
      | brk => exact h.elim
      | cont => exact h.elim
      | ret u =>
        obtain ⟨v, H', os, bare, un, hok', r', q⟩ := h
        have q' : v = .bl true := q
        subst q'
        obtain rfl : u = Value.bool true := r'
        refine ⟨rfl, OldK.of_keep fun b o e => ?_, os, bare⟩
        rcases hO b with z | ⟨ob, xs, z⟩
        · exact un.keep b o e z (fun z => nomatch (show b ∈ ([] : List Addr) from z)) (fun z => nomatch z)
        · have g1 := (hok b _ z).1
          rw [e] at g1
          cases g1
          exact (hok' b _ (un.frzs b _ _ z)).1
  have len_ := hi.length
  cases hk : K.lookup a with
  | some o =>
    have e := KX a o hk
    rw [ha] at e
    cases e
    exact from_ (fun _ => none) (fun _ => .inl rfl) (.inr ⟨_, vs.toArray, _, hk, rfl, rfl, rfl, by rw [List.size_toArray, len_]; exact hl, by simpa using rv⟩) (fun b u z => nomatch (show (none : Option HO) = some u from z)) fun b u z => nomatch (show (none : Option HO) = some u from z)
  | none =>
    have at_ : ∀ b u, (if b = a then some (HO.frz { cls := .type "list", data := .seq vs.toArray } (.lst (ns.map V.int))) else none) = some u → b = a ∧ u = .frz { cls := .type "list", data := .seq vs.toArray } (.lst (ns.map V.int)) := fun b u z => by
      by_cases eb : b = a
      · rw [if_pos eb] at z
        exact ⟨eb, (Option.some.inj z).symm⟩
      · rw [if_neg eb] at z
        cases z
    refine from_ (fun b => if b = a then some (.frz { cls := .type "list", data := .seq vs.toArray } (.lst (ns.map V.int))) else none) (fun b => ?_) (.inl (.inr ⟨{ cls := .type "list", data := .seq vs.toArray }, if_pos rfl⟩)) (fun b u z => ?_) fun b u z => ⟨(at_ b u z).1, hk⟩
    · by_cases eb : b = a
      · exact .inr ⟨_, _, if_pos eb⟩
      · exact .inl (if_neg eb)
    · obtain ⟨eb, eu⟩ := at_ b u z
      subst eb eu
      exact ⟨ha, by rw [List.length_map]; exact hl, vs, _, rv, ha⟩
end
/-- the end of a law row, its def run at the caller's place -/
theorem walk_ofG {l : PySem.W.OpenLaw} {n : Nat} {q : Program} {loose : List Str} {XP : (Str → Option Value) → Heap → Prop} {YP : World → Heap → Prop} {d : DefRec} {K : Params → PySem.W.Frag} {sp : World → Sp} {x : Str}
    (hn : l.most = some n) (hn2 : n ≤ sizeLine) (hdf : d.params.defaults = []) (hY : ∀ (w : World) (h : Heap), YP w h → (K w.params).In h)
    (F : ∀ (w : World) (mg : Str → Option Value) (fa : Addr) (h : Heap), (K w.params).In h → h.Ns mainGlobals mg → mg d.name = some (.ref fa) →
      ∃ fd : FuncData, (∀ (s : Shared) (u : Value), BindsTo s fd ⟨[u], []⟩ [(x, u)]) ∧ ∀ base : Heap, (K w.params).In base → base.Ns mainGlobals mg → RunAt l.prog w (K w.params) mg base callerA fa fd [x] (sp w))
    (hsp : ∀ (w : World) (H : Hp) (a : Addr) (ns : List Int), ns.length ≤ n → Only H → SqL (K w.params) H a (ns.map V.int) → sp w [.ref a] H (fun v _ => v = .bl true) fun _ _ _ => False) :
    PySem.W.WalkO q loose XP YP l.row.toRowW d [] (fun f vs => PySem.call f vs) := by
  refine Att.attach_call hn hdf fun w s₀ s₁ mg mb fa o pm cd doc a vs ns G Y ho hd hcd hmg hobj hints hlen hg => ?_
  have KX := hY w _ Y
  obtain ⟨fd, hb, hF⟩ := F w mg fa _ KX G.T.g hmg
  exact law_callG KX G.T.g G.T.b G.T.builtins G.T.nolimit hg hobj hints (Nat.le_trans hlen hn2) hF hb fun H hO hS => hsp w H a ns hlen hO hS
theorem law_endG {P : Program} {w : World} {K : PySem.W.Frag} {mg : Str → Option Value} {x : Str} {st : Stmt} {sp : Sp} {fa : Addr} (D : Dfn K mg x st ["script"]) (hfa : mg x = some (.ref fa))
    (ok : ∀ (base : Heap) (f : Addr) (fd : FuncData), Fun K x x st f fd → RunAt P w K mg base callerA f fd ["script"] sp) :
    ∃ fd : FuncData, (∀ (s : Shared) (v : Value), BindsTo s fd ⟨[v], []⟩ [("script", v)]) ∧ ∀ base : Heap, K.In base → base.Ns mainGlobals mg → RunAt P w K mg base callerA fa fd ["script"] sp := by
  obtain ⟨f, fd, F, g, b⟩ := D.ex
  have e := hfa.symm.trans g
  cases e
  exact ⟨fd, fun s v => .of_eq (b [v] rfl), fun base _ _ => ok base fa fd F⟩
end Bs

namespace Bs
open PySem PySem.Spec PyProof.Rows L2
open Evl (Ex)
/-! ### books -/
structure Tk where
  name : Str
  len : Int
  mach : Str
  needs : List (Str × Int)
  frm : Int
  due : Option Int
  wt : Int
structure Wt where
  a : Int
  b : Int
  gap : Int
structure Bk where
  machs : List Str
  goods : List (Str × Int)
  tasks : List Tk
  waits : List Wt
  fixed : List (Int × Int)
def goodD (g : Str × Int) : PyData := .tuple [.str g.1, .int g.2]
def dueD : Option Int → PyData
  | some i => .int i
  | none => .none
def dueV : Option Int → V
  | some i => .int i
  | none => .non
def taskD (t : Tk) : PyData := .tuple [.str t.name, .int t.len, .str t.mach, .tuple (t.needs.map goodD), .int t.frm, dueD t.due, .int t.wt]
def waitD (x : Wt) : PyData := .tuple [.int x.a, .int x.b, .int x.gap]
def fixD (x : Int × Int) : PyData := .tuple [.int x.1, .int x.2]
def bookD (b : Bk) : PyData := .tuple [.tuple (b.machs.map .str), .tuple (b.goods.map goodD), .tuple (b.tasks.map taskD), .tuple (b.waits.map waitD), .tuple (b.fixed.map fixD)]
/-- a task's numbers are in their bounds -/
structure TaskOk (t : Tk) : Prop where
  len : 1 ≤ t.len ∧ t.len ≤ 1000
  frm : 0 ≤ t.frm ∧ t.frm ≤ 1000000
  due : ∀ d, t.due = some d → 0 ≤ d ∧ d ≤ 1000000
  wt : 0 ≤ t.wt ∧ t.wt ≤ 1000
structure BookOk (b : Bk) (most : Int) : Prop where
  few : 1 ≤ b.tasks.length ∧ (b.tasks.length : Int) ≤ most
  task : ∀ t ∈ b.tasks, TaskOk t
  waits : b.waits.length ≤ 60
  wait : ∀ x ∈ b.waits, (0 ≤ x.a ∧ x.a < b.tasks.length) ∧ (0 ≤ x.b ∧ x.b < b.tasks.length) ∧ x.a ≠ x.b ∧ 0 ≤ x.gap ∧ x.gap ≤ 1000
  fixeds : b.fixed.length ≤ 30
  fixed : ∀ x ∈ b.fixed, 0 ≤ x.1 ∧ x.1 < b.tasks.length ∧ 0 ≤ x.2 ∧ x.2 ≤ 1000000
/-- the five tuples of a book -/
theorem book_parts {H : Hp} {v : V} {b : Bk} (h : TD H v (bookD b)) : ∃ a m g t w f, v = .ref a ∧ H a = some (.tup [.ref m, .ref g, .ref t, .ref w, .ref f]) ∧
    (∃ xs, H m = some (.tup xs) ∧ RowsAt PyData.str H xs b.machs) ∧ (∃ xs, H g = some (.tup xs) ∧ RowsAt goodD H xs b.goods) ∧ (∃ xs, H t = some (.tup xs) ∧ RowsAt taskD H xs b.tasks) ∧
    (∃ xs, H w = some (.tup xs) ∧ RowsAt waitD H xs b.waits) ∧ (∃ xs, H f = some (.tup xs) ∧ RowsAt fixD H xs b.fixed) := by
  obtain ⟨a, xs, rfl, ha, hs⟩ := h.tupI
  cases hs with
  | cons h1 hs =>
    cases hs with
    | cons h2 hs =>
      cases hs with
      | cons h3 hs =>
        cases hs with
        | cons h4 hs =>
          cases hs with
          | cons h5 hs =>
            cases hs
            obtain ⟨m, x1, rfl, g1, k1⟩ := h1.tupI
            obtain ⟨g, x2, rfl, g2, k2⟩ := h2.tupI
            obtain ⟨t, x3, rfl, g3, k3⟩ := h3.tupI
            obtain ⟨w, x4, rfl, g4, k4⟩ := h4.tupI
            obtain ⟨f, x5, rfl, g5, k5⟩ := h5.tupI
            exact ⟨a, m, g, t, w, f, rfl, ha, ⟨x1, g1, k1⟩, ⟨x2, g2, k2⟩, ⟨x3, g3, k3⟩, ⟨x4, g4, k4⟩, ⟨x5, g5, k5⟩⟩
theorem wait_parts {H : Hp} {v : V} {x : Wt} (h : TD H v (waitD x)) : ∃ p, v = .ref p ∧ H p = some (.tup [.int x.a, .int x.b, .int x.gap]) := by
  obtain ⟨p, xs, rfl, ha, hs⟩ := h.tupI
  cases hs with
  | cons h1 hs =>
    cases hs with
    | cons h2 hs =>
      cases hs with
      | cons h3 hs =>
        cases hs
        rw [h1.intI, h2.intI, h3.intI] at ha
        exact ⟨p, rfl, ha⟩
theorem good_parts {H : Hp} {v : V} {x : Str × Int} (h : TD H v (goodD x)) : ∃ p, v = .ref p ∧ H p = some (.tup [.str x.1, .int x.2]) := by
  obtain ⟨p, xs, rfl, ha, hs⟩ := h.tupI
  cases hs with
  | cons h1 hs =>
    cases hs with
    | cons h2 hs =>
      cases hs
      rw [h1.strI, h2.intI] at ha
      exact ⟨p, rfl, ha⟩
theorem fix_parts {H : Hp} {v : V} {x : Int × Int} (h : TD H v (fixD x)) : ∃ p, v = .ref p ∧ H p = some (.tup [.int x.1, .int x.2]) := by
  obtain ⟨p, xs, rfl, ha, hs⟩ := h.tupI
  cases hs with
  | cons h1 hs =>
    cases hs with
    | cons h2 hs =>
      cases hs
      rw [h1.intI, h2.intI] at ha
      exact ⟨p, rfl, ha⟩
theorem due_parts {H : Hp} {v : V} {o : Option Int} (h : TD H v (dueD o)) : v = dueV o := by
  cases o with
  | none => exact h.noneI
  | some i => exact h.intI
theorem task_parts {H : Hp} {v : V} {t : Tk} (h : TD H v (taskD t)) : ∃ p q xs, v = .ref p ∧ H p = some (.tup [.str t.name, .int t.len, .str t.mach, .ref q, .int t.frm, dueV t.due, .int t.wt]) ∧ H q = some (.tup xs) ∧ RowsAt goodD H xs t.needs := by
  obtain ⟨p, xs, rfl, ha, hs⟩ := h.tupI
  cases hs with
  | cons h1 hs =>
    cases hs with
    | cons h2 hs =>
      cases hs with
      | cons h3 hs =>
        cases hs with
        | cons h4 hs =>
          cases hs with
          | cons h5 hs =>
            cases hs with
            | cons h6 hs =>
              cases hs with
              | cons h7 hs =>
                cases hs
                obtain ⟨q, ys, e4, g4, k4⟩ := h4.tupI
                rw [h1.strI, h2.intI, h3.strI, e4, h5.intI, due_parts h6, h7.intI] at ha
                exact ⟨p, q, ys, rfl, ha, g4, k4⟩
end Bs

namespace Bs
open PySem PySem.Spec PyProof.Rows L2
open Evl (Ex)
section
variable {K : PySem.W.Frag} {w : World} {β : Type} {D' : β → PyData} {a : Addr} {xs : List V} {rows : List β} {g : TG} {tt : TT} {te : TE} {vs : List Nat} {σ : L2.St} {H : Hp}
/-- [row for row in a tuple if ..] -/
theorem lcTD {Qd : Addr → Hp → Prop} (p : β → Bool) (hx : SqT K H a xs) (hr : RowsAt D' H xs rows) (small : rows.length ≤ 10000)
    (turn : ∀ b v H', b ∈ rows → TD H' v (D' b) → Ex H H' → ∀ (R : VK) (R0 : Hp → Prop), (p b = true → ∀ H4, Ex H' H4 → R v H4) → (p b = false → ∀ H4, Ex H' H4 → R0 H4) →
      g v (wipe σ vs) H' fun σ2 H2 => wipe σ2 vs = wipe σ vs ∧ tt σ2 H2 fun c H3 => if c = true then te σ2 H3 R else R0 H3)
    (q : ∀ D H' zs, H D = none → Ex H H' → H' D = some (.lst zs) → RowsAt D' H' zs (rows.filter p) → Qd D H') : ∀ D, H D = none →
    ∃ W : Nat → Nat → Hp → Prop, (∃ m, W 0 m (upd H D (.lst []))) ∧ ∀ i m H, W i m H →
      ((Itt K a).stop i H ∧ Qd D H) ∨ ((Itt K a).go i H ∧ ∃ Nx : Hp → Prop, (∀ H', Nx H' → ∃ m', m' < m ∧ W (i + 1) m' H') ∧ ∀ x H', (Itt K a).yld i H x H' → g x (wipe σ vs) H' fun σ2 H2 => wipe σ2 vs = wipe σ vs ∧ tt σ2 H2 fun b H3 =>
        if b = true then te σ2 H3 fun y H4 => ∃ acc, H4 D = some (.lst acc) ∧ acc.length < sizeLine ∧ Nx (upd H4 D (.lst (acc ++ [y]))) else Nx H3) := fun D hD => by
  refine lc_tup (K := K) (a := a) (xs := xs) (fun i H' => Ex H H' ∧ ∃ zs, H' D = some (.lst zs) ∧ RowsAt D' H' zs ((rows.take i).filter p)) ⟨Ex.new hD, [], upd_same, .nil⟩ (fun i H' _ h => Evl.ex_t h.1 hx) ?_ ?_
  · rintro i x H' ex ⟨e, zs, hl, hz⟩
    obtain ⟨b, hb, ht⟩ := hr.get ex
    refine turn b x _ (List.mem_of_getElem? hb) (TD.tp (Tp.ex e) ht) e _ _ (fun hp H4 e4 => ?_) (fun hp H4 e4 => ?_)
    · have h4 := e4 _ _ hl
      refine ⟨zs, h4, ?_, (e.trans e4).mut hD, zs ++ [x], upd_same, ?_⟩
      · rw [hz.len, sizeLine_eq]
        have h1 := List.length_filter_le p (rows.take i)
        have h2 : (rows.take i).length ≤ rows.length := by rw [List.length_take]; omega
        omega
      · rw [take_snoc hb, List.filter_append, List.filter_cons_of_pos hp]
        have w1 : RowsAt D' H4 (zs ++ [x]) ((rows.take i).filter p ++ [b]) := by
          unfold RowsAt
          rw [List.map_append]
          exact TDs.append (RowsAt.tp (Tp.ex e4) hz) (.cons (TD.tp (Tp.ex (e.trans e4)) ht) .nil)
        exact RowsAt.tp (Tp.upd h4) w1
    · refine ⟨e.trans e4, zs, e4 _ _ hl, ?_⟩
      rw [take_snoc hb, List.filter_append, List.filter_cons_of_neg (by simp [hp])]
      simpa using RowsAt.tp (Tp.ex e4) hz
  · rintro H' ⟨e, zs, hl, hz⟩
    rw [hr.len, List.take_length] at hz
    exact q D H' zs hD e hl hz
/-- [e for k in range(n) if ..] -/
theorem lcR {Qd : Addr → Hp → Prop} {n : Nat} (p : Nat → Bool) (f : Nat → V) (small : n ≤ 10000)
    (turn : ∀ i H', i < n → Ex H H' → ∀ (R : VK) (R0 : Hp → Prop), (p i = true → ∀ H4, Ex H' H4 → R (f i) H4) → (p i = false → ∀ H4, Ex H' H4 → R0 H4) →
      g (.int (0 + i)) (wipe σ vs) H' fun σ2 H2 => wipe σ2 vs = wipe σ vs ∧ tt σ2 H2 fun c H3 => if c = true then te σ2 H3 R else R0 H3)
    (q : ∀ D H', H D = none → Ex H H' → H' D = some (.lst (((List.range n).filter p).map f)) → Qd D H') : ∀ D, H D = none →
    ∃ W : Nat → Nat → Hp → Prop, (∃ m, W 0 m (upd H D (.lst []))) ∧ ∀ i m H, W i m H →
      ((Itr 0 n).stop i H ∧ Qd D H) ∨ ((Itr 0 n).go i H ∧ ∃ Nx : Hp → Prop, (∀ H', Nx H' → ∃ m', m' < m ∧ W (i + 1) m' H') ∧ ∀ x H', (Itr 0 n).yld i H x H' → g x (wipe σ vs) H' fun σ2 H2 => wipe σ2 vs = wipe σ vs ∧ tt σ2 H2 fun b H3 =>
        if b = true then te σ2 H3 fun y H4 => ∃ acc, H4 D = some (.lst acc) ∧ acc.length < sizeLine ∧ Nx (upd H4 D (.lst (acc ++ [y]))) else Nx H3) := fun D hD => by
  refine lc_range (lo := 0) (n := n) (fun i H' => Ex H H' ∧ H' D = some (.lst (((List.range i).filter p).map f))) ⟨Ex.new hD, by rw [upd_same]; rfl⟩ ?_ ?_
  · rintro i H' hi ⟨e, hl⟩
    refine turn i _ hi e _ _ (fun hp H4 e4 => ?_) (fun hp H4 e4 => ?_)
    · refine ⟨_, e4 _ _ hl, ?_, (e.trans e4).mut hD, ?_⟩
      · rw [List.length_map, sizeLine_eq]
        have h1 := List.length_filter_le p (List.range i)
        rw [List.length_range] at h1
        omega
      · rw [upd_same, List.range_succ, List.filter_append, List.map_append, List.filter_cons_of_pos hp]
        rfl
    · refine ⟨e.trans e4, ?_⟩
      rw [e4 _ _ hl, List.range_succ, List.filter_append, List.filter_cons_of_neg (by simp [hp])]
      simp
  · rintro H' ⟨e, hl⟩
    exact q D H' hD e hl
end
/-! ### data of waits, compared -/
theorem shaped_waits (ws : List Wt) : SeqAt.shaped (.list (ws.map waitD)) = true := by
  have h1 : PyData.canLayAll0 (ws.map waitD) = true := by
    induction ws with
    | nil => rfl
    | cons x r ih =>
      show (PyData.canLay0 (waitD x) && PyData.canLayAll0 (r.map waitD)) = true
      rw [ih]
      rfl
  have h2 : PyData.depthAll (ws.map waitD) ≤ 1 := by
    induction ws with
    | nil => exact Nat.zero_le _
    | cons x r ih =>
      have := ih (by
        have h := h1
        rw [show PyData.canLayAll0 ((x :: r).map waitD) = (PyData.canLay0 (waitD x) && PyData.canLayAll0 (r.map waitD)) from rfl, Bool.and_eq_true] at h
        exact h.2)
      show max (PyData.depth (waitD x)) (PyData.depthAll (r.map waitD)) ≤ 1
      have e : PyData.depth (waitD x) = 1 := rfl
      omega
  unfold SeqAt.shaped
  rw [show PyData.canLay0 (.list (ws.map waitD)) = PyData.canLayAll0 (ws.map waitD) from rfl, h1]
  exact decide_eq_true (show PyData.depthAll (ws.map waitD) + 1 ≤ 64 by omega)
theorem cut2 {a b g : V} : cutV [a, b, g] none (some 2) = [a, b] := by
  unfold cutV
  rw [HT.sIx_none, show (some (2 : Int)) = some ((2 : Nat) : Int) from rfl, HT.sIx_nat]
  rfl
/-- a strictly rising list is told by its members -/
theorem rise_ext : ∀ {xs ys : List Int}, xs.Pairwise (· < ·) → ys.Pairwise (· < ·) → (∀ k, k ∈ xs ↔ k ∈ ys) → xs = ys
  | [], [], _, _, _ => rfl
  | [], y :: r, _, _, h => absurd ((h y).mpr List.mem_cons_self) (by simp)
  | x :: r, [], _, _, h => absurd ((h x).mp List.mem_cons_self) (by simp)
  | x :: r, y :: t, hx, hy, h => by
    rw [List.pairwise_cons] at hx hy
    have e : x = y := by
      rcases List.mem_cons.mp ((h x).mp List.mem_cons_self) with e | e
      · exact e
      · rcases List.mem_cons.mp ((h y).mpr List.mem_cons_self) with e2 | e2
        · exact e2.symm
        · have h1 := hy.1 x e
          have h2 := hx.1 y e2
          omega
    subst e
    rw [rise_ext hx.2 hy.2 fun k => ⟨fun hk => by
      rcases List.mem_cons.mp ((h k).mp (List.mem_cons_of_mem _ hk)) with e | e
      · have := hx.1 k hk
        omega
      · exact e, fun hk => by
      rcases List.mem_cons.mp ((h k).mpr (List.mem_cons_of_mem _ hk)) with e | e
      · have := hy.1 k hk
        omega
      · exact e⟩]
/-! ### what goes ahead by waits -/
def isAhead (b : Bk) (t o : Nat) : Bool := b.waits.any fun x => decide (x.a = o) && decide (x.b = t)
def ahd (b : Bk) (t : Nat) : List Int := ((List.range b.tasks.length).filter (isAhead b t)).map fun (o : Nat) => (o : Int)
def ahds (b : Bk) : List (List Int) := (List.range b.tasks.length).map (ahd b)
theorem isAhead_iff {b : Bk} {t o : Nat} : isAhead b t o = true ↔ ∃ x ∈ b.waits, x.a = o ∧ x.b = t := by
  unfold isAhead
  rw [List.any_eq_true]
  constructor
  · rintro ⟨x, hx, h⟩
    rw [Bool.and_eq_true, decide_eq_true_iff, decide_eq_true_iff] at h
    exact ⟨x, hx, h.1, h.2⟩
  · rintro ⟨x, hx, h1, h2⟩
    exact ⟨x, hx, by rw [decide_eq_true h1, decide_eq_true h2]; rfl⟩
theorem ahd_rise (b : Bk) (t : Nat) : (ahd b t).Pairwise (· < ·) := by
  unfold ahd
  rw [List.pairwise_map]
  refine List.Pairwise.imp (R := fun x y : Nat => x < y) (fun h => by omega) ?_
  exact List.Pairwise.filter _ List.pairwise_lt_range
theorem ahd_mem {b : Bk} {most : Int} (ok : BookOk b most) {t : Nat} {k : Int} : k ∈ ahd b t ↔ ∃ x ∈ b.waits, decide (x.b = (t : Int)) = true ∧ x.a = k := by
  unfold ahd
  rw [List.mem_map]
  constructor
  · rintro ⟨o, ho, rfl⟩
    obtain ⟨_, h2⟩ := List.mem_filter.mp ho
    obtain ⟨x, hx, h3, h4⟩ := isAhead_iff.mp h2
    exact ⟨x, hx, decide_eq_true h4, h3⟩
  · rintro ⟨x, hx, h1, h2⟩
    have h3 := ok.wait x hx
    refine ⟨x.a.toNat, List.mem_filter.mpr ⟨List.mem_range.mpr (by omega), isAhead_iff.mpr ⟨x, hx, by omega, of_decide_eq_true h1⟩⟩, by omega⟩
theorem ahds_few {b : Bk} {most : Int} (ok : BookOk b most) (h : most ≤ 30) : Few (ahds b) := by
  have := ok.few
  unfold ahds
  refine ⟨by rw [List.length_map, List.length_range]; omega, fun l hl => ?_⟩
  obtain ⟨t, _, rfl⟩ := List.mem_map.mp hl
  constructor
  · unfold ahd
    rw [List.length_map]
    have h1 := List.length_filter_le (isAhead b t) (List.range b.tasks.length)
    rw [List.length_range] at h1
    omega
  · intro n hn
    unfold ahd at hn
    obtain ⟨o, ho, rfl⟩ := List.mem_map.mp hn
    have := List.mem_range.mp (List.mem_filter.mp ho).1
    omega
/-- the greatest gap that waits tell -/
def GapOf (ws : List Wt) (x y : Int) : Option Int → Prop
  | none => ∀ z ∈ ws, ¬ (z.a = x ∧ z.b = y)
  | some g => (∃ z ∈ ws, (z.a = x ∧ z.b = y) ∧ z.gap = g) ∧ ∀ z ∈ ws, z.a = x ∧ z.b = y → z.gap ≤ g
def GapIs (b : Bk) (x y : Int) : Option Int → Prop := GapOf b.waits x y
theorem GapOf.same {ws : List Wt} {x y : Int} : ∀ {o u : Option Int}, GapOf ws x y o → GapOf ws x y u → o = u
  | none, none, _, _ => rfl
  | none, some g, h, k => by
    obtain ⟨⟨z, hz, h1, _⟩, _⟩ := k
    exact absurd h1 (h z hz)
  | some g, none, k, h => by
    obtain ⟨⟨z, hz, h1, _⟩, _⟩ := k
    exact absurd h1 (h z hz)
  | some g, some g', h, k => by
    obtain ⟨⟨z, hz, h1, h2⟩, h3⟩ := h
    obtain ⟨⟨y', hy, k1, k2⟩, k3⟩ := k
    have e1 := h3 y' hy k1
    have e2 := k3 z hz h1
    have : g = g' := by omega
    rw [this]
theorem GapOf.skip {ws : List Wt} {x y : Int} {o : Option Int} {z : Wt} (h : GapOf ws x y o) (n : (z.a = x ∧ z.b = y) → ∃ g, o = some g ∧ z.gap ≤ g) : GapOf (ws ++ [z]) x y o := by
  cases o with
  | none =>
    intro u hu
    rcases List.mem_append.mp hu with hu | hu
    · exact h u hu
    · rw [List.mem_singleton.mp hu]
      intro hh
      obtain ⟨g, e, _⟩ := n hh
      cases e
  | some g =>
    obtain ⟨⟨u, hu, h1, h2⟩, h3⟩ := h
    refine ⟨⟨u, List.mem_append_left _ hu, h1, h2⟩, fun r hr hh => ?_⟩
    rcases List.mem_append.mp hr with hr | hr
    · exact h3 r hr hh
    · rw [List.mem_singleton.mp hr] at hh ⊢
      obtain ⟨g', e, le⟩ := n hh
      cases e
      exact le
theorem GapOf.take_ {ws : List Wt} {x y : Int} {o : Option Int} {z : Wt} (h : GapOf ws x y o) (e : z.a = x ∧ z.b = y) (n : ∀ g, o = some g → g ≤ z.gap) : GapOf (ws ++ [z]) x y (some z.gap) := by
  refine ⟨⟨z, List.mem_append_right _ (List.mem_singleton.mpr rfl), e, rfl⟩, fun r hr hh => ?_⟩
  rcases List.mem_append.mp hr with hr | hr
  · cases o with
    | none => exact absurd hh (h r hr)
    | some g => exact Int.le_trans (h.2 r hr hh) (n g rfl)
  · rw [List.mem_singleton.mp hr]
    exact Int.le_refl _
theorem gap_short {n : Int} (h0 : 0 ≤ n) (h1 : n ≤ 1000) : (PyData.int n).shown.length ≤ 4 := by
  obtain ⟨k, rfl⟩ : ∃ k : Nat, n = (k : Int) := ⟨_, (Int.toNat_of_nonneg h0).symm⟩
  have all : ∀ k : Fin 1001, (PyData.int ((k.val : Nat) : Int)).shown.length ≤ 4 := by decide +kernel
  exact all ⟨k, by omega⟩
theorem rd_due {K : PySem.W.Frag} {H : Hp} {o : Option Int} {Q : VK} (h : ∀ g, o = some g → 0 ≤ g ∧ g ≤ 1000) (q : Q (.str (dueD o).shown) H) : rReprD K [dueV o] H Q := by
  cases o with
  | none => exact ⟨.non, .none, rfl, .non, True.intro, rfl, rfl, by decide, by decide +kernel, q⟩
  | some g =>
    obtain ⟨g0, g1⟩ := h g rfl
    have lg : g.natAbs.log2 < 1920 := Nat.lt_of_le_of_lt (Nat.log2_le_self _) (by omega)
    refine ⟨.int g, .int g, rfl, .int g, lg, decide_eq_true lg, rfl, Nat.zero_le _, ?_, q⟩
    have := gap_short g0 g1
    rw [sizeLine_eq]
    omega
end Bs

namespace Bs
open PySem PySem.Spec PyProof.Rows L2
open Evl (Ex)
/-! ### gaps of pairs -/
abbrev PP := Int × Int
def hits (z : Wt) (p : PP) : Bool := decide (z.a = p.1) && decide (z.b = p.2)
/-- the greater one of two -/
def mx (i j : Int) : Int := if j > i then j else i
def gapVal (ws : List Wt) (p : PP) : Int := ws.foldl (fun m z => if hits z p = true then mx z.gap m else m) 0
def hasKey (ws : List Wt) (arcs : List PP) (p : PP) : Bool := decide (p ∈ arcs) || ws.any fun z => hits z p
theorem gapVal_snoc (ws : List Wt) (z : Wt) (p : PP) : gapVal (ws ++ [z]) p = if hits z p = true then mx z.gap (gapVal ws p) else gapVal ws p := by
  unfold gapVal
  rw [List.foldl_append]
  rfl
theorem gapVal_none {ws : List Wt} {p : PP} (h : (ws.any fun z => hits z p) = false) : gapVal ws p = 0 := by
  have : ∀ (ws : List Wt) (m : Int), (ws.any fun z => hits z p) = false → ws.foldl (fun m z => if hits z p = true then mx z.gap m else m) m = m := by
    intro ws
    induction ws with
    | nil => intro m _; rfl
    | cons z r ih =>
      intro m h
      rw [List.any_cons, Bool.or_eq_false_iff] at h
      rw [List.foldl_cons, h.1]
      exact ih m h.2
  exact this ws 0 h
theorem hasKey_snoc (ws : List Wt) (z : Wt) (arcs : List PP) (p : PP) : hasKey (ws ++ [z]) arcs p = (hasKey ws arcs p || hits z p) := by
  unfold hasKey
  rw [List.any_append]
  simp [Bool.or_assoc]
theorem hasKey_arc (ws : List Wt) (arcs : List PP) (q p : PP) : hasKey ws (arcs ++ [q]) p = (hasKey ws arcs p || decide (p = q)) := by
  unfold hasKey
  by_cases a : p ∈ arcs <;> by_cases b : p = q <;> simp [a, b]
theorem hits_iff {z : Wt} {p : PP} : hits z p = true ↔ p = (z.a, z.b) := by
  unfold hits
  rw [Bool.and_eq_true, decide_eq_true_iff, decide_eq_true_iff]
  constructor
  · rintro ⟨h1, h2⟩
    exact Prod.ext h1.symm h2.symm
  · rintro h
    subst h
    exact ⟨rfl, rfl⟩
theorem keys_put {κ : Type} [DecidableEq κ] (kvs : List (κ × V)) (k : κ) (v : V) : (putK kvs k v).map (·.1) = if (valV kvs k).isSome = true then kvs.map (·.1) else kvs.map (·.1) ++ [k] := by
  unfold putK
  rw [valV_any]
  by_cases a : (valV kvs k).isSome = true
  · rw [if_pos a, if_pos a, List.map_map]
    refine List.map_congr_left fun e _ => ?_
    show (if e.1 = k then (e.1, v) else e).1 = e.1
    split <;> rfl
  · rw [if_neg a, if_neg a, List.map_append]
    rfl
theorem nodup_put {κ : Type} [DecidableEq κ] {kvs : List (κ × V)} (k : κ) (v : V) (nd : (kvs.map (·.1)).Nodup) : ((putK kvs k v).map (·.1)).Nodup := by
  rw [keys_put]
  by_cases a : (valV kvs k).isSome = true
  · rw [if_pos a]
    exact nd
  · rw [if_neg a, List.nodup_append]
    refine ⟨nd, by simp, fun x hx y hy e => ?_⟩
    rw [List.mem_singleton.mp hy] at e
    subst e
    obtain ⟨q, hq, e⟩ := List.mem_map.mp hx
    rw [← valV_any] at a
    exact a (List.any_eq_true.mpr ⟨q, hq, decide_eq_true e⟩)
theorem form_put {κ : Type} [DecidableEq κ] {kvs : List (κ × V)} {F : κ × V → Prop} (k : κ) (v : V) (f : ∀ e ∈ kvs, F e) (n : F (k, v)) : ∀ e ∈ putK kvs k v, F e := by
  intro e he
  unfold putK at he
  split at he
  · obtain ⟨x, hx, rfl⟩ := List.mem_map.mp he
    split
    · rename_i h
      rw [h]
      exact n
    · exact f x hx
  · rcases List.mem_append.mp he with h | h
    · exact f e h
    · rw [List.mem_singleton.mp h]
      exact n
theorem kP_inj {p q : PP} (h : kP p = kP q) : p = q := by
  injection h with h1 h2
  injection h2 with h2 _
  injection h1 with h1
  injection h2 with h2
  exact Prod.ext h1 h2
/-- a dict that holds just what waits and arcs tell -/
structure DK (kvs : List (List L2.Key × V)) (ws : List Wt) (arcs : List PP) : Prop where
  val : ∀ p : PP, valV kvs (kP p) = if hasKey ws arcs p = true then some (.int (gapVal ws p)) else none
  form : ∀ e ∈ kvs, ∃ x : Ent, e = entP x
  nd : (kvs.map (·.1)).Nodup
  len : kvs.length ≤ ws.length + arcs.length
theorem DK.nil : DK [] [] [] := ⟨fun p => rfl, (fun _ h => nomatch h), List.nodup_nil, Nat.le_refl _⟩
theorem DK.got {kvs : List (List L2.Key × V)} {ws : List Wt} {arcs : List PP} (h : DK kvs ws arcs) (p : PP) : (valV kvs (kP p)).getD (.int 0) = .int (gapVal ws p) := by
  rw [h.val p]
  by_cases a : hasKey ws arcs p = true
  · rw [if_pos a]
    rfl
  · rw [if_neg a]
    have : (ws.any fun z => hits z p) = false := by
      cases c : ws.any fun z => hits z p with
      | false => rfl
      | true => exact absurd (by unfold hasKey; rw [c, Bool.or_true]) a
    rw [gapVal_none this]
    rfl
theorem DK.wait {kvs : List (List L2.Key × V)} {ws : List Wt} {arcs : List PP} (h : DK kvs ws arcs) (z : Wt) : DK (putK kvs (kP (z.a, z.b)) (.int (mx z.gap (gapVal ws (z.a, z.b))))) (ws ++ [z]) arcs := by
  refine ⟨fun p => ?_, form_put _ _ h.form ⟨((z.a, z.b), mx z.gap (gapVal ws (z.a, z.b))), rfl⟩, nodup_put _ _ h.nd, ?_⟩
  · rw [valV_put, hasKey_snoc, gapVal_snoc, h.val p]
    by_cases e : p = (z.a, z.b)
    · subst e
      rw [if_pos rfl, hits_iff.mpr rfl, Bool.or_true]
      rfl
    · rw [if_neg fun c => e (kP_inj c)]
      have hn : hits z p = false := Bool.eq_false_iff.mpr fun c => e (hits_iff.mp c)
      rw [hn, Bool.or_false]
      rfl
  · have := length_putK kvs (kP (z.a, z.b)) (.int (mx z.gap (gapVal ws (z.a, z.b))))
    have := h.len
    rw [List.length_append, List.length_singleton]
    omega
theorem DK.arc {kvs : List (List L2.Key × V)} {ws : List Wt} {arcs : List PP} (h : DK kvs ws arcs) (q : PP) : DK (putK kvs (kP q) (.int (gapVal ws q))) ws (arcs ++ [q]) := by
  refine ⟨fun p => ?_, form_put _ _ h.form ⟨(q, gapVal ws q), rfl⟩, nodup_put _ _ h.nd, ?_⟩
  · rw [valV_put, hasKey_arc, h.val p]
    by_cases e : p = q
    · subst e
      rw [if_pos rfl, decide_eq_true rfl, Bool.or_true]
      rfl
    · rw [if_neg fun c => e (kP_inj c), decide_eq_false e, Bool.or_false]
  · have := length_putK kvs (kP q) (.int (gapVal ws q))
    have := h.len
    rw [List.length_append, List.length_singleton]
    omega
/-- such a dict by its entries -/
theorem DK.ents {kvs : List (List L2.Key × V)} {ws : List Wt} {arcs : List PP} (h : DK kvs ws arcs) : ∃ es : List Ent, kvs = es.map entP ∧ (es.map (·.1)).Nodup ∧ (∀ p, p ∈ es.map (·.1) ↔ hasKey ws arcs p = true) ∧ ∀ e ∈ es, e.2 = gapVal ws e.1 := by
  have ex : ∀ l : List (List L2.Key × V), (∀ e ∈ l, ∃ x : Ent, e = entP x) → ∃ es : List Ent, l = es.map entP := by
    intro l
    induction l with
    | nil => intro _; exact ⟨[], rfl⟩
    | cons a r ih =>
      intro f
      obtain ⟨x, hx⟩ := f a List.mem_cons_self
      obtain ⟨es, he⟩ := ih fun e m => f e (List.mem_cons_of_mem _ m)
      exact ⟨x :: es, by rw [hx, he]; rfl⟩
  obtain ⟨es, he⟩ := ex kvs h.form
  subst he
  have nd : (es.map (·.1)).Nodup := by
    have := h.nd
    rw [List.map_map] at this
    rw [List.Nodup, List.pairwise_map] at this ⊢
    exact this.imp fun c e => c (by show kP _ = kP _; rw [e])
  have some_ : ∀ p, (valV (es.map entP) (kP p)).isSome = true ↔ p ∈ es.map (·.1) := fun p => by
    rw [← valV_any, List.any_eq_true, List.mem_map]
    constructor
    · rintro ⟨x, hx, d⟩
      obtain ⟨e, me, rfl⟩ := List.mem_map.mp hx
      exact ⟨e, me, kP_inj (of_decide_eq_true d)⟩
    · rintro ⟨e, me, rfl⟩
      exact ⟨entP e, List.mem_map_of_mem me, decide_eq_true rfl⟩
  refine ⟨es, rfl, nd, fun p => ?_, fun e me => ?_⟩
  · rw [← some_ p, h.val p]
    by_cases a : hasKey ws arcs p = true
    · rw [if_pos a, a]
      simp
    · rw [if_neg a]
      simp [a]
  · have at_ : ∀ es : List Ent, (es.map (·.1)).Nodup → e ∈ es → valV (es.map entP) (kP e.1) = some (.int e.2) := by
      intro es
      induction es with
      | nil => intro _ m; cases m
      | cons x r ih =>
        intro nd m
        rw [List.map_cons, List.nodup_cons] at nd
        rcases List.mem_cons.mp m with c | c
        · subst c
          exact valV_pos (p := entP e) rfl
        · have ne : ¬ (entP x).1 = kP e.1 := fun c' => nd.1 (by
            rw [kP_inj c']
            exact List.mem_map_of_mem c)
          rw [List.map_cons, valV_neg ne]
          exact ih nd.2 c
    have v := h.val e.1
    rw [at_ es nd me] at v
    by_cases a : hasKey ws arcs e.1 = true
    · rw [if_pos a] at v
      exact V.int.inj (Option.some.inj v)
    · rw [if_neg a] at v
      cases v
/-! ### lists in the pairs' order -/
theorem lex_ne {p q : PP} (h : SrtO.lexB q p = false) (n : p ≠ q) : SrtO.lexB p q = true := by
  have a := SrtO.lexB_no.mp h
  refine SrtO.lexB_iff.mpr ?_
  have : ¬ (p.1 = q.1 ∧ p.2 = q.2) := fun c => n (Prod.ext c.1 c.2)
  omega
theorem lex_ext : ∀ {ps qs : List PP}, ps.Pairwise (fun p q => SrtO.lexB p q = true) → qs.Pairwise (fun p q => SrtO.lexB p q = true) → (∀ p, p ∈ ps ↔ p ∈ qs) → ps = qs
  | [], [], _, _, _ => rfl
  | [], q :: _, _, _, h => nomatch (h q).mpr List.mem_cons_self
  | p :: _, [], _, _, h => nomatch (h p).mp List.mem_cons_self
  | p :: ps, q :: qs, hp, hq, h => by
    rw [List.pairwise_cons] at hp hq
    have irr : ∀ x y : PP, SrtO.lexB x y = true → SrtO.lexB y x = true → False := fun x y a b => by
      have a' := SrtO.lexB_iff.mp a
      have b' := SrtO.lexB_iff.mp b
      omega
    have self : ∀ x : PP, SrtO.lexB x x = true → False := fun x a => irr x x a a
    have e : p = q := by
      rcases List.mem_cons.mp ((h p).mp List.mem_cons_self) with c | c
      · exact c
      · rcases List.mem_cons.mp ((h q).mpr List.mem_cons_self) with d | d
        · exact d.symm
        · exact (irr _ _ (hq.1 p c) (hp.1 q d)).elim
    subst e
    rw [lex_ext hp.2 hq.2 fun x => ⟨fun m => ?_, fun m => ?_⟩]
    · rcases List.mem_cons.mp ((h x).mp (List.mem_cons_of_mem _ m)) with c | c
      · rw [c] at m
        exact (self _ (hp.1 p m)).elim
      · exact c
    · rcases List.mem_cons.mp ((h x).mpr (List.mem_cons_of_mem _ m)) with c | c
      · rw [c] at m
        exact (self _ (hq.1 p m)).elim
      · exact c
theorem strict_of {ps : List PP} (h : ps.Pairwise fun p q => SrtO.lexB q p = false) (nd : ps.Nodup) : ps.Pairwise fun p q => SrtO.lexB p q = true :=
  (List.Pairwise.and h nd).imp fun c => lex_ne c.1 c.2
/-- entries in order, all that waits and arcs tell -/
structure EK (es : List Ent) (ws : List Wt) (arcs : List PP) : Prop where
  up : (es.map (·.1)).Pairwise fun p q => SrtO.lexB p q = true
  keys : ∀ p, p ∈ es.map (·.1) ↔ hasKey ws arcs p = true
  val : ∀ e ∈ es, e.2 = gapVal ws e.1
theorem EK.same {es fs : List Ent} {ws : List Wt} {arcs : List PP} (h : EK es ws arcs) (k : EK fs ws arcs) : es = fs := by
  have e := lex_ext h.up k.up fun p => (h.keys p).trans (k.keys p).symm
  have b : ∀ l : List Ent, (∀ e ∈ l, e.2 = gapVal ws e.1) → l = (l.map (·.1)).map fun p => (p, gapVal ws p) := fun l v => by
    rw [List.map_map]
    conv => lhs; rw [← List.map_id l]
    exact List.map_congr_left fun e m => Prod.ext rfl (v e m)
  rw [b es h.val, b fs k.val, e]
theorem u1 {n c : Nat} (h : n + 64 < c) : n + 1 < c := by omega
theorem ps_off {X : Cx} {st : Stmt} : PS X st (fun _ _ _ => False) := ⟨fun _ _ _ _ _ _ h => h.elim⟩
theorem rneIF {i j : Int} {H : Hp} {Q : VK} (e : i = j) (q : Q (.bl false) H) : rNe (.int i) (.int j) H Q := ⟨rfl, by
  rw [e, decide_eq_true rfl]
  exact q⟩
theorem rneIT {i j : Int} {H : Hp} {Q : VK} (e : i ≠ j) (q : Q (.bl true) H) : rNe (.int i) (.int j) H Q := ⟨rfl, by
  rw [decide_eq_false fun z => e (V.int.inj z)]
  exact q⟩
theorem reqIT {i j : Int} {H : Hp} {Q : VK} (e : i = j) (q : Q (.bl true) H) : rEq (.int i) (.int j) H Q := ⟨rfl, by
  rw [e, decide_eq_true rfl]
  exact q⟩
theorem reqIF {i j : Int} {H : Hp} {Q : VK} (e : i ≠ j) (q : Q (.bl false) H) : rEq (.int i) (.int j) H Q := ⟨rfl, by
  rw [decide_eq_false fun z => e (V.int.inj z)]
  exact q⟩
/-! ### arcs -/
def arcD (p : PP) : PyData := .tuple [.int p.1, .int p.2]
theorem arc_parts {H : Hp} {v : V} {p : PP} (h : TD H v (arcD p)) : ∃ a, v = .ref a ∧ H a = some (.tup [.int p.1, .int p.2]) := by
  obtain ⟨a, xs, rfl, ha, hs⟩ := h.tupI
  cases hs with
  | cons h1 hs =>
    cases hs with
    | cons h2 hs =>
      cases hs
      rw [h1.intI, h2.intI] at ha
      exact ⟨a, rfl, ha⟩
structure ArcOk (n : Nat) (p : PP) : Prop where
  a : 0 ≤ p.1 ∧ p.1 < n
  b : 0 ≤ p.2 ∧ p.2 < n
  ne : p.1 ≠ p.2
def ArcsAt (H : Hp) (l : Addr) (n : Nat) (arcs : List PP) : Prop := (∃ xs, H l = some (.lst xs) ∧ RowsAt arcD H xs arcs) ∧ (∀ p ∈ arcs, ArcOk n p) ∧ arcs.length ≤ 900
theorem ArcsAt.ex {H H' : Hp} {l : Addr} {n : Nat} {arcs : List PP} (h : ArcsAt H l n arcs) (e : Ex H H') : ArcsAt H' l n arcs := by
  obtain ⟨⟨xs, h1, h2⟩, h3⟩ := h
  exact ⟨⟨xs, e _ _ h1, RowsAt.tp (Tp.ex e) h2⟩, h3⟩
/-! ### {k: v for .. in a list} -/
theorem dct_list {K : PySem.W.Frag} {a : Addr} {xs : List V} {g : TG} {tt : TT} {tk te : TE} {vs : List Nat} {σ : L2.St} {H1 : Hp} {D : Addr} {Qd : Hp → Prop} (Pv : Nat → Hp → Prop) (h0 : Pv 0 (upd H1 D (.dT []))) (hl : ∀ i H, i ≤ xs.length → Pv i H → SqL K H a xs)
    (hs : ∀ i x H, xs[i]? = some x → Pv i H → g x (wipe σ vs) H fun σ2 H2 => wipe σ2 vs = wipe σ vs ∧ tt σ2 H2 fun b H3 =>
      if b = true then tk σ2 H3 fun y H4 => te σ2 H4 fun z H5 => ∃ (kvs : List (List L2.Key × V)) (k : List L2.Key) (a : Addr), y = .ref a ∧ H5 D = some (.dT kvs) ∧ H5 a = some (.tup (k.map kV)) ∧ kvs.length < sizeLine ∧ Pv (i + 1) (upd H5 D (.dT (putK kvs k z))) else Pv (i + 1) H3)
    (hd : ∀ H, Pv xs.length H → Qd H) :
    ∃ W : Nat → Nat → Hp → Prop, (∃ m, W 0 m (upd H1 D (.dT []))) ∧ ∀ i m H, W i m H →
      ((Itl K a).stop i H ∧ Qd H) ∨ ((Itl K a).go i H ∧ ∃ Nx : Hp → Prop, (∀ H', Nx H' → ∃ m', m' < m ∧ W (i + 1) m' H') ∧ ∀ x H', (Itl K a).yld i H x H' → g x (wipe σ vs) H' fun σ2 H2 => wipe σ2 vs = wipe σ vs ∧ tt σ2 H2 fun b H3 =>
        if b = true then tk σ2 H3 fun y H4 => te σ2 H4 fun z H5 => ∃ (kvs : List (List L2.Key × V)) (k : List L2.Key) (a : Addr), y = .ref a ∧ H5 D = some (.dT kvs) ∧ H5 a = some (.tup (k.map kV)) ∧ kvs.length < sizeLine ∧ Nx (upd H5 D (.dT (putK kvs k z))) else Nx H3) := by
  refine ⟨fun i m H => m = xs.length - i ∧ i ≤ xs.length ∧ Pv i H, ⟨xs.length, by simp, Nat.zero_le _, h0⟩, ?_⟩
  rintro i m H ⟨rfl, hi, p⟩
  have q := hl i H hi p
  by_cases lt : i < xs.length
  · refine .inr ⟨⟨xs, xs[i], q, by simp [lt]⟩, Pv (i + 1), fun H' p' => ⟨xs.length - (i + 1), by omega, rfl, lt, p'⟩, fun x H' y => ?_⟩
    obtain ⟨e, y⟩ := y
    subst e
    exact hs i x _ (y xs q) p
  · have e : i = xs.length := by omega
    subst e
    exact .inl ⟨⟨xs, q, Nat.le_refl _⟩, hd H p⟩
theorem keys_pairs {H : Hp} : ∀ {es : List Ent} {bs : List Addr}, IsKeys H (es.map entP) bs → (bs.map V.ref).map (prAt H) = es.map (·.1)
  | [], _, .nil => rfl
  | e :: es, b :: bs, .cons h t => by
    have e1 : prAt H (.ref b) = (e.1.1, e.1.2) := prAt_is h
    rw [List.map_cons, List.map_cons, List.map_cons, keys_pairs t, e1]
theorem valV_off {kvs : List (List L2.Key × V)} {k : List L2.Key} (h : ∀ e ∈ kvs, e.1 ≠ k) : valV kvs k = none := by
  cases c : valV kvs k with
  | none => rfl
  | some v =>
    have : (valV kvs k).isSome = true := by rw [c]; rfl
    rw [← valV_any, List.any_eq_true] at this
    obtain ⟨e, me, d⟩ := this
    exact absurd (of_decide_eq_true d) (h e me)
end Bs

namespace Bs
open PySem PySem.Spec PyProof.Rows L2
open Evl (Ex)
theorem shaped_rows {β : Type} {D : β → PyData} (h1 : ∀ x, PyData.canLay0 (D x) = true) (h2 : ∀ x, PyData.depth (D x) ≤ 10) (xs : List β) : SeqAt.shaped (.list (xs.map D)) = true := by
  have a : PyData.canLayAll0 (xs.map D) = true := by
    induction xs with
    | nil => rfl
    | cons x r ih =>
      show (PyData.canLay0 (D x) && PyData.canLayAll0 (r.map D)) = true
      rw [ih, h1 x]
      rfl
  have b : PyData.depthAll (xs.map D) ≤ 10 := by
    induction xs with
    | nil => exact Nat.zero_le _
    | cons x r ih =>
      have h := a
      rw [show PyData.canLayAll0 ((x :: r).map D) = (PyData.canLay0 (D x) && PyData.canLayAll0 (r.map D)) from rfl, Bool.and_eq_true] at h
      have i1 := ih h.2
      have i2 := h2 x
      show max (PyData.depth (D x)) (PyData.depthAll (r.map D)) ≤ 10
      omega
  unfold SeqAt.shaped
  rw [show PyData.canLay0 (.list (xs.map D)) = PyData.canLayAll0 (xs.map D) from rfl, a]
  exact decide_eq_true (show PyData.depthAll (xs.map D) + 1 ≤ 64 by omega)
theorem shaped_arcs (arcs : List PP) : SeqAt.shaped (.list (arcs.map arcD)) = true := shaped_rows (fun x => rfl) (fun x => by show 1 ≤ 10; decide) arcs
theorem shaped_items (es : List Ent) : SeqAt.shaped (.list (es.map itemD)) = true := shaped_rows (fun x => rfl) (fun x => by show 2 ≤ 10; decide) es
theorem eqv_same {d : PyData} (h : SeqAt.shaped d = true) : PyData.eqv d d = true := by
  unfold SeqAt.shaped at h
  rw [Bool.and_eq_true] at h
  exact SeqAt.eqv_refl d h.1
/-- a != of two lists of one datum -/
theorem neD_same {K : PySem.W.Frag} {H : Hp} {a b : Addr} {xs ys : List V} {ds : List PyData} {Q : VK} (ha : H a = some (.lst xs)) (hb : H b = some (.lst ys)) (hx : TDs H xs ds) (hy : TDs H ys ds) (sh : SeqAt.shaped (.list ds) = true) (q : Q (.bl false) H) : rNeD K (.ref a) (.ref b) H Q :=
  ⟨.list ds, .list ds, .lst (SqL.of ha) (TDs.dp hx), .lst (SqL.of hb) (TDs.dp hy), sh, sh, by
    rw [eqv_same sh]
    exact q⟩
theorem walk_itp {d : Addr} {o : Obj} {es : List Ent} : Walk (Itp d o es) es.length (fun H => H d = some (.frz o (.dT (es.map entP)))) (fun i H x H' => ∃ (a : Addr) (e : Ent) (q : Addr), es[i]? = some e ∧ x = .ref a ∧ H a = none ∧ H q = some (.tup [.int e.1.1, .int e.1.2]) ∧ H' = upd H a (.tup [.ref q, .int e.2])) :=
  ⟨fun _ _ hi h => ⟨h, hi⟩, fun _ h => ⟨h, Nat.le_refl _⟩, fun _ _ _ _ _ _ y => y⟩
end Bs

namespace Bs
open PySem PySem.Spec PyProof.Rows L2
open Evl (Ex)
/-! ### steps: a reading, opened by its head -/
section
variable {K : PySem.W.Frag} {σ : L2.St} {H : Hp} {Q : VK}
theorem q_var {i : Nat} {x : V} (h : σ[i]? = some (some x)) (q : Q x H) : tVar i σ H Q := ⟨x, h, q⟩
theorem q_c {v : V} (q : Q v H) : tC v σ H Q := q
theorem q_op {r : R2} {ta tb : TE} (q : ta σ H fun x H1 => tb σ H1 fun y H2 => r x y H2 Q) : tOp r ta tb σ H Q := q
theorem q_un {r : V → Hp → VK → Prop} {ta : TE} (q : ta σ H fun x H1 => r x H1 Q) : tUn r ta σ H Q := q
theorem q_ii {C : Int → Int → Prop} {g : Int → Int → V} {i j : Int} (c : C i j) (q : Q (g i j) H) : rI C g (.int i) (.int j) H Q := ⟨i, j, rfl, rfl, c, q⟩
theorem q_i0 {g : Int → Int → V} {i j : Int} (q : Q (g i j) H) : rI0 g (.int i) (.int j) H Q := ⟨i, j, rfl, rfl, q⟩
theorem q_u {g : Int → V} {i : Int} (q : Q (g i) H) : rU g (.int i) H Q := ⟨i, rfl, q⟩
theorem q_add {i j : Int} (q : Q (.int (i + j)) H) : rAdd (.int i) (.int j) H Q := ⟨i, j, rfl, rfl, q⟩
theorem q_sub {i j : Int} (q : Q (.int (i - j)) H) : rSub (.int i) (.int j) H Q := ⟨i, j, rfl, rfl, q⟩
theorem dec_int {i j : Int} : decide (V.int i = V.int j) = decide (i = j) := by
  by_cases h : i = j
  · rw [h, decide_eq_true rfl, decide_eq_true rfl]
  · rw [decide_eq_false h, decide_eq_false fun e => h (by injection e)]
theorem dec_str {i j : Str} : decide (V.str i = V.str j) = decide (i = j) := by
  by_cases h : i = j
  · rw [h, decide_eq_true rfl, decide_eq_true rfl]
  · rw [decide_eq_false h, decide_eq_false fun e => h (by injection e)]
theorem q_eqI {i j : Int} (q : Q (.bl (decide (i = j))) H) : rEq (.int i) (.int j) H Q := ⟨rfl, by rw [dec_int]; exact q⟩
theorem q_neI {i j : Int} (q : Q (.bl (!decide (i = j))) H) : rNe (.int i) (.int j) H Q := ⟨rfl, by rw [dec_int]; exact q⟩
theorem q_eqS {i j : Str} (q : Q (.bl (decide (i = j))) H) : rEq (.str i) (.str j) H Q := ⟨rfl, by rw [dec_str]; exact q⟩
theorem q_neS {i j : Str} (q : Q (.bl (!decide (i = j))) H) : rNe (.str i) (.str j) H Q := ⟨rfl, by rw [dec_str]; exact q⟩
theorem q_ipI {g : Int → Int → Int} {i j : Int} (q : Q (.int (g i j)) H) : ipI g (.int i) (.int j) H Q := ⟨i, j, rfl, rfl, q⟩
/-! tests -/
variable {R : Bool → Hp → Prop}
theorem q_tst {t : TE} (q : t σ H fun x H' => ∃ k, x = .bl k ∧ R k H') : tTest t σ H R := q
theorem q_tB {t : TE} (q : t σ H fun x H' => ∃ k, x = .bl k ∧ R k H') : tB t σ H R := q
theorem q_chain {r r' : R2} {ta tb tc : TE} (q : ta σ H fun x H1 => tb σ H1 fun y H2 => r x y H2 fun z H3 => ∃ k, z = .bl k ∧ if k = true then tc σ H3 (fun w H4 => r' y w H4 Q) else Q (.bl false) H3) : tChain r r' ta tb tc σ H Q := q
theorem q_ex {b : Bool} {P : Bool → Prop} (q : P b) : ∃ k, V.bl b = .bl k ∧ P k := ⟨b, rfl, q⟩
theorem q_exi {b : Int} {P : Int → Prop} (q : P b) : ∃ k, V.int b = .int k ∧ P k := ⟨b, rfl, q⟩
theorem q_yes (q : R true H) : tYes σ H R := q
theorem q_and {t u : TT} (q : t σ H fun c H1 => if c = true then u σ H1 R else R false H1) : tAnd t u σ H R := q
theorem q_or {t u : TT} (q : t σ H fun c H1 => if c = true then R true H1 else u σ H1 R) : tOr t u σ H R := q
theorem q_not {t : TT} (q : t σ H fun c H1 => R (!c) H1) : tNot t σ H R := q
theorem q_andV {ta tb : TE} (q : ta σ H fun x H1 => ∃ c, x = .bl c ∧ if c = true then tb σ H1 Q else Q (.bl false) H1) : tAndV ta tb σ H Q := q
theorem q_orV {ta tb : TE} (q : ta σ H fun x H1 => ∃ c, x = .bl c ∧ if c = true then Q (.bl true) H1 else tb σ H1 Q) : tOrV ta tb σ H Q := q
theorem q_notV {ta : TE} (q : ta σ H fun x H1 => ∃ c, x = .bl c ∧ Q (.bl (!c)) H1) : tNotV ta σ H Q := q
theorem q_if {t : TT} {ta tb : TE} (q : t σ H fun c H1 => if c = true then ta σ H1 Q else tb σ H1 Q) : tIf t ta tb σ H Q := q
/-! arguments, displays, calls -/
theorem q_nil {P : List V → Hp → Prop} (q : P [] H) : tNil σ H P := q
theorem q_cons {ta : TE} {tr : TA} {P : List V → Hp → Prop} (q : ta σ H fun x H1 => tr σ H1 fun xs H2 => P (x :: xs) H2) : tCons ta tr σ H P := q
theorem q_tup {t : TA} (q : t σ H fun xs H1 => xs.length ≤ sizeLine ∧ ∀ p, H1 p = none → Q (.ref p) (upd H1 p (.tup xs))) : tTup t σ H Q := q
theorem q_lst {t : TA} (q : t σ H fun xs H1 => xs.length ≤ sizeLine ∧ ∀ p, H1 p = none → Q (.ref p) (upd H1 p (.lst xs))) : tLst t σ H Q := q
theorem q_made {xs : List V} {P : Addr → Prop} (h : xs.length ≤ 16000000) (q : ∀ p, H p = none → P p) : xs.length ≤ sizeLine ∧ ∀ p, H p = none → P p := ⟨by rw [sizeLine_eq]; omega, q⟩
theorem q_cb {r : List V → Hp → VK → Prop} {t : TA} (q : t σ H fun vs H1 => r vs H1 Q) : tCB r t σ H Q := q
theorem q_call {sp : Sp} {E : XK} {t : TA} (q : t σ H fun vs H1 => sp vs H1 Q E) : tCall sp [] E t σ H Q := by
  have e : (fun (vs : List V) H1 => sp (vs ++ []) H1 Q E) = fun vs H1 => sp vs H1 Q E := by
    funext vs H1
    rw [List.append_nil]
  show t σ H fun vs H1 => sp (vs ++ []) H1 Q E
  rw [e]
  exact q
theorem q_callL {i : Nat} {f : Addr} {sp : Sp} {E : XK} {t : TA} (h : σ[i]? = some (some (.ref f))) (q : t σ H fun vs H1 => sp vs H1 Q E) : tCallL i f sp [] E t σ H Q := by
  refine ⟨h, ?_⟩
  have e : (fun (vs : List V) H1 => sp (vs ++ []) H1 Q E) = fun vs H1 => sp vs H1 Q E := by
    funext vs H1
    rw [List.append_nil]
  rw [e]
  exact q
theorem q_bm {T : String} {r : V → List V → Hp → VK → Prop} {to : TE} {t : TA} (q : to σ H fun x H1 => tyV K T x H1 ∧ t σ H1 fun xs H2 => r x xs H2 Q) : tBM K T r to t σ H Q := q
theorem q_bm0 {T : String} {r : V → List V → Hp → VK → Prop} {to : TE} (q : to σ H fun x H1 => tyV K T x H1 ∧ r x [] H1 Q) : tBM0 K T r to σ H Q := q
theorem q_tyL {a : Addr} {xs : List V} {P : Prop} (h : H a = some (.lst xs)) (q : P) : tyV K "list" (.ref a) H ∧ P := ⟨.inl ⟨rfl, _, SqL.of h⟩, q⟩
theorem q_sl {r : V → Option Int → Option Int → Hp → VK → Prop} {te : TE} {tl th : TO} (q : te σ H fun x H1 => tl σ H1 fun l H2 => th σ H2 fun u H3 => r x l u H3 Q) : tSl r te tl th σ H Q := q
theorem q_noPart {P : Option Int → Hp → Prop} (q : P none H) : tNoPart σ H P := q
theorem q_part {t : TE} {P : Option Int → Hp → Prop} (q : t σ H fun x H1 => ∃ i, x = .int i ∧ P (some i) H1) : tPart t σ H P := q
/-! things -/
theorem q_ixL {p : Addr} {xs : List V} {i : Int} {v : V} (h : H p = some (.lst xs)) (e : atI xs i = some v) (q : Q v H) : rIxL K (.ref p) (.int i) H Q := ⟨p, xs, i, v, rfl, rfl, SqL.of h, e, q⟩
theorem q_ixT {p : Addr} {xs : List V} {i : Int} {v : V} (h : H p = some (.tup xs)) (e : atI xs i = some v) (q : Q v H) : rIxT K (.ref p) (.int i) H Q := ⟨p, xs, i, v, rfl, rfl, SqT.of h, e, q⟩
theorem q_lenL {p : Addr} {ys : List V} (h : H p = some (.lst ys)) (q : Q (.int ys.length) H) : rLenK K [.ref p] H Q := ⟨p, ys, rfl, .inl (SqL.of h), q⟩
theorem q_lenT {p : Addr} {ys : List V} (h : H p = some (.tup ys)) (q : Q (.int ys.length) H) : rLenK K [.ref p] H Q := ⟨p, ys, rfl, .inr (SqT.of h), q⟩
theorem q_lenS {p : Addr} {ys : List V} (h : SqL K H p ys) (q : Q (.int ys.length) H) : rLenK K [.ref p] H Q := ⟨p, ys, rfl, .inl h, q⟩
theorem q_setL {p : Addr} {xs : List V} {i : Int} {j : Nat} {v : V} {P : Hp → Prop} (h : H p = some (.lst xs)) (e : ixN xs.length i = some j) (q : P (upd H p (.lst (xs.set j v)))) : rSetL (.ref p) (.int i) v H P := ⟨p, xs, i, j, rfl, rfl, h, e, q⟩
theorem q_append {l : Addr} {xs : List V} {y : V} (h : H l = some (.lst xs)) (s : xs.length < 16000000) (q : Q .non (upd H l (.lst (xs ++ [y])))) : rAppend (.ref l) [y] H Q := ⟨l, xs, y, rfl, rfl, h, by rw [sizeLine_eq]; omega, q⟩
theorem q_popAt {l : Addr} {xs : List V} {i : Nat} {y : V} (h : H l = some (.lst xs)) (e : xs[i]? = some y) (s : xs.length ≤ 16000000) (q : Q y (upd H l (.lst (xs.eraseIdx i)))) : rPopAt (.ref l) [.int i] H Q := by
  have hlt : i < xs.length := (List.getElem?_eq_some_iff.mp e).1
  have small : ((xs.length : Nat) : Int) ≤ 16000000 := by omega
  refine ⟨l, xs, i, i, y, rfl, rfl, h, by omega, by omega, ?_, e, q⟩
  have n : ¬ ((i : Int) < 0) := by omega
  unfold seqIndex?
  simp only [if_neg n]
  rw [if_pos (by simp; omega)]
  simp
def rList (K : PySem.W.Frag) : List V → Hp → VK → Prop := fun xs H Q => ∃ p ys, xs = [.ref p] ∧ (SqL K H p ys ∨ SqT K H p ys) ∧ ∀ l, H l = none → Q (.ref l) (upd H l (.lst ys))
def rTuple (K : PySem.W.Frag) : List V → Hp → VK → Prop := fun xs H Q => ∃ p ys, xs = [.ref p] ∧ ((SqL K H p ys ∧ ∀ l, H l = none → Q (.ref l) (upd H l (.tup ys))) ∨ (SqT K H p ys ∧ Q (.ref p) H))
theorem q_tupleL {p : Addr} {ys : List V} (h : H p = some (.lst ys)) (q : ∀ l, H l = none → Q (.ref l) (upd H l (.tup ys))) : rTuple K [.ref p] H Q := ⟨p, ys, rfl, .inl ⟨SqL.of h, q⟩⟩
theorem q_listL {p : Addr} {ys : List V} (h : H p = some (.lst ys)) (q : ∀ l, H l = none → Q (.ref l) (upd H l (.lst ys))) : rList K [.ref p] H Q := ⟨p, ys, rfl, .inl (SqL.of h), q⟩
theorem q_listT {p : Addr} {ys : List V} (h : H p = some (.tup ys)) (q : ∀ l, H l = none → Q (.ref l) (upd H l (.lst ys))) : rList K [.ref p] H Q := ⟨p, ys, rfl, .inr (SqT.of h), q⟩
def rIsN : R2 := fun x y H Q => y = .non ∧ Q (.bl (decide (x = .non))) H
def rNotN : R2 := fun x y H Q => y = .non ∧ Q (.bl (!decide (x = .non))) H
def rMax2 : List V → Hp → VK → Prop := fun xs H Q => ∃ i j, xs = [.int i, .int j] ∧ Q (.int (if j > i then j else i)) H
def rMin2 : List V → Hp → VK → Prop := fun xs H Q => ∃ i j, xs = [.int i, .int j] ∧ Q (.int (if j < i then j else i)) H
theorem q_isN {x : V} (q : Q (.bl (decide (x = .non))) H) : rIsN x .non H Q := ⟨rfl, q⟩
theorem q_notN {x : V} (q : Q (.bl (!decide (x = .non))) H) : rNotN x .non H Q := ⟨rfl, q⟩
theorem q_max2 {i j : Int} (q : Q (.int (max i j)) H) : rMax2 [.int i, .int j] H Q := ⟨i, j, rfl, by
  rw [show (if j > i then j else i) = max i j by rw [Int.max_def]; split <;> split <;> omega]
  exact q⟩
theorem q_min2 {i j : Int} (q : Q (.int (min i j)) H) : rMin2 [.int i, .int j] H Q := ⟨i, j, rfl, by
  rw [show (if j < i then j else i) = min i j by rw [Int.min_def]; split <;> split <;> omega]
  exact q⟩
theorem q_sum {a : Addr} {ns : List Int} (h : H a = some (.lst (ns.map V.int))) (q : Q (.int ns.sum) H) : rSum K [.ref a] H Q := ⟨a, ns, rfl, SqL.of h, q⟩
theorem q_maxL {a : Addr} {ns : List Int} (h : H a = some (.lst (ns.map V.int))) (l : 0 < ns.length) (q : ∀ m, m ∈ ns → (∀ y, y ∈ ns → y ≤ m) → Q (.int m) H) : rMax K [.ref a] H Q := ⟨a, ns, rfl, SqL.of h, l, q⟩
theorem q_minL {a : Addr} {ns : List Int} (h : H a = some (.lst (ns.map V.int))) (l : 0 < ns.length) (q : ∀ m, m ∈ ns → (∀ y, y ∈ ns → m ≤ y) → Q (.int m) H) : rMin K [.ref a] H Q := ⟨a, ns, rfl, SqL.of h, l, q⟩
theorem q_all {a : Addr} {bs : List Bool} (h : H a = some (.lst (bs.map V.bl))) (q : Q (.bl (bs.all id)) H) : rAll K [.ref a] H Q := ⟨a, bs, rfl, SqL.of h, q⟩
theorem q_any {a : Addr} {bs : List Bool} (h : H a = some (.lst (bs.map V.bl))) (q : Q (.bl (bs.any id)) H) : rAny K [.ref a] H Q := ⟨a, bs, rfl, SqL.of h, q⟩
theorem q_slL {a : Addr} {xs : List V} {lo hi : Option Int} (h : H a = some (.lst xs)) (q : ∀ p, H p = none → Q (.ref p) (upd H p (.lst (cutV xs lo hi)))) : rSlL K (.ref a) lo hi H Q := ⟨a, xs, rfl, SqL.of h, q⟩
theorem cutV_lo {xs : List V} {a : Nat} (h : a ≤ xs.length) : cutV xs none (some (a : Int)) = xs.take a := by
  unfold cutV
  rw [HT.sIx_nat, HT.sIx_none, List.drop_zero, Nat.min_eq_left h, Nat.sub_zero]
theorem cutV_hi {xs : List V} {a : Nat} (h : a ≤ xs.length) : cutV xs (some (a : Int)) none = xs.drop a := by
  unfold cutV
  rw [HT.sIx_nat, HT.sIx_none, Nat.min_eq_left h]
  exact List.take_of_length_le (by rw [List.length_drop]; exact Nat.le_refl _)
theorem cutV_one {xs : List V} : cutV xs (some 1) none = xs.drop 1 := by
  rcases xs with _ | ⟨x, r⟩
  · rfl
  · exact cutV_hi (a := 1) (xs := x :: r) (by simp)
theorem q_catL {a b : Addr} {xs ys : List V} (ha : H a = some (.lst xs)) (hb : H b = some (.lst ys)) (s : xs.length + ys.length ≤ 16000000) (q : ∀ p, H p = none → Q (.ref p) (upd H p (.lst (xs ++ ys)))) : rCat (.ref a) (.ref b) H Q := ⟨a, b, xs, ys, rfl, rfl, ha, hb, by rw [sizeLine_eq]; omega, q⟩
theorem q_eqD {x y : V} {d e : PyData} (h1 : Dp K H x d) (h2 : Dp K H y e) (s1 : SeqAt.shaped d = true) (s2 : SeqAt.shaped e = true) (q : Q (.bl (PyData.eqv d e)) H) : rEqD K x y H Q := ⟨d, e, h1, h2, s1, s2, q⟩
theorem q_neD {x y : V} {d e : PyData} (h1 : Dp K H x d) (h2 : Dp K H y e) (s1 : SeqAt.shaped d = true) (s2 : SeqAt.shaped e = true) (q : Q (.bl (!PyData.eqv d e)) H) : rNeD K x y H Q := ⟨d, e, h1, h2, s1, s2, q⟩
theorem q_isiI {i : Int} (q : Q (.bl true) H) : rIsi K [.int i, .ty "int"] H Q := ⟨_, _, _, _, _, rfl, .ty _, (Kd.int (K := K) (H := H) i).ty, (Kd.int (K := K) (H := H) i).int?, q⟩
theorem q_isiB {i : Int} (q : Q (.bl false) H) : rIsi K [.int i, .ty "bool"] H Q := ⟨_, _, _, _, _, rfl, .ty _, (Kd.int (K := K) (H := H) i).ty, (Kd.int (K := K) (H := H) i).bool?, q⟩
theorem q_isiL {a : Addr} {xs : List V} (h : H a = some (.lst xs)) (q : Q (.bl true) H) : rIsi K [.ref a, .ty "list"] H Q := ⟨_, _, _, _, _, rfl, .ty _, .base (.lst h), kit_ty (r := true) (by decide +kernel), q⟩
theorem q_isiT {a : Addr} {xs : List V} (h : H a = some (.tup xs)) (q : Q (.bl true) H) : rIsi K [.ref a, .ty "tuple"] H Q := ⟨_, _, _, _, _, rfl, .ty _, .base (.tup h), kit_ty (r := true) (by decide +kernel), q⟩
theorem flat_ints (ns : List Int) : (ns.map V.int).all flatV = true := by
  rw [List.all_eq_true]
  intro v hv
  obtain ⟨n, _, rfl⟩ := List.mem_map.mp hv
  rfl
theorem inV_ints {v : Int} : ∀ ns : List Int, inV (.int v) (ns.map V.int) = decide (v ∈ ns)
  | [] => rfl
  | n :: ns => by
    unfold inV
    rw [List.map_cons, List.any_cons]
    have ih := inV_ints (v := v) ns
    unfold inV at ih
    rw [ih]
    show (n == v || _) = _
    by_cases h : n = v
    · subst h
      simp
    · rw [show (n == v) = false from beq_eq_false_iff_ne.mpr h, Bool.false_or]
      have : v ≠ n := fun e => h e.symm
      simp [this]
theorem q_inI {p : Addr} {ns : List Int} {v : Int} (h : H p = some (.lst (ns.map V.int))) (q : Q (.bl (decide (v ∈ ns))) H) : rIn K false (.int v) (.ref p) H Q := ⟨p, _, rfl, .inl (SqL.of h), rfl, flat_ints ns, by
  rw [if_neg Bool.false_ne_true, inV_ints]
  exact q⟩
theorem q_niI {p : Addr} {ns : List Int} {v : Int} (h : H p = some (.lst (ns.map V.int))) (q : Q (.bl (!decide (v ∈ ns))) H) : rIn K true (.int v) (.ref p) H Q := ⟨p, _, rfl, .inl (SqL.of h), rfl, flat_ints ns, by
  rw [if_pos rfl, inV_ints]
  exact q⟩
theorem q_niIT {p : Addr} {ns : List Int} {v : Int} (h : H p = some (.tup (ns.map V.int))) (q : Q (.bl (!decide (v ∈ ns))) H) : rIn K true (.int v) (.ref p) H Q := ⟨p, _, rfl, .inr (SqT.of h), rfl, flat_ints ns, by
  rw [if_pos rfl, inV_ints]
  exact q⟩
theorem q_indexI {a : Addr} {ns : List Int} {v : Int} {j : Nat} (h : H a = some (.lst (ns.map V.int))) (e : ns[j]? = some v) (f : ∀ (m : Nat), m < j → ns[m]? ≠ some v) (q : Q (.int (j : Nat)) H) : rIndex K (.ref a) [.int v] H Q := by
  refine ⟨a, _, .int v, j, .int v, rfl, rfl, SqL.of h, rfl, flat_ints ns, by rw [List.getElem?_map, e]; rfl, by show (v == v) = true; simp, fun m z hm hz => ?_, q⟩
  rw [List.getElem?_map] at hz
  cases hn : ns[m]? with
  | none => rw [hn] at hz; cases hz
  | some n =>
    rw [hn] at hz
    have := Option.some.inj hz
    subst this
    show (n == v) = false
    exact beq_eq_false_iff_ne.mpr fun c => f m hm (by rw [hn, c])
theorem first_at {v : Int} : ∀ {ns : List Int}, v ∈ ns → ∃ j : Nat, ns[j]? = some v ∧ ∀ m : Nat, m < j → ns[m]? ≠ some v
  | n :: ns, h => by
    by_cases c : n = v
    · subst c
      exact ⟨0, rfl, fun m hm => absurd hm (Nat.not_lt_zero m)⟩
    · have h2 : v ∈ ns := by
        rcases List.mem_cons.mp h with e | e
        · exact absurd e.symm c
        · exact e
      obtain ⟨j, h3, h4⟩ := first_at h2
      refine ⟨j + 1, h3, fun m hm => ?_⟩
      cases m with
      | zero => exact fun z => c (Option.some.inj z)
      | succ m => exact h4 m (by omega)
theorem first_eq {v : Int} {ns : List Int} {i j : Nat} (a : ns[i]? = some v) (a' : ∀ m : Nat, m < i → ns[m]? ≠ some v) (b : ns[j]? = some v) (b' : ∀ m : Nat, m < j → ns[m]? ≠ some v) : i = j := by
  rcases Nat.lt_trichotomy i j with h | h | h
  · exact absurd a (b' i h)
  · exact h
  · exact absurd b (a' j h)
theorem at_mem {xs : List V} {n : Int} (h0 : 0 ≤ n) (h1 : n < xs.length) : ∃ v, v ∈ xs ∧ atI xs n = some v := by
  obtain ⟨j, rfl⟩ : ∃ j : Nat, n = (j : Int) := ⟨_, (Int.toNat_of_nonneg h0).symm⟩
  have hj : j < xs.length := by omega
  exact ⟨xs[j], List.getElem_mem hj, atI_nat (List.getElem?_eq_getElem hj)⟩
/-! what stands behind a test -/
theorem q_ifT {A B : Prop} (h : A) : if true = true then A else B := iteT h
theorem q_ifF {A B : Prop} (h : B) : if false = true then A else B := iteF h
theorem q_ifNT {A B : Prop} (h : B) : if (!true) = true then A else B := iteF h
theorem q_ifNF {A B : Prop} (h : A) : if (!false) = true then A else B := iteT h
theorem q_ifNN {b : Bool} {A B : Prop} (h : if b = true then A else B) : if (!!b) = true then A else B := by
  rw [Bool.not_not]
  exact h
theorem q_ifD {p : Prop} [Decidable p] {A B : Prop} (h1 : p → A) (h2 : ¬ p → B) : if decide p = true then A else B := by
  by_cases h : p
  · rw [if_pos (decide_eq_true h)]
    exact h1 h
  · rw [if_neg (by rw [decide_eq_false h]; exact Bool.false_ne_true)]
    exact h2 h
theorem q_ifDT {p : Prop} [Decidable p] {A B : Prop} (h : p) (q : A) : if decide p = true then A else B := q_ifD (fun _ => q) fun n => absurd h n
theorem q_ifDF {p : Prop} [Decidable p] {A B : Prop} (h : ¬ p) (q : B) : if decide p = true then A else B := q_ifD (fun n => absurd n h) fun _ => q
theorem q_ifN {p : Prop} [Decidable p] {A B : Prop} (h1 : ¬ p → A) (h2 : p → B) : if (!decide p) = true then A else B := by
  by_cases h : p
  · rw [decide_eq_true h]
    exact iteF (h2 h)
  · rw [decide_eq_false h]
    exact iteT (h1 h)
theorem q_ifNDT {p : Prop} [Decidable p] {A B : Prop} (h : ¬ p) (q : A) : if (!decide p) = true then A else B := q_ifN (fun _ => q) fun n => absurd n h
theorem q_ifNDF {p : Prop} [Decidable p] {A B : Prop} (h : p) (q : B) : if (!decide p) = true then A else B := q_ifN (fun n => absurd h n) fun _ => q
theorem q_ifB {b : Bool} {A B : Prop} (h1 : b = true → A) (h2 : b = false → B) : if b = true then A else B := by
  cases b with
  | true => exact iteT (h1 rfl)
  | false => exact iteF (h2 rfl)
end
/-! ### statements, what is wanted behind them written out -/
section
variable {K : PySem.W.Frag} {σ : L2.St} {H : Hp} {nx bk ct : L2.St → Hp → Prop} {rt : VK}
theorem q_seq {t u : TS} (q : t ⟨fun σ H => u ⟨nx, rt, bk, ct⟩ σ H, rt, bk, ct⟩ σ H) : tSeq t u ⟨nx, rt, bk, ct⟩ σ H := q
theorem q_next (q : nx σ H) : tNext ⟨nx, rt, bk, ct⟩ σ H := q
theorem q_break (q : bk σ H) : tBreak ⟨nx, rt, bk, ct⟩ σ H := q
theorem q_cont (q : ct σ H) : tCont ⟨nx, rt, bk, ct⟩ σ H := q
theorem q_drop {te : TE} (q : te σ H fun _ H1 => nx σ H1) : tDrop te ⟨nx, rt, bk, ct⟩ σ H := q
theorem q_ret {te : TE} (q : te σ H rt) : tRet te ⟨nx, rt, bk, ct⟩ σ H := q
theorem q_retN (q : rt .non H) : tRetN ⟨nx, rt, bk, ct⟩ σ H := q
theorem q_ifS {c : TT} {t u : TS} (q : c σ H fun b H1 => if b = true then t ⟨nx, rt, bk, ct⟩ σ H1 else u ⟨nx, rt, bk, ct⟩ σ H1) : tIfS c t u ⟨nx, rt, bk, ct⟩ σ H := q
theorem q_asg {te : TE} {g : TG} (q : te σ H fun x H1 => g x σ H1 nx) : tAsg te g ⟨nx, rt, bk, ct⟩ σ H := q
theorem q_par {i j : Nat} {ta : TA} (q : ta σ H fun vs H1 => ∃ v w, vs = [v, w] ∧ nx ((σ.set i (some v)).set j (some w)) H1) : tPar i j ta ⟨nx, rt, bk, ct⟩ σ H := q
theorem q_aug {i : Nat} {te : TE} {ti : TIp} {x : V} (e : σ[i]? = some (some x)) (q : te σ H fun y H1 => ti x y H1 fun z H2 => nx (σ.set i (some z)) H2) : tAug i te ti ⟨nx, rt, bk, ct⟩ σ H := ⟨x, e, q⟩
theorem q_g {i : Nat} {v : V} {τ : L2.St} {P : L2.St → Hp → Prop} (e : σ.set i (some v) = τ) (q : P τ H) : gName i v σ H P := by
  subst e
  exact q
theorem q_set {i : Nat} {v : V} {τ : L2.St} {P : L2.St → Hp → Prop} (e : σ.set i (some v) = τ) (q : P τ H) : P (σ.set i (some v)) H := by
  subst e
  exact q
theorem q_gsub {to ti : TE} {t : TSet} {v : V} {P : L2.St → Hp → Prop} (q : to σ H fun o H1 => ti σ H1 fun i H2 => t o i v H2 fun H3 => P σ H3) : gSub to ti t v σ H P := q
theorem q_gnil {P : L2.St → Hp → Prop} (q : P σ H) : gNil [] σ H P := ⟨rfl, q⟩
theorem q_gcons {t : TG} {u : TGs} {v : V} {r : List V} {P : L2.St → Hp → Prop} (q : t v σ H fun σ' H' => u r σ' H' P) : gCons t u (v :: r) σ H P := ⟨v, r, rfl, q⟩
theorem q_gtup {n : Nat} {t : TGs} {a : Addr} {xs : List V} {P : L2.St → Hp → Prop} (h : H a = some (.tup xs)) (l : xs.length = n) (q : t xs σ H P) : gTup K n t (.ref a) σ H P := ⟨a, xs, rfl, SqT.of h, l, q⟩
theorem q_start {t : TS} {D : Ends} {N : List PySem.Str} {vs : List V} {τ : L2.St} (e : L2.start N vs = τ) (q : t D τ H) : t D (L2.start N vs) H := by
  rw [e]
  exact q
/-- a walk of J, its body from turn to turn -/
def Loop (J : It) (g : TG) (tb : TS) (nx : L2.St → Hp → Prop) (rt : VK) (σ : L2.St) (H : Hp) : Prop := ∃ W : Nat → Nat → L2.St → Hp → Prop, (∃ m, W 0 m σ H) ∧ ∀ i m σ H, W i m σ H →
  (J.stop i H ∧ nx σ H) ∨ (J.go i H ∧ ∃ N : L2.St → Hp → Prop, (∀ σ' H', N σ' H' → ∃ m', m' < m ∧ W (i + 1) m' σ' H') ∧ ∀ x H', J.yld i H x H' → g x σ H' fun σ2 H2 => tb ⟨N, rt, nx, N⟩ σ2 H2)
theorem q_for {wi : TI} {g : TG} {tb : TS} (q : wi σ H fun J H1 => Loop J g tb nx rt σ H1) : tFor wi g tb ⟨nx, rt, bk, ct⟩ σ H := q
theorem q_iList {tl : TE} {P : It → Hp → Prop} (q : tl σ H fun x H1 => ∃ a, x = .ref a ∧ (∃ xs, SqL K H1 a xs) ∧ P (Itl K a) H1) : iList K tl σ H P := q
theorem q_iTup {tl : TE} {P : It → Hp → Prop} (q : tl σ H fun x H1 => ∃ a, x = .ref a ∧ (∃ xs, SqT K H1 a xs) ∧ P (Itt K a) H1) : iTup K tl σ H P := q
theorem q_isL {a : Addr} {xs : List V} {P : Addr → Prop} (h : H a = some (.lst xs)) (q : P a) : ∃ b, V.ref a = .ref b ∧ (∃ xs, SqL K H b xs) ∧ P b := ⟨a, rfl, ⟨_, SqL.of h⟩, q⟩
theorem q_isT {a : Addr} {xs : List V} {P : Addr → Prop} (h : H a = some (.tup xs)) (q : P a) : ∃ b, V.ref a = .ref b ∧ (∃ xs, SqT K H b xs) ∧ P b := ⟨a, rfl, ⟨_, SqT.of h⟩, q⟩
theorem q_iRng {ta : TA} {P : It → Hp → Prop} (q : ta σ H fun vs H1 => ∃ j : Int, vs = [.int j] ∧ -(2 ^ 62) ≤ j ∧ j < 2 ^ 62 ∧ P (Itr 0 j.toNat) H1) : iRng1 ta σ H P := q
theorem q_rng {j : Int} {P : Int → Prop} (h : -(2 ^ 62) ≤ j ∧ j < 2 ^ 62) (q : P j) : ∃ k : Int, [V.int j] = [.int k] ∧ -(2 ^ 62) ≤ k ∧ k < 2 ^ 62 ∧ P k := ⟨j, rfl, h.1, h.2, q⟩
theorem q_iEnum {ta : TA} {P : It → Hp → Prop} (q : ta σ H fun vs H1 => ∃ a xs, vs = [.ref a] ∧ SqL K H1 a xs ∧ P (Ite K a) H1) : iEnum K ta σ H P := q
theorem q_enum {a : Addr} {xs : List V} {P : Addr → Prop} (h : H a = some (.lst xs)) (q : P a) : ∃ b xs, [V.ref a] = [.ref b] ∧ SqL K H b xs ∧ P b := ⟨a, xs, rfl, SqL.of h, q⟩
theorem q_iZip {ta : TA} {P : It → Hp → Prop} (q : ta σ H fun vs H1 => ∃ a b xs ys, vs = [.ref a, .ref b] ∧ SqL K H1 a xs ∧ SqL K H1 b ys ∧ P (Itz K a b) H1) : iZip K ta σ H P := q
theorem q_zip {a b : Addr} {xs ys : List V} {P : Addr → Addr → Prop} (h : H a = some (.lst xs)) (h' : H b = some (.lst ys)) (q : P a b) : ∃ c d xs ys, [V.ref a, .ref b] = [.ref c, .ref d] ∧ SqL K H c xs ∧ SqL K H d ys ∧ P c d := ⟨a, b, xs, ys, rfl, SqL.of h, SqL.of h', q⟩
variable {g : TG} {tb : TS}
theorem loop_range {n : Nat} (Pv : Nat → L2.St → Hp → Prop) (h0 : Pv 0 σ H)
    (hs : ∀ (i : Nat) σ H, i < n → Pv i σ H → g (.int (i : Nat)) σ H fun σ2 H2 => tb ⟨Pv (i + 1), rt, nx, Pv (i + 1)⟩ σ2 H2) (hd : ∀ σ H, Pv n σ H → nx σ H) : Loop (Itr 0 n) g tb nx rt σ H :=
  for_range (D := ⟨nx, rt, fun _ _ => False, fun _ _ => False⟩) Pv h0 (fun i σ H h p => by rw [Int.zero_add]; exact hs i σ H h p) hd
theorem loop_list {a : Addr} {xs : List V} (Pv : Nat → L2.St → Hp → Prop) (h0 : Pv 0 σ H) (hl : ∀ i σ H, i ≤ xs.length → Pv i σ H → H a = some (.lst xs))
    (hs : ∀ i x σ H, xs[i]? = some x → Pv i σ H → g x σ H fun σ2 H2 => tb ⟨Pv (i + 1), rt, nx, Pv (i + 1)⟩ σ2 H2) (hd : ∀ σ H, Pv xs.length σ H → nx σ H) : Loop (Itl K a) g tb nx rt σ H :=
  for_list (D := ⟨nx, rt, fun _ _ => False, fun _ _ => False⟩) Pv h0 (fun i σ H h p => SqL.of (hl i σ H h p)) hs hd
theorem loop_tup {a : Addr} {xs : List V} (Pv : Nat → L2.St → Hp → Prop) (h0 : Pv 0 σ H) (hl : ∀ i σ H, i ≤ xs.length → Pv i σ H → H a = some (.tup xs))
    (hs : ∀ i x σ H, xs[i]? = some x → Pv i σ H → g x σ H fun σ2 H2 => tb ⟨Pv (i + 1), rt, nx, Pv (i + 1)⟩ σ2 H2) (hd : ∀ σ H, Pv xs.length σ H → nx σ H) : Loop (Itt K a) g tb nx rt σ H :=
  for_tup (D := ⟨nx, rt, fun _ _ => False, fun _ _ => False⟩) Pv h0 (fun i σ H h p => SqT.of (hl i σ H h p)) hs hd
theorem loop_enum {a : Addr} {xs : List V} (Pv : Nat → L2.St → Hp → Prop) (h0 : Pv 0 σ H) (hl : ∀ i σ H, i ≤ xs.length → Pv i σ H → H a = some (.lst xs))
    (hs : ∀ i x σ H T, xs[i]? = some x → Pv i σ H → H T = none → g (.ref T) σ (upd H T (.tup [.int (i : Nat), x])) fun σ2 H2 => tb ⟨Pv (i + 1), rt, nx, Pv (i + 1)⟩ σ2 H2) (hd : ∀ σ H, Pv xs.length σ H → nx σ H) : Loop (Ite K a) g tb nx rt σ H := by
  refine ⟨fun i m σ H => m = xs.length - i ∧ i ≤ xs.length ∧ Pv i σ H, ⟨xs.length, by simp, Nat.zero_le _, h0⟩, ?_⟩
  rintro i m σ H ⟨rfl, hi, p⟩
  have q : SqL K H a xs := SqL.of (hl i σ H hi p)
  by_cases hlt : i < xs.length
  · refine .inr ⟨⟨xs, xs[i], q, by simp [hlt]⟩, Pv (i + 1), fun σ' H' p' => ⟨xs.length - (i + 1), by omega, rfl, hlt, p'⟩, fun x H' y => ?_⟩
    obtain ⟨T, y1, e1, e2, e3, e4⟩ := y
    subst e1 e3
    exact hs i y1 σ H T (e4 xs q) p e2
  · have e : i = xs.length := by omega
    subst e
    exact .inl ⟨⟨xs, q, Nat.le_refl _⟩, hd σ H p⟩
theorem loop_zip {a b : Addr} {xs ys : List V} {n : Nat} (hn : n = min xs.length ys.length) (Pv : Nat → L2.St → Hp → Prop) (h0 : Pv 0 σ H) (hl : ∀ i σ H, Pv i σ H → H a = some (.lst xs) ∧ H b = some (.lst ys))
    (hs : ∀ i x y σ H T, xs[i]? = some x → ys[i]? = some y → Pv i σ H → H T = none → g (.ref T) σ (upd H T (.tup [x, y])) fun σ2 H2 => tb ⟨Pv (i + 1), rt, nx, Pv (i + 1)⟩ σ2 H2) (hd : ∀ σ H, Pv n σ H → nx σ H) : Loop (Itz K a b) g tb nx rt σ H := by
  refine ⟨fun i m σ H => m = n - i ∧ i ≤ n ∧ Pv i σ H, ⟨n, by simp, Nat.zero_le _, h0⟩, ?_⟩
  rintro i m σ H ⟨rfl, hi, p⟩
  have q1 : SqL K H a xs := SqL.of (hl i σ H p).1
  have q2 : SqL K H b ys := SqL.of (hl i σ H p).2
  by_cases hlt : i < n
  · have l1 : i < xs.length := by omega
    have l2 : i < ys.length := by omega
    refine .inr ⟨⟨xs, ys, xs[i], ys[i], q1, q2, by simp [l1], by simp [l2]⟩, Pv (i + 1), fun σ' H' p' => ⟨n - (i + 1), by omega, rfl, hlt, p'⟩, fun x H' y => ?_⟩
    obtain ⟨T, y1, y2, e1, e2, e3, e4, e5⟩ := y
    subst e1 e3
    exact hs i y1 y2 σ H T (e4 xs q1) (e5 ys q2) p e2
  · have e : i = n := by omega
    subst e
    exact .inl ⟨⟨xs, ys, q1, q2, by omega⟩, hd σ H p⟩
/-- while, the test's reading told -/
theorem q_while {c : TT} (Pv : L2.St → Hp → Prop) (μ : L2.St → Hp → Nat) (h0 : Pv σ H)
    (hs : ∀ σ H, Pv σ H → c σ H fun b H1 => if b = true then tb ⟨fun σ' H' => Pv σ' H' ∧ μ σ' H' < μ σ H, rt, nx, fun σ' H' => Pv σ' H' ∧ μ σ' H' < μ σ H⟩ σ H1 else nx σ H1)
    (mono : ∀ σ H Q Q', (∀ b H1, Q b H1 → Q' b H1) → c σ H Q → c σ H Q') : tWhile c tb ⟨nx, rt, bk, ct⟩ σ H :=
  while_by (D := ⟨nx, rt, bk, ct⟩) Pv μ h0 hs mono
/-! comprehensions -/
/-- a list comprehension's walk: D is the new list -/
def LoopC (J : It) (g : TG) (tt : TT) (te : TE) (τ : L2.St) (vs : List Nat) (D : Addr) (Qd : Hp → Prop) (H : Hp) : Prop := ∃ W : Nat → Nat → Hp → Prop, (∃ m, W 0 m H) ∧ ∀ i m H, W i m H →
  (J.stop i H ∧ Qd H) ∨ (J.go i H ∧ ∃ Nx : Hp → Prop, (∀ H', Nx H' → ∃ m', m' < m ∧ W (i + 1) m' H') ∧ ∀ x H', J.yld i H x H' → g x τ H' fun σ2 H2 => wipe σ2 vs = τ ∧ tt σ2 H2 fun b H3 =>
    if b = true then te σ2 H3 fun y H4 => ∃ acc, H4 D = some (.lst acc) ∧ acc.length < sizeLine ∧ Nx (upd H4 D (.lst (acc ++ [y]))) else Nx H3)
theorem q_lc {wi : TI} {tt : TT} {te : TE} {vs : List Nat} {τ : L2.St} {Q : VK} (e : wipe σ vs = τ) (q : wi σ H fun J H1 => ∀ D, H1 D = none → LoopC J g tt te τ vs D (fun H => Q (.ref D) H) (upd H1 D (.lst []))) : tLc wi g tt te vs σ H Q := by
  subst e
  exact q
section
variable {tt : TT} {te : TE} {vs : List Nat} {τ : L2.St} {D : Addr} {Qd : Hp → Prop}
/-- one turn of it -/
def TurnC (g : TG) (tt : TT) (te : TE) (τ : L2.St) (vs : List Nat) (D : Addr) (x : V) (Nx : Hp → Prop) (H : Hp) : Prop := g x τ H fun σ2 H2 => wipe σ2 vs = τ ∧ tt σ2 H2 fun b H3 =>
  if b = true then te σ2 H3 fun y H4 => ∃ acc, H4 D = some (.lst acc) ∧ acc.length < sizeLine ∧ Nx (upd H4 D (.lst (acc ++ [y]))) else Nx H3
theorem q_turn {x : V} {Nx : Hp → Prop} (q : g x τ H fun σ2 H2 => wipe σ2 vs = τ ∧ tt σ2 H2 fun b H3 => if b = true then te σ2 H3 fun y H4 => ∃ acc, H4 D = some (.lst acc) ∧ acc.length < sizeLine ∧ Nx (upd H4 D (.lst (acc ++ [y]))) else Nx H3) : TurnC g tt te τ vs D x Nx H := q
theorem q_wiped {P : Prop} (e : wipe σ vs = τ) (q : P) : wipe σ vs = τ ∧ P := ⟨e, q⟩
theorem q_push {acc : List V} {P : List V → Prop} (h : H D = some (.lst acc)) (s : acc.length < 16000000) (q : P acc) : ∃ acc, H D = some (.lst acc) ∧ acc.length < sizeLine ∧ P acc := ⟨acc, h, by rw [sizeLine_eq]; omega, q⟩
theorem lcp_range {n : Nat} (Pv : Nat → Hp → Prop) (h0 : Pv 0 H) (hs : ∀ (i : Nat) H, i < n → Pv i H → TurnC g tt te τ vs D (.int (i : Nat)) (Pv (i + 1)) H) (hd : ∀ H, Pv n H → Qd H) : LoopC (Itr 0 n) g tt te τ vs D Qd H := by
  refine ⟨fun i m H => m = n - i ∧ i ≤ n ∧ Pv i H, ⟨n, by simp, Nat.zero_le _, h0⟩, ?_⟩
  rintro i m H ⟨rfl, hi, p⟩
  by_cases hlt : i < n
  · refine .inr ⟨hlt, Pv (i + 1), fun H' p' => ⟨n - (i + 1), by omega, rfl, hlt, p'⟩, fun x H' y => ?_⟩
    obtain ⟨e, y⟩ := y
    subst e y
    rw [Int.zero_add]
    exact hs i _ hlt p
  · have e : i = n := by omega
    subst e
    exact .inl ⟨Nat.le_refl _, hd H p⟩
theorem lcp_list {a : Addr} {xs : List V} (Pv : Nat → Hp → Prop) (h0 : Pv 0 H) (hl : ∀ i H, i ≤ xs.length → Pv i H → H a = some (.lst xs)) (hs : ∀ i x H, xs[i]? = some x → Pv i H → TurnC g tt te τ vs D x (Pv (i + 1)) H) (hd : ∀ H, Pv xs.length H → Qd H) : LoopC (Itl K a) g tt te τ vs D Qd H := by
  refine ⟨fun i m H => m = xs.length - i ∧ i ≤ xs.length ∧ Pv i H, ⟨xs.length, by simp, Nat.zero_le _, h0⟩, ?_⟩
  rintro i m H ⟨rfl, hi, p⟩
  have q : SqL K H a xs := SqL.of (hl i H hi p)
  by_cases hlt : i < xs.length
  · refine .inr ⟨⟨xs, xs[i], q, by simp [hlt]⟩, Pv (i + 1), fun H' p' => ⟨xs.length - (i + 1), by omega, rfl, hlt, p'⟩, fun x H' y => ?_⟩
    obtain ⟨e, y⟩ := y
    subst e
    exact hs i x _ (y xs q) p
  · have e : i = xs.length := by omega
    subst e
    exact .inl ⟨⟨xs, q, Nat.le_refl _⟩, hd H p⟩
theorem lcp_tup {a : Addr} {xs : List V} (Pv : Nat → Hp → Prop) (h0 : Pv 0 H) (hl : ∀ i H, i ≤ xs.length → Pv i H → H a = some (.tup xs)) (hs : ∀ i x H, xs[i]? = some x → Pv i H → TurnC g tt te τ vs D x (Pv (i + 1)) H) (hd : ∀ H, Pv xs.length H → Qd H) : LoopC (Itt K a) g tt te τ vs D Qd H := by
  refine ⟨fun i m H => m = xs.length - i ∧ i ≤ xs.length ∧ Pv i H, ⟨xs.length, by simp, Nat.zero_le _, h0⟩, ?_⟩
  rintro i m H ⟨rfl, hi, p⟩
  have q : SqT K H a xs := SqT.of (hl i H hi p)
  by_cases hlt : i < xs.length
  · refine .inr ⟨⟨xs, xs[i], q, by simp [hlt]⟩, Pv (i + 1), fun H' p' => ⟨xs.length - (i + 1), by omega, rfl, hlt, p'⟩, fun x H' y => ?_⟩
    obtain ⟨e, y⟩ := y
    subst e
    exact hs i x _ (y xs q) p
  · have e : i = xs.length := by omega
    subst e
    exact .inl ⟨⟨xs, q, Nat.le_refl _⟩, hd H p⟩
theorem lcp_enum {a : Addr} {xs : List V} (Pv : Nat → Hp → Prop) (h0 : Pv 0 H) (hl : ∀ i H, i ≤ xs.length → Pv i H → H a = some (.lst xs)) (hs : ∀ i x H T, xs[i]? = some x → Pv i H → H T = none → TurnC g tt te τ vs D (.ref T) (Pv (i + 1)) (upd H T (.tup [.int (i : Nat), x]))) (hd : ∀ H, Pv xs.length H → Qd H) : LoopC (Ite K a) g tt te τ vs D Qd H := by
  refine ⟨fun i m H => m = xs.length - i ∧ i ≤ xs.length ∧ Pv i H, ⟨xs.length, by simp, Nat.zero_le _, h0⟩, ?_⟩
  rintro i m H ⟨rfl, hi, p⟩
  have q : SqL K H a xs := SqL.of (hl i H hi p)
  by_cases hlt : i < xs.length
  · refine .inr ⟨⟨xs, xs[i], q, by simp [hlt]⟩, Pv (i + 1), fun H' p' => ⟨xs.length - (i + 1), by omega, rfl, hlt, p'⟩, fun x H' y => ?_⟩
    obtain ⟨T, y1, e1, e2, e3, e4⟩ := y
    subst e1 e3
    exact hs i y1 H T (e4 xs q) p e2
  · have e : i = xs.length := by omega
    subst e
    exact .inl ⟨⟨xs, q, Nat.le_refl _⟩, hd H p⟩
end
end
/-! ### a chain of three comparisons -/
def tChain3 (r r' r'' : R2) (ta tb tc td : TE) : TE := fun σ H Q => ta σ H fun x H1 => tb σ H1 fun y H2 => r x y H2 fun z H3 => ∃ k, z = .bl k ∧
  (if k = true then tc σ H3 fun u H4 => r' y u H4 fun z2 H5 => ∃ k2, z2 = .bl k2 ∧ (if k2 = true then td σ H5 fun v H6 => r'' u v H6 Q else Q (.bl false) H5) else Q (.bl false) H3)
section
variable {X : Cx} {a b c d : Expr} {ta tb tc td : TE} {pos : Pos}
theorem pe_chain3 {op op' op'' : CmpOp} {r r' r'' : R2} (ho : OpR X (compareOp op) r) (ho' : OpR X (compareOp op') r') (ho'' : OpR X (compareOp op'') r'') (ha : PE X a ta) (hb : PE X b tb) (hc : PE X c tc) (hd : PE X d td)
    (hm : lastMarks [op, op', op''] [b, c, d] = false := by with_unfolding_all rfl) : PE X (.Compare a [op, op', op''] [b, c, d] pos) (tChain3 r r' r'' ta tb tc td) := by
  refine ⟨fun pins s σ H Q I h => ?_⟩
  refine Compare_chain (thn (ha.run pins s σ H _ I h) fun v s1 ⟨x, H1, I1, r1, q1⟩ => chain_link (thn (hb.run pins s1 σ H1 _ I1 q1) fun u s2 ⟨y, H2, I2, r2, q2⟩ =>
    thn (ho pins s2 σ H2 x y v u _ I2 r1 r2 q2) fun d s3 ⟨z, H3, I3, r3, k, e, q3⟩ => ?_)) hm
  subst e
  cases r3
  refine wpAny_truthy_bool ?_
  cases k with
  | false => exact ite_ff ⟨.bl false, H3, I3, rfl, q3⟩
  | true =>
    refine ite_tt (chain_link (thn (hc.run pins s3 σ H3 _ I3 q3) fun u' s4 ⟨y', H4, I4, r4, q4⟩ => thn (ho' pins s4 σ H4 y y' u u' _ I4 r2 r4 q4) fun d2 s5 ⟨z2, H5, I5, r5, k2, e2, q5⟩ => ?_))
    subst e2
    cases r5
    refine wpAny_truthy_bool ?_
    cases k2 with
    | false => exact ite_ff ⟨.bl false, H5, I5, rfl, q5⟩
    | true => exact ite_tt (chain_last (thn (hd.run pins s5 σ H5 _ I5 q5) fun w' s6 ⟨z', H6, I6, r6, q6⟩ => ho'' pins s6 σ H6 y' z' u' w' Q I6 r4 r6 q6))
theorem pt_chain3 {op op' op'' : CmpOp} {r r' r'' : R2} (ho : OpR X (compareOp op) r) (ho' : OpR X (compareOp op') r') (ho'' : OpR X (compareOp op'') r'') (ha : PE X a ta) (hb : PE X b tb) (hc : PE X c tc) (hd : PE X d td)
    (hm : lastMarks [op, op', op''] [b, c, d] = false := by with_unfolding_all rfl) : PT X (.Compare a [op, op', op''] [b, c, d] pos) (tTest (tChain3 r r' r'' ta tb tc td)) := by
  refine ⟨fun pins s σ H Q I h => ?_⟩
  refine isTrue_chain (thn (ha.run pins s σ H _ I h) fun v s1 ⟨x, H1, I1, r1, q1⟩ => test_link (thn (hb.run pins s1 σ H1 _ I1 q1) fun u s2 ⟨y, H2, I2, r2, q2⟩ =>
    thn (ho pins s2 σ H2 x y v u _ I2 r1 r2 q2) fun d s3 ⟨z, H3, I3, r3, k, e, q3⟩ => ?_)) hm
  subst e
  cases r3
  refine wpAny_truthy_bool ?_
  cases k with
  | false =>
    obtain ⟨k', e', q'⟩ := q3
    cases e'
    exact ite_ff ⟨H3, I3, q'⟩
  | true =>
    refine ite_tt (test_link (thn (hc.run pins s3 σ H3 _ I3 q3) fun u' s4 ⟨y', H4, I4, r4, q4⟩ => thn (ho' pins s4 σ H4 y y' u u' _ I4 r2 r4 q4) fun d2 s5 ⟨z2, H5, I5, r5, k2, e2, q5⟩ => ?_))
    subst e2
    cases r5
    refine wpAny_truthy_bool ?_
    cases k2 with
    | false =>
      obtain ⟨k', e', q'⟩ := q5
      cases e'
      exact ite_ff ⟨H5, I5, q'⟩
    | true =>
      refine ite_tt (test_last (thn (hd.run pins s5 σ H5 _ I5 q5) fun w' s6 ⟨z', H6, I6, r6, q6⟩ => thn (ho'' pins s6 σ H6 y' z' u' w' _ I6 r4 r6 q6) fun d3 s7 ⟨z3, H7, I7, r7, k3, e3, q7⟩ => ?_))
      subst e3
      cases r7
      exact wpAny_truthy_bool ⟨H7, I7, q7⟩
theorem q_chain3 {σ : L2.St} {H : Hp} {Q : VK} {r r' r'' : R2} (q : ta σ H fun x H1 => tb σ H1 fun y H2 => r x y H2 fun z H3 => ∃ k, z = .bl k ∧
  (if k = true then tc σ H3 fun u H4 => r' y u H4 fun z2 H5 => ∃ k2, z2 = .bl k2 ∧ (if k2 = true then td σ H5 fun v H6 => r'' u v H6 Q else Q (.bl false) H5) else Q (.bl false) H3)) : tChain3 r r' r'' ta tb tc td σ H Q := q
end
theorem q_rep {H : Hp} {Q : VK} {l : Addr} {xs : List V} {k : Nat} (h : H l = some (.lst xs)) (s : xs.length * k ≤ 16000000) (s2 : k ≤ 16000000) (q : ∀ p, H p = none → Q (.ref p) (upd H p (.lst (List.replicate k xs).flatten))) : rRep (.ref l) (.int k) H Q :=
  ⟨l, k, xs, rfl, rfl, h, by omega, by omega, by rw [sizeLine_eq, Int.toNat_natCast]; omega, fun p np => by
    rw [Int.toNat_natCast]
    exact q p np⟩
theorem flat_one (k : Nat) (v : V) : (List.replicate k [v]).flatten = List.replicate k v := by
  induction k with
  | zero => rfl
  | succ k ih => rw [List.replicate_succ, List.flatten_cons, ih, List.replicate_succ]; rfl
/-! ### comprehensions whose turns leave all that stands -/
section
variable {K : PySem.W.Frag} {H : Hp} {g : TG} {tt : TT} {te : TE} {vs : List Nat} {τ : L2.St} {D : Addr} {Qd : Hp → Prop}
/-- a turn without a test: the element, and what is wanted of it -/
def TurnE (g : TG) (tt : TT) (te : TE) (τ : L2.St) (vs : List Nat) (x : V) (R : VK) (H : Hp) : Prop := g x τ H fun σ2 H2 => wipe σ2 vs = τ ∧ tt σ2 H2 fun b H3 => if b = true then te σ2 H3 R else False
theorem q_turnE {x : V} {R : VK} (q : g x τ H fun σ2 H2 => wipe σ2 vs = τ ∧ tt σ2 H2 fun b H3 => if b = true then te σ2 H3 R else False) : TurnE g tt te τ vs x R H := q
/-- what is made so far -/
def Made (Y : Nat → V → Hp → Prop) (H H' : Hp) (D : Addr) (i : Nat) : Prop := ∃ ys : List V, ys.length = i ∧ H' D = some (.lst ys) ∧ Ex H H' ∧ ∀ j y, ys[j]? = some y → Y j y H'
theorem Made.push {Y : Nat → V → Hp → Prop} (mono : ∀ i y H1 H2, Ex H1 H2 → Y i y H1 → Y i y H2) {H' : Hp} {i : Nat} {y : V} {ys : List V} (nD : H D = none) (l : ys.length = i) (hD : H' D = some (.lst ys)) (e : Ex H H') (hy : ∀ j y, ys[j]? = some y → Y j y H') (off : ∀ i y o, Y i y H' → Y i y (upd H' D o)) (q : Y i y H') :
    Made Y H (upd H' D (.lst (ys ++ [y]))) D (i + 1) := by
  refine ⟨ys ++ [y], by rw [List.length_append, l]; rfl, upd_same, e.mut nD, fun j z hz => ?_⟩
  by_cases h : j < ys.length
  · rw [List.getElem?_append_left h] at hz
    exact off _ _ _ (hy j z hz)
  · rw [List.getElem?_append_right (by omega)] at hz
    by_cases h2 : j - ys.length = 0
    · rw [h2] at hz
      have := Option.some.inj hz
      subst this
      have : j = i := by omega
      subst this
      exact off _ _ _ q
    · obtain ⟨k, hk⟩ : ∃ k, j - ys.length = k + 1 := ⟨j - ys.length - 1, by omega⟩
      rw [hk] at hz
      cases hz
/-- a map over a list -/
theorem lcp_map {a : Addr} {xs : List V} (Y : Nat → V → Hp → Prop) (mono : ∀ i y H1 H2, Ex H1 H2 → Y i y H1 → Y i y H2) (off : ∀ i y H' ys u, H' D = some (.lst ys) → Y i y H' → Y i y (upd H' D u))
    (nD : H D = none) (ha : H a = some (.lst xs)) (small : xs.length ≤ 10000000)
    (turn : ∀ (i : Nat) (x : V) (H1 : Hp), xs[i]? = some x → Ex H H1 → ∀ R : VK, (∀ y H2, Ex H1 H2 → Y i y H2 → R y H2) → TurnE g tYes te τ vs x R H1)
    (q : ∀ ys H', ys.length = xs.length → Ex H H' → H' D = some (.lst ys) → (∀ j y, ys[j]? = some y → Y j y H') → Qd H') : LoopC (Itl K a) g tYes te τ vs D Qd (upd H D (.lst [])) := by
  refine lcp_list (xs := xs) (fun i H' => Made Y H H' D i) ⟨[], rfl, upd_same, Ex.new nD, fun j y h => by simp at h⟩ (fun i H' _ h => ?_) (fun i x H' hx h => ?_) (fun H' h => ?_)
  · obtain ⟨ys, _, _, e, _⟩ := h
    exact e _ _ ha
  · obtain ⟨ys, l, hD, e, hy⟩ := h
    have hi : i < xs.length := (List.getElem?_eq_some_iff.mp hx).1
    have t := turn i x H' hx e (fun y H4 => ∃ acc, H4 D = some (.lst acc) ∧ acc.length < sizeLine ∧ Made Y H (upd H4 D (.lst (acc ++ [y]))) D (i + 1)) fun y H2 e2 hy2 => by
      have hD2 := e2 _ _ hD
      refine ⟨ys, hD2, by rw [sizeLine_eq]; omega, Made.push mono nD l hD2 (e.trans e2) (fun j z hz => mono _ _ _ _ e2 (hy j z hz)) (fun i y o hh => off i y H2 ys o hD2 hh) hy2⟩
    exact t
  · obtain ⟨ys, l, hD, e, hy⟩ := h
    exact q ys H' l e hD hy
theorem lcp_mapF {a : Addr} {xs : List V} (f : Nat → V) (nD : H D = none) (ha : H a = some (.lst xs)) (small : xs.length ≤ 10000000)
    (turn : ∀ (i : Nat) (x : V) (H1 : Hp), xs[i]? = some x → Ex H H1 → ∀ R : VK, (∀ H2, Ex H1 H2 → R (f i) H2) → TurnE g tYes te τ vs x R H1)
    (q : ∀ H', Ex H H' → H' D = some (.lst ((List.range xs.length).map f)) → Qd H') : LoopC (Itl K a) g tYes te τ vs D Qd (upd H D (.lst [])) := by
  refine lcp_map (xs := xs) (fun i y _ => y = f i) (fun _ _ _ _ _ h => h) (fun _ _ _ _ _ _ h => h) nD ha small (fun i x H1 hx e R r => turn i x H1 hx e R fun H2 e2 => r _ H2 e2 rfl) fun ys H' l e hD hy => q H' e ?_
  rw [hD]
  refine congrArg (fun z => some (HO.lst z)) (List.ext_getElem? fun j => ?_)
  rw [List.getElem?_map]
  by_cases h : j < ys.length
  · rw [List.getElem?_range (by omega), List.getElem?_eq_getElem h, hy j _ (List.getElem?_eq_getElem h)]
    rfl
  · rw [List.getElem?_eq_none (by omega), List.getElem?_eq_none (by rw [List.length_range]; omega)]
    rfl
theorem lcp_allT {a : Addr} {xs : List V} (nD : H D = none) (ha : H a = some (.tup xs)) (small : xs.length ≤ 10000000)
    (turn : ∀ (i : Nat) (x : V) (H1 : Hp), xs[i]? = some x → Ex H H1 → ∀ R : VK, (∀ H2, Ex H1 H2 → R (.bl true) H2) → TurnE g tYes te τ vs x R H1)
    (q : ∀ (H' : Hp) (bs : List Bool), Ex H H' → H' D = some (.lst (bs.map V.bl)) → bs.all id = true → Qd H') : LoopC (Itt K a) g tYes te τ vs D Qd (upd H D (.lst [])) := by
  refine lcp_tup (xs := xs) (fun i H' => Ex H H' ∧ H' D = some (.lst ((List.replicate i true).map V.bl))) ⟨Ex.new nD, upd_same⟩ (fun i H' _ h => h.1 _ _ ha) (fun i x H' hx h => ?_) (fun H' h => ?_)
  · obtain ⟨e, hD⟩ := h
    have hi : i < xs.length := (List.getElem?_eq_some_iff.mp hx).1
    exact turn i x H' hx e _ fun H2 e2 => ⟨_, e2 _ _ hD, by rw [List.length_map, List.length_replicate, sizeLine_eq]; omega, (e.trans e2).mut nD, by
      rw [upd_same, List.replicate_succ', List.map_append]
      rfl⟩
  · exact q H' _ h.1 h.2 (by rw [List.all_eq_true]; intro b hb; exact (List.mem_replicate.mp hb).2)
/-- all([..]) of a map that is true throughout -/
theorem lcp_all {a : Addr} {xs : List V} (nD : H D = none) (ha : H a = some (.lst xs)) (small : xs.length ≤ 10000000)
    (turn : ∀ (i : Nat) (x : V) (H1 : Hp), xs[i]? = some x → Ex H H1 → ∀ R : VK, (∀ H2, Ex H1 H2 → R (.bl true) H2) → TurnE g tYes te τ vs x R H1)
    (q : ∀ (H' : Hp) (bs : List Bool), Ex H H' → H' D = some (.lst (bs.map V.bl)) → bs.all id = true → Qd H') : LoopC (Itl K a) g tYes te τ vs D Qd (upd H D (.lst [])) := by
  refine lcp_mapF (fun _ => .bl true) nD ha small turn fun H' e h => q H' ((List.range xs.length).map fun _ => true) e ?_ ?_
  · rw [h, List.map_map]
    rfl
  · rw [List.all_eq_true]
    intro b hb
    obtain ⟨_, _, rfl⟩ := List.mem_map.mp hb
    rfl
end
/-! ### rules whose readings have names, by the written part -/
section
variable {X : Cx} {K : PySem.W.Frag}
theorem au_tuple (h : X.K = K := by rfl) : CallR X (.type "tuple") (rTuple K) := h ▸ call_tuple_of
theorem au_list (h : X.K = K := by rfl) : CallR X (.type "list") (rList K) := h ▸ call_list_of
theorem au_isN : OpR X (compareOp .Is) rIsN := op_isN
theorem au_notN : OpR X (compareOp .IsNot) rNotN := op_notN
theorem au_max2 (hc : X.calm = true) : CallR X (.builtin "max") rMax2 := call_max2 hc
theorem au_min2 (hc : X.calm = true) : CallR X (.builtin "min") rMin2 := call_min2 hc
theorem au_sum (hc : X.calm = true) (h : X.K = K := by rfl) : CallR X (.builtin "sum") (rSum K) := h ▸ cr_sum hc
theorem au_max (hc : X.calm = true) (h : X.K = K := by rfl) : CallR X (.builtin "max") (rMax K) := h ▸ cr_max hc
theorem au_min (hc : X.calm = true) (h : X.K = K := by rfl) : CallR X (.builtin "min") (rMin K) := h ▸ cr_min hc
theorem au_all (hc : X.calm = true) (h : X.K = K := by rfl) : CallR X (.builtin "all") (rAll K) := h ▸ cr_all hc
theorem au_any (hc : X.calm = true) (h : X.K = K := by rfl) : CallR X (.builtin "any") (rAny K) := h ▸ cr_any hc
theorem au_index (h : X.K = K := by rfl) : MtR X "list.index" (rIndex K) := h ▸ mt_index
end
/-! ### bounds -/
theorem mulBd {i j : Int} (a : -(10 ^ 60) < i) (b : i < 10 ^ 60) (c : -(10 ^ 60) < j) (d : j < 10 ^ 60) : CMulX i j :=
  mulx_ok (a := 200) (b := 200) (by
    have : (10 : Nat) ^ 60 < 2 ^ 200 := by decide
    omega) (by
    have : (10 : Nat) ^ 60 < 2 ^ 200 := by decide
    omega) (by decide)
theorem divBd {i j : Int} (a : 0 < j) (b : j < 10 ^ 60) : CDivW i j := wide_div (b := 200) a (by
    have : (10 : Nat) ^ 60 < 2 ^ 200 := by decide
    omega) (by decide) (by decide)
theorem sz16 {n : Nat} (h : n ≤ 16000000) : n ≤ sizeLine := by
  rw [sizeLine_eq]
  omega
/-! ### all but one object stand -/
def But (d : Addr) (H H' : Hp) : Prop := ∀ b o, b ≠ d → H b = some o → H' b = some o
theorem But.refl (d : Addr) (H : Hp) : But d H H := fun _ _ _ h => h
theorem But.trans {d : Addr} {H H1 H2 : Hp} (a : But d H H1) (b : But d H1 H2) : But d H H2 := fun x o n h => b x o n (a x o n h)
theorem But.ex {d : Addr} {H H1 H2 : Hp} (a : But d H H1) (b : Ex H1 H2) : But d H H2 := fun x o n h => b x o (a x o n h)
theorem But.of {d : Addr} {H H1 : Hp} (a : Ex H H1) : But d H H1 := fun x o _ h => a x o h
theorem But.exl {d : Addr} {H H1 H2 : Hp} (a : Ex H H1) (b : But d H1 H2) : But d H H2 := fun x o n h => b x o n (a x o h)
theorem But.mut {d p : Addr} {H H1 : Hp} {o : HO} (a : But d H H1) (h : H p = none) : But d H (upd H1 p o) := fun x u n e => by
  rw [upd_ne (ne_of_none e h)]
  exact a x u n e
theorem But.self {d : Addr} {H : Hp} {o : HO} : But d H (upd H d o) := fun x u n e => by
  rw [upd_ne n]
  exact e
theorem But.put {d : Addr} {H H1 : Hp} {o : HO} (a : But d H H1) : But d H (upd H1 d o) := fun x u n e => by
  rw [upd_ne n]
  exact a x u n e
/-- an object that did not stand may change -/
theorem But.toEx {d : Addr} {H0 H H1 : Hp} (e : Ex H0 H) (a : But d H H1) (h : H0 d = none) : Ex H0 H1 := fun x o k => a x o (ne_of_none k h) (e x o k)
theorem but_at {d a : Addr} {H H' : Hp} {o : HO} (e : But d H H') (n : a ≠ d) (h : H a = some o) : H' a = some o := e _ _ n h
theorem ne_fresh {H : Hp} {a b : Addr} {o : HO} (h : H b = none) (h' : H a = some o) : a ≠ b := ne_of_none h' h
theorem ne_fresh' {H : Hp} {a b : Addr} {o : HO} (h : H b = none) (h' : H a = some o) : b ≠ a := (ne_of_none h' h).symm
/-! ### lists of tuples of ints -/
inductive Ts (H : Hp) : List V → List (List Int) → Prop
  | nil : Ts H [] []
  | cons {t : Addr} {ns : List Int} {xs : List V} {rows : List (List Int)} (h : H t = some (.tup (ns.map V.int))) (r : Ts H xs rows) : Ts H (.ref t :: xs) (ns :: rows)
theorem Ts.tp {H H' : Hp} (e : Tp H H') : ∀ {xs : List V} {rows : List (List Int)}, Ts H xs rows → Ts H' xs rows
  | _, _, .nil => .nil
  | _, _, .cons h r => .cons (e _ _ h) (r.tp e)
theorem Ts.ex {H H' : Hp} {xs : List V} {rows : List (List Int)} (h : Ts H xs rows) (e : Ex H H') : Ts H' xs rows := h.tp (Tp.ex e)
theorem Ts.len {H : Hp} : ∀ {xs : List V} {rows : List (List Int)}, Ts H xs rows → xs.length = rows.length
  | _, _, .nil => rfl
  | _, _, .cons _ r => by rw [List.length_cons, List.length_cons, r.len]
theorem Ts.append {H : Hp} : ∀ {xs ys : List V} {rows sows : List (List Int)}, Ts H xs rows → Ts H ys sows → Ts H (xs ++ ys) (rows ++ sows)
  | _, _, _, _, .nil, s => s
  | _, _, _, _, .cons h r, s => .cons h (r.append s)
theorem Ts.get {H : Hp} : ∀ {xs : List V} {rows : List (List Int)} {i : Nat} {v : V}, Ts H xs rows → xs[i]? = some v → ∃ t ns, v = .ref t ∧ rows[i]? = some ns ∧ H t = some (.tup (ns.map V.int))
  | _, _, _, _, .nil, e => by simp at e
  | _, _, 0, _, .cons h r, e => by
    have := Option.some.inj e
    subst this
    exact ⟨_, _, rfl, rfl, h⟩
  | _, _, i + 1, _, .cons _ r, e => r.get (i := i) e
theorem Ts.get' {H : Hp} : ∀ {xs : List V} {rows : List (List Int)} {i : Nat} {ns : List Int}, Ts H xs rows → rows[i]? = some ns → ∃ t, xs[i]? = some (.ref t) ∧ H t = some (.tup (ns.map V.int))
  | _, _, _, _, .nil, e => by simp at e
  | _, _, 0, _, .cons h r, e => by
    have := Option.some.inj e
    subst this
    exact ⟨_, rfl, h⟩
  | _, _, i + 1, _, .cons _ r, e => r.get' (i := i) e
theorem Ts.mem {H : Hp} {xs : List V} {rows : List (List Int)} (h : Ts H xs rows) {v : V} (m : v ∈ xs) : ∃ t ns, v = .ref t ∧ ns ∈ rows ∧ H t = some (.tup (ns.map V.int)) := by
  obtain ⟨i, e⟩ := List.mem_iff_getElem?.mp m
  obtain ⟨t, ns, a, b, c⟩ := h.get e
  exact ⟨t, ns, a, List.mem_of_getElem? b, c⟩
theorem Ts.of {H : Hp} : ∀ {xs : List V} {rows : List (List Int)}, xs.length = rows.length → (∀ (i : Nat) (v : V) (ns : List Int), xs[i]? = some v → rows[i]? = some ns → ∃ t, v = .ref t ∧ H t = some (.tup (ns.map V.int))) → Ts H xs rows
  | [], [], _, _ => .nil
  | x :: xs, ns :: rows, l, h => by
    obtain ⟨t, rfl, ht⟩ := h 0 x ns rfl rfl
    exact .cons ht (Ts.of (Nat.succ.inj l) fun i v ms a b => h (i + 1) v ms a b)
theorem dpa_intsT {K : PySem.W.Frag} {H : Hp} {ns : List Int} : DpAll K H (ns.map V.int) (ns.map PyData.int) := dpa_ints
theorem Ts.dp {K : PySem.W.Frag} {H : Hp} : ∀ {xs : List V} {rows : List (List Int)}, Ts H xs rows → DpAll K H xs (rows.map fun ns => .tuple (ns.map .int))
  | _, _, .nil => .nil
  | _, _, .cons h r => .cons (.tup (SqT.of h) dpa_ints) r.dp
theorem shaped_ts (rows : List (List Int)) : SeqAt.shaped (.list (rows.map fun ns => .tuple (ns.map .int))) = true :=
  shaped_rows (D := fun ns : List Int => PyData.tuple (ns.map .int)) (fun ns => show PyData.canLayAll0 (ns.map PyData.int) = true from sh_ints) (fun ns => show PyData.depthAll (ns.map PyData.int) + 1 ≤ 10 by rw [dp_ints]; omega) rows
/-! ### repr of small data -/
theorem showable_of {d : PyData} (h : PyData.layable0 d = true) (i : PyData.intsShort 13 d = true) : d.shown.length ≤ sizeLine := PyData.shown_fits_of_layable0 (B := 13) (by decide) (by decide) h i
/-! ### places that stand -/
theorem ex_s {K : PySem.W.Frag} {H H' : Hp} {a : Addr} {xs : List V} (e : Ex H H') (h : SqL K H a xs) : SqL K H' a xs := Evl.ex_l e h
theorem ex_at {H H' : Hp} {a : Addr} {o : HO} (e : Ex H H') (h : H a = some o) : H' a = some o := e _ _ h
theorem upd_at {H : Hp} {p a : Addr} {o u : HO} (n : a ≠ p) (h : H a = some o) : upd H p u a = some o := by
  rw [upd_ne n]
  exact h
theorem fresh_at {H : Hp} {p a : Addr} {o u : HO} (n : H p = none) (h : H a = some o) : upd H p u a = some o := upd_at (ne_of_none h n) h
theorem ex_new {H H' : Hp} {p : Addr} {o : HO} (e : Ex H H') (n : H' p = none) : Ex H (upd H' p o) := e.trans (Ex.new n)
theorem ex_tr {H H1 H2 : Hp} (b : Ex H1 H2) (a : Ex H H1) : Ex H H2 := a.trans b
theorem ts_ex {H H' : Hp} {xs : List V} {rows : List (List Int)} (e : Ex H H') (h : Ts H xs rows) : Ts H' xs rows := h.ex e
theorem ts_new {H : Hp} {p : Addr} {o : HO} {xs : List V} {rows : List (List Int)} (n : H p = none) (h : Ts H xs rows) : Ts (upd H p o) xs rows := h.ex (Ex.new n)
theorem ex_mut {H H' : Hp} {p : Addr} {o : HO} (e : Ex H H') (n : H p = none) : Ex H (upd H' p o) := e.mut n
end Bs

namespace Bs
open PySem PySem.Spec PyProof.Rows L2
open Evl (Ex)
/-! ### sorted of a list of tuples of ints, any width -/
section
variable {prog : Program} {w : World} {A : Around} {s : Shared}
def IsNs (h : Heap) (v : Value) (ns : List Int) : Prop := ∃ (a : Addr) (o : Obj) (us : List Value) (n : Nat), v = .ref a ∧ h.get? a = some o ∧ o.cls = .type "tuple" ∧ o.data = .seq us.toArray n ∧ IntsAre us ns ∧ ns ≠ []
theorem IsNs.keeps {h h' : Heap} {v : Value} {ns : List Int} (p : IsNs h v ns) (k : ∀ b o, h.get? b = some o → o.cls = .type "tuple" → h'.get? b = some o) : IsNs h' v ns := by
  obtain ⟨a, o, us, n, e, ho, hc, hd, hi, hn⟩ := p
  exact ⟨a, o, us, n, e, k _ _ ho hc, hc, hd, hi, hn⟩
theorem kat_ints {fin : Bool} {Q : Bool → Shared → Prop} : ∀ {us ws : List Value} {ns ms : List Int} (i : Nat), IntsAre us ns → IntsAre ws ms → fin = decide (us.length < ws.length) → Q (HT.lexLt ns ms) s → PySem.W.KatLex prog w A true fin Q (us.zip ws) i s
  | _, _, _, _, i, .nil, .nil, hf, q => by
    subst hf
    exact PySem.W.kat_nil q
  | _, _, _, _, i, .nil, .cons y u hw, hf, q => by
    subst hf
    exact PySem.W.kat_nil q
  | _, _, _, _, i, .cons x t hv, .nil, hf, q => by
    subst hf
    exact PySem.W.kat_nil q
  | _, _, _, _, i, .cons x t hv, .cons y u hw, hf, q => by
    refine PySem.W.kat_cons (SeqAt.EqAt.int_int x t y u prog w _ _ ?_)
    rw [HT.lexLt_cons] at q
    refine PySem.W.kat_go (fun e1 => ?_) (fun e1 => ?_)
    · have ex : x = y := by simpa using e1
      rw [if_pos ex] at q
      refine PySem.W.kat_yes (kat_ints (i + 1) hv hw ?_ q)
      rw [hf]
      simp only [List.length_cons, Nat.succ_lt_succ_iff, Nat.add_lt_add_iff_right]
    · have ex : ¬ x = y := by simpa using e1
      rw [if_neg ex] at q
      exact PySem.W.kat_no (TS.oneLt_ints _ q)
theorem ns_cmp {vs : List Value} {k : Value → List Int} (hp : ∀ v ∈ vs, IsNs s.heap v (k v)) : SrtO.Cmp prog w A s (tuples' true) (fun p => p.1 ∈ vs) (SrtO.lt2 fun v u => HT.lexLt (k v) (k u)) := by
  intro p q hm hm'
  have h1 := hp _ hm
  have h2 := hp _ hm'
  show wpAny (model prog w) A (keyLt' (tuples' true) p.1 q.1) (fun r s' => s' = s ∧ r = HT.lexLt (k p.1) (k q.1)) (fun _ _ => False) s
  generalize k p.1 = ns at h1 ⊢
  generalize k q.1 = ms at h2 ⊢
  obtain ⟨a, o, us, n, e, ho, hc, hd, hi, _⟩ := h1
  obtain ⟨a', o', us', n', e', ho', hc', hd', hi', _⟩ := h2
  rw [e, e']
  refine PySem.W.kat_lt ho hd ho' hd' ?_
  exact kat_ints 0 hi hi' (by simp) ⟨rfl, rfl⟩
theorem ns_firsts {h : Heap} : ∀ {vs : List Value}, (∀ v ∈ vs, ∃ ns, IsNs h v ns) → ∃ fs : List Value, PySem.W.KatTups h vs fs ∧ fs.length = vs.length ∧ ∀ f ∈ fs, ∃ x t, f = Value.int x t
  | [], _ => ⟨[], PySem.W.KatTups.nil, rfl, fun _ hm => by simp at hm⟩
  | v :: vs, hp => by
    obtain ⟨fs, h1, h2, h3⟩ := ns_firsts (vs := vs) fun v' hm => hp v' (List.mem_cons_of_mem _ hm)
    obtain ⟨ns, a, o, us, n, e, ho, hc, hd, hi, hn⟩ := hp v List.mem_cons_self
    subst e
    cases hi with
    | nil => exact absurd rfl hn
    | cons x t hv =>
      refine ⟨.int x t :: fs, PySem.W.KatTups.cons ho hc hd rfl h1, by rw [List.length_cons, List.length_cons, h2], fun f hm => ?_⟩
      rcases List.mem_cons.mp hm with rfl | hm
      · exact ⟨x, t, rfl⟩
      · exact h3 f hm
theorem ns_sortable {a : Addr} {vs : List Value} {k : Value → List Int} (h0 : 0 < vs.length) (hp : ∀ v ∈ vs, IsNs s.heap v (k v)) (ha : ∀ o, s.heap.get? a = some o → o.cls ≠ .type "tuple") : SrtO.SortableO prog w A s a vs fun v u => HT.lexLt (k v) (k u) := by
  intro h' keep
  have hp' : ∀ v ∈ vs, IsNs h' v (k v) := fun v hm => (hp v hm).keeps fun b o e c => keep b o (fun z => by subst z; exact ha o e c) e
  obtain ⟨fs, h1, h2, h3⟩ := ns_firsts fun v hm => ⟨_, hp' v hm⟩
  refine ⟨tuples' true, fun Q E hq => ?_, ns_cmp hp'⟩
  refine PySem.W.kat_kind (T := .type "int") h1 (by omega) (fun f hm => ?_) (by rfl) ?_
  · obtain ⟨x, t, rfl⟩ := h3 f hm
    exact PySem.W.Looks.now
  · have e : (Value.type "int" != Value.type "tuple") = true := by first | decide +kernel | rfl | decide
    rw [e]
    exact hq
end
/-- the ints of a tuple that stands -/
def nsAt (H : Hp) : V → List Int
  | .ref b => match H b with
    | some (.tup xs) => xs.map fun v => match v with | .int i => i | _ => 0
    | _ => []
  | _ => []
theorem nsAt_is {H : Hp} {b : Addr} {ns : List Int} (e : H b = some (.tup (ns.map V.int))) : nsAt H (.ref b) = ns := by
  unfold nsAt
  simp only [e, List.map_map]
  exact (List.map_congr_left fun _ _ => rfl).trans (List.map_id ns)
theorem ints_vals : ∀ {ns : List Int} {us : List Value}, Vals (ns.map V.int) us → IntsAre us ns
  | [], us, r => by
    cases r
    exact .nil
  | n :: ns, us, r => by
    cases r with
    | cons h q =>
      obtain ⟨t, rfl⟩ := h
      exact .cons n t (ints_vals q)
abbrev lexV (H : Hp) (x y : V) : Bool := HT.lexLt (nsAt H x) (nsAt H y)
/-- sorted of a list of tuples of ints -/
def rSortedNs (K : PySem.W.Frag) : List V → Hp → VK → Prop := fun vs H Q => ∃ (a : Addr) (xs : List V), vs = [V.ref a] ∧ SqL K H a xs ∧ (∀ x ∈ xs, ∃ t ns, x = V.ref t ∧ H t = some (.tup (ns.map V.int)) ∧ ns ≠ []) ∧
  ∀ ys p, SrtO.Srtd (lexV H) ys → SrtO.Stb (lexV H) ys xs → H p = none → Q (.ref p) (upd H p (.lst ys))
theorem cr_sortedNs {X : Cx} {K : PySem.W.Frag} (hK : X.K = K := by rfl) : CallR X (.builtin "sorted") (rSortedNs K) := by
  subst hK
  intro pins s σ H vs us Q I r h
  obtain ⟨a, xs, rfl, hs, hx, q⟩ := h
  obtain ⟨its, rv, hl, hz⟩ := I.list hs
  obtain ⟨u, rfl, ru⟩ := vals1 r
  obtain rfl : u = Value.ref a := ru
  obtain ⟨e1, e2⟩ := refs_back rv fun x m => by
    obtain ⟨t, _, e, _⟩ := hx x m
    exact ⟨t, e⟩
  have hp : ∀ v ∈ its, IsNs s.heap v (nsAt H (backV v)) := fun v hv => by
    obtain ⟨t, rfl⟩ := e2 v hv
    have hm : V.ref t ∈ xs := by rw [e1]; exact List.mem_map.mpr ⟨_, hv, rfl⟩
    obtain ⟨t', ns, e, ht, hn⟩ := hx _ hm
    cases e
    rw [show backV (Value.ref t) = V.ref t from rfl, nsAt_is ht]
    obtain ⟨_, its2, r2, o, ho, hc, n, hd⟩ := I.hok _ _ ht
    exact ⟨t, o, its2, n, rfl, ho, hc, hd, ints_vals r2, hn⟩
  refine SrtO.sorted_ord (NtL.swo_lexL fun u => nsAt H (backV u)) hl.isList (by rw [← rv.length]; exact hz) (fun h2 h₁ a' ha kk => ?_) fun out h1 h2 => ?_
  · refine ns_sortable (s := { s with heap := h₁ }) (by omega) (fun v hm => (hp v hm).keeps fun b o e _ => (kk b o e).2) fun o e => ?_
    have e' : some o = some (seqObj "list" its.toArray 0) := e.symm.trans ha
    cases e'
    intro c
    exact absurd (Value.type.inj c) (by decide)
  · have h3 : ∀ u ∈ out, ∃ a, u = Value.ref a := fun u hu => e2 u (h2.perm.mem_iff.mp hu)
    have hb : SrtO.Stb (lexV H) (out.map backV) xs := by
      rw [e1]
      exact SrtO.Stb.map (NtL.swo_lexL (nsAt H)) backV h2
    obtain ⟨n, hn⟩ := PyProof.Rows.sortedAll_at s.heap its out.toArray
    refine ⟨.ref (s.heap.objs.size + 1), upd H (s.heap.objs.size + 1) (.lst (out.map backV)), I.laid (t' := s.toks) (fun b o e => PyProof.Rows.sortedAll_old e) (Nat.le_succ _) ⟨?_, out, n, vals_back h3, hn⟩, rfl, q _ _ (SrtO.srtd_map h1) hb (I.hok.fresh (Nat.le_succ _))⟩
    rw [hb.len]
    exact hz
/-- rows that stand, by their ints -/
theorem Ts.nsAt {H : Hp} : ∀ {xs : List V} {rows : List (List Int)}, Ts H xs rows → xs.map (Bs.nsAt H) = rows
  | _, _, .nil => rfl
  | _, _, .cons h r => by rw [List.map_cons, nsAt_is h, r.nsAt]
/-- rows in order are told as they stand -/
theorem q_sortedId {K : PySem.W.Frag} {H : Hp} {Q : VK} {a : Addr} {xs : List V} {rows : List (List Int)} (h : H a = some (.lst xs)) (ts : Ts H xs rows) (ne : ∀ r ∈ rows, r ≠ []) (srt : rows.Pairwise fun p q => HT.lexLt q p = false) (q : ∀ p, H p = none → Q (.ref p) (upd H p (.lst xs))) : rSortedNs K [.ref a] H Q := by
  refine ⟨a, xs, rfl, SqL.of h, fun x hx => ?_, fun ys p s1 s2 np => ?_⟩
  · obtain ⟨t, ns, e, m, ht⟩ := ts.mem hx
    exact ⟨t, ns, e, ht, ne ns m⟩
  · have s0 : SrtO.Srtd (lexV H) xs := by
      show xs.Pairwise _
      have := ts.nsAt
      rw [← this] at srt
      exact List.pairwise_map.mp srt
    rw [SrtO.stb_uniq (NtL.swo_lexL (Bs.nsAt H)) s1 s0 s2]
    exact q p np
/-- sorted rows, told -/
theorem q_sortedNs {K : PySem.W.Frag} {H : Hp} {Q : VK} {a : Addr} {xs : List V} {rows : List (List Int)} (h : H a = some (.lst xs)) (ts : Ts H xs rows) (ne : ∀ r ∈ rows, r ≠ [])
    (q : ∀ p ys srt, H p = none → Ts H ys srt → srt.Perm rows → (srt.Pairwise fun p q => HT.lexLt q p = false) → Q (.ref p) (upd H p (.lst ys))) : rSortedNs K [.ref a] H Q := by
  refine ⟨a, xs, rfl, SqL.of h, fun x hx => ?_, fun ys p s1 s2 np => ?_⟩
  · obtain ⟨t, ns, e, m, ht⟩ := ts.mem hx
    exact ⟨t, ns, e, ht, ne ns m⟩
  · refine q p ys (ys.map (Bs.nsAt H)) np (Ts.of (by rw [List.length_map]) fun i v ns hv hn => ?_) ?_ ?_
    · obtain ⟨t, ms, e, m, ht⟩ := ts.mem (s2.perm.mem_iff.mp (List.mem_of_getElem? hv))
      subst e
      rw [List.getElem?_map, hv] at hn
      have := Option.some.inj hn
      rw [nsAt_is ht] at this
      subst this
      exact ⟨t, rfl, ht⟩
    · have := s2.perm.map (Bs.nsAt H)
      rw [ts.nsAt] at this
      exact this
    · exact List.pairwise_map.mpr s1
end Bs

namespace Bs
open PySem PySem.Spec PyProof.Rows L2
/-! ### orders by pairs: what order_of keeps -/
def remC (P : List PP) (D : List Int) (t : Int) : Nat := P.countP fun p => decide (p.2 = t) && !decide (p.1 ∈ D)
def hitC (P : List PP) (x t : Int) : Nat := P.countP fun p => decide (p.1 = x) && decide (p.2 = t)
def behindOf (P : List PP) (x : Int) : List Int := (P.filter fun p => decide (p.1 = x)).map (·.2)
def lackOf (P : List PP) (t : Int) : Nat := P.countP fun p => decide (p.2 = t)
theorem remC_nil (P : List PP) (t : Int) : remC P [] t = lackOf P t := by
  unfold remC lackOf
  refine List.countP_congr fun p _ => ?_
  simp
theorem behind_count (P : List PP) (x t : Int) : (behindOf P x).count t = hitC P x t := by
  unfold behindOf hitC
  induction P with
  | nil => rfl
  | cons p r ih =>
    rw [List.countP_cons]
    by_cases a : p.1 = x
    · rw [List.filter_cons_of_pos (by simpa using a), List.map_cons, List.count_cons, ih]
      by_cases b : p.2 = t
      · simp [a, b]
      · simp [a, b]
    · rw [List.filter_cons_of_neg (by simpa using a), ih]
      simp [a]
theorem remC_step (P : List PP) (D : List Int) (x t : Int) (h : x ∉ D) : remC P D t = remC P (D ++ [x]) t + hitC P x t := by
  unfold remC hitC
  induction P with
  | nil => rfl
  | cons p r ih =>
    rw [List.countP_cons, List.countP_cons, List.countP_cons, ih]
    by_cases a : p.2 = t
    · by_cases b : p.1 = x
      · have : p.1 ∉ D := by rw [b]; exact h
        simp [a, b, h]
        omega
      · by_cases c : p.1 ∈ D
        · simp [a, b, c]
        · simp [a, b, c]
          omega
    · simp [a]
theorem remC_zero {P : List PP} {D : List Int} {t : Int} (h : remC P D t = 0) : ∀ p ∈ P, p.2 = t → p.1 ∈ D := by
  intro p hp e
  unfold remC at h
  rw [List.countP_eq_zero] at h
  have := h p hp
  simp [e] at this
  exact this
theorem remC_pos {P : List PP} {D : List Int} {t : Int} (h : remC P D t ≠ 0) : ∃ p ∈ P, p.2 = t ∧ p.1 ∉ D := by
  have : 0 < remC P D t := Nat.pos_of_ne_zero h
  unfold remC at this
  rw [List.countP_pos_iff] at this
  obtain ⟨p, hp, e⟩ := this
  rw [Bool.and_eq_true, decide_eq_true_iff, Bool.not_eq_true', decide_eq_false_iff_not] at e
  exact ⟨p, hp, e.1, e.2⟩
/-- an order as it grows: k of it are gone through -/
structure Ord (P : List PP) (n k : Nat) (L : Int → Int) (O : List Int) : Prop where
  nd : O.Nodup
  bd : ∀ t ∈ O, 0 ≤ t ∧ t < n
  le : k ≤ O.length
  lack : ∀ t : Int, 0 ≤ t → t < n → L t = (remC P (O.take k) t : Nat)
  mem : ∀ t : Int, 0 ≤ t → t < n → (t ∈ O ↔ L t = 0)
  ahead : ∀ (j : Nat) (t : Int), O[j]? = some t → ∀ p ∈ P, p.2 = t → p.1 ∈ O.take j
/-- within a turn: m of the followers of the k-th are gone through -/
structure OrdI (P : List PP) (n k m : Nat) (x : Int) (L : Int → Int) (O : List Int) : Prop where
  nd : O.Nodup
  bd : ∀ t ∈ O, 0 ≤ t ∧ t < n
  at_ : O[k]? = some x
  lack : ∀ t : Int, 0 ≤ t → t < n → L t = (remC P (O.take (k + 1)) t + (hitC P x t - ((behindOf P x).take m).count t) : Nat)
  mem : ∀ t : Int, 0 ≤ t → t < n → (t ∈ O ↔ L t = 0)
  ahead : ∀ (j : Nat) (t : Int), O[j]? = some t → ∀ p ∈ P, p.2 = t → p.1 ∈ O.take j
theorem nodup_at {O : List Int} (h : O.Nodup) {k : Nat} {x : Int} (e : O[k]? = some x) : x ∉ O.take k := fun m => by
  obtain ⟨j, hj⟩ := List.mem_iff_getElem?.mp m
  have lj : j < k := by
    have := (List.getElem?_eq_some_iff.mp hj).1
    rw [List.length_take] at this
    omega
  rw [List.getElem?_take_of_lt lj] at hj
  have := (List.getElem?_inj (List.getElem?_eq_some_iff.mp hj).1 h).mp (hj.trans e.symm)
  omega
theorem take_next {O : List Int} {k : Nat} {x : Int} (e : O[k]? = some x) : O.take (k + 1) = O.take k ++ [x] := by
  rw [List.take_add_one, e]
  rfl
theorem Ord.begin_ {P : List PP} {n k : Nat} {L : Int → Int} {O : List Int} {x : Int} (h : Ord P n k L O) (e : O[k]? = some x) : OrdI P n k 0 x L O := by
  refine ⟨h.nd, h.bd, e, fun t t0 t1 => ?_, h.mem, h.ahead⟩
  rw [h.lack t t0 t1, remC_step P (O.take k) x t (nodup_at h.nd e), take_next e]
  simp
theorem OrdI.done {P : List PP} {n k m : Nat} {L : Int → Int} {O : List Int} {x : Int} (h : OrdI P n k m x L O) (e : m = (behindOf P x).length) : Ord P n (k + 1) L O := by
  have lt : k < O.length := (List.getElem?_eq_some_iff.mp h.at_).1
  refine ⟨h.nd, h.bd, lt, fun t t0 t1 => ?_, h.mem, h.ahead⟩
  rw [h.lack t t0 t1, e, List.take_length, behind_count, Nat.sub_self, Nat.add_zero]
theorem OrdI.step {P : List PP} {n k m : Nat} {L : Int → Int} {O : List Int} {x y : Int} (h : OrdI P n k m x L O) (e : (behindOf P x)[m]? = some y) (y0 : 0 ≤ y) (y1 : y < n) :
    OrdI P n k (m + 1) x (fun t => if t = y then L y - 1 else L t) (if L y - 1 = 0 then O ++ [y] else O) := by
  have lt : k < O.length := (List.getElem?_eq_some_iff.mp h.at_).1
  have cnt : ∀ t : Int, ((behindOf P x).take (m + 1)).count t = ((behindOf P x).take m).count t + (if y = t then 1 else 0) := fun t => by
    rw [List.take_add_one, e, List.count_append]
    show _ + [y].count t = _
    rw [List.count_singleton]
    by_cases c : y = t <;> simp [c]
  have le1 : ((behindOf P x).take (m + 1)).count y ≤ hitC P x y := by
    rw [← behind_count]
    exact (List.take_sublist _ _).count_le y
  have cy := cnt y
  rw [if_pos rfl] at cy
  have ly := h.lack y y0 y1
  have pos : 1 ≤ L y := by omega
  have ny : y ∉ O := fun c => by
    have := (h.mem y y0 y1).mp c
    omega
  have tk : ∀ O' : List Int, (O ++ O').take (k + 1) = O.take (k + 1) := fun O' => List.take_append_of_le_length (by omega)
  have lack' : ∀ t : Int, 0 ≤ t → t < n → (if t = y then L y - 1 else L t) = (remC P (O.take (k + 1)) t + (hitC P x t - ((behindOf P x).take (m + 1)).count t) : Nat) := fun t t0 t1 => by
    have c := cnt t
    by_cases ty : t = y
    · subst ty
      rw [if_pos rfl]
      omega
    · rw [if_neg ty, h.lack t t0 t1, c, if_neg fun z => ty z.symm]
      rfl
  by_cases z : L y - 1 = 0
  · rw [if_pos z]
    have rem0 : remC P (O.take (k + 1)) y = 0 := by
      have := lack' y y0 y1
      rw [if_pos rfl] at this
      omega
    refine ⟨?_, fun t ht => ?_, ?_, fun t t0 t1 => by rw [tk]; exact lack' t t0 t1, fun t t0 t1 => ?_, fun j t ht p hp hpt => ?_⟩
    · rw [List.nodup_append]
      exact ⟨h.nd, by simp, fun a ha b hb c => ny (by rw [← List.mem_singleton.mp hb, ← c]; exact ha)⟩
    · rcases List.mem_append.mp ht with c | c
      · exact h.bd t c
      · rw [List.mem_singleton.mp c]
        exact ⟨y0, y1⟩
    · rw [List.getElem?_append_left lt]
      exact h.at_
    · rw [List.mem_append, List.mem_singleton]
      by_cases ty : t = y
      · rw [if_pos ty]
        exact ⟨fun _ => z, fun _ => .inr ty⟩
      · rw [if_neg ty, ← h.mem t t0 t1]
        exact ⟨fun c => c.resolve_right ty, .inl⟩
    · rcases Nat.lt_or_ge j O.length with c | c
      · rw [List.getElem?_append_left c] at ht
        rw [List.take_append_of_le_length (Nat.le_of_lt c)]
        exact h.ahead j t ht p hp hpt
      · have lj : j < (O ++ [y]).length := (List.getElem?_eq_some_iff.mp ht).1
        rw [List.length_append, List.length_singleton] at lj
        have jj : j = O.length := by omega
        subst jj
        rw [List.getElem?_append_right (Nat.le_refl _), Nat.sub_self] at ht
        have : y = t := Option.some.inj ht
        subst this
        rw [List.take_append_of_le_length (Nat.le_refl _), List.take_length]
        exact List.mem_of_mem_take (remC_zero rem0 p hp hpt)
  · rw [if_neg z]
    refine ⟨h.nd, h.bd, h.at_, lack', fun t t0 t1 => ?_, h.ahead⟩
    by_cases ty : t = y
    · subst ty
      rw [if_pos rfl]
      exact ⟨fun c => absurd c ny, fun c => absurd c z⟩
    · rw [if_neg ty]
      exact h.mem t t0 t1
/-- what order_of tells: an order, or some tasks of which each has one of them ahead -/
def OrderRes (P : List PP) (n : Nat) : Option (List Int) → Prop
  | some O => O.Nodup ∧ O.length = n ∧ (∀ t ∈ O, 0 ≤ t ∧ t < n) ∧ ∀ (j : Nat) (t : Int), O[j]? = some t → ∀ p ∈ P, p.2 = t → p.1 ∈ O.take j
  | none => ∃ S : List Int, S ≠ [] ∧ (∀ t ∈ S, 0 ≤ t ∧ t < n) ∧ ∀ t ∈ S, ∃ p ∈ P, p.2 = t ∧ p.1 ∈ S
theorem len_le {n : Nat} {O : List Int} (nd : O.Nodup) (bd : ∀ t ∈ O, 0 ≤ t ∧ t < n) : O.length ≤ n := by
  have s : O ⊆ Bs.upTo n := fun t ht => by
    obtain ⟨a, b⟩ := bd t ht
    exact List.mem_map.mpr ⟨t.toNat, List.mem_range.mpr (by omega), by omega⟩
  have := nd.length_le_of_subset s
  unfold Bs.upTo at this
  rw [List.length_map, List.length_range] at this
  exact this
theorem Ord.full {P : List PP} {n : Nat} {L : Int → Int} {O : List Int} (h : Ord P n n L O) : OrderRes P n (some O) :=
  ⟨h.nd, Nat.le_antisymm (len_le h.nd h.bd) h.le, h.bd, h.ahead⟩
theorem Ord.stuck {P : List PP} {n k : Nat} {L : Int → Int} {O : List Int} (h : Ord P n k L O) (ok : ∀ p ∈ P, 0 ≤ p.1 ∧ p.1 < n) (lt : k < n) (e : k = O.length) : OrderRes P n none := by
  subst e
  refine ⟨(Bs.upTo n).filter fun t => !decide (t ∈ O), fun c => ?_, fun t ht => ?_, fun t ht => ?_⟩
  · have sub : Bs.upTo n ⊆ O := fun t ht => by
      have := List.filter_eq_nil_iff.mp c t ht
      simpa using this
    have ndu : (Bs.upTo n).Nodup := by
      unfold Bs.upTo
      rw [List.Nodup, List.pairwise_map]
      exact List.nodup_range.imp fun h e => h (Int.ofNat.inj e)
    have := ndu.length_le_of_subset sub
    unfold Bs.upTo at this
    rw [List.length_map, List.length_range] at this
    omega
  · obtain ⟨hu, _⟩ := List.mem_filter.mp ht
    obtain ⟨j, hj, rfl⟩ := List.mem_map.mp hu
    have := List.mem_range.mp hj
    omega
  · obtain ⟨hu, hn⟩ := List.mem_filter.mp ht
    obtain ⟨j, hj, rfl⟩ := List.mem_map.mp hu
    have jn := List.mem_range.mp hj
    have nm : ((j : Nat) : Int) ∉ O := by simpa using hn
    have l := h.lack j (by omega) (by omega)
    have : remC P (O.take O.length) j ≠ 0 := fun c => nm ((h.mem j (by omega) (by omega)).mpr (by rw [l, c]; rfl))
    obtain ⟨p, hp, e1, e2⟩ := remC_pos this
    rw [List.take_length] at e2
    refine ⟨p, hp, e1, List.mem_filter.mpr ⟨List.mem_map.mpr ⟨p.1.toNat, List.mem_range.mpr ?_, ?_⟩, by simpa using e2⟩⟩
    · have := ok p hp
      omega
    · have := ok p hp
      omega
end Bs

namespace Bs
open PySem PySem.Spec PyProof.Rows L2
open Evl (Ex)
theorem ixN_nat {n k : Nat} (h : k < n) : ixN n (k : Int) = some k := by
  unfold ixN
  rw [if_pos (by omega), if_pos (by omega)]
  simp
/-- xs[k], k not below 0, as += asks for it -/
theorem pget_list {X : Cx} : PGet X (fun o i H Q => ∃ (p : Addr) (xs : List V) (k : Nat) (v : V), o = .ref p ∧ i = .int k ∧ SqL X.K H p xs ∧ xs[k]? = some v ∧ Q v H) := by
  intro pins s σ H o i ov iv Q I ro ri h
  obtain ⟨p, xs, k, v, rfl, rfl, hs, hv, q⟩ := h
  cases ro
  obtain ⟨t, rfl⟩ := ri
  obtain ⟨its, r, pl, hz⟩ := I.list hs
  obtain ⟨w, ew, rw'⟩ := r.get hv
  have lt : k < its.length := (List.getElem?_eq_some_iff.mp ew).1
  have hl := r.length
  have hn := line63
  exact wpAny_getItem_list pl.isList (by omega) (by omega) (by rw [Int.toNat_natCast]; simpa using ew) ⟨v, H, I, rw', q⟩
/-- numbers by their places -/
def lst (L : Int → Int) (n : Nat) : List Int := (List.range n).map fun (t : Nat) => L (t : Int)
theorem lst_len (L : Int → Int) (n : Nat) : (lst L n).length = n := by
  unfold lst
  rw [List.length_map, List.length_range]
theorem lst_get {L : Int → Int} {n y : Nat} (h : y < n) : (lst L n)[y]? = some (L y) := by
  unfold lst
  rw [List.getElem?_map, List.getElem?_range h]
  rfl
theorem lst_set {L : Int → Int} {n y : Nat} (v : Int) : (lst L n).set y v = lst (fun t => if t = y then v else L t) n := by
  apply List.ext_getElem?
  intro i
  rw [List.getElem?_set, lst_len]
  by_cases e : y = i
  · subst e
    rw [if_pos rfl]
    by_cases h : y < n
    · rw [if_pos h, lst_get h, if_pos rfl]
    · rw [if_neg h]
      exact (List.getElem?_eq_none (by rw [lst_len]; omega)).symm
  · rw [if_neg e]
    by_cases h : i < n
    · rw [lst_get h, lst_get h, if_neg (by omega)]
    · rw [List.getElem?_eq_none (by rw [lst_len]; omega), List.getElem?_eq_none (by rw [lst_len]; omega)]
theorem lst_congr {L M : Int → Int} {n : Nat} (h : ∀ t : Nat, t < n → L t = M t) : lst L n = lst M n :=
  List.map_congr_left fun t ht => h t (List.mem_range.mp ht)
theorem lack_snoc (P : List PP) (p : PP) (t : Int) : (lackOf (P ++ [p]) t : Int) = if t = p.2 then (lackOf P p.2 : Int) + 1 else lackOf P t := by
  unfold lackOf
  rw [List.countP_append]
  by_cases e : t = p.2
  · subst e
    rw [if_pos rfl]
    simp
  · rw [if_neg e]
    have : ¬ p.2 = t := fun z => e z.symm
    simp [this]
theorem behind_snoc (P : List PP) (p : PP) (x : Int) : behindOf (P ++ [p]) x = if p.1 = x then behindOf P x ++ [p.2] else behindOf P x := by
  unfold behindOf
  rw [List.filter_append, List.map_append]
  by_cases e : p.1 = x
  · rw [if_pos e, List.filter_cons_of_pos (by simpa using e)]
    rfl
  · rw [if_neg e, List.filter_cons_of_neg (by simpa using e)]
    simp
def freeOf (L : Int → Int) (n : Nat) : List Int := ((List.range n).filter fun (t : Nat) => decide (L t = 0)).map fun (t : Nat) => (t : Int)
theorem Ord.first (P : List PP) (n : Nat) : Ord P n 0 (fun t => (lackOf P t : Nat)) (freeOf (fun t => (lackOf P t : Nat)) n) := by
  have mem : ∀ t : Int, 0 ≤ t → t < n → (t ∈ freeOf (fun t => (lackOf P t : Nat)) n ↔ ((lackOf P t : Nat) : Int) = 0) := fun t t0 t1 => by
    unfold freeOf
    rw [List.mem_map]
    constructor
    · rintro ⟨j, hj, rfl⟩
      exact of_decide_eq_true (List.mem_filter.mp hj).2
    · intro e
      exact ⟨t.toNat, List.mem_filter.mpr ⟨List.mem_range.mpr (by omega), by
        rw [Int.toNat_of_nonneg t0]
        exact decide_eq_true e⟩, Int.toNat_of_nonneg t0⟩
  have bd : ∀ t ∈ freeOf (fun t => (lackOf P t : Nat)) n, 0 ≤ t ∧ t < n := fun t ht => by
    unfold freeOf at ht
    obtain ⟨j, hj, rfl⟩ := List.mem_map.mp ht
    have := List.mem_range.mp (List.mem_filter.mp hj).1
    omega
  refine ⟨?_, bd, Nat.zero_le _, fun t t0 t1 => by rw [List.take_zero, remC_nil], mem, fun j t ht p hp e => ?_⟩
  · unfold freeOf
    rw [List.Nodup, List.pairwise_map]
    exact (List.Pairwise.filter _ List.nodup_range).imp fun h e => h (Int.ofNat.inj e)
  · have m := List.mem_of_getElem? ht
    have z := (mem t (bd t m).1 (bd t m).2).mp m
    have z' : remC P [] t = 0 := by
      rw [remC_nil]
      omega
    exact absurd (remC_zero z' p hp e) (by simp)
end Bs

namespace Bs
open PySem PySem.Spec PyProof.Rows L2
open Evl (Ex)
/-! ### dicts with int keys, ranges, sorted ints -/
section
variable {K : PySem.W.Frag} {σ : L2.St} {H : Hp} {Q : VK}
theorem q_dnew (q : ∀ p, H p = none → Q (.ref p) (upd H p (.dK []))) : tDNewK σ H Q := q
theorem q_dget {td ty : TE} (q : td σ H fun x H1 => ty σ H1 fun y H2 => ∃ a v, x = .ref a ∧ DGet H2 a y (some v) ∧ Q v H2) : tDGet td ty σ H Q := q
theorem q_dgetI {a : Addr} {kvs : List (L2.Key × V)} {i : Int} {v : V} {P : V → Prop} (h : H a = some (.dK kvs)) (e : valV kvs (Sum.inl i) = some v) (q : P v) : ∃ b v, V.ref a = .ref b ∧ DGet H b (.int i) (some v) ∧ P v :=
  ⟨a, v, rfl, by
    rw [← e]
    exact DGet.k (k := Sum.inl i) h, q⟩
theorem q_dput {nx bk ct : L2.St → Hp → Prop} {rt : VK} {td ty tv : TE} (q : tv σ H fun v H1 => td σ H1 fun x H2 => ty σ H2 fun y H3 => ∃ a H4, x = .ref a ∧ DPut H3 a y v H4 ∧ nx σ H4) : sDPut td ty tv ⟨nx, rt, bk, ct⟩ σ H := q
theorem q_dputI {a : Addr} {kvs : List (L2.Key × V)} {i : Int} {v : V} {P : Hp → Prop} (h : H a = some (.dK kvs)) (s : kvs.length < 16000000) (q : P (upd H a (.dK (putK kvs (Sum.inl i) v)))) : ∃ b H4, V.ref a = .ref b ∧ DPut H b (.int i) v H4 ∧ P H4 :=
  ⟨a, _, rfl, DPut.k (k := Sum.inl i) h (by rw [sizeLine_eq]; omega), q⟩
def rRange1 : List V → Hp → VK → Prop := fun vs H Q => ∃ n, vs = [V.int n] ∧ ∀ p, H p = none → Q (.ref p) (upd H p (.rng 0 n))
theorem q_range1 {n : Int} (q : ∀ p, H p = none → Q (.ref p) (upd H p (.rng 0 n))) : rRange1 [.int n] H Q := ⟨n, rfl, q⟩
def rListRng : List V → Hp → VK → Prop := fun vs H Q => ∃ (r : Addr) (n : Nat), vs = [.ref r] ∧ H r = some (.rng 0 n) ∧ n ≤ 100000 ∧ ∀ p, H p = none → Q (.ref p) (upd H p (.lst ((upTo n).map V.int)))
theorem q_listRng {r : Addr} {n : Nat} (h : H r = some (.rng 0 n)) (s : n ≤ 100000) (q : ∀ p, H p = none → Q (.ref p) (upd H p (.lst ((upTo n).map V.int)))) : rListRng [.ref r] H Q := ⟨r, n, rfl, h, s, q⟩
theorem q_sortedI {a : Addr} {ns : List Int} (h : H a = some (.lst (ns.map V.int))) (q : ∀ (ms : List Int) (p : Addr), ms.Perm ns → ms.Pairwise (· ≤ ·) → H p = none → Q (.ref p) (upd H p (.lst (ms.map V.int)))) : rSortedI K [.ref a] H Q := ⟨a, ns, rfl, SqL.of h, q⟩
end
section
variable {X : Cx} {K : PySem.W.Frag}
theorem au_range1 : CallR X (.type "range") rRange1 := cr_range1
theorem au_listRng (hc : X.calm = true) : CallR X (.type "list") rListRng := cr_listRng hc
theorem au_sortedI (h : X.K = K := by rfl) : CallR X (.builtin "sorted") (rSortedI K) := h ▸ cr_sortedI
end
/-- two sorted lists of the same ints are one -/
theorem sorted_uniq : ∀ {ms ns : List Int}, ms.Pairwise (· ≤ ·) → ns.Pairwise (· ≤ ·) → ms.Perm ns → ms = ns
  | [], ns, _, _, p => (List.Perm.eq_nil p.symm).symm
  | m :: ms, [], _, _, p => absurd p.length_eq (by simp)
  | m :: ms, n :: ns, h, h', p => by
    have a : m ≤ n := by
      rcases List.mem_cons.mp (p.mem_iff.mpr (List.mem_cons_self (a := n) (l := ns))) with e | e
      · omega
      · exact (List.pairwise_cons.mp h).1 n e
    have b : n ≤ m := by
      rcases List.mem_cons.mp (p.mem_iff.mp (List.mem_cons_self (a := m) (l := ms))) with e | e
      · omega
      · exact (List.pairwise_cons.mp h').1 m e
    obtain rfl : m = n := by omega
    rw [sorted_uniq (List.pairwise_cons.mp h).2 (List.pairwise_cons.mp h').2 p.cons_inv]
theorem upTo_sorted (n : Nat) : (upTo n).Pairwise (· ≤ ·) := by
  unfold upTo
  rw [List.pairwise_map]
  exact List.pairwise_lt_range.imp fun {a b} h => by omega
theorem upTo_len (n : Nat) : (upTo n).length = n := by
  unfold upTo
  rw [List.length_map, List.length_range]
theorem upTo_get {n i : Nat} (h : i < n) : (upTo n)[i]? = some (i : Int) := by
  unfold upTo
  rw [List.getElem?_map, List.getElem?_range h]
  rfl
theorem upTo_mem {n : Nat} {x : Int} : x ∈ upTo n ↔ 0 ≤ x ∧ x < n := by
  unfold upTo
  rw [List.mem_map]
  constructor
  · rintro ⟨k, hk, rfl⟩
    have := List.mem_range.mp hk
    omega
  · rintro ⟨a, b⟩
    exact ⟨x.toNat, List.mem_range.mpr (by omega), by omega⟩
theorem upTo_nodup (n : Nat) : (upTo n).Nodup := by
  unfold upTo
  rw [List.Nodup, List.pairwise_map]
  exact List.pairwise_lt_range.imp fun {a b} h => by omega
/-! ### two machines in a row: the mathematics -/
/-- rows as pairs -/
def one_ (rows : List (List Int)) (n : Int) : Int := (rows.getD n.toNat []).getD 0 0
def two_ (rows : List (List Int)) (n : Int) : Int := (rows.getD n.toNat []).getD 1 0
/-- an order of so many -/
def IsOrder (o : List Int) (n : Nat) : Prop := o.Perm (upTo n)
theorem IsOrder.bd {o : List Int} {n : Nat} (h : IsOrder o n) {x : Int} (m : x ∈ o) : 0 ≤ x ∧ x < n := upTo_mem.mp (h.mem_iff.mp m)
theorem IsOrder.len {o : List Int} {n : Nat} (h : IsOrder o n) : o.length = n := by
  rw [h.length_eq, upTo_len]
theorem IsOrder.nodup {o : List Int} {n : Nat} (h : IsOrder o n) : o.Nodup := h.nodup_iff.mpr (upTo_nodup n)
theorem IsOrder.all {o : List Int} {n : Nat} (h : IsOrder o n) {x : Int} (a : 0 ≤ x) (b : x < n) : x ∈ o := h.mem_iff.mpr (upTo_mem.mpr ⟨a, b⟩)
end Bs

namespace Bs
open PySem PySem.Spec PyProof.Rows L2
open Evl (Ex)
/-! ### spans of two orders: the mathematics -/
def Pair2 (rows : List (List Int)) : Prop := ∀ r ∈ rows, ∃ a b : Int, r = [a, b] ∧ 1 ≤ a ∧ a ≤ 1000 ∧ 1 ≤ b ∧ b ≤ 1000
theorem Pair2.at {rows : List (List Int)} (h : Pair2 rows) {x : Int} (a : 0 ≤ x) (b : x < rows.length) : ∃ u v : Int, rows[x.toNat]? = some [u, v] ∧ one_ rows x = u ∧ two_ rows x = v ∧ 1 ≤ u ∧ u ≤ 1000 ∧ 1 ≤ v ∧ v ≤ 1000 := by
  have hlt : x.toNat < rows.length := by omega
  obtain ⟨u, v, e, h⟩ := h _ (List.getElem_mem hlt)
  have e2 : rows[x.toNat]? = some [u, v] := by rw [List.getElem?_eq_getElem hlt, e]
  refine ⟨u, v, e2, ?_, ?_, h⟩
  · unfold one_
    rw [show rows.getD x.toNat [] = [u, v] by rw [List.getD_eq_getElem?_getD, e2]; rfl]
    rfl
  · unfold two_
    rw [show rows.getD x.toNat [] = [u, v] by rw [List.getD_eq_getElem?_getD, e2]; rfl]
    rfl
def rdyL (rows : List (List Int)) : List Int → Int → Int → Int
  | [], _, _ => 0
  | y :: o, h, x => if y = x then h + one_ rows y else rdyL rows o (h + one_ rows y) x
def sumOf (f : Int → Int) (l : List Int) : Int := (l.map f).sum
theorem sumOf_cons (f : Int → Int) (x : Int) (l : List Int) : sumOf f (x :: l) = f x + sumOf f l := by
  unfold sumOf
  rw [List.map_cons, List.sum_cons]
theorem sumOf_append (f : Int → Int) (l m : List Int) : sumOf f (l ++ m) = sumOf f l + sumOf f m := by
  unfold sumOf
  rw [List.map_append, List.sum_append]
theorem rdyL_at (rows : List (List Int)) : ∀ (p : List Int) (y : Int) (r : List Int) (h : Int), y ∉ p → rdyL rows (p ++ y :: r) h y = h + sumOf (one_ rows) p + one_ rows y
  | [], y, r, h, _ => by
    show (if y = y then _ else _) = _
    rw [if_pos rfl]
    unfold sumOf
    simp
  | z :: p, y, r, h, n => by
    have n1 : ¬ z = y := fun e => n (by rw [e]; exact List.mem_cons_self)
    show (if z = y then _ else rdyL rows (p ++ y :: r) (h + one_ rows z) y) = _
    rw [if_neg n1, rdyL_at rows p y r _ fun m => n (List.mem_cons_of_mem _ m), sumOf_cons]
    omega
def rdy (rows : List (List Int)) (o : List Int) (x : Int) : Int := rdyL rows o 0 x
theorem rdy_get {rows : List (List Int)} {o : List Int} (nd : o.Nodup) {i : Nat} {x : Int} (h : o[i]? = some x) : rdy rows o x = sumOf (one_ rows) (o.take i) + one_ rows x := by
  obtain ⟨hi, e⟩ := List.getElem?_eq_some_iff.mp h
  have hx : x ∉ o.take i := nodup_at nd h
  have s : o = o.take i ++ x :: o.drop (i + 1) := by
    rw [← e, ← List.drop_eq_getElem_cons hi, List.take_append_drop]
  have := rdyL_at rows (o.take i) x (o.drop (i + 1)) 0 hx
  rw [← s] at this
  unfold rdy
  rw [this]
  omega
theorem sumOf_nn {f : Int → Int} : ∀ {l : List Int}, (∀ x ∈ l, 0 ≤ f x) → 0 ≤ sumOf f l
  | [], _ => by unfold sumOf; simp
  | x :: l, h => by
    have := sumOf_nn fun y hy => h y (List.mem_cons_of_mem x hy)
    have := h x List.mem_cons_self
    rw [sumOf_cons]
    omega
/-- the dict of the hours at which rows are ready -/
def Rdy (kvs : List (L2.Key × V)) (rows : List (List Int)) (o : List Int) (i : Nat) : Prop := (∀ x ∈ o.take i, valV kvs (Sum.inl x) = some (.int (rdy rows o x))) ∧ kvs.length ≤ i
theorem Rdy.nil (rows : List (List Int)) (o : List Int) : Rdy [] rows o 0 := ⟨(fun x h => by simp at h), Nat.le_refl _⟩
theorem put_len {κ : Type} [DecidableEq κ] (kvs : List (κ × V)) (k : κ) (v : V) : (putK kvs k v).length ≤ kvs.length + 1 := by
  unfold putK
  split
  · rw [List.length_map]
    omega
  · rw [List.length_append]
    exact Nat.le_refl _
theorem Rdy.put {kvs : List (L2.Key × V)} {rows : List (List Int)} {o : List Int} {i : Nat} (h : Rdy kvs rows o i) (nd : o.Nodup) {x : Int} (hx : o[i]? = some x) : Rdy (putK kvs (Sum.inl x) (.int (sumOf (one_ rows) (o.take i) + one_ rows x))) rows o (i + 1) := by
  refine ⟨fun y hy => ?_, Nat.le_trans (put_len _ _ _) (Nat.succ_le_succ h.2)⟩
  rw [take_snoc hx] at hy
  rw [valV_put]
  by_cases c : y = x
  · subst c
    rw [if_pos rfl, rdy_get nd hx]
  · rw [if_neg fun e => c (Sum.inl.inj e)]
    rcases List.mem_append.mp hy with e | e
    · exact h.1 y e
    · exact absurd (List.mem_singleton.mp e) c
theorem Rdy.all {kvs : List (L2.Key × V)} {rows : List (List Int)} {o : List Int} (h : Rdy kvs rows o o.length) {x : Int} (m : x ∈ o) : valV kvs (Sum.inl x) = some (.int (rdy rows o x)) := h.1 x (by rw [List.take_length]; exact m)
/-- the end, by going along; the greatest of what must come behind -/
def endL (rows : List (List Int)) (o : List Int) (e : Int) (t : List Int) : Int := t.foldl (fun e n => max e (rdy rows o n) + two_ rows n) e
def fnd (rows : List (List Int)) (o : List Int) : Int → List Int → Int
  | m, [] => m
  | m, n :: t => fnd rows o (max m (rdy rows o n + sumOf (two_ rows) (n :: t))) t
theorem endL_fnd (rows : List (List Int)) (o : List Int) : ∀ (t : List Int) (e : Int), endL rows o e t = fnd rows o (e + sumOf (two_ rows) t) t
  | [], e => by
    show e = e + _
    unfold sumOf
    simp
  | n :: t, e => by
    show endL rows o (max e (rdy rows o n) + two_ rows n) t = fnd rows o (max (e + sumOf (two_ rows) (n :: t)) (rdy rows o n + sumOf (two_ rows) (n :: t))) t
    rw [endL_fnd rows o t]
    refine congrArg (fun z => fnd rows o z t) ?_
    rw [sumOf_cons]
    omega
theorem end_is {rows : List (List Int)} {o t : List Int} (r0 : ∀ x ∈ t, 0 ≤ rdy rows o x) (w0 : ∀ x ∈ t, 0 ≤ two_ rows x) : endL rows o 0 t = fnd rows o 0 t := by
  rw [endL_fnd]
  cases t with
  | nil => rfl
  | cons n t =>
    show fnd rows o (max _ _) t = fnd rows o (max _ _) t
    refine congrArg (fun z => fnd rows o z t) ?_
    have := r0 n List.mem_cons_self
    have := sumOf_nn w0
    omega
theorem drop_get {o : List Int} {i : Nat} {x : Int} (h : o[i]? = some x) : o.drop i = x :: o.drop (i + 1) := by
  obtain ⟨hi, e⟩ := List.getElem?_eq_some_iff.mp h
  rw [List.drop_eq_getElem_cons hi, e]
theorem pick_perm {α : Type} : ∀ {l : List α} {k : Nat} {x : α}, l[k]? = some x → (x :: l.eraseIdx k).Perm l
  | [], _, _, h => by simp at h
  | y :: l, 0, x, h => by
    have := Option.some.inj h
    subst this
    exact List.Perm.refl _
  | y :: l, k + 1, x, h => (List.Perm.swap y x _).trans ((pick_perm (l := l) (k := k) h).cons y)
theorem erase_map {α β : Type} (f : α → β) : ∀ (l : List α) (k : Nat), (l.map f).eraseIdx k = (l.eraseIdx k).map f
  | [], _ => rfl
  | _ :: _, 0 => rfl
  | x :: l, k + 1 => congrArg (f x :: ·) (erase_map f l k)
theorem IsOrder.pop {l r : List Int} {n : Nat} (h : IsOrder (l ++ r) n) {k : Nat} {x : Int} (hx : r[k]? = some x) : IsOrder ((l ++ [x]) ++ r.eraseIdx k) n := by
  unfold IsOrder at h ⊢
  refine List.Perm.trans ?_ h
  rw [List.append_assoc]
  exact List.Perm.append_left l (pick_perm hx)
theorem row_at {H : Hp} {xs : List V} {rows : List (List Int)} {x : Int} (ts : Ts H xs rows) (ok : Pair2 rows) (x0 : 0 ≤ x) (x1 : x < rows.length) : ∃ t, atI xs x = some (.ref t) ∧ H t = some (.tup [.int (one_ rows x), .int (two_ rows x)]) ∧ 1 ≤ one_ rows x ∧ one_ rows x ≤ 1000 ∧ 1 ≤ two_ rows x ∧ two_ rows x ≤ 1000 := by
  obtain ⟨u, v, e, rfl, rfl, h⟩ := ok.at x0 x1
  obtain ⟨t, e2, ht⟩ := ts.get' e
  obtain ⟨k, rfl⟩ : ∃ k : Nat, x = (k : Int) := ⟨_, (Int.toNat_of_nonneg x0).symm⟩
  exact ⟨t, atI_nat (by rw [Int.toNat_natCast] at e2; exact e2), ht, h⟩
theorem map_get {l : List Int} {i : Nat} {x : V} (h : (l.map V.int)[i]? = some x) : ∃ n, l[i]? = some n ∧ x = .int n := by
  rw [List.getElem?_map] at h
  cases e : l[i]? with
  | none => rw [e] at h; cases h
  | some n => rw [e] at h; exact ⟨n, rfl, (Option.some.inj h).symm⟩
theorem sumOf_snoc {f : Int → Int} {l : List Int} {i : Nat} {x : Int} (h : l[i]? = some x) : sumOf f (l.take (i + 1)) = sumOf f (l.take i) + f x := by
  rw [take_snoc h, sumOf_append]
  unfold sumOf
  simp
theorem endL_snoc {rows : List (List Int)} {o l : List Int} {e : Int} {i : Nat} {x : Int} (h : l[i]? = some x) : endL rows o e (l.take (i + 1)) = max (endL rows o e (l.take i)) (rdy rows o x) + two_ rows x := by
  unfold endL
  rw [take_snoc h, List.foldl_append]
  rfl
theorem Pair2.nn {rows : List (List Int)} (ok : Pair2 rows) {x : Int} (h : 0 ≤ x ∧ x < rows.length) : 1 ≤ one_ rows x ∧ 1 ≤ two_ rows x := by
  obtain ⟨u, v, _, rfl, rfl, a, _, b, _⟩ := ok.at h.1 h.2
  exact ⟨a, b⟩
theorem two_nn {rows : List (List Int)} (ok : Pair2 rows) {x : Int} (h : 0 ≤ x ∧ x < rows.length) : 0 ≤ two_ rows x := by
  have := (ok.nn h).2
  omega
theorem rdy_nn {rows : List (List Int)} {o : List Int} (ok : Pair2 rows) (io : IsOrder o rows.length) {x : Int} (h : 0 ≤ x ∧ x < rows.length) : 0 ≤ rdy rows o x := by
  obtain ⟨i, hi⟩ := List.mem_iff_getElem?.mp (io.all h.1 h.2)
  rw [rdy_get io.nodup hi]
  have := (ok.nn h).1
  have : 0 ≤ sumOf (one_ rows) (o.take i) := sumOf_nn fun y hy => by
    have := (ok.nn (io.bd (List.mem_of_mem_take hy))).1
    omega
  omega
theorem lay_ints (ns : List Int) : PyData.canLay0 (.list (ns.map .int)) = true ∧ PyData.depth (.list (ns.map .int)) ≤ 10 :=
  ⟨show PyData.canLayAll0 (ns.map .int) = true from sh_ints, show PyData.depthAll (ns.map .int) + 1 ≤ 10 by rw [dp_ints]; omega⟩
theorem lay_ts (rows : List (List Int)) : PyData.canLay0 (.list (rows.map fun ns => .tuple (ns.map .int))) = true ∧ PyData.depth (.list (rows.map fun ns => .tuple (ns.map .int))) ≤ 10 := by
  constructor
  · have := shaped_ts rows
    unfold SeqAt.shaped at this
    rw [Bool.and_eq_true] at this
    exact this.1
  · have : PyData.depthAll (rows.map fun ns => PyData.tuple (ns.map .int)) ≤ 1 := by
      induction rows with
      | nil => exact Nat.zero_le _
      | cons r rs ih =>
        show max (PyData.depthAll (r.map .int) + 1) (PyData.depthAll (rs.map fun ns => PyData.tuple (ns.map .int))) ≤ 1
        rw [dp_ints]
        omega
    show PyData.depthAll _ + 1 ≤ 10
    omega
theorem shaped3 {a b c : PyData} (ha : PyData.canLay0 a = true ∧ PyData.depth a ≤ 10) (hb : PyData.canLay0 b = true ∧ PyData.depth b ≤ 10) (hc : PyData.canLay0 c = true ∧ PyData.depth c ≤ 10) : SeqAt.shaped (.list [a, b, c]) = true := by
  unfold SeqAt.shaped
  rw [show PyData.canLay0 (.list [a, b, c]) = (PyData.canLay0 a && (PyData.canLay0 b && (PyData.canLay0 c && true))) from rfl, ha.1, hb.1, hc.1]
  exact decide_eq_true (show max (PyData.depth a) (max (PyData.depth b) (max (PyData.depth c) 0)) + 1 ≤ 64 by have := ha.2; have := hb.2; have := hc.2; omega)
end Bs

namespace Bs
open PySem PySem.Spec PyProof.Rows L2
open Evl (Ex)
/-! ### more rules: min and max of a tuple, or, int of a truth, texts in a tuple, zips of tuples -/
section
variable {K : PySem.W.Frag} {σ : L2.St} {H : Hp} {Q : VK}
theorem min_in : ∀ (ns : List Int) (n : Int), (ns.foldl min n ∈ n :: ns) ∧ ∀ k ∈ n :: ns, ns.foldl min n ≤ k
  | [], n => ⟨List.mem_cons_self, fun k hk => by rw [List.mem_singleton.mp hk]; exact Int.le_refl _⟩
  | m :: r, n => by
    obtain ⟨h1, h2⟩ := min_in r (min n m)
    rw [List.foldl_cons]
    constructor
    · rcases List.mem_cons.mp h1 with e | e
      · rw [e]
        rcases Int.le_total n m with h | h
        · rw [Int.min_eq_left h]
          exact List.mem_cons_self
        · rw [Int.min_eq_right h]
          exact List.mem_cons_of_mem _ List.mem_cons_self
      · exact List.mem_cons_of_mem _ (List.mem_cons_of_mem _ e)
    · intro k hk
      have h3 := h2 _ List.mem_cons_self
      rcases List.mem_cons.mp hk with e | e
      · omega
      · rcases List.mem_cons.mp e with e | e
        · omega
        · exact h2 k (List.mem_cons_of_mem _ e)
def rMinT (K : PySem.W.Frag) : List V → Hp → VK → Prop := fun vs H Q => ∃ (a : Addr) (ns : List Int), vs = [V.ref a] ∧ SqT K H a (ns.map V.int) ∧ 0 < ns.length ∧ ∀ m, m ∈ ns → (∀ y, y ∈ ns → m ≤ y) → Q (.int m) H
theorem au_minT {X : Cx} (hc : X.calm = true) (hu : X.A.units + 64 < cLine) (hK : X.K = K := by rfl) : CallR X (.builtin "min") (rMinT K) := by
  subst hK
  intro pins s σ H xs us Q I r1 h
  obtain ⟨a, ns, rfl, hs, l, h1⟩ := h
  obtain ⟨u, rfl, ru⟩ := vals1 r1
  obtain rfl : u = Value.ref a := ru
  obtain ⟨its, rv, hl, _⟩ := I.tuple hs
  cases ns with
  | nil => exact absurd l (Nat.lt_irrefl 0)
  | cons n r =>
    obtain ⟨as, rd⟩ := Dp.readsAll I ((n :: r).map .int) _ _ dpa_ints rv
    have back : ∀ {h' : Heap} {tk : Nat}, (∀ b o, s.heap.get? b = some o → h'.get? b = some o) → L2.Inv X pins σ H { s with heap := h', toks := tk } := fun {h' tk} kept => I.call' (ch := []) rfl (Un.kept kept) (I.hok.kept kept) I.bare (fun _ z => nomatch z)
    have al : PySem.W.AlikeAll ((n :: r).map .int) := ⟨fun x hx y hy => by
      obtain ⟨i, _, rfl⟩ := List.mem_map.mp hx
      obtain ⟨j, _, rfl⟩ := List.mem_map.mp hy
      rfl, fun x hx => by
      obtain ⟨i, _, rfl⟩ := List.mem_map.mp hx
      intro z
      cases z⟩
    refine PySem.W.min_tuple_data (vs := its.toArray) (x := .int n) (xs := r.map .int) (I.ok.hd hc) (show s.heap.IsTuple a its.toArray from hl) (by simpa using rd) al (by
      rw [show (PyData.int n :: r.map PyData.int) = (n :: r).map PyData.int from rfl, dp_ints]
      omega) (fun i v h' tk bs hv hr kept => ?_)
    rw [PySem.W.minD_ints] at hr
    obtain ⟨t, rfl⟩ : ∃ t, v = .int (r.foldl min n) t := by
      cases hr with
      | int => exact ⟨_, rfl⟩
    obtain ⟨g1, g2⟩ := min_in r n
    exact ⟨.int _, H, back kept, ⟨t, rfl⟩, h1 _ g1 g2⟩
theorem q_minT2 {a : Addr} {x y : Int} (h : H a = some (.tup [.int x, .int y])) (q : Q (.int (min x y)) H) : rMinT K [.ref a] H Q :=
  ⟨a, [x, y], rfl, SqT.of h, Nat.succ_pos _, fun m hm hy => by
    have h1 := hy x List.mem_cons_self
    have h2 := hy y (List.mem_cons_of_mem _ List.mem_cons_self)
    have : m = min x y := by
      simp only [List.mem_cons, List.not_mem_nil, or_false] at hm
      omega
    rw [this]
    exact q⟩
def rInt1 : List V → Hp → VK → Prop := fun xs H Q => (∃ i, xs = [.int i] ∧ Q (.int i) H) ∨ ∃ k, xs = [.bl k] ∧ Q (.int (if k then 1 else 0)) H
theorem q_int1b {k : Bool} (q : Q (.int (if k then 1 else 0)) H) : rInt1 [.bl k] H Q := .inr ⟨k, rfl, q⟩
theorem q_int1i {i : Int} (q : Q (.int i) H) : rInt1 [.int i] H Q := .inl ⟨i, rfl, q⟩
theorem au_int1 {X : Cx} : CallR X (.type "int") rInt1 := call_int1
theorem q_orT {ta tb : TE} (q : ta σ H fun x H1 => ∃ k, TruV K x H1 k ∧ if k = true then Q x H1 else tb σ H1 Q) : tOrT K ta tb σ H Q := q
theorem q_truT {a : Addr} {xs : List V} {P : Bool → Prop} (h : H a = some (.tup xs)) (q : P (!xs.isEmpty)) : ∃ k, TruV K (.ref a) H k ∧ P k := ⟨_, .inr (.inl ⟨xs, SqT.of h, rfl⟩), q⟩
theorem q_truL {a : Addr} {xs : List V} {P : Bool → Prop} (h : H a = some (.lst xs)) (q : P (!xs.isEmpty)) : ∃ k, TruV K (.ref a) H k ∧ P k := ⟨_, .inl ⟨xs, SqL.of h, rfl⟩, q⟩
theorem flat_strs (ns : List Str) : (ns.map V.str).all flatV = true := by
  rw [List.all_eq_true]
  intro v hv
  obtain ⟨n, _, rfl⟩ := List.mem_map.mp hv
  rfl
/-- a text among written ones -/
theorem q_niS {p : Addr} {x a b : Str} (h : H p = some (.tup [.str a, .str b])) (q : Q (.bl (!(a == x || (b == x || false)))) H) : rIn K true (.str x) (.ref p) H Q := ⟨p, _, rfl, .inr (SqT.of h), rfl, rfl, by
  rw [if_pos rfl]
  exact q⟩
theorem q_iZipA {ta : TA} {P : It → Hp → Prop} (q : ta σ H fun vs H1 => ∃ a b xs ys, vs = [.ref a, .ref b] ∧ ((SqL K H1 a xs ∧ SqL K H1 b ys ∧ P (Itz K a b) H1) ∨ (SqT K H1 a xs ∧ SqT K H1 b ys ∧ P (RZ.ItzT K a b) H1))) : RZ.iZipA K ta σ H P := q
theorem q_zipT {a b : Addr} {xs ys : List V} {P P' : Addr → Addr → Prop} (h : H a = some (.tup xs)) (h' : H b = some (.tup ys)) (q : P' a b) : ∃ c d xs ys, [V.ref a, .ref b] = [.ref c, .ref d] ∧ ((SqL K H c xs ∧ SqL K H d ys ∧ P c d) ∨ (SqT K H c xs ∧ SqT K H d ys ∧ P' c d)) := ⟨a, b, xs, ys, rfl, .inr ⟨SqT.of h, SqT.of h', q⟩⟩
theorem q_slT1 {a : Addr} {xs : List V} (h : H a = some (.tup xs)) (l : 0 < xs.length) (q : ∀ p, H p = none → Q (.ref p) (upd H p (.tup (xs.drop 1)))) : rSlT K (.ref a) (some 1) none H Q :=
  ⟨a, xs, rfl, SqT.of h, fun z => by
    have z1 := z.1
    rw [show (some (1 : Int)) = some ((1 : Nat) : Int) from rfl, HT.sIx_nat] at z1
    omega, fun p np => by
    rw [cutV_one]
    exact q p np⟩
section
variable {g : TG} {tt : TT} {te : TE} {vs : List Nat} {τ : L2.St} {D : Addr} {Qd : Hp → Prop}
theorem lcp_zipT {a b : Addr} {xs ys : List V} {n : Nat} (hn : n = min xs.length ys.length) (Pv : Nat → Hp → Prop) (h0 : Pv 0 H) (hl : ∀ i H, Pv i H → H a = some (.tup xs) ∧ H b = some (.tup ys))
    (hs : ∀ (i : Nat) (x y : V) (H : Hp) (T : Addr), xs[i]? = some x → ys[i]? = some y → Pv i H → H T = none → TurnC g tt te τ vs D (.ref T) (Pv (i + 1)) (upd H T (.tup [x, y]))) (hd : ∀ H, Pv n H → Qd H) : LoopC (RZ.ItzT K a b) g tt te τ vs D Qd H := by
  refine ⟨fun i m H => m = n - i ∧ i ≤ n ∧ Pv i H, ⟨n, by simp, Nat.zero_le _, h0⟩, ?_⟩
  rintro i m H ⟨rfl, hi, p⟩
  have q1 : SqT K H a xs := SqT.of (hl i H p).1
  have q2 : SqT K H b ys := SqT.of (hl i H p).2
  by_cases hlt : i < n
  · have l1 : i < xs.length := by omega
    have l2 : i < ys.length := by omega
    refine .inr ⟨⟨xs, ys, xs[i], ys[i], q1, q2, by simp [l1], by simp [l2]⟩, Pv (i + 1), fun H' p' => ⟨n - (i + 1), by omega, rfl, hlt, p'⟩, fun x H' y => ?_⟩
    obtain ⟨T, y1, y2, e1, e2, e3, e4, e5⟩ := y
    subst e1 e3
    exact hs i y1 y2 H T (e4 xs q1) (e5 ys q2) p e2
  · have e : i = n := by omega
    subst e
    exact .inl ⟨⟨xs, ys, q1, q2, by omega⟩, hd H p⟩
/-- maps of ints over a list or a tuple of ints -/
theorem lcp_mapIL {a : Addr} {S : List Int} (fn : Int → Int) (nD : H D = none) (ha : H a = some (.lst (S.map V.int))) (small : S.length ≤ 10000000)
    (turn : ∀ (n : Int) (H1 : Hp), n ∈ S → Ex H H1 → ∀ R : VK, (∀ H2, Ex H1 H2 → R (.int (fn n)) H2) → TurnE g tYes te τ vs (.int n) R H1)
    (q : ∀ H', Ex H H' → H' D = some (.lst ((S.map fn).map V.int)) → Qd H') : LoopC (Itl K a) g tYes te τ vs D Qd (upd H D (.lst [])) := by
  refine lcp_list (xs := S.map V.int) (fun i H' => Ex H H' ∧ H' D = some (.lst (((S.take i).map fn).map V.int))) ⟨Ex.new nD, upd_same⟩ (fun i H' _ h => h.1 _ _ ha) (fun i x H' hx h => ?_) (fun H' h => ?_)
  · obtain ⟨e, hD⟩ := h
    rw [List.getElem?_map] at hx
    cases hn : S[i]? with
    | none => rw [hn] at hx; cases hx
    | some n =>
      rw [hn] at hx
      have := Option.some.inj hx
      subst this
      have hi := (List.getElem?_eq_some_iff.mp hn).1
      exact turn n H' (List.mem_of_getElem? hn) e _ fun H2 e2 => ⟨_, e2 _ _ hD, by rw [List.length_map, List.length_map, List.length_take, sizeLine_eq]; omega, (e.trans e2).mut nD, by
        rw [upd_same, take_snoc hn, List.map_append, List.map_append]
        rfl⟩
  · rw [List.length_map, List.take_length] at h
    exact q H' h.1 h.2
theorem lcp_mapIT {a : Addr} {S : List Int} (fn : Int → Int) (nD : H D = none) (ha : H a = some (.tup (S.map V.int))) (small : S.length ≤ 10000000)
    (turn : ∀ (n : Int) (H1 : Hp), n ∈ S → Ex H H1 → ∀ R : VK, (∀ H2, Ex H1 H2 → R (.int (fn n)) H2) → TurnE g tYes te τ vs (.int n) R H1)
    (q : ∀ H', Ex H H' → H' D = some (.lst ((S.map fn).map V.int)) → Qd H') : LoopC (Itt K a) g tYes te τ vs D Qd (upd H D (.lst [])) := by
  refine lcp_tup (xs := S.map V.int) (fun i H' => Ex H H' ∧ H' D = some (.lst (((S.take i).map fn).map V.int))) ⟨Ex.new nD, upd_same⟩ (fun i H' _ h => h.1 _ _ ha) (fun i x H' hx h => ?_) (fun H' h => ?_)
  · obtain ⟨e, hD⟩ := h
    rw [List.getElem?_map] at hx
    cases hn : S[i]? with
    | none => rw [hn] at hx; cases hx
    | some n =>
      rw [hn] at hx
      have := Option.some.inj hx
      subst this
      have hi := (List.getElem?_eq_some_iff.mp hn).1
      exact turn n H' (List.mem_of_getElem? hn) e _ fun H2 e2 => ⟨_, e2 _ _ hD, by rw [List.length_map, List.length_map, List.length_take, sizeLine_eq]; omega, (e.trans e2).mut nD, by
        rw [upd_same, take_snoc hn, List.map_append, List.map_append]
        rfl⟩
  · rw [List.length_map, List.take_length] at h
    exact q H' h.1 h.2
/-- a map of ints over rows -/
theorem lcp_mapR {a : Addr} {xs : List V} {rows : List (List Int)} (fn : List Int → Int) (nD : H D = none) (ha : H a = some (.lst xs)) (ts : Ts H xs rows) (small : rows.length ≤ 10000000)
    (turn : ∀ (t : Addr) (r : List Int) (H1 : Hp), r ∈ rows → Ex H H1 → H1 t = some (.tup (r.map V.int)) → ∀ R : VK, (∀ H2, Ex H1 H2 → R (.int (fn r)) H2) → TurnE g tYes te τ vs (.ref t) R H1)
    (q : ∀ H', Ex H H' → H' D = some (.lst ((rows.map fn).map V.int)) → Qd H') : LoopC (Itl K a) g tYes te τ vs D Qd (upd H D (.lst [])) := by
  have l := ts.len
  refine lcp_list (xs := xs) (fun i H' => Ex H H' ∧ H' D = some (.lst (((rows.take i).map fn).map V.int))) ⟨Ex.new nD, upd_same⟩ (fun i H' _ h => h.1 _ _ ha) (fun i x H' hx h => ?_) (fun H' h => ?_)
  · obtain ⟨e, hD⟩ := h
    obtain ⟨t, r, rfl, hn, ht⟩ := ts.get hx
    have hi := (List.getElem?_eq_some_iff.mp hn).1
    exact turn t r H' (List.mem_of_getElem? hn) e (e _ _ ht) _ fun H2 e2 => ⟨_, e2 _ _ hD, by rw [List.length_map, List.length_map, List.length_take, sizeLine_eq]; omega, (e.trans e2).mut nD, by
      rw [upd_same, take_snoc hn, List.map_append, List.map_append]
      rfl⟩
  · rw [l, List.take_length] at h
    exact q H' h.1 h.2
end
end
end Bs

namespace Bs
open PySem PySem.Spec PyProof.Rows L2
open Evl (Ex)
/-! ### what sets of rows show: the mathematics -/
theorem sumOf_perm {f : Int → Int} {l m : List Int} (h : l.Perm m) : sumOf f l = sumOf f m := by
  induction h with
  | nil => rfl
  | cons x _ ih => rw [sumOf_cons, sumOf_cons, ih]
  | swap x y l =>
    rw [sumOf_cons, sumOf_cons, sumOf_cons, sumOf_cons]
    omega
  | trans _ _ a b => rw [a, b]
theorem sumOf_le {f g : Int → Int} : ∀ {l : List Int}, (∀ x ∈ l, f x ≤ g x) → sumOf f l ≤ sumOf g l
  | [], _ => Int.le_refl _
  | x :: l, h => by
    have := sumOf_le fun y hy => h y (List.mem_cons_of_mem x hy)
    have := h x List.mem_cons_self
    rw [sumOf_cons, sumOf_cons]
    omega
/-- a part's sum -/
theorem sumOf_sub {f : Int → Int} : ∀ {l m : List Int}, l.Nodup → (∀ x ∈ l, x ∈ m) → (∀ x ∈ m, 0 ≤ f x) → sumOf f l ≤ sumOf f m
  | [], m, _, _, nn => by
    have := sumOf_nn nn
    exact this
  | x :: l, m, nd, sub, nn => by
    obtain ⟨a, b, rfl⟩ := List.append_of_mem (sub x List.mem_cons_self)
    have nd' := List.nodup_cons.mp nd
    have := sumOf_sub (l := l) (m := a ++ b) nd'.2 (fun y hy => by
      have := sub y (List.mem_cons_of_mem _ hy)
      rw [List.mem_append, List.mem_cons] at this
      rw [List.mem_append]
      rcases this with e | e | e
      · exact .inl e
      · subst e
        exact absurd hy nd'.1
      · exact .inr e) (fun y hy => nn y (by
        rw [List.mem_append] at hy
        rw [List.mem_append, List.mem_cons]
        rcases hy with e | e
        · exact .inl e
        · exact .inr (.inr e)))
    rw [sumOf_cons, sumOf_append, sumOf_cons]
    rw [sumOf_append] at this
    omega
/-- the greatest of what must come behind is at least each -/
theorem fnd_le {rows : List (List Int)} {o : List Int} : ∀ (t : List Int) (m : Int), m ≤ fnd rows o m t
  | [], m => Int.le_refl m
  | n :: t, m => by
    have := fnd_le (rows := rows) (o := o) t (max m (rdy rows o n + sumOf (two_ rows) (n :: t)))
    show m ≤ fnd rows o (max m (rdy rows o n + sumOf (two_ rows) (n :: t))) t
    omega
theorem fnd_at {rows : List (List Int)} {o : List Int} : ∀ {t : List Int} {m : Int} {q : Nat} {x : Int}, t[q]? = some x → rdy rows o x + sumOf (two_ rows) (t.drop q) ≤ fnd rows o m t
  | [], _, _, _, h => by simp at h
  | n :: t, m, 0, x, h => by
    have := Option.some.inj h
    subst this
    have := fnd_le (rows := rows) (o := o) t (max m (rdy rows o n + sumOf (two_ rows) (n :: t)))
    show rdy rows o n + sumOf (two_ rows) (n :: t) ≤ fnd rows o (max m (rdy rows o n + sumOf (two_ rows) (n :: t))) t
    omega
  | n :: t, m, q + 1, x, h => fnd_at (t := t) (q := q) h
/-- and is one of these, or what it began with -/
theorem fnd_one {rows : List (List Int)} {o : List Int} : ∀ (t : List Int) (m : Int), fnd rows o m t = m ∨ ∃ (q : Nat) (x : Int), t[q]? = some x ∧ fnd rows o m t = rdy rows o x + sumOf (two_ rows) (t.drop q)
  | [], m => .inl rfl
  | n :: t, m => by
    show fnd rows o (max m (rdy rows o n + sumOf (two_ rows) (n :: t))) t = m ∨ _
    rcases fnd_one (rows := rows) (o := o) t (max m (rdy rows o n + sumOf (two_ rows) (n :: t))) with e | ⟨q, x, a, b⟩
    · by_cases c : rdy rows o n + sumOf (two_ rows) (n :: t) ≤ m
      · exact .inl (by omega)
      · exact .inr ⟨0, n, rfl, by
          show fnd rows o (max m (rdy rows o n + sumOf (two_ rows) (n :: t))) t = rdy rows o n + sumOf (two_ rows) (n :: t)
          omega⟩
    · exact .inr ⟨q + 1, x, a, b⟩
section
variable {rows : List (List Int)} {one two : List Int}
/-- no span is less, from the front -/
theorem span_front (ok : Pair2 rows) (io : IsOrder one rows.length) (it : IsOrder two rows.length) {p : Nat} {f : Int} (hf : two[p]? = some f) :
    sumOf (one_ rows) (two.take p) + one_ rows f + sumOf (two_ rows) (two.drop p) ≤ fnd rows one 0 two := by
  -- the one of the first p + 1 that is ready last
  have nn1 : ∀ x ∈ one, 0 ≤ one_ rows x := fun x hx => by
    have := (ok.nn (io.bd hx)).1
    omega
  have nn2 : ∀ x ∈ two, 0 ≤ two_ rows x := fun x hx => two_nn ok (it.bd hx)
  have hp := (List.getElem?_eq_some_iff.mp hf).1
  have key : ∀ k, k ≤ p → ∃ (q i : Nat) (x : Int), q ≤ k ∧ two[q]? = some x ∧ one[i]? = some x ∧ ∀ y ∈ two.take (k + 1), y ∈ one.take (i + 1) := by
    intro k
    induction k with
    | zero =>
      intro _
      obtain ⟨x, hx⟩ : ∃ x, two[0]? = some x := ⟨_, List.getElem?_eq_getElem (by omega)⟩
      have mx := it.bd (List.mem_of_getElem? hx)
      obtain ⟨i, hi⟩ := List.mem_iff_getElem?.mp (io.all mx.1 mx.2)
      refine ⟨0, i, x, Nat.le_refl _, hx, hi, fun y hy => ?_⟩
      rw [take_snoc hx] at hy
      have : y = x := by simpa using hy
      subst this
      rw [take_snoc hi]
      exact List.mem_append_right _ List.mem_cons_self
    | succ k ih =>
      intro hk
      obtain ⟨q, i, x, q1, hx, hi, all⟩ := ih (by omega)
      obtain ⟨z, hz⟩ : ∃ z, two[k + 1]? = some z := ⟨_, List.getElem?_eq_getElem (by omega)⟩
      have mz := it.bd (List.mem_of_getElem? hz)
      obtain ⟨j, hj⟩ := List.mem_iff_getElem?.mp (io.all mz.1 mz.2)
      by_cases c : i ≤ j
      · refine ⟨k + 1, j, z, Nat.le_refl _, hz, hj, fun y hy => ?_⟩
        rw [take_snoc hz] at hy
        rcases List.mem_append.mp hy with e | e
        · exact (List.take_subset_take_left one (by omega)) (all y e)
        · rw [List.mem_singleton.mp e, take_snoc hj]
          exact List.mem_append_right _ List.mem_cons_self
      · refine ⟨q, i, x, by omega, hx, hi, fun y hy => ?_⟩
        rw [take_snoc hz] at hy
        rcases List.mem_append.mp hy with e | e
        · exact all y e
        · rw [List.mem_singleton.mp e]
          have : z ∈ one.take (j + 1) := by
            rw [take_snoc hj]
            exact List.mem_append_right _ List.mem_cons_self
          exact (List.take_subset_take_left one (by omega)) this
  obtain ⟨q, i, x, q1, hx, hi, all⟩ := key p (Nat.le_refl _)
  have a := fnd_at (rows := rows) (o := one) (m := 0) hx
  have b := rdy_get (rows := rows) io.nodup hi
  have c : sumOf (one_ rows) (two.take (p + 1)) ≤ sumOf (one_ rows) (one.take (i + 1)) := sumOf_sub (it.nodup.sublist (List.take_sublist _ _)) all fun y hy => nn1 y (List.mem_of_mem_take hy)
  rw [sumOf_snoc hf, sumOf_snoc hi] at c
  have d : sumOf (two_ rows) (two.drop p) ≤ sumOf (two_ rows) (two.drop q) := by
    refine sumOf_sub (it.nodup.sublist (List.drop_sublist _ _)) (fun y hy => ?_) fun y hy => nn2 y (List.mem_of_mem_drop hy)
    rw [show p = (p - q) + q by omega, ← List.drop_drop] at hy
    exact List.mem_of_mem_drop (by rw [List.drop_drop] at hy ⊢; rw [Nat.add_comm]; exact hy)
  omega
/-- and from the back -/
theorem span_back (ok : Pair2 rows) (io : IsOrder one rows.length) (it : IsOrder two rows.length) {p : Nat} {f : Int} (hf : one[p]? = some f) :
    sumOf (one_ rows) (one.take (p + 1)) + sumOf (two_ rows) (one.drop p) ≤ fnd rows one 0 two := by
  have nn1 : ∀ x ∈ one, 0 ≤ one_ rows x := fun x hx => by
    have := (ok.nn (io.bd hx)).1
    omega
  have nn2 : ∀ x ∈ two, 0 ≤ two_ rows x := fun x hx => two_nn ok (it.bd hx)
  have hp := (List.getElem?_eq_some_iff.mp hf).1
  -- the one of those behind that is first on the second machine
  have key : ∀ k, p + k < one.length → ∃ (q i : Nat) (x : Int), p ≤ i ∧ two[q]? = some x ∧ one[i]? = some x ∧ ∀ y ∈ (one.drop p).take (k + 1), y ∈ two.drop q := by
    intro k
    induction k with
    | zero =>
      intro _
      have mx := io.bd (List.mem_of_getElem? hf)
      obtain ⟨q, hq⟩ := List.mem_iff_getElem?.mp (it.all mx.1 mx.2)
      refine ⟨q, p, f, Nat.le_refl _, hq, hf, fun y hy => ?_⟩
      have h0 : (one.drop p)[0]? = some f := by rw [List.getElem?_drop]; exact hf
      rw [take_snoc h0] at hy
      have : y = f := by simpa using hy
      subst this
      rw [drop_get hq]
      exact List.mem_cons_self
    | succ k ih =>
      intro hk
      obtain ⟨q, i, x, i1, hx, hi, all⟩ := ih (by omega)
      obtain ⟨z, hz⟩ : ∃ z, one[p + (k + 1)]? = some z := ⟨_, List.getElem?_eq_getElem hk⟩
      have hz' : (one.drop p)[k + 1]? = some z := by rw [List.getElem?_drop]; exact hz
      have mz := io.bd (List.mem_of_getElem? hz)
      obtain ⟨j, hj⟩ := List.mem_iff_getElem?.mp (it.all mz.1 mz.2)
      have inD : ∀ {u v : Nat} {y : Int}, u ≤ v → y ∈ two.drop v → y ∈ two.drop u := fun {u v y} h m => by
        rw [show v = u + (v - u) by omega, ← List.drop_drop] at m
        exact List.mem_of_mem_drop m
      by_cases c : j ≤ q
      · refine ⟨j, p + (k + 1), z, by omega, hj, hz, fun y hy => ?_⟩
        rw [take_snoc hz'] at hy
        rcases List.mem_append.mp hy with e | e
        · exact inD c (all y e)
        · rw [List.mem_singleton.mp e, drop_get hj]
          exact List.mem_cons_self
      · refine ⟨q, i, x, i1, hx, hi, fun y hy => ?_⟩
        rw [take_snoc hz'] at hy
        rcases List.mem_append.mp hy with e | e
        · exact all y e
        · rw [List.mem_singleton.mp e]
          have : z ∈ two.drop j := by
            rw [drop_get hj]
            exact List.mem_cons_self
          exact inD (by omega) this
  obtain ⟨q, i, x, i1, hx, hi, all⟩ := key (one.length - p - 1) (by omega)
  rw [List.take_of_length_le (by rw [List.length_drop]; omega)] at all
  have a := fnd_at (rows := rows) (o := one) (m := 0) hx
  have b := rdy_get (rows := rows) io.nodup hi
  have c : sumOf (one_ rows) (one.take (p + 1)) ≤ sumOf (one_ rows) (one.take (i + 1)) := sumOf_sub (io.nodup.sublist (List.take_sublist _ _)) (fun y hy => (List.take_subset_take_left one (by omega)) hy) fun y hy => nn1 y (List.mem_of_mem_take hy)
  rw [sumOf_snoc hi] at c
  have d : sumOf (two_ rows) (one.drop p) ≤ sumOf (two_ rows) (two.drop q) := sumOf_sub (io.nodup.sublist (List.drop_sublist _ _)) all fun y hy => nn2 y (List.mem_of_mem_drop hy)
  omega
end
/-! ### the sums -/
def wF (rows : List (List Int)) (front : Bool) (S : List Int) (x : Int) : Int := if x ∈ S then (if front = true then two_ rows x else one_ rows x) else min (one_ rows x) (two_ rows x)
def mF (rows : List (List Int)) (front : Bool) (x : Int) : Int := if front = true then one_ rows x else two_ rows x
def kF (rows : List (List Int)) (front : Bool) (x : Int) : Int := if front = true then two_ rows x else one_ rows x
def nF (rows : List (List Int)) (x : Int) : Int := min (one_ rows x) (two_ rows x)
structure SetOk (S : List Int) (n : Nat) : Prop where
  ne : S ≠ []
  up : S.Pairwise (· < ·)
  bd : ∀ x ∈ S, 0 ≤ x ∧ x < n
def IsBnd (rows : List (List Int)) (front : Bool) (S : List Int) (v : Int) : Prop := ∃ m, (∃ x ∈ S, mF rows front x = m) ∧ (∀ x ∈ S, m ≤ mF rows front x) ∧ v = sumOf (wF rows front S) (Bs.upTo rows.length) + m
theorem IsBnd.uniq {rows : List (List Int)} {front : Bool} {S : List Int} {v u : Int} (h : IsBnd rows front S v) (k : IsBnd rows front S u) : v = u := by
  obtain ⟨m, ⟨x, hx, rfl⟩, a, rfl⟩ := h
  obtain ⟨n, ⟨y, hy, rfl⟩, b, rfl⟩ := k
  have := a y hy
  have := b x hx
  omega
theorem first_in {P : Int → Prop} [DecidablePred P] : ∀ {l : List Int}, (∃ x ∈ l, P x) → ∃ (p : Nat) (x : Int), l[p]? = some x ∧ P x ∧ ∀ y ∈ l.take p, ¬ P y
  | [], h => by
    obtain ⟨_, h, _⟩ := h
    cases h
  | z :: l, h => by
    by_cases c : P z
    · exact ⟨0, z, rfl, c, fun y hy => by simp at hy⟩
    · obtain ⟨x, hx, hp⟩ := h
      have : x ∈ l := by
        rcases List.mem_cons.mp hx with e | e
        · subst e
          exact absurd hp c
        · exact e
      obtain ⟨p, y, a, b, d⟩ := first_in ⟨x, this, hp⟩
      refine ⟨p + 1, y, a, b, fun u hu => ?_⟩
      rw [List.take_succ_cons] at hu
      rcases List.mem_cons.mp hu with e | e
      · rw [e]
        exact c
      · exact d u e
theorem last_in {P : Int → Prop} [DecidablePred P] : ∀ {l : List Int}, (∃ x ∈ l, P x) → ∃ (p : Nat) (x : Int), l[p]? = some x ∧ P x ∧ ∀ y ∈ l.drop (p + 1), ¬ P y
  | [], h => by
    obtain ⟨_, h, _⟩ := h
    cases h
  | z :: l, h => by
    by_cases c : ∃ x ∈ l, P x
    · obtain ⟨p, y, a, b, d⟩ := last_in c
      exact ⟨p + 1, y, a, b, d⟩
    · obtain ⟨x, hx, hp⟩ := h
      rcases List.mem_cons.mp hx with e | e
      · subst e
        exact ⟨0, x, rfl, hp, fun y hy hy2 => c ⟨y, hy, hy2⟩⟩
      · exact absurd ⟨x, e, hp⟩ c
theorem bnd_le {rows : List (List Int)} {one two S : List Int} {front : Bool} {v : Int} (ok : Pair2 rows) (io : IsOrder one rows.length) (it : IsOrder two rows.length) (so : SetOk S rows.length) (h : IsBnd rows front S v) : v ≤ fnd rows one 0 two := by
  obtain ⟨m, _, hm, rfl⟩ := h
  obtain ⟨s0, hs0⟩ := List.exists_mem_of_ne_nil S so.ne
  have sb := so.bd s0 hs0
  cases front with
  | true =>
    obtain ⟨p, f, hf, fs, before⟩ := first_in (P := fun x => x ∈ S) (l := two) ⟨s0, it.all sb.1 sb.2, hs0⟩
    have a := span_front ok io it hf
    have e : sumOf (wF rows true S) two = sumOf (wF rows true S) (two.take p) + sumOf (wF rows true S) (two.drop p) := by rw [← sumOf_append, List.take_append_drop]
    rw [← sumOf_perm it, e]
    have b : sumOf (wF rows true S) (two.take p) ≤ sumOf (one_ rows) (two.take p) := sumOf_le fun x hx => by
      unfold wF
      rw [if_neg (before x hx)]
      omega
    have c : sumOf (wF rows true S) (two.drop p) ≤ sumOf (two_ rows) (two.drop p) := sumOf_le fun x hx => by
      unfold wF
      split
      · exact Int.le_refl _
      · omega
    have d := hm f fs
    unfold mF at d
    rw [if_pos rfl] at d
    omega
  | false =>
    obtain ⟨p, f, hf, fs, behind⟩ := last_in (P := fun x => x ∈ S) (l := one) ⟨s0, io.all sb.1 sb.2, hs0⟩
    have a := span_back ok io it hf
    have e : sumOf (wF rows false S) one = sumOf (wF rows false S) (one.take (p + 1)) + sumOf (wF rows false S) (one.drop (p + 1)) := by rw [← sumOf_append, List.take_append_drop]
    rw [← sumOf_perm io, e]
    rw [drop_get hf, sumOf_cons] at a
    have b : sumOf (wF rows false S) (one.take (p + 1)) ≤ sumOf (one_ rows) (one.take (p + 1)) := sumOf_le fun x hx => by
      unfold wF
      split
      · exact Int.le_refl _
      · omega
    have c : sumOf (wF rows false S) (one.drop (p + 1)) ≤ sumOf (two_ rows) (one.drop (p + 1)) := sumOf_le fun x hx => by
      unfold wF
      rw [if_neg (behind x hx)]
      omega
    have d := hm f fs
    unfold mF at d
    rw [if_neg Bool.false_ne_true] at d
    omega
theorem split_sum (rows : List (List Int)) (front : Bool) (S : List Int) : ∀ l : List Int, sumOf (wF rows front S) l = sumOf (nF rows) (l.filter fun x => !decide (x ∈ S)) + sumOf (kF rows front) (l.filter fun x => decide (x ∈ S))
  | [] => rfl
  | x :: l => by
    rw [sumOf_cons, split_sum rows front S l]
    by_cases h : x ∈ S
    · rw [List.filter_cons_of_neg (by simp [h]), List.filter_cons_of_pos (by simp [h]), sumOf_cons]
      unfold wF kF
      rw [if_pos h]
      omega
    · rw [List.filter_cons_of_pos (by simp [h]), List.filter_cons_of_neg (by simp [h]), sumOf_cons]
      unfold wF nF
      rw [if_neg h]
      omega
theorem kF_nn {rows : List (List Int)} (ok : Pair2 rows) (front : Bool) {x : Int} (h : 0 ≤ x ∧ x < rows.length) : 0 ≤ kF rows front x := by
  have := ok.nn h
  unfold kF
  split <;> omega
theorem part_sum {rows : List (List Int)} {S : List Int} (ok : Pair2 rows) (front : Bool) (so : SetOk S rows.length) : sumOf (kF rows front) ((Bs.upTo rows.length).filter fun x => decide (x ∈ S)) = sumOf (kF rows front) S := by
  have nd : S.Nodup := so.up.imp fun {a b} h => by omega
  have a : sumOf (kF rows front) ((Bs.upTo rows.length).filter fun x => decide (x ∈ S)) ≤ sumOf (kF rows front) S := sumOf_sub ((upTo_nodup _).sublist List.filter_sublist) (fun x hx => of_decide_eq_true (List.mem_filter.mp hx).2) fun x hx => kF_nn ok front (so.bd x hx)
  have b : sumOf (kF rows front) S ≤ sumOf (kF rows front) ((Bs.upTo rows.length).filter fun x => decide (x ∈ S)) := sumOf_sub nd (fun x hx => List.mem_filter.mpr ⟨upTo_mem.mpr (so.bd x hx), decide_eq_true hx⟩) fun x hx => kF_nn ok front (upTo_mem.mp (List.mem_filter.mp hx).1)
  omega
theorem bnd_mk {rows : List (List Int)} {S : List Int} {front : Bool} {m : Int} (ok : Pair2 rows) (so : SetOk S rows.length) (hm : m ∈ S.map (mF rows front)) (le : ∀ y ∈ S.map (mF rows front), m ≤ y) :
    IsBnd rows front S (sumOf (nF rows) ((Bs.upTo rows.length).filter fun x => !decide (x ∈ S)) + (sumOf (kF rows front) S + m)) := by
  obtain ⟨x, hx, e⟩ := List.mem_map.mp hm
  refine ⟨m, ⟨x, hx, e⟩, fun y hy => le _ (List.mem_map.mpr ⟨y, hy, rfl⟩), ?_⟩
  rw [split_sum, part_sum ok front so]
  omega
def sideOf (front : Bool) : Str := if front = true then "front" else "back"
def rowAt (rows : List (List Int)) (x : Int) : List Int := [one_ rows x, two_ rows x]
theorem rows_at {rows : List (List Int)} (ok : Pair2 rows) {i : Nat} {ns : List Int} (h : rows[i]? = some ns) : ns = rowAt rows (i : Nat) := by
  have hi := (List.getElem?_eq_some_iff.mp h).1
  obtain ⟨u, v, e, rfl, rfl, _⟩ := ok.at (x := (i : Nat)) (by omega) (by omega)
  rw [Int.toNat_natCast, h] at e
  exact Option.some.inj e
theorem nodup_few : ∀ {l : List Int} {n : Nat}, l.Nodup → (∀ x ∈ l, 0 ≤ x ∧ x < n) → l.length ≤ n := fun {l n} nd h => len_le nd h
theorem set_few {S : List Int} {n : Nat} (so : SetOk S n) (h : n ≤ 30) : S.length ≤ 30 := Nat.le_trans (nodup_few (so.up.imp fun {a b} h => by omega) so.bd) h
theorem upTo_lt (n : Nat) : (Bs.upTo n).Pairwise (· < ·) := by
  unfold Bs.upTo
  rw [List.pairwise_map]
  exact List.pairwise_lt_range.imp fun {a b} h => by omega
theorem SetOk.of_sub {S : List Int} {n : Nat} (h : S.Sublist (Bs.upTo n)) (ne : S ≠ []) : SetOk S n := ⟨ne, (upTo_lt n).sublist h, fun x hx => upTo_mem.mp (h.subset hx)⟩
theorem SetOk.one {x : Int} {n : Nat} (a : 0 ≤ x) (b : x < n) : SetOk [x] n := ⟨fun z => (nomatch z), List.pairwise_singleton _ _, fun y hy => by
  rw [List.mem_singleton.mp hy]
  exact ⟨a, b⟩⟩
theorem SetOk.all {n : Nat} (h : 1 ≤ n) : SetOk (Bs.upTo n) n := SetOk.of_sub (List.Sublist.refl _) fun z => by
  have := congrArg List.length z
  rw [upTo_len] at this
  simp at this
  omega
end Bs

namespace Bs
open PySem PySem.Spec PyProof.Rows L2
open Evl (Ex)
/-! ### one machine: the mathematics -/
def Row4 (r : List Int) : Prop := ∃ l f b w : Int, r = [l, f, b, w] ∧ 1 ≤ l ∧ l ≤ 1000 ∧ 0 ≤ f ∧ f ≤ 1000000 ∧ 0 ≤ b ∧ b ≤ 1000000 ∧ 0 ≤ w ∧ w ≤ 1000
def Rows4 (rows : List (List Int)) : Prop := ∀ r ∈ rows, Row4 r
def cAt (rows : List (List Int)) (k : Nat) (x : Int) : Int := (rows.getD x.toNat []).getD k 0
abbrev len_ (rows : List (List Int)) : Int → Int := cAt rows 0
abbrev frm_ (rows : List (List Int)) : Int → Int := cAt rows 1
abbrev due_ (rows : List (List Int)) : Int → Int := cAt rows 2
abbrev wgt_ (rows : List (List Int)) : Int → Int := cAt rows 3
def row4 (rows : List (List Int)) (x : Int) : List Int := [len_ rows x, frm_ rows x, due_ rows x, wgt_ rows x]
theorem Rows4.at {rows : List (List Int)} (h : Rows4 rows) {x : Int} (a : 0 ≤ x) (b : x < rows.length) : rows[x.toNat]? = some (row4 rows x) ∧ 1 ≤ len_ rows x ∧ len_ rows x ≤ 1000 ∧ 0 ≤ frm_ rows x ∧ frm_ rows x ≤ 1000000 ∧ 0 ≤ due_ rows x ∧ due_ rows x ≤ 1000000 ∧ 0 ≤ wgt_ rows x ∧ wgt_ rows x ≤ 1000 := by
  have hlt : x.toNat < rows.length := by omega
  obtain ⟨l, f, d, w, e, h⟩ := h _ (List.getElem_mem hlt)
  have e2 : rows[x.toNat]? = some [l, f, d, w] := by rw [List.getElem?_eq_getElem hlt, e]
  have e3 : rows.getD x.toNat [] = [l, f, d, w] := by rw [List.getD_eq_getElem?_getD, e2]; rfl
  have c0 : len_ rows x = l := by show (rows.getD x.toNat []).getD 0 0 = l; rw [e3]; rfl
  have c1 : frm_ rows x = f := by show (rows.getD x.toNat []).getD 1 0 = f; rw [e3]; rfl
  have c2 : due_ rows x = d := by show (rows.getD x.toNat []).getD 2 0 = d; rw [e3]; rfl
  have c3 : wgt_ rows x = w := by show (rows.getD x.toNat []).getD 3 0 = w; rw [e3]; rfl
  unfold row4
  rw [c0, c1, c2, c3]
  exact ⟨e2, h⟩
theorem r4_at {H : Hp} {xs : List V} {rows : List (List Int)} {x : Int} (ts : Ts H xs rows) (ok : Rows4 rows) (x0 : 0 ≤ x) (x1 : x < rows.length) : ∃ t, atI xs x = some (.ref t) ∧ H t = some (.tup [.int (len_ rows x), .int (frm_ rows x), .int (due_ rows x), .int (wgt_ rows x)]) ∧ 1 ≤ len_ rows x ∧ len_ rows x ≤ 1000 ∧ 0 ≤ due_ rows x ∧ due_ rows x ≤ 1000000 := by
  obtain ⟨e, a, b, _, _, c, d, _⟩ := ok.at x0 x1
  obtain ⟨t, e2, ht⟩ := ts.get' e
  obtain ⟨k, rfl⟩ : ∃ k : Nat, x = (k : Int) := ⟨_, (Int.toNat_of_nonneg x0).symm⟩
  exact ⟨t, atI_nat (by rw [Int.toNat_natCast] at e2; exact e2), ht, a, b, c, d⟩
theorem rows4_is {rows : List (List Int)} (ok : Rows4 rows) {i : Nat} {ns : List Int} (h : rows[i]? = some ns) : ns = row4 rows (i : Nat) := by
  have hi := (List.getElem?_eq_some_iff.mp h).1
  obtain ⟨e, _⟩ := ok.at (x := (i : Nat)) (by omega) (by omega)
  rw [Int.toNat_natCast, h] at e
  exact Option.some.inj e
/-- sorted lists of lists of ints are one -/
theorem lex_eq : ∀ {p q : List Int}, HT.lexLt p q = false → HT.lexLt q p = false → p = q
  | [], [], _, _ => rfl
  | [], y :: q, h, _ => by rw [HT.lexLt_nil_cons] at h; cases h
  | x :: p, [], _, h => by rw [HT.lexLt_nil_cons] at h; cases h
  | x :: p, y :: q, h, k => by
    rw [HT.lexLt_cons] at h k
    by_cases e : x = y
    · subst e
      rw [if_pos rfl] at h k
      rw [lex_eq h k]
    · rw [if_neg e] at h
      rw [if_neg fun z => e z.symm] at k
      have a := of_decide_eq_false h
      have b := of_decide_eq_false k
      omega
abbrev Lex (l : List (List Int)) : Prop := l.Pairwise fun p q => HT.lexLt q p = false
theorem lex_uniq : ∀ {l m : List (List Int)}, Lex l → Lex m → l.Perm m → l = m
  | [], m, _, _, p => (List.Perm.eq_nil p.symm).symm
  | x :: l, [], _, _, p => absurd p.length_eq (by simp)
  | x :: l, y :: m, h, k, p => by
    have h1 := List.pairwise_cons.mp h
    have k1 := List.pairwise_cons.mp k
    have irr : ∀ z : List Int, HT.lexLt z z = false := fun z => (NtL.swo_lexL (α := List Int) id).refl z
    have a : HT.lexLt y x = false := by
      rcases List.mem_cons.mp (p.mem_iff.mpr (List.mem_cons_self (a := y) (l := m))) with e | e
      · rw [e]
        exact irr x
      · exact h1.1 y e
    have b : HT.lexLt x y = false := by
      rcases List.mem_cons.mp (p.mem_iff.mp (List.mem_cons_self (a := x) (l := l))) with e | e
      · rw [e]
        exact irr y
      · exact k1.1 x e
    obtain rfl := lex_eq b a
    rw [lex_uniq h1.2 k1.2 p.cons_inv]
/-- the order by a key, of like ones by number -/
def keyed (key : Int → Int) (l : List Int) : List (List Int) := l.map fun x => [key x, x]
def IsKey (key : Int → Int) (l o : List Int) : Prop := ∃ srt, srt.Perm (keyed key l) ∧ Lex srt ∧ o = srt.map fun p => p.getD 1 0
theorem IsKey.uniq {key : Int → Int} {l o o' : List Int} (h : IsKey key l o) (k : IsKey key l o') : o = o' := by
  obtain ⟨s, a, b, rfl⟩ := h
  obtain ⟨s', a', b', rfl⟩ := k
  rw [lex_uniq b b' (a.trans a'.symm)]
theorem IsKey.perm {key : Int → Int} {l o : List Int} (h : IsKey key l o) : o.Perm l := by
  obtain ⟨s, a, _, rfl⟩ := h
  have := a.map fun p : List Int => p.getD 1 0
  unfold keyed at this
  rw [List.map_map] at this
  refine this.trans ?_
  rw [show ((fun p : List Int => p.getD 1 0) ∘ fun x => [key x, x]) = id from rfl, List.map_id]
theorem IsKey.rising {key : Int → Int} {l o : List Int} (h : IsKey key l o) : o.Pairwise fun x y => key x ≤ key y := by
  obtain ⟨s, a, b, rfl⟩ := h
  refine List.pairwise_map.mpr (b.imp_of_mem fun {p q} hp hq h => ?_)
  obtain ⟨x, _, rfl⟩ := List.mem_map.mp (a.mem_iff.mp hp)
  obtain ⟨y, _, rfl⟩ := List.mem_map.mp (a.mem_iff.mp hq)
  show key x ≤ key y
  rw [HT.lexLt_cons] at h
  by_cases e : key y = key x
  · omega
  · rw [if_neg e] at h
    have := of_decide_eq_false h
    omega
/-- lateness of a list of rows, one behind the other -/
def latAt (rows : List (List Int)) (o : List Int) (i : Nat) (x : Int) : Int := sumOf (len_ rows) (o.take (i + 1)) - due_ rows x
def IsLate (rows : List (List Int)) (o : List Int) (L : Int) : Prop := (∃ (i : Nat) (x : Int), o[i]? = some x ∧ L = latAt rows o i x) ∧ ∀ (i : Nat) (x : Int), o[i]? = some x → latAt rows o i x ≤ L
theorem IsLate.uniq {rows : List (List Int)} {o : List Int} {L M : Int} (h : IsLate rows o L) (k : IsLate rows o M) : L = M := by
  obtain ⟨⟨i, x, a, rfl⟩, b⟩ := h
  obtain ⟨⟨j, y, c, rfl⟩, d⟩ := k
  have := b j y c
  have := d i x a
  omega
/-- the set that shows it: the rows to the first latest one -/
structure Shows (rows : List (List Int)) (S : List Int) (L : Int) : Prop where
  ne : S ≠ []
  nd : S.Nodup
  bd : ∀ x ∈ S, 0 ≤ x ∧ x < rows.length
  sum : ∃ m, (∃ x ∈ S, due_ rows x = m) ∧ (∀ x ∈ S, due_ rows x ≤ m) ∧ L = sumOf (len_ rows) S - m
/-- whichever list of rows has all of them, the one of them done last is that late -/
theorem Shows.last {rows : List (List Int)} {S o : List Int} {L : Int} (ok : Rows4 rows) (h : Shows rows S L) (ob : ∀ x ∈ o, 0 ≤ x ∧ x < rows.length) (sub : ∀ x ∈ S, x ∈ o) {i : Nat} {x : Int} (hx : o[i]? = some x) (xs : x ∈ S) (behind : ∀ y ∈ o.drop (i + 1), y ∉ S) : L ≤ latAt rows o i x := by
  obtain ⟨m, _, hm, rfl⟩ := h.sum
  have a := hm x xs
  have b : sumOf (len_ rows) S ≤ sumOf (len_ rows) (o.take (i + 1)) := by
    refine sumOf_sub h.nd (fun y hy => ?_) fun y hy => by
      have := ob y (List.mem_of_mem_take hy)
      have := (ok.at this.1 this.2).2.1
      omega
    have := sub y hy
    rw [← List.take_append_drop (i + 1) o] at this
    rcases List.mem_append.mp this with e | e
    · exact e
    · exact absurd hy (behind y e)
  unfold latAt
  omega
theorem Shows.le {rows : List (List Int)} {S o : List Int} {L M : Int} (ok : Rows4 rows) (h : Shows rows S L) (io : IsOrder o rows.length) (k : IsLate rows o M) : L ≤ M := by
  obtain ⟨s0, hs0⟩ := List.exists_mem_of_ne_nil S h.ne
  have sb := h.bd s0 hs0
  obtain ⟨p, x, hx, xs, behind⟩ := last_in (P := fun x => x ∈ S) (l := o) ⟨s0, io.all sb.1 sb.2, hs0⟩
  have a := h.last ok (fun y hy => io.bd hy) (fun y hy => io.all (h.bd y hy).1 (h.bd y hy).2) hx xs behind
  have b := k.2 p x hx
  omega
/-- the rows to the first latest one of the due order show its lateness -/
theorem due_shows {rows : List (List Int)} {o : List Int} {L : Int} (io : IsOrder o rows.length) (up : o.Pairwise fun x y => due_ rows x ≤ due_ rows y) {j : Nat} {x : Int} (hx : o[j]? = some x) (e : latAt rows o j x = L) {S : List Int} (pm : S.Perm (o.take (j + 1))) : Shows rows S L := by
  have mx : x ∈ o.take (j + 1) := by
    rw [take_snoc hx]
    exact List.mem_append_right _ List.mem_cons_self
  refine ⟨fun z => ?_, pm.nodup_iff.mpr (io.nodup.sublist (List.take_sublist _ _)), fun y hy => io.bd (List.mem_of_mem_take (pm.mem_iff.mp hy)), due_ rows x, ⟨x, pm.mem_iff.mpr mx, rfl⟩, fun y hy => ?_, ?_⟩
  · rw [← pm.mem_iff, z] at mx
    cases mx
  · have := pm.mem_iff.mp hy
    rw [take_snoc hx] at this
    rcases List.mem_append.mp this with e | e
    · obtain ⟨i, hi⟩ := List.mem_iff_getElem?.mp e
      rw [List.getElem?_take] at hi
      split at hi
      · obtain ⟨a1, a2⟩ := List.getElem?_eq_some_iff.mp hi
        obtain ⟨b1, b2⟩ := List.getElem?_eq_some_iff.mp hx
        have := (List.pairwise_iff_getElem.mp up) i j a1 b1 (by omega)
        rw [a2, b2] at this
        exact this
      · cases hi
    · rw [List.mem_singleton.mp e]
      exact Int.le_refl _
  · rw [sumOf_perm pm, ← e]
    rfl
end Bs

namespace Bs
open PySem PySem.Spec PyProof.Rows L2
open Evl (Ex)
theorem Ts.set {H : Hp} {t : Addr} {ns : List Int} (ht : H t = some (.tup (ns.map V.int))) : ∀ {xs : List V} {rows : List (List Int)} (j : Nat), Ts H xs rows → Ts H (xs.set j (.ref t)) (rows.set j ns)
  | _, _, _, .nil => .nil
  | _, _, 0, .cons h r => .cons ht r
  | _, _, j + 1, .cons h r => .cons h (Ts.set ht j r)
/-- longer or due earlier -/
def Grw (rows gs : List (List Int)) : Prop := gs.length = rows.length ∧ ∀ (j : Nat) (r g : List Int), rows[j]? = some r → gs[j]? = some g → r.getD 0 0 ≤ g.getD 0 0 ∧ g.getD 2 0 ≤ r.getD 2 0
theorem Grw.nil : Grw [] [] := ⟨rfl, fun j r g h => by simp at h⟩
theorem Grw.snoc {rows gs : List (List Int)} {r g : List Int} (h : Grw rows gs) (a : r.getD 0 0 ≤ g.getD 0 0) (b : g.getD 2 0 ≤ r.getD 2 0) : Grw (rows ++ [r]) (gs ++ [g]) := by
  refine ⟨by rw [List.length_append, List.length_append, h.1]; rfl, fun j x y hx hy => ?_⟩
  have l := h.1
  by_cases hj : j < rows.length
  · rw [List.getElem?_append_left hj] at hx
    rw [List.getElem?_append_left (by omega)] at hy
    exact h.2 j x y hx hy
  · have lt := (List.getElem?_eq_some_iff.mp hx).1
    rw [List.length_append] at lt
    have lt : j < rows.length + 1 := lt
    have e : j = rows.length := by omega
    subst e
    rw [List.getElem?_append_right (Nat.le_refl _), Nat.sub_self] at hx
    rw [List.getElem?_append_right (by omega), show rows.length - gs.length = 0 by omega] at hy
    obtain rfl := Option.some.inj hx
    obtain rfl := Option.some.inj hy
    exact ⟨a, b⟩
theorem Grw.at {rows gs : List (List Int)} (h : Grw rows gs) {x : Int} (x0 : 0 ≤ x) (x1 : x < rows.length) : len_ rows x ≤ len_ gs x ∧ due_ gs x ≤ due_ rows x := by
  have lt : x.toNat < rows.length := by omega
  have l := h.1
  have := h.2 x.toNat _ _ (List.getElem?_eq_getElem lt) (List.getElem?_eq_getElem (by omega))
  show (rows.getD x.toNat []).getD 0 0 ≤ (gs.getD x.toNat []).getD 0 0 ∧ (gs.getD x.toNat []).getD 2 0 ≤ (rows.getD x.toNat []).getD 2 0
  have e1 : rows.getD x.toNat [] = rows[x.toNat] := by rw [List.getD_eq_getElem?_getD, List.getElem?_eq_getElem lt]; rfl
  have e2 : gs.getD x.toNat [] = gs[x.toNat]'(by omega) := by rw [List.getD_eq_getElem?_getD, List.getElem?_eq_getElem (by omega)]; rfl
  rw [e1, e2]
  exact this
theorem sumOf_mono {f g : Int → Int} : ∀ {l : List Int}, (∀ x ∈ l, f x ≤ g x) → sumOf f l ≤ sumOf g l
  | [], _ => Int.le_refl _
  | x :: l, h => by
    have a := h x List.mem_cons_self
    have b := sumOf_mono (l := l) fun y hy => h y (List.mem_cons_of_mem _ hy)
    unfold sumOf at b ⊢
    rw [List.map_cons, List.map_cons, List.sum_cons, List.sum_cons]
    omega
theorem Shows.grown {rows gs : List (List Int)} {S o : List Int} {L M : Int} (ok : Rows4 rows) (h : Shows rows S L) (gr : Grw rows gs) (io : IsOrder o rows.length) (k : IsLate gs o M) : L ≤ M := by
  obtain ⟨s0, hs0⟩ := List.exists_mem_of_ne_nil S h.ne
  have sb := h.bd s0 hs0
  obtain ⟨p, x, hx, xs, behind⟩ := last_in (P := fun x => x ∈ S) (l := o) ⟨s0, io.all sb.1 sb.2, hs0⟩
  have a := h.last ok (fun y hy => io.bd hy) (fun y hy => io.all (h.bd y hy).1 (h.bd y hy).2) hx xs behind
  have b := k.2 p x hx
  have bx := io.bd (List.mem_of_getElem? hx)
  have c := (gr.at bx.1 bx.2).2
  have d : sumOf (len_ rows) (o.take (p + 1)) ≤ sumOf (len_ gs) (o.take (p + 1)) := sumOf_mono fun y hy => by
    have by' := io.bd (List.mem_of_mem_take hy)
    exact (gr.at by'.1 by'.2).1
  unfold latAt at a b
  omega
/-- only the part up to the last of the set -/
theorem Shows.part {rows : List (List Int)} {S o : List Int} {L M : Int} (ok : Rows4 rows) (h : Shows rows S L) (io : IsOrder o rows.length) {p : Nat} {x : Int} (hx : o[p]? = some x) (xs : x ∈ S) (behind : ∀ y ∈ o.drop (p + 1), y ∉ S) (k : IsLate rows (o.take (p + 1)) M) : L ≤ M := by
  have a := h.last ok (fun y hy => io.bd hy) (fun y hy => io.all (h.bd y hy).1 (h.bd y hy).2) hx xs behind
  have b := k.2 p x (by rw [List.getElem?_take, if_pos (by omega), hx])
  unfold latAt at a b
  rw [List.take_take, Nat.min_self] at b
  omega
/-- two neighbours exchanged -/
theorem near_order {o : List Int} {n : Nat} (io : IsOrder o n) (k : Nat) : IsOrder (o.take k ++ ((o.drop k).take 2).reverse ++ o.drop (k + 2)) n := by
  have e : o = o.take k ++ (o.drop k).take 2 ++ o.drop (k + 2) := by
    rw [List.append_assoc]
    rw [← List.drop_drop, List.take_append_drop, List.take_append_drop]
  have pm : (o.take k ++ ((o.drop k).take 2).reverse ++ o.drop (k + 2)).Perm o := by
    conv => rhs; rw [e]
    exact ((List.reverse_perm _).append_left _).append_right _
  exact pm.trans io
/-- the last one that is kept -/
theorem filter_last {P : Int → Bool} {l : List Int} {p : Nat} {x : Int} (hx : l[p]? = some x) (px : P x = true) (behind : ∀ y ∈ l.drop (p + 1), P y = false) : l.filter P = (l.take p).filter P ++ [x] := by
  have e : l = l.take p ++ [x] ++ l.drop (p + 1) := by
    rw [← take_snoc hx, List.take_append_drop]
  have z : (l.drop (p + 1)).filter P = [] := by
    rw [List.filter_eq_nil_iff]
    intro y hy
    rw [behind y hy]
    exact fun h => nomatch h
  have w : [x].filter P = [x] := by rw [List.filter_cons, if_pos px]; rfl
  conv => lhs; rw [e, List.filter_append, List.filter_append, z, w, List.append_nil]
theorem cutV_two {xs : List V} {k : Nat} (h : k ≤ xs.length) : cutV xs (some (k : Int)) (some ((k : Int) + 2)) = (xs.drop k).take 2 := by
  unfold cutV
  rw [show ((k : Int) + 2) = ((k + 2 : Nat) : Int) by omega, HT.sIx_nat, HT.sIx_nat, Nat.min_eq_left h]
  by_cases hk : k + 2 ≤ xs.length
  · rw [Nat.min_eq_left hk]
    congr 1
    omega
  · rw [Nat.min_eq_right (by omega), List.take_of_length_le (by rw [List.length_drop]; exact Nat.le_refl _), List.take_of_length_le (by rw [List.length_drop]; omega)]
theorem cutV_from {xs : List V} {k : Nat} : cutV xs (some (k : Int)) none = xs.drop k := by
  unfold cutV
  rw [HT.sIx_nat, HT.sIx_none]
  by_cases hk : k ≤ xs.length
  · rw [Nat.min_eq_left hk]
    exact List.take_of_length_le (by rw [List.length_drop]; exact Nat.le_refl _)
  · rw [Nat.min_eq_right (by omega), List.drop_eq_nil_of_le (Nat.le_refl _), List.drop_eq_nil_of_le (by omega), List.take_nil]
theorem is_late_max {rows : List (List Int)} {o : List Int} {ls : List Int} {M : Int} (e : ls = (List.range o.length).map fun i => latAt rows o i (o.getD i 0)) (mem : M ∈ ls) (top : ∀ y ∈ ls, y ≤ M) : IsLate rows o M := by
  subst e
  constructor
  · obtain ⟨i, hi, rfl⟩ := List.mem_map.mp mem
    have hi := List.mem_range.mp hi
    refine ⟨i, o.getD i 0, ?_, rfl⟩
    rw [List.getD_eq_getElem?_getD, List.getElem?_eq_getElem hi]
    rfl
  · intro i x hx
    refine top _ (List.mem_map.mpr ⟨i, List.mem_range.mpr (List.getElem?_eq_some_iff.mp hx).1, ?_⟩)
    show latAt rows o i (o.getD i 0) = _
    rw [List.getD_eq_getElem?_getD, hx]
    rfl
theorem ixN_last {n : Nat} (h : 0 < n) : ixN n (-1) = some (n - 1) := by
  unfold ixN
  rw [if_neg (by decide), if_pos (by omega)]
  exact congrArg some (by omega)
theorem at_ints {ls : List Int} {n lo hi : Int} (h0 : 0 ≤ n) (h1 : n < ls.length) (bd : ∀ y ∈ ls, lo ≤ y ∧ y ≤ hi) : ∃ v, atI (ls.map V.int) n = some (.int v) ∧ lo ≤ v ∧ v ≤ hi := by
  obtain ⟨v, m, e⟩ := at_mem (xs := ls.map V.int) h0 (by rw [List.length_map]; exact h1)
  obtain ⟨y, hy, rfl⟩ := List.mem_map.mp m
  exact ⟨y, e, bd y hy⟩
section
variable {K : PySem.W.Frag} {H : Hp} {σ : L2.St} {Q : VK}
theorem q_revL0 {te : TE} (q : te σ H fun x H1 => ∃ a xs, x = .ref a ∧ SqL K H1 a xs ∧ ∀ p, H1 p = none → Q (.ref p) (upd H1 p (.lst xs.reverse))) : tRevL K te σ H Q := q
theorem q_rev {a : Addr} {xs : List V} {P : List V → Prop} (h : H a = some (.lst xs)) (q : P xs) : ∃ b ys, V.ref a = .ref b ∧ SqL K H b ys ∧ P ys := ⟨a, xs, rfl, SqL.of h, q⟩
variable {g : TG} {tt : TT} {te : TE} {vs : List Nat} {τ : L2.St} {D : Addr} {Qd : Hp → Prop}
theorem lcp_zip {a b : Addr} {xs ys : List V} {n : Nat} (hn : n = min xs.length ys.length) (Pv : Nat → Hp → Prop) (h0 : Pv 0 H) (hl : ∀ i H, Pv i H → H a = some (.lst xs) ∧ H b = some (.lst ys))
    (hs : ∀ (i : Nat) (x y : V) (H : Hp) (T : Addr), xs[i]? = some x → ys[i]? = some y → Pv i H → H T = none → TurnC g tt te τ vs D (.ref T) (Pv (i + 1)) (upd H T (.tup [x, y]))) (hd : ∀ H, Pv n H → Qd H) : LoopC (Itz K a b) g tt te τ vs D Qd H := by
  refine ⟨fun i m H => m = n - i ∧ i ≤ n ∧ Pv i H, ⟨n, by simp, Nat.zero_le _, h0⟩, ?_⟩
  rintro i m H ⟨rfl, hi, p⟩
  have q1 : SqL K H a xs := SqL.of (hl i H p).1
  have q2 : SqL K H b ys := SqL.of (hl i H p).2
  by_cases hlt : i < n
  · have l1 : i < xs.length := by omega
    have l2 : i < ys.length := by omega
    refine .inr ⟨⟨xs, ys, xs[i], ys[i], q1, q2, by simp [l1], by simp [l2]⟩, Pv (i + 1), fun H' p' => ⟨n - (i + 1), by omega, rfl, hlt, p'⟩, fun x H' y => ?_⟩
    obtain ⟨T, y1, y2, e1, e2, e3, e4, e5⟩ := y
    subst e1 e3
    exact hs i y1 y2 H T (e4 xs q1) (e5 ys q2) p e2
  · have e : i = n := by omega
    subst e
    exact .inl ⟨⟨xs, ys, q1, q2, by omega⟩, hd H p⟩
end
section
open PySem.F
variable {X : Cx} {K : PySem.W.Frag} {o e : Expr} {es : List Expr} {to : TE} {t : TA} {name : Str} {apos cpos : Pos} {T id : String} {r : V → List V → Hp → VK → Prop}
theorem pe_bmK (pa : PlainAttrs T) (slot : Slot T name id) (hty : typeOf (.builtin id) = pure (.type "method_descriptor")) (hm : MtR X id r) (ho : PE X o to) (ha : PA X (e :: es) t)
    (hbase : attributeBase o name X.env (eval o X.env) = eval o X.env := by rfl)
    (hfew : ((backTo cpos (starEach (e :: es) X.env)).all (fun x => !x.1) && (backToKw cpos (keywordEach [] X.env)).all (fun x => x.1.isSome)
      && decide ((e :: es).length + ([] : List Keyword).length + (if ([] : List Keyword).isEmpty then 0 else 1) < 30)) = true := by rfl)
    (hline : (apos.endLine == cpos.line) = true := by rfl) (hs : starEach (e :: es) X.env = (false, eval e X.env) :: starEach es X.env := by rfl) (hplain : (backTo cpos (starEach es X.env)).any (·.1) = false := by rfl) (hK : X.K = K := by rfl) :
    PE X (.Call (.Attribute o name apos) (e :: es) [] cpos) (tBM K T r to t) := hK ▸ pe_bm pa slot hty hm ho ha hbase hfew hline hs hplain
end
end Bs

namespace Bs
open PySem PySem.Spec PyProof.Rows L2
open Evl (Ex)
/-! ### any of whole numbers; the least of tuples of whole numbers -/
def rAnyI (K : PySem.W.Frag) : List V → Hp → VK → Prop := fun vs H Q => ∃ (a : Addr) (ns : List Int), vs = [.ref a] ∧ SqL K H a (ns.map V.int) ∧ Q (.bl (ns.any fun n => decide (n ≠ 0))) H
theorem cr_anyI {X : Cx} {K : PySem.W.Frag} (hc : X.calm = true) (hK : X.K = K := by rfl) : CallR X (.builtin "any") (rAnyI K) := by
  subst hK
  intro pins s σ H vs us Q I r h
  obtain ⟨a, ns, rfl, hs, q⟩ := h
  obtain ⟨u, rfl, ru⟩ := vals1 r
  obtain rfl : u = Value.ref a := ru
  obtain ⟨its, rv, hl, hz⟩ := I.list hs
  obtain ⟨as, rd⟩ := Dp.readsAll I (ns.map .int) _ _ dpa_ints rv
  refine PySem.W.any_list_data (vs := its.toArray) (I.ok.hd hc) hl.isList (by simpa using rd) ?_ ?_ fun h' tk kept => ?_
  · clear hs rv rd q hz
    induction ns with
    | nil => rfl
    | cons n ns ih => exact ih
  · intro x hx
    obtain ⟨i, _, rfl⟩ := List.mem_map.mp hx
    exact True.intro
  · refine ⟨.bl _, H, I.call' (ch := []) rfl (Un.kept kept) (I.hok.kept kept) I.bare (fun _ z => nomatch z), rfl, ?_⟩
    have e : (ns.map PyData.int).any PyData.truthy = ns.any fun n => decide (n ≠ 0) := by
      rw [List.any_map]
      congr 1
      funext n
      show (n != 0) = decide (n ≠ 0)
      by_cases h : n = 0
      · subst h
        rfl
      · rw [decide_eq_true h]
        exact bne_iff_ne.mpr h
    rw [e]
    exact q
theorem q_anyI {K : PySem.W.Frag} {H : Hp} {Q : VK} {a : Addr} {ns : List Int} (h : H a = some (.lst (ns.map V.int))) (q : Q (.bl (ns.any fun n => decide (n ≠ 0))) H) : rAnyI K [.ref a] H Q := ⟨a, ns, rfl, SqL.of h, q⟩
theorem alike_ints : ∀ {ns ms : List Int}, PySem.W.alikeAll (ns.map PyData.int) (ms.map PyData.int) = true
  | [], _ => by
    cases (‹List Int› : List Int) <;> rfl
  | _ :: _, [] => rfl
  | _ :: ns, _ :: ms => by
    show (true && PySem.W.alikeAll (ns.map PyData.int) (ms.map PyData.int)) = true
    rw [alike_ints]
    rfl
theorem lex_data : ∀ {ns ms : List Int}, ns.length = ms.length → PyProof.Rows.lexLt itemOrd (PySem.W.keyToksAll (ns.map PyData.int)) (PySem.W.keyToksAll (ms.map PyData.int)) = HT.lexLt ns ms
  | [], [], _ => rfl
  | [], _ :: _, h => by simp at h
  | _ :: _, [], h => by simp at h
  | x :: ns, y :: ms, h => by
    rw [List.map_cons, List.map_cons, PySem.W.dataLt_cons (x := .int x) (y := .int y) rfl, lex_data (Nat.succ.inj h), HT.lexLt_cons, PySem.W.dataLt_int]
    show (if (x == y) = true then _ else _) = _
    by_cases e : x = y
    · subst e
      rw [if_pos (beq_self_eq_true x), if_pos rfl]
    · rw [if_neg (by rw [beq_iff_eq]; exact e), if_neg e]
theorem dataLt_ints {ns ms : List Int} (h : ns.length = ms.length) : PySem.W.dataLt (.tuple (ns.map .int)) (.tuple (ms.map .int)) = HT.lexLt ns ms := by
  rw [PySem.W.dataLt_tuple, lex_data h]
/-- the place of the least row -/
def bestI (rows : List (List Int)) (n : Nat) : Nat := argBest (fun i j => HT.lexLt (rows.getD i []) (rows.getD j [])) n
theorem bestI_ok (rows : List (List Int)) : ∀ n, bestI rows n ≤ n ∧ ∀ k, k ≤ n → HT.lexLt (rows.getD k []) (rows.getD (bestI rows n) []) = false
  | 0 => ⟨Nat.le_refl _, fun k hk => by
    obtain rfl : k = 0 := by omega
    exact (NtL.swo_lexL (α := List Int) id).refl _⟩
  | n + 1 => by
    obtain ⟨a, b⟩ := bestI_ok rows n
    have O := NtL.swo_lexL (α := List Int) id
    by_cases h : HT.lexLt (rows.getD (n + 1) []) (rows.getD (bestI rows n) []) = true
    · have e : bestI rows (n + 1) = n + 1 := if_pos h
      rw [e]
      refine ⟨Nat.le_refl _, fun k hk => ?_⟩
      by_cases kn : k = n + 1
      · rw [kn]
        exact O.refl _
      · have h1 := b k (by omega)
        have h2 := O.asym _ _ h
        exact O.tr _ _ _ h2 h1
    · have e : bestI rows (n + 1) = bestI rows n := if_neg h
      rw [e]
      refine ⟨by omega, fun k hk => ?_⟩
      by_cases kn : k = n + 1
      · rw [kn]
        exact Bool.eq_false_iff.mpr h
      · exact b k (by omega)
theorem argBest_congr {f g : Nat → Nat → Bool} : ∀ n, (∀ i j, i ≤ n → j ≤ n → f i j = g i j) → argBest f n = argBest g n ∧ argBest g n ≤ n
  | 0, _ => ⟨rfl, Nat.le_refl _⟩
  | n + 1, h => by
    obtain ⟨a, b⟩ := argBest_congr n fun i j hi hj => h i j (by omega) (by omega)
    constructor
    · show (if f (n + 1) (argBest f n) = true then n + 1 else argBest f n) = (if g (n + 1) (argBest g n) = true then n + 1 else argBest g n)
      rw [a, h (n + 1) (argBest g n) (Nat.le_refl _) (by omega)]
    · show (if g (n + 1) (argBest g n) = true then n + 1 else argBest g n) ≤ n + 1
      split <;> omega
def rMinTs (K : PySem.W.Frag) : List V → Hp → VK → Prop := fun vs H Q => ∃ (a : Addr) (xs : List V) (rows : List (List Int)) (d : Nat), vs = [.ref a] ∧ SqL K H a xs ∧ Ts H xs rows ∧ rows ≠ [] ∧ (∀ r ∈ rows, r.length = d) ∧
  ∀ (i : Nat) (t : Addr) (r : List Int), xs[i]? = some (.ref t) → rows[i]? = some r → (∀ u ∈ rows, HT.lexLt u r = false) → Q (.ref t) H
theorem dpT : ∀ rows : List (List Int), PyData.depthAll (rows.map fun ns => PyData.tuple (ns.map .int)) ≤ 1
  | [] => Nat.zero_le _
  | r :: rs => by
    show max (PyData.depthAll (r.map .int) + 1) (PyData.depthAll (rs.map fun ns => PyData.tuple (ns.map .int))) ≤ 1
    have := dpT rs
    rw [dp_ints]
    omega
theorem cr_minTs {X : Cx} {K : PySem.W.Frag} (hc : X.calm = true) (hu : X.A.units + 64 < cLine) (hK : X.K = K := by rfl) : CallR X (.builtin "min") (rMinTs K) := by
  subst hK
  intro pins s σ H vs us Q I r h
  obtain ⟨a, xs, rows, d, rfl, hs, ts, ne, hd, q⟩ := h
  obtain ⟨u, rfl, ru⟩ := vals1 r
  obtain rfl : u = Value.ref a := ru
  obtain ⟨its, rv, hl, _⟩ := I.list hs
  obtain ⟨as, rd⟩ := Dp.readsAll I (rows.map fun ns => .tuple (ns.map .int)) _ _ ts.dp rv
  have rd' : ReadsAll s.heap its.toArray.toList (rows.map fun ns => PyData.tuple (ns.map .int)) as := by simpa using rd
  have al : PySem.W.AlikeAll (rows.map fun ns => PyData.tuple (ns.map .int)) := ⟨fun x hx y hy => by
    obtain ⟨i, _, rfl⟩ := List.mem_map.mp hx
    obtain ⟨j, _, rfl⟩ := List.mem_map.mp hy
    exact alike_ints, fun x hx => by
    obtain ⟨i, _, rfl⟩ := List.mem_map.mp hx
    intro z
    cases z⟩
  have hn : its.toArray.size = rows.length := by
    have := PySem.W.readsAll_len rd'
    rw [this, List.length_map]
  have pos : 0 < rows.length := List.length_pos_iff.mpr ne
  have dp := dpT rows
  refine PySem.call_min_walkH (PySem.W.iter_listW (A := X.A.in1) (I.ok.hd hc) hl.isList fun s₂ e W st hfp hw hk => ?_)
  refine ⟨_, _, _, _, _, _, _, s.heap, _, rfl, W, st, hfp, by omega, hw, hk, PySem.W.cmpIn_lt (A := X.A.in1) rd' al (by show X.A.units + 1 + _ < _; omega), fun v s' hP m => ?_⟩
  obtain ⟨h', tk, rfl, hk'⟩ := PySem.W.moved_old e rfl m
  have eb : ∀ n, n < rows.length → argBest (fun i j => PySem.W.dataLt ((rows.map fun ns => PyData.tuple (ns.map .int)).getD i .none) ((rows.map fun ns => PyData.tuple (ns.map .int)).getD j .none)) n = bestI rows n := by
    have at_ : ∀ i, i < rows.length → (rows.map fun ns => PyData.tuple (ns.map .int)).getD i .none = .tuple ((rows.getD i []).map .int) := fun i hi => by
      rw [List.getD_eq_getElem?_getD, List.getElem?_map, List.getElem?_eq_getElem hi, List.getD_eq_getElem?_getD, List.getElem?_eq_getElem hi]
      rfl
    have len_ : ∀ i, i < rows.length → (rows.getD i []).length = d := fun i hi => by
      rw [List.getD_eq_getElem?_getD, List.getElem?_eq_getElem hi]
      exact hd _ (List.getElem_mem hi)
    intro n hn
    refine (argBest_congr n fun i j hi hj => ?_).1
    show PySem.W.dataLt _ _ = _
    rw [at_ i (by omega), at_ j (by omega), dataLt_ints (by rw [len_ i (by omega), len_ j (by omega)])]
  rw [hn, eb _ (by omega)] at hP
  obtain ⟨b1, b2⟩ := bestI_ok rows (rows.length - 1)
  have bl : bestI rows (rows.length - 1) < rows.length := by omega
  have lx := ts.len
  obtain ⟨t, ex, ht⟩ := ts.get' (List.getElem?_eq_getElem bl)
  have hv : its[bestI rows (rows.length - 1)]? = some v := by simpa using hP
  have rel : RelV (.ref t) v := by
    obtain ⟨w', hw1, hw2⟩ := rv.get ex
    rw [hv] at hw1
    obtain rfl := Option.some.inj hw1
    exact hw2
  obtain rfl : v = Value.ref t := rel
  refine ⟨.ref t, H, I.call' (ch := []) rfl (Un.kept hk') (I.hok.kept hk') I.bare (fun _ z => nomatch z), rfl, q _ t _ ex (List.getElem?_eq_getElem bl) fun z hz => ?_⟩
  obtain ⟨k, hk2⟩ := List.mem_iff_getElem?.mp hz
  have hkl := (List.getElem?_eq_some_iff.mp hk2).1
  have := b2 k (by omega)
  rw [List.getD_eq_getElem?_getD, hk2, List.getD_eq_getElem?_getD, List.getElem?_eq_getElem bl] at this
  exact this
theorem q_minTs {K : PySem.W.Frag} {H : Hp} {Q : VK} {a : Addr} {xs : List V} {rows : List (List Int)} (d : Nat) (h : H a = some (.lst xs)) (ts : Ts H xs rows) (ne : rows ≠ []) (hd : ∀ r ∈ rows, r.length = d)
    (q : ∀ (t : Addr) (r : List Int), r ∈ rows → H t = some (.tup (r.map V.int)) → (∀ u ∈ rows, HT.lexLt u r = false) → Q (.ref t) H) : rMinTs K [.ref a] H Q :=
  ⟨a, xs, rows, d, rfl, SqL.of h, ts, ne, hd, fun i t r ex er le => by
    obtain ⟨t', ex', ht⟩ := ts.get' er
    rw [ex] at ex'
    cases ex'
    exact q t r (List.mem_of_getElem? er) ht le⟩
theorem au_ltT {X : Cx} {K : PySem.W.Frag} (hu : X.A.units + 64 < cLine) (hK : X.K = K := by rfl) : OpR X (compareOp .Lt) (rLtT K) := hK ▸ op_ltT (by omega)
theorem q_ltT {K : PySem.W.Frag} {H : Hp} {Q : VK} {a b : Addr} {ns ms : List Int} (h1 : H a = some (.tup (ns.map V.int))) (h2 : H b = some (.tup (ms.map V.int))) (q : Q (.bl (HT.lexLt ns ms)) H) : rLtT K (.ref a) (.ref b) H Q := ⟨a, b, ns, ms, rfl, rfl, SqT.of h1, SqT.of h2, q⟩
end Bs

namespace Bs
open PySem PySem.Spec PyProof.Rows L2
open Evl (Ex)
/-! ### parted work: the least lateness, and the set that shows it -/
theorem sumOf_ext {f g : Int → Int} {l : List Int} (h : ∀ x ∈ l, f x = g x) : sumOf f l = sumOf g l := by
  have a := sumOf_le (f := f) (g := g) (l := l) fun x hx => Int.le_of_eq (h x hx)
  have b := sumOf_le (f := g) (g := f) (l := l) fun x hx => Int.le_of_eq (h x hx).symm
  omega
theorem sumOf_nil (f : Int → Int) : sumOf f [] = 0 := by
  unfold sumOf
  simp
def lfA (lf : List Int) (x : Int) : Int := lf.getD x.toNat 0
def sel (rows : List (List Int)) (t D : Int) (g : Int → Int) (x : Int) : Int := if due_ rows x ≤ D ∧ t ≤ frm_ rows x then g x else 0
abbrev pN (p : List Int) : Int := p.getD 0 0
abbrev pH (p : List Int) : Int := p.getD 1 0
abbrev pB (p : List Int) : Int := p.getD 2 0
/-- hours in which pieces of a row lie -/
def wrk (ps : List (List Int)) (x : Int) : Int := (ps.map fun p => if pN p = x then pB p - pH p else 0).sum
theorem wrk_snoc (ps : List (List Int)) (p : List Int) (x : Int) : wrk (ps ++ [p]) x = wrk ps x + if pN p = x then pB p - pH p else 0 := by
  unfold wrk
  rw [List.map_append, List.sum_append]
  simp
structure Stp (rows : List (List Int)) (lf : List Int) (ps : List (List Int)) (hour : Int) : Prop where
  len : lf.length = rows.length
  bd : ∀ x : Int, 0 ≤ x → x < rows.length → 0 ≤ lfA lf x ∧ lfA lf x ≤ len_ rows x
  pc : ∀ p ∈ ps, ∃ x h b : Int, p = [x, h, b] ∧ 0 ≤ x ∧ x < rows.length ∧ frm_ rows x ≤ h ∧ h < b ∧ b ≤ hour
  ord : ps.Pairwise fun p q => pB p ≤ pH q
  wk : ∀ x : Int, 0 ≤ x → x < rows.length → wrk ps x = len_ rows x - lfA lf x
  run : ∀ D : Int, ∃ t : Int, t ≤ hour ∧ (∀ x : Int, 0 ≤ x → x < rows.length → due_ rows x ≤ D → 0 < lfA lf x → t ≤ frm_ rows x) ∧ hour - t ≤ sumOf (sel rows t D fun x => len_ rows x - lfA lf x) (Bs.upTo rows.length)
  why : ∀ p ∈ ps, ∃ t : Int, t ≤ frm_ rows (pN p) ∧ pB p - t ≤ sumOf (sel rows t (due_ rows (pN p)) (len_ rows)) (Bs.upTo rows.length)
section
variable {rows : List (List Int)}
theorem Stp.start (ok : Rows4 rows) {lf : List Int} {h : Int} (hl : lf.length = rows.length) (hlf : ∀ x : Int, 0 ≤ x → x < rows.length → lfA lf x = len_ rows x) (hm : ∀ x : Int, 0 ≤ x → x < rows.length → h ≤ frm_ rows x) : Stp rows lf [] h where
  len := hl
  bd x a b := by
    have := (ok.at a b).2.1
    rw [hlf x a b]
    omega
  pc p hp := nomatch hp
  ord := List.Pairwise.nil
  wk x a b := by
    rw [hlf x a b]
    show (0 : Int) = _
    omega
  run D := ⟨h, Int.le_refl _, fun x a b _ _ => hm x a b, by
    have : 0 ≤ sumOf (sel rows h D fun x => len_ rows x - lfA lf x) (Bs.upTo rows.length) := sumOf_nn fun x hx => by
      have hx := upTo_mem.mp hx
      unfold sel
      split
      · show 0 ≤ len_ rows x - lfA lf x
        rw [hlf x hx.1 hx.2]
        omega
      · exact Int.le_refl 0
    omega⟩
  why p hp := nomatch hp
theorem sel_nn {lf : List Int} {ps : List (List Int)} {hour : Int} (s : Stp rows lf ps hour) (t D : Int) : 0 ≤ sumOf (sel rows t D fun x => len_ rows x - lfA lf x) (Bs.upTo rows.length) := sumOf_nn fun x hx => by
  have hx := upTo_mem.mp hx
  have := s.bd x hx.1 hx.2
  unfold sel
  split
  · show 0 ≤ len_ rows x - lfA lf x
    omega
  · exact Int.le_refl 0
theorem Stp.idle {lf : List Int} {ps : List (List Int)} {hour h' : Int} (s : Stp rows lf ps hour) (hh : hour < h') (all : ∀ x : Int, 0 ≤ x → x < rows.length → 0 < lfA lf x → h' ≤ frm_ rows x) : Stp rows lf ps h' where
  len := s.len
  bd := s.bd
  pc p hp := by
    obtain ⟨x, h, b, e, a1, a2, a3, a4, a5⟩ := s.pc p hp
    exact ⟨x, h, b, e, a1, a2, a3, a4, by omega⟩
  ord := s.ord
  wk := s.wk
  run D := ⟨h', Int.le_refl _, fun x a b _ l => all x a b l, by
    have := sel_nn s h' D
    omega⟩
  why := s.why
theorem lfA_set {lf : List Int} {x y v : Int} (x0 : 0 ≤ x) (x1 : x < lf.length) (y0 : 0 ≤ y) : lfA (lf.set x.toNat v) y = if y = x then v else lfA lf y := by
  unfold lfA
  rw [List.getD_eq_getElem?_getD, List.getD_eq_getElem?_getD, List.getElem?_set]
  by_cases e : y = x
  · subst e
    rw [if_pos rfl, if_pos rfl, if_pos (by omega)]
    rfl
  · rw [if_neg (by omega), if_neg e]
/-- one piece more -/
theorem Stp.step {lf : List Int} {ps : List (List Int)} {hour b x0 : Int} (s : Stp rows lf ps hour) (a0 : 0 ≤ x0) (a1 : x0 < rows.length) (fr : frm_ rows x0 ≤ hour) (hb : hour < b) (lb : b - hour ≤ lfA lf x0)
    (first : ∀ y : Int, 0 ≤ y → y < rows.length → 0 < lfA lf y → due_ rows y < due_ rows x0 → hour < frm_ rows y)
    (leave : ∀ y : Int, 0 ≤ y → y < rows.length → hour < frm_ rows y → due_ rows y < due_ rows x0 → b ≤ frm_ rows y) :
    Stp rows (lf.set x0.toNat (lfA lf x0 - (b - hour))) (ps ++ [[x0, hour, b]]) b := by
  have hl := s.len
  have st : ∀ y : Int, 0 ≤ y → lfA (lf.set x0.toNat (lfA lf x0 - (b - hour))) y = if y = x0 then lfA lf x0 - (b - hour) else lfA lf y := fun y hy => lfA_set a0 (by omega) hy
  have run : ∀ D : Int, ∃ t : Int, t ≤ b ∧ (∀ x : Int, 0 ≤ x → x < rows.length → due_ rows x ≤ D → 0 < lfA (lf.set x0.toNat (lfA lf x0 - (b - hour))) x → t ≤ frm_ rows x) ∧ b - t ≤ sumOf (sel rows t D fun x => len_ rows x - lfA (lf.set x0.toNat (lfA lf x0 - (b - hour))) x) (Bs.upTo rows.length) ∧ (due_ rows x0 ≤ D → t ≤ frm_ rows x0) := by
    intro D
    by_cases c : due_ rows x0 ≤ D
    · obtain ⟨t, t1, t2, t3⟩ := s.run D
      have tx := t2 x0 a0 a1 c (by omega)
      refine ⟨t, by omega, fun x h1 h2 h3 h4 => ?_, ?_, fun _ => tx⟩
      · rw [st x h1] at h4
        by_cases e : x = x0
        · rw [e]
          exact tx
        · rw [if_neg e] at h4
          exact t2 x h1 h2 h3 h4
      · have key : sumOf (sel rows t D fun x => len_ rows x - lfA (lf.set x0.toNat (lfA lf x0 - (b - hour))) x) (Bs.upTo rows.length) = sumOf (sel rows t D fun x => len_ rows x - lfA lf x) (Bs.upTo rows.length) + (b - hour) := by
          obtain ⟨u, v, e⟩ := List.append_of_mem (upTo_mem.mpr ⟨a0, a1⟩ : x0 ∈ Bs.upTo rows.length)
          have nd := upTo_nodup rows.length
          have mem : ∀ y ∈ u ++ x0 :: v, 0 ≤ y := fun y hy => (upTo_mem.mp (e ▸ hy)).1
          rw [e] at nd ⊢
          have n1 := (List.nodup_append.mp nd).2.2
          have n2 := List.nodup_cons.mp (List.nodup_append.mp nd).2.1
          have same : ∀ y, 0 ≤ y → y ≠ x0 → sel rows t D (fun x => len_ rows x - lfA (lf.set x0.toNat (lfA lf x0 - (b - hour))) x) y = sel rows t D (fun x => len_ rows x - lfA lf x) y := fun y hy ne => by
            unfold sel
            show (if _ then len_ rows y - lfA _ y else 0) = (if _ then len_ rows y - lfA _ y else 0)
            rw [st y hy, if_neg ne]
          rw [sumOf_append, sumOf_append, sumOf_cons, sumOf_cons]
          rw [sumOf_ext (l := u) fun y hy => same y (mem y (List.mem_append_left _ hy)) fun z => n1 y hy x0 List.mem_cons_self z]
          rw [sumOf_ext (l := v) fun y hy => same y (mem y (List.mem_append_right _ (List.mem_cons_of_mem _ hy))) fun z => n2.1 (z ▸ hy)]
          have own : sel rows t D (fun x => len_ rows x - lfA (lf.set x0.toNat (lfA lf x0 - (b - hour))) x) x0 = sel rows t D (fun x => len_ rows x - lfA lf x) x0 + (b - hour) := by
            unfold sel
            rw [if_pos ⟨c, tx⟩, if_pos ⟨c, tx⟩]
            show len_ rows x0 - lfA _ x0 = len_ rows x0 - lfA lf x0 + (b - hour)
            rw [st x0 a0, if_pos rfl]
            omega
          rw [own]
          omega
        rw [key]
        omega
    · refine ⟨b, Int.le_refl _, fun x h1 h2 h3 h4 => ?_, ?_, fun h => absurd h c⟩
      · rw [st x h1] at h4
        have ne : x ≠ x0 := by
          rintro rfl
          exact c h3
        rw [if_neg ne] at h4
        have := first x h1 h2 h4 (by omega)
        exact leave x h1 h2 this (by omega)
      · have : 0 ≤ sumOf (sel rows b D fun x => len_ rows x - lfA (lf.set x0.toNat (lfA lf x0 - (b - hour))) x) (Bs.upTo rows.length) := sumOf_nn fun x hx => by
          have hx := upTo_mem.mp hx
          have := s.bd x hx.1 hx.2
          unfold sel
          split
          · show 0 ≤ len_ rows x - lfA _ x
            rw [st x hx.1]
            split
            · rename_i e
              subst e
              omega
            · omega
          · exact Int.le_refl 0
        omega
  constructor
  · rw [List.length_set]
    exact hl
  · intro x h1 h2
    have := s.bd x h1 h2
    rw [st x h1]
    split
    · rename_i e
      subst e
      omega
    · exact this
  · intro p hp
    rcases List.mem_append.mp hp with hp | hp
    · obtain ⟨x, h, b', e, q1, q2, q3, q4, q5⟩ := s.pc p hp
      exact ⟨x, h, b', e, q1, q2, q3, q4, by omega⟩
    · rw [List.mem_singleton.mp hp]
      exact ⟨x0, hour, b, rfl, a0, a1, fr, hb, Int.le_refl _⟩
  · rw [List.pairwise_append]
    refine ⟨s.ord, List.pairwise_singleton _ _, fun p hp q hq => ?_⟩
    rw [List.mem_singleton.mp hq]
    obtain ⟨x, h, b', rfl, _, _, _, _, q5⟩ := s.pc p hp
    exact q5
  · intro x h1 h2
    rw [wrk_snoc, s.wk x h1 h2, st x h1]
    show _ + (if x0 = x then b - hour else 0) = _
    by_cases e : x = x0
    · subst e
      rw [if_pos rfl, if_pos rfl]
      omega
    · rw [if_neg (fun z => e z.symm), if_neg e]
      omega
  · intro D
    obtain ⟨t, q1, q2, q3, _⟩ := run D
    exact ⟨t, q1, q2, q3⟩
  · intro p hp
    rcases List.mem_append.mp hp with hp | hp
    · exact s.why p hp
    · rw [List.mem_singleton.mp hp]
      obtain ⟨t, _, _, q3, q4⟩ := run (due_ rows x0)
      refine ⟨t, q4 (Int.le_refl _), Int.le_trans q3 (sumOf_le fun x hx => ?_)⟩
      have hx := upTo_mem.mp hx
      have := s.bd x hx.1 hx.2
      unfold sel
      by_cases c : due_ rows x ≤ due_ rows x0 ∧ t ≤ frm_ rows x
      · rw [if_pos c, if_pos (show due_ rows x ≤ due_ rows (pN [x0, hour, b]) ∧ t ≤ frm_ rows x from c)]
        show len_ rows x - lfA _ x ≤ len_ rows x
        rw [st x hx.1]
        split
        · rename_i e
          subst e
          omega
        · omega
      · rw [if_neg c, if_neg (show ¬ (due_ rows x ≤ due_ rows (pN [x0, hour, b]) ∧ t ≤ frm_ rows x) from c)]
        exact Int.le_refl 0
end
/-- what a set shows -/
def IsPB (rows : List (List Int)) (S : List Int) (v : Int) : Prop := ∃ f d : Int, (∃ x ∈ S, frm_ rows x = f) ∧ (∀ x ∈ S, f ≤ frm_ rows x) ∧ (∃ x ∈ S, due_ rows x = d) ∧ (∀ x ∈ S, due_ rows x ≤ d) ∧ v = f + sumOf (len_ rows) S - d
theorem IsPB.uniq {rows : List (List Int)} {S : List Int} {v u : Int} (h : IsPB rows S v) (k : IsPB rows S u) : v = u := by
  obtain ⟨f, d, ⟨x, hx, rfl⟩, a, ⟨y, hy, rfl⟩, b, rfl⟩ := h
  obtain ⟨f', d', ⟨x', hx', rfl⟩, a', ⟨y', hy', rfl⟩, b', rfl⟩ := k
  have := a x' hx'
  have := a' x hx
  have := b y' hy'
  have := b' y hy
  omega
/-- the greatest lateness of pieces -/
def IsPL (rows : List (List Int)) (ps : List (List Int)) (L : Int) : Prop := (∃ p ∈ ps, L = pB p - due_ rows (pN p)) ∧ ∀ p ∈ ps, pB p - due_ rows (pN p) ≤ L
/-- pieces of a set's rows end no sooner -/
theorem pieces_end {S : List Int} {f : Int} : ∀ ps : List (List Int), (∀ p ∈ ps, pN p ∈ S → f ≤ pH p) → (∀ p ∈ ps, pH p < pB p) → ps.Pairwise (fun p q => pB p ≤ pH q) →
    ((ps.map fun p => if pN p ∈ S then pB p - pH p else 0).sum = 0 ∨ ∃ p ∈ ps, pN p ∈ S ∧ f + (ps.map fun p => if pN p ∈ S then pB p - pH p else 0).sum ≤ pB p) := by
  intro ps
  have : ∀ qs : List (List Int), (∀ p ∈ qs.reverse, pN p ∈ S → f ≤ pH p) → (∀ p ∈ qs.reverse, pH p < pB p) → qs.reverse.Pairwise (fun p q => pB p ≤ pH q) →
    ((qs.reverse.map fun p => if pN p ∈ S then pB p - pH p else 0).sum = 0 ∨ ∃ p ∈ qs.reverse, pN p ∈ S ∧ f + (qs.reverse.map fun p => if pN p ∈ S then pB p - pH p else 0).sum ≤ pB p) := by
    intro qs
    induction qs with
    | nil => exact fun _ _ _ => .inl rfl
    | cons q qs ih =>
      rw [List.reverse_cons]
      intro h1 h2 h3
      rw [List.pairwise_append] at h3
      have ih := ih (fun p hp => h1 p (List.mem_append_left _ hp)) (fun p hp => h2 p (List.mem_append_left _ hp)) h3.1
      rw [List.map_append, List.sum_append]
      have e : (([q] : List (List Int)).map fun p => if pN p ∈ S then pB p - pH p else 0).sum = if pN q ∈ S then pB q - pH q else 0 := by simp
      rw [e]
      have mq : q ∈ qs.reverse ++ [q] := List.mem_append_right _ List.mem_cons_self
      by_cases c : pN q ∈ S
      · rw [if_pos c]
        have := h1 q mq c
        refine .inr ⟨q, mq, c, ?_⟩
        rcases ih with z | ⟨p, hp, _, le⟩
        · omega
        · have := h3.2.2 p hp q List.mem_cons_self
          omega
      · rw [if_neg c]
        rcases ih with z | ⟨p, hp, pc, le⟩
        · exact .inl (by omega)
        · exact .inr ⟨p, List.mem_append_left _ hp, pc, by omega⟩
  have := this ps.reverse
  rwa [List.reverse_reverse] at this
theorem wrk_set (ps : List (List Int)) : ∀ S : List Int, S.Nodup → (ps.map fun p => if pN p ∈ S then pB p - pH p else 0).sum = sumOf (wrk ps) S := by
  intro S
  induction S with
  | nil =>
    intro _
    rw [sumOf_nil]
    induction ps with
    | nil => rfl
    | cons p ps ih =>
      rw [List.map_cons, List.sum_cons, ih]
      simp
  | cons x S ih =>
    intro nd
    have nd := List.nodup_cons.mp nd
    rw [sumOf_cons, ← ih nd.2]
    unfold wrk
    clear ih
    induction ps with
    | nil => rfl
    | cons p ps ih =>
      rw [List.map_cons, List.sum_cons, List.map_cons, List.sum_cons, List.map_cons, List.sum_cons, ih]
      by_cases c : pN p = x
      · rw [if_pos c, if_pos (by rw [c]; exact List.mem_cons_self), if_neg (by rw [c]; exact nd.1)]
        omega
      · rw [if_neg c]
        by_cases c2 : pN p ∈ S
        · rw [if_pos c2, if_pos (List.mem_cons_of_mem _ c2)]
          omega
        · rw [if_neg c2, if_neg fun h => by
            rcases List.mem_cons.mp h with h | h
            · exact c h
            · exact c2 h]
          omega
section
variable {rows : List (List Int)} {lf : List Int} {ps : List (List Int)} {hour L : Int}
theorem Stp.most (ok : Rows4 rows) (s : Stp rows lf ps hour) (done : ∀ x : Int, 0 ≤ x → x < rows.length → lfA lf x = 0) (il : IsPL rows ps L) {S : List Int} (nd : S.Nodup) (bd : ∀ x ∈ S, 0 ≤ x ∧ x < rows.length) {v : Int} (h : IsPB rows S v) : v ≤ L := by
  obtain ⟨f, d, ⟨x, hx, hf⟩, a, ⟨y, hy, hd⟩, b, rfl⟩ := h
  have e1 := wrk_set ps S nd
  have e2 : sumOf (wrk ps) S = sumOf (len_ rows) S := sumOf_ext fun z hz => by
    rw [s.wk z (bd z hz).1 (bd z hz).2, done z (bd z hz).1 (bd z hz).2]
    omega
  have pos : 1 ≤ sumOf (len_ rows) S := by
    have h1 := sumOf_sub (f := len_ rows) (l := [x]) (m := S) (List.nodup_cons.mpr ⟨by simp, List.nodup_nil⟩) (fun z hz => by rw [List.mem_singleton.mp hz]; exact hx) fun z hz => by
      have := (ok.at (bd z hz).1 (bd z hz).2).2.1
      omega
    rw [sumOf_cons, sumOf_nil] at h1
    have := (ok.at (bd x hx).1 (bd x hx).2).2.1
    omega
  rcases pieces_end (S := S) (f := f) ps (fun p hp hS => by
      obtain ⟨z, h, b', rfl, _, _, q, _, _⟩ := s.pc p hp
      have := a z hS
      show f ≤ h
      omega) (fun p hp => by
      obtain ⟨z, h, b', rfl, _, _, _, q, _⟩ := s.pc p hp
      exact q) s.ord with z | ⟨p, hp, pS, le⟩
  · rw [e1, e2] at z
    omega
  · rw [e1, e2] at le
    have := il.2 p hp
    have := b _ pS
    omega
/-- the sets looked through -/
def thr (rows : List (List Int)) (f d : Int) : List Int := (Bs.upTo rows.length).filter fun x => decide (f ≤ frm_ rows x) && decide (due_ rows x ≤ d)
theorem thr_mem {f d x : Int} : x ∈ thr rows f d ↔ (0 ≤ x ∧ x < rows.length) ∧ f ≤ frm_ rows x ∧ due_ rows x ≤ d := by
  unfold thr
  rw [List.mem_filter, upTo_mem, Bool.and_eq_true, decide_eq_true_eq, decide_eq_true_eq]
theorem sel_filter (t D : Int) (g : Int → Int) : ∀ l : List Int, sumOf (sel rows t D g) l = sumOf g (l.filter fun x => decide (t ≤ frm_ rows x) && decide (due_ rows x ≤ D))
  | [] => rfl
  | x :: l => by
    rw [sumOf_cons, sel_filter t D g l]
    unfold sel
    by_cases c : due_ rows x ≤ D ∧ t ≤ frm_ rows x
    · rw [if_pos c, List.filter_cons_of_pos (by rw [Bool.and_eq_true, decide_eq_true_eq, decide_eq_true_eq]; exact ⟨c.2, c.1⟩), sumOf_cons]
    · rw [if_neg c, List.filter_cons_of_neg (by rw [Bool.and_eq_true, decide_eq_true_eq, decide_eq_true_eq]; exact fun h => c ⟨h.2, h.1⟩)]
      omega
theorem Stp.shown (ok : Rows4 rows) (s : Stp rows lf ps hour) (done : ∀ x : Int, 0 ≤ x → x < rows.length → lfA lf x = 0) (il : IsPL rows ps L) :
    ∃ x y : Int, (0 ≤ x ∧ x < rows.length) ∧ (0 ≤ y ∧ y < rows.length) ∧ thr rows (frm_ rows y) (due_ rows x) ≠ [] ∧ IsPB rows (thr rows (frm_ rows y) (due_ rows x)) L := by
  obtain ⟨p, hp, eL⟩ := il.1
  obtain ⟨t, t1, t2⟩ := s.why p hp
  obtain ⟨x, h, b, rfl, x0, x1, _, _, _⟩ := s.pc p hp
  have t1 : t ≤ frm_ rows x := t1
  have t2 : b - t ≤ sumOf (sel rows t (due_ rows x) (len_ rows)) (Bs.upTo rows.length) := t2
  have eL : L = b - due_ rows x := eL
  have xm : x ∈ thr rows t (due_ rows x) := thr_mem.mpr ⟨⟨x0, x1⟩, t1, Int.le_refl _⟩
  -- the least FROM among them
  have least : ∀ l : List Int, l ≠ [] → ∃ y ∈ l, ∀ z ∈ l, frm_ rows y ≤ frm_ rows z := by
    intro l
    induction l with
    | nil => exact fun h => absurd rfl h
    | cons a l ih =>
      intro _
      by_cases hl : l = []
      · subst hl
        exact ⟨a, List.mem_cons_self, fun z hz => by rw [List.mem_singleton.mp hz]; exact Int.le_refl _⟩
      · obtain ⟨y, hy, le⟩ := ih hl
        by_cases c : frm_ rows a ≤ frm_ rows y
        · exact ⟨a, List.mem_cons_self, fun z hz => by
            rcases List.mem_cons.mp hz with rfl | hz
            · exact Int.le_refl _
            · have := le z hz
              omega⟩
        · exact ⟨y, List.mem_cons_of_mem _ hy, fun z hz => by
            rcases List.mem_cons.mp hz with rfl | hz
            · omega
            · exact le z hz⟩
  obtain ⟨y, hy, le⟩ := least _ (List.ne_nil_of_mem xm)
  have ym := thr_mem.mp hy
  have same : thr rows (frm_ rows y) (due_ rows x) = thr rows t (due_ rows x) := by
    unfold thr
    refine List.filter_congr fun z hz => ?_
    have hz := upTo_mem.mp hz
    by_cases c : due_ rows z ≤ due_ rows x
    · rw [decide_eq_true c, Bool.and_true, Bool.and_true]
      refine decide_eq_decide.mpr ⟨fun h => by omega, fun h => le z (thr_mem.mpr ⟨hz, h, c⟩)⟩
    · rw [decide_eq_false c, Bool.and_false, Bool.and_false]
  refine ⟨x, y, ⟨x0, x1⟩, ym.1, by rw [same]; exact List.ne_nil_of_mem xm, ?_⟩
  rw [same]
  have pb : IsPB rows (thr rows t (due_ rows x)) (frm_ rows y + sumOf (len_ rows) (thr rows t (due_ rows x)) - due_ rows x) := ⟨frm_ rows y, due_ rows x, ⟨y, hy, rfl⟩, le, ⟨x, xm, rfl⟩, fun z hz => (thr_mem.mp hz).2.2, rfl⟩
  have up := s.most ok done il (S := thr rows t (due_ rows x)) ((upTo_nodup _).sublist List.filter_sublist) (fun z hz => (thr_mem.mp hz).1) pb
  rw [sel_filter] at t2
  have t2 : b - t ≤ sumOf (len_ rows) (thr rows t (due_ rows x)) := t2
  have : L = frm_ rows y + sumOf (len_ rows) (thr rows t (due_ rows x)) - due_ rows x := by omega
  rw [this]
  exact pb
end
/-- ends where each goes from its begin on -/
def endW (rows : List (List Int)) : Int → List Int → Int
  | e, [] => e
  | e, x :: o => endW rows (max e (frm_ rows x) + len_ rows x) o
theorem endW_snoc (rows : List (List Int)) (x : Int) : ∀ (o : List Int) (e : Int), endW rows e (o ++ [x]) = max (endW rows e o) (frm_ rows x) + len_ rows x
  | [], _ => rfl
  | y :: o, e => endW_snoc rows x o _
theorem endW_set {rows : List (List Int)} (ok : Rows4 rows) {S : List Int} {f : Int} (a : ∀ x ∈ S, f ≤ frm_ rows x) : ∀ qs : List Int, (∀ x ∈ qs, 0 ≤ x ∧ x < rows.length) →
    (qs.reverse.filter fun x => decide (x ∈ S)) = [] ∨ f + sumOf (len_ rows) (qs.reverse.filter fun x => decide (x ∈ S)) ≤ endW rows 0 qs.reverse
  | [], _ => .inl rfl
  | x :: qs, bd => by
    have ih := endW_set ok a qs fun z hz => bd z (List.mem_cons_of_mem _ hz)
    have l1 := (ok.at (bd x List.mem_cons_self).1 (bd x List.mem_cons_self).2).2.1
    rw [List.reverse_cons, List.filter_append, endW_snoc]
    by_cases c : x ∈ S
    · have := a x c
      rw [List.filter_cons_of_pos (by simpa using c), List.filter_nil, sumOf_append, sumOf_cons, sumOf_nil]
      refine .inr ?_
      rcases ih with z | z
      · rw [z, sumOf_nil]
        omega
      · omega
    · rw [List.filter_cons_of_neg (by simpa using c), List.filter_nil, List.append_nil]
      rcases ih with z | z
      · exact .inl z
      · exact .inr (by omega)
theorem later_ge {rows : List (List Int)} (ok : Rows4 rows) {S o : List Int} {v : Int} (h : IsPB rows S v) (nd : S.Nodup) (bd : ∀ x ∈ S, 0 ≤ x ∧ x < rows.length) (io : IsOrder o rows.length) : ∃ (i : Nat) (x : Int), o[i]? = some x ∧ v ≤ endW rows 0 (o.take (i + 1)) - due_ rows x := by
  obtain ⟨f, d, ⟨x, hx, hf⟩, a, ⟨y, hy, hd⟩, b, rfl⟩ := h
  obtain ⟨i, z, hz, zS, behind⟩ := last_in (P := fun x => x ∈ S) (l := o) ⟨x, io.all (bd x hx).1 (bd x hx).2, hx⟩
  refine ⟨i, z, hz, ?_⟩
  have e := endW_set ok a (o.take (i + 1)).reverse fun w hw => io.bd (List.mem_of_mem_take (List.mem_reverse.mp hw))
  rw [List.reverse_reverse] at e
  have mz : z ∈ (o.take (i + 1)).filter fun x => decide (x ∈ S) := List.mem_filter.mpr ⟨by rw [take_snoc hz]; exact List.mem_append_right _ List.mem_cons_self, decide_eq_true zS⟩
  have le : sumOf (len_ rows) S ≤ sumOf (len_ rows) ((o.take (i + 1)).filter fun x => decide (x ∈ S)) := sumOf_sub nd (fun w hw => by
    have := io.all (bd w hw).1 (bd w hw).2
    rw [← List.take_append_drop (i + 1) o] at this
    rcases List.mem_append.mp this with k | k
    · exact List.mem_filter.mpr ⟨k, decide_eq_true hw⟩
    · exact absurd hw (behind w k)) fun w hw => by
    have := io.bd (List.mem_of_mem_take (List.mem_filter.mp hw).1)
    have := (ok.at this.1 this.2).2.1
    omega
  have := b z zS
  rcases e with e | e
  · rw [e] at mz
    cases mz
  · omega
end Bs

namespace Bs
open PySem PySem.Spec PyProof.Rows L2
open Evl (Ex)
/-! ### rows of one FROM; ends of parted rows -/
def setF (c : Int) (r : List Int) : List Int := [r.getD 0 0, c, r.getD 2 0, r.getD 3 0]
structure FromC (rows gs : List (List Int)) (c : Int) : Prop where
  len : gs.length = rows.length
  cell : ∀ x : Int, 0 ≤ x → x < rows.length → len_ gs x = len_ rows x ∧ due_ gs x = due_ rows x ∧ frm_ gs x = c
theorem setF_from (rows : List (List Int)) (c : Int) : FromC rows (rows.map (setF c)) c where
  len := List.length_map _
  cell x x0 x1 := by
    have h : x.toNat < rows.length := by omega
    have e : (rows.map (setF c)).getD x.toNat [] = setF c (rows.getD x.toNat []) := by
      rw [List.getD_eq_getElem?_getD, List.getD_eq_getElem?_getD, List.getElem?_map, List.getElem?_eq_getElem h]
      rfl
    refine ⟨?_, ?_, ?_⟩
    · show ((rows.map (setF c)).getD x.toNat []).getD 0 0 = (rows.getD x.toNat []).getD 0 0
      rw [e]
      rfl
    · show ((rows.map (setF c)).getD x.toNat []).getD 2 0 = (rows.getD x.toNat []).getD 2 0
      rw [e]
      rfl
    · show ((rows.map (setF c)).getD x.toNat []).getD 1 0 = c
      rw [e]
      rfl
theorem setF_two (rows : List (List Int)) (b c : Int) : (rows.map (setF b)).map (setF c) = rows.map (setF c) := by
  rw [List.map_map]
  rfl
theorem setF_ok {rows : List (List Int)} (ok : Rows4 rows) {c : Int} (c0 : 0 ≤ c) (c1 : c ≤ 1000000) : Rows4 (rows.map (setF c)) := fun r hr => by
  obtain ⟨q, hq, rfl⟩ := List.mem_map.mp hr
  obtain ⟨l, f, b, w, rfl, h⟩ := ok q hq
  exact ⟨l, c, b, w, rfl, by omega⟩
section
variable {rows gs : List (List Int)} {c : Int}
theorem FromC.sum (fc : FromC rows gs c) {S : List Int} (bd : ∀ x ∈ S, 0 ≤ x ∧ x < rows.length) : sumOf (len_ gs) S = sumOf (len_ rows) S :=
  sumOf_ext fun x hx => (fc.cell x (bd x hx).1 (bd x hx).2).1
theorem FromC.pb (fc : FromC rows gs c) {S : List Int} {L : Int} (h : Shows rows S L) : IsPB gs S (L + c) := by
  obtain ⟨m, ⟨x, hx, e⟩, top, rfl⟩ := h.sum
  refine ⟨c, m, ⟨x, hx, (fc.cell x (h.bd x hx).1 (h.bd x hx).2).2.2⟩, fun y hy => ?_, ⟨x, hx, ?_⟩, fun y hy => ?_, ?_⟩
  · rw [(fc.cell y (h.bd y hy).1 (h.bd y hy).2).2.2]
    exact Int.le_refl _
  · rw [(fc.cell x (h.bd x hx).1 (h.bd x hx).2).2.1, e]
  · rw [(fc.cell y (h.bd y hy).1 (h.bd y hy).2).2.1]
    exact top y hy
  · rw [fc.sum h.bd]
    omega
theorem FromC.shows (fc : FromC rows gs c) {S : List Int} {v : Int} (h : IsPB gs S v) (ne : S ≠ []) (nd : S.Nodup) (bd : ∀ x ∈ S, 0 ≤ x ∧ x < rows.length) : Shows rows S (v - c) := by
  obtain ⟨f, d, ⟨x, hx, e1⟩, _, ⟨y, hy, e2⟩, top, rfl⟩ := h
  rw [(fc.cell x (bd x hx).1 (bd x hx).2).2.2] at e1
  rw [(fc.cell y (bd y hy).1 (bd y hy).2).2.1] at e2
  refine ⟨ne, nd, bd, d, ⟨y, hy, e2⟩, fun z hz => ?_, ?_⟩
  · have := top z hz
    rwa [(fc.cell z (bd z hz).1 (bd z hz).2).2.1] at this
  · rw [fc.sum bd]
    omega
theorem FromC.late (fc : FromC rows gs c) (ok : Rows4 rows) (okG : Rows4 gs) {lf : List Int} {ps : List (List Int)} {hour L M : Int} (s : Stp gs lf ps hour) (done : ∀ x : Int, 0 ≤ x → x < gs.length → lfA lf x = 0) (il : IsPL gs ps L)
    {S : List Int} (ne : S ≠ []) (up : S.Pairwise (· < ·)) (bd : ∀ x ∈ S, 0 ≤ x ∧ x < gs.length) (pb : IsPB gs S L) {o S' : List Int} (io : IsOrder o rows.length) (il' : IsLate rows o M) (sh : Shows rows S' M) : L = M + c := by
  have bd' : ∀ x ∈ S, 0 ≤ x ∧ x < rows.length := fun x hx => by
    have := bd x hx
    rw [fc.len] at this
    exact this
  have nd : S.Nodup := up.imp fun h => Int.ne_of_lt h
  have h1 := (fc.shows pb ne nd bd').le ok io il'
  have h2 := s.most okG done il sh.nd (fun x hx => by rw [fc.len]; exact sh.bd x hx) (fc.pb sh)
  omega
end
def endsL (l : List (List Int)) (x : Int) : List Int := (l.filter fun p => decide (pN p = x)).map pB
theorem endsL_mem {l : List (List Int)} {x e : Int} : e ∈ endsL l x ↔ ∃ p ∈ l, pN p = x ∧ pB p = e := by
  unfold endsL
  rw [List.mem_map]
  refine ⟨fun ⟨p, hp, h⟩ => ?_, fun ⟨p, hp, h1, h2⟩ => ⟨p, List.mem_filter.mpr ⟨hp, decide_eq_true h1⟩, h2⟩⟩
  exact ⟨p, (List.mem_filter.mp hp).1, of_decide_eq_true (List.mem_filter.mp hp).2, h⟩
theorem endsL_snoc (l : List (List Int)) (p : List Int) (x : Int) : endsL (l ++ [p]) x = endsL l x ++ if pN p = x then [pB p] else [] := by
  unfold endsL
  rw [List.filter_append, List.map_append]
  by_cases h : pN p = x
  · rw [if_pos h, List.filter_cons_of_pos (by simpa using h)]
    rfl
  · rw [if_neg h, List.filter_cons_of_neg (by simpa using h)]
    rfl
def IsEnd (ps : List (List Int)) (x e : Int) : Prop := (∃ p ∈ ps, pN p = x ∧ pB p = e) ∧ ∀ p ∈ ps, pN p = x → pB p ≤ e
theorem isEnd_of {srt ps : List (List Int)} {x e : Int} (pm : srt.Perm ps) (h : e ∈ endsL srt x) (top : ∀ y ∈ endsL srt x, y ≤ e) : IsEnd ps x e := by
  obtain ⟨p, hp, h1, h2⟩ := endsL_mem.mp h
  exact ⟨⟨p, pm.mem_iff.mp hp, h1, h2⟩, fun q hq hx => top _ (endsL_mem.mpr ⟨q, pm.mem_iff.mpr hq, hx, rfl⟩)⟩
theorem Stp.has {rows : List (List Int)} {lf : List Int} {ps : List (List Int)} {hour : Int} (ok : Rows4 rows) (s : Stp rows lf ps hour) (done : ∀ x : Int, 0 ≤ x → x < rows.length → lfA lf x = 0) {srt : List (List Int)} (pm : srt.Perm ps) {x : Int} (x0 : 0 ≤ x) (x1 : x < rows.length) : endsL srt x ≠ [] := fun z => by
  have w := s.wk x x0 x1
  rw [done x x0 x1] at w
  have l := (ok.at x0 x1).2.1
  have no : ∀ p ∈ ps, pN p ≠ x := fun p hp e => by
    have : pB p ∈ endsL srt x := endsL_mem.mpr ⟨p, pm.mem_iff.mpr hp, e, rfl⟩
    rw [z] at this
    cases this
  have : wrk ps x = 0 := by
    clear w z pm s
    unfold wrk
    induction ps with
    | nil => rfl
    | cons p ps ih =>
      rw [List.map_cons, List.sum_cons, if_neg (no p List.mem_cons_self), ih fun q hq => no q (List.mem_cons_of_mem _ hq)]
      rfl
  omega
theorem ends_most {rows : List (List Int)} {lf : List Int} {ps : List (List Int)} {hour L : Int} (s : Stp rows lf ps hour) (il : IsPL rows ps L) {es : List Int} (he : ∀ k : Nat, k < rows.length → IsEnd ps k (es.getD k 0)) {v : Int}
    (hv : v ∈ (List.range rows.length).map fun k => es.getD k 0 - due_ rows (k : Nat)) (top : ∀ y ∈ (List.range rows.length).map fun k => es.getD k 0 - due_ rows (k : Nat), y ≤ v) : v = L := by
  obtain ⟨k, hk, rfl⟩ := List.mem_map.mp hv
  obtain ⟨⟨p, hp, e1, e2⟩, _⟩ := he k (List.mem_range.mp hk)
  have h1 := il.2 p hp
  rw [e1, e2] at h1
  obtain ⟨q, hq, rfl⟩ := il.1
  obtain ⟨x, h, b, rfl, x0, x1, _⟩ := s.pc q hq
  obtain ⟨m, rfl⟩ : ∃ m : Nat, x = (m : Int) := ⟨_, (Int.toNat_of_nonneg x0).symm⟩
  have h2 := top _ (List.mem_map.mpr ⟨m, List.mem_range.mpr (by omega), rfl⟩)
  have h3 := (he m (by omega)).2 _ hq rfl
  have h3 : b ≤ es.getD m 0 := h3
  have h1 : b - due_ rows (m : Int) ≥ es.getD k 0 - due_ rows (k : Int) := h1
  show _ = b - due_ rows (m : Int)
  have h2 : es.getD m 0 - due_ rows (m : Int) ≤ es.getD k 0 - due_ rows (k : Int) := h2
  omega
theorem up_le {S : List Int} {n : Nat} (up : S.Pairwise (· < ·)) (bd : ∀ x ∈ S, 0 ≤ x ∧ x < n) : S.length ≤ n := by
  have one : ∀ l : List Int, sumOf (fun _ => 1) l = l.length := fun l => by
    induction l with
    | nil => rfl
    | cons x l ih =>
      rw [sumOf_cons, ih, List.length_cons]
      omega
  have h := sumOf_sub (f := fun _ => 1) (l := S) (m := Bs.upTo n) (up.imp fun h => Int.ne_of_lt h) (fun x hx => upTo_mem.mpr (bd x hx)) fun _ _ => by omega
  rw [one, one, upTo_len] at h
  omega
end Bs

namespace Bs
open PySem PySem.Spec PyProof.Rows L2
open Evl (Ex)
/-! ### parted work hour by hour -/
def Ahd (rows : List (List Int)) (x y : Int) : Prop := due_ rows x < due_ rows y ∨ (due_ rows x = due_ rows y ∧ x ≤ y)
instance (rows : List (List Int)) (x y : Int) : Decidable (Ahd rows x y) := by unfold Ahd; infer_instance
theorem Ahd.anti {rows : List (List Int)} {x y : Int} (h : Ahd rows x y) (k : Ahd rows y x) : x = y := by
  unfold Ahd at h k
  omega
theorem Ahd.trans {rows : List (List Int)} {x y z : Int} (h : Ahd rows x y) (k : Ahd rows y z) : Ahd rows x z := by
  unfold Ahd at *
  omega
theorem Ahd.total (rows : List (List Int)) (x y : Int) : Ahd rows x y ∨ Ahd rows y x := by
  unfold Ahd
  omega
def leastK (rows : List (List Int)) : List Int → Option Int
  | [] => none
  | x :: l => match leastK rows l with
    | none => some x
    | some y => if Ahd rows x y then some x else some y
theorem leastK_none {rows : List (List Int)} : ∀ {l : List Int}, leastK rows l = none → l = []
  | [], _ => rfl
  | x :: l, h => by
    unfold leastK at h
    split at h
    · cases h
    · split at h <;> cases h
theorem leastK_some {rows : List (List Int)} : ∀ {l : List Int} {x : Int}, leastK rows l = some x → x ∈ l ∧ ∀ y ∈ l, Ahd rows x y
  | [], _, h => nomatch h
  | z :: l, x, h => by
    have self : ∀ u : Int, Ahd rows u u := fun u => by
      unfold Ahd
      omega
    unfold leastK at h
    split at h
    · rename_i e
      obtain rfl := leastK_none e
      obtain rfl := Option.some.inj h
      exact ⟨List.mem_cons_self, fun y hy => by rw [List.mem_singleton.mp hy]; exact self _⟩
    · rename_i y e
      obtain ⟨h1, h2⟩ := leastK_some e
      split at h
      · rename_i c
        obtain rfl := Option.some.inj h
        exact ⟨List.mem_cons_self, fun u hu => by
          rcases List.mem_cons.mp hu with rfl | hu
          · exact self _
          · exact c.trans (h2 u hu)⟩
      · rename_i c
        obtain rfl := Option.some.inj h
        exact ⟨List.mem_cons_of_mem _ h1, fun u hu => by
          rcases List.mem_cons.mp hu with rfl | hu
          · exact (Ahd.total rows u y).resolve_left c
          · exact h2 u hu⟩
theorem leastK_of {rows : List (List Int)} {l : List Int} {x : Int} (h : x ∈ l) (k : ∀ y ∈ l, Ahd rows x y) : leastK rows l = some x := by
  cases e : leastK rows l with
  | none =>
    rw [leastK_none e] at h
    cases h
  | some y =>
    obtain ⟨h1, h2⟩ := leastK_some e
    rw [(k y h1).anti (h2 x h)]
/-- those that are there at an hour and not done -/
def avL (rows : List (List Int)) (lf : List Int) (t : Int) : List Int := (Bs.upTo rows.length).filter fun x => decide (0 < lfA lf x) && decide (frm_ rows x ≤ t)
theorem avL_mem {rows : List (List Int)} {lf : List Int} {t x : Int} : x ∈ avL rows lf t ↔ (0 ≤ x ∧ x < rows.length) ∧ 0 < lfA lf x ∧ frm_ rows x ≤ t := by
  unfold avL
  rw [List.mem_filter, upTo_mem, Bool.and_eq_true, decide_eq_true_eq, decide_eq_true_eq]
def doneAt (lf : List Int) : Option Int → List Int
  | none => lf
  | some x => lf.set x.toNat (lfA lf x - 1)
/-- what is left of each row ahead of an hour, and which is worked on in it -/
def lefts (rows : List (List Int)) : Nat → List Int
  | 0 => rows.map fun r => r.getD 0 0
  | t + 1 => doneAt (lefts rows t) (leastK rows (avL rows (lefts rows t) (t : Int)))
def wkd (rows : List (List Int)) (t : Nat) : Option Int := leastK rows (avL rows (lefts rows t) (t : Int))
theorem lefts_succ (rows : List (List Int)) (t : Nat) : lefts rows (t + 1) = doneAt (lefts rows t) (wkd rows t) := rfl
theorem lefts_len (rows : List (List Int)) : ∀ t, (lefts rows t).length = rows.length
  | 0 => List.length_map _
  | t + 1 => by
    rw [lefts_succ]
    unfold doneAt
    split
    · exact lefts_len rows t
    · rw [List.length_set]
      exact lefts_len rows t
theorem wkd_bd {rows : List (List Int)} {t : Nat} {x : Int} (h : wkd rows t = some x) : (0 ≤ x ∧ x < rows.length) ∧ 0 < lfA (lefts rows t) x ∧ frm_ rows x ≤ t := avL_mem.mp (leastK_some h).1
/-- one row for some hours -/
theorem wkd_run {rows : List (List Int)} {lf : List Int} {t : Nat} {x : Int} (e : lefts rows t = lf) (x0 : 0 ≤ x) (x1 : x < rows.length) (fr : frm_ rows x ≤ t) (b : Nat) (lb : (b : Int) - t ≤ lfA lf x)
    (first : ∀ y : Int, 0 ≤ y → y < rows.length → 0 < lfA lf y → frm_ rows y ≤ t → Ahd rows x y) (leave : ∀ y : Int, 0 ≤ y → y < rows.length → (t : Int) < frm_ rows y → ¬ Ahd rows x y → (b : Int) ≤ frm_ rows y) :
    ∀ j : Nat, t + j ≤ b → lefts rows (t + j) = lf.set x.toNat (lfA lf x - j) ∧ (t + j < b → wkd rows (t + j) = some x) := by
  have ll : lf.length = rows.length := by rw [← e]; exact lefts_len rows t
  have pick : ∀ j : Nat, t + j < b → lefts rows (t + j) = lf.set x.toNat (lfA lf x - j) → wkd rows (t + j) = some x := fun j hj h => by
    unfold wkd
    rw [h]
    have st : ∀ y : Int, 0 ≤ y → lfA (lf.set x.toNat (lfA lf x - j)) y = if y = x then lfA lf x - j else lfA lf y := fun y hy => lfA_set x0 (by omega) hy
    refine leastK_of (avL_mem.mpr ⟨⟨x0, x1⟩, ?_, ?_⟩) fun y hy => ?_
    · rw [st x x0, if_pos rfl]
      omega
    · omega
    · obtain ⟨⟨y0, y1⟩, h1, h2⟩ := avL_mem.mp hy
      rw [st y y0] at h1
      by_cases c : y = x
      · subst c
        unfold Ahd
        omega
      · rw [if_neg c] at h1
        by_cases d : frm_ rows y ≤ t
        · exact first y y0 y1 h1 d
        · refine Classical.byContradiction fun no => ?_
          have := leave y y0 y1 (by omega) no
          omega
  intro j
  induction j with
  | zero =>
    intro hj
    have h : lefts rows (t + 0) = lf.set x.toNat (lfA lf x - (0 : Nat)) := by
      rw [Nat.add_zero, e]
      refine (List.ext_getElem? fun i => ?_)
      rw [List.getElem?_set]
      by_cases c : x.toNat = i
      · rw [if_pos c, if_pos (by omega)]
        unfold lfA
        rw [List.getD_eq_getElem?_getD, c, List.getElem?_eq_getElem (by omega : i < lf.length)]
        show _ = some (lf[i] - 0)
        rw [Int.sub_zero]
      · rw [if_neg c]
    exact ⟨h, fun hlt => pick 0 hlt h⟩
  | succ j ih =>
    intro hj
    obtain ⟨h1, h2⟩ := ih (by omega)
    have h : lefts rows (t + (j + 1)) = lf.set x.toNat (lfA lf x - (j + 1 : Nat)) := by
      rw [← Nat.add_assoc, lefts_succ, h2 (by omega), h1]
      show (lf.set x.toNat (lfA lf x - j)).set x.toNat (lfA (lf.set x.toNat (lfA lf x - j)) x - 1) = _
      rw [List.set_set, lfA_set x0 (by omega) x0, if_pos rfl]
      congr 1
      omega
    exact ⟨h, fun hlt => pick (j + 1) hlt h⟩
/-- hours in which none is there -/
theorem wkd_idle {rows : List (List Int)} {lf : List Int} {t : Nat} (e : lefts rows t = lf) (b : Nat) (no : ∀ y : Int, 0 ≤ y → y < rows.length → 0 < lfA lf y → (b : Int) ≤ frm_ rows y) :
    ∀ j : Nat, t + j ≤ b → lefts rows (t + j) = lf ∧ (t + j < b → wkd rows (t + j) = none) := by
  have pick : ∀ j : Nat, t + j < b → lefts rows (t + j) = lf → wkd rows (t + j) = none := fun j hj h => by
    cases c : wkd rows (t + j) with
    | none => rfl
    | some x =>
      obtain ⟨⟨x0, x1⟩, h1, h2⟩ := wkd_bd c
      rw [h] at h1
      have := no x x0 x1 h1
      omega
  intro j
  induction j with
  | zero => exact fun hj => ⟨e, fun hlt => pick 0 hlt e⟩
  | succ j ih =>
    intro hj
    obtain ⟨h1, h2⟩ := ih (by omega)
    have h : lefts rows (t + (j + 1)) = lf := by
      rw [← Nat.add_assoc, lefts_succ, h2 (by omega), h1]
      rfl
    exact ⟨h, fun hlt => pick (j + 1) hlt h⟩
end Bs

namespace Bs
open PySem PySem.Spec PyProof.Rows L2
open Evl (Ex)
/-! ### pieces that tell which row is worked on at each hour -/
structure IsPcs (f : Nat → Option Int) (ps : List (List Int)) (T : Nat) : Prop where
  form : ∀ p ∈ ps, ∃ (x : Int) (h b : Nat), p = [x, (h : Int), (b : Int)] ∧ h < b ∧ b ≤ T ∧ ∀ t, h ≤ t → t < b → f t = some x
  ord : ps.Pairwise fun p q => pB p ≤ pH q
  all : ∀ (t : Nat) (x : Int), t < T → f t = some x → ∃ p ∈ ps, pN p = x ∧ pH p ≤ t ∧ (t : Int) < pB p
  stop : ∀ p ∈ ps, ∀ b : Nat, pB p = b → b < T → f b ≠ some (pN p)
section
variable {f : Nat → Option Int} {ps qs : List (List Int)} {T U : Nat}
theorem IsPcs.start : IsPcs f [] 0 where
  form p hp := nomatch hp
  ord := List.Pairwise.nil
  all t x h := absurd h (by omega)
  stop p hp := nomatch hp
theorem IsPcs.idle (h : IsPcs f ps T) (end_ : ∀ p ∈ ps, pB p = T → f T ≠ some (pN p)) {b : Nat} (le : T ≤ b) (no : ∀ t, T ≤ t → t < b → f t = none) : IsPcs f ps b where
  form p hp := by
    obtain ⟨x, h1, b1, e, a1, a2, a3⟩ := h.form p hp
    exact ⟨x, h1, b1, e, a1, by omega, a3⟩
  ord := h.ord
  all t x ht e := by
    by_cases c : t < T
    · exact h.all t x c e
    · rw [no t (by omega) ht] at e
      cases e
  stop p hp b1 e1 lt := by
    obtain ⟨x, h2, b2, rfl, a1, a2, a3⟩ := h.form p hp
    have e1 : (b2 : Int) = b1 := e1
    obtain rfl : b2 = b1 := by omega
    by_cases c : b2 < T
    · exact h.stop _ hp b2 rfl c
    · obtain rfl : b2 = T := by omega
      exact end_ _ hp rfl
theorem IsPcs.step (h : IsPcs f ps T) (end_ : ∀ p ∈ ps, pB p = T → f T ≠ some (pN p)) {b : Nat} {x : Int} (lt : T < b) (run : ∀ t, T ≤ t → t < b → f t = some x) : IsPcs f (ps ++ [[x, (T : Int), (b : Int)]]) b where
  form p hp := by
    rcases List.mem_append.mp hp with hp | hp
    · obtain ⟨x, h1, b1, e, a1, a2, a3⟩ := h.form p hp
      exact ⟨x, h1, b1, e, a1, by omega, a3⟩
    · rw [List.mem_singleton.mp hp]
      exact ⟨x, T, b, rfl, lt, Nat.le_refl _, run⟩
  ord := by
    rw [List.pairwise_append]
    refine ⟨h.ord, List.pairwise_singleton _ _, fun p hp q hq => ?_⟩
    rw [List.mem_singleton.mp hq]
    obtain ⟨x, h1, b1, rfl, a1, a2, a3⟩ := h.form p hp
    show (b1 : Int) ≤ (T : Int)
    omega
  all t y ht e := by
    by_cases c : t < T
    · obtain ⟨p, hp, k⟩ := h.all t y c e
      exact ⟨p, List.mem_append_left _ hp, k⟩
    · rw [run t (by omega) ht] at e
      obtain rfl := Option.some.inj e
      refine ⟨_, List.mem_append_right _ List.mem_cons_self, rfl, ?_, ?_⟩
      · show (T : Int) ≤ t
        omega
      · show (t : Int) < b
        omega
  stop p hp b1 e1 lt1 := by
    rcases List.mem_append.mp hp with hp1 | hp
    · obtain ⟨y, h2, b2, rfl, a1, a2, a3⟩ := h.form p hp1
      have e1 : (b2 : Int) = b1 := e1
      obtain rfl : b2 = b1 := by omega
      by_cases c : b2 < T
      · exact h.stop _ hp1 b2 rfl c
      · obtain rfl : b2 = T := by omega
        exact end_ _ hp1 rfl
    · rw [List.mem_singleton.mp hp] at e1
      have e1 : (b : Int) = b1 := e1
      omega
/-- the last piece goes on -/
theorem IsPcs.more {x : Int} {h0 : Nat} (h : IsPcs f (ps ++ [[x, (h0 : Int), (T : Int)]]) T) (e : f T = some x) : IsPcs f (ps ++ [[x, (h0 : Int), ((T + 1 : Nat) : Int)]]) (T + 1) := by
  have last := h.form _ (List.mem_append_right _ List.mem_cons_self)
  obtain ⟨x', h', b', ee, a1, a2, a3⟩ := last
  have e1 : x = x' := by injection ee
  have e2 : (h0 : Int) = h' := by
    injection ee with _ ee
    injection ee
  have e3 : (T : Int) = b' := by
    injection ee with _ ee
    injection ee with _ ee
    injection ee
  obtain rfl := e1
  obtain rfl : h0 = h' := by omega
  obtain rfl : T = b' := by omega
  have ord := List.pairwise_append.mp h.ord
  constructor
  · intro p hp
    rcases List.mem_append.mp hp with hp | hp
    · obtain ⟨y, h1, b1, e, a1, a2, a3⟩ := h.form p (List.mem_append_left _ hp)
      exact ⟨y, h1, b1, e, a1, by omega, a3⟩
    · rw [List.mem_singleton.mp hp]
      refine ⟨x, h0, T + 1, rfl, by omega, Nat.le_refl _, fun t t1 t2 => ?_⟩
      by_cases c : t < T
      · exact a3 t t1 c
      · obtain rfl : t = T := by omega
        exact e
  · rw [List.pairwise_append]
    refine ⟨ord.1, List.pairwise_singleton _ _, fun p hp q hq => ?_⟩
    rw [List.mem_singleton.mp hq]
    have le : pB p ≤ pH [x, (h0 : Int), (T : Int)] := ord.2.2 p hp _ List.mem_cons_self
    exact le
  · intro t y ht ey
    by_cases c : t < T
    · obtain ⟨p, hp, k1, k2, k3⟩ := h.all t y c ey
      rcases List.mem_append.mp hp with hp | hp
      · exact ⟨p, List.mem_append_left _ hp, k1, k2, k3⟩
      · rw [List.mem_singleton.mp hp] at k1 k2
        refine ⟨_, List.mem_append_right _ List.mem_cons_self, k1, k2, ?_⟩
        show (t : Int) < ((T + 1 : Nat) : Int)
        omega
    · obtain rfl : t = T := by omega
      rw [e] at ey
      refine ⟨_, List.mem_append_right _ List.mem_cons_self, Option.some.inj ey, ?_, ?_⟩
      · show (h0 : Int) ≤ (t : Int)
        omega
      · show (t : Int) < ((t + 1 : Nat) : Int)
        omega
  · intro p hp b eb lt
    rcases List.mem_append.mp hp with hp | hp
    · obtain ⟨y, h2, b2, rfl, q1, q2, q3⟩ := h.form p (List.mem_append_left _ hp)
      have eb : (b2 : Int) = b := eb
      obtain rfl : b2 = b := by omega
      have : (b2 : Int) ≤ (h0 : Int) := ord.2.2 _ hp _ List.mem_cons_self
      exact h.stop _ (List.mem_append_left _ hp) b2 rfl (by omega)
    · rw [List.mem_singleton.mp hp] at eb
      have eb : ((T + 1 : Nat) : Int) = b := eb
      omega
theorem IsPcs.sub (h : IsPcs f ps T) (k : IsPcs f qs U) (hT : ∀ t, T ≤ t → f t = none) (hU : ∀ t, U ≤ t → f t = none) : ∀ p ∈ ps, p ∈ qs := by
  have lt : ∀ {V t x}, (∀ t, V ≤ t → f t = none) → f t = some x → t < V := fun {V t x} hV e => by
    refine Classical.byContradiction fun c => ?_
    rw [hV t (by omega)] at e
    cases e
  intro p hp
  obtain ⟨x, h1, b1, rfl, a1, a2, a3⟩ := h.form p hp
  have fh := a3 h1 (Nat.le_refl _) a1
  obtain ⟨q, hq, n1, n2, n3⟩ := k.all h1 x (lt hU fh) fh
  obtain ⟨y, h2, b2, rfl, c1, c2, c3⟩ := k.form q hq
  obtain rfl : y = x := n1
  have n2 : (h2 : Int) ≤ h1 := n2
  have n3 : (h1 : Int) < b2 := n3
  have eh : h2 = h1 := by
    refine Classical.byContradiction fun ne => ?_
    have f1 := c3 (h1 - 1) (by omega) (by omega)
    obtain ⟨p', hp', m1, m2, m3⟩ := h.all (h1 - 1) y (lt hT f1) f1
    obtain ⟨z, h3, b3, rfl, d1, d2, d3⟩ := h.form p' hp'
    obtain rfl : z = y := m1
    have m2 : (h3 : Int) ≤ ((h1 - 1 : Nat) : Int) := m2
    have m3 : ((h1 - 1 : Nat) : Int) < b3 := m3
    have b31 : b3 ≤ h1 := by
      obtain ⟨i, hi, ei⟩ := List.getElem_of_mem hp'
      obtain ⟨j, hj, ej⟩ := List.getElem_of_mem hp
      have cmp := List.pairwise_iff_getElem.mp h.ord
      rcases Nat.lt_trichotomy i j with g | g | g
      · have := cmp i j hi hj g
        rw [ei, ej] at this
        have : (b3 : Int) ≤ h1 := this
        omega
      · subst g
        rw [ei] at ej
        have : (h3 : Int) = h1 := by
          injection ej with _ ej
          injection ej
        omega
      · have := cmp j i hj hi g
        rw [ei, ej] at this
        have : (b1 : Int) ≤ h3 := this
        omega
    have s := h.stop _ hp' b3 rfl (by omega)
    obtain rfl : b3 = h1 := by omega
    exact s fh
  subst eh
  have eb : b2 = b1 := by
    rcases Nat.lt_trichotomy b2 b1 with g | g | g
    · have f1 := a3 b2 (by omega) g
      exact absurd f1 (k.stop _ hq b2 rfl (lt hU f1))
    · exact g
    · have f1 := c3 b1 (by omega) g
      exact absurd f1 (h.stop _ hp b1 rfl (lt hT f1))
  subst eb
  exact hq
theorem eq_of_ord {α : Type} {R : α → α → Prop} (asym : ∀ a b, R a b → R b a → False) : ∀ {l m : List α}, l.Pairwise R → m.Pairwise R → (∀ a, a ∈ l ↔ a ∈ m) → l = m
  | [], [], _, _, _ => rfl
  | [], b :: m, _, _, e => absurd ((e b).mpr List.mem_cons_self) (by simp)
  | a :: l, [], _, _, e => absurd ((e a).mp List.mem_cons_self) (by simp)
  | a :: l, b :: m, h, k, e => by
    have h := List.pairwise_cons.mp h
    have k := List.pairwise_cons.mp k
    have ab : a = b := by
      rcases List.mem_cons.mp ((e a).mp List.mem_cons_self) with q | q
      · exact q
      · rcases List.mem_cons.mp ((e b).mpr List.mem_cons_self) with r | r
        · exact r.symm
        · exact absurd (h.1 b r) fun z => asym _ _ z (k.1 a q)
    subst ab
    rw [eq_of_ord asym h.2 k.2 fun c => ⟨fun hc => ?_, fun hc => ?_⟩]
    · rcases List.mem_cons.mp ((e c).mp (List.mem_cons_of_mem _ hc)) with q | q
      · subst q
        exact absurd (h.1 c hc) fun z => asym _ _ z z
      · exact q
    · rcases List.mem_cons.mp ((e c).mpr (List.mem_cons_of_mem _ hc)) with q | q
      · subst q
        exact absurd (k.1 c hc) fun z => asym _ _ z z
      · exact q
theorem IsPcs.uniq (h : IsPcs f ps T) (k : IsPcs f qs U) (hT : ∀ t, T ≤ t → f t = none) (hU : ∀ t, U ≤ t → f t = none) : ps = qs := by
  have ord : ∀ {ps T}, IsPcs f ps T → ps.Pairwise fun p q => pH p < pH q := fun {ps T} h => h.ord.imp_of_mem fun {p q} hp hq le => by
    obtain ⟨x, h1, b1, rfl, a1, _⟩ := h.form p hp
    have le : (b1 : Int) ≤ pH q := le
    show (h1 : Int) < pH q
    omega
  exact eq_of_ord (fun a b z w => by omega) (ord h) (ord k) fun p => ⟨h.sub k hT hU p, k.sub h hU hT p⟩
end
end Bs

namespace Bs
open PySem PySem.Spec PyProof.Rows L2
open Evl (Ex)
/-! ### where the parted work stands at an hour -/
theorem lex_two {a b c d : Int} : HT.lexLt [a, b] [c, d] = decide (a < c ∨ (a = c ∧ b < d)) := by
  rw [HT.lexLt_cons, HT.lexLt_cons]
  by_cases e : a = c
  · rw [if_pos e]
    by_cases k : b = d
    · rw [if_pos k]
      show false = _
      exact (decide_eq_false (by omega)).symm
    · rw [if_neg k]
      exact decide_eq_decide.mpr (by omega)
  · rw [if_neg e]
    exact decide_eq_decide.mpr (by omega)
theorem lex_ahd {rows : List (List Int)} {x y : Int} : HT.lexLt [due_ rows y, y] [due_ rows x, x] = decide (¬ Ahd rows x y) := by
  rw [lex_two]
  unfold Ahd
  exact decide_eq_decide.mpr (by omega)
def Hst (rows : List (List Int)) (lf : List Int) (ps : List (List Int)) (hour : Int) : Prop :=
  ∃ N : Nat, hour = N ∧ lefts rows N = lf ∧ IsPcs (wkd rows) ps N ∧ ∀ p ∈ ps, pB p = N → wkd rows N ≠ some (pN p)
section
variable {rows : List (List Int)} {lf : List Int} {ps : List (List Int)} {hour : Int}
theorem IsPcs.le {f : Nat → Option Int} {T : Nat} (h : IsPcs f ps T) {p : List Int} (hp : p ∈ ps) : pB p ≤ T := by
  obtain ⟨x, h1, b1, rfl, _, a2, _⟩ := h.form p hp
  show (b1 : Int) ≤ T
  omega
theorem Hst.start {h : Int} (h0 : 0 ≤ h) (hm : ∀ x : Int, 0 ≤ x → x < rows.length → h ≤ frm_ rows x) : Hst rows (rows.map fun r => r.getD 0 0) [] h := by
  obtain ⟨N, rfl⟩ : ∃ N : Nat, h = (N : Int) := ⟨_, (Int.toNat_of_nonneg h0).symm⟩
  have id := wkd_idle (rows := rows) (t := 0) rfl N fun y y0 y1 _ => hm y y0 y1
  refine ⟨N, rfl, ?_, IsPcs.start.idle (fun p hp => nomatch hp) (Nat.zero_le _) fun t _ ht => ?_, fun p hp => nomatch hp⟩
  · have := (id N (by omega)).1
    rwa [Nat.zero_add] at this
  · have := (id t (by omega)).2 (by omega)
    rwa [Nat.zero_add] at this
theorem Hst.idle {h' : Int} (s : Hst rows lf ps hour) (hh : hour < h') (all : ∀ x : Int, 0 ≤ x → x < rows.length → 0 < lfA lf x → h' ≤ frm_ rows x) : Hst rows lf ps h' := by
  obtain ⟨N, rfl, e, pc, en⟩ := s
  obtain ⟨M, rfl⟩ : ∃ M : Nat, h' = (M : Int) := ⟨_, (Int.toNat_of_nonneg (by omega)).symm⟩
  have id := wkd_idle e M all
  have none_ : ∀ t, N ≤ t → t < M → wkd rows t = none := fun t t1 t2 => by
    have := (id (t - N) (by omega)).2 (by omega)
    rwa [show N + (t - N) = t by omega] at this
  refine ⟨M, rfl, ?_, pc.idle en (by omega) none_, fun p hp eb => ?_⟩
  · have := (id (M - N) (by omega)).1
    rwa [show N + (M - N) = M by omega] at this
  · have := pc.le hp
    omega
theorem Hst.step {b x0 : Int} (s : Hst rows lf ps hour) (a0 : 0 ≤ x0) (a1 : x0 < rows.length) (fr : frm_ rows x0 ≤ hour) (hb : hour < b) (lb : b - hour ≤ lfA lf x0)
    (first : ∀ y : Int, 0 ≤ y → y < rows.length → 0 < lfA lf y → frm_ rows y ≤ hour → Ahd rows x0 y) (leave : ∀ y : Int, 0 ≤ y → y < rows.length → hour < frm_ rows y → ¬ Ahd rows x0 y → b ≤ frm_ rows y)
    (cut : b - hour = lfA lf x0 ∨ ∃ y : Int, (0 ≤ y ∧ y < rows.length) ∧ frm_ rows y = b ∧ ¬ Ahd rows x0 y ∧ 0 < lfA lf y) : Hst rows (lf.set x0.toNat (lfA lf x0 - (b - hour))) (ps ++ [[x0, hour, b]]) b := by
  obtain ⟨N, rfl, e, pc, en⟩ := s
  obtain ⟨M, rfl⟩ : ∃ M : Nat, b = (M : Int) := ⟨_, (Int.toNat_of_nonneg (by omega)).symm⟩
  have ll : lf.length = rows.length := by rw [← e]; exact lefts_len rows N
  have run := wkd_run e a0 a1 fr M lb first leave
  have some_ : ∀ t, N ≤ t → t < M → wkd rows t = some x0 := fun t t1 t2 => by
    have := (run (t - N) (by omega)).2 (by omega)
    rwa [show N + (t - N) = t by omega] at this
  have el : lefts rows M = lf.set x0.toNat (lfA lf x0 - ((M : Int) - N)) := by
    have := (run (M - N) (by omega)).1
    rw [show N + (M - N) = M by omega] at this
    rw [this]
    congr 1
    omega
  refine ⟨M, rfl, el, pc.step en (by omega) some_, fun p hp eb => ?_⟩
  rcases List.mem_append.mp hp with hp | hp
  · have := pc.le hp
    omega
  · rw [List.mem_singleton.mp hp]
    show wkd rows M ≠ some x0
    intro k
    obtain ⟨_, h1, _⟩ := wkd_bd k
    rw [el] at h1
    have h2 := h1
    rw [lfA_set a0 (by omega) a0, if_pos rfl] at h1
    rcases cut with c | ⟨y, ⟨y0, y1⟩, fy, no, ly⟩
    · omega
    · have ne : y ≠ x0 := by
        rintro rfl
        apply no
        unfold Ahd
        omega
      refine no ((leastK_some k).2 y (avL_mem.mpr ⟨⟨y0, y1⟩, ?_, by omega⟩))
      rw [el, lfA_set a0 (by omega) y0, if_neg ne]
      exact ly
theorem Stp.fresh (ok : Rows4 rows) (s : Stp rows lf ps hour) {y : Int} (y0 : 0 ≤ y) (y1 : y < rows.length) (h : hour < frm_ rows y) : 0 < lfA lf y := by
  have w := s.wk y y0 y1
  have l := (ok.at y0 y1).2.1
  have no : ∀ p ∈ ps, pN p ≠ y := fun p hp e => by
    obtain ⟨x, h1, b1, rfl, q1, q2, q3, q4, q5⟩ := s.pc p hp
    obtain rfl : x = y := e
    omega
  have : wrk ps y = 0 := by
    clear w s
    unfold wrk
    induction ps with
    | nil => rfl
    | cons p ps ih =>
      rw [List.map_cons, List.sum_cons, if_neg (no p List.mem_cons_self), ih fun q hq => no q (List.mem_cons_of_mem _ hq)]
      rfl
  omega
end
end Bs

set_option maxHeartbeats 4000000
set_option hygiene false
local macro_rules | `(tactic| walk_at "ne") => `(tactic| first
  | assumption
  | (refine Ne.symm ?_; assumption)
  | (refine' ne_fresh (by assumption) ?_; walk_at "hp")
  | (refine' ne_fresh' (by assumption) ?_; walk_at "hp")
  | exact ne_of (by assumption) (by assumption) (by intro z; cases z))
local macro_rules | `(tactic| walk_at "hp") => `(tactic| first
  | assumption
  | exact upd_same
  | (refine' fresh_at (by assumption) ?_; walk_at "hp")
  | (refine' upd_at ?ne ?_; (case ne => walk_at "ne"); walk_at "hp")
  | (refine' ex_at (by assumption) ?_; walk_at "hp")
  | (refine' but_at (by assumption) ?ne ?_; (case ne => walk_at "ne"); walk_at "hp"))
local macro_rules | `(tactic| walk_at "ex") => `(tactic| first
  | assumption
  | exact Ex.refl _
  | (refine' ex_new ?_ (by assumption); walk_at "ex")
  | (refine' ex_tr (by assumption) ?_; walk_at "ex")
  | (refine' ex_mut ?_ ?n; (case n => assumption); walk_at "ex"))
local macro_rules | `(tactic| walk_at "ts") => `(tactic| first
  | assumption
  | (refine' ts_new (by assumption) ?_; walk_at "ts")
  | (refine' ts_ex (by assumption) ?_; walk_at "ts"))
local macro_rules | `(tactic| walk_at "sq") => `(tactic| first
  | assumption
  | exact ex_s (by walk_at "ex") (by assumption))
local macro_rules | `(tactic| walk_at "side") => `(tactic| first
  | exact mulBd (by omega) (by omega) (by omega) (by omega)
  | exact divBd (by omega) (by omega)
  | exact ⟨by decide, by decide, by decide⟩
  | (show (0 : Int) < _; omega))
local macro_rules | `(tactic| walk_at "s") => `(tactic| first
  | (with_reducible refine' q_seq ?_)
  | (with_reducible refine' q_asg ?_)
  | ((with_reducible refine' q_g ?e ?_); (case e => (simp only [List.set_cons_zero, List.set_cons_succ]; rfl)))
  | ((with_reducible refine' q_var ?e ?_); (case e => exact rfl))
  | (with_reducible refine' q_c ?_)
  | (with_reducible refine' q_op ?_)
  | (with_reducible refine' q_i0 ?_)
  | ((with_reducible refine' q_ii ?c ?_); (case c => walk_at "side"))
  | (with_reducible refine' q_add ?_)
  | (with_reducible refine' q_sub ?_)
  | (with_reducible refine' q_cons ?_)
  | (with_reducible refine' q_nil ?_)
  | (with_reducible refine' q_cb ?_)
  | (with_reducible refine' q_call ?_)
  | (with_reducible refine' q_ex ?_)
  | (with_reducible refine' q_exi ?_)
  | (with_reducible refine' q_tst ?_)
  | (with_reducible refine' q_tB ?_)
  | (with_reducible refine' q_ifS ?_)
  | (with_reducible refine' q_if ?_)
  | (with_reducible refine' q_ifT ?_)
  | (with_reducible refine' q_ifF ?_)
  | (with_reducible refine' q_ifNT ?_)
  | (with_reducible refine' q_ifNF ?_)
  | (with_reducible refine' q_ifNN ?_)
  | ((with_reducible refine' q_ifDT ?c ?_); (case c => first | rfl | omega))
  | ((with_reducible refine' q_ifDF ?c ?_); (case c => omega))
  | ((with_reducible refine' q_ifNDT ?c ?_); (case c => omega))
  | ((with_reducible refine' q_ifNDF ?c ?_); (case c => first | rfl | omega))
  | ((with_reducible refine' q_ixL ?h ?e ?_); (case h => walk_at "hp"); (case e => exact rfl))
  | ((with_reducible refine' q_ixT ?h ?e ?_); (case h => walk_at "hp"); (case e => exact rfl))
  | ((with_reducible refine' q_lenL ?h ?_); (case h => walk_at "hp"))
  | ((with_reducible refine' q_lenT ?h ?_); (case h => walk_at "hp"))
  | ((with_reducible refine' q_lenS ?h ?_); (case h => first | assumption | exact ex_s (by assumption) (by assumption)))
  | ((with_reducible refine' q_setL ?h ?e ?_); (case h => walk_at "hp"); (case e => exact rfl))
  | (with_reducible refine' q_gsub ?_)
  | (with_reducible refine' q_ret ?_)
  | (with_reducible refine' q_retN ?_)
  | (with_reducible refine' q_drop ?_)
  | (with_reducible refine' q_next ?_)
  | (with_reducible refine' q_cont ?_)
  | (with_reducible refine' q_break ?_)
  | ((with_reducible refine' q_aug ?e ?_); (case e => exact rfl))
  | ((with_reducible refine' q_set ?e ?_); (case e => (simp only [List.set_cons_zero, List.set_cons_succ]; rfl)))
  | (with_reducible refine' q_ipI ?_)
  | (with_reducible refine' q_chain ?_)
  | (with_reducible refine' q_chain3 ?_)
  | (with_reducible refine' q_and ?_)
  | (with_reducible refine' q_or ?_)
  | (with_reducible refine' q_not ?_)
  | (with_reducible refine' q_andV ?_)
  | (with_reducible refine' q_orV ?_)
  | (with_reducible refine' q_notV ?_)
  | (with_reducible refine' q_yes ?_)
  | (with_reducible refine' q_eqI ?_)
  | (with_reducible refine' q_neI ?_)
  | (with_reducible refine' q_eqS ?_)
  | (with_reducible refine' q_neS ?_)
  | (with_reducible refine' q_isN ?_)
  | (with_reducible refine' q_notN ?_)
  | (with_reducible refine' q_max2 ?_)
  | (with_reducible refine' q_min2 ?_)
  | (with_reducible refine' q_un ?_)
  | (with_reducible refine' q_u ?_)
  | (with_reducible refine' q_tup ?_)
  | (with_reducible refine' q_lst ?_)
  | ((with_reducible refine' q_made ?s ?_); (case s => simp); intro _ _)
  | ((with_reducible refine' q_callL ?e ?_); (case e => exact rfl))
  | (with_reducible refine' q_turnE ?_)
  | (with_reducible refine' q_bm ?_)
  | (with_reducible refine' q_bm0 ?_)
  | ((with_reducible refine' q_tyL ?h ?_); (case h => walk_at "hp"))
  | ((with_reducible refine' q_append ?h ?s ?_); (case h => walk_at "hp"); (case s => first | omega | (simp; done) | (simp; omega)))
  | ((with_reducible refine' q_listL ?h ?_); (case h => walk_at "hp"); intro _ _)
  | ((with_reducible refine' q_listT ?h ?_); (case h => walk_at "hp"); intro _ _)
  | ((with_reducible refine' q_sum ?h ?_); (case h => walk_at "hp"))
  | (with_reducible refine' q_sl ?_)
  | (with_reducible refine' q_noPart ?_)
  | (with_reducible refine' q_part ?_)
  | ((with_reducible refine' q_slL ?h ?_); (case h => walk_at "hp"); intro _ _)
  | (with_reducible refine' q_gcons ?_)
  | (with_reducible refine' q_gnil ?_)
  | ((with_reducible refine' q_gtup ?h ?l ?_); (case h => walk_at "hp"); (case l => rfl))
  | (with_reducible refine' q_for ?_)
  | (with_reducible refine' q_iList ?_)
  | (with_reducible refine' q_iTup ?_)
  | (with_reducible refine' q_iRng ?_)
  | ((with_reducible refine' q_rng ?h ?_); (case h => exact ⟨by omega, by omega⟩))
  | (with_reducible refine' q_iEnum ?_)
  | ((with_reducible refine' q_enum ?h ?_); (case h => walk_at "hp"))
  | (with_reducible refine' q_iZip ?_)
  | ((with_reducible refine' q_zip ?h ?h2 ?_); (case h => walk_at "hp"); (case h2 => walk_at "hp"))
  | ((with_reducible refine' q_isL ?h ?_); (case h => walk_at "hp"))
  | ((with_reducible refine' q_isT ?h ?_); (case h => walk_at "hp"))
  | ((with_reducible refine' q_lc ?e ?_); (case e => (simp only [wipe, List.map_cons, List.map_nil, List.set_cons_zero, List.set_cons_succ]; rfl)))
  | (with_reducible refine' q_turn ?_)
  | ((with_reducible refine' q_wiped ?e ?_); (case e => exact rfl))
  | ((with_reducible refine' q_push ?h ?s ?_); (case h => walk_at "hp"); (case s => first | omega | (simp; done) | (simp; omega)))
  | (with_reducible refine' q_isiI ?_)
  | (with_reducible refine' q_isiB ?_)
  | ((with_reducible refine' q_isiL ?h ?_); (case h => walk_at "hp"))
  | ((with_reducible refine' q_isiT ?h ?_); (case h => walk_at "hp"))
  | ((with_reducible refine' q_tupleL ?h ?_); (case h => walk_at "hp"); intro _ _)
  | ((with_reducible refine' q_catL ?h ?h2 ?s ?_); (case h => walk_at "hp"); (case h2 => walk_at "hp"); (case s => first | omega | (simp; done) | (simp; omega)); intro _ _)
  | ((with_reducible refine' q_inI ?h ?_); (case h => walk_at "hp"))
  | ((with_reducible refine' q_niI ?h ?_); (case h => walk_at "hp"))
  | ((with_reducible refine' q_niIT ?h ?_); (case h => walk_at "hp"))
  | ((with_reducible refine' q_dnew ?_); intro _ _)
  | (with_reducible refine' q_dget ?_)
  | (with_reducible refine' q_dput ?_)
  | ((with_reducible refine' q_dputI ?h ?s ?_); (case h => walk_at "hp"); (case s => omega))
  | ((with_reducible refine' q_range1 ?_); intro _ _)
  | ((with_reducible refine' q_listRng ?h ?s ?_); (case h => walk_at "hp"); (case s => omega); intro _ _)
  | ((with_reducible refine' q_minT2 ?h ?_); (case h => walk_at "hp"))
  | (with_reducible refine' q_int1b ?_)
  | (with_reducible refine' q_int1i ?_)
  | (with_reducible refine' q_orT ?_)
  | ((with_reducible refine' q_truT ?h ?_); (case h => walk_at "hp"))
  | ((with_reducible refine' q_truL ?h ?_); (case h => walk_at "hp"))
  | ((with_reducible refine' q_niS ?h ?_); (case h => walk_at "hp"))
  | (with_reducible refine' q_iZipA ?_)
  | ((with_reducible refine' q_zipT ?h ?h2 ?_); (case h => walk_at "hp"); (case h2 => walk_at "hp"))
  | fail "no step")
local macro_rules | `(tactic| walk_at "go") => `(tactic| repeat walk_at "s")

namespace Bk33
open PySem PySem.Spec PyProof.Rows L2 Bs
open Evl (Ex)
def topS (i : Nat) : Stmt := PySem.Challenge.pw_boundsmith_k33_parted_hour_by_hour.main.body.getD i (.Pass ⟨0, 0, 0, 0⟩)
abbrev s_is_whole : Stmt := topS 1
abbrev N_is_whole : List Str := ["thing"]
theorem sc_is_whole : FnScope N_is_whole ["thing"] (defScope s_is_whole) := ⟨rfl, rfl, rfl, by decide +kernel, rfl, by decide +kernel, by decide +kernel⟩
abbrev s_is_among : Stmt := topS 2
abbrev N_is_among : List Str := ["thing", "least", "most"]
theorem sc_is_among : FnScope N_is_among ["thing", "least", "most"] (defScope s_is_among) := ⟨rfl, rfl, rfl, by decide +kernel, rfl, by decide +kernel, by decide +kernel⟩
abbrev s_is_row : Stmt := topS 7
abbrev N_is_row : List Str := ["thing", "many"]
theorem sc_is_row : FnScope N_is_row ["thing", "many"] (defScope s_is_row) := ⟨rfl, rfl, rfl, by decide +kernel, rfl, by decide +kernel, by decide +kernel⟩
abbrev s_need_rows : Stmt := topS 13
abbrev N_need_rows : List Str := ["thing", "is_one", "row"]
theorem sc_need_rows : FnScope N_need_rows ["thing", "is_one"] (defScope s_need_rows) := ⟨rfl, rfl, rfl, by decide +kernel, rfl, by decide +kernel, by decide +kernel⟩
abbrev s_is_machine_row : Stmt := topS 19
abbrev N_is_machine_row : List Str := ["thing"]
theorem sc_is_machine_row : FnScope N_is_machine_row ["thing"] (defScope s_is_machine_row) := ⟨rfl, rfl, rfl, by decide +kernel, rfl, by decide +kernel, by decide +kernel⟩
abbrev s_pieces_of : Stmt := topS 20
abbrev N_pieces_of : List Str := ["rows", "left", "pieces", "hour", "waiting", "coming", "due", "number", "leaving", "behind", "row", "other", "rival", "start"]
theorem sc_pieces_of : FnScope N_pieces_of ["rows"] (defScope s_pieces_of) := ⟨rfl, rfl, rfl, by decide +kernel, rfl, by decide +kernel, by decide +kernel⟩
abbrev s_parted_bound : Stmt := topS 21
abbrev N_parted_bound : List Str := ["rows", "some", "start", "due", "number"]
theorem sc_parted_bound : FnScope N_parted_bound ["rows", "some"] (defScope s_parted_bound) := ⟨rfl, rfl, rfl, by decide +kernel, rfl, by decide +kernel, by decide +kernel⟩
abbrev s_parted_set : Stmt := topS 22
abbrev N_parted_set : List Str := ["rows", "late", "told", "start", "due", "row", "number", "some"]
theorem sc_parted_set : FnScope N_parted_set ["rows", "late"] (defScope s_parted_set) := ⟨rfl, rfl, rfl, by decide +kernel, rfl, by decide +kernel, by decide +kernel⟩
abbrev s_parted : Stmt := topS 23
abbrev N_parted : List Str := ["rows", "pieces", "late", "_", "behind", "number"]
theorem sc_parted : FnScope N_parted ["rows"] (defScope s_parted) := ⟨rfl, rfl, rfl, by decide +kernel, rfl, by decide +kernel, by decide +kernel⟩
abbrev s__law_mixed : Stmt := topS 25
abbrev N__law_mixed : List Str := ["cell", "k", "number"]
theorem sc__law_mixed : FnScope N__law_mixed ["cell", "k"] (defScope s__law_mixed) := ⟨rfl, rfl, rfl, by decide +kernel, rfl, by decide +kernel, by decide +kernel⟩
abbrev s__law_draw : Stmt := topS 26
abbrev N__law_draw : List Str := ["script", "k", "cell", "own", "turn"]
theorem sc__law_draw : FnScope N__law_draw ["script", "k"] (defScope s__law_draw) := ⟨rfl, rfl, rfl, by decide +kernel, rfl, by decide +kernel, by decide +kernel⟩
abbrev s__law_next : Stmt := topS 27
abbrev N__law_next : List Str := ["draw", "many", "found", "number"]
theorem sc__law_next : FnScope N__law_next ["draw", "many"] (defScope s__law_next) := ⟨rfl, rfl, rfl, by decide +kernel, rfl, by decide +kernel, by decide +kernel⟩
abbrev s__law_whole : Stmt := topS 28
abbrev N__law_whole : List Str := ["thing"]
theorem sc__law_whole : FnScope N__law_whole ["thing"] (defScope s__law_whole) := ⟨rfl, rfl, rfl, by decide +kernel, rfl, by decide +kernel, by decide +kernel⟩
abbrev s__law_is_set : Stmt := topS 29
abbrev N__law_is_set : List Str := ["found", "many", "one"]
theorem sc__law_is_set : FnScope N__law_is_set ["found", "many"] (defScope s__law_is_set) := ⟨rfl, rfl, rfl, by decide +kernel, rfl, by decide +kernel, by decide +kernel⟩
abbrev s__law_near_rows : Stmt := topS 30
abbrev N__law_near_rows : List Str := ["script", "k", "most", "draw", "found", "j", "own", "length", "first", "due"]
theorem sc__law_near_rows : FnScope N__law_near_rows ["script", "k", "most"] (defScope s__law_near_rows) := ⟨rfl, rfl, rfl, by decide +kernel, rfl, by decide +kernel, by decide +kernel⟩
abbrev s__law_worked : Stmt := topS 31
abbrev N__law_worked : List Str := ["rows", "left", "found", "some", "row", "number"]
theorem sc__law_worked : FnScope N__law_worked ["rows"] (defScope s__law_worked) := ⟨rfl, rfl, rfl, by decide +kernel, rfl, by decide +kernel, by decide +kernel⟩
abbrev s__law_pieces : Stmt := topS 32
abbrev N__law_pieces : List Str := ["worked", "found", "hour", "number"]
theorem sc__law_pieces : FnScope N__law_pieces ["worked"] (defScope s__law_pieces) := ⟨rfl, rfl, rfl, by decide +kernel, rfl, by decide +kernel, by decide +kernel⟩
abbrev s_law : Stmt := topS 33
abbrev N_law : List Str := ["script", "k", "rows", "handed", "worked", "pieces", "ends", "due", "kept", "far", "later", "turn", "found", "own", "number", "piece", "end", "row", "due_at", "first", "length", "weight", "behind", "one"]
theorem sc_law : FnScope N_law ["script"] (defScope s_law) := ⟨rfl, rfl, rfl, by decide +kernel, rfl, by decide +kernel, by decide +kernel⟩
/-- what the top has left -/
structure Tx (K : PySem.W.Frag) (mg : Str → Option Value) : Prop where
  c_LAST_HOUR : ∃ u, mg "LAST_HOUR" = some u ∧ RelV (.int 1000000) u
  c_MOST_LENGTH : ∃ u, mg "MOST_LENGTH" = some u ∧ RelV (.int 1000) u
  c_MOST_WEIGHT : ∃ u, mg "MOST_WEIGHT" = some u ∧ RelV (.int 1000) u
  c_MOST_ROWS : ∃ u, mg "MOST_ROWS" = some u ∧ RelV (.int 30) u
  c_LENGTH : ∃ u, mg "LENGTH" = some u ∧ RelV (.int 0) u
  c_FROM : ∃ u, mg "FROM" = some u ∧ RelV (.int 1) u
  c_BY : ∃ u, mg "BY" = some u ∧ RelV (.int 2) u
  c_WEIGHT : ∃ u, mg "WEIGHT" = some u ∧ RelV (.int 3) u
  b_isinstance : mg "isinstance" = none
  b_int : mg "int" = none
  b_bool : mg "bool" = none
  b_tuple : mg "tuple" = none
  b_len : mg "len" = none
  b_all : mg "all" = none
  b_list : mg "list" = none
  b_min : mg "min" = none
  b_any : mg "any" = none
  b_enumerate : mg "enumerate" = none
  b_max : mg "max" = none
  b_sum : mg "sum" = none
  b_sorted : mg "sorted" = none
  b_range : mg "range" = none
  b_set : mg "set" = none
  b_zip : mg "zip" = none
  d_is_whole : Dfn K mg "is_whole" s_is_whole ["thing"]
  d_is_among : Dfn K mg "is_among" s_is_among ["thing", "least", "most"]
  d_is_row : Dfn K mg "is_row" s_is_row ["thing", "many"]
  d_need_rows : Dfn K mg "need_rows" s_need_rows ["thing", "is_one"]
  d_is_machine_row : Dfn K mg "is_machine_row" s_is_machine_row ["thing"]
  d_pieces_of : Dfn K mg "pieces_of" s_pieces_of ["rows"]
  d_parted_bound : Dfn K mg "parted_bound" s_parted_bound ["rows", "some"]
  d_parted_set : Dfn K mg "parted_set" s_parted_set ["rows", "late"]
  d_parted : Dfn K mg "parted" s_parted ["rows"]
  d__law_mixed : Dfn K mg "_law_mixed" s__law_mixed ["cell", "k"]
  d__law_draw : Dfn K mg "_law_draw" s__law_draw ["script", "k"]
  d__law_next : Dfn K mg "_law_next" s__law_next ["draw", "many"]
  d__law_whole : Dfn K mg "_law_whole" s__law_whole ["thing"]
  d__law_is_set : Dfn K mg "_law_is_set" s__law_is_set ["found", "many"]
  d__law_near_rows : Dfn K mg "_law_near_rows" s__law_near_rows ["script", "k", "most"]
  d__law_worked : Dfn K mg "_law_worked" s__law_worked ["rows"]
  d__law_pieces : Dfn K mg "_law_pieces" s__law_pieces ["worked"]
  d_law : Dfn K mg "law" s_law ["script"]

section
variable {P : Program} {w : World} {K : PySem.W.Frag} {mg : Str → Option Value} {base : Heap}
/-- a draw at d: its counter c -/
def Drw (H : Hp) (d : Addr) (c : Int) : Prop := ∃ cell own : Int, H d = some (.lst [.int cell, .int c, .int own]) ∧ 0 ≤ own ∧ 0 ≤ c
theorem Drw.some {H : Hp} {d : Addr} {c : Int} (h : Drw H d c) : ∃ o, H d = some o := by
  obtain ⟨_, _, e, _⟩ := h
  exact ⟨_, e⟩
theorem Drw.ex {H H' : Hp} {d : Addr} {c : Int} (h : Drw H d c) (e : Ex H H') : Drw H' d c := by
  obtain ⟨a, b, h1, h2⟩ := h
  exact ⟨a, b, e _ _ h1, h2⟩
theorem Drw.ne {H : Hp} {d p : Addr} {c : Int} (h : Drw H d c) (n : H p = none) : d ≠ p := by
  obtain ⟨a, b, h1, _⟩ := h
  exact ne_of_none h1 n
theorem Drw.upd {H : Hp} {d p : Addr} {c : Int} {o : HO} (h : Drw H d c) (n : d ≠ p) : Drw (upd H p o) d c := by
  obtain ⟨a, b, h1, h2⟩ := h
  exact ⟨a, b, by rw [upd_ne n]; exact h1, h2⟩
theorem Drw.pos {H : Hp} {d : Addr} {c : Int} (h : Drw H d c) : 0 ≤ c := by
  obtain ⟨_, _, _, _, h⟩ := h
  exact h
def spMixed : Sp := fun vs H Q _ => ∃ cell k : Int, vs = [.int cell, .int k] ∧ 0 ≤ k ∧ k ≤ 10 ^ 12 ∧ ∀ r : Int, 0 ≤ r → r < 2147483629 → Q (.int r) H
theorem ok__law_mixed (T : Tx K mg) : Cal P w K mg base 1 "_law_mixed" ["cell", "k"] spMixed := by
  refine T.d__law_mixed.cal sc__law_mixed (fun vs H Q E h => ?_) (fun f cdv A outer s H vs Q E hr h => ?_)
  · obtain ⟨x, n, rfl, _⟩ := h
    rfl
  · obtain ⟨cell, k, rfl, k0, k1, q⟩ := h
    refine ⟨_, (pss_cons (ps_set (i := 2) sc__law_mixed.nd rfl (.inl rfl) (pe_op op_mod (pe_op op_mulX (pe_op op_add (pe_op op_add (pe_op op_mod (pv 0) pe_int) (pe_op op_mulX (pe_op op_mulX pe_int (pv 1)) (pv 1))) pe_int) pe_int) pe_int))
    (pss_one (ps_ret (pe_op op_mod (pe_op op_mulX (pv 2) (pe_op op_add pe_int (pe_op op_mulX pe_int (pv 1)))) pe_int)))), ?_⟩
    have kk : 31 * k * k ≤ 31 * 10 ^ 12 * 10 ^ 12 := Int.mul_le_mul (by omega) k1 k0 (by omega)
    have kk0 : 0 ≤ 31 * k * k := Int.mul_nonneg (by omega) k0
    refine ⟨.int cell, rfl, cell, 1000000007, rfl, rfl, (show (0 : Int) < 1000000007 by decide), .int k, rfl, 31, k, rfl, rfl, mulBd (by decide) (by decide) (by omega) (by omega), .int k, rfl, 31 * k, k, rfl, rfl, mulBd (by omega) (by omega) (by omega) (by omega), _, _, rfl, rfl,
      _, 7, rfl, rfl, _, 48271, rfl, rfl, mulBd (by omega) (by omega) (by decide) (by decide), _, 2147483647, rfl, rfl, (show (0 : Int) < 2147483647 by decide), ?_⟩
    have h1 : 0 ≤ (cell % 1000000007 + 31 * k * k + 7) * 48271 % 2147483647 := Int.emod_nonneg _ (by decide)
    have h2 : (cell % 1000000007 + 31 * k * k + 7) * 48271 % 2147483647 < 2147483647 := Int.emod_lt_of_pos _ (by decide)
    refine ⟨_, rfl, .int k, rfl, 7919, k, rfl, rfl, mulBd (by decide) (by decide) (by omega) (by omega), 16807, _, rfl, rfl, (cell % 1000000007 + 31 * k * k + 7) * 48271 % 2147483647, 16807 + 7919 * k, rfl, rfl, mulBd (by omega) (by omega) (by omega) (by omega), _, 2147483629, rfl, rfl, (show (0 : Int) < 2147483629 by decide), ?_⟩
    exact q _ (Int.emod_nonneg _ (by decide)) (Int.emod_lt_of_pos _ (by decide))
def spNext : Sp := fun vs H Q _ => ∃ (d : Addr) (many c : Int), vs = [.ref d, .int many] ∧ Drw H d c ∧ 0 < many ∧ many ≤ 10 ^ 18 ∧ c ≤ 10 ^ 11 ∧
  ∀ (n c' : Int) (H' : Hp), 0 ≤ n → n < many → c ≤ c' → c' ≤ c + 1 → But d H H' → Drw H' d c' → Q (.int n) H'
theorem ok__law_next (T : Tx K mg) : Cal P w K mg base 2 "_law_next" ["draw", "many"] spNext := by
  have G__law_mixed : Cal P w K mg base 1 "_law_mixed" ["cell", "k"] spMixed := ok__law_mixed T
  refine T.d__law_next.cal sc__law_next (fun vs H Q E h => ?_) (fun f cdv A outer s H vs Q E hr h => ?_)
  · obtain ⟨x, n, c, rfl, _⟩ := h
    rfl
  · obtain ⟨d, many, c, rfl, ⟨cell, own, hd, o0, c0⟩, m0, m1, c1, q⟩ := h
    refine ⟨_, (pss_cons (ps_if (pt_cmpR op_gt (pe_ix (ixL (K := K)) (pv 0) pe_int (fun _ _ => rfl)) pe_int (nomark _)) (pss_cons (ps_set (i := 2) sc__law_next.nd rfl (.inl rfl) (pe_op op_mod (pe_ix (ixL (K := K)) (pv 0) pe_int (fun _ _ => rfl)) (pv 1)))
    (pss_cons (ps_asg (pe_op op_fdivW (pe_ix (ixL (K := K)) (pv 0) pe_int (fun _ _ => rfl)) (pv 1)) (pg_sub (pv 0) pe_int set_list))
    (pss_one (ps_ret (pv 2))))) pss_nil)
    (pss_cons (ps_asg (pe_op op_add (pe_ix (ixL (K := K)) (pv 0) pe_int (fun _ _ => rfl)) pe_int) (pg_sub (pv 0) pe_int set_list))
    (pss_cons (ps_set (i := 3) sc__law_next.nd rfl (.inl rfl) (pe_op op_add (pe_op op_mulX (pe_cal G__law_mixed hr (by rfl) (pa_cons (pe_ix (ixL (K := K)) (pv 0) pe_int (fun _ _ => rfl)) (pa_cons (pe_ix (ixL (K := K)) (pv 0) pe_int (fun _ _ => rfl)) pa_nil))) pe_int) (pe_cal G__law_mixed hr (by rfl) (pa_cons (pe_ix (ixL (K := K)) (pv 0) pe_int (fun _ _ => rfl)) (pa_cons (pe_op op_add (pe_ix (ixL (K := K)) (pv 0) pe_int (fun _ _ => rfl)) pe_int) pa_nil)))))
    (pss_one (ps_ret (pe_op op_mod (pe_op op_fdivW (pv 3) pe_int) (pv 1))))))), ?_⟩
    refine ⟨.ref d, rfl, d, _, 2, .int own, rfl, rfl, SqL.of hd, rfl, own, 0, rfl, rfl, _, rfl, ite2 (fun e => ?_) (fun e => ?_)⟩
    · refine ⟨.ref d, rfl, d, _, 2, .int own, rfl, rfl, SqL.of hd, rfl, .int many, rfl, own, many, rfl, rfl, m0, ?_⟩
      refine ⟨.ref d, rfl, d, _, 2, .int own, rfl, rfl, SqL.of hd, rfl, .int many, rfl, own, many, rfl, rfl, divBd m0 (by omega), .ref d, rfl, d, _, 2, 2, rfl, rfl, hd, rfl, ?_⟩
      refine ⟨_, rfl, ?_⟩
      exact q _ c _ (Int.emod_nonneg _ (by omega)) (Int.emod_lt_of_pos _ m0) (Int.le_refl _) (by omega) But.self ⟨cell, own / many, upd_same, Int.ediv_nonneg o0 (by omega), c0⟩
    · refine ⟨.ref d, rfl, d, _, 1, .int c, rfl, rfl, SqL.of hd, rfl, c, 1, rfl, rfl, .ref d, rfl, d, _, 1, 1, rfl, rfl, hd, rfl, ?_⟩
      have hd1 : (L2.upd H d (.lst [.int cell, .int (c + 1), .int own])) d = some (.lst [.int cell, .int (c + 1), .int own]) := upd_same
      refine ⟨.ref d, rfl, d, _, 0, .int cell, rfl, rfl, SqL.of hd1, rfl, .ref d, rfl, d, _, 1, .int (c + 1), rfl, rfl, SqL.of hd1, rfl, cell, c + 1, rfl, by omega, by omega, fun r r0 r1 => ?_⟩
      refine ⟨r, 2147483629, rfl, rfl, mulBd (by omega) (by omega) (by decide) (by decide), ?_⟩
      refine ⟨.ref d, rfl, d, _, 0, .int cell, rfl, rfl, SqL.of hd1, rfl, .ref d, rfl, d, _, 1, .int (c + 1), rfl, rfl, SqL.of hd1, rfl, c + 1, 9001, rfl, rfl, cell, c + 1 + 9001, rfl, by omega, by omega, fun r' _ _ => ?_⟩
      refine ⟨_, _, rfl, rfl, ?_⟩
      refine ⟨_, rfl, _, 11, rfl, rfl, divBd (by decide) (by decide), .int many, rfl, _, many, rfl, rfl, m0, ?_⟩
      exact q _ (c + 1) _ (Int.emod_nonneg _ (by omega)) (Int.emod_lt_of_pos _ m0) (by omega) (Int.le_refl _) But.self ⟨cell, own, hd1, o0, by omega⟩
theorem le_max1 (j : Int) : 1 ≤ (if j > 1 then j else 1) := by split <;> omega
theorem div_in {k m : Int} (k0 : 0 ≤ k) (k1 : k ≤ 10 ^ 6) (hm : 1 ≤ m) : -(2 ^ 62) ≤ k / m ∧ k / m < 2 ^ 62 := by
  have h1 := Int.ediv_nonneg k0 (show 0 ≤ m by omega)
  have h2 := Int.ediv_le_self m k0
  omega
def spDraw (K : PySem.W.Frag) : Sp := fun vs H Q _ => ∃ (a : Addr) (ns : List Int) (k : Int), vs = [.ref a, .int k] ∧ SqL K H a (ns.map V.int) ∧ ns.length ≤ 63 ∧ 0 ≤ k ∧ k ≤ 10 ^ 6 ∧
  ∀ (d : Addr) (H' : Hp), Ex H H' → H d = none → Drw H' d (64 * k) → Q (.ref d) H'
theorem ok__law_draw (T : Tx K mg) : Cal P w K mg base 1 "_law_draw" ["script", "k"] (spDraw K) := by
  refine T.d__law_draw.cal sc__law_draw (fun vs H Q E h => ?_) (fun f cdv A outer s H vs Q E hr h => ?_)
  · obtain ⟨x, n, c, rfl, _⟩ := h
    rfl
  · obtain ⟨a, ns, k, rfl, hS, hl, k0, k1, q⟩ := h
    refine ⟨_, (pss_cons (ps_set (i := 2) sc__law_draw.nd rfl (.inl rfl) (pe_ifExp (pt_cmpR (neDK (K := K) hr.units) (pv 0) (pe_lst pa_nil) (nomark _)) (pe_ix (ixL (K := K)) (pv 0) (pe_op op_mod (pv 1) (pe_callB (lenK (K := K)) (by rfl) T.b_len (by decide +kernel) (pa_cons (pv 0) pa_nil))) (fun _ _ => rfl)) pe_int))
    (pss_cons (ps_set (i := 3) sc__law_draw.nd rfl (.inl rfl) (pe_ifExp (pt_cmpR op_ge (pv 2) (pe_op op_pow pe_int pe_int) (nomark _)) (pv 2) pe_int))
    (pss_cons (ps_for PassesOwn.never rfl (pi_range1 (by rfl) T.b_range (pa_cons (pe_op op_fdivW (pv 1) (pe_callB (au_max2 rfl) (by rfl) T.b_max (by decide +kernel) (pa_cons pe_int (pa_cons (pe_callB (lenK (K := K)) (by rfl) T.b_len (by decide +kernel) (pa_cons (pv 0) pa_nil)) pa_nil)))) pa_nil)) (pg_name (i := 4) sc__law_draw.nd rfl (.inl rfl)) (pss_one (ps_set (i := 3) sc__law_draw.nd rfl (.inl rfl) (pe_op op_fdivW (pv 3) (pe_op op_pow pe_int pe_int)))))
    (pss_one (ps_ret (pe_lst (pa_cons (pv 2) (pa_cons (pe_op op_mulX pe_int (pv 1)) (pa_cons (pv 3) pa_nil))))))))), ?_⟩
    refine ⟨.ref a, rfl, Nat.zero_le _, fun p hp => ?_⟩
    have e1 : Ex H (upd H p (.lst [])) := Evl.Ex.new hp
    have hS1 : SqL K (upd H p (.lst [])) a (ns.map V.int) := Evl.ex_l e1 hS
    refine ⟨.list (ns.map PyData.int), .list [], .lst hS1 dpa_ints, .lst (SqL.of upd_same) .nil, shaped_ints, shaped_nil, _, rfl, ?_⟩
    rw [eqv_nil]
    rcases ns with _ | ⟨n, r⟩
    rotate_left
    have hlen : (0 : Int) < (((n :: r).map V.int).length : Int) := by
      rw [List.length_map, List.length_cons]
      omega
    have m0 := Int.emod_nonneg k (show (((n :: r).map V.int).length : Int) ≠ 0 by omega)
    have m1 := Int.emod_lt_of_pos k hlen
    obtain ⟨j, hj⟩ : ∃ j : Nat, k % (((n :: r).map V.int).length : Int) = (j : Int) := ⟨_, (Int.toNat_of_nonneg m0).symm⟩
    have hlt : j < (n :: r).length := by
      rw [hj, List.length_map] at m1
      omega
    have hat : atI ((n :: r).map V.int) (k % (((n :: r).map V.int).length : Int)) = some (.int ((n :: r)[j])) := by
      rw [hj]
      exact atI_nat (by rw [List.getElem?_map, List.getElem?_eq_getElem hlt]; rfl)
    refine iteT ⟨.ref a, rfl, .int k, rfl, .ref a, rfl, a, _, rfl, .inl hS1, k, _, rfl, rfl, hlen, a, _, _, _, rfl, rfl, hS1, hat, ?_⟩
    rotate_left
    refine iteF ?_
    all_goals (refine ⟨_, rfl, 10, 18, rfl, rfl, ⟨by decide, by decide, by decide⟩, _, _, rfl, rfl, _, rfl, ?_⟩)
    all_goals (refine ite2 (fun e => ⟨_, rfl, ?_⟩) (fun e => ?_))
    all_goals (refine ⟨.int k, rfl, .ref a, rfl, a, _, rfl, .inl hS1, 1, _, rfl, k, _, rfl, rfl, ?_, _, rfl, ?_⟩)
    all_goals first
      | (show CDivW _ _
         simp only [List.length_map, List.length_nil, List.length_cons] at hl ⊢
         exact divBd (by split <;> omega) (by split <;> omega))
      | skip
    all_goals (refine ⟨(div_in k0 k1 (le_max1 _)).1, (div_in k0 k1 (le_max1 _)).2, for_range (fun i σ H' => H' = upd H p (.lst []) ∧ ∃ own t, σ = [some (.ref a), some (.int k), some (.int _), some (.int own), t] ∧ 0 ≤ own) ⟨rfl, _, _, rfl, ?_⟩ ?_ ?_⟩)
    all_goals first
      | (rintro i σ H' hi ⟨rfl, own, t, rfl, h0⟩
         refine ⟨_, rfl, 10, 18, rfl, rfl, ⟨by decide, by decide, by decide⟩, own, _, rfl, rfl, divBd (by decide) (by decide), ?_⟩
         exact ⟨rfl, _, _, rfl, Int.ediv_nonneg h0 (by decide)⟩)
      | (rintro σ H' ⟨rfl, own, t, rfl, h0⟩
         refine ⟨_, rfl, .int k, rfl, 64, k, rfl, rfl, mulBd (by decide) (by decide) (by omega) (by omega), _, rfl, sz16 (by show 3 ≤ 16000000; decide), fun d hd => ?_⟩
         exact q d _ (e1.trans (Evl.Ex.new hd)) (Evl.fresh_back e1 hd) ⟨_, own, upd_same, h0, by omega⟩)
      | exact Int.le_trans (show (0 : Int) ≤ 10 ^ Int.toNat 18 by decide) (of_decide_eq_true e)
      | exact Int.le_refl _
theorem use_next {H : Hp} {Q : VK} {E : XK} {d : Addr} {many c : Int} (hd : Drw H d c) (m0 : 0 < many) (m1 : many ≤ 10 ^ 18) (c1 : c ≤ 10 ^ 11)
    (q : ∀ (n c' : Int) (H' : Hp), 0 ≤ n → n < many → c' ≤ c + 1 → But d H H' → Drw H' d c' → Q (.int n) H') : spNext [.ref d, .int many] H Q E :=
  ⟨d, many, c, rfl, hd, m0, m1, c1, fun n c' H' a b _ e f g => q n c' H' a b e f g⟩
theorem But.tp {d : Addr} {H H' : Hp} {c : Int} (b : But d H H') (hd : Drw H d c) : Tp H H' := fun x ys h => b _ _ (by
  rintro rfl
  obtain ⟨_, _, e, _⟩ := hd
  rw [e] at h
  cases h) h
theorem But.back {d x : Addr} {H H2 : Hp} {c : Int} (b : But d H H2) (hd : Drw H2 d c) (nx : H2 x = none) : H x = none := by
  cases e : H x with
  | none => rfl
  | some o => exact absurd (b _ _ (by
      rintro rfl
      obtain ⟨o2, e2⟩ := hd.some
      rw [e2] at nx
      cases nx) e) (by rw [nx]; exact fun z => nomatch z)

end
end Bk33


namespace Bk33
open PySem PySem.Spec PyProof.Rows L2 Bs
open Evl (Ex)

section
variable {P : Program} {w : World} {K : PySem.W.Frag} {mg : Str → Option Value} {base : Heap}
/-! whole numbers -/
def spWhole : Sp := fun vs H Q _ => ∃ i : Int, vs = [.int i] ∧ Q (.bl true) H
theorem ok_is_whole (T : Tx K mg) : Cal P w K mg base 1 "is_whole" ["thing"] spWhole := by
  refine T.d_is_whole.cal sc_is_whole (fun vs H Q E h => ?_) (fun f cdv A outer s H vs Q E hr h => ?_)
  · obtain ⟨_, rfl, _⟩ := h
    rfl
  · obtain ⟨i, rfl, q⟩ := h
    refine ⟨_, (pss_one (ps_ret (pe_and (pe_callB (isiK (K := K)) (by rfl) T.b_isinstance (by decide +kernel) (pa_cons (pv 0) (pa_cons (pe_bltn (v := .ty "int") rfl T.b_int (by decide +kernel) rfl) pa_nil))) (pe_one (pe_not (pe_callB (isiK (K := K)) (by rfl) T.b_isinstance (by decide +kernel) (pa_cons (pv 0) (pa_cons (pe_bltn (v := .ty "bool") rfl T.b_bool (by decide +kernel) rfl) pa_nil)))))))), q_start (τ := [some _]) rfl ?_⟩
    walk_at "go"
    exact q
def spAmong : Sp := fun vs H Q _ => ∃ i l m : Int, vs = [.int i, .int l, .int m] ∧ Q (.bl (decide (l ≤ i ∧ i ≤ m))) H
theorem ok_is_among (T : Tx K mg) : Cal P w K mg base 2 "is_among" ["thing", "least", "most"] spAmong := by
  have G_is_whole : Cal P w K mg base 1 "is_whole" ["thing"] spWhole := ok_is_whole T
  refine T.d_is_among.cal sc_is_among (fun vs H Q E h => ?_) (fun f cdv A outer s H vs Q E hr h => ?_)
  · obtain ⟨_, _, _, rfl, _⟩ := h
    rfl
  · obtain ⟨i, l, m, rfl, q⟩ := h
    refine ⟨_, (pss_one (ps_ret (pe_and (pe_cal G_is_whole hr (by rfl) (pa_cons (pv 0) pa_nil)) (pe_and (pe_cal G_is_whole hr (by rfl) (pa_cons (pv 1) pa_nil)) (pe_and (pe_cal G_is_whole hr (by rfl) (pa_cons (pv 2) pa_nil)) (pe_one (pe_chain op_le op_le (pv 1) (pv 0) (pv 2)))))))), q_start (τ := [some _, some _, some _]) rfl ?_⟩
    walk_at "go"
    refine ⟨_, rfl, ?_⟩
    walk_at "go"
    refine ⟨_, rfl, ?_⟩
    walk_at "go"
    refine ⟨_, rfl, ?_⟩
    walk_at "go"
    refine q_ifD (fun h1 => ?_) (fun h1 => ?_)
    · walk_at "go"
      rw [show decide (i ≤ m) = decide (l ≤ i ∧ i ≤ m) by simp [h1]]
      exact q
    · rw [show decide (l ≤ i ∧ i ≤ m) = false by simp [h1]] at q
      exact q

/-! rows of work -/
def spRow : Sp := fun vs H Q _ => ∃ (t : Addr) (xs : List V) (m : Int), vs = [.ref t, .int m] ∧ H t = some (.tup xs) ∧ Q (.bl (decide ((xs.length : Int) = m))) H
theorem ok_is_row (T : Tx K mg) : Cal P w K mg base 1 "is_row" ["thing", "many"] spRow := by
  refine T.d_is_row.cal sc_is_row (fun vs H Q E h => ?_) (fun f cdv A outer s H vs Q E hr h => ?_)
  · obtain ⟨_, _, _, rfl, _⟩ := h
    rfl
  · obtain ⟨t, xs, m, rfl, ht, q⟩ := h
    refine ⟨_, (pss_one (ps_ret (pe_and (pe_callB (isiK (K := K)) (by rfl) T.b_isinstance (by decide +kernel) (pa_cons (pv 0) (pa_cons (pe_bltn (v := .ty "tuple") rfl T.b_tuple (by decide +kernel) rfl) pa_nil))) (pe_one (pe_cmpR op_eq (pe_callB (lenK (K := K)) (by rfl) T.b_len (by decide +kernel) (pa_cons (pv 0) pa_nil)) (pv 1) (nomark _)))))), q_start (τ := [some _, some _]) rfl ?_⟩
    walk_at "go"
    exact q
def good (x : V) (H : Hp) : Prop := ∃ (t : Addr) (a b c d : Int), x = .ref t ∧ H t = some (.tup [.int a, .int b, .int c, .int d]) ∧ 1 ≤ a ∧ a ≤ 1000 ∧ 0 ≤ b ∧ b ≤ 1000000 ∧ 0 ≤ c ∧ c ≤ 1000000 ∧ 0 ≤ d ∧ d ≤ 1000
theorem good_ex {x : V} {H H' : Hp} (h : good x H) (e : Ex H H') : good x H' := by
  obtain ⟨t, a, b, c, d, r, ht, z⟩ := h
  exact ⟨t, a, b, c, d, r, e _ _ ht, z⟩
def spOne : Sp := fun vs H Q _ => ∃ x : V, vs = [x] ∧ good x H ∧ Q (.bl true) H
theorem ok_is_machine_row (T : Tx K mg) : Cal P w K mg base 3 "is_machine_row" ["thing"] spOne := by
  have G_is_row : Cal P w K mg base 1 "is_row" ["thing", "many"] spRow := ok_is_row T
  have G_is_among : Cal P w K mg base 2 "is_among" ["thing", "least", "most"] spAmong := ok_is_among T
  refine T.d_is_machine_row.cal sc_is_machine_row (fun vs H Q E h => ?_) (fun f cdv A outer s H vs Q E hr h => ?_)
  · obtain ⟨_, rfl, _⟩ := h
    rfl
  · obtain ⟨_, rfl, ⟨t, a, b, c, d, rfl, ht, a1, a2, b1, b2, c1, c2, d1, d2⟩, q⟩ := h
    refine ⟨_, (pss_cons (ps_if (PW.pt (pw_or (pt_not (pt_val (pe_cal G_is_row (hr.mono (by decide)) (by rfl) (pa_cons (pv 0) (pa_cons pe_int pa_nil))))) (pw_or1 (pt_not (pt_val (pe_cal G_is_among hr (by rfl) (pa_cons (pe_ix (ixT (K := K)) (pv 0) (pe_globE rfl T.c_LENGTH) (fun _ _ => rfl)) (pa_cons pe_int (pa_cons (pe_globE rfl T.c_MOST_LENGTH) pa_nil))))))))) (pss_one (ps_ret pe_bl)) pss_nil)
    (pss_cons (ps_if (PW.pt (pw_or (pt_not (pt_val (pe_cal G_is_among hr (by rfl) (pa_cons (pe_ix (ixT (K := K)) (pv 0) (pe_globE rfl T.c_FROM) (fun _ _ => rfl)) (pa_cons pe_int (pa_cons (pe_globE rfl T.c_LAST_HOUR) pa_nil)))))) (pw_or1 (pt_not (pt_val (pe_cal G_is_among hr (by rfl) (pa_cons (pe_ix (ixT (K := K)) (pv 0) (pe_globE rfl T.c_BY) (fun _ _ => rfl)) (pa_cons pe_int (pa_cons (pe_globE rfl T.c_LAST_HOUR) pa_nil))))))))) (pss_one (ps_ret pe_bl)) pss_nil)
    (pss_one (ps_ret (pe_cal G_is_among hr (by rfl) (pa_cons (pe_ix (ixT (K := K)) (pv 0) (pe_globE rfl T.c_WEIGHT) (fun _ _ => rfl)) (pa_cons pe_int (pa_cons (pe_globE rfl T.c_MOST_WEIGHT) pa_nil)))))))), q_start (τ := [some _]) rfl ?_⟩
    walk_at "go"
    refine ⟨t, _, 4, rfl, ht, ?_⟩
    walk_at "go"
    refine ⟨a, 1, 1000, rfl, ?_⟩
    walk_at "go"
    refine ⟨b, 0, 1000000, rfl, ?_⟩
    walk_at "go"
    refine ⟨c, 0, 1000000, rfl, ?_⟩
    walk_at "go"
    refine ⟨d, 0, 1000, rfl, ?_⟩
    rw [decide_eq_true (show 0 ≤ d ∧ d ≤ 1000 from ⟨d1, d2⟩)]
    exact q
theorem goods {H : Hp} {xs : List V} {rows : List (List Int)} (ts : Ts H xs rows) (ok : Rows4 rows) : ∀ x ∈ xs, good x H := fun x hx => by
  obtain ⟨t, ns, rfl, m, ht⟩ := ts.mem hx
  obtain ⟨a, b, c, d, rfl, h⟩ := ok ns m
  exact ⟨t, a, b, c, d, rfl, ht, h⟩

def spNeed (fl : Addr) : Sp := fun vs H Q _ => ∃ (a : Addr) (xs : List V), vs = [.ref a, .ref fl] ∧ H a = some (.lst xs) ∧ 1 ≤ xs.length ∧ xs.length ≤ 30 ∧ (∀ x ∈ xs, good x H) ∧ ∀ H', Ex H H' → Q .non H'
theorem ok_need_rows (T : Tx K mg) {fl : Addr} {fdl : FuncData} (kl : PySem.W.keepIn K (.ref fl) = true) (bl : Binds K fdl ["thing"] []) (F_one : FnOk P w K mg base CX0 3 fl fdl ["thing"] spOne) :
    Cal P w K mg base 4 "need_rows" ["thing", "is_one"] (spNeed fl) := by
  refine T.d_need_rows.cal sc_need_rows (fun vs H Q E h => ?_) (fun f cdv A outer s H vs Q E hr h => ?_)
  · obtain ⟨_, _, rfl, _⟩ := h
    rfl
  · obtain ⟨a, xs, rfl, ha, l1, l2, ok, q⟩ := h
    refine ⟨_, (pss_cons (ps_if (PW.pt (pw_or (pt_not (pt_val (pe_callB (isiK (K := K)) (by rfl) T.b_isinstance (by decide +kernel) (pa_cons (pv 0) (pa_cons (pe_bltn (v := .ty "list") rfl T.b_list (by decide +kernel) rfl) pa_nil))))) (pw_or1 (pt_not (pt_chain op_le op_le pe_int (pe_callB (lenK (K := K)) (by rfl) T.b_len (by decide +kernel) (pa_cons (pv 0) pa_nil)) (pe_globE rfl T.c_MOST_ROWS)))))) (pss_one ps_off) pss_nil)
    (pss_one (ps_if (pt_not (pt_val (pe_callB (au_all (K := K) rfl) (by rfl) T.b_all (by decide +kernel) (pa_cons (pe_lc (own := [("row", 2)]) rfl sc_need_rows.nd (piLK (K := K) (pv 0)) (blkOk_by (own := [("row", 2)]) (N := N_need_rows) (sc := defScope s_need_rows) (by decide +kernel)) (fun _ _ _ _ _ => (pg_name (i := 2) sc_need_rows.nd rfl (.inl rfl))) (fun _ _ _ _ _ => pts_nil) (fun _ _ _ _ _ => (pe_callL (i := 1) F_one hr rfl (by first | exact Or.inl rfl | exact Or.inr (Or.inl rfl) | exact Or.inr (Or.inr rfl)) kl bl .nil pass0 (pa_cons (pv 2) pa_nil)))) pa_nil)))) (pss_one ps_off) pss_nil))), q_start (τ := [some _, some _, none]) rfl ?_⟩
    walk_at "go"
    intro D nD
    refine lcp_all nD ha (by omega) (fun i x H1 hx e1 R r => ?_) (fun H' bs e1 hD all => ?_)
    · have g := good_ex (ok x (List.mem_of_getElem? hx)) e1
      walk_at "go"
      exact ⟨x, rfl, g, r H1 (Ex.refl _)⟩
    · walk_at "go"
      refine q_all hD ?_
      rw [all]
      walk_at "go"
      exact q H' e1

end
end Bk33


namespace Bk33
open PySem PySem.Spec PyProof.Rows L2 Bs
open Evl (Ex)

section
variable {P : Program} {w : World} {K : PySem.W.Frag} {mg : Str → Option Value} {base : Heap}
/-! pieces of parted work -/
theorem q_augS {to ti te : TE} {tget : V → V → Hp → VK → Prop} {tip : TIp} {tset : TSet} {σ : L2.St} {H : Hp} {nx : L2.St → Hp → Prop} {rt : VK} {bk ct : L2.St → Hp → Prop}
    (q : to σ H fun o H1 => ti σ H1 fun i H2 => tget o i H2 fun x H3 => te σ H3 fun y H4 => tip x y H4 fun z H5 => tset o i z H5 fun H6 => nx σ H6) : tAugS to ti te tget tip tset ⟨nx, rt, bk, ct⟩ σ H := q
def vT : V → Nat
  | .int i => i.toNat
  | _ => 0
def sumT (lf : List Int) : Nat := (lf.map Int.toNat).sum
theorem vT_sum (lf : List Int) : ((lf.map V.int).map vT).sum = sumT lf := by
  unfold sumT
  rw [List.map_map]
  rfl
theorem sumT_set : ∀ (lf : List Int) (k : Nat) (v x : Int), lf[k]? = some x → sumT (lf.set k v) + x.toNat = sumT lf + v.toNat
  | [], _, _, _, h => by simp at h
  | y :: lf, 0, v, x, h => by
    obtain rfl := Option.some.inj h
    show (v.toNat + sumT lf) + y.toNat = (y.toNat + sumT lf) + v.toNat
    omega
  | y :: lf, k + 1, v, x, h => by
    have := sumT_set lf k v x h
    show (y.toNat + sumT (lf.set k v)) + x.toNat = (y.toNat + sumT lf) + v.toNat
    omega
def cntF (rows : List (List Int)) (h : Int) : Nat := ((Bs.upTo rows.length).filter fun x => decide (h < frm_ rows x)).length
theorem filter_mono {p r : Int → Bool} : ∀ l : List Int, (∀ x, p x = true → r x = true) → (l.filter p).length ≤ (l.filter r).length
  | [], _ => Nat.le_refl _
  | x :: l, h => by
    have ih := filter_mono l h
    cases hp : p x with
    | true =>
      rw [List.filter_cons_of_pos hp, List.filter_cons_of_pos (h x hp)]
      exact Nat.succ_le_succ ih
    | false =>
      rw [List.filter_cons_of_neg (by rw [hp]; simp)]
      cases hr : r x with
      | true =>
        rw [List.filter_cons_of_pos hr]
        exact Nat.le_succ_of_le ih
      | false =>
        rw [List.filter_cons_of_neg (by rw [hr]; simp)]
        exact ih
theorem cntF_le {rows : List (List Int)} {h h' : Int} (le : h ≤ h') : cntF rows h' ≤ cntF rows h := filter_mono _ fun x hx => by
  rw [decide_eq_true_eq] at hx ⊢
  omega
theorem filter_lt {p r : Int → Bool} : ∀ l : List Int, (∀ x, p x = true → r x = true) → (∃ x ∈ l, p x = false ∧ r x = true) → (l.filter p).length < (l.filter r).length
  | [], _, h => by
    obtain ⟨_, h, _⟩ := h
    cases h
  | x :: l, h, ⟨y, hy, h1, h2⟩ => by
    by_cases e : p x = false ∧ r x = true
    · rw [List.filter_cons_of_neg (by rw [e.1]; simp), List.filter_cons_of_pos e.2]
      exact Nat.lt_succ_of_le (filter_mono l h)
    · have hy : y ∈ l := by
        rcases List.mem_cons.mp hy with rfl | hy
        · exact absurd ⟨h1, h2⟩ e
        · exact hy
      have ih := filter_lt l h ⟨y, hy, h1, h2⟩
      cases hp : p x with
      | true =>
        rw [List.filter_cons_of_pos hp, List.filter_cons_of_pos (h x hp)]
        exact Nat.succ_lt_succ ih
      | false =>
        cases hr : r x with
        | true => exact absurd ⟨hp, hr⟩ e
        | false =>
          rw [List.filter_cons_of_neg (by rw [hp]; simp), List.filter_cons_of_neg (by rw [hr]; simp)]
          exact ih
theorem cntF_lt {rows : List (List Int)} {h h' y : Int} (le : h < h') (y0 : 0 ≤ y) (y1 : y < rows.length) (hy : frm_ rows y = h') : cntF rows h' < cntF rows h := filter_lt _ (fun x hx => by
  rw [decide_eq_true_eq] at hx ⊢
  omega) ⟨y, upTo_mem.mpr ⟨y0, y1⟩, decide_eq_false (by omega), decide_eq_true (by omega)⟩
def muW (rows : List (List Int)) (D : Addr) (σ : L2.St) (H : Hp) : Nat :=
  (match H D with
    | some (.lst xs) => (xs.map vT).sum
    | _ => 0) + cntF rows (match σ[3]? with
    | some (some (V.int h)) => h
    | _ => 0)
def spPieces : Sp := fun vs H Q _ => ∃ (a : Addr) (xs : List V) (rows : List (List Int)), vs = [.ref a] ∧ H a = some (.lst xs) ∧ Ts H xs rows ∧ Rows4 rows ∧ 1 ≤ rows.length ∧ rows.length ≤ 30 ∧
  ∀ (H' : Hp) (p : Addr) (ys : List V) (ps : List (List Int)) (lf : List Int) (hour : Int), Ex H H' → H p = none → H' p = some (.lst ys) → Ts H' ys ps → Stp rows lf ps hour → Hst rows lf ps hour → (∀ x : Int, 0 ≤ x → x < rows.length → lfA lf x = 0) → ps.length ≤ 30000 → Q (.ref p) H'
theorem at_lf {lf : List Int} {k : Nat} (h : k < lf.length) : atI (lf.map V.int) (k : Int) = some (.int (lfA lf (k : Int))) := by
  refine atI_nat ?_
  unfold lfA
  rw [List.getElem?_map, List.getElem?_eq_getElem h, Int.toNat_natCast, List.getD_eq_getElem?_getD, List.getElem?_eq_getElem h]
  rfl
def wtL (rows : List (List Int)) (lf : List Int) (hour : Int) (l : List Int) : List Int := l.filter fun x => decide (0 < lfA lf x) && decide (frm_ rows x ≤ hour)
def cmL (rows : List (List Int)) (hour : Int) (l : List Int) : List Int := l.filter fun x => decide (hour < frm_ rows x)
def cmR (rows : List (List Int)) (l : List Int) : List (List Int) := l.map fun x => [frm_ rows x, due_ rows x, x]
theorem sum_bd : ∀ l : List Int, (∀ x ∈ l, x ≤ 1000) → sumT l ≤ 1000 * l.length
  | [], _ => Nat.zero_le _
  | x :: l, h => by
    have := sum_bd l fun y hy => h y (List.mem_cons_of_mem _ hy)
    have := h x List.mem_cons_self
    show x.toNat + sumT l ≤ 1000 * (l.length + 1)
    omega
theorem ok_pieces_of (T : Tx K mg) : Cal P w K mg base 1 "pieces_of" ["rows"] spPieces := by
  refine T.d_pieces_of.cal sc_pieces_of (fun vs H Q E h => ?_) (fun f cdv A outer s H vs Q E hr h => ?_)
  · obtain ⟨_, _, _, rfl, _⟩ := h
    rfl
  · obtain ⟨a, xs, rows, rfl, ha, ts, ok, l1, l30, q⟩ := h
    refine ⟨_, (pss_cons (ps_set (i := 1) sc_pieces_of.nd rfl (.inr rfl) (pe_lc (own := [("row", 10)]) rfl sc_pieces_of.nd (piLK (K := K) (pv 0)) (blkOk_by (own := [("row", 10)]) (N := N_pieces_of) (sc := defScope s_pieces_of) (by decide +kernel)) (fun _ _ _ _ _ => (pg_name (i := 10) sc_pieces_of.nd rfl (.inl rfl))) (fun _ _ _ _ _ => pts_nil) (fun _ _ _ _ _ => (pe_ix (ixT (K := K)) (pv 10) (pe_globE rfl T.c_LENGTH) (fun _ _ => rfl)))))
    (pss_cons (ps_set (i := 2) sc_pieces_of.nd rfl (.inl rfl) (pe_lst pa_nil))
    (pss_cons (ps_set (i := 3) sc_pieces_of.nd rfl (.inr rfl) (pe_callB (au_min (K := K) rfl) (by rfl) T.b_min (by decide +kernel) (pa_cons (pe_lc (own := [("row", 10)]) rfl sc_pieces_of.nd (piLK (K := K) (pv 0)) (blkOk_by (own := [("row", 10)]) (N := N_pieces_of) (sc := defScope s_pieces_of) (by decide +kernel)) (fun _ _ _ _ _ => (pg_name (i := 10) sc_pieces_of.nd rfl (.inl rfl))) (fun _ _ _ _ _ => pts_nil) (fun _ _ _ _ _ => (pe_ix (ixT (K := K)) (pv 10) (pe_globE rfl T.c_FROM) (fun _ _ => rfl)))) pa_nil)))
    (pss_cons (ps_while PassesOwn.never (pt_val (pe_callB (cr_anyI (K := K) rfl) (by rfl) T.b_any (by decide +kernel) (pa_cons (pv 1) pa_nil))) (pss_cons (ps_setLc (i := 4) (own := [("number", 7), ("row", 10)]) rfl sc_pieces_of.nd rfl rfl (sw_true rfl rfl rfl (by decide +kernel)) (pi_enum (by rfl) T.b_enumerate (pa_cons (pv 0) pa_nil)) (blkOk_by (own := [("number", 7), ("row", 10)]) (N := N_pieces_of) (sc := defScope s_pieces_of) (by decide +kernel)) (fun _ _ _ _ _ => (pgTK (K := K) (n := 2) (by rfl) (pgs_cons (pg_name (i := 7) sc_pieces_of.nd rfl (.inl rfl)) (pgs_cons (pg_name (i := 10) sc_pieces_of.nd rfl (.inl rfl)) pgs_nil)))) (fun _ _ _ _ _ => pts_one (PW.pt (pw_and (pt_cmpR op_gt (pe_ix (ixL (K := K)) (pv 1) (pv 7) (fun _ _ => rfl)) pe_int (nomark _)) (pw_and1 (pt_cmpR op_le (pe_ix (ixT (K := K)) (pv 10) (pe_globE rfl T.c_FROM) (fun _ _ => rfl)) (pv 3) (nomark _)))))) (fun _ _ _ _ _ => (pe_tup (pa_cons (pe_ix (ixT (K := K)) (pv 10) (pe_globE rfl T.c_BY) (fun _ _ => rfl)) (pa_cons (pv 7) pa_nil)))))
    (pss_cons (ps_setLc (i := 5) (own := [("number", 7), ("row", 10)]) rfl sc_pieces_of.nd rfl rfl (sw_true rfl rfl rfl (by decide +kernel)) (pi_enum (by rfl) T.b_enumerate (pa_cons (pv 0) pa_nil)) (blkOk_by (own := [("number", 7), ("row", 10)]) (N := N_pieces_of) (sc := defScope s_pieces_of) (by decide +kernel)) (fun _ _ _ _ _ => (pgTK (K := K) (n := 2) (by rfl) (pgs_cons (pg_name (i := 7) sc_pieces_of.nd rfl (.inl rfl)) (pgs_cons (pg_name (i := 10) sc_pieces_of.nd rfl (.inl rfl)) pgs_nil)))) (fun _ _ _ _ _ => pts_one (pt_cmpR op_gt (pe_ix (ixT (K := K)) (pv 10) (pe_globE rfl T.c_FROM) (fun _ _ => rfl)) (pv 3) (nomark _))) (fun _ _ _ _ _ => (pe_tup (pa_cons (pe_ix (ixT (K := K)) (pv 10) (pe_globE rfl T.c_FROM) (fun _ _ => rfl)) (pa_cons (pe_ix (ixT (K := K)) (pv 10) (pe_globE rfl T.c_BY) (fun _ _ => rfl)) (pa_cons (pv 7) pa_nil))))))
    (pss_one (ps_if (pt_truth (pv 4) (fun _ => rfl)) (pss_cons (ps_asg (pe_callB (cr_minTs (K := K) rfl hr.units) (by rfl) T.b_min (by decide +kernel) (pa_cons (pv 4) pa_nil)) (pgTK (K := K) (n := 2) (by rfl) (pgs_cons (pg_name (i := 6) sc_pieces_of.nd rfl (.inr rfl)) (pgs_cons (pg_name (i := 7) sc_pieces_of.nd rfl (.inr rfl)) pgs_nil))))
    (pss_cons (ps_setLc (i := 8) (own := [("other", 11), ("rival", 12), ("start", 13)]) rfl sc_pieces_of.nd rfl rfl (sw_true rfl rfl rfl (by decide +kernel)) (piLK (K := K) (pv 5)) (blkOk_by (own := [("other", 11), ("rival", 12), ("start", 13)]) (N := N_pieces_of) (sc := defScope s_pieces_of) (by decide +kernel)) (fun _ _ _ _ _ => (pgTK (K := K) (n := 3) (by rfl) (pgs_cons (pg_name (i := 13) sc_pieces_of.nd rfl (.inl rfl)) (pgs_cons (pg_name (i := 11) sc_pieces_of.nd rfl (.inl rfl)) (pgs_cons (pg_name (i := 12) sc_pieces_of.nd rfl (.inl rfl)) pgs_nil))))) (fun _ _ _ _ _ => pts_one (pt_cmpR (au_ltT (K := K) hr.units) (pe_tup (pa_cons (pv 11) (pa_cons (pv 12) pa_nil))) (pe_tup (pa_cons (pv 6) (pa_cons (pv 7) pa_nil))) (nomark _))) (fun _ _ _ _ _ => (pv 13)))
    (pss_cons (ps_set (i := 9) sc_pieces_of.nd rfl (.inl rfl) (pe_callB (au_min (K := K) rfl) (by rfl) T.b_min (by decide +kernel) (pa_cons (pe_op op_cat (pe_lst (pa_cons (pe_op op_add (pv 3) (pe_ix (ixL (K := K)) (pv 1) (pv 7) (fun _ _ => rfl))) pa_nil)) (pv 8)) pa_nil)))
    (pss_cons (ps_expr (pe_bm PySem.F.plainAttrs_list PySem.F.slot_list_append PySem.F.type_list_append mt_append (pv 2) (pa_cons (pe_tup (pa_cons (pv 7) (pa_cons (pv 3) (pa_cons (pv 9) pa_nil)))) pa_nil)))
    (pss_cons (ps_augS (pv 1) (pv 7) pget_list (pe_op op_sub (pv 9) (pv 3)) ip_sub set_list)
    (pss_one (ps_set (i := 3) sc_pieces_of.nd rfl (.inr rfl) (pv 9)))))))) (pss_one (ps_set (i := 3) sc_pieces_of.nd rfl (.inr rfl) (pe_ix (ixT (K := K)) (pe_callB (cr_minTs (K := K) rfl hr.units) (by rfl) T.b_min (by decide +kernel) (pa_cons (pv 5) pa_nil)) pe_int (fun _ _ => rfl)))))))))
    (pss_one (ps_ret (pv 2))))))), q_start (τ := [some _, none, none, none, none, none, none, none, none, none, none, none, none, none]) rfl ?_⟩
    have lx := ts.len
    walk_at "go"
    intro D nD
    refine lcp_mapR (fun r => r.getD 0 0) nD ha ts (by omega) (fun t r H1 hr e1 ht0 R k => ?_) (fun H1 e1 hD => ?_)
    · obtain ⟨l, fm, du, wg, rfl, _⟩ := ok r hr
      have ht : H1 t = some (.tup [.int l, .int fm, .int du, .int wg]) := ht0
      clear ht0
      walk_at "go"
      exact k _ (Ex.refl _)
    have ha1 := e1 _ _ ha
    have ts1 := ts.ex e1
    walk_at "go"
    rename_i pp npp
    have e2 := ex_new (o := .lst []) e1 npp
    have npp0 := Evl.fresh_back e1 npp
    have hpp := upd_same (H := H1) (a := pp) (o := .lst [])
    have hD2 := fresh_at (u := .lst []) npp hD
    have Dpp : D ≠ pp := by
      rintro rfl
      rw [hD] at npp
      cases npp
    generalize upd H1 pp (.lst []) = H2 at e2 hpp hD2 ⊢
    have ts2 := ts.ex e2
    intro D3 nD3
    refine lcp_mapR (fun r => r.getD 1 0) nD3 (e2 _ _ ha) ts2 (by omega) (fun t r H3 hr e3 ht0 R k => ?_) (fun H3 e3 hD3 => ?_)
    · obtain ⟨l, fm, du, wg, rfl, _⟩ := ok r hr
      have ht : H3 t = some (.tup [.int l, .int fm, .int du, .int wg]) := ht0
      clear ht0
      walk_at "go"
      exact k _ (Ex.refl _)
    have e03 := e2.trans e3
    walk_at "go"
    refine q_minL hD3 (by rw [List.length_map]; omega) (fun hr0 hm hle => ?_)
    generalize hlf : (rows.map fun r => r.getD 0 0) = lf0 at hD2
    have llf : lf0.length = rows.length := by rw [← hlf, List.length_map]
    have lfa : ∀ x : Int, 0 ≤ x → x < rows.length → lfA lf0 x = len_ rows x := fun x x0 x1 => by
      show lfA lf0 x = cAt rows 0 x
      unfold lfA cAt
      rw [← hlf, List.getD_eq_getElem?_getD, List.getElem?_map, List.getD_eq_getElem?_getD (l := rows), List.getElem?_eq_getElem (l := rows) (by omega)]
      rfl
    have frle : ∀ x : Int, 0 ≤ x → x < rows.length → hr0 ≤ frm_ rows x := fun x x0 x1 => by
      refine hle _ (List.mem_map.mpr ⟨rows.getD x.toNat [], ?_, rfl⟩)
      rw [List.getD_eq_getElem?_getD, List.getElem?_eq_getElem (by omega)]
      exact List.getElem_mem _
    have st0 := Stp.start ok llf lfa frle
    have hst0 : Hst rows lf0 [] hr0 := by
      rw [← hlf]
      refine Hst.start ?_ frle
      obtain ⟨r, hr, rfl⟩ := List.mem_map.mp hm
      obtain ⟨l, fm, du, wg, rfl, _, _, f0, _⟩ := ok r hr
      exact f0
    have sb : sumT lf0 ≤ 30000 := by
      have := sum_bd lf0 fun x hx => by
        rw [← hlf] at hx
        obtain ⟨r, hr, rfl⟩ := List.mem_map.mp hx
        obtain ⟨l, fm, du, wg, rfl, _, h, _⟩ := ok r hr
        exact h
      omega
    walk_at "go"
    refine q_while (fun σ H' => ∃ (lf : List Int) (ps : List (List Int)) (ys : List V) (hour : Int) (t4 t5 t6 t7 t8 t9 : Option V), σ = [some (.ref a), some (.ref D), some (.ref pp), some (.int hour), t4, t5, t6, t7, t8, t9, none, none, none, none] ∧ Ex H H' ∧ H' D = some (.lst (lf.map V.int)) ∧ H' pp = some (.lst ys) ∧ Ts H' ys ps ∧ Stp rows lf ps hour ∧ Hst rows lf ps hour ∧ ps.length + sumT lf ≤ 30000)
      (muW rows D) ⟨lf0, [], [], hr0, _, _, _, _, _, _, rfl, e03, e3 _ _ hD2, e3 _ _ hpp, .nil, st0, hst0, by simpa using sb⟩ ?_ ?_
    · rintro σ H4 ⟨lf, ps, ys, hour, t4, t5, t6, t7, t8, t9, rfl, e4, hD4, hpp4, tp, stp, hst, sz⟩
      have ll := stp.len
      have llm : (lf.map V.int).length = rows.length := by rw [List.length_map]; exact ll
      walk_at "go"
      refine q_anyI hD4 ?_
      refine q_ex ?_
      by_cases any : (lf.any fun n => decide (n ≠ 0)) = true
      · rw [any]
        rw [if_pos rfl]
        have ha4 := e4 _ _ ha
        have ts4 := ts.ex e4
        walk_at "go"
        intro D5 nD5
        refine lcp_enum (xs := xs) (fun i H' => ∃ ws, Ex H4 H' ∧ H' D5 = some (.lst ws) ∧ Ts H' ws (keyed (due_ rows) (wtL rows lf hour ((Bs.upTo rows.length).take i))) ∧ ws.length ≤ i) ⟨[], Ex.new nD5, upd_same, .nil, Nat.le_refl _⟩ (fun i H' _ h => ?_) (fun i x H' t hx h nt => ?_) (fun H5 h => ?_)
        · obtain ⟨_, e, _⟩ := h
          exact e _ _ ha4
        · obtain ⟨ws, e5, hDw, tw, lw⟩ := h
          have hi := (List.getElem?_eq_some_iff.mp hx).1
          have hu := upTo_get (n := rows.length) (i := i) (by omega)
          obtain ⟨tt, ns, rfl, hns, htt⟩ := ts4.get hx
          have htt : H4 tt = some (.tup [.int (len_ rows (i : Nat)), .int (frm_ rows (i : Nat)), .int (due_ rows (i : Nat)), .int (wgt_ rows (i : Nat))]) := by rw [htt, rows4_is ok hns]; rfl
          have e6 := ex_new (o := .tup [.int (i : Nat), .ref tt]) e5 nt
          have hDw6 := fresh_at (u := .tup [.int (i : Nat), .ref tt]) nt hDw
          have tw6 := ts_new (o := .tup [.int (i : Nat), .ref tt]) nt tw
          have htt6 := e6 _ _ htt
          have hD6 := e6 _ _ hD4
          generalize hg : upd H' t (.tup [.int (i : Nat), .ref tt]) = H6 at e6 hDw6 tw6 htt6 hD6 ⊢
          have ht6 : H6 t = some (.tup [.int (i : Nat), .ref tt]) := by rw [← hg]; exact upd_same
          have step : ∀ c : Bool, (decide (0 < lfA lf (i : Nat)) && decide (frm_ rows (i : Nat) ≤ hour)) = c → wtL rows lf hour ((Bs.upTo rows.length).take (i + 1)) = wtL rows lf hour ((Bs.upTo rows.length).take i) ++ (if c = true then [((i : Nat) : Int)] else []) := fun c hc => by
            unfold wtL
            rw [take_snoc hu, List.filter_append]
            cases c with
            | true => rw [List.filter_cons_of_pos (p := fun x => decide (0 < lfA lf x) && decide (frm_ rows x ≤ hour)) hc, List.filter_nil, if_pos rfl]
            | false => rw [List.filter_cons_of_neg (p := fun x => decide (0 < lfA lf x) && decide (frm_ rows x ≤ hour)) (by rw [hc]; exact Bool.false_ne_true), List.filter_nil, if_neg Bool.false_ne_true]
          walk_at "go"
          refine q_ixL hD6 (at_lf (by omega)) ?_
          walk_at "go"
          refine q_ifD (fun c1 => ?_) (fun c1 => ?_)
          · walk_at "go"
            refine q_ifD (fun c2 => ?_) (fun c2 => ?_)
            · walk_at "go"
              rename_i p np
              refine ⟨ws ++ [.ref p], (ex_new e6 np).mut nD5, upd_same, ?_, by rw [List.length_append]; exact Nat.succ_le_succ lw⟩
              rw [step true (by rw [decide_eq_true c1, decide_eq_true c2]; rfl), if_pos rfl]
              unfold keyed
              rw [List.map_append]
              have hDw7 := fresh_at (u := .tup [.int (due_ rows (i : Nat)), .int (i : Nat)]) np hDw6
              refine Ts.append ((ts_new np tw6).tp (Tp.upd hDw7)) (.cons ?_ .nil)
              rw [upd_ne (ne_fresh' np hDw6)]
              exact upd_same
            · refine ⟨ws, e6, hDw6, ?_, by omega⟩
              rw [step false (by rw [decide_eq_false c2, Bool.and_false]), if_neg Bool.false_ne_true, List.append_nil]
              exact tw6
          · refine ⟨ws, e6, hDw6, ?_, by omega⟩
            rw [step false (by rw [decide_eq_false c1, Bool.false_and]), if_neg Bool.false_ne_true, List.append_nil]
            exact tw6
        obtain ⟨ws, e45, hD5, tw, lw⟩ := h
        rw [List.take_of_length_le (by rw [upTo_len]; omega)] at tw
        have ha5 := e45 _ _ ha4
        have ts5 := ts4.ex e45
        walk_at "go"
        intro D6 nD6
        refine lcp_enum (xs := xs) (fun i H' => ∃ cs, Ex H5 H' ∧ H' D6 = some (.lst cs) ∧ Ts H' cs (cmR rows (cmL rows hour ((Bs.upTo rows.length).take i))) ∧ cs.length ≤ i) ⟨[], Ex.new nD6, upd_same, .nil, Nat.le_refl _⟩ (fun i H' _ h => ?_) (fun i x H' t hx h nt => ?_) (fun H6 h => ?_)
        · obtain ⟨_, e, _⟩ := h
          exact e _ _ ha5
        · obtain ⟨cs, e6, hDw, tw', lw'⟩ := h
          have hi := (List.getElem?_eq_some_iff.mp hx).1
          have hu := upTo_get (n := rows.length) (i := i) (by omega)
          obtain ⟨tt, ns, rfl, hns, htt⟩ := ts5.get hx
          have htt : H5 tt = some (.tup [.int (len_ rows (i : Nat)), .int (frm_ rows (i : Nat)), .int (due_ rows (i : Nat)), .int (wgt_ rows (i : Nat))]) := by rw [htt, rows4_is ok hns]; rfl
          have e7 := ex_new (o := .tup [.int (i : Nat), .ref tt]) e6 nt
          have hDw7 := fresh_at (u := .tup [.int (i : Nat), .ref tt]) nt hDw
          have tw7 := ts_new (o := .tup [.int (i : Nat), .ref tt]) nt tw'
          have htt7 := e7 _ _ htt
          generalize hg : upd H' t (.tup [.int (i : Nat), .ref tt]) = H7 at e7 hDw7 tw7 htt7 ⊢
          have ht7 : H7 t = some (.tup [.int (i : Nat), .ref tt]) := by rw [← hg]; exact upd_same
          walk_at "go"
          refine q_ifD (fun c => ?_) (fun c => ?_)
          · walk_at "go"
            rename_i p np
            refine ⟨cs ++ [.ref p], (ex_new e7 np).mut nD6, upd_same, ?_, by rw [List.length_append]; exact Nat.succ_le_succ lw'⟩
            unfold cmL cmR
            rw [take_snoc hu, List.filter_append, List.filter_cons_of_pos (by rw [decide_eq_true_eq]; exact c), List.filter_nil, List.map_append]
            have hDw8 := fresh_at (u := .tup [.int (frm_ rows (i : Nat)), .int (due_ rows (i : Nat)), .int (i : Nat)]) np hDw7
            refine Ts.append ((ts_new np tw7).tp (Tp.upd hDw8)) (.cons ?_ .nil)
            rw [upd_ne (ne_fresh' np hDw7)]
            exact upd_same
          · refine ⟨cs, e7, hDw7, ?_, by omega⟩
            unfold cmL
            rw [take_snoc hu, List.filter_append, List.filter_cons_of_neg (by rw [decide_eq_true_eq]; exact c), List.filter_nil, List.append_nil]
            exact tw7
        obtain ⟨cs, e56, hD6, tc, lc⟩ := h
        rw [List.take_of_length_le (by rw [upTo_len]; omega)] at tc
        have e46 := e45.trans e56
        have tw6 := tw.ex e56
        have hD56 := e56 _ _ hD5
        have hD46 := e46 _ _ hD4
        have hpp6 := e46 _ _ hpp4
        have tp6 := tp.ex e46
        have wmem : ∀ y : Int, y ∈ wtL rows lf hour (Bs.upTo rows.length) ↔ (0 ≤ y ∧ y < rows.length) ∧ 0 < lfA lf y ∧ frm_ rows y ≤ hour := fun y => by
          unfold wtL
          rw [List.mem_filter, upTo_mem, Bool.and_eq_true, decide_eq_true_eq, decide_eq_true_eq]
        have cmem : ∀ y : Int, y ∈ cmL rows hour (Bs.upTo rows.length) ↔ (0 ≤ y ∧ y < rows.length) ∧ hour < frm_ rows y := fun y => by
          unfold cmL
          rw [List.mem_filter, upTo_mem, decide_eq_true_eq]
        have lwk : ws.length = (wtL rows lf hour (Bs.upTo rows.length)).length := by
          rw [tw.len]
          unfold keyed
          rw [List.length_map]
        generalize wtL rows lf hour (Bs.upTo rows.length) = W at tw6 wmem lwk
        generalize cmL rows hour (Bs.upTo rows.length) = C at tc cmem
        have lfnn : ∀ x : Int, 0 ≤ x → x < rows.length → 0 ≤ lfA lf x := fun x x0 x1 => (stp.bd x x0 x1).1
        walk_at "go"
        by_cases hW : W = []
        · have ew : ws.isEmpty = true := by
            have : ws = [] := List.length_eq_zero_iff.mp (by rw [lwk, hW]; rfl)
            rw [this]
            rfl
          show if (!ws.isEmpty) = true then _ else _
          rw [ew]
          rw [if_neg (show ¬ (!true) = true from Bool.false_ne_true)]
          have later : ∀ x : Int, 0 ≤ x → x < rows.length → 0 < lfA lf x → x ∈ C := fun x x0 x1 l => (cmem x).mpr ⟨⟨x0, x1⟩, by
            refine Classical.byContradiction fun c => ?_
            have : x ∈ W := (wmem x).mpr ⟨⟨x0, x1⟩, l, by omega⟩
            rw [hW] at this
            cases this⟩
          have hC : C ≠ [] := by
            obtain ⟨v, hv, hv2⟩ := List.any_eq_true.mp any
            obtain ⟨k, hk⟩ := List.mem_iff_getElem?.mp hv
            have kl := (List.getElem?_eq_some_iff.mp hk).1
            have ev : lfA lf (k : Int) = v := by
              unfold lfA
              rw [Int.toNat_natCast, List.getD_eq_getElem?_getD, hk]
              rfl
            have := lfnn (k : Int) (by omega) (by omega)
            have := of_decide_eq_true hv2
            exact List.ne_nil_of_mem (later (k : Int) (by omega) (by omega) (by omega))
          walk_at "go"
          refine q_minTs 3 hD6 tc (by unfold cmR; simpa using hC) (fun r hr => by
            obtain ⟨y, _, rfl⟩ := List.mem_map.mp hr
            rfl) (fun t r hr ht le => ?_)
          obtain ⟨y, hy, rfl⟩ := List.mem_map.mp hr
          obtain ⟨⟨y0, y1⟩, yh⟩ := (cmem y).mp hy
          have least : ∀ z ∈ C, frm_ rows y ≤ frm_ rows z := fun z hz => by
            have := le _ (List.mem_map.mpr ⟨z, hz, rfl⟩)
            rw [HT.lexLt_cons] at this
            by_cases e : frm_ rows z = frm_ rows y
            · omega
            · rw [if_neg e] at this
              have := of_decide_eq_false this
              omega
          have ht : H6 t = some (.tup [.int (frm_ rows y), .int (due_ rows y), .int y]) := ht
          walk_at "go"
          refine ⟨⟨lf, ps, ys, frm_ rows y, _, _, _, _, _, _, rfl, e4.trans e46, hD46, hpp6, tp6, stp.idle yh fun x x0 x1 l => least x (later x x0 x1 l), hst.idle yh fun x x0 x1 l => least x (later x x0 x1 l), sz⟩, ?_⟩
          unfold muW
          rw [hD46, hD4]
          have := cntF_lt (rows := rows) yh y0 y1 rfl
          show ((lf.map V.int).map vT).sum + cntF rows (frm_ rows y) < ((lf.map V.int).map vT).sum + cntF rows hour
          omega
        · have ew : ws.isEmpty = false := by
            have : ws ≠ [] := fun z => hW (List.length_eq_zero_iff.mp (by rw [← lwk, z]; rfl))
            cases hws : ws with
            | nil => exact absurd hws this
            | cons _ _ => rfl
          show if (!ws.isEmpty) = true then _ else _
          rw [ew]
          rw [if_pos (show (!false) = true from rfl)]
          walk_at "go"
          refine q_minTs 2 hD56 tw6 (by unfold keyed; simpa using hW) (fun r hr => by
            obtain ⟨y, _, rfl⟩ := List.mem_map.mp hr
            rfl) (fun t r hr ht le => ?_)
          obtain ⟨x0, hx0, rfl⟩ := List.mem_map.mp hr
          obtain ⟨⟨a0, a1⟩, lpos, fr0⟩ := (wmem x0).mp hx0
          obtain ⟨k0, rfl⟩ : ∃ k : Nat, x0 = (k : Int) := ⟨_, (Int.toNat_of_nonneg a0).symm⟩
          have ht : H6 t = some (.tup [.int (due_ rows (k0 : Int)), .int (k0 : Int)]) := ht
          walk_at "go"
          intro D7 nD7
          refine lcp_list (xs := cs) (fun i H' => Ex H6 H' ∧ H' D7 = some (.lst ((((C.take i).filter fun x => HT.lexLt [due_ rows x, x] [due_ rows (k0 : Int), (k0 : Int)]).map (frm_ rows)).map V.int))) ⟨Ex.new nD7, upd_same⟩ (fun i H' _ h => h.1 _ _ hD6) (fun i x H7 hx h => ?_) (fun H7 h => ?_)
          · obtain ⟨e7, hD7⟩ := h
            obtain ⟨tt, ns, rfl, hns, htt⟩ := tc.get hx
            unfold cmR at hns
            rw [List.getElem?_map] at hns
            obtain ⟨y, hy, rfl⟩ := Option.map_eq_some_iff.mp hns
            have hyl := (List.getElem?_eq_some_iff.mp hy).1
            have htt : H6 tt = some (.tup [.int (frm_ rows y), .int (due_ rows y), .int y]) := htt
            have htt7 := e7 _ _ htt
            have lfl : ((((C.take i).filter fun x => HT.lexLt [due_ rows x, x] [due_ rows (k0 : Int), (k0 : Int)]).map (frm_ rows)).map V.int).length ≤ 30 := by
              rw [List.length_map, List.length_map]
              refine Nat.le_trans (List.length_filter_le _ _) ?_
              rw [List.length_take]
              have := tc.len
              unfold cmR at this
              rw [List.length_map] at this
              omega
            walk_at "go"
            rename_i u1 nu1 u2 nu2
            have h1 : (upd (upd H7 u1 (.tup [.int (due_ rows y), .int y])) u2 (.tup [.int (due_ rows (k0 : Int)), .int (k0 : Int)])) u1 = some (.tup ([due_ rows y, y].map V.int)) := fresh_at nu2 upd_same
            have h2 : (upd (upd H7 u1 (.tup [.int (due_ rows y), .int y])) u2 (.tup [.int (due_ rows (k0 : Int)), .int (k0 : Int)])) u2 = some (.tup ([due_ rows (k0 : Int), (k0 : Int)].map V.int)) := upd_same
            have e8 := ex_new (o := .tup [.int (due_ rows (k0 : Int)), .int (k0 : Int)]) (ex_new (o := .tup [.int (due_ rows y), .int y]) e7 nu1) nu2
            have hD8 := fresh_at (u := .tup [.int (due_ rows (k0 : Int)), .int (k0 : Int)]) nu2 (fresh_at (u := .tup [.int (due_ rows y), .int y]) nu1 hD7)
            generalize upd (upd H7 u1 (.tup [.int (due_ rows y), .int y])) u2 (.tup [.int (due_ rows (k0 : Int)), .int (k0 : Int)]) = H8 at h1 h2 e8 hD8 ⊢
            refine q_ltT h1 h2 ?_
            refine q_ex ?_
            cases hc : HT.lexLt [due_ rows y, y] [due_ rows (k0 : Int), (k0 : Int)] with
            | true =>
              walk_at "go"
              refine ⟨e8.mut nD7, ?_⟩
              rw [upd_same, take_snoc hy, List.filter_append, List.filter_cons_of_pos (by exact hc), List.filter_nil, List.map_append, List.map_append]
              rfl
            | false =>
              walk_at "go"
              refine ⟨e8, ?_⟩
              rw [hD8, take_snoc hy, List.filter_append, List.filter_cons_of_neg (by rw [hc]; exact Bool.false_ne_true), List.filter_nil, List.append_nil]
          · obtain ⟨e67, hD7⟩ := h
            have hcl : cs.length = C.length := by
              rw [tc.len]
              unfold cmR
              rw [List.length_map]
            rw [hcl, List.take_length] at hD7
            have e47 := e46.trans e67
            have hD47 := e67 _ _ hD46
            have hpp7 := e67 _ _ hpp6
            walk_at "go"
            refine q_ixL hD47 (at_lf (by omega)) ?_
            walk_at "go"
            rename_i p1 np1
            have memL : ∀ z : Int, z ∈ (C.filter fun x => HT.lexLt [due_ rows x, x] [due_ rows (k0 : Int), (k0 : Int)]).map (frm_ rows) ↔ ∃ y ∈ C, HT.lexLt [due_ rows y, y] [due_ rows (k0 : Int), (k0 : Int)] = true ∧ frm_ rows y = z := fun z => by
              rw [List.mem_map]
              constructor
              · rintro ⟨y, hy, rfl⟩
                obtain ⟨h1, h2⟩ := List.mem_filter.mp hy
                exact ⟨y, h1, h2, rfl⟩
              · rintro ⟨y, h1, h2, rfl⟩
                exact ⟨y, List.mem_filter.mpr ⟨h1, h2⟩, rfl⟩
            have lenL : ((C.filter fun x => HT.lexLt [due_ rows x, x] [due_ rows (k0 : Int), (k0 : Int)]).map (frm_ rows)).length ≤ 30 := by
              rw [List.length_map]
              refine Nat.le_trans (List.length_filter_le _ _) ?_
              omega
            generalize (C.filter fun x => HT.lexLt [due_ rows x, x] [due_ rows (k0 : Int), (k0 : Int)]).map (frm_ rows) = LV at hD7 memL lenL
            have e8 := ex_new (o := .lst [.int (hour + lfA lf (k0 : Int))]) e67 np1
            have hp1 := upd_same (H := H7) (a := p1) (o := .lst [.int (hour + lfA lf (k0 : Int))])
            have hD78 := fresh_at (u := .lst [.int (hour + lfA lf (k0 : Int))]) np1 hD7
            generalize upd H7 p1 (.lst [.int (hour + lfA lf (k0 : Int))]) = H8 at e8 hp1 hD78 ⊢
            refine q_catL hp1 hD78 (by rw [List.length_map]; show 1 + _ ≤ _; omega) (fun p2 np2 => ?_)
            have e9 := ex_new (o := .lst ([.int (hour + lfA lf (k0 : Int))] ++ LV.map V.int)) e8 np2
            have hp2 : upd H8 p2 (.lst ([.int (hour + lfA lf (k0 : Int))] ++ LV.map V.int)) p2 = some (.lst (((hour + lfA lf (k0 : Int)) :: LV).map V.int)) := upd_same
            generalize upd H8 p2 (.lst ([.int (hour + lfA lf (k0 : Int))] ++ LV.map V.int)) = H9 at e9 hp2 ⊢
            have e49 := e46.trans e9
            have hD49 := e49 _ _ hD4
            have hpp9 := e49 _ _ hpp4
            have lys := tp.len
            walk_at "go"
            refine q_minL hp2 (Nat.succ_pos _) (fun b hb ble => ?_)
            have b1 : b ≤ hour + lfA lf (k0 : Int) := ble _ List.mem_cons_self
            have b2 : hour < b := by
              rcases List.mem_cons.mp hb with h | h
              · omega
              · obtain ⟨y, hy, _, hf⟩ := (memL b).mp h
                have := ((cmem y).mp hy).2
                omega
            have ltx : ∀ y : Int, due_ rows y < due_ rows (k0 : Int) → HT.lexLt [due_ rows y, y] [due_ rows (k0 : Int), (k0 : Int)] = true := fun y h => by
              rw [HT.lexLt_cons, if_neg (by omega)]
              exact decide_eq_true h
            have st' := stp.step a0 a1 fr0 b2 (by omega) (fun y y0 y1 l d => by
              refine Classical.byContradiction fun c => ?_
              have := le _ (List.mem_map.mpr ⟨y, (wmem y).mpr ⟨⟨y0, y1⟩, l, by omega⟩, rfl⟩)
              rw [ltx y d] at this
              cases this) (fun y y0 y1 f d => ble _ (List.mem_cons_of_mem _ ((memL _).mpr ⟨y, (cmem y).mpr ⟨⟨y0, y1⟩, f⟩, ltx y d, rfl⟩)))
            rw [Int.toNat_natCast] at st'
            have hst' := hst.step a0 a1 fr0 b2 (by omega) (fun y y0 y1 l d => by
              have := le _ (List.mem_map.mpr ⟨y, (wmem y).mpr ⟨⟨y0, y1⟩, l, d⟩, rfl⟩)
              rw [lex_ahd] at this
              exact Classical.byContradiction fun no => absurd no (of_decide_eq_false this)) (fun y y0 y1 f d => ble _ (List.mem_cons_of_mem _ ((memL _).mpr ⟨y, (cmem y).mpr ⟨⟨y0, y1⟩, f⟩, by rw [lex_ahd]; exact decide_eq_true d, rfl⟩))) (by
              rcases List.mem_cons.mp hb with h | h
              · exact .inl (by omega)
              · obtain ⟨y, hy, hl, hf⟩ := (memL b).mp h
                rw [lex_ahd] at hl
                obtain ⟨⟨y0, y1⟩, yh⟩ := (cmem y).mp hy
                exact .inr ⟨y, ⟨y0, y1⟩, hf, of_decide_eq_true hl, stp.fresh ok y0 y1 yh⟩)
            rw [Int.toNat_natCast] at hst'
            have hk0 : lf[k0]? = some (lfA lf (k0 : Int)) := by
              unfold lfA
              rw [Int.toNat_natCast, List.getD_eq_getElem?_getD, List.getElem?_eq_getElem (by omega)]
              rfl
            have sset := sumT_set lf k0 (lfA lf (k0 : Int) - (b - hour)) _ hk0
            walk_at "go"
            rename_i t10 nt10
            have tpp : t10 ≠ pp := by
              rintro rfl
              rw [hpp9] at nt10
              cases nt10
            have hpp9' := fresh_at (u := .tup [.int (k0 : Int), .int hour, .int b]) nt10 hpp9
            have hD10 : upd (upd H9 t10 (.tup [.int (k0 : Int), .int hour, .int b])) pp (.lst (ys ++ [.ref t10])) D = some (.lst (lf.map V.int)) := upd_at Dpp (fresh_at nt10 hD49)
            have hpp10 : upd (upd H9 t10 (.tup [.int (k0 : Int), .int hour, .int b])) pp (.lst (ys ++ [.ref t10])) pp = some (.lst (ys ++ [.ref t10])) := upd_same
            have tp10 : Ts (upd (upd H9 t10 (.tup [.int (k0 : Int), .int hour, .int b])) pp (.lst (ys ++ [.ref t10]))) (ys ++ [.ref t10]) (ps ++ [[(k0 : Int), hour, b]]) := Ts.append (((tp.ex e49).ex (Ex.new nt10)).tp (Tp.upd hpp9')) (.cons (by rw [upd_ne tpp]; exact upd_same) .nil)
            have e10 := (ex_new (o := .tup [.int (k0 : Int), .int hour, .int b]) (e4.trans e49) nt10).mut (o := .lst (ys ++ [.ref t10])) npp0
            generalize upd (upd H9 t10 (.tup [.int (k0 : Int), .int hour, .int b])) pp (.lst (ys ++ [.ref t10])) = H10 at hD10 hpp10 tp10 e10 ⊢
            refine q_augS ?_
            walk_at "go"
            refine ⟨D, _, k0, _, rfl, rfl, SqL.of hD10, (by rw [List.getElem?_map, hk0]; rfl), ?_⟩
            walk_at "go"
            refine q_setL hD10 (j := k0) (by
              show (if (0 : Int) ≤ (k0 : Int) then (if (k0 : Int) < _ then some (k0 : Int).toNat else none) else _) = some k0
              rw [if_pos (by omega), if_pos (by rw [List.length_map]; omega), Int.toNat_natCast]) ?_
            walk_at "go"
            have hDF : upd H10 D (.lst ((lf.map V.int).set k0 (.int (lfA lf (k0 : Int) - (b - hour))))) D = some (.lst ((lf.set k0 (lfA lf (k0 : Int) - (b - hour))).map V.int)) := by
              rw [upd_same, List.map_set]
            refine ⟨⟨_, _, _, b, _, _, _, _, _, _, rfl, e10.mut nD, hDF, upd_at Dpp.symm hpp10, tp10.tp (Tp.upd hD10), st', hst', by rw [List.length_append]; show ps.length + 1 + _ ≤ _; omega⟩, ?_⟩
            unfold muW
            rw [hDF, hD4]
            have := cntF_le (rows := rows) (Int.le_of_lt b2)
            show (((lf.set k0 (lfA lf (k0 : Int) - (b - hour))).map V.int).map vT).sum + cntF rows b < ((lf.map V.int).map vT).sum + cntF rows hour
            rw [vT_sum, vT_sum]
            omega
      · rw [Bool.eq_false_iff.mpr any]
        rw [if_neg Bool.false_ne_true]
        have zero : ∀ x : Int, 0 ≤ x → x < rows.length → lfA lf x = 0 := fun x x0 x1 => by
          refine Classical.byContradiction fun ne => any (List.any_eq_true.mpr ⟨lfA lf x, ?_, decide_eq_true ne⟩)
          unfold lfA
          rw [List.getD_eq_getElem?_getD, List.getElem?_eq_getElem (by omega)]
          exact List.getElem_mem _
        walk_at "go"
        exact q _ pp ys ps lf hour e4 npp0 hpp4 tp stp hst zero (by omega)
    · intro σ H Q Q' m h
      obtain ⟨v, e, a', ns', l, sq, c, ec, hq⟩ := h
      exact ⟨v, e, a', ns', l, sq, c, ec, m _ _ hq⟩

end
end Bk33

namespace Bs
open PySem PySem.Spec PyProof.Rows L2
open Evl (Ex)
/-! ### a set comprehension over rows -/
def ScC (w : World) (J : It) (g : TG) (tt : TT) (te : TE) (τ : L2.St) (vs : List Nat) (D : Addr) (Qd : Hp → Prop) (H : Hp) : Prop := ∃ W : Nat → Nat → Hp → Prop, (∃ m, W 0 m H) ∧ ∀ i m H, W i m H →
  (J.stop i H ∧ Qd H) ∨ (J.go i H ∧ ∃ Nx : Hp → Prop, (∀ H', Nx H' → ∃ m', m' < m ∧ W (i + 1) m' H') ∧ ∀ x H', J.yld i H x H' → g x τ H' fun σ2 H2 => wipe σ2 vs = τ ∧ tt σ2 H2 fun b H3 =>
    if b = true then te σ2 H3 fun y H4 => ∃ (k : Int) (S : Int → Bool) (n : Nat), y = .int k ∧ H4 D = some (SetO w D S n) ∧ n + 1 < scanBound ∧ Nx (upd H4 D (SetO w D (fun j => S j || decide (j = k)) (if S k = true then n else n + 1))) else Nx H3)
theorem q_scI {w : World} {wi : TI} {g : TG} {tt : TT} {te : TE} {vs : List Nat} {σ τ : L2.St} {H : Hp} {Q : VK} (e : wipe σ vs = τ) (q : wi σ H fun J H1 => ∀ D, H1 D = none → ScC w J g tt te τ vs D (fun H2 => Q (.ref D) H2) (upd H1 D (SetO w D (fun _ => false) 0))) : tScI w wi g tt te vs σ H Q := by
  subst e
  exact q
theorem sc_mapR {w : World} {K : PySem.W.Frag} {g : TG} {te : TE} {τ : L2.St} {vs : List Nat} {D : Addr} {Qd : Hp → Prop} {H : Hp} {a : Addr} {xs : List V} {rows : List (List Int)} (fn : List Int → Int) (nD : H D = none) (ha : H a = some (.lst xs)) (ts : Ts H xs rows) (small : rows.length ≤ 60)
    (turn : ∀ (t : Addr) (r : List Int) (H1 : Hp), r ∈ rows → Ex H H1 → H1 t = some (.tup (r.map V.int)) → ∀ R : VK, (∀ H2, Ex H1 H2 → R (.int (fn r)) H2) → TurnE g tYes te τ vs (.ref t) R H1)
    (q : ∀ H' S n, Ex H H' → H' D = some (SetO w D S n) → n ≤ rows.length → (∀ k, S k = true ↔ ∃ r ∈ rows, fn r = k) → Qd H') : ScC w (Itl K a) g tYes te τ vs D Qd (upd H D (SetO w D (fun _ => false) 0)) := by
  have l := ts.len
  refine ⟨fun i m H' => m = xs.length - i ∧ i ≤ xs.length ∧ Ex H H' ∧ ∃ S n, H' D = some (SetO w D S n) ∧ n ≤ i ∧ ∀ k, S k = true ↔ ∃ r ∈ rows.take i, fn r = k, ⟨xs.length, by simp, Nat.zero_le _, Ex.new nD, _, 0, upd_same, Nat.le_refl _, fun k => ?_⟩, ?_⟩
  · constructor
    · intro h
      cases h
    · rintro ⟨r, hr, _⟩
      simp at hr
  rintro i m H' ⟨rfl, hi, e, S, n, hD, hn, hS⟩
  have sq : SqL K H' a xs := SqL.of (e _ _ ha)
  by_cases hlt : i < xs.length
  · refine .inr ⟨⟨xs, xs[i], sq, by simp [hlt]⟩, fun H'' => Ex H H'' ∧ ∃ S n, H'' D = some (SetO w D S n) ∧ n ≤ i + 1 ∧ ∀ k, S k = true ↔ ∃ r ∈ rows.take (i + 1), fn r = k, fun H'' p => ⟨xs.length - (i + 1), by omega, rfl, hlt, p⟩, fun x H'' y => ?_⟩
    obtain ⟨ey, y⟩ := y
    subst ey
    have hx := y xs sq
    obtain ⟨t, r, rfl, hr, ht⟩ := ts.get hx
    refine turn t r _ (List.mem_of_getElem? hr) e (e _ _ ht) _ fun H2 e2 => ?_
    refine ⟨fn r, S, n, rfl, e2 _ _ hD, by unfold scanBound; omega, (e.trans e2).mut nD, _, _, upd_same, ?_, fun k => ?_⟩
    · split <;> omega
    · rw [Bool.or_eq_true, decide_eq_true_eq, hS k, take_snoc hr]
      constructor
      · rintro (⟨z, hz, h⟩ | h)
        · exact ⟨z, List.mem_append_left _ hz, h⟩
        · exact ⟨r, List.mem_append_right _ List.mem_cons_self, h.symm⟩
      · rintro ⟨z, hz, h⟩
        rcases List.mem_append.mp hz with hz | hz
        · exact .inl ⟨z, hz, h⟩
        · rw [List.mem_singleton.mp hz] at h
          exact .inr h.symm
  · have ei : i = xs.length := by omega
    subst ei
    rw [l, List.take_length] at hS
    exact .inl ⟨⟨xs, sq, Nat.le_refl _⟩, q H' S n e hD (by omega) hS⟩
/-- the truth of a thing -/
def tTruK (K : PySem.W.Frag) (ta : TE) : TT := fun σ H Q => ta σ H fun x H' => ∃ k, TruV K x H' k ∧ Q k H'
theorem pt_truthK {X : Cx} {K : PySem.W.Frag} {a : Expr} {ta : TE} (ha : PE X a ta) (he : ∀ whole, isTrue a X.env whole = (do let v ← whole; standAt a.pos; holding [v] (truthy v))) (h : X.K = K := by rfl) : PT X a (tTruK K ta) := h ▸ pt_truth ha he
theorem q_truK {K : PySem.W.Frag} {ta : TE} {σ : L2.St} {H : Hp} {Q : Bool → Hp → Prop} (q : ta σ H fun x H' => ∃ k, TruV K x H' k ∧ Q k H') : tTruK K ta σ H Q := q
end Bs

namespace Bs
open PySem PySem.Spec PyProof.Rows L2
open Evl (Ex)
/-! ### which set is told -/
def IsFs (rows : List (List Int)) (g : Int → Int) (l : List Int) : Prop := l.Pairwise (· < ·) ∧ ∀ f : Int, f ∈ l ↔ ∃ y : Int, 0 ≤ y ∧ y < rows.length ∧ g y = f
theorem IsFs.uniq {rows : List (List Int)} {g : Int → Int} {l m : List Int} (h : IsFs rows g l) (k : IsFs rows g m) : l = m :=
  eq_of_ord (fun a b z w => by omega) h.1 k.1 fun f => (h.2 f).trans (k.2 f).symm
def tolL (rows : List (List Int)) (fs ds : List Int) : List (List Int) := fs.flatMap fun f => ds.map (thr rows f)
theorem tolL_snoc (rows : List (List Int)) (fs ds : List Int) (f : Int) : tolL rows (fs ++ [f]) ds = tolL rows fs ds ++ ds.map (thr rows f) := by
  unfold tolL
  rw [List.flatMap_append]
  simp
def FirstIn {α : Type} (P : α → Prop) (l : List α) : List α → Prop
  | [] => ∀ S ∈ l, ¬ P S
  | S :: _ => ∃ l1 l2, l = l1 ++ S :: l2 ∧ (∀ T ∈ l1, ¬ P T) ∧ P S
section
variable {α : Type} {P : α → Prop} {l : List α}
theorem FirstIn.skip {vs : List α} {S : α} (h : FirstIn P l vs) (no : ¬ P S) : FirstIn P (l ++ [S]) vs := by
  cases vs with
  | nil =>
    intro T hT
    rcases List.mem_append.mp hT with hT | hT
    · exact h T hT
    · rw [List.mem_singleton.mp hT]
      exact no
  | cons V vs =>
    obtain ⟨l1, l2, rfl, a, b⟩ := h
    exact ⟨l1, l2 ++ [S], by simp, a, b⟩
theorem FirstIn.take {vs : List α} {S : α} (h : FirstIn P l vs) (yes : P S) : FirstIn P (l ++ [S]) (vs ++ [S]) := by
  cases vs with
  | nil => exact ⟨l, [], rfl, h, yes⟩
  | cons V vs =>
    obtain ⟨l1, l2, rfl, a, b⟩ := h
    exact ⟨l1, l2 ++ [S], by simp, a, b⟩
theorem FirstIn.uniq {S T : α} {vs ws : List α} (h : FirstIn P l (S :: vs)) (k : FirstIn P l (T :: ws)) : S = T := by
  obtain ⟨l1, l2, rfl, a, b⟩ := h
  obtain ⟨m1, m2, e, c, d⟩ := k
  induction l1 generalizing m1 with
  | nil =>
    cases m1 with
    | nil =>
      injection e
    | cons x m1 =>
      injection e with e1 e2
      subst e1
      exact absurd b (c _ List.mem_cons_self)
  | cons x l1 ih =>
    cases m1 with
    | nil =>
      injection e with e1 e2
      subst e1
      exact absurd d (a _ List.mem_cons_self)
    | cons y m1 =>
      injection e with e1 e2
      exact ih (fun T hT => a T (List.mem_cons_of_mem _ hT)) m1 e2 fun T hT => c T (List.mem_cons_of_mem _ hT)
end
def IsTold (rows : List (List Int)) (late : Int) (S : List Int) : Prop := ∃ fs ds vs, IsFs rows (frm_ rows) fs ∧ IsFs rows (due_ rows) ds ∧ FirstIn (fun S => S ≠ [] ∧ IsPB rows S late) (tolL rows fs ds) (S :: vs)
theorem IsTold.uniq {rows : List (List Int)} {late : Int} {S T : List Int} (h : IsTold rows late S) (k : IsTold rows late T) : S = T := by
  obtain ⟨fs, ds, vs, a, b, c⟩ := h
  obtain ⟨fs', ds', vs', a', b', c'⟩ := k
  obtain rfl := a.uniq a'
  obtain rfl := b.uniq b'
  exact c.uniq c'
/-! ### the same rows later -/
def latR (c : Int) (r : List Int) : List Int := [r.getD 0 0, r.getD 1 0 + c, r.getD 2 0, r.getD 3 0]
structure Later (rows gs : List (List Int)) (c : Nat) : Prop where
  len : gs.length = rows.length
  cell : ∀ x : Int, 0 ≤ x → x < rows.length → len_ gs x = len_ rows x ∧ frm_ gs x = frm_ rows x + c ∧ due_ gs x = due_ rows x
  first : (gs.map fun r => r.getD 0 0) = rows.map fun r => r.getD 0 0
theorem latR_later (rows : List (List Int)) (c : Nat) : Later rows (rows.map (latR c)) c where
  len := List.length_map _
  cell x x0 x1 := by
    have h : x.toNat < rows.length := by omega
    have e : (rows.map (latR c)).getD x.toNat [] = latR c (rows.getD x.toNat []) := by
      rw [List.getD_eq_getElem?_getD, List.getD_eq_getElem?_getD, List.getElem?_map, List.getElem?_eq_getElem h]
      rfl
    refine ⟨?_, ?_, ?_⟩
    · show ((rows.map (latR c)).getD x.toNat []).getD 0 0 = (rows.getD x.toNat []).getD 0 0
      rw [e]
      rfl
    · show ((rows.map (latR c)).getD x.toNat []).getD 1 0 = (rows.getD x.toNat []).getD 1 0 + c
      rw [e]
      rfl
    · show ((rows.map (latR c)).getD x.toNat []).getD 2 0 = (rows.getD x.toNat []).getD 2 0
      rw [e]
      rfl
  first := by
    rw [List.map_map]
    rfl
section
variable {rows gs : List (List Int)} {c : Nat}
theorem Later.avL (la : Later rows gs c) (lf : List Int) (t : Nat) : Bs.avL gs lf ((c + t : Nat) : Int) = Bs.avL rows lf (t : Int) := by
  unfold Bs.avL
  rw [la.len]
  refine List.filter_congr fun x hx => ?_
  have hx := upTo_mem.mp hx
  rw [(la.cell x hx.1 hx.2).2.1]
  congr 1
  exact decide_eq_decide.mpr (by omega)
theorem Later.leastK (la : Later rows gs c) : ∀ l : List Int, (∀ x ∈ l, 0 ≤ x ∧ x < rows.length) → Bs.leastK gs l = Bs.leastK rows l
  | [], _ => rfl
  | x :: l, h => by
    have ih := la.leastK l fun y hy => h y (List.mem_cons_of_mem _ hy)
    have hx := h x List.mem_cons_self
    unfold Bs.leastK
    rw [ih]
    cases e : Bs.leastK rows l with
    | none => rfl
    | some y =>
      have hy := h y (List.mem_cons_of_mem _ (leastK_some e).1)
      have : Ahd gs x y ↔ Ahd rows x y := by
        unfold Ahd
        rw [(la.cell x hx.1 hx.2).2.2, (la.cell y hy.1 hy.2).2.2]
      show (if Ahd gs x y then some x else some y) = if Ahd rows x y then some x else some y
      by_cases a : Ahd rows x y
      · rw [if_pos a, if_pos (this.mpr a)]
      · rw [if_neg a, if_neg fun z => a (this.mp z)]
theorem Later.lefts (la : Later rows gs c) (f0 : ∀ x : Int, 0 ≤ x → x < rows.length → 0 ≤ frm_ rows x) : ∀ t : Nat, Bs.lefts gs (c + t) = Bs.lefts rows t ∧ Bs.wkd gs (c + t) = Bs.wkd rows t := by
  have w : ∀ t : Nat, Bs.lefts gs (c + t) = Bs.lefts rows t → Bs.wkd gs (c + t) = Bs.wkd rows t := fun t e => by
    unfold Bs.wkd
    rw [e, la.avL, la.leastK _ fun x hx => (avL_mem.mp hx).1]
  intro t
  induction t with
  | zero =>
    have id := wkd_idle (rows := gs) (t := 0) rfl c (fun y y0 y1 _ => by
      rw [la.len] at y1
      rw [(la.cell y y0 y1).2.1]
      have := f0 y y0 y1
      omega)
    have e := (id c (by omega)).1
    rw [Nat.zero_add] at e
    have e : Bs.lefts gs (c + 0) = Bs.lefts rows 0 := e.trans la.first
    exact ⟨e, w 0 e⟩
  | succ t ih =>
    have e : Bs.lefts gs (c + (t + 1)) = Bs.lefts rows (t + 1) := by
      rw [← Nat.add_assoc, lefts_succ, lefts_succ, ih.1, ih.2]
    exact ⟨e, w _ e⟩
theorem Later.idle (la : Later rows gs c) (f0 : ∀ x : Int, 0 ≤ x → x < rows.length → 0 ≤ frm_ rows x) : ∀ t : Nat, t < c → Bs.wkd gs t = none := fun t h => by
  have id := wkd_idle (rows := gs) (t := 0) rfl c (fun y y0 y1 _ => by
    rw [la.len] at y1
    rw [(la.cell y y0 y1).2.1]
    have := f0 y y0 y1
    omega)
  have := (id t (by omega)).2 (by omega)
  rwa [Nat.zero_add] at this
def latP (c : Nat) (p : List Int) : List Int := [pN p, pH p + c, pB p + c]
theorem Later.pcs (la : Later rows gs c) (f0 : ∀ x : Int, 0 ≤ x → x < rows.length → 0 ≤ frm_ rows x) {ps : List (List Int)} {T : Nat} (h : IsPcs (Bs.wkd rows) ps T) : IsPcs (Bs.wkd gs) (ps.map (latP c)) (c + T) where
  form p hp := by
    obtain ⟨q, hq, rfl⟩ := List.mem_map.mp hp
    obtain ⟨x, h1, b1, rfl, a1, a2, a3⟩ := h.form q hq
    refine ⟨x, c + h1, c + b1, ?_, by omega, by omega, fun t t1 t2 => ?_⟩
    · show [x, (h1 : Int) + c, (b1 : Int) + c] = _
      congr 1
      congr 1
      · omega
      · congr 1
        omega
    · have := (la.lefts f0 (t - c)).2
      rw [show c + (t - c) = t by omega] at this
      rw [this]
      exact a3 _ (by omega) (by omega)
  ord := by
    rw [List.pairwise_map]
    exact h.ord.imp fun {p q} le => by
      show pB p + (c : Int) ≤ pH q + (c : Int)
      omega
  all t x ht e := by
    by_cases k : t < c
    · rw [la.idle f0 t k] at e
      cases e
    · have := (la.lefts f0 (t - c)).2
      rw [show c + (t - c) = t by omega] at this
      rw [this] at e
      obtain ⟨p, hp, n1, n2, n3⟩ := h.all (t - c) x (by omega) e
      refine ⟨_, List.mem_map.mpr ⟨p, hp, rfl⟩, n1, ?_, ?_⟩
      · show pH p + (c : Int) ≤ t
        omega
      · show (t : Int) < pB p + c
        omega
  stop p hp b eb lt := by
    obtain ⟨q, hq, rfl⟩ := List.mem_map.mp hp
    obtain ⟨x, h1, b1, rfl, a1, a2, a3⟩ := h.form q hq
    have eb : (b1 : Int) + c = b := eb
    have := (la.lefts f0 b1).2
    rw [show c + b1 = b by omega] at this
    rw [this]
    exact h.stop _ hq b1 rfl (by omega)
end
end Bs


namespace Bk33
open PySem PySem.Spec PyProof.Rows L2 Bs
open Evl (Ex)

section
variable {P : Program} {w : World} {K : PySem.W.Frag} {mg : Str → Option Value} {base : Heap}
def spPBound : Sp := fun vs H Q _ => ∃ (a o : Addr) (xs : List V) (rows : List (List Int)) (S : List Int), vs = [.ref a, .ref o] ∧ H a = some (.lst xs) ∧ Ts H xs rows ∧ Rows4 rows ∧ H o = some (.lst (S.map V.int)) ∧ S ≠ [] ∧ S.length ≤ 30 ∧ (∀ x ∈ S, 0 ≤ x ∧ x < rows.length) ∧
  ∀ H' v, Ex H H' → IsPB rows S v → Q (.int v) H'
theorem ok_parted_bound (T : Tx K mg) : Cal P w K mg base 1 "parted_bound" ["rows", "some"] spPBound := by
  refine T.d_parted_bound.cal sc_parted_bound (fun vs H Q E h => ?_) (fun f cdv A outer s H vs Q E hr h => ?_)
  · obtain ⟨_, _, _, _, _, rfl, _⟩ := h
    rfl
  · obtain ⟨a, o, xs, rows, S, rfl, ha, ts, ok, ho, ne, l30, bd, q⟩ := h
    refine ⟨_, (pss_cons (ps_set (i := 2) sc_parted_bound.nd rfl (.inl rfl) (pe_callB (au_min (K := K) rfl) (by rfl) T.b_min (by decide +kernel) (pa_cons (pe_lc (own := [("number", 4)]) rfl sc_parted_bound.nd (piLK (K := K) (pv 1)) (blkOk_by (own := [("number", 4)]) (N := N_parted_bound) (sc := defScope s_parted_bound) (by decide +kernel)) (fun _ _ _ _ _ => (pg_name (i := 4) sc_parted_bound.nd rfl (.inl rfl))) (fun _ _ _ _ _ => pts_nil) (fun _ _ _ _ _ => (pe_ix (ixT (K := K)) (pe_ix (ixL (K := K)) (pv 0) (pv 4) (fun _ _ => rfl)) (pe_globE rfl T.c_FROM) (fun _ _ => rfl)))) pa_nil)))
    (pss_cons (ps_set (i := 3) sc_parted_bound.nd rfl (.inl rfl) (pe_callB (au_max (K := K) rfl) (by rfl) T.b_max (by decide +kernel) (pa_cons (pe_lc (own := [("number", 4)]) rfl sc_parted_bound.nd (piLK (K := K) (pv 1)) (blkOk_by (own := [("number", 4)]) (N := N_parted_bound) (sc := defScope s_parted_bound) (by decide +kernel)) (fun _ _ _ _ _ => (pg_name (i := 4) sc_parted_bound.nd rfl (.inl rfl))) (fun _ _ _ _ _ => pts_nil) (fun _ _ _ _ _ => (pe_ix (ixT (K := K)) (pe_ix (ixL (K := K)) (pv 0) (pv 4) (fun _ _ => rfl)) (pe_globE rfl T.c_BY) (fun _ _ => rfl)))) pa_nil)))
    (pss_one (ps_ret (pe_op op_sub (pe_op op_add (pv 2) (pe_callB (au_sum (K := K) rfl) (by rfl) T.b_sum (by decide +kernel) (pa_cons (pe_lc (own := [("number", 4)]) rfl sc_parted_bound.nd (piLK (K := K) (pv 1)) (blkOk_by (own := [("number", 4)]) (N := N_parted_bound) (sc := defScope s_parted_bound) (by decide +kernel)) (fun _ _ _ _ _ => (pg_name (i := 4) sc_parted_bound.nd rfl (.inl rfl))) (fun _ _ _ _ _ => pts_nil) (fun _ _ _ _ _ => (pe_ix (ixT (K := K)) (pe_ix (ixL (K := K)) (pv 0) (pv 4) (fun _ _ => rfl)) (pe_globE rfl T.c_LENGTH) (fun _ _ => rfl)))) pa_nil))) (pv 3)))))), q_start (τ := [some _, some _, none, none, none]) rfl ?_⟩
    have pos : 0 < S.length := List.length_pos_iff.mpr ne
    walk_at "go"
    intro D nD
    refine lcp_mapIL (frm_ rows) nD ho (by omega) (fun n H1 hn e1 R r => ?_) (fun H1 e1 hD => ?_)
    · have nb := bd n hn
      obtain ⟨tt, et, htt, _⟩ := r4_at (ts.ex e1) ok nb.1 nb.2
      walk_at "go"
      refine q_ixL (e1 _ _ ha) et ?_
      walk_at "go"
      exact r _ (Ex.refl _)
    walk_at "go"
    refine q_minL hD (by rw [List.length_map]; exact pos) (fun f hf fle => ?_)
    have ho1 := e1 _ _ ho
    walk_at "go"
    intro D2 nD2
    refine lcp_mapIL (due_ rows) nD2 ho1 (by omega) (fun n H2 hn e2 R r => ?_) (fun H2 e2 hD2 => ?_)
    · have nb := bd n hn
      obtain ⟨tt, et, htt, _⟩ := r4_at (ts.ex (e1.trans e2)) ok nb.1 nb.2
      walk_at "go"
      refine q_ixL ((e1.trans e2) _ _ ha) et ?_
      walk_at "go"
      exact r _ (Ex.refl _)
    walk_at "go"
    refine q_maxL hD2 (by rw [List.length_map]; exact pos) (fun d hd dle => ?_)
    have ho2 := e2 _ _ ho1
    walk_at "go"
    intro D3 nD3
    refine lcp_mapIL (len_ rows) nD3 ho2 (by omega) (fun n H3 hn e3 R r => ?_) (fun H3 e3 hD3 => ?_)
    · have nb := bd n hn
      obtain ⟨tt, et, htt, _⟩ := r4_at (ts.ex (e1.trans (e2.trans e3))) ok nb.1 nb.2
      walk_at "go"
      refine q_ixL ((e1.trans (e2.trans e3)) _ _ ha) et ?_
      walk_at "go"
      exact r _ (Ex.refl _)
    walk_at "go"
    obtain ⟨x, hx, ex⟩ := List.mem_map.mp hf
    obtain ⟨y, hy, ey⟩ := List.mem_map.mp hd
    exact q _ _ (e1.trans (e2.trans e3)) ⟨f, d, ⟨x, hx, ex⟩, fun z hz => fle _ (List.mem_map.mpr ⟨z, hz, rfl⟩), ⟨y, hy, ey⟩, fun z hz => dle _ (List.mem_map.mpr ⟨z, hz, rfl⟩), rfl⟩
/-- lists of whole numbers, each by itself new -/
def Sts (rows : List (List Int)) (H0 H : Hp) (pt : Addr) (ys : List V) (tl : List (List Int)) : Prop := ys.length = tl.length ∧ ∀ (j : Nat) (v : V), ys[j]? = some v → ∃ (t : Addr) (S : List Int), tl[j]? = some S ∧ v = .ref t ∧ t ≠ pt ∧ H0 t = none ∧ H t = some (.lst (S.map V.int)) ∧ S.Pairwise (· < ·) ∧ ∀ x ∈ S, 0 ≤ x ∧ x < rows.length
theorem Sts.ex {rows : List (List Int)} {H0 H H' : Hp} {pt : Addr} {ys : List V} {tl : List (List Int)} (h : Sts rows H0 H pt ys tl) (e : Ex H H') : Sts rows H0 H' pt ys tl := ⟨h.1, fun j v k => by
  obtain ⟨t, S, a, b, c, d, f, g⟩ := h.2 j v k
  exact ⟨t, S, a, b, c, d, e _ _ f, g⟩⟩
theorem Sts.put {rows : List (List Int)} {H0 H : Hp} {pt : Addr} {u : HO} {ys : List V} {tl : List (List Int)} (h : Sts rows H0 H pt ys tl) : Sts rows H0 (upd H pt u) pt ys tl := ⟨h.1, fun j v k => by
  obtain ⟨t, S, a, b, c, d, f, g⟩ := h.2 j v k
  exact ⟨t, S, a, b, c, d, upd_at c f, g⟩⟩
theorem Sts.snoc {rows : List (List Int)} {H0 H : Hp} {pt t : Addr} {ys : List V} {tl : List (List Int)} {S : List Int} (h : Sts rows H0 H pt ys tl) (c : t ≠ pt) (d : H0 t = none) (f : H t = some (.lst (S.map V.int))) (g : S.Pairwise (· < ·)) (b : ∀ x ∈ S, 0 ≤ x ∧ x < rows.length) : Sts rows H0 H pt (ys ++ [.ref t]) (tl ++ [S]) := by
  refine ⟨by rw [List.length_append, List.length_append, h.1]; rfl, fun j v e => ?_⟩
  have l := h.1
  by_cases hj : j < ys.length
  · rw [List.getElem?_append_left hj] at e
    rw [List.getElem?_append_left (by omega)]
    exact h.2 j v e
  · rw [List.getElem?_append_right (by omega)] at e
    have := (List.getElem?_eq_some_iff.mp e).1
    have k0 : j - ys.length = 0 := by simp at this; omega
    rw [k0] at e
    obtain rfl := Option.some.inj e
    exact ⟨t, S, by rw [List.getElem?_append_right (by omega), show j - tl.length = 0 by omega]; rfl, rfl, c, d, f, g, b⟩
theorem thr_up (rows : List (List Int)) (f d : Int) : (thr rows f d).Pairwise (· < ·) := (upTo_lt _).sublist List.filter_sublist
def spPSet : Sp := fun vs H Q _ => ∃ (a : Addr) (xs : List V) (rows : List (List Int)) (late : Int), vs = [.ref a, .int late] ∧ H a = some (.lst xs) ∧ Ts H xs rows ∧ Rows4 rows ∧ 1 ≤ rows.length ∧ rows.length ≤ 30 ∧
  (∃ x y : Int, (0 ≤ x ∧ x < rows.length) ∧ (0 ≤ y ∧ y < rows.length) ∧ thr rows (frm_ rows y) (due_ rows x) ≠ [] ∧ IsPB rows (thr rows (frm_ rows y) (due_ rows x)) late) ∧
  ∀ H' p (S : List Int), Ex H H' → H p = none → H' p = some (.lst (S.map V.int)) → S ≠ [] → S.Pairwise (· < ·) → (∀ x ∈ S, 0 ≤ x ∧ x < rows.length) → IsPB rows S late → IsTold rows late S → Q (.ref p) H'
theorem ok_parted_set (T : Tx K mg) : Cal P w K mg base 2 "parted_set" ["rows", "late"] spPSet := by
  have G_parted_bound : Cal P w K mg base 1 "parted_bound" ["rows", "some"] spPBound := ok_parted_bound T
  refine T.d_parted_set.cal sc_parted_set (fun vs H Q E h => ?_) (fun f cdv A outer s H vs Q E hr h => ?_)
  · obtain ⟨_, _, _, _, rfl, _⟩ := h
    rfl
  · obtain ⟨a, xs, rows, late, rfl, ha, ts, ok, l1, l30, sm, q⟩ := h
    refine ⟨_, (pss_cons (ps_set (i := 2) sc_parted_set.nd rfl (.inl rfl) (pe_lst pa_nil))
    (pss_cons (ps_for PassesOwn.never rfl (piLK (K := K) (pe_callB (cr_sortedSet rfl) (by rfl) T.b_sorted (by decide +kernel) (pa_cons (pe_scI (own := [("row", 5)]) rfl sc_parted_set.nd (piLK (K := K) (pv 0)) (blkOk_by (own := [("row", 5)]) (N := N_parted_set) (sc := defScope s_parted_set) (by decide +kernel)) (fun _ _ _ _ _ => (pg_name (i := 5) sc_parted_set.nd rfl (.inl rfl))) (fun _ _ _ _ _ => pts_nil) (fun _ _ _ _ _ => (pe_ix (ixT (K := K)) (pv 5) (pe_globE rfl T.c_FROM) (fun _ _ => rfl)))) pa_nil))) (pg_name (i := 3) sc_parted_set.nd rfl (.inr rfl)) (pss_one (ps_for PassesOwn.never rfl (piLK (K := K) (pe_callB (cr_sortedSet rfl) (by rfl) T.b_sorted (by decide +kernel) (pa_cons (pe_scI (own := [("row", 5)]) rfl sc_parted_set.nd (piLK (K := K) (pv 0)) (blkOk_by (own := [("row", 5)]) (N := N_parted_set) (sc := defScope s_parted_set) (by decide +kernel)) (fun _ _ _ _ _ => (pg_name (i := 5) sc_parted_set.nd rfl (.inl rfl))) (fun _ _ _ _ _ => pts_nil) (fun _ _ _ _ _ => (pe_ix (ixT (K := K)) (pv 5) (pe_globE rfl T.c_BY) (fun _ _ => rfl)))) pa_nil))) (pg_name (i := 4) sc_parted_set.nd rfl (.inr rfl)) (pss_one (ps_expr (pe_bm PySem.F.plainAttrs_list PySem.F.slot_list_append PySem.F.type_list_append mt_append (pv 2) (pa_cons (pe_lc (own := [("row", 5), ("number", 6)]) rfl sc_parted_set.nd (pi_enum (by rfl) T.b_enumerate (pa_cons (pv 0) pa_nil)) (blkOk_by (own := [("row", 5), ("number", 6)]) (N := N_parted_set) (sc := defScope s_parted_set) (by decide +kernel)) (fun _ _ _ _ _ => (pgTK (K := K) (n := 2) (by rfl) (pgs_cons (pg_name (i := 6) sc_parted_set.nd rfl (.inl rfl)) (pgs_cons (pg_name (i := 5) sc_parted_set.nd rfl (.inl rfl)) pgs_nil)))) (fun _ _ _ _ _ => pts_one (PW.pt (pw_and (pt_cmpR op_ge (pe_ix (ixT (K := K)) (pv 5) (pe_globE rfl T.c_FROM) (fun _ _ => rfl)) (pv 3) (nomark _)) (pw_and1 (pt_cmpR op_le (pe_ix (ixT (K := K)) (pv 5) (pe_globE rfl T.c_BY) (fun _ _ => rfl)) (pv 4) (nomark _)))))) (fun _ _ _ _ _ => (pv 6))) pa_nil)))))))
    (pss_one (ps_ret (pe_ix (ixL (K := K)) (pe_lc (own := [("some", 7)]) rfl sc_parted_set.nd (piLK (K := K) (pv 2)) (blkOk_by (own := [("some", 7)]) (N := N_parted_set) (sc := defScope s_parted_set) (by decide +kernel)) (fun _ _ _ _ _ => (pg_name (i := 7) sc_parted_set.nd rfl (.inl rfl))) (fun _ _ _ _ _ => pts_one (PW.pt (pw_and (pt_truthK (K := K) (pv 7) (fun _ => rfl)) (pw_and1 (pt_cmpR op_eq (pe_cal G_parted_bound hr (by rfl) (pa_cons (pv 0) (pa_cons (pv 7) pa_nil))) (pv 1) (nomark _)))))) (fun _ _ _ _ _ => (pv 7))) pe_int (fun _ _ => rfl)))))), q_start (τ := [some _, some _, none, none, none, none, none, none]) rfl ?_⟩
    have lx := ts.len
    walk_at "go"
    rename_i pt npt
    have e1 := ex_new (o := .lst []) (Ex.refl H) npt
    have hpt := upd_same (H := H) (a := pt) (o := .lst [])
    generalize upd H pt (.lst []) = H1 at e1 hpt ⊢
    refine q_scI (τ := [some (.ref a), some (.int late), some (.ref pt), none, none, none, none, none]) rfl ?_
    have ha1 := e1 _ _ ha
    have ts1 := ts.ex e1
    walk_at "go"
    intro D nD
    refine sc_mapR (fun r => r.getD 1 0) nD ha1 ts1 (by omega) (fun t r H2 hr e2 ht0 R k => ?_) (fun H2 S n e12 hD hn hS => ?_)
    · obtain ⟨l, fm, du, wg, rfl, _⟩ := ok r hr
      have ht : H2 t = some (.tup [.int l, .int fm, .int du, .int wg]) := ht0
      clear ht0
      walk_at "go"
      exact k _ (Ex.refl _)
    have e2 := e1.trans e12
    have hpt2 := e12 _ _ hpt
    walk_at "go"
    refine ⟨D, S, n, rfl, hD, by omega, fun fs pf up mem ln np => ?_⟩
    have e3 := ex_new (o := .lst (fs.map V.int)) e2 np
    have hpf := upd_same (H := H2) (a := pf) (o := .lst (fs.map V.int))
    have hpt3 := fresh_at (u := .lst (fs.map V.int)) np hpt2
    have pfpt : pf ≠ pt := by
      rintro rfl
      rw [hpt2] at np
      cases np
    generalize upd H2 pf (.lst (fs.map V.int)) = H3 at e3 hpf hpt3 ⊢
    have isF : ∀ f : Int, f ∈ fs ↔ ∃ y : Int, 0 ≤ y ∧ y < rows.length ∧ frm_ rows y = f := fun f => by
      rw [mem f, hS f]
      constructor
      · rintro ⟨r, hr, rfl⟩
        obtain ⟨k, hk⟩ := List.mem_iff_getElem?.mp hr
        have hkl := (List.getElem?_eq_some_iff.mp hk).1
        refine ⟨(k : Int), by omega, by omega, ?_⟩
        show cAt rows 1 (k : Int) = _
        unfold cAt
        rw [Int.toNat_natCast, show rows.getD k [] = r by rw [List.getD_eq_getElem?_getD, hk]; rfl]
      · rintro ⟨y, y0, y1, rfl⟩
        refine ⟨rows.getD y.toNat [], ?_, rfl⟩
        rw [List.getD_eq_getElem?_getD, List.getElem?_eq_getElem (by omega)]
        exact List.getElem_mem _
    walk_at "go"
    refine loop_list (xs := fs.map V.int) (fun i σ H' => ∃ (ys : List V) (tl : List (List Int)) (t3 t4 : Option V), σ = [some (.ref a), some (.int late), some (.ref pt), t3, t4, none, none, none] ∧ Ex H H' ∧ H' pf = some (.lst (fs.map V.int)) ∧ H' pt = some (.lst ys) ∧ Sts rows H H' pt ys tl ∧ tl.length ≤ 30 * i ∧ (∀ f ∈ fs.take i, ∀ d : Int, (∃ x : Int, 0 ≤ x ∧ x < rows.length ∧ due_ rows x = d) → thr rows f d ∈ tl) ∧ (∀ ds, IsFs rows (due_ rows) ds → tl = tolL rows (fs.take i) ds) ∧ (0 < i → ∃ ds, IsFs rows (due_ rows) ds))
      ⟨[], [], _, _, rfl, e3, hpf, hpt3, ⟨rfl, fun j v k => by simp at k⟩, Nat.zero_le _, (fun f hf => by simp at hf), (fun ds _ => rfl), fun h => absurd h (by omega)⟩ ?_ ?_ ?_
    · rintro i σ H' _ ⟨_, _, _, _, rfl, _, h, _⟩
      exact h
    · rintro i x σ H4 hx ⟨ys, tl, t3, t4, rfl, e4, hpf4, hpt4, st, ltl, cov, tol, exd⟩
      obtain ⟨f, hf, rfl⟩ := map_get hx
      have hif := (List.getElem?_eq_some_iff.mp hf).1
      have ha4 := e4 _ _ ha
      have ts4 := ts.ex e4
      walk_at "go"
      refine q_scI (τ := [some (.ref a), some (.int late), some (.ref pt), some (.int f), t4, none, none, none]) rfl ?_
      walk_at "go"
      intro D2 nD2
      refine sc_mapR (fun r => r.getD 2 0) nD2 ha4 ts4 (by omega) (fun t r H5 hr e5 ht0 R k => ?_) (fun H5 S2 n2 e45 hD2 hn2 hS2 => ?_)
      · obtain ⟨l, fm, du, wg, rfl, _⟩ := ok r hr
        have ht : H5 t = some (.tup [.int l, .int fm, .int du, .int wg]) := ht0
        clear ht0
        walk_at "go"
        exact k _ (Ex.refl _)
      walk_at "go"
      refine ⟨D2, S2, n2, rfl, hD2, by omega, fun ds pd up2 mem2 ln2 np2 => ?_⟩
      have e46 := ex_new (o := .lst (ds.map V.int)) e45 np2
      have hpd := upd_same (H := H5) (a := pd) (o := .lst (ds.map V.int))
      have pdpt : pd ≠ pt := by
        rintro rfl
        rw [e45 _ _ hpt4] at np2
        cases np2
      generalize upd H5 pd (.lst (ds.map V.int)) = H6 at e46 hpd ⊢
      have isD : ∀ d : Int, (∃ x : Int, 0 ≤ x ∧ x < rows.length ∧ due_ rows x = d) → d ∈ ds := fun d ⟨x, x0, x1, hd⟩ => by
        rw [mem2 d, hS2 d]
        refine ⟨rows.getD x.toNat [], ?_, hd⟩
        rw [List.getD_eq_getElem?_getD, List.getElem?_eq_getElem (by omega)]
        exact List.getElem_mem _
      have isDs : IsFs rows (due_ rows) ds := ⟨up2, fun d => ⟨fun hd => by
        rw [mem2 d, hS2 d] at hd
        obtain ⟨r, hr, rfl⟩ := hd
        obtain ⟨k, hk⟩ := List.mem_iff_getElem?.mp hr
        have hkl := (List.getElem?_eq_some_iff.mp hk).1
        refine ⟨(k : Int), by omega, by omega, ?_⟩
        show cAt rows 2 (k : Int) = _
        unfold cAt
        rw [Int.toNat_natCast, show rows.getD k [] = r by rw [List.getD_eq_getElem?_getD, hk]; rfl], fun ⟨x, x0, x1, hx⟩ => isD d ⟨x, x0, x1, hx⟩⟩⟩
      walk_at "go"
      refine loop_list (xs := ds.map V.int) (fun j σ H' => ∃ (ys : List V) (tl2 : List (List Int)) (t4 : Option V), σ = [some (.ref a), some (.int late), some (.ref pt), some (.int f), t4, none, none, none] ∧ Ex H H' ∧ H' pf = some (.lst (fs.map V.int)) ∧ H' pd = some (.lst (ds.map V.int)) ∧ H' pt = some (.lst ys) ∧ Sts rows H H' pt ys tl2 ∧ tl2.length ≤ 30 * i + j ∧ (∀ S ∈ tl, S ∈ tl2) ∧ (∀ d ∈ ds.take j, thr rows f d ∈ tl2) ∧ tl2 = tl ++ (ds.take j).map (thr rows f))
        ⟨ys, tl, _, rfl, e4.trans e46, e46 _ _ hpf4, hpd, e46 _ _ hpt4, st.ex e46, by omega, (fun S h => h), (fun d hd => by simp at hd), by simp⟩ ?_ ?_ ?_
      · rintro j σ H' _ ⟨_, _, _, rfl, _, _, h, _⟩
        exact h
      · rintro j x σ H7 hx ⟨ys2, tl2, t4, rfl, e7, hpf7, hpd7, hpt7, st2, ltl2, old, cov2, tol2⟩
        obtain ⟨d, hd, rfl⟩ := map_get hx
        have ha7 := e7 _ _ ha
        have ts7 := ts.ex e7
        have hjd := (List.getElem?_eq_some_iff.mp hd).1
        have l900 : ys2.length ≤ 930 := by
          rw [st2.1]
          omega
        walk_at "go"
        intro D8 nD8
        have D8pt : D8 ≠ pt := by
          rintro rfl
          rw [hpt7] at nD8
          cases nD8
        refine lcp_enum (xs := xs) (fun k H' => Ex H7 H' ∧ H' D8 = some (.lst ((((Bs.upTo rows.length).take k).filter fun x => decide (f ≤ frm_ rows x) && decide (due_ rows x ≤ d)).map V.int))) ⟨Ex.new nD8, upd_same⟩ (fun k H' _ h => h.1 _ _ ha7) (fun k x H' t hx h nt => ?_) (fun H8 h => ?_)
        · obtain ⟨e8, hD8⟩ := h
          have hk := (List.getElem?_eq_some_iff.mp hx).1
          have hu := upTo_get (n := rows.length) (i := k) (by omega)
          obtain ⟨tt, ns, rfl, hns, htt⟩ := ts7.get hx
          have htt : H7 tt = some (.tup [.int (len_ rows (k : Nat)), .int (frm_ rows (k : Nat)), .int (due_ rows (k : Nat)), .int (wgt_ rows (k : Nat))]) := by rw [htt, rows4_is ok hns]; rfl
          have e9 := ex_new (o := .tup [.int (k : Nat), .ref tt]) e8 nt
          have hD9 := fresh_at (u := .tup [.int (k : Nat), .ref tt]) nt hD8
          have htt9 := e9 _ _ htt
          have lfl : ((((Bs.upTo rows.length).take k).filter fun x => decide (f ≤ frm_ rows x) && decide (due_ rows x ≤ d)).map V.int).length ≤ 30 := by
            rw [List.length_map]
            refine Nat.le_trans (List.length_filter_le _ _) ?_
            rw [List.length_take]
            omega
          generalize hg : upd H' t (.tup [.int (k : Nat), .ref tt]) = H9 at e9 hD9 htt9 ⊢
          have ht9 : H9 t = some (.tup [.int (k : Nat), .ref tt]) := by rw [← hg]; exact upd_same
          have no : ¬ (decide (f ≤ frm_ rows ((k : Nat) : Int)) && decide (due_ rows ((k : Nat) : Int) ≤ d)) = true → Ex H7 H9 ∧ H9 D8 = some (.lst ((((Bs.upTo rows.length).take (k + 1)).filter fun x => decide (f ≤ frm_ rows x) && decide (due_ rows x ≤ d)).map V.int)) := fun c => ⟨e9, by
            rw [hD9, take_snoc hu, List.filter_append, List.filter_cons_of_neg (p := fun x => decide (f ≤ frm_ rows x) && decide (due_ rows x ≤ d)) c, List.filter_nil, List.append_nil]⟩
          walk_at "go"
          refine q_ifD (fun c1 => ?_) (fun c1 => ?_)
          · walk_at "go"
            refine q_ifD (fun c2 => ?_) (fun c2 => ?_)
            · walk_at "go"
              refine ⟨e9.mut nD8, ?_⟩
              rw [upd_same, take_snoc hu, List.filter_append, List.filter_cons_of_pos (p := fun x => decide (f ≤ frm_ rows x) && decide (due_ rows x ≤ d)) (by rw [decide_eq_true c1, decide_eq_true c2]; rfl), List.filter_nil, List.map_append]
              rfl
            · exact no (by rw [decide_eq_false c2, Bool.and_false]; exact Bool.false_ne_true)
          · exact no (by rw [decide_eq_false c1, Bool.false_and]; exact Bool.false_ne_true)
        · obtain ⟨e78, hD8⟩ := h
          rw [List.take_of_length_le (by rw [upTo_len]; omega)] at hD8
          have hD8 : H8 D8 = some (.lst ((thr rows f d).map V.int)) := hD8
          have hpt8 := e78 _ _ hpt7
          have nD80 := Evl.fresh_back e7 nD8
          walk_at "go"
          refine ⟨ys2 ++ [.ref D8], tl2 ++ [thr rows f d], _, rfl, (e7.trans e78).mut npt, upd_at pfpt (e78 _ _ hpf7), upd_at pdpt (e78 _ _ hpd7), upd_same, ((st2.ex e78).snoc D8pt nD80 hD8 (thr_up rows f d) fun x hx => (thr_mem.mp hx).1).put, by rw [List.length_append]; show tl2.length + 1 ≤ _; omega, fun S hS => List.mem_append_left _ (old S hS), fun d' hd' => ?_, by rw [take_snoc hd, List.map_append, tol2, List.append_assoc]; rfl⟩
          rw [take_snoc hd] at hd'
          rcases List.mem_append.mp hd' with h | h
          · exact List.mem_append_left _ (cov2 d' h)
          · rw [List.mem_singleton.mp h]
            exact List.mem_append_right _ List.mem_cons_self
      · rintro σ H7 ⟨ys2, tl2, t4, rfl, e7, hpf7, hpd7, hpt7, st2, ltl2, old, cov2, tol2⟩
        rw [List.length_map] at ltl2 cov2 tol2
        rw [List.take_length] at cov2 tol2
        refine ⟨ys2, tl2, _, _, rfl, e7, hpf7, hpt7, st2, by omega, fun f' hf' d' hd' => ?_, (fun ds' h' => by
          rw [take_snoc hf, tolL_snoc, ← tol ds' h', tol2, isDs.uniq h']), fun _ => ⟨ds, isDs⟩⟩
        rw [take_snoc hf] at hf'
        rcases List.mem_append.mp hf' with h | h
        · exact old _ (cov f' h d' hd')
        · rw [List.mem_singleton.mp h]
          exact cov2 d' (isD d' hd')
    · rintro σ H4 ⟨ys, tl, t3, t4, rfl, e4, hpf4, hpt4, st, ltl, cov, tol, exd⟩
      rw [List.length_map, List.take_length] at cov
      have tol := fun ds h => (tol ds h).trans (by rw [List.length_map, List.take_length])
      rw [List.length_map] at ltl
      have lys := st.1
      have lfs : fs.length ≤ 30 := by omega
      obtain ⟨x0, y0, hx0, hy0, ne0, pb0⟩ := sm
      have mem0 : thr rows (frm_ rows y0) (due_ rows x0) ∈ tl := cov _ ((isF _).mpr ⟨y0, hy0.1, hy0.2, rfl⟩) _ ⟨x0, hx0.1, hx0.2, rfl⟩
      walk_at "go"
      intro D5 nD5
      refine lcp_list (xs := ys) (fun i H' => ∃ (os : List V) (vs : List (List Int)), Ex H4 H' ∧ H' D5 = some (.lst os) ∧ Sts rows H H' D5 os vs ∧ (∀ S ∈ vs, S ≠ [] ∧ IsPB rows S late) ∧ ((∃ S ∈ tl.take i, S ≠ [] ∧ IsPB rows S late) → os ≠ []) ∧ os.length ≤ i ∧ FirstIn (fun S => S ≠ [] ∧ IsPB rows S late) (tl.take i) vs) ⟨[], [], Ex.new nD5, upd_same, ⟨rfl, fun j v k => by simp at k⟩, (fun _ h => nomatch h), (fun ⟨_, h, _⟩ => by simp at h), Nat.le_refl _, fun S hS => by simp at hS⟩ (fun i H' _ h => ?_) (fun i x H5 hx h => ?_) (fun H5 h => ?_)
      · obtain ⟨_, _, e, _⟩ := h
        exact e _ _ hpt4
      · obtain ⟨os, vs, e5, hD5, so, good, sme, lo, fi⟩ := h
        obtain ⟨t, S, hS, rfl, tpt, tn, htS, upS, bdS⟩ := st.2 _ _ hx
        have hi := (List.getElem?_eq_some_iff.mp hS).1
        have htS5 := e5 _ _ htS
        have e05 := e4.trans e5
        have tD : t ≠ D5 := by
          rintro rfl
          rw [htS] at nD5
          cases nD5
        have lS30 : S.length ≤ 30 := Nat.le_trans (nodup_few (upS.imp fun {a b} h => by omega) bdS) l30
        have skip : ¬ (S ≠ [] ∧ IsPB rows S late) → (∃ S ∈ tl.take (i + 1), S ≠ [] ∧ IsPB rows S late) → os ≠ [] := fun c ⟨S', hS', c'⟩ => by
          rw [take_snoc hS] at hS'
          rcases List.mem_append.mp hS' with h | h
          · exact sme ⟨S', h, c'⟩
          · rw [List.mem_singleton.mp h] at c'
            exact absurd c' c
        have los : os.length ≤ 930 := by omega
        walk_at "go"
        refine q_truK ?_
        walk_at "go"
        by_cases hS0 : S = []
        · rw [show (S.map V.int).isEmpty = true by rw [hS0]; rfl]
          walk_at "go"
          exact ⟨os, vs, e5, hD5, so, good, (skip fun h => h.1 hS0), by omega, by rw [take_snoc hS]; exact fi.skip fun h => h.1 hS0⟩
        · rw [show (S.map V.int).isEmpty = false by cases hS1 : S with | nil => exact absurd hS1 hS0 | cons _ _ => rfl]
          walk_at "go"
          refine ⟨a, t, xs, rows, S, rfl, e05 _ _ ha, ts.ex e05, ok, htS5, hS0, lS30, bdS, fun H6 v e6 pb => ?_⟩
          have hD6 := e6 _ _ hD5
          walk_at "go"
          refine q_ifD (fun c => ?_) (fun c => ?_)
          · obtain rfl : v = late := c
            walk_at "go"
            refine ⟨os ++ [.ref t], vs ++ [S], (e5.trans e6).mut nD5, upd_same, ((so.ex e6).snoc tD tn (e6 _ _ htS5) upS bdS).put, fun S' hS' => ?_, (fun _ z => by simp at z), by rw [List.length_append]; exact Nat.succ_le_succ lo, by rw [take_snoc hS]; exact fi.take ⟨hS0, pb⟩⟩
            rcases List.mem_append.mp hS' with h | h
            · exact good S' h
            · rw [List.mem_singleton.mp h]
              exact ⟨hS0, pb⟩
          · exact ⟨os, vs, e5.trans e6, hD6, so.ex e6, good, (skip fun h => c (pb.uniq h.2)), by omega, by rw [take_snoc hS]; exact fi.skip fun h => c (pb.uniq h.2)⟩
      · obtain ⟨os, vs, e5, hD5, so, good, sme, lo, fi⟩ := h
        rw [lys, List.take_length] at sme
        have ne := sme ⟨_, mem0, ne0, pb0⟩
        obtain ⟨v, hv⟩ : ∃ v, os[0]? = some v := ⟨_, List.getElem?_eq_getElem (List.length_pos_iff.mpr ne)⟩
        obtain ⟨t, S, hS, rfl, _, tn, htS, upS, bdS⟩ := so.2 _ _ hv
        obtain ⟨g1, g2⟩ := good S (List.mem_of_getElem? hS)
        walk_at "go"
        refine q_ixL hD5 (atI_nat (j := 0) hv) ?_
        have isFs : IsFs rows (frm_ rows) fs := ⟨up, isF⟩
        have posf : 0 < fs.length := List.length_pos_iff.mpr fun z => by
          have := (isF _).mpr ⟨y0, hy0.1, hy0.2, rfl⟩
          rw [z] at this
          cases this
        obtain ⟨ds, isDs⟩ := exd (by rw [List.length_map]; exact posf)
        rw [lys, List.take_length, tol ds isDs] at fi
        obtain ⟨vs1, rfl⟩ : ∃ vs1, vs = S :: vs1 := by
          cases vs with
          | nil => simp at hS
          | cons S1 vs1 => exact ⟨vs1, by rw [show S1 = S from Option.some.inj hS]⟩
        exact q _ t S (e4.trans e5) tn htS g1 upS bdS g2 ⟨fs, ds, vs1, isFs, isDs, fi⟩

end
end Bk33


namespace Bk33
open PySem PySem.Spec PyProof.Rows L2 Bs
open Evl (Ex)

section
variable {P : Program} {w : World} {K : PySem.W.Frag} {mg : Str → Option Value} {base : Heap}
def spParted : Sp := fun vs H Q _ => ∃ (a : Addr) (xs : List V) (rows : List (List Int)), vs = [.ref a] ∧ H a = some (.lst xs) ∧ Ts H xs rows ∧ Rows4 rows ∧ 1 ≤ rows.length ∧ rows.length ≤ 30 ∧
  ∀ (H' : Hp) (r pz t : Addr) (zs : List V) (srt ps : List (List Int)) (lf : List Int) (hour L : Int) (S : List Int), Ex H H' → H r = none → H' r = some (.tup [.int L, .ref pz, .ref t]) → H pz = none → H' pz = some (.lst zs) → Ts H' zs srt → srt.Perm ps → Lex srt →
    Stp rows lf ps hour → Hst rows lf ps hour → (∀ x : Int, 0 ≤ x → x < rows.length → lfA lf x = 0) → ps.length ≤ 30000 → IsPL rows ps L → H t = none → H' t = some (.lst (S.map V.int)) → S ≠ [] → S.Pairwise (· < ·) → (∀ x ∈ S, 0 ≤ x ∧ x < rows.length) → IsPB rows S L → IsTold rows L S → Q (.ref r) H'
theorem ok_parted (T : Tx K mg) : Cal P w K mg base 5 "parted" ["rows"] spParted := by
  have G_is_machine_row : Cal P w K mg base 3 "is_machine_row" ["thing"] spOne := ok_is_machine_row T
  obtain ⟨fl, fdl, hm, kl, bl, F_one⟩ := G_is_machine_row.ex
  have G_need_rows : Cal P w K mg base 4 "need_rows" ["thing", "is_one"] (spNeed fl) := ok_need_rows T kl bl F_one
  have G_pieces_of : Cal P w K mg base 1 "pieces_of" ["rows"] spPieces := ok_pieces_of T
  have G_parted_set : Cal P w K mg base 2 "parted_set" ["rows", "late"] spPSet := ok_parted_set T
  refine T.d_parted.cal sc_parted (fun vs H Q E h => ?_) (fun f cdv A outer s H vs Q E hr h => ?_)
  · obtain ⟨_, _, _, rfl, _⟩ := h
    rfl
  · obtain ⟨a, xs, rows, rfl, ha, ts, ok, l1, l30, q⟩ := h
    refine ⟨_, (pss_cons (ps_expr (pe_cal G_need_rows hr (by rfl) (pa_cons (pv 0) (pa_cons (pe_glob (v := .ref fl) rfl hm rfl) pa_nil))))
    (pss_cons (ps_set (i := 1) sc_parted.nd rfl (.inl rfl) (pe_cal G_pieces_of (hr.mono (by decide)) (by rfl) (pa_cons (pv 0) pa_nil)))
    (pss_cons (ps_set (i := 2) sc_parted.nd rfl (.inl rfl) (pe_callB (au_max (K := K) rfl) (by rfl) T.b_max (by decide +kernel) (pa_cons (pe_lc (own := [("_", 3), ("behind", 4), ("number", 5)]) rfl sc_parted.nd (piLK (K := K) (pv 1)) (blkOk_by (own := [("_", 3), ("behind", 4), ("number", 5)]) (N := N_parted) (sc := defScope s_parted) (by decide +kernel)) (fun _ _ _ _ _ => (pgTK (K := K) (n := 3) (by rfl) (pgs_cons (pg_name (i := 5) sc_parted.nd rfl (.inl rfl)) (pgs_cons (pg_name (i := 3) sc_parted.nd rfl (.inl rfl)) (pgs_cons (pg_name (i := 4) sc_parted.nd rfl (.inl rfl)) pgs_nil))))) (fun _ _ _ _ _ => pts_nil) (fun _ _ _ _ _ => (pe_op op_sub (pv 4) (pe_ix (ixT (K := K)) (pe_ix (ixL (K := K)) (pv 0) (pv 5) (fun _ _ => rfl)) (pe_globE rfl T.c_BY) (fun _ _ => rfl))))) pa_nil)))
    (pss_one (ps_ret (pe_tup (pa_cons (pv 2) (pa_cons (pe_callB (cr_sortedNs (K := K)) (by rfl) T.b_sorted (by decide +kernel) (pa_cons (pv 1) pa_nil)) (pa_cons (pe_cal G_parted_set (hr.mono (by decide)) (by rfl) (pa_cons (pv 0) (pa_cons (pv 2) pa_nil))) pa_nil))))))))), q_start (τ := [some _, none, none, none, none, none]) rfl ?_⟩
    have lx := ts.len
    walk_at "go"
    refine ⟨a, xs, rfl, ha, by omega, by omega, goods ts ok, fun H1 e1 => ?_⟩
    walk_at "go"
    refine ⟨a, xs, rows, rfl, e1 _ _ ha, ts.ex e1, ok, l1, l30, fun H2 pp ys ps lf hour e12 npp hpp tp stp hst done l3 => ?_⟩
    have e2 := e1.trans e12
    have npp0 := Evl.fresh_back e1 npp
    have ha2 := e2 _ _ ha
    have ts2 := ts.ex e2
    have ne : ps ≠ [] := by
      rintro rfl
      have h1 := stp.wk 0 (by omega) (by omega)
      rw [done 0 (by omega) (by omega)] at h1
      have h2 := (ok.at (x := 0) (by omega) (by omega)).2.1
      have h3 : wrk [] 0 = 0 := rfl
      omega
    walk_at "go"
    intro D nD
    refine lcp_mapR (fun p => pB p - due_ rows (pN p)) nD hpp tp (by omega) (fun t p H3 hp e3 ht0 R k => ?_) (fun H3 e3 hD => ?_)
    · obtain ⟨x, h, b, rfl, x0, x1, _⟩ := stp.pc p hp
      have ht : H3 t = some (.tup [.int x, .int h, .int b]) := ht0
      clear ht0
      obtain ⟨tt, et, htt, _⟩ := r4_at (ts2.ex e3) ok x0 x1
      walk_at "go"
      refine q_ixL (e3 _ _ ha2) et ?_
      walk_at "go"
      exact k _ (Ex.refl _)
    walk_at "go"
    refine q_maxL hD (by rw [List.length_map]; exact List.length_pos_iff.mpr ne) (fun L hL top => ?_)
    have il : IsPL rows ps L := by
      obtain ⟨p, hp, e⟩ := List.mem_map.mp hL
      exact ⟨⟨p, hp, e.symm⟩, fun p hp => top _ (List.mem_map.mpr ⟨p, hp, rfl⟩)⟩
    have hpp3 := e3 _ _ hpp
    have tp3 := tp.ex e3
    have e03 := e2.trans e3
    walk_at "go"
    refine q_sortedNs hpp3 tp3 (fun r hr => ?_) (fun pz zs srt npz tz pm so => ?_)
    · obtain ⟨x, h, b, rfl, _⟩ := stp.pc r hr
      exact fun z => nomatch z
    have e4 := ex_new (o := .lst zs) e03 npz
    have tz4 := ts_new (o := .lst zs) npz tz
    have hpz := upd_same (H := H3) (a := pz) (o := .lst zs)
    have npz0 := Evl.fresh_back e03 npz
    generalize upd H3 pz (.lst zs) = H4 at e4 tz4 hpz ⊢
    walk_at "go"
    refine ⟨a, xs, rows, L, rfl, e4 _ _ ha, ts.ex e4, ok, l1, l30, stp.shown ok done il, fun H5 t S e45 nt ht neS up bd pb tld => ?_⟩
    have e5 := e4.trans e45
    have nt0 := Evl.fresh_back e4 nt
    have hpz5 := e45 _ _ hpz
    walk_at "go"
    rename_i r nr
    exact q _ r pz t zs srt ps lf hour L S (ex_new e5 nr) (Evl.fresh_back e5 nr) upd_same npz0 (fresh_at nr hpz5) (ts_new nr (tz4.ex e45)) pm so stp hst done l3 il nt0 (fresh_at nr ht) neS up bd pb tld

end
end Bk33


namespace Bk33
open PySem PySem.Spec PyProof.Rows L2 Bs
open Evl (Ex)

section
variable {P : Program} {w : World} {K : PySem.W.Frag} {mg : Str → Option Value} {base : Heap}
/-! rows near one another -/
theorem q_par3 {i j l : Nat} {ta : TA} {σ : L2.St} {H : Hp} {nx : L2.St → Hp → Prop} {rt : VK} {bk ct : L2.St → Hp → Prop} (q : ta σ H fun vs H1 => ∃ u v w, vs = [u, v, w] ∧ nx (((σ.set i (some u)).set j (some v)).set l (some w)) H1) : tPar3 i j l ta ⟨nx, rt, bk, ct⟩ σ H := q
def NearR (r : List Int) : Prop := ∃ l f b w : Int, r = [l, f, b, w] ∧ 1 ≤ l ∧ l ≤ 6 ∧ 0 ≤ f ∧ f ≤ 24 ∧ 0 ≤ b ∧ b ≤ 39 ∧ 0 ≤ w ∧ w ≤ 1000
theorem NearR.row {r : List Int} (h : NearR r) : Row4 r := by
  obtain ⟨l, f, b, w, rfl, h⟩ := h
  exact ⟨l, f, b, w, rfl, by omega⟩
def spNRows (K : PySem.W.Frag) : Sp := fun vs H Q _ => ∃ (a : Addr) (ns : List Int) (k most : Int), vs = [.ref a, .int k, .int most] ∧ SqL K H a (ns.map V.int) ∧ ns.length ≤ 63 ∧ 0 ≤ k ∧ k ≤ 10 ^ 3 ∧ 1 ≤ most ∧ most ≤ 30 ∧
  ∀ (p : Addr) (xs : List V) (rows : List (List Int)) (H' : Hp), 1 ≤ rows.length → (rows.length : Int) ≤ most → (∀ r ∈ rows, NearR r) → Ex H H' → H p = none → H' p = some (.lst xs) → Ts H' xs rows → Q (.ref p) H'
theorem ok__law_near_rows (T : Tx K mg) : Cal P w K mg base 3 "_law_near_rows" ["script", "k", "most"] (spNRows K) := by
  have G__law_draw : Cal P w K mg base 1 "_law_draw" ["script", "k"] (spDraw K) := ok__law_draw T
  have G__law_next : Cal P w K mg base 2 "_law_next" ["draw", "many"] spNext := ok__law_next T
  refine T.d__law_near_rows.cal sc__law_near_rows (fun vs H Q E h => ?_) (fun f cdv A outer s H vs Q E hr h => ?_)
  · obtain ⟨_, _, _, _, rfl, _⟩ := h
    rfl
  · obtain ⟨a, ns, k, most, rfl, hS, hl, k0, k1, m1, m2, q⟩ := h
    refine ⟨_, (pss_cons (ps_set (i := 3) sc__law_near_rows.nd rfl (.inl rfl) (pe_cal G__law_draw (hr.mono (by decide)) (by rfl) (pa_cons (pv 0) (pa_cons (pv 1) pa_nil))))
    (pss_cons (ps_set (i := 4) sc__law_near_rows.nd rfl (.inl rfl) (pe_lst pa_nil))
    (pss_cons (ps_for PassesOwn.never rfl (pi_range1 (by rfl) T.b_range (pa_cons (pe_op op_add pe_int (pe_cal G__law_next hr (by rfl) (pa_cons (pv 3) (pa_cons (pv 2) pa_nil)))) pa_nil)) (pg_name (i := 5) sc__law_near_rows.nd rfl (.inl rfl)) (pss_cons (ps_set (i := 6) sc__law_near_rows.nd rfl (.inl rfl) (pe_cal G__law_draw (hr.mono (by decide)) (by rfl) (pa_cons (pv 0) (pa_cons (pe_op op_add (pe_op op_add (pv 1) pe_int) (pv 5)) pa_nil))))
    (pss_cons (ps_par3 (i := 7) (j := 8) (l := 9) (by rfl) sc__law_near_rows.nd rfl rfl rfl (by decide) (by decide) (by decide) rfl rfl rfl (pa_cons (pe_op op_add pe_int (pe_cal G__law_next hr (by rfl) (pa_cons (pv 6) (pa_cons pe_int pa_nil)))) (pa_cons (pe_cal G__law_next hr (by rfl) (pa_cons (pv 6) (pa_cons pe_int pa_nil))) (pa_cons (pe_cal G__law_next hr (by rfl) (pa_cons (pv 6) (pa_cons pe_int pa_nil))) pa_nil))) (by rfl))
    (pss_one (ps_expr (pe_bm PySem.F.plainAttrs_list PySem.F.slot_list_append PySem.F.type_list_append mt_append (pv 4) (pa_cons (pe_tup (pa_cons (pv 7) (pa_cons (pv 8) (pa_cons (pv 9) (pa_cons (pe_cal G__law_next hr (by rfl) (pa_cons (pv 6) (pa_cons pe_int pa_nil))) pa_nil))))) pa_nil)))))))
    (pss_one (ps_ret (pv 4)))))), q_start (τ := [some _, some _, some _, none, none, none, none, none, none, none]) rfl ?_⟩
    walk_at "go"
    refine ⟨a, ns, k, rfl, hS, hl, by omega, by omega, fun d H1 e1 nd hd => ?_⟩
    walk_at "go"
    rename_i D nD
    have e2 := ex_new (o := .lst []) e1 nD
    have nD0 := Evl.fresh_back e1 nD
    have hD := upd_same (H := H1) (a := D) (o := .lst [])
    have hd2 := hd.ex (Ex.new (o := .lst []) nD)
    have dD := hd.ne nD
    generalize upd H1 D (.lst []) = H2 at e2 hD hd2 ⊢
    refine use_next hd2 (by omega) (by omega) (by omega) (fun n c3 H3 n0 n1 cc3 b3 hd3 => ?_)
    have e3 : Ex H H3 := But.toEx e2 b3 nd
    have hD3 := b3 _ _ dD.symm hD
    walk_at "go"
    refine loop_range (n := (1 + n).toNat) (fun i σ H' => ∃ (t4 t5 t6 t7 t8 : Option V) (ys : List V) (rows : List (List Int)), σ = [some (.ref a), some (.int k), some (.int most), some (.ref d), some (.ref D), t4, t5, t6, t7, t8] ∧ rows.length = i ∧ (∀ r ∈ rows, NearR r) ∧ H' D = some (.lst ys) ∧ Ts H' ys rows ∧ Ex H H') ⟨_, _, _, _, _, [], [], rfl, rfl, (fun _ h => nomatch h), hD3, .nil, e3⟩ ?_ ?_
    · rintro i σ H4 hi ⟨t4, t5, t6, t7, t8, ys, rows, rfl, l, ok, hD4, ts, e4⟩
      walk_at "go"
      refine ⟨a, ns, k + 1 + i, rfl, ex_s e4 hS, hl, by omega, by omega, fun dj H5 e5 ndj hdj => ?_⟩
      walk_at "go"
      refine q_par3 ?_
      walk_at "go"
      refine use_next hdj (by omega) (by omega) (by omega) (fun r1 c6 H6 p0 p1 cc6 b6 hd6 => ?_)
      walk_at "go"
      refine use_next hd6 (by omega) (by omega) (by omega) (fun r2 c7 H7 p2 p3 cc7 b7 hd7 => ?_)
      walk_at "go"
      refine use_next hd7 (by omega) (by omega) (by omega) (fun r3 c8 H8 p4 p5 cc8 b8 hd8 => ?_)
      walk_at "go"
      refine ⟨_, _, _, rfl, ?_⟩
      simp only [List.set_cons_zero, List.set_cons_succ]
      have e48 : Ex H4 H8 := But.toEx e5 ((b6.trans b7).trans b8) ndj
      have hD8 := e48 _ _ hD4
      have ly := ts.len
      walk_at "go"
      refine use_next hd8 (by omega) (by omega) (by omega) (fun r4 c9 H9 p6 p7 cc9 b9 hd9 => ?_)
      have e49 : Ex H4 H9 := But.toEx e5 (((b6.trans b7).trans b8).trans b9) ndj
      have hD9 := e49 _ _ hD4
      walk_at "go"
      rename_i p np
      have hD10 := fresh_at (u := .tup [.int (1 + r1), .int r2, .int r3, .int r4]) np hD9
      refine ⟨_, _, _, _, _, ys ++ [.ref p], rows ++ [[1 + r1, r2, r3, r4]], rfl, by rw [List.length_append, l]; rfl, fun z hz => ?_, upd_same, ?_, (ex_new (e4.trans e49) np).mut nD0⟩
      · rcases List.mem_append.mp hz with hz | hz
        · exact ok z hz
        · rw [List.mem_singleton.mp hz]
          exact ⟨_, _, _, _, rfl, by omega, by omega, by omega, by omega, by omega, by omega, by omega, by omega⟩
      · refine Ts.append ((ts_new np (ts.ex e49)).tp (Tp.upd hD10)) (.cons ?_ .nil)
        rw [upd_ne (ne_fresh' np hD9)]
        exact upd_same
    · rintro σ H4 ⟨t4, t5, t6, t7, t8, ys, rows, rfl, l, ok, hD4, ts, e4⟩
      walk_at "go"
      exact q D ys rows H4 (by omega) (by omega) ok e4 nD0 hD4 ts

end
end Bk33

namespace Bs
open PySem PySem.Spec PyProof.Rows L2
open Evl (Ex)
/-! ### the fewest late: lists that end in time, the table -/
def InA (len due : Int → Int) : Int → List Int → Prop
  | _, [] => True
  | h, x :: s => h + len x ≤ due x ∧ InA len due (h + len x) s
section
variable {len due : Int → Int}
theorem InA.mono : ∀ {s : List Int} {h h' : Int}, InA len due h s → h' ≤ h → InA len due h' s
  | [], _, _, _, _ => True.intro
  | x :: s, h, h', a, le => ⟨by have := a.1; omega, InA.mono (s := s) a.2 (by omega)⟩
theorem InA.sub : ∀ {s t : List Int} {h : Int}, s.Sublist t → (∀ x ∈ t, 0 ≤ len x) → InA len due h t → InA len due h s
  | _, _, _, .slnil, _, _ => True.intro
  | _, _, h, .cons x sb, nn, a => InA.sub sb (fun y hy => nn y (List.mem_cons_of_mem _ hy)) (a.2.mono (by have := nn x List.mem_cons_self; omega))
  | _, _, h, .cons₂ x sb, nn, a => ⟨a.1, InA.sub sb (fun y hy => nn y (List.mem_cons_of_mem _ hy)) a.2⟩
theorem InA.app : ∀ {s t : List Int} {h : Int}, InA len due h (s ++ t) ↔ InA len due h s ∧ InA len due (h + sumOf len s) t
  | [], t, h => by
    show InA len due h t ↔ True ∧ InA len due (h + sumOf len []) t
    rw [show h + sumOf len [] = h by unfold sumOf; simp]
    exact ⟨fun a => ⟨True.intro, a⟩, fun a => a.2⟩
  | x :: s, t, h => by
    show (h + len x ≤ due x ∧ InA len due (h + len x) (s ++ t)) ↔ (h + len x ≤ due x ∧ InA len due (h + len x) s) ∧ _
    rw [InA.app (s := s), sumOf_cons, show h + (len x + sumOf len s) = h + len x + sumOf len s by omega]
    exact and_assoc.symm
theorem InA.snoc {s : List Int} {x h : Int} : InA len due h (s ++ [x]) ↔ InA len due h s ∧ h + sumOf len s + len x ≤ due x := by
  rw [InA.app]
  exact ⟨fun a => ⟨a.1, a.2.1⟩, fun a => ⟨a.1, a.2, True.intro⟩⟩
theorem InA.get : ∀ {s : List Int} {h : Int} {i : Nat} {x : Int}, InA len due h s → s[i]? = some x → h + sumOf len (s.take (i + 1)) ≤ due x
  | [], _, _, _, _, e => by simp at e
  | y :: s, h, 0, x, a, e => by
    obtain rfl := Option.some.inj e
    rw [List.take_succ_cons, List.take_zero, sumOf_cons]
    have : sumOf len [] = 0 := by unfold sumOf; simp
    have := a.1
    omega
  | y :: s, h, i + 1, x, a, e => by
    have := InA.get (s := s) (i := i) a.2 e
    rw [List.take_succ_cons, sumOf_cons]
    omega
theorem InA.of_get : ∀ {s : List Int} {h : Int}, (∀ (i : Nat) (x : Int), s[i]? = some x → h + sumOf len (s.take (i + 1)) ≤ due x) → InA len due h s
  | [], _, _ => True.intro
  | y :: s, h, a => by
    refine ⟨?_, InA.of_get fun i x e => ?_⟩
    · have := a 0 y rfl
      rw [List.take_succ_cons, List.take_zero, sumOf_cons] at this
      have : sumOf len [] = 0 := by unfold sumOf; simp
      omega
    · have := a (i + 1) x e
      rw [List.take_succ_cons, sumOf_cons] at this
      omega
/-- what is in time in some order is in time by due order -/
theorem InA.edd {s D : List Int} (rise : D.Pairwise fun x y => due x ≤ due y) (nD : D.Nodup) (ns : s.Nodup) (sD : ∀ x ∈ s, x ∈ D) (nn : ∀ x ∈ s, 0 ≤ len x) (a : InA len due 0 s) : ∃ t : List Int, t.Sublist D ∧ t.length = s.length ∧ InA len due 0 t := by
  refine ⟨D.filter fun x => decide (x ∈ s), List.filter_sublist, ?_, ?_⟩
  · refine List.Perm.length_eq ((List.perm_ext_iff_of_nodup (nD.sublist List.filter_sublist) ns).mpr fun x => ?_)
    rw [List.mem_filter, decide_eq_true_eq]
    exact ⟨fun h => h.2, fun h => ⟨sD x h, h⟩⟩
  · have sub : (D.filter fun x => decide (x ∈ s)).Sublist D := List.filter_sublist
    have mem : ∀ x ∈ D.filter (fun x => decide (x ∈ s)), x ∈ s := fun x hx => of_decide_eq_true (List.mem_filter.mp hx).2
    generalize D.filter (fun x => decide (x ∈ s)) = t at sub mem
    have ndt := nD.sublist sub
    have rt := rise.sublist sub
    refine InA.of_get fun i x hx => ?_
    have xt : x ∈ t.take (i + 1) := by
      rw [take_snoc hx]
      exact List.mem_append_right _ List.mem_cons_self
    obtain ⟨p, y, hy, yT, behind⟩ := last_in (P := fun z => z ∈ t.take (i + 1)) (l := s) ⟨x, mem x (List.mem_of_getElem? hx), xt⟩
    have le : sumOf len (t.take (i + 1)) ≤ sumOf len (s.take (p + 1)) := by
      refine sumOf_sub (ndt.sublist (List.take_sublist _ _)) (fun z hz => ?_) fun z hz => nn z (List.mem_of_mem_take hz)
      have zs := mem z (List.mem_of_mem_take hz)
      rw [← List.take_append_drop (p + 1) s] at zs
      rcases List.mem_append.mp zs with h | h
      · exact h
      · exact absurd hz (behind z h)
    have h1 := a.get hy
    have h2 : due y ≤ due x := by
      rw [take_snoc hx] at yT
      rcases List.mem_append.mp yT with h | h
      · rw [← List.take_append_drop i t, List.pairwise_append] at rt
        exact rt.2.2 y h x (by rw [drop_get hx]; exact List.mem_cons_self)
      · rw [List.mem_singleton.mp h]
        exact Int.le_refl _
    omega
end
/-! ### the table's entries -/
def lesO : Option Int → Option Int → Option Int
  | none, b => b
  | some a, none => some a
  | some a, some b => some (min a b)
def addO (l d : Int) : Option Int → Option Int
  | none => none
  | some x => if x + l > d then none else some (x + l)
def stepR (r : List (Option Int)) (l d : Int) : List (Option Int) := List.zipWith lesO (r ++ [none]) (none :: r.map (addO l d))
theorem lesO_none (a : Option Int) : lesO a none = a := by cases a <;> rfl
section
variable (len due : Int → Int)
def tblR (D : List Int) : List (Option Int) := D.foldl (fun r x => stepR r (len x) (due x)) [some 0]
theorem tblR_snoc (D : List Int) (x : Int) : tblR len due (D ++ [x]) = stepR (tblR len due D) (len x) (due x) := by
  unfold tblR
  rw [List.foldl_append]
  rfl
theorem stepR_len (r : List (Option Int)) (l d : Int) : (stepR r l d).length = r.length + 1 := by
  unfold stepR
  simp
theorem rev_ind {P : List Int → Prop} (h0 : P []) (hs : ∀ D x, P D → P (D ++ [x])) : ∀ D, P D := fun D => by
  have : ∀ D : List Int, P D.reverse := fun D => by
    induction D with
    | nil => exact h0
    | cons x D ih =>
      rw [List.reverse_cons]
      exact hs _ _ ih
  have := this D.reverse
  rwa [List.reverse_reverse] at this
theorem tblR_len (D : List Int) : (tblR len due D).length = D.length + 1 := by
  refine rev_ind (P := fun D => (tblR len due D).length = D.length + 1) rfl (fun D x ih => ?_) D
  rw [tblR_snoc, stepR_len, ih, List.length_append]
  rfl
def entE (D : List Int) (m : Nat) : Option Int := (tblR len due D).getD m none
theorem step_zero (r : List (Option Int)) (l d : Int) (h : 0 < r.length) : (stepR r l d).getD 0 none = r.getD 0 none := by
  cases r with
  | nil => simp at h
  | cons x r =>
    show lesO x none = x
    exact lesO_none x
theorem step_succ (r : List (Option Int)) (l d : Int) (m : Nat) : (stepR r l d).getD (m + 1) none = lesO (r.getD (m + 1) none) (addO l d (r.getD m none)) := by
  unfold stepR
  rw [List.getD_eq_getElem?_getD, List.getD_eq_getElem?_getD, List.getD_eq_getElem?_getD, List.getElem?_zipWith, List.getElem?_cons_succ, List.getElem?_map]
  rcases Nat.lt_trichotomy (m + 1) r.length with h | h | h
  · rw [List.getElem?_append_left h, List.getElem?_eq_getElem h, List.getElem?_eq_getElem (by omega)]
    rfl
  · rw [List.getElem?_append_right (by omega), show m + 1 - r.length = 0 by omega, List.getElem?_eq_getElem (l := r) (i := m) (by omega), List.getElem?_eq_none (l := r) (by omega)]
    rfl
  · rw [List.getElem?_eq_none (by rw [List.length_append]; show r.length + 1 ≤ m + 1; omega), List.getElem?_eq_none (l := r) (i := m + 1) (by omega), List.getElem?_eq_none (l := r) (i := m) (by omega)]
    rfl
theorem ent_zero (D : List Int) : entE len due D 0 = some 0 := by
  refine rev_ind (P := fun D => entE len due D 0 = some 0) rfl (fun D x ih => ?_) D
  unfold entE at ih ⊢
  rw [tblR_snoc, step_zero _ _ _ (by rw [tblR_len]; omega), ih]
theorem ent_succ (D : List Int) (x : Int) (m : Nat) : entE len due (D ++ [x]) (m + 1) = lesO (entE len due D (m + 1)) (addO (len x) (due x) (entE len due D m)) := by
  unfold entE
  rw [tblR_snoc, step_succ]
variable {len due}
theorem sub_snoc {s D : List Int} {x : Int} : s.Sublist (D ++ [x]) ↔ s.Sublist D ∨ ∃ t, s = t ++ [x] ∧ t.Sublist D := by
  rw [List.sublist_append_iff]
  constructor
  · rintro ⟨a, b, rfl, ha, hb⟩
    cases b with
    | nil => exact .inl (by rw [List.append_nil]; exact ha)
    | cons y b =>
      have l := hb.length_le
      have : b = [] := by
        cases b with
        | nil => rfl
        | cons _ _ => simp at l
      subst this
      have : y = x := by
        have := hb.subset List.mem_cons_self
        exact List.mem_singleton.mp this
      subst this
      exact .inr ⟨a, rfl, ha⟩
  · rintro (h | ⟨t, rfl, h⟩)
    · exact ⟨s, [], (List.append_nil s).symm, h, List.nil_sublist _⟩
    · exact ⟨t, [x], rfl, h, List.Sublist.refl _⟩
/-- each entry is the least hours of so many in time -/
structure EntOk (len due : Int → Int) (D : List Int) (m : Nat) : Prop where
  is : ∀ v, entE len due D m = some v → ∃ s : List Int, s.Sublist D ∧ s.length = m ∧ InA len due 0 s ∧ sumOf len s = v
  le : ∀ s : List Int, s.Sublist D → s.length = m → InA len due 0 s → ∃ v, entE len due D m = some v ∧ v ≤ sumOf len s
theorem ent_ok (D : List Int) : ∀ m, EntOk len due D m := by
  refine rev_ind (P := fun D => ∀ m, EntOk len due D m) (fun m => ?_) (fun D x ih m => ?_) D
  · constructor
    · intro v e
      cases m with
      | zero =>
        have : some 0 = some v := e
        obtain rfl := Option.some.inj this
        exact ⟨[], List.Sublist.refl _, rfl, True.intro, rfl⟩
      | succ m =>
        have : ([some 0] : List (Option Int)).getD (m + 1) none = some v := e
        cases this
    · intro s h l a
      obtain rfl := List.eq_nil_of_sublist_nil h
      subst l
      exact ⟨0, rfl, Int.le_refl _⟩
  · cases m with
    | zero =>
      constructor
      · intro v e
        rw [ent_zero] at e
        obtain rfl := Option.some.inj e
        exact ⟨[], List.nil_sublist _, rfl, True.intro, rfl⟩
      · intro s h l a
        obtain rfl := List.length_eq_zero_iff.mp l
        exact ⟨0, ent_zero len due _, Int.le_refl _⟩
    | succ m =>
      have i1 := ih (m + 1)
      have i0 := ih m
      constructor
      · intro v e
        rw [ent_succ] at e
        have keep : ∀ u, entE len due D (m + 1) = some u → ∃ s : List Int, s.Sublist (D ++ [x]) ∧ s.length = m + 1 ∧ InA len due 0 s ∧ sumOf len s = u := fun u hu => by
          obtain ⟨s, a, b, c, d⟩ := i1.is u hu
          exact ⟨s, sub_snoc.mpr (.inl a), b, c, d⟩
        have take : ∀ u, addO (len x) (due x) (entE len due D m) = some u → ∃ s : List Int, s.Sublist (D ++ [x]) ∧ s.length = m + 1 ∧ InA len due 0 s ∧ sumOf len s = u := fun u hu => by
          cases hm : entE len due D m with
          | none => rw [hm] at hu; cases hu
          | some w =>
            rw [hm] at hu
            unfold addO at hu
            by_cases c : w + len x > due x
            · simp only [c, if_true] at hu
              cases hu
            · simp only [c, if_false] at hu
              obtain rfl := Option.some.inj hu
              obtain ⟨s, a, b, c', d⟩ := i0.is w hm
              refine ⟨s ++ [x], sub_snoc.mpr (.inr ⟨s, rfl, a⟩), by rw [List.length_append, b]; rfl, InA.snoc.mpr ⟨c', by omega⟩, ?_⟩
              rw [sumOf_append, d, sumOf_cons]
              have : sumOf len [] = 0 := by unfold sumOf; simp
              omega
        cases h1 : entE len due D (m + 1) with
        | none =>
          rw [h1] at e
          exact take v e
        | some u =>
          cases h2 : addO (len x) (due x) (entE len due D m) with
          | none =>
            rw [h1, h2] at e
            obtain rfl := Option.some.inj e
            exact keep u h1
          | some w =>
            rw [h1, h2] at e
            have e : min u w = v := Option.some.inj e
            by_cases c : u ≤ w
            · obtain rfl : u = v := by omega
              exact keep u h1
            · obtain rfl : w = v := by omega
              exact take w h2
      · intro s h l a
        rw [ent_succ]
        rcases sub_snoc.mp h with h' | ⟨t, rfl, h'⟩
        · obtain ⟨v, e, le⟩ := i1.le s h' l a
          rw [e]
          cases addO (len x) (due x) (entE len due D m) with
          | none => exact ⟨v, rfl, le⟩
          | some w => exact ⟨min v w, rfl, by omega⟩
        · rw [InA.snoc] at a
          obtain ⟨v, e, le⟩ := i0.le t h' (by rw [List.length_append] at l; exact Nat.succ.inj l) a.1
          rw [e]
          have c : ¬ (v + len x > due x) := by have := a.2; omega
          have e2 : addO (len x) (due x) (some v) = some (v + len x) := by
            unfold addO
            simp only [c, if_false]
          rw [e2, sumOf_append, sumOf_cons]
          have z : sumOf len [] = 0 := by unfold sumOf; simp
          cases entE len due D (m + 1) with
          | none => exact ⟨v + len x, rfl, by omega⟩
          | some w => exact ⟨min w (v + len x), rfl, by omega⟩
/-- as many as can be in time -/
structure Many (len due : Int → Int) (D : List Int) (M : Nat) : Prop where
  ex : ∃ v, entE len due D M = some v
  top : ∀ m, m ≤ D.length → (∃ v, entE len due D m = some v) → m ≤ M
theorem Many.best {D : List Int} {M : Nat} (h : Many len due D M) {s : List Int} (sb : s.Sublist D) (a : InA len due 0 s) : s.length ≤ M := by
  obtain ⟨v, e, _⟩ := (ent_ok D s.length).le s sb rfl a
  exact h.top _ sb.length_le ⟨v, e⟩
/-- going back through the table -/
structure Back (len due : Int → Int) (D : List Int) (M : Nat) (p m : Nat) (R : List Int) : Prop where
  le : m ≤ p
  ex : ∃ v, entE len due (D.take p) m = some v
  go : ∀ s : List Int, s.Sublist (D.take p) → InA len due 0 s → s.length = m → some (sumOf len s) = entE len due (D.take p) m → (s ++ R.reverse).Sublist D ∧ InA len due 0 (s ++ R.reverse) ∧ (s ++ R.reverse).length = M
theorem Back.start {D : List Int} {M : Nat} (h : Many len due D M) (l : M ≤ D.length) : Back len due D M D.length M [] := ⟨l, by rw [List.take_length]; exact h.ex, fun s a b c d => by
  rw [List.take_length] at a
  rw [List.reverse_nil, List.append_nil]
  exact ⟨a, b, c⟩⟩
theorem Back.keep {D : List Int} {M p m : Nat} {R : List Int} {x : Int} (h : Back len due D M (p + 1) m R) (hx : D[p]? = some x) (le : m ≤ p) (same : entE len due (D.take p) m = entE len due (D.take (p + 1)) m) : Back len due D M p m R := ⟨le, same ▸ h.ex, fun s a b c d => h.go s (by
  rw [take_snoc hx]
  exact a.trans (List.sublist_append_left _ _)) b c (same ▸ d)⟩
theorem Back.took {D : List Int} {M p m : Nat} {R : List Int} {x : Int} (h : Back len due D M (p + 1) m R) (hx : D[p]? = some x) (diff : p < m ∨ entE len due (D.take p) m ≠ entE len due (D.take (p + 1)) m) : 1 ≤ m ∧ Back len due D M p (m - 1) (R ++ [x]) := by
  have m1 : 1 ≤ m := by
    rcases diff with h | h
    · omega
    · cases m with
      | zero => exact absurd (by rw [ent_zero, ent_zero]) h
      | succ m => omega
  obtain ⟨m, rfl⟩ : ∃ k, m = k + 1 := ⟨m - 1, by omega⟩
  refine ⟨m1, ?_⟩
  obtain ⟨v, ev⟩ := h.ex
  have es := ent_succ len due (D.take p) x m
  rw [← take_snoc hx, ev] at es
  have hl := (List.getElem?_eq_some_iff.mp hx).1
  have lt : (D.take p).length = p := by rw [List.length_take]; omega
  have fromAdd : ∃ w, entE len due (D.take p) m = some w ∧ w + len x ≤ due x ∧ v = w + len x := by
    have key : addO (len x) (due x) (entE len due (D.take p) m) = some v := by
      rcases diff with hd | hd
      · have : entE len due (D.take p) (m + 1) = none := by
          unfold entE
          rw [List.getD_eq_getElem?_getD, List.getElem?_eq_none (by rw [tblR_len, lt]; omega)]
          rfl
        rw [this] at es
        exact es.symm
      · cases h1 : entE len due (D.take p) (m + 1) with
        | none =>
          rw [h1] at es
          exact es.symm
        | some u =>
          rw [ev, h1] at hd
          rw [h1] at es
          cases h2 : addO (len x) (due x) (entE len due (D.take p) m) with
          | none =>
            rw [h2] at es
            exact absurd es.symm hd
          | some w =>
            rw [h2] at es
            have es : v = min u w := Option.some.inj es
            by_cases c : u ≤ w
            · exact absurd (by rw [es]; congr 1; omega) hd
            · rw [es]
              congr 1
              omega
    cases hm : entE len due (D.take p) m with
    | none => rw [hm] at key; cases key
    | some w =>
      rw [hm] at key
      unfold addO at key
      by_cases c : w + len x > due x
      · simp only [c, if_true] at key
        cases key
      · simp only [c, if_false] at key
        exact ⟨w, rfl, by omega, (Option.some.inj key).symm⟩
  obtain ⟨w, ew, wd, rfl⟩ := fromAdd
  refine ⟨by have := h.le; show m ≤ p; omega, ⟨w, ew⟩, fun s a b c d => ?_⟩
  have d : sumOf len s = w := by
    rw [show m + 1 - 1 = m from rfl, ew] at d
    exact Option.some.inj d
  have := h.go (s ++ [x]) (by rw [take_snoc hx]; exact sub_snoc.mpr (.inr ⟨s, rfl, a⟩)) (InA.snoc.mpr ⟨b, by omega⟩) (by rw [List.length_append, c]; rfl) (by
    rw [ev, sumOf_append, sumOf_cons, d]
    congr 1
    have : sumOf len [] = 0 := by unfold sumOf; simp
    omega)
  rw [List.reverse_append, List.reverse_singleton]
  rw [List.append_assoc] at this
  exact this
theorem Back.done {D : List Int} {M m : Nat} {R : List Int} (h : Back len due D M 0 m R) : R.reverse.Sublist D ∧ InA len due 0 R.reverse ∧ R.reverse.length = M := by
  have l := h.le
  obtain rfl : m = 0 := by omega
  have := h.go [] (List.nil_sublist _) True.intro rfl (by rw [ent_zero]; rfl)
  exact this
end
end Bs
namespace Bs
open PySem PySem.Spec PyProof.Rows L2
open Evl (Ex)
/-! ### how many are late -/
def lateA (len due : Int → Int) : Int → List Int → Nat
  | _, [] => 0
  | h, x :: s => (if h + len x > due x then 1 else 0) + lateA len due (h + len x) s
section
variable {len due : Int → Int}
theorem lateA_app : ∀ (s t : List Int) (h : Int), lateA len due h (s ++ t) = lateA len due h s + lateA len due (h + sumOf len s) t
  | [], t, h => by
    show lateA len due h t = 0 + lateA len due (h + sumOf len []) t
    rw [show h + sumOf len [] = h by unfold sumOf; simp, Nat.zero_add]
  | x :: s, t, h => by
    show (if h + len x > due x then 1 else 0) + lateA len due (h + len x) (s ++ t) = (if h + len x > due x then 1 else 0) + lateA len due (h + len x) s + _
    rw [lateA_app s t, sumOf_cons, show h + (len x + sumOf len s) = h + len x + sumOf len s by omega, Nat.add_assoc]
theorem lateA_snoc {o : List Int} {i : Nat} {x : Int} (hx : o[i]? = some x) : lateA len due 0 (o.take (i + 1)) = lateA len due 0 (o.take i) + (if sumOf len (o.take (i + 1)) > due x then 1 else 0) := by
  rw [take_snoc hx, lateA_app, sumOf_append, sumOf_cons]
  have z : sumOf len [] = 0 := by unfold sumOf; simp
  show _ + ((if 0 + sumOf len (o.take i) + len x > due x then 1 else 0) + 0) = _
  rw [z, show 0 + sumOf len (o.take i) + len x = sumOf len (o.take i) + (len x + 0) by omega]
  rfl
theorem lateA_le : ∀ (s : List Int) (h : Int), lateA len due h s ≤ s.length
  | [], _ => Nat.le_refl 0
  | x :: s, h => by
    have := lateA_le s (h + len x)
    show (if h + len x > due x then 1 else 0) + lateA len due (h + len x) s ≤ s.length + 1
    split <;> omega
theorem InA.none_late : ∀ {s : List Int} {h : Int}, InA len due h s → lateA len due h s = 0
  | [], _, _ => rfl
  | x :: s, h, a => by
    show (if h + len x > due x then 1 else 0) + lateA len due (h + len x) s = 0
    have := a.1
    rw [if_neg (by omega), InA.none_late (s := s) a.2]
theorem in_time : ∀ (o : List Int) (h : Int), (∀ x ∈ o, 0 ≤ len x) → ∃ U : List Int, U.Sublist o ∧ InA len due h U ∧ U.length + lateA len due h o = o.length
  | [], _, _ => ⟨[], List.Sublist.refl _, True.intro, rfl⟩
  | x :: o, h, nn => by
    obtain ⟨U, a, b, c⟩ := in_time o (h + len x) fun y hy => nn y (List.mem_cons_of_mem _ hy)
    by_cases l : h + len x > due x
    · refine ⟨U, .cons _ a, b.mono (by have := nn x List.mem_cons_self; omega), ?_⟩
      show U.length + ((if h + len x > due x then 1 else 0) + lateA len due (h + len x) o) = o.length + 1
      rw [if_pos l]
      omega
    · refine ⟨x :: U, .cons₂ _ a, ⟨by omega, b⟩, ?_⟩
      show U.length + 1 + ((if h + len x > due x then 1 else 0) + lateA len due (h + len x) o) = o.length + 1
      rw [if_neg l]
      omega
theorem InA.congr {len' due' : Int → Int} : ∀ {s : List Int} {h h' : Int}, (∀ x ∈ s, len' x ≤ len x) → (∀ x ∈ s, due x ≤ due' x) → h' ≤ h → InA len due h s → InA len' due' h' s
  | [], _, _, _, _, _, _ => True.intro
  | x :: s, h, h', a, b, le, i => by
    have := a x List.mem_cons_self
    have := b x List.mem_cons_self
    have := i.1
    exact ⟨by omega, InA.congr (s := s) (fun y hy => a y (List.mem_cons_of_mem _ hy)) (fun y hy => b y (List.mem_cons_of_mem _ hy)) (by omega) i.2⟩
end
/-- the greatest number of rows that can be in time -/
structure Mst (rows : List (List Int)) (M : Nat) : Prop where
  ex : ∃ s : List Int, s.Nodup ∧ (∀ x ∈ s, 0 ≤ x ∧ x < rows.length) ∧ InA (len_ rows) (due_ rows) 0 s ∧ s.length = M
  top : ∀ s : List Int, s.Nodup → (∀ x ∈ s, 0 ≤ x ∧ x < rows.length) → InA (len_ rows) (due_ rows) 0 s → s.length ≤ M
theorem Mst.of {rows : List (List Int)} {D : List Int} {M : Nat} (ok : Rows4 rows) (ik : IsKey (due_ rows) (Bs.upTo rows.length) D) (h : Many (len_ rows) (due_ rows) D M) : Mst rows M := by
  have io : IsOrder D rows.length := ik.perm
  constructor
  · obtain ⟨v, e⟩ := h.ex
    obtain ⟨s, a, b, c, _⟩ := (ent_ok D M).is v e
    exact ⟨s, io.nodup.sublist a, fun x hx => io.bd (a.subset hx), c, b⟩
  · intro s nd bd a
    obtain ⟨t, t1, t2, t3⟩ := a.edd ik.rising io.nodup nd (fun x hx => io.all (bd x hx).1 (bd x hx).2) fun x hx => by
      have := (ok.at (bd x hx).1 (bd x hx).2).2.1
      omega
    rw [← t2]
    exact h.best t1 t3
theorem Mst.le {rows : List (List Int)} {M : Nat} (h : Mst rows M) : M ≤ rows.length := by
  obtain ⟨s, a, b, _, rfl⟩ := h.ex
  exact nodup_few a b
/-- no order has fewer late ones -/
theorem Mst.late {rows : List (List Int)} {M : Nat} (ok : Rows4 rows) (h : Mst rows M) {o : List Int} (io : IsOrder o rows.length) : rows.length - M ≤ lateA (len_ rows) (due_ rows) 0 o := by
  obtain ⟨U, a, b, c⟩ := in_time (len := len_ rows) (due := due_ rows) o 0 fun x hx => by
    have := io.bd hx
    have := (ok.at this.1 this.2).2.1
    omega
  have := h.top U (io.nodup.sublist a) (fun x hx => io.bd (a.subset hx)) b
  have := io.len
  omega
theorem Mst.told {rows : List (List Int)} {M : Nat} (ok : Rows4 rows) (h : Mst rows M) {T L : List Int} (io : IsOrder (T ++ L) rows.length) (a : InA (len_ rows) (due_ rows) 0 T) (l : T.length = M) : lateA (len_ rows) (due_ rows) 0 (T ++ L) = rows.length - M := by
  have g := h.late ok io
  rw [lateA_app, a.none_late] at g ⊢
  have := lateA_le (len := len_ rows) (due := due_ rows) L (0 + sumOf (len_ rows) T)
  have ll := io.len
  rw [List.length_append] at ll
  omega
theorem col_left {rows : List (List Int)} {w : List Int} {x : Int} (h : 0 ≤ x ∧ x < rows.length) : len_ (rows ++ [w]) x = len_ rows x ∧ due_ (rows ++ [w]) x = due_ rows x := by
  have : (rows ++ [w]).getD x.toNat [] = rows.getD x.toNat [] := by
    rw [List.getD_eq_getElem?_getD, List.getD_eq_getElem?_getD, List.getElem?_append_left (by omega)]
  unfold len_ due_ cAt
  rw [this]
  exact ⟨rfl, rfl⟩
theorem Mst.more {rows : List (List Int)} {w : List Int} {M M' : Nat} (h : Mst rows M) (h' : Mst (rows ++ [w]) M') (ok' : Rows4 (rows ++ [w])) : M ≤ M' ∧ M' ≤ M + 1 := by
  have ln : (rows ++ [w]).length = rows.length + 1 := by rw [List.length_append]; rfl
  constructor
  · obtain ⟨s, a, b, c, rfl⟩ := h.ex
    refine h'.top s a (fun x hx => by have := b x hx; omega) (c.congr (fun x hx => by rw [(col_left (b x hx)).1]; exact Int.le_refl _) (fun x hx => by rw [(col_left (b x hx)).2]; exact Int.le_refl _) (Int.le_refl _))
  · obtain ⟨s, a, b, c, rfl⟩ := h'.ex
    have sb : (s.filter fun x => decide (x ≠ (rows.length : Int))).Sublist s := List.filter_sublist
    have bd : ∀ x ∈ s.filter (fun x => decide (x ≠ (rows.length : Int))), 0 ≤ x ∧ x < rows.length := fun x hx => by
      obtain ⟨h1, h2⟩ := List.mem_filter.mp hx
      have := b x h1
      have := of_decide_eq_true h2
      omega
    have c2 := c.sub sb fun x hx => by
      have := (ok'.at (b x hx).1 (b x hx).2).2.1
      omega
    have t := h.top _ (a.sublist sb) bd (c2.congr (fun x hx => by rw [(col_left (bd x hx)).1]; exact Int.le_refl _) (fun x hx => by rw [(col_left (bd x hx)).2]; exact Int.le_refl _) (Int.le_refl _))
    have : s.length ≤ (s.filter fun x => decide (x ≠ (rows.length : Int))).length + 1 := by
      have key : ∀ l : List Int, l.Nodup → l.length ≤ (l.filter fun x => decide (x ≠ (rows.length : Int))).length + 1 := by
        intro l
        induction l with
        | nil => intro _; exact Nat.zero_le _
        | cons y l ih =>
          intro nd
          obtain ⟨n1, n2⟩ := List.nodup_cons.mp nd
          by_cases e : y = (rows.length : Int)
          · rw [List.filter_cons_of_neg (by simp [e])]
            have : l.filter (fun x => decide (x ≠ (rows.length : Int))) = l := List.filter_eq_self.mpr fun z hz => by
              rw [decide_eq_true_eq]
              rintro rfl
              exact n1 (e ▸ hz)
            rw [this]
            exact Nat.le_refl _
          · rw [List.filter_cons_of_pos (by simp [e])]
            have := ih n2
            rw [List.length_cons, List.length_cons]
            omega
      exact key s a
    omega
theorem Mst.grown {rows grown : List (List Int)} {M M' : Nat} (h : Mst rows M) (h' : Mst grown M') (ln : grown.length = rows.length) (hl : ∀ x : Int, 0 ≤ x ∧ x < rows.length → len_ rows x ≤ len_ grown x ∧ due_ grown x ≤ due_ rows x) : M' ≤ M := by
  obtain ⟨s, a, b, c, rfl⟩ := h'.ex
  rw [ln] at b
  exact h.top s a b (c.congr (fun x hx => (hl x (b x hx)).1) (fun x hx => (hl x (b x hx)).2) (Int.le_refl _))
end Bs

namespace Bs
open PySem PySem.Spec PyProof.Rows L2
open Evl (Ex)
/-! ### numbers or None; lists of lists -/
def oV : Option Int → V
  | none => .non
  | some h => .int h
def oD : Option Int → PyData
  | none => .none
  | some h => .int h
theorem oV_non {e : Option Int} : oV e = .non ↔ e = none := by
  cases e with
  | none => exact ⟨fun _ => rfl, fun _ => rfl⟩
  | some h => exact ⟨(fun z => by cases z), (fun z => by cases z)⟩
def Lr {α : Type} (f : α → V) (A : List Addr) (H : Hp) (ys : List V) (os : List (List α)) : Prop := ys.length = os.length ∧ ∀ (j : Nat) (v : V), ys[j]? = some v → ∃ (t : Addr) (o : List α), os[j]? = some o ∧ v = .ref t ∧ t ∉ A ∧ H t = some (.lst (o.map f))
section
variable {α : Type} {f : α → V}
theorem Lr.nil {A : List Addr} {H : Hp} : Lr f A H [] [] := ⟨rfl, fun j v h => by simp at h⟩
theorem Lr.ex {A : List Addr} {H H' : Hp} {ys : List V} {os : List (List α)} (h : Lr f A H ys os) (e : Ex H H') : Lr f A H' ys os := ⟨h.1, fun j v k => by
  obtain ⟨t, o, a, b, c, d⟩ := h.2 j v k
  exact ⟨t, o, a, b, c, e _ _ d⟩⟩
theorem Lr.put {A : List Addr} {H : Hp} {p : Addr} {u : HO} {ys : List V} {os : List (List α)} (h : Lr f A H ys os) (hp : p ∈ A) : Lr f A (upd H p u) ys os := ⟨h.1, fun j v k => by
  obtain ⟨t, o, a, b, c, d⟩ := h.2 j v k
  exact ⟨t, o, a, b, c, upd_at (fun z => c (z ▸ hp)) d⟩⟩
theorem Lr.sub {A B : List Addr} {H : Hp} {ys : List V} {os : List (List α)} (h : Lr f A H ys os) (s : ∀ x ∈ B, x ∈ A) : Lr f B H ys os := ⟨h.1, fun j v k => by
  obtain ⟨t, o, a, b, c, d⟩ := h.2 j v k
  exact ⟨t, o, a, b, fun z => c (s _ z), d⟩⟩
theorem Lr.app {A : List Addr} {H : Hp} {ys zs : List V} {os us : List (List α)} (h : Lr f A H ys os) (k : Lr f A H zs us) : Lr f A H (ys ++ zs) (os ++ us) := by
  refine ⟨by rw [List.length_append, List.length_append, h.1, k.1], fun j v e => ?_⟩
  have l := h.1
  by_cases hj : j < ys.length
  · rw [List.getElem?_append_left hj] at e
    rw [List.getElem?_append_left (by omega)]
    exact h.2 j v e
  · rw [List.getElem?_append_right (by omega)] at e
    rw [List.getElem?_append_right (by omega), ← l]
    exact k.2 _ v e
theorem Lr.one {A : List Addr} {H : Hp} {t : Addr} {o : List α} (h : t ∉ A) (k : H t = some (.lst (o.map f))) : Lr f A H [.ref t] [o] := ⟨rfl, fun j v e => by
  cases j with
  | zero =>
    obtain rfl := Option.some.inj e
    exact ⟨t, o, rfl, rfl, h, k⟩
  | succ j => cases e⟩
theorem Lr.get {A : List Addr} {H : Hp} {ys : List V} {os : List (List α)} (h : Lr f A H ys os) {j : Nat} {o : List α} (e : os[j]? = some o) : ∃ t, ys[j]? = some (.ref t) ∧ H t = some (.lst (o.map f)) := by
  have hj := (List.getElem?_eq_some_iff.mp e).1
  have l := h.1
  obtain ⟨t, o', a, b, c, d⟩ := h.2 j _ (List.getElem?_eq_getElem (by omega))
  rw [e] at a
  obtain rfl := Option.some.inj a
  exact ⟨t, by rw [List.getElem?_eq_getElem (by omega), b], d⟩
end
section
variable {K : PySem.W.Frag} {H : Hp}
theorem dp_o (e : Option Int) : Dp K H (oV e) (oD e) := by
  cases e with
  | none => exact .non
  | some h => exact .int h
theorem shaped_o (e : Option Int) : SeqAt.shaped (oD e) = true := by cases e <;> rfl
theorem eqv_o (a b : Option Int) : PyData.eqv (oD a) (oD b) = decide (a = b) := by
  cases a with
  | none =>
    cases b with
    | none => rfl
    | some y => rfl
  | some x =>
    cases b with
    | none => rfl
    | some y =>
      by_cases h : x = y
      · subst h
        rw [eqv_same (shaped_o _), decide_eq_true rfl]
      · show (x == y) = _
        rw [decide_eq_false fun z => h (Option.some.inj z)]
        exact beq_eq_false_iff_ne.mpr h
theorem dpa_os : ∀ {r : List (Option Int)}, DpAll K H (r.map oV) (r.map oD)
  | [] => .nil
  | e :: r => .cons (dp_o e) dpa_os
end
/-! ### min(.., default=None) -/
def rMinD (K : PySem.W.Frag) : List V → List V → Hp → VK → Prop := fun vs zs H Q => ∃ (a : Addr) (ns : List Int), vs = [.ref a] ∧ zs = [.non] ∧ SqL K H a (ns.map V.int) ∧ (ns = [] → Q .non H) ∧ ∀ m ∈ ns, (∀ n ∈ ns, m ≤ n) → Q (.int m) H
theorem min_inD : ∀ (ns : List Int) (n : Int), (ns.foldl min n ∈ n :: ns) ∧ ∀ k ∈ n :: ns, ns.foldl min n ≤ k
  | [], n => ⟨List.mem_cons_self, fun k hk => by rw [List.mem_singleton.mp hk]; exact Int.le_refl _⟩
  | m :: r, n => by
    obtain ⟨h1, h2⟩ := min_inD r (min n m)
    rw [List.foldl_cons]
    constructor
    · rcases List.mem_cons.mp h1 with e | e
      · rw [e]
        rcases Int.le_total n m with h | h
        · rw [Int.min_eq_left h]
          exact List.mem_cons_self
        · rw [Int.min_eq_right h]
          exact List.mem_cons_of_mem _ List.mem_cons_self
      · exact List.mem_cons_of_mem _ (List.mem_cons_of_mem _ e)
    · intro k hk
      have h3 := h2 _ List.mem_cons_self
      rcases List.mem_cons.mp hk with e | e
      · subst e
        exact Int.le_trans h3 (Int.min_le_left _ _)
      · rcases List.mem_cons.mp e with e | e
        · subst e
          exact Int.le_trans h3 (Int.min_le_right _ _)
        · exact h2 k (List.mem_cons_of_mem _ e)
theorem cr_minD {X : Cx} {K : PySem.W.Frag} (hc : X.calm = true) (hu : X.A.units + 64 < cLine) (hK : X.K = K := by rfl) : CallRK X (.builtin "min") [Str.ofString "default"] (rMinD K) := by
  subst hK
  intro pins s σ H xs zs us ws Q I r1 r2 h
  obtain ⟨a, ns, rfl, rfl, hs, h0, h1⟩ := h
  obtain ⟨u, rfl, ru⟩ := vals1 r1
  obtain ⟨w', rfl, rw'⟩ := vals1 r2
  obtain rfl : u = Value.ref a := ru
  obtain rfl : w' = Value.none := rw'
  obtain ⟨its, rv, hl, _⟩ := I.list hs
  obtain ⟨as, rd⟩ := Dp.readsAll I (ns.map .int) _ _ dpa_ints rv
  have back : ∀ {h' : Heap} {tk : Nat}, (∀ b o, s.heap.get? b = some o → h'.get? b = some o) → L2.Inv X pins σ H { s with heap := h', toks := tk } := fun {h' tk} kept => I.call' (ch := []) rfl (Un.kept kept) (I.hok.kept kept) I.bare (fun _ z => nomatch z)
  have al : PySem.W.AlikeAll (ns.map .int) := ⟨fun x hx y hy => by
    obtain ⟨i, _, rfl⟩ := List.mem_map.mp hx
    obtain ⟨j, _, rfl⟩ := List.mem_map.mp hy
    rfl, fun x hx => by
    obtain ⟨i, _, rfl⟩ := List.mem_map.mp hx
    intro z
    cases z⟩
  refine PySem.W.min_list_default (vs := its.toArray) (I.ok.hd hc) hl.isList (by simpa using rd) al (by rw [dp_ints]; omega) (fun e h' tk kept => ?_) fun y ys i v h' tk bs e hv hr kept => ?_
  · have : ns = [] := by
      cases ns with
      | nil => rfl
      | cons n r => cases e
    exact ⟨.non, H, back kept, rfl, h0 this⟩
  · cases ns with
    | nil => cases e
    | cons n r =>
      have e1 : PyData.int n = y := (List.cons.inj e).1
      have e2 : r.map PyData.int = ys := (List.cons.inj e).2
      subst e1 e2
      rw [PySem.W.minD_ints] at hr
      obtain ⟨t, rfl⟩ : ∃ t, v = .int (r.foldl min n) t := by
        cases hr with
        | int => exact ⟨_, rfl⟩
      obtain ⟨g1, g2⟩ := min_inD r n
      exact ⟨.int _, H, back kept, ⟨t, rfl⟩, h1 _ g1 g2⟩
end Bs


namespace Bk33
open PySem PySem.Spec PyProof.Rows L2 Bs
open Evl (Ex)

section
variable {P : Program} {w : World} {K : PySem.W.Frag} {mg : Str → Option Value} {base : Heap}
/-! hour by hour -/
theorem lefts_nn (rows : List (List Int)) (ok : ∀ r ∈ rows, NearR r) : ∀ (t : Nat) (v : Int), v ∈ lefts rows t → 0 ≤ v
  | 0, v, h => by
    obtain ⟨r, hr, rfl⟩ := List.mem_map.mp h
    obtain ⟨l, f, b, w, rfl, h1, _⟩ := ok r hr
    show 0 ≤ l
    omega
  | t + 1, v, h => by
    rw [lefts_succ] at h
    unfold doneAt at h
    split at h
    · exact lefts_nn rows ok t v h
    · rename_i x e
      rcases List.mem_or_eq_of_mem_set h with h | rfl
      · exact lefts_nn rows ok t v h
      · obtain ⟨_, h1, _⟩ := wkd_bd e
        omega
theorem lfA_mem {lf : List Int} {x : Int} (x0 : 0 ≤ x) (x1 : x < lf.length) : lfA lf x ∈ lf := by
  unfold lfA
  rw [List.getD_eq_getElem?_getD, List.getElem?_eq_getElem (by omega)]
  exact List.getElem_mem _
theorem wkd_over {rows : List (List Int)} {T : Nat} (z : ∀ v ∈ lefts rows T, v = 0) : ∀ j : Nat, lefts rows (T + j) = lefts rows T ∧ wkd rows (T + j) = none := by
  have no : ∀ t, lefts rows t = lefts rows T → wkd rows t = none := fun t e => by
    cases c : wkd rows t with
    | none => rfl
    | some x =>
      obtain ⟨⟨x0, x1⟩, h1, _⟩ := wkd_bd c
      rw [e] at h1
      have := z _ (lfA_mem x0 (by rw [lefts_len]; exact x1))
      omega
  intro j
  induction j with
  | zero => exact ⟨rfl, no _ rfl⟩
  | succ j ih =>
    have e : lefts rows (T + (j + 1)) = lefts rows T := by
      rw [← Nat.add_assoc, lefts_succ, ih.2, ih.1]
      rfl
    exact ⟨e, no _ e⟩
theorem near_frm {rows : List (List Int)} (near : ∀ r ∈ rows, NearR r) {x : Int} (x0 : 0 ≤ x) (x1 : x < rows.length) : frm_ rows x ≤ 24 := by
  have h : x.toNat < rows.length := by omega
  obtain ⟨l, f, b, w, e, _, _, _, h4, _⟩ := near rows[x.toNat] (List.getElem_mem _)
  show (rows.getD x.toNat []).getD 1 0 ≤ 24
  have g : rows.getD x.toNat [] = [l, f, b, w] := by
    rw [List.getD_eq_getElem?_getD, List.getElem?_eq_getElem h]
    exact e
  rw [g]
  exact h4
def wkL (rows : List (List Int)) (T : Nat) : List (Option Int) := (List.range T).map (wkd rows)
def muK (D F : Addr) (_ : L2.St) (H : Hp) : Nat := match H D, H F with
  | some (.lst xs), some (.lst ys) => (xs.map vT).sum + (1000 - ys.length)
  | _, _ => 0
def spWorked : Sp := fun vs H Q _ => ∃ (a : Addr) (xs : List V) (rows : List (List Int)), vs = [.ref a] ∧ H a = some (.lst xs) ∧ Ts H xs rows ∧ (∀ r ∈ rows, NearR r) ∧ 1 ≤ rows.length ∧ rows.length ≤ 30 ∧
  ∀ (p : Addr) (T : Nat) (H' : Hp), Ex H H' → H p = none → H' p = some (.lst ((wkL rows T).map oV)) → T ≤ 300 → (∀ v ∈ lefts rows T, v = 0) → (∀ t, T ≤ t → wkd rows t = none) → Q (.ref p) H'
theorem ok__law_worked (T : Tx K mg) : Cal P w K mg base 1 "_law_worked" ["rows"] spWorked := by
  refine T.d__law_worked.cal sc__law_worked (fun vs H Q E h => ?_) (fun f cdv A outer s H vs Q E hr h => ?_)
  · obtain ⟨_, _, _, rfl, _⟩ := h
    rfl
  · obtain ⟨a, xs, rows, rfl, ha, ts, near, l1, l30, q⟩ := h
    refine ⟨_, (pss_cons (ps_set (i := 1) sc__law_worked.nd rfl (.inr rfl) (pe_lc (own := [("row", 4)]) rfl sc__law_worked.nd (piLK (K := K) (pv 0)) (blkOk_by (own := [("row", 4)]) (N := N__law_worked) (sc := defScope s__law_worked) (by decide +kernel)) (fun _ _ _ _ _ => (pg_name (i := 4) sc__law_worked.nd rfl (.inl rfl))) (fun _ _ _ _ _ => pts_nil) (fun _ _ _ _ _ => (pe_ix (ixT (K := K)) (pv 4) pe_int (fun _ _ => rfl)))))
    (pss_cons (ps_set (i := 2) sc__law_worked.nd rfl (.inr rfl) (pe_lst pa_nil))
    (pss_cons (ps_while PassesOwn.never (pt_cmpR op_gt (pe_callB (au_max (K := K) rfl) (by rfl) T.b_max (by decide +kernel) (pa_cons (pv 1) pa_nil)) pe_int (nomark _)) (pss_cons (ps_setLc (i := 3) (own := [("row", 4), ("number", 5)]) rfl sc__law_worked.nd rfl rfl (sw_true rfl rfl rfl (by decide +kernel)) (pi_enum (by rfl) T.b_enumerate (pa_cons (pv 0) pa_nil)) (blkOk_by (own := [("row", 4), ("number", 5)]) (N := N__law_worked) (sc := defScope s__law_worked) (by decide +kernel)) (fun _ _ _ _ _ => (pgTK (K := K) (n := 2) (by rfl) (pgs_cons (pg_name (i := 5) sc__law_worked.nd rfl (.inl rfl)) (pgs_cons (pg_name (i := 4) sc__law_worked.nd rfl (.inl rfl)) pgs_nil)))) (fun _ _ _ _ _ => pts_one (PW.pt (pw_and (pt_cmpR op_gt (pe_ix (ixL (K := K)) (pv 1) (pv 5) (fun _ _ => rfl)) pe_int (nomark _)) (pw_and1 (pt_cmpR op_le (pe_ix (ixT (K := K)) (pv 4) pe_int (fun _ _ => rfl)) (pe_callB (lenK (K := K)) (by rfl) T.b_len (by decide +kernel) (pa_cons (pv 2) pa_nil)) (nomark _)))))) (fun _ _ _ _ _ => (pe_tup (pa_cons (pe_ix (ixT (K := K)) (pv 4) pe_int (fun _ _ => rfl)) (pa_cons (pv 5) pa_nil)))))
    (pss_cons (ps_expr (pe_bm PySem.F.plainAttrs_list PySem.F.slot_list_append PySem.F.type_list_append mt_append (pv 2) (pa_cons (pe_ifExp (pt_cmpR (neDK (K := K) hr.units) (pv 3) (pe_lst pa_nil) (nomark _)) (pe_ix (ixT (K := K)) (pe_callB (cr_minTs (K := K) rfl hr.units) (by rfl) T.b_min (by decide +kernel) (pa_cons (pv 3) pa_nil)) pe_int (fun _ _ => rfl)) pe_non) pa_nil)))
    (pss_one (ps_if (pt_cmpR (neDK (K := K) hr.units) (pv 3) (pe_lst pa_nil) (nomark _)) (pss_one (ps_asg (pe_op op_sub (pe_ix (ixL (K := K)) (pv 1) (pe_ix (ixL (K := K)) (pv 2) (pe_un un_neg pe_int) (fun _ _ => rfl)) (fun _ _ => rfl)) pe_int) (pg_sub (pv 1) (pe_ix (ixL (K := K)) (pv 2) (pe_un un_neg pe_int) (fun _ _ => rfl)) set_list))) pss_nil)))))
    (pss_one (ps_ret (pv 2)))))), q_start (τ := [some _, none, none, none, none, none]) rfl ?_⟩
    have lx := ts.len
    have ok : Rows4 rows := fun r hr => (near r hr).row
    walk_at "go"
    intro D nD
    refine lcp_mapR (fun r => r.getD 0 0) nD ha ts (by omega) (fun t r H1 hr e1 ht0 R k => ?_) (fun H1 e1 hD => ?_)
    · obtain ⟨l, fm, du, wg, rfl, _⟩ := ok r hr
      have ht : H1 t = some (.tup [.int l, .int fm, .int du, .int wg]) := ht0
      clear ht0
      walk_at "go"
      exact k _ (Ex.refl _)
    walk_at "go"
    rename_i F nF
    have e2 := ex_new (o := .lst []) e1 nF
    have nF0 := Evl.fresh_back e1 nF
    have hF := upd_same (H := H1) (a := F) (o := .lst [])
    have hD2 := fresh_at (u := .lst []) nF hD
    have DF : D ≠ F := ne_fresh nF hD
    generalize upd H1 F (.lst []) = H2 at e2 hF hD2 ⊢
    have sum0 : sumT (lefts rows 0) ≤ 180 := by
      have : ∀ l : List (List Int), (∀ r ∈ l, NearR r) → sumT (l.map fun r => r.getD 0 0) ≤ 6 * l.length := fun l h => by
        induction l with
        | nil => exact Nat.le_refl _
        | cons r l ih =>
          obtain ⟨a1, f, b, w, rfl, h1, h2, _⟩ := h _ List.mem_cons_self
          have := ih fun z hz => h z (List.mem_cons_of_mem _ hz)
          show a1.toNat + sumT (l.map fun r => r.getD 0 0) ≤ 6 * (l.length + 1)
          omega
      have := this rows near
      show sumT (rows.map fun r => r.getD 0 0) ≤ 180
      omega
    refine q_while (fun σ H' => ∃ (N : Nat) (t3 t4 t5 : Option V), σ = [some (.ref a), some (.ref D), some (.ref F), t3, t4, t5] ∧ Ex H H' ∧ H' D = some (.lst ((lefts rows N).map V.int)) ∧ H' F = some (.lst ((wkL rows N).map oV)) ∧ N + sumT (lefts rows N) ≤ 24 + 180 ∧ sumT (lefts rows N) ≤ 180)
      (muK D F) ⟨0, _, _, _, rfl, e2, hD2, hF, by omega, sum0⟩ ?_ ?_
    · rintro σ H3 ⟨N, t3, t4, t5, rfl, e3, hD3, hF3, sz, sz2⟩
      have ll := lefts_len rows N
      walk_at "go"
      have llm : ((lefts rows N).map V.int).length = rows.length := by rw [List.length_map, ll]
      have lw : ((wkL rows N).map oV).length = N := by
        unfold wkL
        rw [List.length_map, List.length_map, List.length_range]
      refine q_maxL hD3 (by omega) (fun mx hm top => ?_)
      walk_at "go"
      by_cases c : 0 < mx
      · rw [decide_eq_true c, if_pos rfl]
        have ha3 := e3 _ _ ha
        have ts3 := ts.ex e3
        walk_at "go"
        intro D5 nD5
        refine lcp_enum (xs := xs) (fun i H' => ∃ ws, Ex H3 H' ∧ H' D5 = some (.lst ws) ∧ Ts H' ws (keyed (due_ rows) (wtL rows (lefts rows N) N ((Bs.upTo rows.length).take i))) ∧ ws.length ≤ i) ⟨[], Ex.new nD5, upd_same, .nil, Nat.le_refl _⟩ (fun i H' _ h => ?_) (fun i x H' t hx h nt => ?_) (fun H5 h => ?_)
        · obtain ⟨_, e, _⟩ := h
          exact e _ _ ha3
        · obtain ⟨ws, e5, hDw, tw, lws⟩ := h
          have hi := (List.getElem?_eq_some_iff.mp hx).1
          have hu := upTo_get (n := rows.length) (i := i) (by omega)
          obtain ⟨tt, ns, rfl, hns, htt⟩ := ts3.get hx
          have htt : H3 tt = some (.tup [.int (len_ rows (i : Nat)), .int (frm_ rows (i : Nat)), .int (due_ rows (i : Nat)), .int (wgt_ rows (i : Nat))]) := by rw [htt, rows4_is ok hns]; rfl
          have e6 := ex_new (o := .tup [.int (i : Nat), .ref tt]) e5 nt
          have hDw6 := fresh_at (u := .tup [.int (i : Nat), .ref tt]) nt hDw
          have tw6 := ts_new (o := .tup [.int (i : Nat), .ref tt]) nt tw
          have htt6 := e6 _ _ htt
          have hD6 := e6 _ _ hD3
          have hF6 := e6 _ _ hF3
          generalize hg : upd H' t (.tup [.int (i : Nat), .ref tt]) = H6 at e6 hDw6 tw6 htt6 hD6 hF6 ⊢
          have ht6 : H6 t = some (.tup [.int (i : Nat), .ref tt]) := by rw [← hg]; exact upd_same
          have step : ∀ c : Bool, (decide (0 < lfA (lefts rows N) (i : Nat)) && decide (frm_ rows (i : Nat) ≤ (N : Int))) = c → wtL rows (lefts rows N) N ((Bs.upTo rows.length).take (i + 1)) = wtL rows (lefts rows N) N ((Bs.upTo rows.length).take i) ++ (if c = true then [((i : Nat) : Int)] else []) := fun c hc => by
            unfold wtL
            rw [take_snoc hu, List.filter_append]
            cases c with
            | true => rw [List.filter_cons_of_pos (p := fun x => decide (0 < lfA (lefts rows N) x) && decide (frm_ rows x ≤ (N : Int))) hc, List.filter_nil, if_pos rfl]
            | false => rw [List.filter_cons_of_neg (p := fun x => decide (0 < lfA (lefts rows N) x) && decide (frm_ rows x ≤ (N : Int))) (by rw [hc]; exact Bool.false_ne_true), List.filter_nil, if_neg Bool.false_ne_true]
          walk_at "go"
          refine q_ixL hD6 (at_lf (by omega)) ?_
          walk_at "go"
          refine q_ifD (fun c1 => ?_) (fun c1 => ?_)
          · walk_at "go"
            refine q_ifD (fun c2 => ?_) (fun c2 => ?_)
            · rw [lw] at c2
              walk_at "go"
              rename_i p np
              refine ⟨ws ++ [.ref p], (ex_new e6 np).mut nD5, upd_same, ?_, by rw [List.length_append]; exact Nat.succ_le_succ lws⟩
              rw [step true (by rw [decide_eq_true c1, decide_eq_true c2]; rfl), if_pos rfl]
              unfold keyed
              rw [List.map_append]
              have hDw7 := fresh_at (u := .tup [.int (due_ rows (i : Nat)), .int (i : Nat)]) np hDw6
              refine Ts.append ((ts_new np tw6).tp (Tp.upd hDw7)) (.cons ?_ .nil)
              rw [upd_ne (ne_fresh' np hDw6)]
              exact upd_same
            · rw [lw] at c2
              refine ⟨ws, e6, hDw6, ?_, by omega⟩
              rw [step false (by rw [decide_eq_false c2, Bool.and_false]), if_neg Bool.false_ne_true, List.append_nil]
              exact tw6
          · refine ⟨ws, e6, hDw6, ?_, by omega⟩
            rw [step false (by rw [decide_eq_false c1, Bool.false_and]), if_neg Bool.false_ne_true, List.append_nil]
            exact tw6
        obtain ⟨ws, e35, hD5, tw, lws⟩ := h
        rw [List.take_of_length_le (by rw [upTo_len]; omega)] at tw
        have wmem : ∀ y : Int, y ∈ wtL rows (lefts rows N) N (Bs.upTo rows.length) ↔ (0 ≤ y ∧ y < rows.length) ∧ 0 < lfA (lefts rows N) y ∧ frm_ rows y ≤ (N : Int) := fun y => by
          unfold wtL
          rw [List.mem_filter, upTo_mem, Bool.and_eq_true, decide_eq_true_eq, decide_eq_true_eq]
        have wk : wkd rows N = leastK rows (wtL rows (lefts rows N) N (Bs.upTo rows.length)) := rfl
        have lwk : ws.length = (wtL rows (lefts rows N) N (Bs.upTo rows.length)).length := by
          rw [tw.len]
          unfold keyed
          rw [List.length_map]
        generalize wtL rows (lefts rows N) N (Bs.upTo rows.length) = W at tw wmem wk lwk
        have hD35 := e35 _ _ hD3
        have hF35 := e35 _ _ hF3
        have e5 := e3.trans e35
        walk_at "go"
        rename_i p1 np1
        have d1 := tw.dp (K := K)
        have e6 := ex_new (o := .lst []) e5 np1
        have e36 := ex_new (o := .lst []) e35 np1
        have hD6 := fresh_at (u := .lst []) np1 hD35
        have hF6 := fresh_at (u := .lst []) np1 hF35
        have hS6 := fresh_at (u := .lst []) np1 hD5
        have tw6 := ts_new (o := .lst []) np1 tw
        have hp1 := upd_same (H := H5) (a := p1) (o := .lst [])
        generalize upd H5 p1 (.lst []) = H6 at e6 e36 hD6 hF6 hS6 tw6 hp1 ⊢
        refine q_neD (.lst (SqL.of hS6) (tw6.dp (K := K))) (.lst (SqL.of hp1) (dpa_ints (ns := []))) (shaped_ts _) shaped_ints ?_
        have wkn : wkL rows (N + 1) = wkL rows N ++ [wkd rows N] := by
          unfold wkL
          rw [List.range_succ, List.map_append]
          rfl
        cases W with
        | nil =>
          have hn : wkd rows N = none := wk
          rw [show (!PyData.eqv (.list ((keyed (due_ rows) []).map fun ns => .tuple (ns.map .int))) (.list (([] : List Int).map PyData.int))) = false from rfl]
          walk_at "go"
          rename_i p2 np2
          have D5F : D5 ≠ F := ne_fresh' nD5 hF3
          have e7 := e6.mut (o := .lst ((wkL rows N).map oV ++ [V.non])) nF0
          have hF7 := upd_same (H := H6) (a := F) (o := .lst ((wkL rows N).map oV ++ [V.non]))
          have hD7 := upd_at (u := .lst ((wkL rows N).map oV ++ [V.non])) DF hD6
          have hS7 := upd_at (u := .lst ((wkL rows N).map oV ++ [V.non])) D5F hS6
          have tw7 := tw6.tp (Tp.upd (o := .lst ((wkL rows N).map oV ++ [V.non])) hF6)
          generalize upd H6 F (.lst ((wkL rows N).map oV ++ [V.non])) = H7 at e7 hF7 hD7 hS7 tw7 np2 ⊢
          have e8 := ex_new (o := .lst []) e7 np2
          have hF8 := fresh_at (u := .lst []) np2 hF7
          have hD8 := fresh_at (u := .lst []) np2 hD7
          have hS8 := fresh_at (u := .lst []) np2 hS7
          have tw8 := ts_new (o := .lst []) np2 tw7
          have hp2 := upd_same (H := H7) (a := p2) (o := .lst [])
          generalize upd H7 p2 (.lst []) = H8 at e8 hF8 hD8 hS8 tw8 hp2 ⊢
          refine q_neD (.lst (SqL.of hS8) (tw8.dp (K := K))) (.lst (SqL.of hp2) (dpa_ints (ns := []))) (shaped_ts _) shaped_ints ?_
          rw [show (!PyData.eqv (.list ((keyed (due_ rows) []).map fun ns => .tuple (ns.map .int))) (.list (([] : List Int).map PyData.int))) = false from rfl]
          walk_at "go"
          have el : lefts rows (N + 1) = lefts rows N := by
            rw [lefts_succ, hn]
            rfl
          have n24 : N < 24 := by
            obtain ⟨k, hk⟩ := List.mem_iff_getElem?.mp hm
            have kl := (List.getElem?_eq_some_iff.mp hk).1
            have ev : lfA (lefts rows N) (k : Int) = mx := by
              unfold lfA
              rw [Int.toNat_natCast, List.getD_eq_getElem?_getD, hk]
              rfl
            have f24 := near_frm near (x := (k : Int)) (by omega) (by omega)
            refine Classical.byContradiction fun no => ?_
            have := (wmem (k : Int)).mpr ⟨⟨by omega, by omega⟩, by omega, by omega⟩
            cases this
          refine ⟨⟨N + 1, _, _, _, rfl, e8, by rw [el]; exact hD8, by rw [wkn, hn, List.map_append]; exact hF8, by rw [el]; omega, by rw [el]; exact sz2⟩, ?_⟩
          unfold muK
          rw [hD8, hF8, hD3, hF3]
          show _ + (1000 - ((wkL rows N).map oV ++ [V.non]).length) < _ + (1000 - ((wkL rows N).map oV).length)
          rw [List.length_append, lw]
          show _ + (1000 - (N + 1)) < _
          omega
        | cons w0 W0 =>
          rw [show (!PyData.eqv (.list ((keyed (due_ rows) (w0 :: W0)).map fun ns => .tuple (ns.map .int))) (.list (([] : List Int).map PyData.int))) = true from rfl]
          walk_at "go"
          refine q_minTs 2 hS6 tw6 (by unfold keyed; simp) (fun r hr => by
            obtain ⟨y, _, rfl⟩ := List.mem_map.mp hr
            rfl) (fun t r hr ht le => ?_)
          obtain ⟨x0, hx0, rfl⟩ := List.mem_map.mp hr
          obtain ⟨⟨a0, a1⟩, lpos, fr0⟩ := (wmem x0).mp hx0
          have hk : wkd rows N = some x0 := by
            rw [wk]
            refine leastK_of hx0 fun y hy => ?_
            have := le _ (List.mem_map.mpr ⟨y, hy, rfl⟩)
            rw [lex_ahd] at this
            exact Classical.byContradiction fun no => absurd no (of_decide_eq_false this)
          obtain ⟨k0, rfl⟩ : ∃ k : Nat, x0 = (k : Int) := ⟨_, (Int.toNat_of_nonneg a0).symm⟩
          have ht : H6 t = some (.tup [.int (due_ rows (k0 : Int)), .int (k0 : Int)]) := ht
          walk_at "go"
          rename_i p2 np2
          have D5F : D5 ≠ F := ne_fresh' nD5 hF3
          have e7 := e6.mut (o := .lst ((wkL rows N).map oV ++ [V.int (k0 : Int)])) nF0
          have hF7 := upd_same (H := H6) (a := F) (o := .lst ((wkL rows N).map oV ++ [V.int (k0 : Int)]))
          have hD7 := upd_at (u := .lst ((wkL rows N).map oV ++ [V.int (k0 : Int)])) DF hD6
          have hS7 := upd_at (u := .lst ((wkL rows N).map oV ++ [V.int (k0 : Int)])) D5F hS6
          have tw7 := tw6.tp (Tp.upd (o := .lst ((wkL rows N).map oV ++ [V.int (k0 : Int)])) hF6)
          generalize upd H6 F (.lst ((wkL rows N).map oV ++ [V.int (k0 : Int)])) = H7 at e7 hF7 hD7 hS7 tw7 np2 ⊢
          have e8 := ex_new (o := .lst []) e7 np2
          have hF8 := fresh_at (u := .lst []) np2 hF7
          have hD8 := fresh_at (u := .lst []) np2 hD7
          have hS8 := fresh_at (u := .lst []) np2 hS7
          have tw8 := ts_new (o := .lst []) np2 tw7
          have hp2 := upd_same (H := H7) (a := p2) (o := .lst [])
          generalize upd H7 p2 (.lst []) = H8 at e8 hF8 hD8 hS8 tw8 hp2 ⊢
          refine q_neD (.lst (SqL.of hS8) (tw8.dp (K := K))) (.lst (SqL.of hp2) (dpa_ints (ns := []))) (shaped_ts _) shaped_ints ?_
          rw [show (!PyData.eqv (.list ((keyed (due_ rows) (w0 :: W0)).map fun ns => .tuple (ns.map .int))) (.list (([] : List Int).map PyData.int))) = true from rfl]
          walk_at "go"
          refine q_ixL hF8 (atI_last _ _) ?_
          refine q_ixL hD8 (at_lf (by omega)) ?_
          walk_at "go"
          refine q_ixL hF8 (atI_last _ _) ?_
          refine q_setL hD8 (ixN_nat (by rw [llm]; omega)) ?_
          walk_at "go"
          have el : lefts rows (N + 1) = (lefts rows N).set k0 (lfA (lefts rows N) (k0 : Int) - 1) := by
            rw [lefts_succ, hk]
            rfl
          have hk0 : (lefts rows N)[k0]? = some (lfA (lefts rows N) (k0 : Int)) := by
            unfold lfA
            rw [Int.toNat_natCast, List.getD_eq_getElem?_getD, List.getElem?_eq_getElem (by omega)]
            rfl
          have sset := sumT_set (lefts rows N) k0 (lfA (lefts rows N) (k0 : Int) - 1) _ hk0
          rw [← el] at sset
          have hD9 : upd H8 D (.lst (((lefts rows N).map V.int).set k0 (.int (lfA (lefts rows N) (k0 : Int) - 1)))) D = some (.lst ((lefts rows (N + 1)).map V.int)) := by rw [upd_same, el, List.map_set]
          have hF9 : upd H8 D (.lst (((lefts rows N).map V.int).set k0 (.int (lfA (lefts rows N) (k0 : Int) - 1)))) F = some (.lst ((wkL rows (N + 1)).map oV)) := by
            rw [wkn, hk, List.map_append]
            exact upd_at DF.symm hF8
          refine ⟨⟨N + 1, _, _, _, rfl, e8.mut nD, hD9, hF9, by omega, by omega⟩, ?_⟩
          unfold muK
          rw [hD9, hF9, hD3, hF3]
          show (((lefts rows (N + 1)).map V.int).map vT).sum + (1000 - ((wkL rows (N + 1)).map oV).length) < (((lefts rows N).map V.int).map vT).sum + (1000 - ((wkL rows N).map oV).length)
          rw [vT_sum, vT_sum]
          have : ((wkL rows (N + 1)).map oV).length = N + 1 := by
            unfold wkL
            rw [List.length_map, List.length_map, List.length_range]
          omega
      · rw [decide_eq_false c, if_neg Bool.false_ne_true]
        have z : ∀ v ∈ lefts rows N, v = 0 := fun v hv => by
          have := top v hv
          have := lefts_nn rows near N v hv
          omega
        walk_at "go"
        exact q F N H3 e3 nF0 hF3 (by omega) z fun t ht => by
          have := (wkd_over z (t - N)).2
          rwa [show N + (t - N) = t by omega] at this
    · intro σ H Q Q' m h
      obtain ⟨v, e, a', ns', l, sq, pos, hq⟩ := h
      refine ⟨v, e, a', ns', l, sq, pos, fun mm h1 h2 => ?_⟩
      obtain ⟨i, j, e1, e2, k, e3, h3⟩ := hq mm h1 h2
      exact ⟨i, j, e1, e2, k, e3, m _ _ h3⟩

end
end Bk33


namespace Bk33
open PySem PySem.Spec PyProof.Rows L2 Bs
open Evl (Ex)

section
variable {P : Program} {w : World} {K : PySem.W.Frag} {mg : Str → Option Value} {base : Heap}
/-! pieces of the hours -/
theorem eqv_nilL : ∀ {ds : List PyData}, ds ≠ [] → PyData.eqv (.list ds) (.list []) = false
  | [], h => absurd rfl h
  | _ :: _, _ => rfl
theorem last_of {α : Type} : ∀ l : List α, l ≠ [] → ∃ m a, l = m ++ [a] := fun l h => ⟨_, _, (List.dropLast_concat_getLast h).symm⟩
theorem set_last {α : Type} (a b : α) : ∀ (l : List α) (j : Nat), j = l.length → (l ++ [a]).set j b = l ++ [b]
  | [], _, rfl => rfl
  | x :: l, _, rfl => by
    show x :: (l ++ [a]).set l.length b = _
    rw [set_last a b l l.length rfl]
    rfl
def spLPieces : Sp := fun vs H Q _ => ∃ (a : Addr) (rows : List (List Int)) (T : Nat), vs = [.ref a] ∧ H a = some (.lst ((wkL rows T).map oV)) ∧ T ≤ 300 ∧
  ∀ (p : Addr) (zs : List V) (srt ps : List (List Int)) (H' : Hp), Ex H H' → H p = none → H' p = some (.lst zs) → Ts H' zs srt → srt.Perm ps → Lex srt → IsPcs (wkd rows) ps T → ps.length ≤ T → Q (.ref p) H'
theorem ok__law_pieces (T : Tx K mg) : Cal P w K mg base 1 "_law_pieces" ["worked"] spLPieces := by
  refine T.d__law_pieces.cal sc__law_pieces (fun vs H Q E h => ?_) (fun f cdv A outer s H vs Q E hr h => ?_)
  · obtain ⟨_, _, _, rfl, _⟩ := h
    rfl
  · obtain ⟨a, rows, N, rfl, ha, n300, q⟩ := h
    refine ⟨_, (pss_cons (ps_set (i := 1) sc__law_pieces.nd rfl (.inl rfl) (pe_lst pa_nil))
    (pss_cons (ps_for PassesOwn.never rfl (pi_enum (by rfl) T.b_enumerate (pa_cons (pv 0) pa_nil)) (pgTK (K := K) (n := 2) (by rfl) (pgs_cons (pg_name (i := 2) sc__law_pieces.nd rfl (.inl rfl)) (pgs_cons (pg_name (i := 3) sc__law_pieces.nd rfl (.inl rfl)) pgs_nil))) (pss_one (ps_if (pt_cmpR au_notN (pv 3) pe_non (nomark _)) (pss_one (ps_if (PW.pt (pw_and (pt_cmpR (neDK (K := K) hr.units) (pv 1) (pe_lst pa_nil) (nomark _)) (pw_and (pt_cmpR op_eq (pe_ix (ixT (K := K)) (pe_ix (ixL (K := K)) (pv 1) (pe_un un_neg pe_int) (fun _ _ => rfl)) pe_int (fun _ _ => rfl)) (pv 3) (nomark _)) (pw_and1 (pt_cmpR op_eq (pe_ix (ixT (K := K)) (pe_ix (ixL (K := K)) (pv 1) (pe_un un_neg pe_int) (fun _ _ => rfl)) pe_int (fun _ _ => rfl)) (pv 2) (nomark _)))))) (pss_one (ps_asg (pe_tup (pa_cons (pv 3) (pa_cons (pe_ix (ixT (K := K)) (pe_ix (ixL (K := K)) (pv 1) (pe_un un_neg pe_int) (fun _ _ => rfl)) pe_int (fun _ _ => rfl)) (pa_cons (pe_op op_add (pv 2) pe_int) pa_nil)))) (pg_sub (pv 1) (pe_un un_neg pe_int) set_list))) (pss_one (ps_expr (pe_bm PySem.F.plainAttrs_list PySem.F.slot_list_append PySem.F.type_list_append mt_append (pv 1) (pa_cons (pe_tup (pa_cons (pv 3) (pa_cons (pv 2) (pa_cons (pe_op op_add (pv 2) pe_int) pa_nil)))) pa_nil)))))) pss_nil)))
    (pss_one (ps_ret (pe_callB (cr_sortedNs (K := K)) (by rfl) T.b_sorted (by decide +kernel) (pa_cons (pv 1) pa_nil)))))), q_start (τ := [some _, none, none, none]) rfl ?_⟩
    have lw : ((wkL rows N).map oV).length = N := by
      unfold wkL
      rw [List.length_map, List.length_map, List.length_range]
    walk_at "go"
    rename_i F nF
    have e1 := ex_new (o := .lst []) (Ex.refl H) nF
    have hF := upd_same (H := H) (a := F) (o := .lst [])
    generalize upd H F (.lst []) = H1 at e1 hF ⊢
    refine loop_enum (xs := (wkL rows N).map oV) (fun i σ H' => ∃ (t2 t3 : Option V) (ys : List V) (ps : List (List Int)), σ = [some (.ref a), some (.ref F), t2, t3] ∧ Ex H H' ∧ H' F = some (.lst ys) ∧ Ts H' ys ps ∧ IsPcs (wkd rows) ps i ∧ ps.length ≤ i) ⟨_, _, [], [], rfl, e1, hF, .nil, IsPcs.start, Nat.le_refl _⟩ (fun i σ H' _ h => ?_) (fun i x σ H' t hx h nt => ?_) (fun σ H' h => ?_)
    · obtain ⟨_, _, _, _, _, e, _⟩ := h
      exact e _ _ ha
    · obtain ⟨t2, t3, ys, ps, rfl, e2, hF2, tp, pc, lp⟩ := h
      have ly := tp.len
      obtain ⟨o, ho, rfl⟩ : ∃ o, (wkL rows N)[i]? = some o ∧ oV o = x := by
        rw [List.getElem?_map] at hx
        exact Option.map_eq_some_iff.mp hx
      have hi : i < N := by
        have := (List.getElem?_eq_some_iff.mp hx).1
        omega
      have eo : o = wkd rows i := by
        unfold wkL at ho
        rw [List.getElem?_map, List.getElem?_range hi] at ho
        exact (Option.some.inj ho).symm
      have e3 := ex_new (o := .tup [.int (i : Nat), oV o]) e2 nt
      have hF3 := fresh_at (u := .tup [.int (i : Nat), oV o]) nt hF2
      have tp3 := ts_new (o := .tup [.int (i : Nat), oV o]) nt tp
      have ht := upd_same (H := H') (a := t) (o := .tup [.int (i : Nat), oV o])
      generalize upd H' t (.tup [.int (i : Nat), oV o]) = H3 at e3 hF3 tp3 ht ⊢
      refine q_gtup ht rfl ?_
      walk_at "go"
      cases o with
      | none =>
        rw [decide_eq_true (show oV none = V.non from rfl)]
        rw [if_neg (show ¬ (!true) = true from Bool.false_ne_true)]
        walk_at "go"
        exact ⟨_, _, ys, ps, rfl, e3, hF3, tp3, pc.idle (fun p hp _ => by rw [← eo]; exact fun z => nomatch z) (Nat.le_succ _) (fun u u1 u2 => by
          obtain rfl : u = i := by omega
          exact eo.symm), by omega⟩
      | some x =>
        rw [decide_eq_false (show ¬ oV (some x) = V.non from fun z => by cases z)]
        have ht : H3 t = some (.tup [.int (i : Nat), .int x]) := ht
        rw [show oV (some x) = V.int x from rfl]
        rw [if_pos (show (!false) = true from rfl)]
        walk_at "go"
        rename_i p2 np2
        have e4 := ex_new (o := .lst []) e3 np2
        have hF4 := fresh_at (u := .lst []) np2 hF3
        have tp4 := ts_new (o := .lst []) np2 tp3
        have hp2 := upd_same (H := H3) (a := p2) (o := .lst [])
        generalize upd H3 p2 (.lst []) = H4 at e4 hF4 tp4 hp2 ⊢
        refine q_neD (.lst (SqL.of hF4) (tp4.dp (K := K))) (.lst (SqL.of hp2) (dpa_ints (ns := []))) (shaped_ts _) shaped_ints ?_
        have put : (∀ p ∈ ps, pB p = (i : Int) → wkd rows i ≠ some (pN p)) → IsPcs (wkd rows) (ps ++ [[x, (i : Int), ((i + 1 : Nat) : Int)]]) (i + 1) := fun h => pc.step h (Nat.lt_succ_self _) fun u u1 u2 => by
          obtain rfl : u = i := by omega
          exact eo.symm
        have lyi : ys.length ≤ 300 := by omega
        by_cases hps : ps = []
        · subst hps
          rw [show (!PyData.eqv (.list (([] : List (List Int)).map fun ns => .tuple (ns.map .int))) (.list (([] : List Int).map PyData.int))) = false from rfl]
          walk_at "go"
          rename_i p3 np3
          have hF5 := fresh_at (u := .tup [.int x, .int (i : Int), .int ((i : Int) + 1)]) np3 hF4
          refine ⟨_, _, ys ++ [.ref p3], [] ++ [[x, (i : Int), ((i + 1 : Nat) : Int)]], rfl, (ex_new e4 np3).mut nF, upd_same, Ts.append ((ts_new np3 tp4).tp (Tp.upd hF5)) (.cons ?_ .nil), put (fun p hp => nomatch hp), Nat.succ_le_succ (Nat.zero_le _)⟩
          rw [upd_ne (ne_fresh' np3 hF4)]
          exact upd_same
        · rw [show (!PyData.eqv (.list (ps.map fun ns => .tuple (ns.map .int))) (.list (([] : List Int).map PyData.int))) = true by
            rw [show (([] : List Int).map PyData.int) = [] from rfl, eqv_nilL (by simpa using hps)]
            rfl]
          obtain ⟨qs, l, rfl⟩ := last_of ps hps
          obtain ⟨x', h', b', rfl, g1, g2, g3⟩ := pc.form l (List.mem_append_right _ List.mem_cons_self)
          have ne : ys ≠ [] := fun z => by
            rw [z, List.length_append] at ly
            simp at ly
          obtain ⟨y1, v1, rfl⟩ := last_of ys ne
          rw [List.length_append, List.length_append] at ly
          have ly1 : y1.length = qs.length := Nat.succ.inj ly
          obtain ⟨tl, hys, htl⟩ := tp4.get' (i := qs.length) (ns := [x', (h' : Int), (b' : Int)]) (by rw [List.getElem?_append_right (Nat.le_refl _), Nat.sub_self]; rfl)
          rw [← ly1, List.getElem?_append_right (Nat.le_refl _), Nat.sub_self] at hys
          obtain rfl : v1 = .ref tl := Option.some.inj hys
          have htl : H4 tl = some (.tup [.int x', .int (h' : Int), .int (b' : Int)]) := htl
          walk_at "go"
          refine q_ixL hF4 (atI_last _ _) ?_
          walk_at "go"
          have other : ¬ (x' = x ∧ (b' : Int) = i) → ∀ p ∈ qs ++ [[x', (h' : Int), (b' : Int)]], pB p = (i : Int) → wkd rows i ≠ some (pN p) := fun no p hp ep z => by
            rcases List.mem_append.mp hp with hp | hp
            · have : pB p ≤ (h' : Int) := (List.pairwise_append.mp pc.ord).2.2 p hp _ List.mem_cons_self
              omega
            · rw [List.mem_singleton.mp hp] at ep z
              have ep : (b' : Int) = i := ep
              rw [← eo] at z
              exact no ⟨(Option.some.inj z).symm, ep⟩
          walk_at "go"
          by_cases c1 : x' = x
          · rw [decide_eq_true c1, if_pos rfl]
            walk_at "go"
            refine q_ixL hF4 (atI_last _ _) ?_
            walk_at "go"
            by_cases c2 : (b' : Int) = i
            · rw [decide_eq_true c2, if_pos rfl]
              walk_at "go"
              refine q_ixL hF4 (atI_last _ _) ?_
              walk_at "go"
              rename_i p3 np3
              have hF5 := fresh_at (u := .tup [.int x, .int (h' : Int), .int ((i : Int) + 1)]) np3 hF4
              have hp3 := upd_same (H := H4) (a := p3) (o := .tup [.int x, .int (h' : Int), .int ((i : Int) + 1)])
              have tp5 := ts_new (o := .tup [.int x, .int (h' : Int), .int ((i : Int) + 1)]) np3 tp4
              have e5 := ex_new (o := .tup [.int x, .int (h' : Int), .int ((i : Int) + 1)]) e4 np3
              generalize upd H4 p3 (.tup [.int x, .int (h' : Int), .int ((i : Int) + 1)]) = H5 at hF5 hp3 tp5 e5 ⊢
              refine q_setL hF5 (ixN_last (by rw [List.length_append]; exact Nat.succ_pos _)) ?_
              have hp3 : H5 p3 = some (.tup ([x, (h' : Int), ((i + 1 : Nat) : Int)].map V.int)) := hp3
              have ts5 := Ts.set hp3 y1.length tp5
              rw [set_last _ _ y1 _ rfl, set_last _ _ qs _ ly1] at ts5
              rw [set_last _ _ y1 _ (by rw [List.length_append]; rfl)]
              subst c1
              obtain rfl : b' = i := by omega
              refine ⟨_, _, y1 ++ [.ref p3], qs ++ [[x', (h' : Int), ((b' + 1 : Nat) : Int)]], rfl, e5.mut nF, upd_same, ts5.tp (Tp.upd hF5), pc.more eo.symm, ?_⟩
              rw [List.length_append] at lp ⊢
              exact Nat.le_succ_of_le lp
            · rw [decide_eq_false c2, if_neg Bool.false_ne_true]
              walk_at "go"
              rename_i p3 np3
              have hF5 := fresh_at (u := .tup [.int x, .int (i : Int), .int ((i : Int) + 1)]) np3 hF4
              refine ⟨_, _, (y1 ++ [.ref tl]) ++ [.ref p3], (qs ++ [[x', (h' : Int), (b' : Int)]]) ++ [[x, (i : Int), ((i + 1 : Nat) : Int)]], rfl, (ex_new e4 np3).mut nF, upd_same, Ts.append ((ts_new np3 tp4).tp (Tp.upd hF5)) (.cons ?_ .nil), put (other fun h => c2 h.2), by rw [List.length_append]; exact Nat.succ_le_succ lp⟩
              rw [upd_ne (ne_fresh' np3 hF4)]
              exact upd_same
          · rw [decide_eq_false c1, if_neg Bool.false_ne_true]
            walk_at "go"
            rename_i p3 np3
            have hF5 := fresh_at (u := .tup [.int x, .int (i : Int), .int ((i : Int) + 1)]) np3 hF4
            refine ⟨_, _, (y1 ++ [.ref tl]) ++ [.ref p3], (qs ++ [[x', (h' : Int), (b' : Int)]]) ++ [[x, (i : Int), ((i + 1 : Nat) : Int)]], rfl, (ex_new e4 np3).mut nF, upd_same, Ts.append ((ts_new np3 tp4).tp (Tp.upd hF5)) (.cons ?_ .nil), put (other fun h => c1 h.1), by rw [List.length_append]; exact Nat.succ_le_succ lp⟩
            rw [upd_ne (ne_fresh' np3 hF4)]
            exact upd_same
    · obtain ⟨t2, t3, ys, ps, rfl, e2, hF2, tp, pc, lp⟩ := h
      walk_at "go"
      refine q_sortedNs hF2 tp (fun r hr => ?_) (fun p zs srt np tz pm so => ?_)
      · obtain ⟨_, _, _, rfl, _⟩ := pc.form r hr
        exact fun z => nomatch z
      rw [lw] at pc lp
      exact q p zs srt ps _ (ex_new e2 np) (Evl.fresh_back e2 np) upd_same (ts_new np tz) pm so pc lp

end
end Bk33

/-! Se: set(xs) of a list of whole numbers, as a set that sorted reads. -/
namespace RZ
open PySem PySem.Spec PyProof.Rows L2
abbrev ledOf (w : World) : Bool := !w.params.followText "set-order"
abbrev empO (w : World) : Obj :=
  { cls := .type "set"
    dict := none
    data := .set #[] 0 (.fresh 0 0 (ledOf w)) }
abbrev withE (w : World) (s : Shared) : Shared :=
  { s with heap := s.heap.push (empO w) }
/-- what stands behind set(xs): the members of ns, at the heap's first free place -/
abbrev SetD (w : World) (s : Shared) (ns : List Int) (h' : Heap) (c : Nat) : Prop :=
  SetR w h' s.heap.objs.size (fun j => decide (j ∈ ns)) c ∧ c ≤ ns.length ∧ ∀ b o, s.heap.get? b = some o → h'.get? b = some o
section
variable {P : Program} {w : World} {A : Around} {E : Value → Shared → Prop} {s : Shared}
set_option maxHeartbeats 3200000 in
theorem call_setI {l : Addr} {its : Array Value} (ns : List Int) {Q : Value → Shared → Prop} (hh : A.handled = none)
    (hl : s.heap.IsList l its) (hi : IntsAre its.toList ns) (room : ns.length + 1 < scanBound)
    (h : ∀ h' tk c, SetD w s ns h' c → Q (.ref s.heap.objs.size) { s with heap := h', toks := tk }) :
    wpAny (model P w) A (call (.type "set") [.ref l]) Q E s := by
  have many : its.size = ns.length := by
    have q := IntsAre.length hi
    rwa [Array.length_toList] at q
  obtain ⟨cx, tx, mro⟩ := F.called_set.mro
  have made := F.called_set.made
  have sub := F.called_set.sub
  refine wpAny_call (codeAny_of_tree ?_)
  show wpAny _ _ (callAny (.type "set") _) _ _ s
  refine wpAny_pure ⟨Code.quiet_builtin _ (by decide +kernel), ?_⟩
  refine codeAny_builtin F.entry_type_call ?_
  rw [Around.under_plain (weight_type_call_type "set" [.ref l] []) rfl]
  have noType := F.called_set.notType
  have creates := F.called_set.canCreate
  have typed := F.typeCall_set_1 (.ref l)
  repeat any_goals first | assumption | wp_step
  refine codeAny_mono (code_set_led1 (.ref l) (E := E) (Q₁ := fun v t => v = .ref s.heap.objs.size ∧ t = withE w s) ⟨rfl, rfl⟩) ?_
  intro fl t got
  match fl, got with
  | .ok (.ret v), got =>
    obtain ⟨ev, et⟩ := got
    subst ev et
    have at0 : (withE w s).heap.get? s.heap.objs.size = some (empO w) := Heap.get?_push_size _ rfl
    have isSet : Shared.TypeIs (withE w s) (.ref s.heap.objs.size) "set" := ⟨_, at0, rfl⟩
    have look := F.called_set.init.lookup
    have bnd := F.called_set.init.bind (.ref s.heap.objs.size)
    repeat any_goals first | assumption | wp_step
    refine codeAny_mono (codeAny_call_builtin (R := wants (fun v t => v = .none ∧ ∃ h' tk c, t = { s with heap := h', toks := tk } ∧ SetD w s ns h' c) E)
      F.called_set.init.plain F.entry_set_init (check_set_init_1 isSet ?_)) ?_
    · obtain ⟨ol, ho, hc, nl, hd⟩ := hl
      obtain ⟨ocl, odi, oda, osl⟩ := ol
      simp only at hc hd
      subst hc hd
      have ho' : (withE w s).heap.get? l = some _ := Heap.get?_push_of_some _ ho
      have no1 := F.sub_list_set
      have no2 := F.sub_list_frozenset
      have no3 : (Value.type "list" == Value.type "dict") = false := by decide
      have still : (withE w s).heap.IsList l its := ⟨_, ho', rfl, nl, rfl⟩
      unfold Builtin.«set.__init__»
      unfold noKeywords Builtin.Frozenset.updateFrom
      generalize eIt : pyIter = itr
      wp_walk
      subst eIt
      refine wpAny_pyIter_list still (wpAny_bind (wpAny_runValue ?_))
      have below : l < s.heap.objs.size := Heap.lt_size ho
      have calm3 : A.in1.in1.in1.handled = none := by simp [hh]
      have sz : (withE w s).heap.objs.size = s.heap.objs.size + 1 := Heap.size_push ..
      have apart : l ≠ (withE w s).heap.objs.size := by
        rw [sz]
        exact Nat.ne_of_lt (Nat.lt_succ_of_lt below)
      have out : s.heap.objs.size ∉ [(withE w s).heap.objs.size, l] := by
        simp only [List.mem_cons, List.not_mem_nil, or_false, not_or]
        exact ⟨by rw [sz]; exact Nat.ne_of_lt (Nat.lt_succ_self _), Nat.ne_of_gt below⟩
      have vals : ∀ (i : Nat) (v : Value), its[i]? = some v → ∃ k t, ns[i]? = some k ∧ v = .int k t := by
        intro i v hv
        have lt : i < ns.length := by
          have := (Array.getElem?_eq_some_iff.mp hv).1
          omega
        obtain ⟨t, e⟩ := IntsAre.int_at hi i v (by rwa [Array.getElem?_toList])
        exact ⟨ns[i], t, List.getElem?_eq_getElem lt, by rw [e, List.getD_eq_getElem?_getD, List.getElem?_eq_getElem lt]; rfl⟩
      refine set_update_ints ((Walks.list calm3 _ l apart its).toS) s.heap.objs.size out ns many room vals
        (its.size - 0) 0 _ (by omega) (Nat.zero_le _) ⟨⟨_, Heap.get?_push_size _ rfl, rfl, rfl⟩, still.push _⟩ ?_ ?_
      · exact ⟨0, Nat.le_refl 0, setR_new_at (Heap.get?_push_of_some _ at0)⟩
      · intro t c mv hc hS
        obtain ⟨h', g', d', tk, os'⟩ := t
        obtain rfl : g' = s.gens := mv.gens
        obtain rfl : d' = s.drawn := mv.drawn
        obtain rfl : os' = s.os := mv.os
        show wpAny _ _ _ _ _ _
        refine wpAny_pure ?_
        show wpAny _ _ (ret Value.none) _ _ _
        refine wpAny_pure ⟨rfl, h', tk, c, rfl, hS, by omega, fun b o e => ?_⟩
        have lt : b < s.heap.objs.size := Heap.lt_size e
        refine mv.heap b o ?_ (Heap.get?_push_of_some _ (Heap.get?_push_of_some _ e))
        simp only [List.mem_cons, List.not_mem_nil, or_false, not_or]
        exact ⟨Nat.ne_of_lt lt, by rw [sz]; exact Nat.ne_of_lt (Nat.lt_succ_of_lt lt)⟩
    · intro fl2 t2 got2
      match fl2, got2 with
      | .ok (.ret v), got2 =>
        obtain ⟨ev, h', tk, c, et, sd⟩ := got2
        subst ev et
        repeat any_goals first | assumption | wp_step
        exact h _ _ _ sd
      | .error e, got2 => exact got2
  | .error e, got => exact got
end
section
variable {X : Cx} {K : PySem.W.Frag} {w : World}
/-- set(xs): xs a list of fewer than 64 whole numbers -/
def rSetI (K : PySem.W.Frag) (w : World) : List V → Hp → VK → Prop := fun vs H Q => ∃ (a : Addr) (ns : List Int), vs = [V.ref a] ∧ SqL K H a (ns.map V.int) ∧ ns.length < 64 ∧
  ∀ (p : Addr) (n : Nat), n ≤ ns.length → H p = none → Q (.ref p) (upd H p (SetO w p (fun j => decide (j ∈ ns)) n))
theorem cr_setI (hc : X.calm = true) (hK : X.K = K := by rfl) (hW : X.w = w := by rfl) : CallR X (.type "set") (rSetI K w) := by
  subst hK hW
  intro pins s σ H vs us Q I r h
  obtain ⟨a, ns, rfl, hs, h64, q⟩ := h
  obtain ⟨its, rv, hl, hz⟩ := I.list hs
  rw [Vals.ref1 r]
  refine call_setI ns (I.ok.hd hc) hl.isList (by simpa using rv.ints) (by unfold scanBound; omega) fun h' tk c ⟨R, hn, hk⟩ => ?_
  exact ⟨.ref _, upd H s.heap.objs.size (SetO X.w s.heap.objs.size _ c), I.laid (t' := tk) hk (Nat.le_refl _) (setO_new R), rfl, q _ c hn (I.hok.fresh (Nat.le_refl _))⟩
/-- set(t): t a tuple of fewer than 64 whole numbers -/
def rSetTI (K : PySem.W.Frag) (w : World) : List V → Hp → VK → Prop := fun vs H Q => ∃ (a : Addr) (ns : List Int), vs = [V.ref a] ∧ SqT K H a (ns.map V.int) ∧ ns.length < 64 ∧
  ∀ (p : Addr) (n : Nat), n ≤ ns.length → H p = none → Q (.ref p) (upd H p (SetO w p (fun j => decide (j ∈ ns)) n))
theorem cr_setTI (hc : X.calm = true) (hK : X.K = K := by rfl) (hW : X.w = w := by rfl) : CallR X (.type "set") (rSetTI K w) := by
  subst hK hW
  intro pins s σ H vs us Q I r h
  obtain ⟨a, ns, rfl, hs, h64, q⟩ := h
  obtain ⟨its, rv, hT, hz⟩ := I.tuple hs
  rw [Vals.ref1 r]
  refine call_set_tupI ns (I.ok.hd hc) (show s.heap.IsTuple a its.toArray from hT) (by simpa using rv.ints) (by unfold scanBound; omega) fun h' tk c R hn hk => ?_
  exact ⟨.ref _, upd H s.heap.objs.size (SetO X.w s.heap.objs.size _ c), I.laid (t' := tk) hk (Nat.le_refl _) (setO_new R), rfl, q _ c hn (I.hok.fresh (Nat.le_refl _))⟩
theorem au_sortedSet (hc : X.calm = true) (hW : X.w = w := by rfl) : CallR X (.builtin "sorted") (rSortedSet w) := hW ▸ cr_sortedSet hc
/-- a rising list is what sorted tells of its set -/
theorem rising_uniq : ∀ {a b : List Int}, a.Pairwise (· < ·) → b.Pairwise (· < ·) → (∀ k, k ∈ a ↔ k ∈ b) → a = b
  | [], [], _, _, _ => rfl
  | [], y :: b, _, _, h => absurd ((h y).mpr List.mem_cons_self) (by simp)
  | x :: a, [], _, _, h => absurd ((h x).mp List.mem_cons_self) (by simp)
  | x :: a, y :: b, ha, hb, h => by
    obtain ⟨a1, a2⟩ := List.pairwise_cons.mp ha
    obtain ⟨b1, b2⟩ := List.pairwise_cons.mp hb
    have e : x = y := by
      rcases List.mem_cons.mp ((h x).mp List.mem_cons_self) with e | e
      · exact e
      · rcases List.mem_cons.mp ((h y).mpr List.mem_cons_self) with e' | e'
        · exact e'.symm
        · have := a1 y e'
          have := b1 x e
          omega
    subst e
    rw [rising_uniq a2 b2 fun k => ?_]
    constructor
    · intro hk
      rcases List.mem_cons.mp ((h k).mp (List.mem_cons_of_mem _ hk)) with e | e
      · have := a1 k hk
        omega
      · exact e
    · intro hk
      rcases List.mem_cons.mp ((h k).mpr (List.mem_cons_of_mem _ hk)) with e | e
      · have := b1 k hk
        omega
      · exact e
end
end RZ


namespace Bk33
open PySem PySem.Spec PyProof.Rows L2 Bs
open Evl (Ex)

section
variable {P : Program} {w : World} {K : PySem.W.Frag} {mg : Str → Option Value} {base : Heap}
def spIsSet : Sp := fun vs H Q _ => ∃ (a : Addr) (S : List Int) (n : Nat), vs = [.ref a, .int (n : Int)] ∧ H a = some (.lst (S.map V.int)) ∧ S ≠ [] ∧ S.length ≤ 30 ∧ S.Pairwise (· < ·) ∧ (∀ x ∈ S, 0 ≤ x ∧ x < n) ∧ ∀ H', Ex H H' → Q (.bl true) H'
def spLWhole : Sp := fun vs H Q _ => ∃ i : Int, vs = [.int i] ∧ Q (.bl true) H
theorem ok__law_whole (T : Tx K mg) : Cal P w K mg base 1 "_law_whole" ["thing"] spLWhole := by
  refine T.d__law_whole.cal sc__law_whole (fun vs H Q E h => ?_) (fun f cdv A outer s H vs Q E hr h => ?_)
  · obtain ⟨_, rfl, _⟩ := h
    rfl
  · obtain ⟨i, rfl, q⟩ := h
    refine ⟨_, (pss_one (ps_ret (pe_and (pe_callB (isiK (K := K)) (by rfl) T.b_isinstance (by decide +kernel) (pa_cons (pv 0) (pa_cons (pe_bltn (v := .ty "int") rfl T.b_int (by decide +kernel) rfl) pa_nil))) (pe_one (pe_not (pe_callB (isiK (K := K)) (by rfl) T.b_isinstance (by decide +kernel) (pa_cons (pv 0) (pa_cons (pe_bltn (v := .ty "bool") rfl T.b_bool (by decide +kernel) rfl) pa_nil)))))))), q_start (τ := [some _]) rfl ?_⟩
    walk_at "go"
    exact q

theorem ok__law_is_set (T : Tx K mg) : Cal P w K mg base 2 "_law_is_set" ["found", "many"] spIsSet := by
  have G__law_whole : Cal P w K mg base 1 "_law_whole" ["thing"] spLWhole := ok__law_whole T
  refine T.d__law_is_set.cal sc__law_is_set (fun vs H Q E h => ?_) (fun f cdv A outer s H vs Q E hr h => ?_)
  · obtain ⟨_, _, _, rfl, _⟩ := h
    rfl
  · obtain ⟨a, S, n, rfl, ha, ne, l30, ri, bd, q⟩ := h
    refine ⟨_, (pss_cons (ps_if (PW.pt (pw_or (pt_not (pt_val (pe_callB (isiK (K := K)) (by rfl) T.b_isinstance (by decide +kernel) (pa_cons (pv 0) (pa_cons (pe_bltn (v := .ty "list") rfl T.b_list (by decide +kernel) rfl) pa_nil))))) (pw_or (pt_cmpR (eqDK (K := K) hr.units) (pv 0) (pe_lst pa_nil) (nomark _)) (pw_or1 (pt_not (pt_val (pe_callB (au_all (K := K) rfl) (by rfl) T.b_all (by decide +kernel) (pa_cons (pe_lc (own := [("one", 2)]) rfl sc__law_is_set.nd (piLK (K := K) (pv 0)) (blkOk_by (own := [("one", 2)]) (N := N__law_is_set) (sc := defScope s__law_is_set) (by decide +kernel)) (fun _ _ _ _ _ => (pg_name (i := 2) sc__law_is_set.nd rfl (.inl rfl))) (fun _ _ _ _ _ => pts_nil) (fun _ _ _ _ _ => (pe_cal G__law_whole hr (by rfl) (pa_cons (pv 2) pa_nil)))) pa_nil)))))))) (pss_one (ps_ret pe_bl)) pss_nil)
    (pss_one (ps_ret (pe_and (pe_cmpR (eqDK (K := K) hr.units) (pv 0) (pe_callB (RZ.au_sortedSet (w := w) rfl) (by rfl) T.b_sorted (by decide +kernel) (pa_cons (pe_callTy (RZ.cr_setI (K := K) (w := w) rfl) (by rfl) T.b_set (by decide +kernel) (pa_cons (pv 0) pa_nil)) pa_nil)) (nomark _)) (pe_and (pe_cmpR op_le pe_int (pe_ix (ixL (K := K)) (pv 0) pe_int (fun _ _ => rfl)) (nomark _)) (pe_one (pe_cmpR op_lt (pe_ix (ixL (K := K)) (pv 0) (pe_un un_neg pe_int) (fun _ _ => rfl)) (pv 1) (nomark _)))))))), q_start (τ := [some _, some _, none]) rfl ?_⟩
    have lS : (S.map V.int).length = S.length := List.length_map _
    walk_at "go"
    rename_i p0 np0
    have e0 := ex_new (o := .lst []) (Ex.refl H) np0
    have ha0 := fresh_at (u := .lst []) np0 ha
    refine q_eqD (.lst (SqL.of ha0) dpa_ints) (.lst (SqL.of upd_same) .nil) shaped_ints rfl ?_
    rw [eqv_nil, show (S.map PyData.int).isEmpty = false by cases S with | nil => exact absurd rfl ne | cons _ _ => rfl]
    generalize upd H p0 (.lst []) = H0 at e0 ha0 ⊢
    walk_at "go"
    intro D nD
    refine lcp_all nD ha0 (by rw [List.length_map]; omega) (fun i x H1 hx e1 R r => ?_) (fun H1 bs e1 hD all => ?_)
    · obtain ⟨m, _, rfl⟩ := map_get hx
      walk_at "go"
      exact ⟨m, rfl, r H1 (Ex.refl _)⟩
    have ha1 := e1 _ _ ha0
    have e01 := e0.trans e1
    walk_at "go"
    refine q_all hD ?_
    rw [all]
    walk_at "go"
    refine ⟨a, S, rfl, SqL.of ha1, by omega, fun p c hc np => ?_⟩
    have e2 := ex_new (o := SetO w p (fun j => decide (j ∈ S)) c) e01 np
    have ha2 := fresh_at (u := SetO w p (fun j => decide (j ∈ S)) c) np ha1
    have hp2 := upd_same (H := H1) (a := p) (o := SetO w p (fun j => decide (j ∈ S)) c)
    generalize upd H1 p (SetO w p (fun j => decide (j ∈ S)) c) = H2 at e2 ha2 hp2 ⊢
    walk_at "go"
    refine ⟨p, _, c, rfl, hp2, by omega, fun ns p3 up mem ln np3 => ?_⟩
    obtain rfl : S = ns := RZ.rising_uniq ri up fun k => by rw [mem k, decide_eq_true_eq]
    have e3 := ex_new (o := .lst (S.map V.int)) e2 np3
    have ha3 := fresh_at (u := .lst (S.map V.int)) np3 ha2
    have hp3 := upd_same (H := H2) (a := p3) (o := .lst (S.map V.int))
    generalize upd H2 p3 (.lst (S.map V.int)) = H3 at e3 ha3 hp3 ⊢
    walk_at "go"
    refine q_eqD (.lst (SqL.of ha3) dpa_ints) (.lst (SqL.of hp3) dpa_ints) shaped_ints shaped_ints ?_
    rw [eqv_same shaped_ints]
    obtain ⟨x0, hx0⟩ : ∃ x, S[0]? = some x := ⟨_, List.getElem?_eq_getElem (List.length_pos_iff.mpr ne)⟩
    have hat0 : atI (S.map V.int) 0 = some (.int x0) := atI_nat (j := 0) (by rw [List.getElem?_map, hx0]; rfl)
    obtain ⟨S1, x1, hS1⟩ : ∃ S1 x1, S = S1 ++ [x1] := ⟨_, _, (List.dropLast_concat_getLast ne).symm⟩
    have hat1 : atI (S.map V.int) (-1) = some (.int x1) := by
      rw [hS1, List.map_append]
      exact atI_last _ _
    have b0 := bd x0 (List.mem_of_getElem? hx0)
    have b1 := bd x1 (by rw [hS1]; simp)
    walk_at "go"
    refine q_ixL ha3 hat0 ?_
    walk_at "go"
    refine q_ixL ha3 hat1 ?_
    walk_at "go"
    rw [decide_eq_true b1.2]
    exact q _ e3

end
end Bk33

namespace Bs
open PySem PySem.Spec PyProof.Rows L2
open Evl (Ex)
theorem wkd_has {rows : List (List Int)} (ok : Rows4 rows) {T : Nat} (z : ∀ v ∈ lefts rows T, v = 0) {x : Int} (x0 : 0 ≤ x) (x1 : x < rows.length) : ∃ t, t < T ∧ wkd rows t = some x := by
  refine Classical.byContradiction fun no => ?_
  have all : ∀ t, t ≤ T → lfA (lefts rows t) x = len_ rows x := by
    intro t
    induction t with
    | zero =>
      intro _
      show lfA (rows.map fun r => r.getD 0 0) x = cAt rows 0 x
      unfold lfA cAt
      rw [List.getD_eq_getElem?_getD, List.getElem?_map, List.getD_eq_getElem?_getD (l := rows), List.getElem?_eq_getElem (l := rows) (by omega)]
      rfl
    | succ t ih =>
      intro ht
      have ih := ih (by omega)
      rw [lefts_succ]
      cases c : wkd rows t with
      | none => exact ih
      | some y =>
        obtain ⟨⟨y0, y1⟩, _⟩ := wkd_bd c
        have ne : x ≠ y := by
          rintro rfl
          exact no ⟨t, by omega, c⟩
        show lfA ((lefts rows t).set y.toNat _) x = _
        rw [lfA_set y0 (by rw [lefts_len]; exact y1) x0, if_neg ne, ih]
  have h := all T (Nat.le_refl _)
  have := (ok.at x0 x1).2.1
  have m : lfA (lefts rows T) x ∈ lefts rows T := by
    unfold lfA
    rw [List.getD_eq_getElem?_getD, List.getElem?_eq_getElem (by rw [lefts_len]; omega)]
    exact List.getElem_mem _
  have := z _ m
  omega
theorem pcs_ends {rows : List (List Int)} (ok : Rows4 rows) {T : Nat} (z : ∀ v ∈ lefts rows T, v = 0) {ps srt : List (List Int)} (pc : IsPcs (wkd rows) ps T) (pm : srt.Perm ps) {x : Int} (x0 : 0 ≤ x) (x1 : x < rows.length) : endsL srt x ≠ [] := fun e => by
  obtain ⟨t, ht, h⟩ := wkd_has ok z x0 x1
  obtain ⟨p, hp, n1, _⟩ := pc.all t x ht h
  have : pB p ∈ endsL srt x := endsL_mem.mpr ⟨p, pm.mem_iff.mpr hp, n1, rfl⟩
  rw [e] at this
  cases this
theorem pcs_row {rows : List (List Int)} {T : Nat} {ps : List (List Int)} (pc : IsPcs (wkd rows) ps T) {p : List Int} (hp : p ∈ ps) : ∃ (x : Int) (h b : Nat), p = [x, (h : Int), (b : Int)] ∧ (0 ≤ x ∧ x < rows.length) := by
  obtain ⟨x, h, b, rfl, a1, _, a3⟩ := pc.form p hp
  exact ⟨x, h, b, rfl, (wkd_bd (a3 h (Nat.le_refl _) a1)).1⟩
theorem ends_pl {rows : List (List Int)} {ps : List (List Int)} (bd : ∀ p ∈ ps, 0 ≤ pN p ∧ pN p < rows.length) {es : List Int} (he : ∀ k : Nat, k < rows.length → IsEnd ps k (es.getD k 0)) {v : Int}
    (hv : v ∈ (List.range rows.length).map fun k => es.getD k 0 - due_ rows (k : Nat)) (top : ∀ y ∈ (List.range rows.length).map fun k => es.getD k 0 - due_ rows (k : Nat), y ≤ v) : IsPL rows ps v := by
  constructor
  · obtain ⟨k, hk, rfl⟩ := List.mem_map.mp hv
    obtain ⟨⟨p, hp, e1, e2⟩, _⟩ := he k (List.mem_range.mp hk)
    exact ⟨p, hp, by rw [e1, e2]⟩
  · intro p hp
    obtain ⟨b0, b1⟩ := bd p hp
    obtain ⟨m, em⟩ : ∃ m : Nat, pN p = (m : Int) := ⟨_, (Int.toNat_of_nonneg b0).symm⟩
    have h2 := top _ (List.mem_map.mpr ⟨m, List.mem_range.mpr (by omega), rfl⟩)
    have h3 := (he m (by omega)).2 p hp em
    rw [em]
    have h2 : es.getD m 0 - due_ rows (m : Int) ≤ v := h2
    omega
theorem IsPL.uniq {rows : List (List Int)} {ps : List (List Int)} {u v : Int} (h : IsPL rows ps u) (k : IsPL rows ps v) : u = v := by
  obtain ⟨⟨p, hp, e⟩, a⟩ := h
  obtain ⟨⟨q, hq, e'⟩, b⟩ := k
  have := a q hq
  have := b p hp
  omega
theorem Later.pl {rows gs : List (List Int)} {c : Nat} (la : Later rows gs c) {ps : List (List Int)} (bd : ∀ p ∈ ps, 0 ≤ pN p ∧ pN p < rows.length) {u v : Int} (h : IsPL rows ps u) (k : IsPL gs (ps.map (latP c)) v) : v = u + c := by
  have e : ∀ p ∈ ps, pB (latP c p) - due_ gs (pN (latP c p)) = pB p - due_ rows (pN p) + c := fun p hp => by
    show pB p + (c : Int) - due_ gs (pN p) = _
    rw [(la.cell _ (bd p hp).1 (bd p hp).2).2.2]
    omega
  obtain ⟨⟨p, hp, e1⟩, a⟩ := h
  obtain ⟨⟨q, hq, e2⟩, b⟩ := k
  obtain ⟨q', hq', rfl⟩ := List.mem_map.mp hq
  have h1 := a q' hq'
  have h2 := b _ (List.mem_map.mpr ⟨p, hp, rfl⟩)
  rw [e q' hq'] at e2
  rw [e p hp] at h2
  omega
theorem lex_three {x h b y g d : Int} : HT.lexLt [x, h, b] [y, g, d] = decide (x < y ∨ (x = y ∧ (h < g ∨ (h = g ∧ b < d)))) := by
  rw [HT.lexLt_cons]
  by_cases e : x = y
  · rw [if_pos e, lex_two]
    exact decide_eq_decide.mpr (by omega)
  · rw [if_neg e]
    exact decide_eq_decide.mpr (by omega)
theorem lex_latP {c : Nat} {srt : List (List Int)} (form : ∀ p ∈ srt, ∃ x h b : Int, p = [x, h, b]) (l : Lex srt) : Lex (srt.map (latP c)) := by
  unfold Lex
  rw [List.pairwise_map]
  refine l.imp_of_mem fun {p q} hp hq e => ?_
  obtain ⟨x, h, b, rfl⟩ := form p hp
  obtain ⟨y, g, d, rfl⟩ := form q hq
  show HT.lexLt [y, g + (c : Int), d + (c : Int)] [x, h + (c : Int), b + (c : Int)] = false
  rw [lex_three] at e ⊢
  have := of_decide_eq_false e
  exact decide_eq_false (by omega)
/-- what parted tells of rows, by the hours -/
theorem hst_same {rows : List (List Int)} {lf : List Int} {ps qs : List (List Int)} {hour : Int} {T : Nat} (s : Hst rows lf qs hour) (done : ∀ x : Int, 0 ≤ x → x < rows.length → lfA lf x = 0) (pc : IsPcs (wkd rows) ps T) (over : ∀ t, T ≤ t → wkd rows t = none) : qs = ps := by
  obtain ⟨N, rfl, e, k, _⟩ := s
  have z : ∀ t, N ≤ t → lefts rows t = lf ∧ wkd rows t = none := by
    have no : ∀ t, lefts rows t = lf → wkd rows t = none := fun t e => by
      cases c : wkd rows t with
      | none => rfl
      | some x =>
        obtain ⟨⟨x0, x1⟩, h1, _⟩ := wkd_bd c
        rw [e, done x x0 x1] at h1
        omega
    intro t ht
    induction t with
    | zero =>
      obtain rfl : N = 0 := by omega
      exact ⟨e, no _ e⟩
    | succ t ih =>
      by_cases c : N ≤ t
      · obtain ⟨a, b⟩ := ih c
        have : lefts rows (t + 1) = lf := by
          rw [lefts_succ, b, a]
          rfl
        exact ⟨this, no _ this⟩
      · obtain rfl : N = t + 1 := by omega
        exact ⟨e, no _ e⟩
  exact k.uniq pc (fun t ht => (z t ht).2) over
end Bs


namespace Bk33
open PySem PySem.Spec PyProof.Rows L2 Bs
open Evl (Ex)

section
variable {P : Program} {w : World} {K : PySem.W.Frag} {mg : Str → Option Value} {base : Heap}
theorem q_slT2 {a : Addr} {x y z : V} {K : PySem.W.Frag} {H : Hp} {Q : VK} (h : H a = some (.tup [x, y, z])) (q : ∀ p, H p = none → Q (.ref p) (upd H p (.tup [x, y]))) : rSlT K (.ref a) none (some 2) H Q :=
  ⟨a, [x, y, z], rfl, SqT.of h, fun z => absurd z.2 (show ¬ HT.sIx 3 3 (some 2) = 3 by decide), fun p np => by
    rw [show cutV [x, y, z] none (some 2) = [x, y] from cutV_lo (a := 2) (xs := [x, y, z]) (show 2 ≤ 3 by decide)]
    exact q p np⟩
theorem shp {v : Int} {l : List (List Int)} : SeqAt.shaped (.tuple [.int v, .list (l.map fun ns => .tuple (ns.map .int))]) = true := by
  have h := shaped_ts l
  unfold SeqAt.shaped at h ⊢
  rw [Bool.and_eq_true, decide_eq_true_eq] at h ⊢
  refine ⟨?_, ?_⟩
  · show (true && (PyData.canLayAll0 (l.map fun ns => .tuple (ns.map .int)) && true)) = true
    rw [show PyData.canLayAll0 (l.map fun ns => .tuple (ns.map .int)) = true from h.1]
    rfl
  · have := dpT l
    show max 0 (max (PyData.depthAll (l.map fun ns => .tuple (ns.map .int)) + 1) 0) + 1 ≤ 64
    omega
def spLaw (K : PySem.W.Frag) : Sp := fun vs H Q _ => ∃ (a : Addr) (ns : List Int), vs = [.ref a] ∧ SqL K H a (ns.map V.int) ∧ ns.length ≤ 63 ∧ ∀ H', Q (.bl true) H'
theorem ok_law (T : Tx K mg) {f : Addr} {fd : FuncData} (F : Fun K "law" "law" s_law f fd) : FnOk P w K mg base CX0 6 f fd ["script"] (spLaw K) := by
  have G__law_draw : Cal P w K mg base 1 "_law_draw" ["script", "k"] (spDraw K) := ok__law_draw T
  have G__law_next : Cal P w K mg base 2 "_law_next" ["draw", "many"] spNext := ok__law_next T
  have G__law_near_rows : Cal P w K mg base 3 "_law_near_rows" ["script", "k", "most"] (spNRows K) := ok__law_near_rows T
  have G__law_worked : Cal P w K mg base 1 "_law_worked" ["rows"] spWorked := ok__law_worked T
  have G__law_pieces : Cal P w K mg base 1 "_law_pieces" ["worked"] spLPieces := ok__law_pieces T
  have G__law_whole : Cal P w K mg base 1 "_law_whole" ["thing"] spLWhole := ok__law_whole T
  have G__law_is_set : Cal P w K mg base 2 "_law_is_set" ["found", "many"] spIsSet := ok__law_is_set T
  have G_parted : Cal P w K mg base 5 "parted" ["rows"] spParted := ok_parted T
  refine F.ok sc_law (fun vs H Q E h => ?_) (fun cdv A outer s H vs Q E hr h => ?_)
  · obtain ⟨a, ns, rfl, _⟩ := h
    rfl
  · obtain ⟨a, ns, rfl, hS, hl, q⟩ := h
    refine ⟨_, (pss_cons (ps_for PassesOwn.never rfl (pi_range1 (by rfl) T.b_range (pa_cons pe_int pa_nil)) (pg_name (i := 1) sc_law.nd rfl (.inl rfl)) (pss_cons (ps_set (i := 2) sc_law.nd rfl (.inr rfl) (pe_cal G__law_near_rows (hr.mono (by decide)) (by rfl) (pa_cons (pv 0) (pa_cons (pe_op op_mulX pe_int (pv 1)) (pa_cons (pe_ix (ixL (K := K)) (pe_lst (pa_cons pe_int (pa_cons pe_int (pa_cons pe_int pa_nil)))) (pv 1) (fun _ _ => rfl)) pa_nil)))))
    (pss_cons (ps_set (i := 3) sc_law.nd rfl (.inl rfl) (pe_callTy (au_list (K := K)) (by rfl) T.b_list (by decide +kernel) (pa_cons (pv 2) pa_nil)))
    (pss_cons (ps_set (i := 4) sc_law.nd rfl (.inl rfl) (pe_cal G__law_worked (hr.mono (by decide)) (by rfl) (pa_cons (pv 2) pa_nil)))
    (pss_cons (ps_set (i := 5) sc_law.nd rfl (.inr rfl) (pe_cal G__law_pieces (hr.mono (by decide)) (by rfl) (pa_cons (pv 4) pa_nil)))
    (pss_cons (ps_setLc (i := 6) (own := [("number", 14)]) rfl sc_law.nd rfl rfl (sw_true rfl rfl rfl (by decide +kernel)) (pi_range1 (by rfl) T.b_range (pa_cons (pe_callB (lenK (K := K)) (by rfl) T.b_len (by decide +kernel) (pa_cons (pv 2) pa_nil)) pa_nil)) (blkOk_by (own := [("number", 14)]) (N := N_law) (sc := defScope s_law) (by decide +kernel)) (fun _ _ _ _ _ => (pg_name (i := 14) sc_law.nd rfl (.inr rfl))) (fun _ _ _ _ _ => pts_nil) (fun _ _ _ _ _ => (pe_callB (au_max (K := K) rfl) (by rfl) T.b_max (by decide +kernel) (pa_cons (pe_lc (own := [("piece", 15)]) rfl sc_law.nd (piLK (K := K) (pv 5)) (blkOk_by (own := [("piece", 15)]) (N := N_law) (by rfl)) (fun _ _ _ _ _ => (pg_name (i := 15) sc_law.nd rfl (.inl rfl))) (fun _ _ _ _ _ => pts_one (pt_cmpR op_eq (pe_ix (ixT (K := K)) (pv 15) pe_int (fun _ _ => rfl)) (pv 14) (nomark _))) (fun _ _ _ _ _ => (pe_ix (ixT (K := K)) (pv 15) pe_int (fun _ _ => rfl)))) pa_nil))))
    (pss_cons (ps_set (i := 7) sc_law.nd rfl (.inl rfl) (pe_callB (au_max (K := K) rfl) (by rfl) T.b_max (by decide +kernel) (pa_cons (pe_lc (own := [("end", 16), ("row", 17)]) rfl sc_law.nd (pi_zip (by rfl) T.b_zip (pa_cons (pv 6) (pa_cons (pv 2) pa_nil))) (blkOk_by (own := [("end", 16), ("row", 17)]) (N := N_law) (sc := defScope s_law) (by decide +kernel)) (fun _ _ _ _ _ => (pgTK (K := K) (n := 2) (by rfl) (pgs_cons (pg_name (i := 16) sc_law.nd rfl (.inl rfl)) (pgs_cons (pg_name (i := 17) sc_law.nd rfl (.inl rfl)) pgs_nil)))) (fun _ _ _ _ _ => pts_nil) (fun _ _ _ _ _ => (pe_op op_sub (pv 16) (pe_ix (ixT (K := K)) (pv 17) pe_int (fun _ _ => rfl))))) pa_nil)))
    (pss_cons (ps_set (i := 8) sc_law.nd rfl (.inl rfl) pe_non)
    (pss_cons (ps_set (i := 9) sc_law.nd rfl (.inr rfl) (pe_op op_add pe_int (pe_cal G__law_next (hr.mono (by decide)) (by rfl) (pa_cons (pe_cal G__law_draw (hr.mono (by decide)) (by rfl) (pa_cons (pv 0) (pa_cons (pe_op op_add pe_int (pv 1)) pa_nil))) (pa_cons pe_int pa_nil)))))
    (pss_cons (ps_set (i := 10) sc_law.nd rfl (.inl rfl) (pe_cal G_parted hr (by rfl) (pa_cons (pe_lc (own := [("due_at", 18), ("first", 19), ("length", 20), ("weight", 21)]) rfl sc_law.nd (piLK (K := K) (pv 2)) (blkOk_by (own := [("due_at", 18), ("first", 19), ("length", 20), ("weight", 21)]) (N := N_law) (sc := defScope s_law) (by decide +kernel)) (fun _ _ _ _ _ => (pgTK (K := K) (n := 4) (by rfl) (pgs_cons (pg_name (i := 20) sc_law.nd rfl (.inl rfl)) (pgs_cons (pg_name (i := 19) sc_law.nd rfl (.inl rfl)) (pgs_cons (pg_name (i := 18) sc_law.nd rfl (.inl rfl)) (pgs_cons (pg_name (i := 21) sc_law.nd rfl (.inl rfl)) pgs_nil)))))) (fun _ _ _ _ _ => pts_nil) (fun _ _ _ _ _ => (pe_tup (pa_cons (pv 20) (pa_cons (pe_op op_add (pv 19) (pv 9)) (pa_cons (pv 18) (pa_cons (pv 21) pa_nil))))))) pa_nil)))
    (pss_cons (ps_if (pt_cmpR (neDK (K := K) hr.units) (pe_slice (slTK (K := K)) (pv 10) po_none (po_some pe_int)) (pe_tup (pa_cons (pe_op op_add (pv 7) (pv 9)) (pa_cons (pe_lc (own := [("number", 14), ("first", 19), ("behind", 22)]) rfl sc_law.nd (piLK (K := K) (pv 5)) (blkOk_by (own := [("number", 14), ("first", 19), ("behind", 22)]) (N := N_law) (sc := defScope s_law) (by decide +kernel)) (fun _ _ _ _ _ => (pgTK (K := K) (n := 3) (by rfl) (pgs_cons (pg_name (i := 14) sc_law.nd rfl (.inl rfl)) (pgs_cons (pg_name (i := 19) sc_law.nd rfl (.inl rfl)) (pgs_cons (pg_name (i := 22) sc_law.nd rfl (.inl rfl)) pgs_nil))))) (fun _ _ _ _ _ => pts_nil) (fun _ _ _ _ _ => (pe_tup (pa_cons (pv 14) (pa_cons (pe_op op_add (pv 19) (pv 9)) (pa_cons (pe_op op_add (pv 22) (pv 9)) pa_nil)))))) pa_nil))) (nomark _)) (pss_one (ps_ret pe_bl)) pss_nil)
    (pss_one (ps_for PassesOwn.never rfl (pi_range1 (by rfl) T.b_range (pa_cons pe_int pa_nil)) (pg_name (i := 11) sc_law.nd rfl (.inl rfl)) (pss_cons (ps_set (i := 12) sc_law.nd rfl (.inl rfl) (pe_cal G_parted hr (by rfl) (pa_cons (pv 3) pa_nil)))
    (pss_cons (ps_if (PW.pt (pw_or (pt_not (pt_val (pe_callB (isiK (K := K)) (by rfl) T.b_isinstance (by decide +kernel) (pa_cons (pv 12) (pa_cons (pe_bltn (v := .ty "tuple") rfl T.b_tuple (by decide +kernel) rfl) pa_nil))))) (pw_or (pt_cmpR op_ne (pe_callB (lenK (K := K)) (by rfl) T.b_len (by decide +kernel) (pa_cons (pv 12) pa_nil)) pe_int (nomark _)) (pw_or (pt_not (pt_val (pe_cal G__law_whole (hr.mono (by decide)) (by rfl) (pa_cons (pe_ix (ixT (K := K)) (pv 12) pe_int (fun _ _ => rfl)) pa_nil)))) (pw_or1 (pt_cmpR op_ne (pe_ix (ixT (K := K)) (pv 12) pe_int (fun _ _ => rfl)) (pv 7) (nomark _))))))) (pss_one (ps_ret pe_bl)) pss_nil)
    (pss_cons (ps_if (PW.pt (pw_or (pt_not (pt_val (pe_callB (isiK (K := K)) (by rfl) T.b_isinstance (by decide +kernel) (pa_cons (pe_ix (ixT (K := K)) (pv 12) pe_int (fun _ _ => rfl)) (pa_cons (pe_bltn (v := .ty "list") rfl T.b_list (by decide +kernel) rfl) pa_nil))))) (pw_or (pt_cmpR (neDK (K := K) hr.units) (pe_ix (ixT (K := K)) (pv 12) pe_int (fun _ _ => rfl)) (pv 5) (nomark _)) (pw_or1 (pt_not (pt_val (pe_cal G__law_is_set (hr.mono (by decide)) (by rfl) (pa_cons (pe_ix (ixT (K := K)) (pv 12) pe_int (fun _ _ => rfl)) (pa_cons (pe_callB (lenK (K := K)) (by rfl) T.b_len (by decide +kernel) (pa_cons (pv 2) pa_nil)) pa_nil))))))))) (pss_one (ps_ret pe_bl)) pss_nil)
    (pss_cons (ps_if (PW.pt (pw_or (pt_not (pt_val (pe_callB (au_all (K := K) rfl) (by rfl) T.b_all (by decide +kernel) (pa_cons (pe_lc (own := [("piece", 15)]) rfl sc_law.nd (piLK (K := K) (pe_ix (ixT (K := K)) (pv 12) pe_int (fun _ _ => rfl))) (blkOk_by (own := [("piece", 15)]) (N := N_law) (sc := defScope s_law) (by decide +kernel)) (fun _ _ _ _ _ => (pg_name (i := 15) sc_law.nd rfl (.inl rfl))) (fun _ _ _ _ _ => pts_nil) (fun _ _ _ _ _ => (pe_callB (isiK (K := K)) (by rfl) T.b_isinstance (by decide +kernel) (pa_cons (pv 15) (pa_cons (pe_bltn (v := .ty "tuple") rfl T.b_tuple (by decide +kernel) rfl) pa_nil))))) pa_nil)))) (pw_or1 (pt_cmpR (neDK (K := K) hr.units) (pv 3) (pv 2) (nomark _))))) (pss_one (ps_ret pe_bl)) pss_nil)
    (pss_cons (ps_setLc (i := 13) (own := [("one", 23)]) rfl sc_law.nd rfl rfl (sw_true rfl rfl rfl (by decide +kernel)) (piLK (K := K) (pe_ix (ixT (K := K)) (pv 12) pe_int (fun _ _ => rfl))) (blkOk_by (own := [("one", 23)]) (N := N_law) (sc := defScope s_law) (by decide +kernel)) (fun _ _ _ _ _ => (pg_name (i := 23) sc_law.nd rfl (.inl rfl))) (fun _ _ _ _ _ => pts_nil) (fun _ _ _ _ _ => (pe_ix (ixL (K := K)) (pv 2) (pv 23) (fun _ _ => rfl))))
    (pss_cons (ps_if (pt_cmpR op_ne (pe_op op_sub (pe_op op_add (pe_callB (au_min (K := K) rfl) (by rfl) T.b_min (by decide +kernel) (pa_cons (pe_lc (own := [("row", 17)]) rfl sc_law.nd (piLK (K := K) (pv 13)) (blkOk_by (own := [("row", 17)]) (N := N_law) (sc := defScope s_law) (by decide +kernel)) (fun _ _ _ _ _ => (pg_name (i := 17) sc_law.nd rfl (.inl rfl))) (fun _ _ _ _ _ => pts_nil) (fun _ _ _ _ _ => (pe_ix (ixT (K := K)) (pv 17) pe_int (fun _ _ => rfl)))) pa_nil)) (pe_callB (au_sum (K := K) rfl) (by rfl) T.b_sum (by decide +kernel) (pa_cons (pe_lc (own := [("row", 17)]) rfl sc_law.nd (piLK (K := K) (pv 13)) (blkOk_by (own := [("row", 17)]) (N := N_law) (sc := defScope s_law) (by decide +kernel)) (fun _ _ _ _ _ => (pg_name (i := 17) sc_law.nd rfl (.inl rfl))) (fun _ _ _ _ _ => pts_nil) (fun _ _ _ _ _ => (pe_ix (ixT (K := K)) (pv 17) pe_int (fun _ _ => rfl)))) pa_nil))) (pe_callB (au_max (K := K) rfl) (by rfl) T.b_max (by decide +kernel) (pa_cons (pe_lc (own := [("row", 17)]) rfl sc_law.nd (piLK (K := K) (pv 13)) (blkOk_by (own := [("row", 17)]) (N := N_law) (sc := defScope s_law) (by decide +kernel)) (fun _ _ _ _ _ => (pg_name (i := 17) sc_law.nd rfl (.inl rfl))) (fun _ _ _ _ _ => pts_nil) (fun _ _ _ _ _ => (pe_ix (ixT (K := K)) (pv 17) pe_int (fun _ _ => rfl)))) pa_nil))) (pv 7) (nomark _)) (pss_one (ps_ret pe_bl)) pss_nil)
    (pss_cons (ps_if (PW.pt (pw_and (pt_cmpR au_notN (pv 8) pe_non (nomark _)) (pw_and1 (pt_cmpR (neDK (K := K) hr.units) (pe_ix (ixT (K := K)) (pv 12) pe_int (fun _ _ => rfl)) (pv 8) (nomark _))))) (pss_one (ps_ret pe_bl)) pss_nil)
    (pss_cons (ps_set (i := 8) sc_law.nd rfl (.inl rfl) (pe_callTy (au_list (K := K)) (by rfl) T.b_list (by decide +kernel) (pa_cons (pe_ix (ixT (K := K)) (pv 12) pe_int (fun _ _ => rfl)) pa_nil)))
    (pss_cons (ps_expr (pe_bm PySem.F.plainAttrs_list PySem.F.slot_list_append PySem.F.type_list_append mt_append (pe_ix (ixT (K := K)) (pv 12) pe_int (fun _ _ => rfl)) (pa_cons pe_str pa_nil)))
    (pss_one (ps_expr (pe_bm PySem.F.plainAttrs_list PySem.F.slot_list_append PySem.F.type_list_append mt_append (pe_ix (ixT (K := K)) (pv 12) pe_int (fun _ _ => rfl)) (pa_cons pe_str pa_nil))))))))))))))))))))))))))
    (pss_one (ps_ret pe_bl))), q_start (τ := [some _, none, none, none, none, none, none, none, none, none, none, none, none, none, none, none, none, none, none, none, none, none, none, none]) rfl ?_⟩
    walk_at "go"
    refine loop_range (n := 3) (fun i σ H' => Ex H H' ∧ ∃ t1 t2 t3 t4 t5 t6 t7 t8 t9 tA tB tC tD, σ = [some (.ref a), t1, t2, t3, t4, t5, t6, t7, t8, t9, tA, tB, tC, tD, none, none, none, none, none, none, none, none, none, none]) ⟨Ex.refl _, _, _, _, _, _, _, _, _, _, _, _, _, _, rfl⟩ ?_ ?_
    · rintro i σ H0 hi ⟨e0, t1, t2, t3, t4, t5, t6, t7, t8, t9, tA, tB, tC, tD, rfl⟩
      walk_at "go"
      obtain ⟨v8, ev8, va, vb⟩ := at_ints (ls := [8, 8, 30]) (n := (i : Int)) (lo := 1) (hi := 30) (by omega) (by show _ < (3 : Int); omega) (by
        intro y hy
        simp only [List.mem_cons, List.not_mem_nil, or_false] at hy
        rcases hy with rfl | rfl | rfl <;> omega)
      rename_i p8 np8
      have e1 := ex_new (o := .lst [.int 8, .int 8, .int 30]) e0 np8
      refine q_ixL upd_same ev8 ?_
      generalize upd H0 p8 (.lst [.int 8, .int 8, .int 30]) = H1 at e1 ⊢
      walk_at "go"
      refine ⟨a, ns, 10 * i, v8, rfl, ex_s e1 hS, hl, by omega, by omega, by omega, by omega, fun pr xs rows H2 l1 l2 near e12 npr hpr ts => ?_⟩
      have ok : Rows4 rows := fun r hr => (near r hr).row
      have f0 : ∀ x : Int, 0 ≤ x → x < rows.length → 0 ≤ frm_ rows x := fun x x0 x1 => (ok.at x0 x1).2.2.2.1
      have e2 := e1.trans e12
      have lx := ts.len
      walk_at "go"
      rename_i ph nph
      have e3 := ex_new (o := .lst xs) e2 nph
      have hph := upd_same (H := H2) (a := ph) (o := .lst xs)
      have hpr3 := fresh_at (u := .lst xs) nph hpr
      have ts3 := ts_new (o := .lst xs) nph ts
      generalize upd H2 ph (.lst xs) = H3 at e3 hph hpr3 ts3 ⊢
      refine ⟨pr, xs, rows, rfl, hpr3, ts3, near, l1, by omega, fun pw TT H4 e34 npw hpw t300 zz over => ?_⟩
      walk_at "go"
      refine ⟨pw, rows, TT, rfl, hpw, t300, fun pq zs srt ps G0 e45 npq hpq tq pm so pc lpT => ?_⟩
      have e35 := e34.trans e45
      have g0 := e3.trans e35
      have hpr5 := e35 _ _ hpr3
      have hph5 := e35 _ _ hph
      have ts5 := ts3.ex e35
      have lz := tq.len
      have lsp := pm.length_eq
      have lps : ps.length ≤ 300 := by omega
      have l3 : ps.length ≤ 30000 := by omega
      have bd : ∀ p ∈ ps, 0 ≤ pN p ∧ pN p < rows.length := fun p hp => by
        obtain ⟨x, h, b, rfl, x0, x1⟩ := pcs_row pc hp
        exact ⟨x0, x1⟩
      walk_at "go"
      intro D nD
      rw [Int.toNat_natCast, lx]
      refine lcp_range (n := rows.length) (fun i H' => ∃ es : List Int, es.length = i ∧ H' D = some (.lst (es.map V.int)) ∧ Ex G0 H' ∧ ∀ k : Nat, k < i → IsEnd ps k (es.getD k 0)) ⟨[], rfl, upd_same, Ex.new nD, fun k h => absurd h (by omega)⟩ (fun i G1 hi h => ?_) (fun G1 h => ?_)
      · obtain ⟨es, les, hE1, g1, all⟩ := h
        walk_at "go"
        intro D2 nD2
        have hpq1 := g1 _ _ hpq
        have tq1 := tq.ex g1
        have nDD : D ≠ D2 := ne_fresh nD2 hE1
        refine lcp_list (xs := zs) (fun j H' => Ex G1 H' ∧ H' D2 = some (.lst ((endsL (srt.take j) (i : Nat)).map V.int))) ⟨Ex.new nD2, upd_same⟩ (fun j H' _ h => h.1 _ _ hpq1) (fun j v G2 hx h => ?_) (fun G2 h => ?_)
        · obtain ⟨g2, hE2⟩ := h
          obtain ⟨t, r1, rfl, hr1, ht0⟩ := (tq1.ex g2).get hx
          obtain ⟨x, h, b, rfl, x0, x1⟩ := pcs_row pc (pm.mem_iff.mp (List.mem_of_getElem? hr1))
          have ht : G2 t = some (.tup [.int x, .int (h : Int), .int (b : Int)]) := ht0
          clear ht0
          have ll : ((endsL (srt.take j) (i : Nat)).map V.int).length ≤ 30000 := by
            rw [List.length_map]
            unfold endsL
            rw [List.length_map]
            have := List.length_filter_le (fun p => decide (pN p = ((i : Nat) : Int))) (srt.take j)
            have := List.length_take_le' j srt
            omega
          walk_at "go"
          by_cases c : x = (i : Int)
          · rw [decide_eq_true c]
            walk_at "go"
            refine ⟨g2.mut nD2, ?_⟩
            rw [upd_same, take_snoc hr1, endsL_snoc, if_pos (show pN [x, (h : Int), (b : Int)] = i from c), List.map_append]
            rfl
          · rw [decide_eq_false c]
            walk_at "go"
            refine ⟨g2, ?_⟩
            rw [hE2, take_snoc hr1, endsL_snoc, if_neg (show ¬ pN [x, (h : Int), (b : Int)] = i from c), List.append_nil]
        obtain ⟨g2, hE2⟩ := h
        rw [lz, List.take_length] at hE2
        walk_at "go"
        refine q_maxL hE2 (List.length_pos_iff.mpr (pcs_ends ok zz pc pm (x := (i : Int)) (by omega) (by omega))) (fun e he top => ?_)
        have hE2' := g2 _ _ hE1
        have lem : (es.map V.int).length = es.length := List.length_map _
        walk_at "go"
        refine ⟨es ++ [e], by rw [List.length_append, les]; rfl, by rw [upd_same, List.map_append]; rfl, (g1.trans g2).mut nD, fun k hk => ?_⟩
        by_cases c : k < i
        · rw [List.getD_eq_getElem?_getD, List.getElem?_append_left (by omega), ← List.getD_eq_getElem?_getD]
          exact all k c
        · obtain rfl : k = i := by omega
          rw [List.getD_eq_getElem?_getD, List.getElem?_append_right (by omega), les, Nat.sub_self]
          exact isEnd_of pm he top
      obtain ⟨es, les, hE1, g01, all⟩ := h
      have g1 := g0.trans g01
      have hpr6 := g01 _ _ hpr5
      have ts6 := ts5.ex g01
      walk_at "go"
      intro D3 nD3
      refine lcp_zip (xs := es.map V.int) (ys := xs) (n := rows.length) (by rw [List.length_map]; omega) (fun i H' => Ex G1 H' ∧ H' D3 = some (.lst (((List.range i).map fun k => es.getD k 0 - due_ rows (k : Nat)).map V.int))) ⟨Ex.new nD3, upd_same⟩ (fun i H' h => ⟨h.1 _ _ hE1, h.1 _ _ hpr6⟩) (fun i x y H' t hx hy h nt => ?_) (fun G2 h => ?_)
      · obtain ⟨g2, hE2⟩ := h
        obtain ⟨e, he, rfl⟩ := map_get hx
        obtain ⟨t2, ns', rfl, hns, ht2⟩ := (ts6.ex g2).get hy
        have hi := (List.getElem?_eq_some_iff.mp hns).1
        have ht2 : H' t2 = some (.tup [.int (len_ rows (i : Nat)), .int (frm_ rows (i : Nat)), .int (due_ rows (i : Nat)), .int (wgt_ rows (i : Nat))]) := by rw [ht2, rows4_is ok hns]; rfl
        have ge : es.getD i 0 = e := by rw [List.getD_eq_getElem?_getD, he]; rfl
        have ll : (((List.range i).map fun k => es.getD k 0 - due_ rows (k : Nat)).map V.int).length = i := by rw [List.length_map, List.length_map, List.length_range]
        have g3 := ex_new (o := .tup [.int e, .ref t2]) g2 nt
        have hE3 := fresh_at (u := .tup [.int e, .ref t2]) nt hE2
        have ht26 := fresh_at (u := .tup [.int e, .ref t2]) nt ht2
        have ht := upd_same (H := H') (a := t) (o := .tup [.int e, .ref t2])
        generalize upd H' t (.tup [.int e, .ref t2]) = G3 at g3 hE3 ht26 ht ⊢
        walk_at "go"
        refine q_gtup ht rfl ?_
        walk_at "go"
        refine ⟨g3.mut nD3, ?_⟩
        rw [upd_same, List.range_succ, List.map_append, List.map_append, ← ge]
        rfl
      obtain ⟨g12, hE2⟩ := h
      have g2 := g1.trans g12
      have hpr7 := g12 _ _ hpr6
      have ts7 := ts6.ex g12
      walk_at "go"
      refine q_maxL hE2 (by rw [List.length_map, List.length_range]; omega) (fun v hv top => ?_)
      have il := ends_pl bd all hv top
      clear hv top
      walk_at "go"
      have e02 : Ex G0 G2 := g01.trans g12
      refine ⟨a, ns, 60 + i, rfl, ex_s g2 hS, hl, by omega, by omega, fun d1 G3 e23 nd hd1 => ?_⟩
      walk_at "go"
      refine use_next hd1 (by omega) (by omega) (by omega) (fun m c1 G4 m0 m1 cc b34 hd4 => ?_)
      have e24 : Ex G2 G4 := But.toEx e23 b34 nd
      obtain ⟨c, hc⟩ : ∃ c : Nat, 900000 + m = (c : Int) := ⟨_, (Int.toNat_of_nonneg (by omega)).symm⟩
      have g4 := g2.trans e24
      have e04 := e02.trans e24
      have hpr8 := e04 _ _ hpr5
      have ts8 := ts5.ex e04
      walk_at "go"
      rw [hc]
      intro D8 nD8
      refine lcp_list (xs := xs) (fun j H' => ∃ ys, Ex G4 H' ∧ H' D8 = some (.lst ys) ∧ Ts H' ys ((rows.take j).map (latR c))) ⟨[], Ex.new nD8, upd_same, .nil⟩ ?_ ?_ ?_
      · rintro j H' _ ⟨_, e, _⟩
        exact e _ _ hpr8
      · rintro j x H9 hx ⟨ys, e9, hD9, tys⟩
        obtain ⟨t, r1, rfl, hr1, ht0⟩ := (ts8.ex e9).get hx
        obtain ⟨l, fm, b, wg, rfl, rowOk⟩ := ok r1 (List.mem_of_getElem? hr1)
        have ht : H9 t = some (.tup [.int l, .int fm, .int b, .int wg]) := ht0
        clear ht0
        have ly := tys.len
        rw [List.length_map, List.length_take] at ly
        have hj := (List.getElem?_eq_some_iff.mp hr1).1
        have ll : ys.length ≤ 30 := by omega
        walk_at "go"
        refine q_gtup ht rfl ?_
        walk_at "go"
        rename_i p np
        have hD10 := fresh_at (u := .tup [.int l, .int (fm + (c : Int)), .int b, .int wg]) np hD9
        refine ⟨ys ++ [.ref p], (ex_new e9 np).mut nD8, upd_same, ?_⟩
        rw [take_snoc hr1, List.map_append]
        refine Ts.append ((ts_new np tys).tp (Tp.upd hD10)) (.cons ?_ .nil)
        rw [upd_ne (ne_fresh' np hD9)]
        exact upd_same
      rintro G5 ⟨ys8, e45, hD8, tys8⟩
      rw [lx, List.take_length] at tys8
      have la := latR_later rows c
      have okL : Rows4 (rows.map (latR c)) := fun r hr => by
        obtain ⟨r0, hr0, rfl⟩ := List.mem_map.mp hr
        obtain ⟨l, fm, b, wg, rfl, w1, w2, w3, w4, w5⟩ := near r0 hr0
        exact ⟨l, fm + c, b, wg, rfl, by omega⟩
      have lL : (rows.map (latR c)).length = rows.length := List.length_map _
      have e05 := e04.trans e45
      walk_at "go"
      refine ⟨D8, ys8, rows.map (latR c), rfl, hD8, tys8, okL, by omega, by omega, fun G6 rq pz pt zs2 srt2 ps2 lf2 hour2 L2 S2 e56 nrq hrq npz hpz tz pm2 lex2 stp2 hst2 done2 l32 il2 npt hpt neS2 upS2 bdS2 pb2 tld2 => ?_⟩
      have overL : ∀ t, c + TT ≤ t → wkd (rows.map (latR c)) t = none := fun t ht => by
        have := (la.lefts f0 (t - c)).2
        rw [show c + (t - c) = t by omega] at this
        rw [this]
        exact over _ (by omega)
      obtain rfl : ps2 = ps.map (latP c) := hst_same hst2 done2 (la.pcs f0 pc) overL
      obtain rfl : L2 = v + c := la.pl bd il il2
      have form3 : ∀ p ∈ srt, ∃ x h b : Int, p = [x, h, b] := fun p hp => by
        obtain ⟨x, h, b, rfl, _⟩ := pcs_row pc (pm.mem_iff.mp hp)
        exact ⟨x, h, b, rfl⟩
      obtain rfl : srt2 = srt.map (latP c) := lex_uniq lex2 (lex_latP form3 so) (pm2.trans (pm.map _).symm)
      have e06 := e05.trans e56
      have g6 := g0.trans e06
      have hpq6 := e06 _ _ hpq
      have tq6 := tq.ex e06
      walk_at "go"
      refine q_slT2 hrq (fun p2 np2 => ?_)
      have e7 := ex_new (o := .tup [.int (v + c), .ref pz]) e06 np2
      have hp2 := upd_same (H := G6) (a := p2) (o := .tup [.int (v + c), .ref pz])
      have hpz7 := fresh_at (u := .tup [.int (v + c), .ref pz]) np2 hpz
      have tz7 := ts_new (o := .tup [.int (v + c), .ref pz]) np2 tz
      have hpq7 := fresh_at (u := .tup [.int (v + c), .ref pz]) np2 hpq6
      have tq7 := ts_new (o := .tup [.int (v + c), .ref pz]) np2 tq6
      generalize upd G6 p2 (.tup [.int (v + c), .ref pz]) = G7 at e7 hp2 hpz7 tz7 hpq7 tq7 ⊢
      walk_at "go"
      intro D9 nD9
      refine lcp_list (xs := zs) (fun j H' => ∃ ys, Ex G7 H' ∧ H' D9 = some (.lst ys) ∧ Ts H' ys ((srt.take j).map (latP c))) ⟨[], Ex.new nD9, upd_same, .nil⟩ ?_ ?_ ?_
      · rintro j H' _ ⟨_, e, _⟩
        exact e _ _ hpq7
      · rintro j x H9 hx ⟨ys, e9, hD9, tys⟩
        obtain ⟨t, r1, rfl, hr1, ht0⟩ := (tq7.ex e9).get hx
        obtain ⟨x, h1, b1, rfl⟩ := form3 r1 (List.mem_of_getElem? hr1)
        have ht : H9 t = some (.tup [.int x, .int h1, .int b1]) := ht0
        clear ht0
        have ly := tys.len
        rw [List.length_map, List.length_take] at ly
        have ll : ys.length ≤ 30000 := by omega
        walk_at "go"
        refine q_gtup ht rfl ?_
        walk_at "go"
        rename_i p np
        have hD10 := fresh_at (u := .tup [.int x, .int (h1 + (c : Int)), .int (b1 + (c : Int))]) np hD9
        refine ⟨ys ++ [.ref p], (ex_new e9 np).mut nD9, upd_same, ?_⟩
        rw [take_snoc hr1, List.map_append]
        refine Ts.append ((ts_new np tys).tp (Tp.upd hD10)) (.cons ?_ .nil)
        rw [upd_ne (ne_fresh' np hD9)]
        exact upd_same
      rintro G8 ⟨ys9, e78, hD9, tys9⟩
      rw [lz, List.take_length] at tys9
      walk_at "go"
      rename_i p3 np3
      have e8 := ex_new (o := .tup [.int (v + c), .ref D9]) (e7.trans e78) np3
      refine q_neD (d := .tuple [.int (v + c), .list ((srt.map (latP c)).map fun ns => .tuple (ns.map .int))]) (e := .tuple [.int (v + c), .list ((srt.map (latP c)).map fun ns => .tuple (ns.map .int))]) (.tup (SqT.of (fresh_at np3 (e78 _ _ hp2))) (.cons (.int _) (.cons (.lst (SqL.of (fresh_at np3 (e78 _ _ hpz7))) ((ts_new np3 (tz7.ex e78)).dp (K := K))) .nil))) (.tup (SqT.of upd_same) (.cons (.int _) (.cons (.lst (SqL.of (fresh_at np3 hD9)) ((ts_new np3 tys9).dp (K := K))) .nil))) shp shp ?_
      rw [eqv_same shp]
      generalize upd G8 p3 (.tup [.int (v + c), .ref D9]) = G9 at e8 ⊢
      walk_at "go"
      have hpr9 := e8 _ _ hpr5
      have hph9 := e8 _ _ hph5
      have hpq9 := e8 _ _ hpq
      have ts9 := ts5.ex e8
      have tq9 := tq.ex e8
      refine loop_range (n := 2) (fun j σ H' => Ex G9 H' ∧ ∃ tk tB tC tD, σ = [some (.ref a), some (.int (i : Nat)), some (.ref pr), some (.ref ph), some (.ref pw), some (.ref pq), some (.ref D), some (.int v), tk, some (.int c), some (.ref rq), tB, tC, tD, none, none, none, none, none, none, none, none, none, none] ∧ (tk = some .non ∨ ∃ pk S, tk = some (.ref pk) ∧ H' pk = some (.lst (S.map V.int)) ∧ IsTold rows v S)) ⟨Ex.refl _, _, _, _, _, rfl, .inl rfl⟩ ?_ ?_
      · rintro j σ H10 hj ⟨e10, tk, tB, tC, tD, rfl, hk⟩
        walk_at "go"
        refine ⟨ph, xs, rows, rfl, e10 _ _ hph9, ts9.ex e10, ok, l1, by omega, fun H11 rf pz5 pt5 zs5 srt5 ps5 lf5 hour5 L5 S5 e11 nrf hrf npz5 hpz5 tz5 pm5 lex5 stp5 hst5 done5 l35 il5 npt5 hpt5 neS5 upS5 bdS5 pb5 tld5 => ?_⟩
        obtain rfl : ps5 = ps := hst_same hst5 done5 pc over
        obtain rfl : srt5 = srt := lex_uniq lex5 so (pm5.trans pm.symm)
        obtain rfl : L5 = v := il5.uniq il
        have e911 := e10.trans e11
        have hpr11 := e911 _ _ hpr9
        have hph11 := e911 _ _ hph9
        have hpq11 := e911 _ _ hpq9
        have ts11 := ts9.ex e911
        have tq11 := tq9.ex e911
        walk_at "go"
        refine ⟨_, rfl, ?_⟩
        walk_at "go"
        refine q_neD (.lst (SqL.of hpz5) (tz5.dp (K := K))) (.lst (SqL.of hpq11) (tq11.dp (K := K))) (shaped_ts _) (shaped_ts _) ?_
        rw [eqv_same (shaped_ts _)]
        walk_at "go"
        refine ⟨pt5, S5, rows.length, by rw [lx], hpt5, neS5, by have := up_le upS5 bdS5; omega, upS5, bdS5, fun H12 e1112 => ?_⟩
        have e912 := e911.trans e1112
        have hpr12 := e1112 _ _ hpr11
        have hph12 := e1112 _ _ hph11
        have ts12 := ts11.ex e1112
        have hpz12 := e1112 _ _ hpz5
        have tz12 := tz5.ex e1112
        have hpt12 := e1112 _ _ hpt5
        have hrf12 := e1112 _ _ hrf
        have lz5 := tz12.len
        walk_at "go"
        intro D10 nD10
        refine lcp_list (xs := zs5) (fun j H' => Ex H12 H' ∧ H' D10 = some (.lst ((List.replicate j true).map V.bl))) ⟨Ex.new nD10, upd_same⟩ (fun j H' _ h => h.1 _ _ hpz12) (fun j x H13 hx h => ?_) (fun H13 h => ?_)
        · obtain ⟨e13, hD13⟩ := h
          obtain ⟨t, r1, rfl, hr1, ht⟩ := (tz12.ex e13).get hx
          have hj := (List.getElem?_eq_some_iff.mp hx).1
          have ll : ((List.replicate j true).map V.bl).length = j := by rw [List.length_map, List.length_replicate]
          walk_at "go"
          refine ⟨e13.mut nD10, ?_⟩
          rw [upd_same, List.replicate_succ', List.map_append]
          rfl
        obtain ⟨e1213, hD13⟩ := h
        have j5 := e912.trans e1213
        have kpr5 := e1213 _ _ hpr12
        have kts5 := ts12.ex e1213
        have kph5 := e1213 _ _ hph12
        have kpz5 := e1213 _ _ hpz12
        have kpt5 := e1213 _ _ hpt12
        have krf5 := e1213 _ _ hrf12
        walk_at "go"
        refine q_all hD13 ?_
        rw [show (List.replicate zs5.length true).all id = true by rw [List.all_eq_true]; intro b hb; exact (List.mem_replicate.mp hb).2]
        walk_at "go"
        refine q_neD (.lst (SqL.of kph5) (kts5.dp (K := K))) (.lst (SqL.of kpr5) (kts5.dp (K := K))) (shaped_ts _) (shaped_ts _) ?_
        rw [eqv_same (shaped_ts _)]
        generalize H13 = J5 at *
        walk_at "go"
        intro E4 nE4
        have io5 : ∀ x ∈ S5, 0 ≤ x ∧ x < rows.length := bdS5
        refine lcp_list (xs := S5.map V.int) (fun i H' => ∃ ys, Ex J5 H' ∧ H' E4 = some (.lst ys) ∧ Ts H' ys ((S5.take i).map (row4 rows))) ⟨[], Ex.new nE4, upd_same, .nil⟩ ?_ ?_ ?_
        · rintro i H' _ ⟨_, e, _⟩
          exact e _ _ kpt5
        · rintro i x J6 hx ⟨ys, j6, hE6, tys⟩
          obtain ⟨n, hn, rfl⟩ := map_get hx
          have nb := bdS5 n (List.mem_of_getElem? hn)
          obtain ⟨tt, et, htt, _⟩ := r4_at (kts5.ex j6) ok nb.1 nb.2
          have kpr6 := j6 _ _ kpr5
          have ly := tys.len
          rw [List.length_map, List.length_take] at ly
          have ls := up_le upS5 bdS5
          have ll : ys.length ≤ 30 := by omega
          walk_at "go"
          refine q_ixL kpr6 et ?_
          walk_at "go"
          refine ⟨ys ++ [.ref tt], j6.mut nE4, upd_same, ?_⟩
          rw [take_snoc hn, List.map_append]
          refine Ts.append (tys.tp (Tp.upd hE6)) (.cons ?_ .nil)
          refine upd_at ?_ htt
          rintro rfl
          rw [hE6] at htt
          cases htt
        rintro J6 ⟨ys, j56, hE6, tys⟩
        rw [List.length_map, List.take_length] at tys
        have j6 := j5.trans j56
        have kpr6 := j56 _ _ kpr5
        have kts6 := kts5.ex j56
        have ls := up_le upS5 bdS5
        have lys := tys.len
        rw [List.length_map] at lys
        walk_at "go"
        have form : ∀ r ∈ S5.map (row4 rows), ∃ x ∈ S5, r = row4 rows x := fun r hr => by
          obtain ⟨x, hx, rfl⟩ := List.mem_map.mp hr
          exact ⟨x, hx, rfl⟩
        intro E5 nE5
        refine lcp_mapR (fun r => r.getD 1 0) nE5 hE6 tys (by rw [List.length_map]; omega) (fun t r J7 hr j67 ht R k => ?_) (fun J7 j67 hE7 => ?_)
        · obtain ⟨x, hx, rfl⟩ := form r hr
          have ht : J7 t = some (.tup [.int (len_ rows x), .int (frm_ rows x), .int (due_ rows x), .int (wgt_ rows x)]) := ht
          walk_at "go"
          exact k _ (Ex.refl _)
        have posS5 : 0 < S5.length := List.length_pos_iff.mpr neS5
        walk_at "go"
        refine q_minL hE7 (by rw [List.length_map, List.length_map]; exact posS5) (fun f hf low => ?_)
        have hE67 := j67 _ _ hE6
        have tyt7 := tys.ex j67
        walk_at "go"
        intro E6 nE6
        refine lcp_mapR (fun r => r.getD 0 0) nE6 hE67 tyt7 (by rw [List.length_map]; omega) (fun t r J8 hr j78 ht R k => ?_) (fun J8 j78 hE8 => ?_)
        · obtain ⟨x, hx, rfl⟩ := form r hr
          have ht : J8 t = some (.tup [.int (len_ rows x), .int (frm_ rows x), .int (due_ rows x), .int (wgt_ rows x)]) := ht
          walk_at "go"
          exact k _ (Ex.refl _)
        have hE68 := j78 _ _ hE67
        have tyt8 := tyt7.ex j78
        walk_at "go"
        intro E7 nE7
        refine lcp_mapR (fun r => r.getD 2 0) nE7 hE68 tyt8 (by rw [List.length_map]; omega) (fun t r J9 hr j89 ht R k => ?_) (fun J9 j89 hE9 => ?_)
        · obtain ⟨x, hx, rfl⟩ := form r hr
          have ht : J9 t = some (.tup [.int (len_ rows x), .int (frm_ rows x), .int (due_ rows x), .int (wgt_ rows x)]) := ht
          walk_at "go"
          exact k _ (Ex.refl _)
        walk_at "go"
        refine q_maxL hE9 (by rw [List.length_map, List.length_map]; exact posS5) (fun d hd high => ?_)
        have j9 := j6.trans (j67.trans (j78.trans j89))
        have j69 := j67.trans (j78.trans j89)
        have kpr9 := j69 _ _ kpr6
        have kts9 := kts6.ex j69
        have esum : ((S5.map (row4 rows)).map fun r => r.getD 0 0).sum = sumOf (len_ rows) S5 := by
          unfold sumOf
          rw [List.map_map]
          rfl
        have pb2 : IsPB rows S5 (f + sumOf (len_ rows) S5 - d) := by
          rw [List.map_map] at hf hd low high
          obtain ⟨x, hx, ex⟩ := List.mem_map.mp hf
          obtain ⟨y, hy, ey⟩ := List.mem_map.mp hd
          exact ⟨f, d, ⟨x, hx, ex⟩, fun z hz => low _ (List.mem_map.mpr ⟨z, hz, rfl⟩), ⟨y, hy, ey⟩, fun z hz => high _ (List.mem_map.mpr ⟨z, hz, rfl⟩), rfl⟩
        have eL := pb2.uniq pb5
        rw [esum]
        clear hf hd low high
        have kpz9 := j69 _ _ (j56 _ _ kpz5)
        have kpt9 := j69 _ _ (j56 _ _ kpt5)
        have krf9 := j69 _ _ (j56 _ _ krf5)
        walk_at "go"
        have lS5 : (S5.map V.int).length = S5.length := List.length_map _
        have e109 := e11.trans (e1112.trans (e1213.trans (j56.trans j69)))
        have nzt : pt5 ≠ pz5 := by
          intro z
          rw [z, hpz5] at hpt5
          have zz5 : zs5 = S5.map V.int := by
            injection hpt5 with q1
            injection q1
          obtain ⟨x0, S9, e9⟩ := List.exists_cons_of_ne_nil neS5
          obtain ⟨_, _, bad, _⟩ := tz5.get (i := 0) (v := .int x0) (by rw [zz5, e9]; rfl)
          cases bad
        have nzt' := nzt.symm
        rcases hk with rfl | ⟨pk, S0, rfl, hpk, tl0⟩
        · walk_at "go"
          rename_i p9 np9
          have nz : p9 ≠ pz5 := ne_fresh' np9 kpz9
          have nt9 : p9 ≠ pt5 := ne_fresh' np9 kpt9
          exact ⟨((ex_new j9 np9).mut (Evl.fresh_back e10 npz5)).mut (Evl.fresh_back e10 npt5), _, _, _, _, rfl, .inr ⟨p9, S5, rfl, upd_at nt9 (upd_at nz upd_same), tld5⟩⟩
        · have hpk9 := e109 _ _ hpk
          walk_at "go"
          rw [decide_eq_false (show ¬ V.ref pk = V.non from fun z => by cases z), if_pos (show (!false) = true from rfl)]
          walk_at "go"
          refine q_neD (.lst (SqL.of kpt9) dpa_ints) (.lst (SqL.of hpk9) dpa_ints) shaped_ints shaped_ints ?_
          obtain rfl := tld5.uniq tl0
          rw [eqv_same shaped_ints]
          walk_at "go"
          rename_i p9 np9
          have nz : p9 ≠ pz5 := ne_fresh' np9 kpz9
          have nt9 : p9 ≠ pt5 := ne_fresh' np9 kpt9
          exact ⟨((ex_new j9 np9).mut (Evl.fresh_back e10 npz5)).mut (Evl.fresh_back e10 npt5), _, _, _, _, rfl, .inr ⟨p9, S5, rfl, upd_at nt9 (upd_at nz upd_same), tld5⟩⟩
      · rintro σ H10 ⟨e10, tk, tB, tC, tD, rfl, hk⟩
        exact ⟨g0.trans (e8.trans e10), _, _, _, _, _, _, _, _, _, _, _, _, _, rfl⟩
    · rintro σ H0 ⟨e0, t1, t2, t3, t4, t5, t6, t7, t8, t9, tA, tB, tC, tD, rfl⟩
      walk_at "go"
      exact q _

end
end Bk33

namespace Bk33
open PySem PySem.Spec PyProof.Rows L2 Bs
open Evl (Ex)
section
variable {P : Program} {w : World} {K : PySem.W.Frag} {mg : Str → Option Value} {base : Heap}
theorem law_of (T : Tx K mg) {fa : Addr} (hfa : mg "law" = some (.ref fa)) :
    ∃ fd : FuncData, (∀ (s : Shared) (v : Value), BindsTo s fd ⟨[v], []⟩ [("script", v)]) ∧ ∀ base : Heap, K.In base → base.Ns mainGlobals mg → FnOk P w K mg base CX0 6 fa fd ["script"] (spLaw K) :=
  law_end T.d_law hfa fun _ _ _ F => ok_law T F
end
theorem tx_mk {K : PySem.W.Frag} {h : Heap} {mg : Str → Option Value} (X : K.In h) (G : h.Ns mainGlobals mg)
    {t1 t2 t3 t4 t5 t6 t7 t8 : Tok}
    {f25 f26 f27 f28 f29 f30 f31 f32 f33 f34 f35 f36 f37 f38 f39 f40 f41 f42 : Addr} {od25 an25 od26 an26 od27 an27 od28 an28 od29 an29 od30 an30 od31 an31 od32 an32 od33 an33 od34 an34 od35 an35 od36 an36 od37 an37 od38 an38 od39 an39 od40 an40 od41 an41 od42 an42 : Option Addr} {sl25 sl26 sl27 sl28 sl29 sl30 sl31 sl32 sl33 sl34 sl35 sl36 sl37 sl38 sl39 sl40 sl41 sl42 : Array (Option Value)} {oc25 kV25 dc25 pm25 cd25 ct25 oc26 kV26 dc26 pm26 cd26 ct26 oc27 kV27 dc27 pm27 cd27 ct27 oc28 kV28 dc28 pm28 cd28 ct28 oc29 kV29 dc29 pm29 cd29 ct29 oc30 kV30 dc30 pm30 cd30 ct30 oc31 kV31 dc31 pm31 cd31 ct31 oc32 kV32 dc32 pm32 cd32 ct32 oc33 kV33 dc33 pm33 cd33 ct33 oc34 kV34 dc34 pm34 cd34 ct34 oc35 kV35 dc35 pm35 cd35 ct35 oc36 kV36 dc36 pm36 cd36 ct36 oc37 kV37 dc37 pm37 cd37 ct37 oc38 kV38 dc38 pm38 cd38 ct38 oc39 kV39 dc39 pm39 cd39 ct39 oc40 kV40 dc40 pm40 cd40 ct40 oc41 kV41 dc41 pm41 cd41 ct41 oc42 kV42 dc42 pm42 cd42 ct42 : Value}
    (e1 : PySem.W.nsIn K mainGlobals "LAST_HOUR" = some (some (.int 1000000 t1)))
    (e2 : PySem.W.nsIn K mainGlobals "MOST_LENGTH" = some (some (.int 1000 t2)))
    (e3 : PySem.W.nsIn K mainGlobals "MOST_WEIGHT" = some (some (.int 1000 t3)))
    (e4 : PySem.W.nsIn K mainGlobals "MOST_ROWS" = some (some (.int 30 t4)))
    (e5 : PySem.W.nsIn K mainGlobals "LENGTH" = some (some (.int 0 t5)))
    (e6 : PySem.W.nsIn K mainGlobals "FROM" = some (some (.int 1 t6)))
    (e7 : PySem.W.nsIn K mainGlobals "BY" = some (some (.int 2 t7)))
    (e8 : PySem.W.nsIn K mainGlobals "WEIGHT" = some (some (.int 3 t8)))
    (e9 : PySem.W.nsIn K mainGlobals "isinstance" = some none)
    (e10 : PySem.W.nsIn K mainGlobals "int" = some none)
    (e11 : PySem.W.nsIn K mainGlobals "bool" = some none)
    (e12 : PySem.W.nsIn K mainGlobals "tuple" = some none)
    (e13 : PySem.W.nsIn K mainGlobals "len" = some none)
    (e14 : PySem.W.nsIn K mainGlobals "all" = some none)
    (e15 : PySem.W.nsIn K mainGlobals "list" = some none)
    (e16 : PySem.W.nsIn K mainGlobals "min" = some none)
    (e17 : PySem.W.nsIn K mainGlobals "any" = some none)
    (e18 : PySem.W.nsIn K mainGlobals "enumerate" = some none)
    (e19 : PySem.W.nsIn K mainGlobals "max" = some none)
    (e20 : PySem.W.nsIn K mainGlobals "sum" = some none)
    (e21 : PySem.W.nsIn K mainGlobals "sorted" = some none)
    (e22 : PySem.W.nsIn K mainGlobals "range" = some none)
    (e23 : PySem.W.nsIn K mainGlobals "set" = some none)
    (e24 : PySem.W.nsIn K mainGlobals "zip" = some none)
    (a25 : PySem.W.nsIn K mainGlobals "is_whole" = some (some (.ref f25)))
    (l25 : K.lookup f25 = some ⟨oc25, od25, .func (PySem.W.fnOf "is_whole" "is_whole" (defArgs s_is_whole) (defBody s_is_whole) (defScope s_is_whole) .none kV25 dc25 pm25 an25 cd25 ct25), sl25⟩)
    (c25 : PySem.W.codeIn K cd25 "is_whole" = true)
    (k25 : PySem.W.keepIn K (.ref f25) = true)
    (a26 : PySem.W.nsIn K mainGlobals "is_among" = some (some (.ref f26)))
    (l26 : K.lookup f26 = some ⟨oc26, od26, .func (PySem.W.fnOf "is_among" "is_among" (defArgs s_is_among) (defBody s_is_among) (defScope s_is_among) .none kV26 dc26 pm26 an26 cd26 ct26), sl26⟩)
    (c26 : PySem.W.codeIn K cd26 "is_among" = true)
    (k26 : PySem.W.keepIn K (.ref f26) = true)
    (a27 : PySem.W.nsIn K mainGlobals "is_row" = some (some (.ref f27)))
    (l27 : K.lookup f27 = some ⟨oc27, od27, .func (PySem.W.fnOf "is_row" "is_row" (defArgs s_is_row) (defBody s_is_row) (defScope s_is_row) .none kV27 dc27 pm27 an27 cd27 ct27), sl27⟩)
    (c27 : PySem.W.codeIn K cd27 "is_row" = true)
    (k27 : PySem.W.keepIn K (.ref f27) = true)
    (a28 : PySem.W.nsIn K mainGlobals "need_rows" = some (some (.ref f28)))
    (l28 : K.lookup f28 = some ⟨oc28, od28, .func (PySem.W.fnOf "need_rows" "need_rows" (defArgs s_need_rows) (defBody s_need_rows) (defScope s_need_rows) .none kV28 dc28 pm28 an28 cd28 ct28), sl28⟩)
    (c28 : PySem.W.codeIn K cd28 "need_rows" = true)
    (k28 : PySem.W.keepIn K (.ref f28) = true)
    (a29 : PySem.W.nsIn K mainGlobals "is_machine_row" = some (some (.ref f29)))
    (l29 : K.lookup f29 = some ⟨oc29, od29, .func (PySem.W.fnOf "is_machine_row" "is_machine_row" (defArgs s_is_machine_row) (defBody s_is_machine_row) (defScope s_is_machine_row) .none kV29 dc29 pm29 an29 cd29 ct29), sl29⟩)
    (c29 : PySem.W.codeIn K cd29 "is_machine_row" = true)
    (k29 : PySem.W.keepIn K (.ref f29) = true)
    (a30 : PySem.W.nsIn K mainGlobals "pieces_of" = some (some (.ref f30)))
    (l30 : K.lookup f30 = some ⟨oc30, od30, .func (PySem.W.fnOf "pieces_of" "pieces_of" (defArgs s_pieces_of) (defBody s_pieces_of) (defScope s_pieces_of) .none kV30 dc30 pm30 an30 cd30 ct30), sl30⟩)
    (c30 : PySem.W.codeIn K cd30 "pieces_of" = true)
    (k30 : PySem.W.keepIn K (.ref f30) = true)
    (a31 : PySem.W.nsIn K mainGlobals "parted_bound" = some (some (.ref f31)))
    (l31 : K.lookup f31 = some ⟨oc31, od31, .func (PySem.W.fnOf "parted_bound" "parted_bound" (defArgs s_parted_bound) (defBody s_parted_bound) (defScope s_parted_bound) .none kV31 dc31 pm31 an31 cd31 ct31), sl31⟩)
    (c31 : PySem.W.codeIn K cd31 "parted_bound" = true)
    (k31 : PySem.W.keepIn K (.ref f31) = true)
    (a32 : PySem.W.nsIn K mainGlobals "parted_set" = some (some (.ref f32)))
    (l32 : K.lookup f32 = some ⟨oc32, od32, .func (PySem.W.fnOf "parted_set" "parted_set" (defArgs s_parted_set) (defBody s_parted_set) (defScope s_parted_set) .none kV32 dc32 pm32 an32 cd32 ct32), sl32⟩)
    (c32 : PySem.W.codeIn K cd32 "parted_set" = true)
    (k32 : PySem.W.keepIn K (.ref f32) = true)
    (a33 : PySem.W.nsIn K mainGlobals "parted" = some (some (.ref f33)))
    (l33 : K.lookup f33 = some ⟨oc33, od33, .func (PySem.W.fnOf "parted" "parted" (defArgs s_parted) (defBody s_parted) (defScope s_parted) .none kV33 dc33 pm33 an33 cd33 ct33), sl33⟩)
    (c33 : PySem.W.codeIn K cd33 "parted" = true)
    (k33 : PySem.W.keepIn K (.ref f33) = true)
    (a34 : PySem.W.nsIn K mainGlobals "_law_mixed" = some (some (.ref f34)))
    (l34 : K.lookup f34 = some ⟨oc34, od34, .func (PySem.W.fnOf "_law_mixed" "_law_mixed" (defArgs s__law_mixed) (defBody s__law_mixed) (defScope s__law_mixed) .none kV34 dc34 pm34 an34 cd34 ct34), sl34⟩)
    (c34 : PySem.W.codeIn K cd34 "_law_mixed" = true)
    (k34 : PySem.W.keepIn K (.ref f34) = true)
    (a35 : PySem.W.nsIn K mainGlobals "_law_draw" = some (some (.ref f35)))
    (l35 : K.lookup f35 = some ⟨oc35, od35, .func (PySem.W.fnOf "_law_draw" "_law_draw" (defArgs s__law_draw) (defBody s__law_draw) (defScope s__law_draw) .none kV35 dc35 pm35 an35 cd35 ct35), sl35⟩)
    (c35 : PySem.W.codeIn K cd35 "_law_draw" = true)
    (k35 : PySem.W.keepIn K (.ref f35) = true)
    (a36 : PySem.W.nsIn K mainGlobals "_law_next" = some (some (.ref f36)))
    (l36 : K.lookup f36 = some ⟨oc36, od36, .func (PySem.W.fnOf "_law_next" "_law_next" (defArgs s__law_next) (defBody s__law_next) (defScope s__law_next) .none kV36 dc36 pm36 an36 cd36 ct36), sl36⟩)
    (c36 : PySem.W.codeIn K cd36 "_law_next" = true)
    (k36 : PySem.W.keepIn K (.ref f36) = true)
    (a37 : PySem.W.nsIn K mainGlobals "_law_whole" = some (some (.ref f37)))
    (l37 : K.lookup f37 = some ⟨oc37, od37, .func (PySem.W.fnOf "_law_whole" "_law_whole" (defArgs s__law_whole) (defBody s__law_whole) (defScope s__law_whole) .none kV37 dc37 pm37 an37 cd37 ct37), sl37⟩)
    (c37 : PySem.W.codeIn K cd37 "_law_whole" = true)
    (k37 : PySem.W.keepIn K (.ref f37) = true)
    (a38 : PySem.W.nsIn K mainGlobals "_law_is_set" = some (some (.ref f38)))
    (l38 : K.lookup f38 = some ⟨oc38, od38, .func (PySem.W.fnOf "_law_is_set" "_law_is_set" (defArgs s__law_is_set) (defBody s__law_is_set) (defScope s__law_is_set) .none kV38 dc38 pm38 an38 cd38 ct38), sl38⟩)
    (c38 : PySem.W.codeIn K cd38 "_law_is_set" = true)
    (k38 : PySem.W.keepIn K (.ref f38) = true)
    (a39 : PySem.W.nsIn K mainGlobals "_law_near_rows" = some (some (.ref f39)))
    (l39 : K.lookup f39 = some ⟨oc39, od39, .func (PySem.W.fnOf "_law_near_rows" "_law_near_rows" (defArgs s__law_near_rows) (defBody s__law_near_rows) (defScope s__law_near_rows) .none kV39 dc39 pm39 an39 cd39 ct39), sl39⟩)
    (c39 : PySem.W.codeIn K cd39 "_law_near_rows" = true)
    (k39 : PySem.W.keepIn K (.ref f39) = true)
    (a40 : PySem.W.nsIn K mainGlobals "_law_worked" = some (some (.ref f40)))
    (l40 : K.lookup f40 = some ⟨oc40, od40, .func (PySem.W.fnOf "_law_worked" "_law_worked" (defArgs s__law_worked) (defBody s__law_worked) (defScope s__law_worked) .none kV40 dc40 pm40 an40 cd40 ct40), sl40⟩)
    (c40 : PySem.W.codeIn K cd40 "_law_worked" = true)
    (k40 : PySem.W.keepIn K (.ref f40) = true)
    (a41 : PySem.W.nsIn K mainGlobals "_law_pieces" = some (some (.ref f41)))
    (l41 : K.lookup f41 = some ⟨oc41, od41, .func (PySem.W.fnOf "_law_pieces" "_law_pieces" (defArgs s__law_pieces) (defBody s__law_pieces) (defScope s__law_pieces) .none kV41 dc41 pm41 an41 cd41 ct41), sl41⟩)
    (c41 : PySem.W.codeIn K cd41 "_law_pieces" = true)
    (k41 : PySem.W.keepIn K (.ref f41) = true)
    (a42 : PySem.W.nsIn K mainGlobals "law" = some (some (.ref f42)))
    (l42 : K.lookup f42 = some ⟨oc42, od42, .func (PySem.W.fnOf "law" "law" (defArgs s_law) (defBody s_law) (defScope s_law) .none kV42 dc42 pm42 an42 cd42 ct42), sl42⟩)
    (c42 : PySem.W.codeIn K cd42 "law" = true)
    (k42 : PySem.W.keepIn K (.ref f42) = true)
    : Tx K mg where
  c_LAST_HOUR := ⟨_, PySem.W.mg_of X G e1, _, rfl⟩
  c_MOST_LENGTH := ⟨_, PySem.W.mg_of X G e2, _, rfl⟩
  c_MOST_WEIGHT := ⟨_, PySem.W.mg_of X G e3, _, rfl⟩
  c_MOST_ROWS := ⟨_, PySem.W.mg_of X G e4, _, rfl⟩
  c_LENGTH := ⟨_, PySem.W.mg_of X G e5, _, rfl⟩
  c_FROM := ⟨_, PySem.W.mg_of X G e6, _, rfl⟩
  c_BY := ⟨_, PySem.W.mg_of X G e7, _, rfl⟩
  c_WEIGHT := ⟨_, PySem.W.mg_of X G e8, _, rfl⟩
  b_isinstance := PySem.W.mg_none_of X G e9
  b_int := PySem.W.mg_none_of X G e10
  b_bool := PySem.W.mg_none_of X G e11
  b_tuple := PySem.W.mg_none_of X G e12
  b_len := PySem.W.mg_none_of X G e13
  b_all := PySem.W.mg_none_of X G e14
  b_list := PySem.W.mg_none_of X G e15
  b_min := PySem.W.mg_none_of X G e16
  b_any := PySem.W.mg_none_of X G e17
  b_enumerate := PySem.W.mg_none_of X G e18
  b_max := PySem.W.mg_none_of X G e19
  b_sum := PySem.W.mg_none_of X G e20
  b_sorted := PySem.W.mg_none_of X G e21
  b_range := PySem.W.mg_none_of X G e22
  b_set := PySem.W.mg_none_of X G e23
  b_zip := PySem.W.mg_none_of X G e24
  d_is_whole := dfn_mk X G a25 l25 c25 k25 fun _ _ _ _ _ _ us hl => match us, hl with | [_], _ => rfl
  d_is_among := dfn_mk X G a26 l26 c26 k26 fun _ _ _ _ _ _ us hl => match us, hl with | [_, _, _], _ => rfl
  d_is_row := dfn_mk X G a27 l27 c27 k27 fun _ _ _ _ _ _ us hl => match us, hl with | [_, _], _ => rfl
  d_need_rows := dfn_mk X G a28 l28 c28 k28 fun _ _ _ _ _ _ us hl => match us, hl with | [_, _], _ => rfl
  d_is_machine_row := dfn_mk X G a29 l29 c29 k29 fun _ _ _ _ _ _ us hl => match us, hl with | [_], _ => rfl
  d_pieces_of := dfn_mk X G a30 l30 c30 k30 fun _ _ _ _ _ _ us hl => match us, hl with | [_], _ => rfl
  d_parted_bound := dfn_mk X G a31 l31 c31 k31 fun _ _ _ _ _ _ us hl => match us, hl with | [_, _], _ => rfl
  d_parted_set := dfn_mk X G a32 l32 c32 k32 fun _ _ _ _ _ _ us hl => match us, hl with | [_, _], _ => rfl
  d_parted := dfn_mk X G a33 l33 c33 k33 fun _ _ _ _ _ _ us hl => match us, hl with | [_], _ => rfl
  d__law_mixed := dfn_mk X G a34 l34 c34 k34 fun _ _ _ _ _ _ us hl => match us, hl with | [_, _], _ => rfl
  d__law_draw := dfn_mk X G a35 l35 c35 k35 fun _ _ _ _ _ _ us hl => match us, hl with | [_, _], _ => rfl
  d__law_next := dfn_mk X G a36 l36 c36 k36 fun _ _ _ _ _ _ us hl => match us, hl with | [_, _], _ => rfl
  d__law_whole := dfn_mk X G a37 l37 c37 k37 fun _ _ _ _ _ _ us hl => match us, hl with | [_], _ => rfl
  d__law_is_set := dfn_mk X G a38 l38 c38 k38 fun _ _ _ _ _ _ us hl => match us, hl with | [_, _], _ => rfl
  d__law_near_rows := dfn_mk X G a39 l39 c39 k39 fun _ _ _ _ _ _ us hl => match us, hl with | [_, _, _], _ => rfl
  d__law_worked := dfn_mk X G a40 l40 c40 k40 fun _ _ _ _ _ _ us hl => match us, hl with | [_], _ => rfl
  d__law_pieces := dfn_mk X G a41 l41 c41 k41 fun _ _ _ _ _ _ us hl => match us, hl with | [_], _ => rfl
  d_law := dfn_mk X G a42 l42 c42 k42 fun _ _ _ _ _ _ us hl => match us, hl with | [_], _ => rfl
end Bk33
open PySem PySem.W PyProof.Rows
set_option maxHeartbeats 0 in
theorem PySem.Challenge.cw_boundsmith_k33_parted_hour_by_hour_holds : PySem.Challenge.rw_boundsmith_k33_parted_hour_by_hour.Holds := by
  w_on; o_law; k_head; (case hw => w_witness2)
  k_fill
  refine L2.walk_of (l := PySem.Challenge.rw_boundsmith_k33_parted_hour_by_hour) (n := 63) (k := 6) (x := "script") (CX := fun _ => L2.CX0) (sp := fun w => Bk33.spLaw _) rfl (by decide) rfl ⟨rfl, by decide, by decide⟩ (fun w h Y => PySem.W.kIn_of Y) ?F (fun _ _ a ns hl _ hS => ⟨a, ns, rfl, hS, hl, fun _ => rfl⟩) (fun _ _ _ _ _ h => h)
  case F =>
    intro w mg fa h KX G hmg
    refine Bk33.law_of (P := _) ?_ hmg
    refine' Bk33.tx_mk KX G ?e1 ?e2 ?e3 ?e4 ?e5 ?e6 ?e7 ?e8 ?e9 ?e10 ?e11 ?e12 ?e13 ?e14 ?e15 ?e16 ?e17 ?e18 ?e19 ?e20 ?e21 ?e22 ?e23 ?e24 ?a25 ?l25 ?c25 ?k25 ?a26 ?l26 ?c26 ?k26 ?a27 ?l27 ?c27 ?k27 ?a28 ?l28 ?c28 ?k28 ?a29 ?l29 ?c29 ?k29 ?a30 ?l30 ?c30 ?k30 ?a31 ?l31 ?c31 ?k31 ?a32 ?l32 ?c32 ?k32 ?a33 ?l33 ?c33 ?k33 ?a34 ?l34 ?c34 ?k34 ?a35 ?l35 ?c35 ?k35 ?a36 ?l36 ?c36 ?k36 ?a37 ?l37 ?c37 ?k37 ?a38 ?l38 ?c38 ?k38 ?a39 ?l39 ?c39 ?k39 ?a40 ?l40 ?c40 ?k40 ?a41 ?l41 ?c41 ?k41 ?a42 ?l42 ?c42 ?k42
    (case e1 => k_is); (case e2 => k_is); (case e3 => k_is); (case e4 => k_is); (case e5 => k_is); (case e6 => k_is); (case e7 => k_is); (case e8 => k_is); (case e9 => k_is); (case e10 => k_is); (case e11 => k_is); (case e12 => k_is); (case e13 => k_is); (case e14 => k_is); (case e15 => k_is); (case e16 => k_is); (case e17 => k_is); (case e18 => k_is); (case e19 => k_is); (case e20 => k_is); (case e21 => k_is); (case e22 => k_is); (case e23 => k_is); (case e24 => k_is); (case a25 => k_is); (case l25 => k_is); (case c25 => k_is); (case k25 => k_is); (case a26 => k_is); (case l26 => k_is); (case c26 => k_is); (case k26 => k_is); (case a27 => k_is); (case l27 => k_is); (case c27 => k_is); (case k27 => k_is); (case a28 => k_is); (case l28 => k_is); (case c28 => k_is); (case k28 => k_is); (case a29 => k_is); (case l29 => k_is); (case c29 => k_is); (case k29 => k_is); (case a30 => k_is); (case l30 => k_is); (case c30 => k_is); (case k30 => k_is); (case a31 => k_is); (case l31 => k_is); (case c31 => k_is); (case k31 => k_is); (case a32 => k_is); (case l32 => k_is); (case c32 => k_is); (case k32 => k_is); (case a33 => k_is); (case l33 => k_is); (case c33 => k_is); (case k33 => k_is); (case a34 => k_is); (case l34 => k_is); (case c34 => k_is); (case k34 => k_is); (case a35 => k_is); (case l35 => k_is); (case c35 => k_is); (case k35 => k_is); (case a36 => k_is); (case l36 => k_is); (case c36 => k_is); (case k36 => k_is); (case a37 => k_is); (case l37 => k_is); (case c37 => k_is); (case k37 => k_is); (case a38 => k_is); (case l38 => k_is); (case c38 => k_is); (case k38 => k_is); (case a39 => k_is); (case l39 => k_is); (case c39 => k_is); (case k39 => k_is); (case a40 => k_is); (case l40 => k_is); (case c40 => k_is); (case k40 => k_is); (case a41 => k_is); (case l41 => k_is); (case c41 => k_is); (case k41 => k_is); (case a42 => k_is); (case l42 => k_is); (case c42 => k_is); (case k42 => k_is)


