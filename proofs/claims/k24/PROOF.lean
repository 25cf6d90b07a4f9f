import PyProof.Rows.All
import Wide.All
import OpenK.AllK
import Wide.FinOn
import PySem.Challenge.RW_boundsmith_k24_whole_hour_by_hour
import HandS.ForMost
import HandS.IsInst
import HandS.Wide
import HandS.WideBits
import HandS.Evl
import HandS.Replace
import HandS.Codes
import HandS.SetBool
import HandS.Strs
import HandS.SortKw
import KE.DataMinMax
import PyProof.ReprRoads
import HandS.DictTup
import HandS.DictComp
import HandS.TupLen
import HandS.TupSets
import HandS.Conv
import HandS.SortRule
import HandS.SortInts
import KE.KDictCopyH
import HandS.Walk
import HandS.Iter
import PyProof.ListRange
import HandS.Style
import HandS.Ends
import HandS.EndBits
import PyProof.P3Eq
import HandS.Zip
import HandS.CallLocal
import PyProof.ReprLen
import HandS.NamedTupSort
import HandS.Flow
import HandS.SetFor
import KE.DataAny
import KE.SortData
import HandS.Sort
import HandS.ListItems
import KE.GoesMore
import PyProof.EnumMake
import KE.KDictList
import KE.GoesZip
import KE.GoesEnum
import KE.KDictPairs
import KE.KDictZip
import KE.KEqDict
import HandS.RevTup
import HandS.Rev
import HandS.SortOrd
import HandS.TupAny
set_option Elab.async false
set_option linter.all false
set_option maxRecDepth 100000
/-! words shared by the proofs of one program's laws -/
namespace Bs
open PySem PySem.Spec PyProof.Rows L2
open Evl (Ex)

/-! ### a def that may be called: its name, its slots' names, its promise -/
structure Cal (P : Program) (w : World) (K : PySem.W.Frag) (mg : Str → Option Value) (base : Heap) (k : Nat) (x : Str) (ps : List Str) (sp : Sp) : Prop where
  ex : ∃ (f : Addr) (fd : FuncData), mg x = some (.ref f) ∧ PySem.W.keepIn K (.ref f) = true ∧ Binds K fd ps [] ∧ FnOk P w K mg base CX0 k f fd ps sp
theorem Cal.mono {P : Program} {w : World} {K : PySem.W.Frag} {mg : Str → Option Value} {base : Heap} {j k : Nat} {x : Str} {ps : List Str} {sp : Sp} (G : Cal P w K mg base j x ps sp) (h : j ≤ k) : Cal P w K mg base k x ps sp := by
  obtain ⟨f, fd, a, b, c, F⟩ := G.ex
  exact ⟨f, fd, a, b, c, F.mono h⟩
theorem pe_cal {X : Cx} {k : Nat} {x : Str} {ps : List Str} {sp : Sp} {p pos : Pos} {e : Expr} {es : List Expr} {t : TA} (G : Cal X.prog X.w X.K X.mg X.base k x ps sp) (hr : Room k X.A) (hg : Gl X x)
    (ha : PA X (e :: es) t) (hdb : (x == ("__debug__" : Str)) = false := by decide) (he : starEach (e :: es) X.env = (false, eval e X.env) :: starEach es X.env := by rfl) (hpl : (backTo pos (starEach es X.env)).any (·.1) = false := by rfl) :
    PE X (.Call (.Name x p) (e :: es) [] pos) (tCall sp [] E0 t) := by
  obtain ⟨f, fd, hm, hk, hb, F⟩ := G.ex
  exact pe_call F hr hg hm hk hb .nil pass0 ha hdb he hpl
/-- what the top holds of a def -/
structure Dfn (K : PySem.W.Frag) (mg : Str → Option Value) (x : Str) (st : Stmt) (ps : List Str) : Prop where
  ex : ∃ (f : Addr) (fd : FuncData), Fun K x x st f fd ∧ mg x = some (.ref f) ∧ ∀ us : List Value, us.length = ps.length → bindArgs fd ⟨us, []⟩ = pure (ps.zip us)
theorem Dfn.cal {P : Program} {w : World} {K : PySem.W.Frag} {mg : Str → Option Value} {base : Heap} {k : Nat} {x : Str} {st : Stmt} {N ps : List Str} {sp : Sp} (D : Dfn K mg x st ps) (S : FnScope N ps (defScope st)) (len : ∀ vs H Q E, sp vs H Q E → vs.length = ps.length)
    (hbody : ∀ (f : Addr) (cdv : Value) (A : Around) (outer : List Env) (s : Shared) (H : Hp) (vs : List V) (Q : VK) (E : XK), Room k (A.deeper (envOfC x (defScope st) s.heap.objs.size f cdv)) → sp vs H Q E →
      ∃ t, PSs (cxOf CX0 P w K mg base N x (defScope st) f cdv A outer s H E).nox (defBody st) t ∧ t { nx := fun _ H' => Q .non H', rt := Q } (start N vs) H) : Cal P w K mg base (k + 1) x ps sp := by
  obtain ⟨f, fd, F, g, b⟩ := D.ex
  exact ⟨f, fd, g, F.kp, .all b, F.ok S len fun cdv A outer s H vs Q E hr h => hbody f cdv A outer s H vs Q E hr h⟩
theorem dfn_mk {K : PySem.W.Frag} {mg : Str → Option Value} {h : Heap} {x : Str} {st : Stmt} {ps : List Str} {f : Addr} {oc : Value} {od an : Option Addr} {osl : Array (Option Value)} {kV doc pm cdv ct : Value} (X : K.In h) (G : h.Ns mainGlobals mg)
    (a : PySem.W.nsIn K mainGlobals x = some (some (.ref f)))
    (l : K.lookup f = some ⟨oc, od, .func (PySem.W.fnOf x x (defArgs st) (defBody st) (defScope st) .none kV doc pm an cdv ct), osl⟩)
    (c : PySem.W.codeIn K cdv x = true) (k : PySem.W.keepIn K (.ref f) = true)
    (hb : ∀ (kV doc pm : Value) (an : Option Addr) (cdv ct : Value) (us : List Value), us.length = ps.length → bindArgs (PySem.W.fnOf x x (defArgs st) (defBody st) (defScope st) .none kV doc pm an cdv ct) ⟨us, []⟩ = pure (ps.zip us)) : Dfn K mg x st ps :=
  ⟨f, _, fun_mk (st := st) l c k, PySem.W.mg_of X G a, hb kV doc pm an cdv ct⟩

theorem pe_globE {X : Cx} {x : Str} {v : V} {pos : Pos} (hg : Gl X x) (h : ∃ u, X.mg x = some u ∧ RelV v u) (hd : (x == ("__debug__" : Str)) = false := by decide) : PE X (.Name x pos) (tC v) := by
  obtain ⟨u, hm, r⟩ := h
  exact pe_glob hg hm r hd
/-- the law's own end -/
theorem law_end {P : Program} {w : World} {K : PySem.W.Frag} {mg : Str → Option Value} {k : Nat} {x : Str} {st : Stmt} {sp : Sp} {fa : Addr} (D : Dfn K mg x st ["script"]) (hfa : mg x = some (.ref fa))
    (ok : ∀ (base : Heap) (f : Addr) (fd : FuncData), Fun K x x st f fd → FnOk P w K mg base CX0 k f fd ["script"] sp) :
    ∃ fd : FuncData, (∀ (s : Shared) (v : Value), BindsTo s fd ⟨[v], []⟩ [("script", v)]) ∧ ∀ base : Heap, K.In base → base.Ns mainGlobals mg → FnOk P w K mg base CX0 k fa fd ["script"] sp := by
  obtain ⟨f, fd, F, g, b⟩ := D.ex
  have e := hfa.symm.trans g
  cases e
  exact ⟨fd, fun s v => .of_eq (b [v] rfl), fun base _ _ => ok base fa fd F⟩
/-! ### loops over a text -/
theorem lc_str {x : Str} {g : TG} {tt : TT} {te : TE} {vs : List Nat} {σ : L2.St} {H1 : Hp} {D : Addr} {Qd : Hp → Prop} (Pv : Nat → Hp → Prop) (h0 : Pv 0 (upd H1 D (.lst [])))
    (hs : ∀ i c H, x.cps[i]? = some c → Pv i H → g (.str ⟨#[c]⟩) (wipe σ vs) H fun σ2 H2 => wipe σ2 vs = wipe σ vs ∧ tt σ2 H2 fun b H3 =>
      if b = true then te σ2 H3 fun y H4 => ∃ acc, H4 D = some (.lst acc) ∧ acc.length < sizeLine ∧ Pv (i + 1) (upd H4 D (.lst (acc ++ [y]))) else Pv (i + 1) H3) (hd : ∀ H, Pv x.cps.size H → Qd H) :
    ∃ W : Nat → Nat → Hp → Prop, (∃ m, W 0 m (upd H1 D (.lst []))) ∧ ∀ i m H, W i m H →
      ((Its x).stop i H ∧ Qd H) ∨ ((Its x).go i H ∧ ∃ Nx : Hp → Prop, (∀ H', Nx H' → ∃ m', m' < m ∧ W (i + 1) m' H') ∧ ∀ x' H', (Its x).yld i H x' H' → g x' (wipe σ vs) H' fun σ2 H2 => wipe σ2 vs = wipe σ vs ∧ tt σ2 H2 fun b H3 =>
        if b = true then te σ2 H3 fun y H4 => ∃ acc, H4 D = some (.lst acc) ∧ acc.length < sizeLine ∧ Nx (upd H4 D (.lst (acc ++ [y]))) else Nx H3) := by
  refine ⟨fun i m H => m = x.cps.size - i ∧ i ≤ x.cps.size ∧ Pv i H, ⟨x.cps.size, by simp, Nat.zero_le _, h0⟩, ?_⟩
  rintro i m H ⟨rfl, hi, p⟩
  by_cases hlt : i < x.cps.size
  · refine .inr ⟨hlt, Pv (i + 1), fun H' p' => ⟨x.cps.size - (i + 1), by omega, rfl, hlt, p'⟩, fun x' H' y => ?_⟩
    obtain ⟨e, c, hc, y⟩ := y
    subst e y
    exact hs i c _ hc p
  · have e : i = x.cps.size := by omega
    subst e
    exact .inl ⟨Nat.le_refl _, hd H p⟩
theorem for_str {x : Str} {g : TG} {tb : TS} {D : Ends} {σ : L2.St} {H : Hp} (Pv : Nat → L2.St → Hp → Prop) (h0 : Pv 0 σ H)
    (hs : ∀ i c σ H, x.cps[i]? = some c → Pv i σ H → g (.str ⟨#[c]⟩) σ H fun σ2 H2 => tb { D with nx := Pv (i + 1), ct := Pv (i + 1), bk := D.nx } σ2 H2) (hd : ∀ σ H, Pv x.cps.size σ H → D.nx σ H) :
    ∃ W : Nat → Nat → L2.St → Hp → Prop, (∃ m, W 0 m σ H) ∧ ∀ i m σ H, W i m σ H → ((Its x).stop i H ∧ D.nx σ H) ∨ ((Its x).go i H ∧ ∃ Nx : L2.St → Hp → Prop, (∀ σ' H', Nx σ' H' → ∃ m', m' < m ∧ W (i + 1) m' σ' H') ∧
      ∀ x' H', (Its x).yld i H x' H' → g x' σ H' fun σ2 H2 => tb { D with nx := Nx, ct := Nx, bk := D.nx } σ2 H2) := by
  refine ⟨fun i m σ H => m = x.cps.size - i ∧ i ≤ x.cps.size ∧ Pv i σ H, ⟨x.cps.size, by simp, Nat.zero_le _, h0⟩, ?_⟩
  rintro i m σ H ⟨rfl, hi, p⟩
  by_cases hlt : i < x.cps.size
  · refine .inr ⟨hlt, Pv (i + 1), fun σ' H' p' => ⟨x.cps.size - (i + 1), by omega, rfl, hlt, p'⟩, fun x' H' y => ?_⟩
    obtain ⟨e, c, hc, y⟩ := y
    subst e y
    exact hs i c _ _ hc p
  · have e : i = x.cps.size := by omega
    subst e
    exact .inl ⟨Nat.le_refl _, hd σ H p⟩

/-! ### kinds of things -/
inductive Kd (K : PySem.W.Frag) (H : Hp) : V → String → Prop
  | non : Kd K H .non "NoneType"
  | bl (b : Bool) : Kd K H (.bl b) "bool"
  | int (i : Int) : Kd K H (.int i) "int"
  | str (x : Str) : Kd K H (.str x) "str"
  | lst {a : Addr} (t : TyX K H (.ref a) (.type "list")) : Kd K H (.ref a) "list"
  | tup {a : Addr} (t : TyX K H (.ref a) (.type "tuple")) : Kd K H (.ref a) "tuple"
  | dic {a : Addr} (t : TyX K H (.ref a) (.type "dict")) : Kd K H (.ref a) "dict"
theorem Kd.ty {K : PySem.W.Frag} {H : Hp} {x : V} {n : String} (h : Kd K H x n) : TyX K H x (.type n) := by
  cases h with
  | non => exact .base .non
  | bl b => exact .base (.bl b)
  | int i => exact .base (.int i)
  | str x => exact .base (.str x)
  | lst t => exact t
  | tup t => exact t
  | dic t => exact t
theorem tyx_ex {K : PySem.W.Frag} {H H' : Hp} (e : Evl.Ex H H') {x : V} {t : Value} (h : TyX K H x t) : TyX K H' x t := by
  cases h with
  | base b =>
    refine .base ?_
    cases b with
    | non => exact .non
    | bl y => exact .bl y
    | int i => exact .int i
    | str y => exact .str y
    | flt y => exact .flt y
    | lst h => exact .lst (e _ _ h)
    | frz h => exact .frz (e _ _ h)
    | tup h => exact .tup (e _ _ h)
    | dK h => exact .dK (e _ _ h)
    | dT h => exact .dT (e _ _ h)
    | ins h cl ha hn htk hm => exact .ins (e _ _ h) cl ha hn htk hm
  | byt b => exact .byt b
  | set h => exact .set (e _ _ h)
  | kList h c => exact .kList h c
  | kTuple h c => exact .kTuple h c
  | kDict h c => exact .kDict h c
  | fTuple h => exact .fTuple (e _ _ h)
  | fDict h => exact .fDict (e _ _ h)
theorem Kd.ex {K : PySem.W.Frag} {H H' : Hp} (e : Evl.Ex H H') {x : V} {n : String} (h : Kd K H x n) : Kd K H' x n := by
  cases h with
  | non => exact .non
  | bl b => exact .bl b
  | int i => exact .int i
  | str x => exact .str x
  | lst t => exact .lst (tyx_ex e t)
  | tup t => exact .tup (tyx_ex e t)
  | dic t => exact .dic (tyx_ex e t)
def isW : V → Bool
  | .int _ => true
  | _ => false
def isB : V → Bool
  | .bl _ => true
  | _ => false
def isS : V → Bool
  | .str _ => true
  | _ => false
def isI (x : V) : Bool := isW x || isB x
theorem Kd.int? {K : PySem.W.Frag} {H : Hp} {x : V} {n : String} (h : Kd K H x n) : PySem.W.kitOne K (.type n) (.type "int") = some (isI x) := by
  cases h <;> first | exact kit_ty (r := true) (by decide +kernel) | exact kit_ty (r := false) (by decide +kernel)
theorem Kd.bool? {K : PySem.W.Frag} {H : Hp} {x : V} {n : String} (h : Kd K H x n) : PySem.W.kitOne K (.type n) (.type "bool") = some (isB x) := by
  cases h <;> first | exact kit_ty (r := true) (by decide +kernel) | exact kit_ty (r := false) (by decide +kernel)
theorem Kd.str? {K : PySem.W.Frag} {H : Hp} {x : V} {n : String} (h : Kd K H x n) : PySem.W.kitOne K (.type n) (.type "str") = some (isS x) := by
  cases h <;> first | exact kit_ty (r := true) (by decide +kernel) | exact kit_ty (r := false) (by decide +kernel)
section
variable {K : PySem.W.Frag} {H : Hp} {x : V} {n : String} {σ : L2.St} {i : Nat} {Q : VK}
theorem rd_int? (e : σ[i]? = some (some x)) (h : Kd K H x n) (q : Q (.bl (isI x)) H) : tCB (rIsi K) (tCons (tVar i) (tCons (tC (.ty "int")) tNil)) σ H Q := ⟨x, e, x, .ty "int", _, _, _, rfl, .ty _, h.ty, h.int?, q⟩
theorem rd_bool? (e : σ[i]? = some (some x)) (h : Kd K H x n) (q : Q (.bl (isB x)) H) : tCB (rIsi K) (tCons (tVar i) (tCons (tC (.ty "bool")) tNil)) σ H Q := ⟨x, e, x, .ty "bool", _, _, _, rfl, .ty _, h.ty, h.bool?, q⟩
theorem rd_str? (e : σ[i]? = some (some x)) (h : Kd K H x n) (q : Q (.bl (isS x)) H) : tCB (rIsi K) (tCons (tVar i) (tCons (tC (.ty "str")) tNil)) σ H Q := ⟨x, e, x, .ty "str", _, _, _, rfl, .ty _, h.ty, h.str?, q⟩
end

/-! ### data that is asked for == -/
abbrev Asc (z : Str) : Prop := ∀ c ∈ z.cps.toList, c < 128
theorem strOk_asc {z : Str} (h : Asc z) : PyData.strOk z = true := by
  unfold PyData.strOk
  rw [Array.all_eq_true_iff_forall_mem]
  intro c hc
  have := h c (Array.mem_toList_iff.mpr hc)
  simp only [decide_eq_true_eq]
  omega
theorem sh_strs : ∀ {zs : List Str}, (∀ z ∈ zs, Asc z) → PyData.canLayAll0 (zs.map PyData.str) = true
  | [], _ => rfl
  | z :: r, h => by
    show (PyData.canLay0 (.str z) && PyData.canLayAll0 (r.map PyData.str)) = true
    rw [show PyData.canLay0 (.str z) = PyData.strOk z from rfl, strOk_asc (h z List.mem_cons_self), sh_strs fun y hy => h y (List.mem_cons_of_mem _ hy)]
    rfl
theorem dp_strs : ∀ {zs : List Str}, PyData.depthAll (zs.map PyData.str) = 0
  | [] => rfl
  | z :: r => by
    show max (PyData.depth (.str z)) (PyData.depthAll (r.map PyData.str)) = 0
    rw [dp_strs]
    rfl
theorem shaped_strs {zs : List Str} (h : ∀ z ∈ zs, Asc z) : SeqAt.shaped (.list (zs.map PyData.str)) = true := by
  unfold SeqAt.shaped
  rw [show PyData.canLay0 (.list (zs.map PyData.str)) = PyData.canLayAll0 (zs.map PyData.str) from rfl, sh_strs h]
  rw [show PyData.depth (.list (zs.map PyData.str)) = PyData.depthAll (zs.map PyData.str) + 1 from rfl, dp_strs]
  rfl
theorem sh_ints : ∀ {ns : List Int}, PyData.canLayAll0 (ns.map PyData.int) = true
  | [] => rfl
  | n :: r => by
    show (PyData.canLay0 (.int n) && PyData.canLayAll0 (r.map PyData.int)) = true
    rw [sh_ints]
    rfl
theorem dp_ints : ∀ {ns : List Int}, PyData.depthAll (ns.map PyData.int) = 0
  | [] => rfl
  | z :: r => by
    show max (PyData.depth (.int z)) (PyData.depthAll (r.map PyData.int)) = 0
    rw [dp_ints]
    rfl
theorem shaped_ints {ns : List Int} : SeqAt.shaped (.list (ns.map PyData.int)) = true := by
  unfold SeqAt.shaped
  rw [show PyData.canLay0 (.list (ns.map PyData.int)) = PyData.canLayAll0 (ns.map PyData.int) from rfl, sh_ints]
  rw [show PyData.depth (.list (ns.map PyData.int)) = PyData.depthAll (ns.map PyData.int) + 1 from rfl, dp_ints]
  rfl
theorem shaped_nil : SeqAt.shaped (.list []) = true := rfl
theorem dpa_strs {K : PySem.W.Frag} {H : Hp} : ∀ {zs : List Str}, DpAll K H (zs.map V.str) (zs.map PyData.str)
  | [] => .nil
  | z :: r => .cons (.str z) dpa_strs
theorem dpa_ints {K : PySem.W.Frag} {H : Hp} : ∀ {ns : List Int}, DpAll K H (ns.map V.int) (ns.map PyData.int)
  | [] => .nil
  | z :: r => .cons (.int z) dpa_ints
theorem eqv_nil (ds : List PyData) : PyData.eqv (.list ds) (.list []) = ds.isEmpty := by
  cases ds <;> rfl
/-! ### a comprehension over a text, its element by itself -/
theorem lcS {z : Str} {g : TG} {tt : TT} {te : TE} {vs : List Nat} {σ : L2.St} {H : Hp} {Qd : Addr → Hp → Prop} (f : Nat → V) (p : Nat → Bool) (hz : z.cps.size ≤ 16000000)
    (turn : ∀ c H', c ∈ z.cps.toList → Ex H H' → ∀ (R : VK) (R0 : Hp → Prop), (p c = true → ∀ H4, Ex H' H4 → R (f c) H4) → (p c = false → ∀ H4, Ex H' H4 → R0 H4) →
      g (.str ⟨#[c]⟩) (wipe σ vs) H' fun σ2 H2 => wipe σ2 vs = wipe σ vs ∧ tt σ2 H2 fun b H3 => if b = true then te σ2 H3 R else R0 H3)
    (q : ∀ D H', H D = none → Ex H H' → H' D = some (.lst ((z.cps.toList.filter p).map f)) → Qd D H') : ∀ D, H D = none →
    ∃ W : Nat → Nat → Hp → Prop, (∃ m, W 0 m (upd H D (.lst []))) ∧ ∀ i m H, W i m H →
      ((Its z).stop i H ∧ Qd D H) ∨ ((Its z).go i H ∧ ∃ Nx : Hp → Prop, (∀ H', Nx H' → ∃ m', m' < m ∧ W (i + 1) m' H') ∧ ∀ x' H', (Its z).yld i H x' H' → g x' (wipe σ vs) H' fun σ2 H2 => wipe σ2 vs = wipe σ vs ∧ tt σ2 H2 fun b H3 =>
        if b = true then te σ2 H3 fun y H4 => ∃ acc, H4 D = some (.lst acc) ∧ acc.length < sizeLine ∧ Nx (upd H4 D (.lst (acc ++ [y]))) else Nx H3) := fun D hD => by
  have small : ∀ i, (((z.cps.toList.take i).filter p).map f).length < sizeLine := fun i => by
    rw [List.length_map]
    have h1 := List.length_filter_le p (z.cps.toList.take i)
    have h2 : (z.cps.toList.take i).length ≤ z.cps.toList.length := by rw [List.length_take]; omega
    have h3 : z.cps.toList.length = z.cps.size := Array.length_toList
    rw [sizeLine_eq]
    omega
  refine lc_str (x := z) (fun i H' => Ex H H' ∧ H' D = some (.lst (((z.cps.toList.take i).filter p).map f))) ⟨Evl.Ex.new hD, by rw [upd_same]; rfl⟩ ?_ ?_
  · rintro i c H' hc ⟨e, hl⟩
    have hcl : z.cps.toList[i]? = some c := by rw [Array.getElem?_toList]; exact hc
    have ht : z.cps.toList.take (i + 1) = z.cps.toList.take i ++ [c] := by rw [List.take_add_one, hcl]; rfl
    refine turn c H' (List.mem_of_getElem? hcl) e _ _ (fun hp H4 e4 => ?_) (fun hp H4 e4 => ?_)
    · refine ⟨_, e4 _ _ hl, small i, ?_, ?_⟩
      · exact (e.trans e4).mut hD
      · rw [upd_same, ht, List.filter_append, List.map_append, List.filter_cons_of_pos hp]
        rfl
    · refine ⟨e.trans e4, ?_⟩
      rw [e4 _ _ hl, ht, List.filter_append, List.filter_cons_of_neg (by simp [hp])]
      simp
  · rintro H' ⟨e, hl⟩
    have h3 : z.cps.toList.take z.cps.size = z.cps.toList := by rw [← Array.length_toList]; exact List.take_length
    rw [h3] at hl
    exact q D H' hD e hl
/-! ### a text some times -/
theorem rep_size (c : Array Nat) : ∀ (k : Nat) (acc : Array Nat), (List.foldl (fun x1 x2 => x1 ++ x2) acc (List.replicate k c)).size = acc.size + c.size * k
  | 0, acc => by simp
  | k + 1, acc => by
    rw [List.replicate_succ, List.foldl_cons, rep_size c k, Array.size_append, Nat.mul_succ]
    omega
def rRepS : R2 := fun x y H Q => ∃ (z : Str) (k : Int), x = .str z ∧ y = .int k ∧ 2 ≤ k ∧ 0 < z.length ∧ z.length * k.toNat ≤ 16000000 ∧ ∀ u : Str, u.length = z.length * k.toNat → u.cps = (List.replicate k.toNat z.cps).foldl (· ++ ·) #[] → Q (.str u) H
theorem op_repS {X : Cx} : OpR X (binaryOp .Mult) rRepS := by
  intro pins s σ H x y v u Q I rx ry h
  obtain ⟨z, k, rfl, rfl, h2, h0, hz, q⟩ := h
  obtain ⟨t, rfl⟩ := rx
  obtain ⟨t', rfl⟩ := ry
  have k1 : k.toNat ≤ z.length * k.toNat := Nat.le_mul_of_pos_left _ h0
  have z1 : z.length ≤ z.length * k.toNat := Nat.le_mul_of_pos_right _ (by omega)
  have zk : (z.length : Int) * k ≤ 16000000 := by
    have : ((z.length * k.toNat : Nat) : Int) ≤ ((16000000 : Nat) : Int) := Int.ofNat_le.mpr hz
    rw [Int.natCast_mul, Int.toNat_of_nonneg (by omega)] at this
    exact this
  refine PySem.P.mul_str ?_ ?_ ?_ ?_
  · rw [decide_eq_false (by omega), decide_eq_false (by omega)]
    rfl
  · intro _ _ hh
    have : (2 ^ 63 - 1) / k * k ≤ 2 ^ 63 - 1 := Int.ediv_mul_le _ (by omega)
    have h5 : ((z.length : Int) - 1) * k ≥ (2 ^ 63 - 1) / k * k := Int.mul_le_mul_of_nonneg_right (by omega) (by omega)
    have h6 : (2 ^ 63 - 1) < (2 ^ 63 - 1) / k * k + k := by
      have := Int.lt_ediv_add_one_mul_self (2 ^ 63 - 1) (show 0 < k by omega)
      rw [Int.add_mul] at this
      omega
    rw [Int.sub_mul] at h5
    omega
  · intro _ _
    unfold Builtin.Str.tooLong
    rw [sizeLine_eq]
    exact decide_eq_false (by omega)
  · rw [if_neg (by omega), if_neg (by
      have e1 : (k == 1) = false := beq_eq_false_iff_ne.mpr fun e => absurd (e ▸ h2 : (2 : Int) ≤ 1) (by decide)
      have e2 : (z.length == 0) = false := beq_eq_false_iff_ne.mpr (Nat.ne_of_gt h0)
      rw [e1, e2]
      exact Bool.false_ne_true)]
    refine ⟨?_, ?_⟩
    · have e := rep_size z.cps k.toNat #[]
      show (List.foldl (fun x1 x2 => x1 ++ x2) #[] (List.replicate k.toNat z.cps)).size ≤ sizeLine
      rw [e, sizeLine_eq]
      have : z.cps.size * k.toNat ≤ 16000000 := hz
      simp only [Array.size_empty]
      omega
    · exact ⟨.str _, H, I.tok _, ⟨_, rfl⟩, q _ (by
        have e := rep_size z.cps k.toNat #[]
        show (List.foldl (fun x1 x2 => x1 ++ x2) #[] (List.replicate k.toNat z.cps)).size = z.length * k.toNat
        rw [e]
        simp only [Array.size_empty, Nat.zero_add]
        rfl) rfl⟩
end Bs

set_option autoImplicit false
namespace Bs
open PySem PySem.Spec PyProof.Rows L2 PpSet
open Evl (Ex)

/-! ### {e for .. in .. if ..}, the members whole numbers -/
section
variable {X : Cx}
/-- one member more of the set at D -/
theorem add_int {pins : List (Addr × Obj)} {σ : L2.St} {H : Hp} {s : Shared} {E : Value → Shared → Prop} {D : Addr} {S : Int → Bool} {n : Nat} {k : Int} {tk : Tok} {Q : Value → Shared → Prop} (J : L2.Inv X pins σ H s) (at_ : H D = some (SetO X.w D S n)) (few : n + 1 < scanBound)
    (next : ∀ s', L2.Inv X pins σ (upd H D (SetO X.w D (fun j => S j || decide (j = k)) (if S k = true then n else n + 1))) s' → Q .none s') : wpAny (model X.prog X.w) X.A (call (.builtin "set.add") [.ref D, .int k tk]) Q E s := by
  refine setR_add (setO_get J at_) few fun h2 same made => ?_
  obtain ⟨ob, hob⟩ : ∃ ob, h2.get? D = some ob := by
    have ⟨ob, _, _, _, hob, _⟩ := made
    exact ⟨ob, hob⟩
  exact next _ (J.write (e := D) (t' := s.toks + 1) (by rw [at_]; trivial) (.inl rfl) (fun b u hb hu => (same.2 b hb).trans hu) ⟨ob, hob⟩ (setO_new made))
def tScI (w : World) (wi : TI) (g : TG) (tt : TT) (te : TE) (vs : List Nat) : TE := fun σ H Q => wi σ H fun J H1 => ∀ D, H1 D = none → ∃ W : Nat → Nat → Hp → Prop, (∃ m, W 0 m (upd H1 D (SetO w D (fun _ => false) 0))) ∧ ∀ i m H, W i m H →
  (J.stop i H ∧ Q (.ref D) H) ∨ (J.go i H ∧ ∃ Nx : Hp → Prop, (∀ H', Nx H' → ∃ m', m' < m ∧ W (i + 1) m' H') ∧ ∀ x H', J.yld i H x H' → g x (wipe σ vs) H' fun σ2 H2 => wipe σ2 vs = wipe σ vs ∧ tt σ2 H2 fun b H3 =>
    if b = true then te σ2 H3 fun y H4 => ∃ (k : Int) (S : Int → Bool) (n : Nat), y = .int k ∧ H4 D = some (SetO w D S n) ∧ n + 1 < scanBound ∧ Nx (upd H4 D (SetO w D (fun j => S j || decide (j = k)) (if S k = true then n else n + 1))) else Nx H3)
/-- the object that a set comprehension begins with -/
abbrev set0 (w : World) : Obj := { cls := .type "set", dict := none, data := .set #[] 0 (.fresh 0 0 (!w.params.followText "set-order")) }
theorem pe_scI {elt tg iter : Expr} {ifs : List Expr} {scope : Scope} {own : List (PySem.Str × Nat)} {pos : Pos} {wi : TI} {g : TG} {tt : TT} {te : TE} (calm : X.calm = true) (nd : X.N.Nodup) (pi : PI X tg iter wi) (blk : BlkOk X.N X.env.scope scope own)
    (pgs : ∀ (s : Shared) (H : Hp) (C : Addr) (cl : List (PySem.Str × Addr)) (fp : List Addr), PG (X.blk s H scope (compEnvC scope cl C X.env) fp) tg g)
    (pts : ∀ (s : Shared) (H : Hp) (C : Addr) (cl : List (PySem.Str × Addr)) (fp : List Addr), PTs (X.blk s H scope (compEnvC scope cl C X.env) fp) ifs tt)
    (pes : ∀ (s : Shared) (H : Hp) (C : Addr) (cl : List (PySem.Str × Addr)) (fp : List Addr), PE (X.blk s H scope (compEnvC scope cl C X.env) fp) elt te) (fold : ∀ x, foldedSetIterable iter X.env x = pure x := by intro _; rfl) :
    PE X (.SetComp elt [⟨tg, iter, ifs, 0⟩] scope pos) (tScI X.w wi g tt te (own.map (·.2))) := by
  refine ⟨fun pins s σ H Q I hyp => ?_⟩
  rw [eval_SetComp]
  have cellsOk : ∀ y ∈ scope.names, y.2 = .free → ∃ c, X.env.cells.lookup y.1 = some c := fun y my fy => (blk.free y my fy).elim (fun k => I.ok.has _ (.inl k)) fun k => I.ok.has _ (.inr k)
  refine wpAny_comprehension_free rfl fold (closure_ok cellsOk) blk.kind (fun y my fy => by rw [blk.uniq y my, fy]) (thn (pi.run pins s σ H _ I hyp) fun _ _ a1 => thn a1 fun _ sA a2 => ?_)
  obtain ⟨it, fp, tn, J, HA, rfl, IA, T, stA, frA, q⟩ := a2
  refine newSet_ok (newEnv_comp ?_)
  -- the new set stands at D
  obtain ⟨D, eD⟩ : ∃ D, sA.heap.objs.size = D := ⟨_, rfl⟩
  have free : HA D = none := IA.hok.fresh (Nat.le_of_eq eD)
  obtain ⟨W, ⟨m0, w0⟩, turn⟩ := q D free
  obtain ⟨sB, eB⟩ : ∃ sB : Shared, ({ sA with heap := sA.heap.push (set0 X.w) } : Shared) = sB := ⟨_, rfl⟩
  obtain ⟨HB, eHB⟩ : ∃ HB : Hp, upd HA D (SetO X.w D (fun _ => false) 0) = HB := ⟨_, rfl⟩
  have hpB : sB.heap = sA.heap.push (set0 X.w) := by rw [← eB]
  have IB : L2.Inv X pins σ HB sB := by
    rw [← eB, ← eHB]
    refine IA.laid (t' := sA.toks) (fun b o e => Heap.get?_push_of_some _ e) (Nat.le_of_eq eD) ?_
    rw [← eD]
    exact setO_new (setR_fresh X.w)
  have below : ∀ b ∈ fp, b < sA.heap.objs.size := fun b mb => (T.obj _ _ stA b mb).elim fun _ e => Heap.lt_size e.1
  have frB : ∀ b ∈ fp, FpOk X pins HB b ∧ b < sB.heap.objs.size := fun b mb => by
    refine ⟨⟨?_, (frA b mb).2⟩, by rw [hpB, Heap.size_push]; exact Nat.lt_succ_of_lt (below b mb)⟩
    rw [← eHB, upd_ne (by rw [← eD]; exact Nat.ne_of_lt (below b mb))]
    exact (frA b mb).1
  have stB : tn 0 sB.heap := T.keep _ _ _ stA fun _ _ _ e => by rw [hpB]; exact Heap.get?_push_of_some _ e
  have IC := block_start IB blk nd frB
  -- the block's own frame
  obtain ⟨cells, ecl⟩ : ∃ cells, cellsFrom (sB.heap.objs.size + 1) scope.names (cloFrom X.env.cells scope.names []) = cells := ⟨_, rfl⟩
  obtain ⟨ce, ece⟩ : ∃ ce, compEnvC scope cells sB.heap.objs.size X.env = ce := ⟨_, rfl⟩
  obtain ⟨sC, eC⟩ : ∃ sC : Shared, ({ sB with heap := pushCells (sB.heap.push { cls := .type "dict", data := .dict #[] }) scope.names } : Shared) = sC := ⟨_, rfl⟩
  have pg := pgs sB HB sB.heap.objs.size cells fp
  have pt := pts sB HB sB.heap.objs.size cells fp
  have pe := pes sB HB sB.heap.objs.size cells fp
  rw [ecl, ece, eC] at IC
  rw [ece] at pg pt pe
  have lo : ce.locals = sB.heap.objs.size := by rw [← ece]; rfl
  have none_ : ∀ b ∈ fp, HB b = none := fun b mb => (frB b mb).1.1
  have stC : tn 0 sC.heap := T.keep _ _ _ stB fun _ _ _ e => by rw [← eC]; exact pushCells_keeps _ _ _ _ (Heap.get?_push_of_some _ e)
  have pinned_ : ∀ {τ : L2.St} {H1 : Hp} {s1 : Shared}, L2.Inv (X.blk sB HB scope ce fp) [] τ H1 s1 → (∀ b ∈ fp, H1 b = none) → ∀ b ∈ fp, FpOk (X.blk sB HB scope ce fp) [] H1 b := fun {τ H1 s1} J1 hn b mb => by
    exact ⟨hn b mb, (J1.ok.exf b mb).1, J1.ok.exfs b mb, .inl mb, fun x c e => (J1.ok.exf b mb).2 x c e, fun p hp => nomatch (show p ∈ ([] : List (Addr × Obj)) from by simpa using hp)⟩
  rw [eB, eD, ecl]
  show codeAny _ _ (.compStart (.SetComp elt [⟨tg, iter, ifs, 0⟩] scope pos) 0 (.ref it) (.ref D) (compEnvC scope cells sB.heap.objs.size X.env)) _ { sB with heap := pushCells (sB.heap.push { cls := .type "dict", data := .dict #[] }) scope.names }
  rw [ece, eC]
  have loop : codeAny (model X.prog X.w) X.A (.compLoop (.SetComp elt [⟨tg, iter, ifs, 0⟩] scope pos) 0 (.ref it) (.ref D) ce) (compPost (model X.prog X.w) X.A X.xe none (EP X pins σ Q) (.ref D) sB.heap.objs.size) sC := by
    refine compLoopS_any (fun n t => ∃ i H1, L2.Inv (X.blk sB HB scope ce fp) [] (wipe σ (own.map (·.2))) H1 t ∧ tn i t.heap ∧ (∀ b ∈ fp, H1 b = none) ∧ W i n H1) ?_ m0 ⟨0, HB, IC, stC, none_, by rw [← eHB]; exact w0⟩
    rintro n t5 ⟨i, H5, I5, st5, n5, w5⟩
    rcases turn i n H5 w5 with ⟨stop, fin_⟩ | ⟨go, Nx, back, step⟩
    · refine thnF (T.done (X.blk sB HB scope ce fp) rfl rfl rfl calm i [] t5 _ H5 (fun _ _ => False) I5 (pinned_ I5 n5) st5 stop) fun r t6 ⟨er, I6⟩ => ?_
      subst er
      have I7 : L2.Inv X pins σ H5 t6 := IB.call' (ch := fp) I6.os I6.base I6.hok I6.bare fun b mb => ⟨(frB b mb).1.2.2.2.1, (frB b mb).1.2.1, (frB b mb).1.2.2.2.2.1, (frB b mb).1.2.2.2.2.2⟩
      have fl : H5 sB.heap.objs.size = none := lo ▸ (show H5 ce.locals = none from I6.free)
      obtain ⟨m, hm, _⟩ := I6.loc
      have hm' : t6.heap.Ns sB.heap.objs.size m := lo ▸ (show t6.heap.Ns ce.locals m from hm)
      refine ⟨m, hm', fun h'' sb => ?_⟩
      obtain ⟨f0, f1, f2, f3, f4, f5⟩ := IB.fpOk (Nat.le_refl _) fl
      exact ⟨.ref D, H5, I7.turned (t' := t6.toks) (fun b o hb e => (sb.2 b hb).trans e) f0 f1 f3 f4 f5, rfl, fin_⟩
    · refine thnF (T.item (X.blk sB HB scope ce fp) rfl rfl rfl calm i [] t5 _ H5 (fun _ _ => False) I5 (pinned_ I5 n5) st5 go) fun r t6 ⟨u, er, h6⟩ => ?_
      subst er
      refine thnF h6 fun _ t7 ⟨x, H7, I7, r7, y7, st7, n7⟩ => ?_
      refine thnF (pg.run _ t7 _ H7 x u _ (I7.pinned (pinned_ I7 n7) (T.obj _ _ st7)) r7 (step x H7 y7)) fun _ t8 ⟨τ, H8, I8, ew, q8⟩ => ?_
      refine thnF (pt.run _ t8 τ H8 _ I8 q8) fun b t9 ⟨H9, I9, q9⟩ => ?_
      have again : ∀ {t : Shared} {H1 : Hp}, L2.Inv (X.blk sB HB scope ce fp) ([] ++ pinsAt fp t7.heap) τ H1 t → Nx H1 → ∃ m, m < n ∧ ∃ i H1, L2.Inv (X.blk sB HB scope ce fp) [] (wipe σ (own.map (·.2))) H1 t ∧ tn i t.heap ∧ (∀ b ∈ fp, H1 b = none) ∧ W i m H1 := fun {t H1} J1 nx => by
        obtain ⟨m', lt, w'⟩ := back H1 nx
        have held : ∀ b ∈ fp, ∀ o, t7.heap.get? b = some o → t.heap.get? b = some o ∧ H1 b = none := fun b mb o e => by
          have z := J1.pin (b, o) (List.mem_append_right _ (List.mem_append_right _ (mem_pinsAt mb e)))
          exact ⟨z.1, z.2.1⟩
        refine ⟨m', lt, i + 1, H1, (J1.unpinned (pins := [])).weak (by rw [← ew, wipe_length]) (fun j v e => (wipe_some (by rw [ew]; exact e)).1), T.keep _ _ _ st7 fun b mb o e => (held b mb o e).1, fun b mb => ?_, w'⟩
        obtain ⟨o, e, _⟩ := T.obj _ _ st7 b mb
        exact (held b mb o e).2
      cases b with
      | false =>
        simp only [Bool.false_eq_true, if_false] at q9 ⊢
        exact again I9 q9
      | true =>
        simp only [if_true] at q9 ⊢
        refine thnF (pe.run _ t9 τ H9 _ I9 q9) fun z t10 ⟨_, H10, I10, r10, k, S0, n0, ek, at10, few, nx⟩ => ?_
        subst ek
        obtain ⟨tk, rfl⟩ := r10
        exact add_int (X := X.blk sB HB scope ce fp) I10 at10 few fun t11 I11 => again I11 nx
  exact codeAny_compStart_set loop (T.self X.A 0 _ _ _ stC loop)
end
end Bs

namespace Bs
open PySem PySem.Spec PyProof.Rows L2
open Evl (Ex)
/-! ### rules by the written part -/
section
variable {X : Cx} {K : PySem.W.Frag}
theorem ixL (h : X.K = K := by rfl) : IxR X (rIxL K) := h ▸ ix_list
theorem ixT (h : X.K = K := by rfl) : IxR X (rIxT K) := h ▸ ix_tup
theorem eqDK (hu : X.A.units + 64 < cLine) (h : X.K = K := by rfl) : OpR X (compareOp .Eq) (rEqD K) := h ▸ op_eqD hu
theorem neDK (hu : X.A.units + 64 < cLine) (h : X.K = K := by rfl) : OpR X (compareOp .NotEq) (rNeD K) := h ▸ op_neD hu
theorem inSK (h : X.K = K := by rfl) : OpR X (compareOp .In) (rIn K false) := h ▸ op_in_seq
theorem niSK (h : X.K = K := by rfl) : OpR X (compareOp .NotIn) (rIn K true) := h ▸ op_notIn_seq
theorem slTK (h : X.K = K := by rfl) : SlR X (rSlT K) := h ▸ sl_tup
theorem slLK (h : X.K = K := by rfl) : SlR X (rSlL K) := h ▸ sl_list
theorem piTK {tg l : Expr} {tl : TE} (hl : PE X l tl) (h : X.K = K := by rfl) : PI X tg l (iTup K tl) := h ▸ pi_tup hl
theorem piLK {tg l : Expr} {tl : TE} (hl : PE X l tl) (h : X.K = K := by rfl) : PI X tg l (iList K tl) := h ▸ pi_list hl
theorem isiK (h : X.K = K := by rfl) : CallR X (.builtin "isinstance") (rIsi K) := h ▸ call_isi
theorem pgTK {es : List Expr} {k : Nat} {pos : Pos} {t : TGs} {n : Nat} (hc : X.calm = true) (h : PGs X es t) (hn : (assignEach es X.env).length = n := by rfl) (hst : (assignEach es X.env).findIdx? (·.1) = none := by rfl) (hK : X.K = K := by rfl) : PG X (.Tuple es k pos) (gTup K n t) := hK ▸ pg_tup hc h hn hst
def rLenK (K : PySem.W.Frag) : List V → Hp → VK → Prop := fun xs H Q => ∃ p ys, xs = [.ref p] ∧ (SqL K H p ys ∨ SqT K H p ys) ∧ Q (.int ys.length) H
theorem lenK (h : X.K = K := by rfl) : CallR X (.builtin "len") (rLenK K) := h ▸ call_len_seq
end
/-! ### data all of tuples -/
mutual
inductive TD (H : Hp) : V → PyData → Prop
  | non : TD H .non .none
  | bl (b : Bool) : TD H (.bl b) (.bool b)
  | int (i : Int) : TD H (.int i) (.int i)
  | str (x : Str) : TD H (.str x) (.str x)
  | tup {a : Addr} {xs : List V} {ds : List PyData} : H a = some (.tup xs) → TDs H xs ds → TD H (.ref a) (.tuple ds)
  | frz {a : Addr} {o : Obj} {xs : List V} {ds : List PyData} : o.dict = none → H a = some (.frz o (.tup xs)) → TDs H xs ds → TD H (.ref a) (.dict [(.tuple ds, .none)])
inductive TDs (H : Hp) : List V → List PyData → Prop
  | nil : TDs H [] []
  | cons {v : V} {vs : List V} {d : PyData} {ds : List PyData} : TD H v d → TDs H vs ds → TDs H (v :: vs) (d :: ds)
end
inductive TupY : HO → Prop
  | tup (xs : List V) : TupY (.tup xs)
  | frz (o : Obj) (xs : List V) : TupY (.frz o (.tup xs))
/-- all tuples stand, those that are known by their object too -/
structure Tp (H H' : Hp) : Prop where
  tup : ∀ b xs, H b = some (.tup xs) → H' b = some (.tup xs)
  frz : ∀ b o xs, H b = some (.frz o (.tup xs)) → H' b = some (.frz o (.tup xs))
instance (H H' : Hp) : CoeFun (Tp H H') (fun _ => ∀ b xs, H b = some (.tup xs) → H' b = some (.tup xs)) := ⟨Tp.tup⟩
theorem Tp.of {H H' : Hp} (f : ∀ b u, TupY u → H b = some u → H' b = some u) : Tp H H' := ⟨fun b xs h => f b _ (.tup xs) h, fun b o xs h => f b _ (.frz o xs) h⟩
theorem Tp.off {H H' : Hp} {p : Addr} {o : HO} (hp : H p = some o) (no : ∀ u, TupY u → u ≠ o) (f : ∀ x u, x ≠ p → H x = some u → H' x = some u) : Tp H H' := .of fun x u t h => f x u (fun e => by
  rw [e, hp] at h
  exact no u t (Option.some.inj h).symm) h
theorem TupY.noL {ys : List V} : ∀ u, TupY u → u ≠ .lst ys := fun u t e => by
  rw [e] at t
  cases t
theorem TupY.noT {ys : List (List Key × V)} : ∀ u, TupY u → u ≠ .dT ys := fun u t e => by
  rw [e] at t
  cases t
theorem TupY.noK {ys : List (Key × V)} : ∀ u, TupY u → u ≠ .dK ys := fun u t e => by
  rw [e] at t
  cases t
theorem TupY.noFT {o : Obj} {ys : List (List Key × V)} : ∀ u, TupY u → u ≠ .frz o (.dT ys) := fun u t e => by
  rw [e] at t
  cases t
theorem Tp.refl (H : Hp) : Tp H H := .of fun _ _ _ h => h
theorem Tp.trans {H H1 H2 : Hp} (a : Tp H H1) (b : Tp H1 H2) : Tp H H2 := ⟨fun x o h => b.tup x o (a.tup x o h), fun x o xs h => b.frz x o xs (a.frz x o xs h)⟩
theorem Tp.ex {H H1 : Hp} (a : Ex H H1) : Tp H H1 := .of fun x o _ h => a x _ h
theorem Tp.upd {H : Hp} {p : Addr} {xs : List V} {o : HO} (h : H p = some (.lst xs)) : Tp H (upd H p o) := .off h TupY.noL fun b u n e => by
  rw [upd_ne n]
  exact e
mutual
theorem TD.tp {H H' : Hp} (e : Tp H H') : ∀ {v : V} {d : PyData}, TD H v d → TD H' v d
  | _, _, .non => .non
  | _, _, .bl b => .bl b
  | _, _, .int i => .int i
  | _, _, .str x => .str x
  | _, _, .tup h hs => .tup (e _ _ h) (TDs.tp e hs)
  | _, _, .frz z h hs => .frz z (e.frz _ _ _ h) (TDs.tp e hs)
theorem TDs.tp {H H' : Hp} (e : Tp H H') : ∀ {v : List V} {d : List PyData}, TDs H v d → TDs H' v d
  | _, _, .nil => .nil
  | _, _, .cons h hs => .cons (TD.tp e h) (TDs.tp e hs)
end
mutual
theorem TD.dp {K : PySem.W.Frag} {H : Hp} : ∀ {v : V} {d : PyData}, PyData.canLay0 d = true → TD H v d → Dp K H v d
  | _, _, _, .non => .non
  | _, _, _, .bl b => .bl b
  | _, _, _, .int i => .int i
  | _, _, _, .str x => .str x
  | _, _, c, .tup h hs => .tup (SqT.of h) (TDs.dp c hs)
  | _, _, c, .frz _ _ _ => nomatch c
theorem TDs.dp {K : PySem.W.Frag} {H : Hp} : ∀ {v : List V} {d : List PyData}, PyData.canLayAll0 d = true → TDs H v d → DpAll K H v d
  | _, _, _, .nil => .nil
  | _, _, c, .cons h hs => .cons (TD.dp ((Bool.and_eq_true _ _).mp c).1 h) (TDs.dp ((Bool.and_eq_true _ _).mp c).2 hs)
end
theorem TDs.len {H : Hp} : ∀ {xs : List V} {ds : List PyData}, TDs H xs ds → xs.length = ds.length
  | _, _, .nil => rfl
  | _, _, .cons _ h => by
    rw [List.length_cons, List.length_cons, TDs.len h]
theorem TDs.get {H : Hp} : ∀ {xs : List V} {ds : List PyData} {i : Nat} {d : PyData}, TDs H xs ds → ds[i]? = some d → ∃ v, xs[i]? = some v ∧ TD H v d
  | _, _, _, _, .nil, e => by simp at e
  | _, _, 0, _, .cons h _, e => ⟨_, rfl, by
    have := Option.some.inj e
    subst this
    exact h⟩
  | _, _, i + 1, d, .cons _ h, e => TDs.get (i := i) h e
theorem TDs.get' {H : Hp} : ∀ {xs : List V} {ds : List PyData} {i : Nat} {v : V}, TDs H xs ds → xs[i]? = some v → ∃ d, ds[i]? = some d ∧ TD H v d
  | _, _, _, _, .nil, e => by simp at e
  | _, _, 0, _, .cons h _, e => ⟨_, rfl, by
    have := Option.some.inj e
    subst this
    exact h⟩
  | _, _, i + 1, d, .cons _ h, e => TDs.get' (i := i) h e
theorem TD.tupI {H : Hp} {v : V} {ds : List PyData} (h : TD H v (.tuple ds)) : ∃ a xs, v = .ref a ∧ H a = some (.tup xs) ∧ TDs H xs ds := by
  cases h with
  | tup h hs => exact ⟨_, _, rfl, h, hs⟩
theorem TD.intI {H : Hp} {v : V} {i : Int} (h : TD H v (.int i)) : v = .int i := by
  cases h
  rfl
theorem TD.strI {H : Hp} {v : V} {i : Str} (h : TD H v (.str i)) : v = .str i := by
  cases h
  rfl
theorem TD.noneI {H : Hp} {v : V} (h : TD H v .none) : v = .non := by
  cases h
  rfl
theorem TDs.append {H : Hp} : ∀ {xs ys : List V} {ds es : List PyData}, TDs H xs ds → TDs H ys es → TDs H (xs ++ ys) (ds ++ es)
  | _, _, _, _, .nil, s => s
  | _, _, _, _, .cons r t, s => .cons r (TDs.append t s)
theorem TDs.strs {H : Hp} : ∀ (zs : List Str), TDs H (zs.map V.str) (zs.map PyData.str)
  | [] => .nil
  | z :: r => .cons (.str z) (TDs.strs r)
/-- rows that stand in a list of values, each a datum -/
def RowsAt {β : Type} (D : β → PyData) (H : Hp) (xs : List V) (rows : List β) : Prop := TDs H xs (rows.map D)
theorem RowsAt.get {β : Type} {D : β → PyData} {H : Hp} {xs : List V} {rows : List β} (h : RowsAt D H xs rows) {i : Nat} {v : V} (e : xs[i]? = some v) : ∃ b, rows[i]? = some b ∧ TD H v (D b) := by
  obtain ⟨d, h1, h2⟩ := TDs.get' h e
  rw [List.getElem?_map] at h1
  cases hb : rows[i]? with
  | none =>
    rw [hb] at h1
    cases h1
  | some b =>
    rw [hb] at h1
    have := Option.some.inj h1
    subst this
    exact ⟨b, rfl, h2⟩
theorem RowsAt.len {β : Type} {D : β → PyData} {H : Hp} {xs : List V} {rows : List β} (h : RowsAt D H xs rows) : xs.length = rows.length := by
  have := TDs.len h
  rw [List.length_map] at this
  exact this
theorem RowsAt.tp {β : Type} {D : β → PyData} {H H' : Hp} {xs : List V} {rows : List β} (e : Tp H H') (h : RowsAt D H xs rows) : RowsAt D H' xs rows := TDs.tp e h
/-! ### comprehensions over rows, all that stood standing -/
section
variable {K : PySem.W.Frag} {w : World} {β : Type} {D' : β → PyData} {a : Addr} {xs : List V} {rows : List β} {g : TG} {tt : TT} {te : TE} {vs : List Nat} {σ : L2.St} {H : Hp}
theorem take_snoc {α : Type} {l : List α} {i : Nat} {b : α} (h : l[i]? = some b) : l.take (i + 1) = l.take i ++ [b] := by
  rw [List.take_add_one, h]
  rfl
/-- {e for row in a tuple if ..} -/
theorem scT {Qd : Addr → Hp → Prop} (p : β → Bool) (f : β → Int) (hx : SqT K H a xs) (hr : RowsAt D' H xs rows) (small : rows.length ≤ 1000)
    (turn : ∀ b v H', b ∈ rows → TD H' v (D' b) → Ex H H' → ∀ (R : VK) (R0 : Hp → Prop), (p b = true → ∀ H4, Ex H' H4 → R (.int (f b)) H4) → (p b = false → ∀ H4, Ex H' H4 → R0 H4) →
      g v (wipe σ vs) H' fun σ2 H2 => wipe σ2 vs = wipe σ vs ∧ tt σ2 H2 fun c H3 => if c = true then te σ2 H3 R else R0 H3)
    (q : ∀ D H' S n, H D = none → Ex H H' → H' D = some (SetO w D S n) → (∀ k : Int, S k = true ↔ ∃ b ∈ rows, p b = true ∧ f b = k) → n ≤ rows.length → Qd D H') : ∀ D, H D = none →
    ∃ W : Nat → Nat → Hp → Prop, (∃ m, W 0 m (upd H D (SetO w D (fun _ => false) 0))) ∧ ∀ i m H, W i m H →
      ((Itt K a).stop i H ∧ Qd D H) ∨ ((Itt K a).go i H ∧ ∃ Nx : Hp → Prop, (∀ H', Nx H' → ∃ m', m' < m ∧ W (i + 1) m' H') ∧ ∀ x H', (Itt K a).yld i H x H' → g x (wipe σ vs) H' fun σ2 H2 => wipe σ2 vs = wipe σ vs ∧ tt σ2 H2 fun b H3 =>
        if b = true then te σ2 H3 fun y H4 => ∃ (k : Int) (S : Int → Bool) (n : Nat), y = .int k ∧ H4 D = some (SetO w D S n) ∧ n + 1 < scanBound ∧ Nx (upd H4 D (SetO w D (fun j => S j || decide (j = k)) (if S k = true then n else n + 1))) else Nx H3) := fun D hD => by
  have sb : (2000 : Nat) < scanBound := by decide
  refine ⟨fun i m H1 => m = xs.length - i ∧ i ≤ xs.length ∧ Ex H H1 ∧ ∃ S n, H1 D = some (SetO w D S n) ∧ (∀ k : Int, S k = true ↔ ∃ b ∈ rows.take i, p b = true ∧ f b = k) ∧ n ≤ i, ⟨xs.length, by simp, Nat.zero_le _, Ex.new hD, _, 0, upd_same, fun k => by simp, Nat.le_refl _⟩, ?_⟩
  rintro i m H1 ⟨rfl, hi, e, S, n, hS, hk, hn⟩
  have hx1 : SqT K H1 a xs := Evl.ex_t e hx
  by_cases hlt : i < xs.length
  · refine .inr ⟨⟨xs, xs[i], hx1, by simp [hlt]⟩, fun H2 => Ex H H2 ∧ ∃ S n, H2 D = some (SetO w D S n) ∧ (∀ k : Int, S k = true ↔ ∃ b ∈ rows.take (i + 1), p b = true ∧ f b = k) ∧ n ≤ i + 1, fun H2 h2 => ⟨xs.length - (i + 1), by omega, rfl, hlt, h2⟩, fun x H' y => ?_⟩
    obtain ⟨e1, y⟩ := y
    subst e1
    have ex := y xs hx1
    obtain ⟨b, hb, ht⟩ := hr.get ex
    refine turn b x _ (List.mem_of_getElem? hb) (TD.tp (Tp.ex e) ht) e _ _ (fun hp H4 e4 => ?_) (fun hp H4 e4 => ?_)
    · refine ⟨f b, S, n, rfl, e4 _ _ hS, by rw [hr.len] at hlt; omega, (e.trans e4).mut hD, _, _, upd_same, fun k => ?_, by split <;> omega⟩
      rw [take_snoc hb, Bool.or_eq_true, hk k, decide_eq_true_iff]
      constructor
      · rintro (⟨c, hc, h1, h2⟩ | h)
        · exact ⟨c, List.mem_append_left _ hc, h1, h2⟩
        · exact ⟨b, List.mem_append_right _ (List.mem_singleton.mpr rfl), hp, h.symm⟩
      · rintro ⟨c, hc, h1, h2⟩
        rcases List.mem_append.mp hc with hc | hc
        · exact .inl ⟨c, hc, h1, h2⟩
        · rw [List.mem_singleton.mp hc] at h2
          exact .inr h2.symm
    · refine ⟨e.trans e4, S, n, e4 _ _ hS, fun k => ?_, Nat.le_succ_of_le hn⟩
      rw [take_snoc hb, hk k]
      constructor
      · rintro ⟨c, hc, h1, h2⟩
        exact ⟨c, List.mem_append_left _ hc, h1, h2⟩
      · rintro ⟨c, hc, h1, h2⟩
        rcases List.mem_append.mp hc with hc | hc
        · exact ⟨c, hc, h1, h2⟩
        · rw [List.mem_singleton.mp hc, hp] at h1
          cases h1
  · have e1 : i = xs.length := by omega
    subst e1
    refine .inl ⟨⟨xs, hx1, Nat.le_refl _⟩, q D H1 S n hD e hS (fun k => ?_) (by rw [hr.len] at hn; exact hn)⟩
    rw [hk k, hr.len, List.take_length]
/-- [e for row in a tuple if ..], its items made without another thing's change -/
theorem lcT {Qd : Addr → Hp → Prop} (p : β → Bool) (f : β → V) (hx : SqT K H a xs) (hr : RowsAt D' H xs rows) (small : rows.length ≤ 10000)
    (turn : ∀ b v H', b ∈ rows → TD H' v (D' b) → Ex H H' → ∀ (R : VK) (R0 : Hp → Prop), (p b = true → ∀ H4, Ex H' H4 → R (f b) H4) → (p b = false → ∀ H4, Ex H' H4 → R0 H4) →
      g v (wipe σ vs) H' fun σ2 H2 => wipe σ2 vs = wipe σ vs ∧ tt σ2 H2 fun c H3 => if c = true then te σ2 H3 R else R0 H3)
    (q : ∀ D H', H D = none → Ex H H' → H' D = some (.lst ((rows.filter p).map f)) → Qd D H') : ∀ D, H D = none →
    ∃ W : Nat → Nat → Hp → Prop, (∃ m, W 0 m (upd H D (.lst []))) ∧ ∀ i m H, W i m H →
      ((Itt K a).stop i H ∧ Qd D H) ∨ ((Itt K a).go i H ∧ ∃ Nx : Hp → Prop, (∀ H', Nx H' → ∃ m', m' < m ∧ W (i + 1) m' H') ∧ ∀ x H', (Itt K a).yld i H x H' → g x (wipe σ vs) H' fun σ2 H2 => wipe σ2 vs = wipe σ vs ∧ tt σ2 H2 fun b H3 =>
        if b = true then te σ2 H3 fun y H4 => ∃ acc, H4 D = some (.lst acc) ∧ acc.length < sizeLine ∧ Nx (upd H4 D (.lst (acc ++ [y]))) else Nx H3) := fun D hD => by
  have len : ∀ i, (((rows.take i).filter p).map f).length < sizeLine := fun i => by
    rw [List.length_map]
    have h1 := List.length_filter_le p (rows.take i)
    have h2 : (rows.take i).length ≤ rows.length := by rw [List.length_take]; omega
    rw [sizeLine_eq]
    omega
  refine lc_tup (K := K) (a := a) (xs := xs) (fun i H' => Ex H H' ∧ H' D = some (.lst (((rows.take i).filter p).map f))) ⟨Ex.new hD, by rw [upd_same]; rfl⟩ (fun i H' _ h => Evl.ex_t h.1 hx) ?_ ?_
  · rintro i x H' ex ⟨e, hl⟩
    obtain ⟨b, hb, ht⟩ := hr.get ex
    refine turn b x _ (List.mem_of_getElem? hb) (TD.tp (Tp.ex e) ht) e _ _ (fun hp H4 e4 => ?_) (fun hp H4 e4 => ?_)
    · refine ⟨_, e4 _ _ hl, len i, (e.trans e4).mut hD, ?_⟩
      rw [upd_same, take_snoc hb, List.filter_append, List.map_append, List.filter_cons_of_pos hp]
      rfl
    · refine ⟨e.trans e4, ?_⟩
      rw [e4 _ _ hl, take_snoc hb, List.filter_append, List.filter_cons_of_neg (by simp [hp])]
      simp
  · rintro H' ⟨e, hl⟩
    rw [hr.len, List.take_length] at hl
    exact q D H' hD e hl
end
/-! ### a text that tells a thing -/
def okInt : PyData → Prop
  | .int i => i.natAbs.log2 < 1920
  | .bool _ => False
  | .str _ => False
  | _ => True
def rReprD (K : PySem.W.Frag) : List V → Hp → VK → Prop := fun xs H Q => ∃ x d, xs = [x] ∧ Dp K H x d ∧ okInt d ∧ d.showable = true ∧ d.hasDict = false ∧ d.depth ≤ 50 ∧ d.shown.length ≤ sizeLine ∧ Q (.str d.shown) H
theorem call_reprD {X : Cx} (hg : X.A.guards = some []) (hu : X.A.units + 64 < cLine) : CallR X (.builtin "repr") (rReprD X.K) := by
  intro pins s σ H xs us Q I r h
  obtain ⟨x, d, rfl, hd, h0, h1, h2, h3, h4, q⟩ := h
  obtain ⟨u, rfl, r1⟩ := vals1 r
  have far : ∀ a, x = .ref a → wpAny (model X.prog X.w) X.A (call (.builtin "repr") [u]) (EP X pins σ Q) X.xe s := fun a ea => by
    subst ea
    obtain rfl : u = Value.ref a := r1
    obtain ⟨as, rd⟩ := Dp.reads I d _ _ hd (show L2.RelV (.ref a) (.ref a) from rfl)
    refine repr_of_reads' (h₀ := s.heap) rd h1 (fun z => by rw [h2] at z; cases z) hg (by omega) (fun _ _ e => e) (fun h' v tk kept => ?_) h4
    exact ⟨.str d.shown, H, I.call' (ch := []) rfl (Un.kept kept) (I.hok.kept kept) I.bare (fun _ z => nomatch z), ⟨_, rfl⟩, q⟩
  cases hd with
  | non =>
    obtain rfl : u = Value.none := r1
    exact PySem.P.repr_of_none ⟨.str _, H, I.tok _, ⟨_, rfl⟩, q⟩
  | int i =>
    obtain ⟨t, rfl⟩ := r1
    exact PySem.P.repr_of_int h0 ⟨.str _, H, I.tok _, ⟨_, rfl⟩, q⟩
  | bl b => exact h0.elim
  | str z => exact h0.elim
  | lst _ _ => exact far _ rfl
  | tup _ _ => exact far _ rfl
/-! rows of small numbers, shown -/
theorem shown_le {xs : List PyData} {B : Nat} (h : ∀ x ∈ xs, x.shown.length ≤ B) : (PyData.list xs).shown.length ≤ 2 + xs.length * (B + 2) := by
  have lb : ∀ {ys : List PyData}, (∀ x ∈ ys, x.shown.length ≤ B) → ((PyData.shownAll ys).map (·.length)).sum ≤ ys.length * B := by
    intro ys
    induction ys with
    | nil =>
      intro _
      exact Nat.zero_le _
    | cons y r ih =>
      intro hy
      have h1 := ih fun x hx => hy x (List.mem_cons_of_mem _ hx)
      have h2 := hy y List.mem_cons_self
      rw [PyData.shownAll_cons, List.map_cons, List.sum_cons, List.length_cons, Nat.succ_mul]
      omega
  have ap : ∀ x y : Str, (x ++ y).length = x.length + y.length := fun x y => by
    show (x.cps ++ y.cps).size = _
    rw [Array.size_append]
    rfl
  have l1 : Str.length ("[" : Str) = 1 := by decide +kernel
  have l2 : Str.length ("]" : Str) = 1 := by decide +kernel
  have l3 : Str.length (", " : Str) = 2 := by decide +kernel
  have j := StrLaws.join_length_le ", " (PyData.shownAll xs)
  rw [l3, PyData.shownAll_length] at j
  have s1 := lb h
  rw [PyData.shown_list, ap, ap, l1, l2, Nat.mul_add]
  omega
/-- rows of rows of numbers -/
def nest (ls : List (List Int)) : PyData := .list (ls.map fun l => .list (l.map .int))
def Few (ls : List (List Int)) : Prop := ls.length ≤ 40 ∧ ∀ l ∈ ls, l.length ≤ 40 ∧ ∀ n ∈ l, 0 ≤ n ∧ n < 130
theorem num_short {n : Int} (h0 : 0 ≤ n) (h1 : n < 130) : (PyData.int n).shown.length ≤ 3 := by
  obtain ⟨k, rfl⟩ : ∃ k : Nat, n = (k : Int) := ⟨_, (Int.toNat_of_nonneg h0).symm⟩
  have all : ∀ k : Fin 130, (PyData.int ((k.val : Nat) : Int)).shown.length ≤ 3 := by decide +kernel
  exact all ⟨k, by omega⟩
theorem num_log {n : Int} (h0 : 0 ≤ n) (h1 : n < 130) : n.natAbs.log2 < 1920 := Nat.lt_of_le_of_lt (Nat.log2_le_self _) (by omega)
theorem nest_show {ls : List (List Int)} (h : Few ls) : (nest ls).shown.length ≤ sizeLine := by
  have i : ∀ x ∈ (ls.map fun l => PyData.list (l.map .int)), x.shown.length ≤ 300 := fun x hx => by
    obtain ⟨l, hl, rfl⟩ := List.mem_map.mp hx
    obtain ⟨h1, h2⟩ := h.2 l hl
    have := shown_le (xs := l.map .int) (B := 3) fun y hy => by
      obtain ⟨n, hn, rfl⟩ := List.mem_map.mp hy
      exact num_short (h2 n hn).1 (h2 n hn).2
    rw [List.length_map] at this
    omega
  have := shown_le i
  rw [List.length_map] at this
  have h1 := h.1
  rw [sizeLine_eq]
  unfold nest
  have : ls.length * (300 + 2) ≤ 40 * 302 := Nat.mul_le_mul_right _ h1
  omega
theorem nest_showable {ls : List (List Int)} (h : Few ls) : (nest ls).showable = true := by
  have key : ∀ ms : List (List Int), (∀ l ∈ ms, ∀ n ∈ l, n.natAbs.log2 < 1920) → PyData.showableAll (ms.map fun l => PyData.list (l.map .int)) = true := by
    intro ms
    induction ms with
    | nil => intro _; rfl
    | cons m r ih =>
      intro hm
      show (PyData.showable (.list (m.map .int)) && PyData.showableAll (r.map fun l => PyData.list (l.map .int))) = true
      rw [show PyData.showable (.list (m.map .int)) = PyData.showableAll (m.map .int) from rfl, PyData.showableAll_ints m (hm m List.mem_cons_self), ih fun l hl => hm l (List.mem_cons_of_mem _ hl)]
      rfl
  exact key ls fun l hl n hn => num_log ((h.2 l hl).2 n hn).1 ((h.2 l hl).2 n hn).2
theorem nest_plain : ∀ ls : List (List Int), (nest ls).hasDict = false := by
  have i : ∀ l : List Int, PyData.hasDictAll (l.map .int) = false := by
    intro l
    induction l with
    | nil => rfl
    | cons n r ih =>
      show (PyData.hasDict (.int n) || PyData.hasDictAll (r.map .int)) = false
      rw [ih]
      rfl
  intro ls
  show PyData.hasDictAll (ls.map fun l => PyData.list (l.map .int)) = false
  induction ls with
  | nil => rfl
  | cons l r ih =>
    show (PyData.hasDict (.list (l.map .int)) || PyData.hasDictAll (r.map fun l => PyData.list (l.map .int))) = false
    rw [show PyData.hasDict (.list (l.map .int)) = PyData.hasDictAll (l.map .int) from rfl, i l, ih]
    rfl
theorem nest_depth (ls : List (List Int)) : (nest ls).depth ≤ 50 := by
  have : PyData.depthAll (ls.map fun l => PyData.list (l.map .int)) ≤ 1 := by
    induction ls with
    | nil => exact Nat.zero_le _
    | cons l r ih =>
      show max (PyData.depth (.list (l.map .int))) (PyData.depthAll (r.map fun l => PyData.list (l.map .int))) ≤ 1
      rw [show PyData.depth (.list (l.map .int)) = PyData.depthAll (l.map .int) + 1 from rfl, dp_ints]
      omega
  show PyData.depthAll (ls.map fun l => PyData.list (l.map .int)) + 1 ≤ 50
  omega
/-- a list of lists of numbers stands: their places -/
def NestAt (K : PySem.W.Frag) (H : Hp) : List V → List (List Int) → Prop
  | [], [] => True
  | v :: vs, l :: ls => (∃ a, v = .ref a ∧ SqL K H a (l.map V.int)) ∧ NestAt K H vs ls
  | _, _ => False
theorem NestAt.dp {K : PySem.W.Frag} {H : Hp} : ∀ {vs : List V} {ls : List (List Int)}, NestAt K H vs ls → DpAll K H vs (ls.map fun l => .list (l.map .int))
  | [], [], _ => .nil
  | v :: vs, l :: ls, h => by
    obtain ⟨⟨a, rfl, hs⟩, h2⟩ := h
    exact .cons (.lst hs dpa_ints) (NestAt.dp h2)
  | [], _ :: _, h => h.elim
  | _ :: _, [], h => h.elim
theorem rd_nest {K : PySem.W.Frag} {H : Hp} {a : Addr} {vs : List V} {ls : List (List Int)} {Q : VK} (hs : SqL K H a vs) (h : NestAt K H vs ls) (f : Few ls) (q : Q (.str (nest ls).shown) H) : rReprD K [.ref a] H Q :=
  ⟨.ref a, nest ls, rfl, .lst hs h.dp, True.intro, nest_showable f, nest_plain ls, nest_depth ls, nest_show f, q⟩
/-! ### max(.., default=None) -/
def rMaxD (K : PySem.W.Frag) : List V → List V → Hp → VK → Prop := fun vs zs H Q => ∃ (a : Addr) (ns : List Int), vs = [.ref a] ∧ zs = [.non] ∧ SqL K H a (ns.map V.int) ∧ (ns = [] → Q .non H) ∧ ∀ m ∈ ns, (∀ n ∈ ns, n ≤ m) → Q (.int m) H
theorem max_in : ∀ (ns : List Int) (n : Int), (ns.foldl max n ∈ n :: ns) ∧ ∀ k ∈ n :: ns, k ≤ ns.foldl max n
  | [], n => ⟨List.mem_cons_self, fun k hk => by rw [List.mem_singleton.mp hk]; exact Int.le_refl _⟩
  | m :: r, n => by
    obtain ⟨h1, h2⟩ := max_in r (max n m)
    rw [List.foldl_cons]
    constructor
    · rcases List.mem_cons.mp h1 with e | e
      · rw [e]
        rcases Int.le_total n m with h | h
        · rw [Int.max_eq_right h]
          exact List.mem_cons_of_mem _ List.mem_cons_self
        · rw [Int.max_eq_left h]
          exact List.mem_cons_self
      · exact List.mem_cons_of_mem _ (List.mem_cons_of_mem _ e)
    · intro k hk
      have h3 := h2 _ List.mem_cons_self
      rcases List.mem_cons.mp hk with e | e
      · subst e
        exact Int.le_trans (Int.le_max_left _ _) h3
      · rcases List.mem_cons.mp e with e | e
        · subst e
          exact Int.le_trans (Int.le_max_right _ _) h3
        · exact h2 k (List.mem_cons_of_mem _ e)
theorem cr_maxD {X : Cx} (hc : X.calm = true) (hu : X.A.units + 64 < cLine) : CallRK X (.builtin "max") [Str.ofString "default"] (rMaxD X.K) := by
  intro pins s σ H xs zs us ws Q I r1 r2 h
  obtain ⟨a, ns, rfl, rfl, hs, h0, h1⟩ := h
  obtain ⟨u, rfl, ru⟩ := vals1 r1
  obtain ⟨w', rfl, rw'⟩ := vals1 r2
  obtain rfl : u = Value.ref a := ru
  obtain rfl : w' = Value.none := rw'
  obtain ⟨its, rv, hl, _⟩ := I.list hs
  obtain ⟨as, rd⟩ := Dp.readsAll I (ns.map .int) _ _ dpa_ints rv
  have back : ∀ {h' : Heap} {tk : Nat}, (∀ b o, s.heap.get? b = some o → h'.get? b = some o) → L2.Inv X pins σ H { s with heap := h', toks := tk } := fun {h' tk} kept => I.call' (ch := []) rfl (Un.kept kept) (I.hok.kept kept) I.bare (fun _ z => nomatch z)
  have al : PySem.W.AlikeAll (ns.map .int) := ⟨fun x hx y hy => by
    obtain ⟨i, _, rfl⟩ := List.mem_map.mp hx
    obtain ⟨j, _, rfl⟩ := List.mem_map.mp hy
    rfl, fun x hx => by
    obtain ⟨i, _, rfl⟩ := List.mem_map.mp hx
    intro z
    cases z⟩
  refine PySem.W.max_list_default (vs := its.toArray) (I.ok.hd hc) hl.isList (by simpa using rd) al (by rw [dp_ints]; omega) (fun e h' tk kept => ?_) fun y ys i v h' tk bs e hv hr kept => ?_
  · have : ns = [] := by
      cases ns with
      | nil => rfl
      | cons n r => cases e
    exact ⟨.non, H, back kept, rfl, h0 this⟩
  · cases ns with
    | nil => cases e
    | cons n r =>
      have e1 : PyData.int n = y := (List.cons.inj e).1
      have e2 : r.map PyData.int = ys := (List.cons.inj e).2
      subst e1 e2
      rw [PySem.W.maxD_ints] at hr
      obtain ⟨t, rfl⟩ : ∃ t, v = .int (r.foldl max n) t := by
        cases hr with
        | int => exact ⟨_, rfl⟩
      obtain ⟨g1, g2⟩ := max_in r n
      exact ⟨.int _, H, back kept, ⟨t, rfl⟩, h1 _ g1 g2⟩
end Bs

namespace Bs
open PySem PySem.Spec PyProof.Rows L2
open Evl (Ex)
/-! ### {k: v for .. in .. if ..}, the keys tuples of ints and texts -/
section
variable {X : Cx}
theorem put_tup {pins : List (Addr × Obj)} {σ : L2.St} {H : Hp} {s : Shared} {E : Value → Shared → Prop} {D b : Addr} {kvs : List (List L2.Key × V)} {k : List L2.Key} {v : V} {u r : Value} {Q : Unit → Shared → Prop} (hu : X.A.units + 64 < cLine) (J : L2.Inv X pins σ H s) (at_ : H D = some (.dT kvs)) (kb : H b = some (.tup (k.map kV)))
    (few : kvs.length < sizeLine) (ru : RelV (.ref b) u) (rr : RelV v r) (next : ∀ s', L2.Inv X pins σ (upd H D (.dT (putK kvs k v))) s' → Q () s') : wpAny (model X.prog X.w) X.A (dictSet D u r) Q E s := by
  cases (show u = Value.ref b from ru)
  obtain ⟨z, ns, ents, rel, dd⟩ := dt_of J.hok at_
  have room : ents.length ≤ sizeLine := by
    rw [← Paired.length rel]
    exact z
  have more := length_putK kvs k v
  refine wpAny_dictSet_heap (hsz := room) (show X.A.units < cLine by omega) (key_of J.hok kb) dd fun h2 made same => next _ ?_
  obtain ⟨ob, es, ep, hob, c1, c2, c3, _, c5⟩ := made
  refine d_write J (by rw [at_]; trivial) same ⟨ob, hob⟩ ⟨by omega, ns, _, (rel.put k kb rr).keeps fun c ys ec => ?_, ob, es, ep, hob, c1, c2, c3, c5⟩
  rw [upd_ne (ne_of ec at_ fun y => nomatch y)]
  exact ec
def tDcT (wi : TI) (g : TG) (tt : TT) (tk te : TE) (vs : List Nat) : TE := fun σ H Q => wi σ H fun J H1 => ∀ D, H1 D = none → ∃ W : Nat → Nat → Hp → Prop, (∃ m, W 0 m (upd H1 D (.dT []))) ∧ ∀ i m H, W i m H →
  (J.stop i H ∧ Q (.ref D) H) ∨ (J.go i H ∧ ∃ Nx : Hp → Prop, (∀ H', Nx H' → ∃ m', m' < m ∧ W (i + 1) m' H') ∧ ∀ x H', J.yld i H x H' → g x (wipe σ vs) H' fun σ2 H2 => wipe σ2 vs = wipe σ vs ∧ tt σ2 H2 fun b H3 =>
    if b = true then tk σ2 H3 fun y H4 => te σ2 H4 fun z H5 => ∃ (kvs : List (List L2.Key × V)) (k : List L2.Key) (a : Addr), y = .ref a ∧ H5 D = some (.dT kvs) ∧ H5 a = some (.tup (k.map kV)) ∧ kvs.length < sizeLine ∧ Nx (upd H5 D (.dT (putK kvs k z))) else Nx H3)
abbrev dict0 : Obj := { cls := .type "dict", data := .dict #[] }
theorem pe_dcT {kx elt tg iter : Expr} {ifs : List Expr} {scope : Scope} {own : List (PySem.Str × Nat)} {pos : Pos} {wi : TI} {g : TG} {tt : TT} {tk te : TE} (hu : X.A.units + 64 < cLine) (calm : X.calm = true) (nd : X.N.Nodup) (pi : PI X tg iter wi) (blk : BlkOk X.N X.env.scope scope own)
    (pgs : ∀ (s : Shared) (H : Hp) (C : Addr) (cl : List (PySem.Str × Addr)) (fp : List Addr), PG (X.blk s H scope (compEnvC scope cl C X.env) fp) tg g)
    (pts : ∀ (s : Shared) (H : Hp) (C : Addr) (cl : List (PySem.Str × Addr)) (fp : List Addr), PTs (X.blk s H scope (compEnvC scope cl C X.env) fp) ifs tt)
    (pks : ∀ (s : Shared) (H : Hp) (C : Addr) (cl : List (PySem.Str × Addr)) (fp : List Addr), PE (X.blk s H scope (compEnvC scope cl C X.env) fp) kx tk)
    (pes : ∀ (s : Shared) (H : Hp) (C : Addr) (cl : List (PySem.Str × Addr)) (fp : List Addr), PE (X.blk s H scope (compEnvC scope cl C X.env) fp) elt te) (fold : ∀ x, foldedSetIterable iter X.env x = pure x := by intro _; rfl) :
    PE X (.DictComp kx elt [⟨tg, iter, ifs, 0⟩] scope pos) (tDcT wi g tt tk te (own.map (·.2))) := by
  refine ⟨fun pins s σ H Q I hyp => ?_⟩
  rw [arm_eval_DictComp]
  have cellsOk : ∀ y ∈ scope.names, y.2 = .free → ∃ c, X.env.cells.lookup y.1 = some c := fun y my fy => (blk.free y my fy).elim (fun k => I.ok.has _ (.inl k)) fun k => I.ok.has _ (.inr k)
  refine wpAny_comprehension_free rfl fold (closure_ok cellsOk) blk.kind (fun y my fy => by rw [blk.uniq y my, fy]) (thn (pi.run pins s σ H _ I hyp) fun _ _ a1 => thn a1 fun _ sA a2 => ?_)
  obtain ⟨it, fp, tn, J, HA, rfl, IA, T, stA, frA, q⟩ := a2
  refine wpAny_newObj_type (newEnv_comp ?_)
  -- the new set stands at D
  obtain ⟨D, eD⟩ : ∃ D, sA.heap.objs.size = D := ⟨_, rfl⟩
  have free : HA D = none := IA.hok.fresh (Nat.le_of_eq eD)
  obtain ⟨W, ⟨m0, w0⟩, turn⟩ := q D free
  obtain ⟨sB, eB⟩ : ∃ sB : Shared, ({ sA with heap := sA.heap.push (dict0) } : Shared) = sB := ⟨_, rfl⟩
  obtain ⟨HB, eHB⟩ : ∃ HB : Hp, upd HA D (.dT []) = HB := ⟨_, rfl⟩
  have hpB : sB.heap = sA.heap.push (dict0) := by rw [← eB]
  have IB : L2.Inv X pins σ HB sB := by
    rw [← eB, ← eHB]
    refine IA.laid (t' := sA.toks) (fun b o e => Heap.get?_push_of_some _ e) (Nat.le_of_eq eD) ?_
    rw [← eD]
    exact dt_empty sA.heap IA.big
  have below : ∀ b ∈ fp, b < sA.heap.objs.size := fun b mb => (T.obj _ _ stA b mb).elim fun _ e => Heap.lt_size e.1
  have frB : ∀ b ∈ fp, FpOk X pins HB b ∧ b < sB.heap.objs.size := fun b mb => by
    refine ⟨⟨?_, (frA b mb).2⟩, by rw [hpB, Heap.size_push]; exact Nat.lt_succ_of_lt (below b mb)⟩
    rw [← eHB, upd_ne (by rw [← eD]; exact Nat.ne_of_lt (below b mb))]
    exact (frA b mb).1
  have stB : tn 0 sB.heap := T.keep _ _ _ stA fun _ _ _ e => by rw [hpB]; exact Heap.get?_push_of_some _ e
  have IC := block_start IB blk nd frB
  -- the block's own frame
  obtain ⟨cells, ecl⟩ : ∃ cells, cellsFrom (sB.heap.objs.size + 1) scope.names (cloFrom X.env.cells scope.names []) = cells := ⟨_, rfl⟩
  obtain ⟨ce, ece⟩ : ∃ ce, compEnvC scope cells sB.heap.objs.size X.env = ce := ⟨_, rfl⟩
  obtain ⟨sC, eC⟩ : ∃ sC : Shared, ({ sB with heap := pushCells (sB.heap.push { cls := .type "dict", data := .dict #[] }) scope.names } : Shared) = sC := ⟨_, rfl⟩
  have pg := pgs sB HB sB.heap.objs.size cells fp
  have pt := pts sB HB sB.heap.objs.size cells fp
  have pk := pks sB HB sB.heap.objs.size cells fp
  have pe := pes sB HB sB.heap.objs.size cells fp
  rw [ecl, ece, eC] at IC
  rw [ece] at pg pt pk pe
  have lo : ce.locals = sB.heap.objs.size := by rw [← ece]; rfl
  have none_ : ∀ b ∈ fp, HB b = none := fun b mb => (frB b mb).1.1
  have stC : tn 0 sC.heap := T.keep _ _ _ stB fun _ _ _ e => by rw [← eC]; exact pushCells_keeps _ _ _ _ (Heap.get?_push_of_some _ e)
  have pinned_ : ∀ {τ : L2.St} {H1 : Hp} {s1 : Shared}, L2.Inv (X.blk sB HB scope ce fp) [] τ H1 s1 → (∀ b ∈ fp, H1 b = none) → ∀ b ∈ fp, FpOk (X.blk sB HB scope ce fp) [] H1 b := fun {τ H1 s1} J1 hn b mb => by
    exact ⟨hn b mb, (J1.ok.exf b mb).1, J1.ok.exfs b mb, .inl mb, fun x c e => (J1.ok.exf b mb).2 x c e, fun p hp => nomatch (show p ∈ ([] : List (Addr × Obj)) from by simpa using hp)⟩
  rw [eB, eD, ecl]
  show codeAny _ _ (.compStart (.DictComp kx elt [⟨tg, iter, ifs, 0⟩] scope pos) 0 (.ref it) (.ref D) (compEnvC scope cells sB.heap.objs.size X.env)) _ { sB with heap := pushCells (sB.heap.push { cls := .type "dict", data := .dict #[] }) scope.names }
  rw [ece, eC]
  have loop : codeAny (model X.prog X.w) X.A (.compLoop (.DictComp kx elt [⟨tg, iter, ifs, 0⟩] scope pos) 0 (.ref it) (.ref D) ce) (compPost (model X.prog X.w) X.A X.xe none (EP X pins σ Q) (.ref D) sB.heap.objs.size) sC := by
    refine compLoop_anyD (fun n t => ∃ i H1, L2.Inv (X.blk sB HB scope ce fp) [] (wipe σ (own.map (·.2))) H1 t ∧ tn i t.heap ∧ (∀ b ∈ fp, H1 b = none) ∧ W i n H1) ?_ m0 ⟨0, HB, IC, stC, none_, by rw [← eHB]; exact w0⟩
    rintro n t5 ⟨i, H5, I5, st5, n5, w5⟩
    rcases turn i n H5 w5 with ⟨stop, fin_⟩ | ⟨go, Nx, back, step⟩
    · refine thnF (T.done (X.blk sB HB scope ce fp) rfl rfl rfl calm i [] t5 _ H5 (fun _ _ => False) I5 (pinned_ I5 n5) st5 stop) fun r t6 ⟨er, I6⟩ => ?_
      subst er
      have I7 : L2.Inv X pins σ H5 t6 := IB.call' (ch := fp) I6.os I6.base I6.hok I6.bare fun b mb => ⟨(frB b mb).1.2.2.2.1, (frB b mb).1.2.1, (frB b mb).1.2.2.2.2.1, (frB b mb).1.2.2.2.2.2⟩
      have fl : H5 sB.heap.objs.size = none := lo ▸ (show H5 ce.locals = none from I6.free)
      obtain ⟨m, hm, _⟩ := I6.loc
      have hm' : t6.heap.Ns sB.heap.objs.size m := lo ▸ (show t6.heap.Ns ce.locals m from hm)
      refine ⟨m, hm', fun h'' sb => ?_⟩
      obtain ⟨f0, f1, f2, f3, f4, f5⟩ := IB.fpOk (Nat.le_refl _) fl
      exact ⟨.ref D, H5, I7.turned (t' := t6.toks) (fun b o hb e => (sb.2 b hb).trans e) f0 f1 f3 f4 f5, rfl, fin_⟩
    · refine thnF (T.item (X.blk sB HB scope ce fp) rfl rfl rfl calm i [] t5 _ H5 (fun _ _ => False) I5 (pinned_ I5 n5) st5 go) fun r t6 ⟨u, er, h6⟩ => ?_
      subst er
      refine thnF h6 fun _ t7 ⟨x, H7, I7, r7, y7, st7, n7⟩ => ?_
      refine thnF (pg.run _ t7 _ H7 x u _ (I7.pinned (pinned_ I7 n7) (T.obj _ _ st7)) r7 (step x H7 y7)) fun _ t8 ⟨τ, H8, I8, ew, q8⟩ => ?_
      refine thnF (pt.run _ t8 τ H8 _ I8 q8) fun b t9 ⟨H9, I9, q9⟩ => ?_
      have again : ∀ {t : Shared} {H1 : Hp}, L2.Inv (X.blk sB HB scope ce fp) ([] ++ pinsAt fp t7.heap) τ H1 t → Nx H1 → ∃ m, m < n ∧ ∃ i H1, L2.Inv (X.blk sB HB scope ce fp) [] (wipe σ (own.map (·.2))) H1 t ∧ tn i t.heap ∧ (∀ b ∈ fp, H1 b = none) ∧ W i m H1 := fun {t H1} J1 nx => by
        obtain ⟨m', lt, w'⟩ := back H1 nx
        have held : ∀ b ∈ fp, ∀ o, t7.heap.get? b = some o → t.heap.get? b = some o ∧ H1 b = none := fun b mb o e => by
          have z := J1.pin (b, o) (List.mem_append_right _ (List.mem_append_right _ (mem_pinsAt mb e)))
          exact ⟨z.1, z.2.1⟩
        refine ⟨m', lt, i + 1, H1, (J1.unpinned (pins := [])).weak (by rw [← ew, wipe_length]) (fun j v e => (wipe_some (by rw [ew]; exact e)).1), T.keep _ _ _ st7 fun b mb o e => (held b mb o e).1, fun b mb => ?_, w'⟩
        obtain ⟨o, e, _⟩ := T.obj _ _ st7 b mb
        exact (held b mb o e).2
      cases b with
      | false =>
        simp only [Bool.false_eq_true, if_false] at q9 ⊢
        exact again I9 q9
      | true =>
        simp only [if_true] at q9 ⊢
        refine thnF (pk.run _ t9 τ H9 _ I9 q9) fun z t10 ⟨ky, H10, I10, r10, q10⟩ => ?_
        refine thnF (pe.run _ t10 τ H10 _ I10 q10) fun z2 t11 ⟨vy, H11, I11, r11, kvs, key, ka, ek, at11, ka11, few, nx⟩ => ?_
        subst ek
        exact put_tup (X := X.blk sB HB scope ce fp) hu I11 at11 ka11 few r10 r11 fun t12 I12 => again I12 nx
  exact codeAny_compStart_dict loop (T.self X.A 0 _ _ _ stC loop)
end
end Bs

namespace Bs
open PySem PySem.Spec PyProof.Rows L2
open Evl (Ex)
/-! ### sorted(d), d's keys pairs of ints -/
/-- the two ints of a pair that stands -/
def prAt (H : Hp) : V → Int × Int
  | .ref b => match H b with
    | some (.tup [.int x, .int y]) => (x, y)
    | _ => (0, 0)
  | _ => (0, 0)
theorem prAt_is {H : Hp} {b : Addr} {x y : Int} (e : H b = some (.tup [.int x, .int y])) : prAt H (.ref b) = (x, y) := by
  unfold prAt
  simp only [e]
abbrev kP (p : Int × Int) : List L2.Key := [Sum.inl p.1, Sum.inl p.2]
def rSortedDT (K : PySem.W.Frag) : List V → Hp → VK → Prop := fun vs H Q => ∃ (a : Addr) (kvs : List (List L2.Key × V)), vs = [V.ref a] ∧ H a = some (.dT kvs) ∧ (∀ e ∈ kvs, ∃ p, e.1 = kP p) ∧
  ∀ (bs : List Addr) (ys : List V) (p : Addr), IsKeys H kvs bs → SrtO.Srtd (ltP (prAt H)) ys → ys.Perm (bs.map V.ref) → H p = none → Q (.ref p) (upd H p (.lst ys))
theorem isKeys_at {H : Hp} : ∀ {kvs : List (List L2.Key × V)} {bs : List Addr}, IsKeys H kvs bs → (∀ e ∈ kvs, ∃ p, e.1 = kP p) → ∀ b ∈ bs, ∃ x y : Int, H b = some (.tup [.int x, .int y])
  | _, _, .nil, _, b, hb => nomatch hb
  | e :: kvs, c :: bs, .cons h t, ok, b, hb => by
    rcases List.mem_cons.mp hb with z | z
    · subst z
      obtain ⟨p, hp⟩ := ok e List.mem_cons_self
      rw [hp] at h
      exact ⟨p.1, p.2, h⟩
    · exact isKeys_at t (fun e' m => ok e' (List.mem_cons_of_mem _ m)) b z
theorem cr_sortedDT {X : Cx} (hc : X.calm = true) : CallR X (.builtin "sorted") (rSortedDT X.K) := by
  intro pins s σ H vs us Q I r h
  obtain ⟨d, kvs, rfl, hd, ok, q⟩ := h
  rw [Vals.ref1 r]
  obtain ⟨z, ns, ks, pr, o, es, ep, ho, hx, hdt, he, hn⟩ := dt_of I.hok hd
  have l1 : es.size = ks.length := size_of_entries he
  have l2 : kvs.length = ks.length := Paired.length pr
  have keys := isKeys_of pr
  have pairs := isKeys_at keys ok
  refine Calls.call_function_entry PyProof.Rows.kind_sorted PyProof.Rows.plain_sorted PyProof.Rows.entry_sorted (PyProof.Rows.args_sorted1 _) ?_
  unfold Builtin.«sorted»
  refine wpAny_bind (m := checkCount "sorted" 1 1 _) (wpAny_pure ?_)
  refine wpAny_bind (PySem.W.kdu_collect (A := X.A.in1) (kdl_raw ns hx hdt) (I.ok.hd hc) ho (by omega) fun h' tk acc kp it => ?_)
  have ea : acc.toList = (ks.map fun x => x.2.1).map Value.ref := by
    have hl : acc.toList.length = ks.length := by rw [Array.length_toList, it.1]; exact l1
    rw [List.map_map]
    apply List.ext_getElem?
    intro j
    rw [List.getElem?_map]
    cases hj : acc.toList[j]? with
    | none =>
      have h1 := List.getElem?_eq_none_iff.mp hj
      rw [List.getElem?_eq_none (by omega)]
      rfl
    | some v =>
      obtain ⟨en, hen, hv⟩ := it.2 j v (by rw [← Array.getElem?_toList]; exact hj)
      have qe := entry_at he j
      rw [hen] at qe
      cases hb : ks[j]? with
      | none =>
        rw [hb] at qe
        exact nomatch (show some en = none from qe)
      | some b =>
        rw [hb] at qe
        have e2 : en = entryOfKey (tupleKind (mixKind X.prog X.w)) b := Option.some.inj qe
        rw [hv, e2]
        rfl
  generalize hbs : (ks.map fun x => x.2.1) = bs at keys pairs ea
  have hbl : bs.length = kvs.length := by rw [← hbs, List.length_map]; omega
  have I1 : Inv X pins σ H { s with heap := h', toks := tk } := I.kept kp
  refine wpAny_bind (wpAny_newList ?_ (by rw [ea, List.length_map]; omega))
  have hoL : (h'.push (seqObj "list" acc.toList.toArray 0)).get? h'.objs.size = some (seqObj "list" acc.toList.toArray 0) := Heap.get?_push_size _ rfl
  have up : ∀ b u, s.heap.get? b = some u → (h'.push (seqObj "list" acc.toList.toArray 0)).get? b = some u := fun b u e => Heap.get?_push_of_some _ (kp b u e)
  have hp : ∀ v ∈ acc.toList, Srt.IsPair (h'.push (seqObj "list" acc.toList.toArray 0)) v (prAt H (backV v)).1 (prAt H (backV v)).2 := fun v hv => by
    rw [ea] at hv
    obtain ⟨b, hb, rfl⟩ := List.mem_map.mp hv
    obtain ⟨x, y, hxy⟩ := pairs b hb
    have e0 : prAt H (backV (Value.ref b)) = (x, y) := prAt_is hxy
    rw [e0]
    obtain ⟨_, its2, r2, ob, hob, hcl, n, hdt2⟩ := I.hok _ _ hxy
    obtain ⟨u1, u2, rfl, ri, rj⟩ := vals2 r2
    obtain ⟨t1, rfl⟩ := ri
    obtain ⟨t2, rfl⟩ := rj
    exact ⟨b, ob, t1, t2, n, rfl, up _ _ hob, hcl, hdt2⟩
  show wpAny _ _ _ _ _ { s with heap := h'.push (seqObj "list" acc.toList.toArray 0), toks := tk }
  refine wpAny_bind (wpAny_holding (wpAny_call_entry PyProof.Rows.slot_list_sort ⟨_, hoL, rfl⟩ PyProof.Rows.entry_list_sort
    (SrtO.list_sort_ord (s := { s with heap := h'.push (seqObj "list" acc.toList.toArray 0), toks := tk }) (SrtO.swo_lex fun u => prAt H (backV u)) hoL (by rw [ea, List.length_map]; omega) (fun h2 => SrtO.pairs_sortableO (by omega) hp fun o e => ?_) fun out g1 g2 => ⟨_, rfl, ?_⟩) (PyProof.Rows.args_list_sort _)))
  · have e' : some o = some (seqObj "list" acc.toList.toArray 0) := e.symm.trans hoL
    cases e'
    intro c
    exact absurd (Value.type.inj c) (by decide)
  · have h3 : ∀ u ∈ out, ∃ a, u = Value.ref a := fun u hu => by
      have := g2.perm.mem_iff.mp hu
      rw [ea] at this
      obtain ⟨b, _, e⟩ := List.mem_map.mp this
      exact ⟨b, e.symm⟩
    obtain ⟨c', he'⟩ := PyProof.Rows.sortedHeap_at (vs := acc.toList) (out := out.toArray) hoL
    have pm : (out.map backV).Perm (bs.map V.ref) := by
      have := g2.perm.map backV
      rw [ea, List.map_map] at this
      exact this
    have hlen : (out.map backV).length ≤ sizeLine := by
      rw [pm.length_eq, List.length_map]
      omega
    refine wpAny_pure ⟨_, rfl, .ref h'.objs.size, upd H h'.objs.size (.lst (out.map backV)), I1.laid (t' := tk) (fun b u e => ?_) (Nat.le_refl _) ⟨hlen, out, c', vals_back h3, he'⟩, rfl, q bs _ _ keys (SrtO.srtd_map g1) pm (I1.hok.fresh (Nat.le_refl _))⟩
    have hb : b < h'.objs.size := Heap.lt_size e
    rw [PyProof.Rows.sortedHeap_old (Nat.ne_of_lt hb) (by rw [size_push']; exact Nat.lt_succ_of_lt hb)]
    exact Heap.get?_push_of_some _ e
end Bs

namespace Bs
open PySem PySem.Spec PyProof.Rows L2
open Evl (Ex)
/-! ### the items of a dict, keys pairs of ints, values ints -/
abbrev Ent := (Int × Int) × Int
abbrev entP (e : Ent) : List L2.Key × V := (kP e.1, .int e.2)
def itemD (e : Ent) : PyData := .tuple [.tuple [.int e.1.1, .int e.1.2], .int e.2]
theorem pair_at {α β : Type} {F : α → β → Prop} : ∀ {l : List α} {m : List β} {j : Nat} {y : β}, Paired F l m → m[j]? = some y → ∃ x, l[j]? = some x ∧ F x y
  | _, _, _, _, .nil, h => by simp at h
  | x :: _, _ :: _, 0, _, .cons f _, h => by
    have := Option.some.inj h
    subst this
    exact ⟨x, rfl, f⟩
  | _ :: _, _ :: _, j + 1, _, .cons _ t, h => pair_at (j := j) t h
section
variable {X : Cx} {pins : List (Addr × Obj)} {σ : L2.St} {H : Hp} {s : Shared} {d : Addr} {es : List Ent} {ents : Array DictEntry} {xs : List (List L2.Key × Addr × Value)} {lo : Addr} {h' : Heap} {as : List Addr}
/-- what the made pairs hold -/
theorem made_at (rel : KT H (es.map entP) xs) (hes : ents.toList = xs.map (entryOfKey (tupleKind (mixKind X.prog X.w)))) (G : DT.Made ents lo h' as) {j : Nat} {t : Addr} (ht : as[j]? = some t) :
    ∃ (e : Ent) (q : Addr) (k : Tok), es[j]? = some e ∧ H q = some (.tup [.int e.1.1, .int e.1.2]) ∧ h'.get? t = some { cls := .type "tuple", data := .seq #[Value.ref q, Value.int e.2 k] } := by
  obtain ⟨en, hen, got⟩ := G.pairs j t ht
  rw [← Array.getElem?_toList, hes, List.getElem?_map] at hen
  cases hx : xs[j]? with
  | none =>
    rw [hx] at hen
    cases hen
  | some x =>
    rw [hx] at hen
    have e1 : entryOfKey (tupleKind (mixKind X.prog X.w)) x = en := Option.some.inj hen
    obtain ⟨kv, hkv, r1, r2, r3⟩ := pair_at rel hx
    rw [List.getElem?_map] at hkv
    cases he : es[j]? with
    | none =>
      rw [he] at hkv
      cases hkv
    | some e =>
      rw [he] at hkv
      have e2 : entP e = kv := Option.some.inj hkv
      subst e2
      obtain ⟨k, ek⟩ := (show ∃ k, x.2.2 = Value.int e.2 k from r3)
      refine ⟨e, x.2.1, k, rfl, r2, ?_⟩
      rw [got, ← e1, ← ek]
      rfl
/-- the new list and the made pairs are tracked -/
theorem items_track {hF : Heap} {tk : Nat} {l : Addr} {c : Nat} {zs : List Addr} (I : L2.Inv X pins σ H s) (kS : ∀ b o, s.heap.get? b = some o → hF.get? b = some o) (hl : s.heap.objs.size ≤ l) (nl : l ∉ as) (nd : as.Nodup) (ab : ∀ t ∈ as, s.heap.objs.size ≤ t)
    (at_ : ∀ (j : Nat) (t : Addr), as[j]? = some t → ∃ (e : Ent) (q : Addr) (k : Tok), es[j]? = some e ∧ H q = some (.tup [.int e.1.1, .int e.1.2]) ∧ hF.get? t = some { cls := .type "tuple", data := .seq #[Value.ref q, Value.int e.2 k] })
    (small : zs.length ≤ sizeLine) (hL : hF.get? l = some { cls := .type "list", data := .seq (zs.map Value.ref).toArray c }) :
    ∃ H' : Hp, L2.Inv X pins σ H' { s with heap := hF, toks := tk } ∧ Ex H H' ∧ H l = none ∧ H' l = some (.lst (zs.map V.ref)) ∧ ∀ (j : Nat) (t : Addr) (e : Ent), as[j]? = some t → es[j]? = some e → TD H' (.ref t) (itemD e) := by
  have I1 : L2.Inv X pins σ H { s with heap := hF, toks := tk } := I.kept (t' := tk) kS
  have free : H l = none := I.hok.fresh hl
  have I2 : L2.Inv X pins σ (upd H l (.lst (zs.map V.ref))) { s with heap := hF, toks := tk } :=
    I1.take (h' := hF) (t' := tk) (fun b ob _ e => e) (I.fpOk hl free) ⟨by rw [List.length_map]; exact small, zs.map Value.ref, c, L2.vals_refs zs, hL⟩
  obtain ⟨H2, I3, up, made⟩ := DX.takeT (P := fun t vs => ∃ (j : Nat) (e : Ent) (q : Addr), as[j]? = some t ∧ es[j]? = some e ∧ vs = [.ref q, .int e.2] ∧ H q = some (.tup [.int e.1.1, .int e.1.2])) I as _ I2 nd fun t mt => by
    obtain ⟨j, hj⟩ := List.mem_iff_getElem?.mp mt
    obtain ⟨e, q, k, he, hq, got⟩ := at_ j t hj
    refine ⟨ab t mt, ?_, [.ref q, .int e.2], ⟨j, e, q, hj, he, rfl, hq⟩, fun H3 => ⟨by rw [sizeLine_eq]; show 2 ≤ 16777216; decide, [Value.ref q, Value.int e.2 k], .cons rfl (.cons ⟨k, rfl⟩ .nil), ⟨_, got, rfl, 0, rfl⟩⟩⟩
    rw [upd_ne (fun z => nl (by rw [← z]; exact mt))]
    exact I.hok.fresh (ab t mt)
  have ex : Ex H H2 := fun b o e => up b o (by rw [upd_ne (ne_of_none e free)]; exact e)
  refine ⟨H2, I3, ex, free, up _ _ upd_same, fun j t e hj he => ?_⟩
  obtain ⟨vs, ⟨i, e2, q, hi, he2, rfl, hq⟩, ht⟩ := made t (List.mem_of_getElem? hj)
  have ij : j = i := (List.getElem?_inj (List.getElem?_eq_some_iff.mp hj).1 nd).mp (hj.trans hi.symm)
  subst ij
  have ee : e2 = e := Option.some.inj (he2.symm.trans he)
  subst ee
  exact .tup ht (.cons (.tup (ex _ _ hq) (.cons (.int _) (.cons (.int _) .nil))) (.cons (.int _) .nil))
end
end Bs

namespace Bs
open PySem PySem.Spec PyProof.Rows L2
open Evl (Ex)
/-! ### sorted(d.items()), keys pairs of ints -/
/-- a made pair in a heap -/
def EntIn (h : Heap) (v : Value) (e : Ent) : Prop := ∃ (t q : Addr) (k k1 k2 : Tok), v = .ref t ∧ IsTup h t #[.ref q, .int e.2 k] ∧ IsTup h q #[.int e.1.1 k1, .int e.1.2 k2]
theorem EntIn.keeps {h h' : Heap} {v : Value} {e : Ent} (x : EntIn h v e) (kp : ∀ b o, h.get? b = some o → o.cls = .type "tuple" → h'.get? b = some o) : EntIn h' v e := by
  obtain ⟨t, q, k, k1, k2, ev, ⟨o, a1, a2, a3⟩, ⟨o', b1, b2, b3⟩⟩ := x
  exact ⟨t, q, k, k1, k2, ev, ⟨o, kp _ _ a1 a2, a2, a3⟩, ⟨o', kp _ _ b1 b2, b2, b3⟩⟩
section
variable {prog : Program} {w : World} {A : Around} {E : Value → Shared → Prop} {s : Shared}
theorem ent_firsts {h : Heap} {f : Value → Ent} : ∀ vs : List Value, (∀ v ∈ vs, EntIn h v (f v)) → ∃ fs : List Value, PySem.W.KatTups h vs fs ∧ fs.length = vs.length ∧ ∀ u ∈ fs, ∃ (q : Addr) (o : Obj), u = Value.ref q ∧ h.get? q = some o ∧ o.cls = .type "tuple"
  | [], _ => ⟨[], PySem.W.KatTups.nil, rfl, fun _ m => nomatch m⟩
  | v :: vs, x => by
    obtain ⟨fs, k, hl, hi⟩ := ent_firsts vs fun u m => x u (List.mem_cons_of_mem _ m)
    obtain ⟨t, q, _, _, _, ev, ⟨o, a1, a2, n, a3⟩, ⟨o', b1, b2, _⟩⟩ := x v List.mem_cons_self
    subst ev
    refine ⟨.ref q :: fs, PySem.W.KatTups.cons a1 a2 a3 rfl k, by rw [List.length_cons, List.length_cons, hl], fun u m => ?_⟩
    rcases List.mem_cons.mp m with z | z
    · exact ⟨q, o', z, b1, b2⟩
    · exact hi u z
theorem lt_pair {l b : Addr} {x y x' y' : Int} {t1 t2 t3 t4 : Tok} {Q : Value → Shared → Prop} (hl : IsTup s.heap l #[.int x t1, .int y t2]) (hb : IsTup s.heap b #[.int x' t3, .int y' t4]) (hu : A.units < cLine)
    (h : Q (.bool (SrtO.lexB (x, y) (x', y'))) s) : wpAny (model prog w) A (compareOp .Lt (.ref l) (.ref b)) Q E s := by
  obtain ⟨⟨cls, dd, data, sl⟩, a1, a2, n, a3⟩ := id hl
  obtain ⟨⟨cls', dd', data', sl'⟩, b1, b2, n', b3⟩ := id hb
  simp only at a2 a3 b2 b3
  subst a2 a3 b2 b3
  have e : HT.lexLt [x, y] [x', y'] = SrtO.lexB (x, y) (x', y') := by
    show (if x = x' then (if y = y' then false else decide (y < y')) else decide (x < x')) = (if x = x' then decide (y < y') else decide (x < x'))
    by_cases c : x = x'
    · rw [if_pos c, if_pos c]
      by_cases c' : y = y'
      · rw [if_pos c', c']
        exact (decide_eq_false (Int.lt_irrefl _)).symm
      · rw [if_neg c']
    · rw [if_neg c, if_neg c]
  rw [← e] at h
  exact richCompare_meets_room (op := .Lt) ⟨_, a1, rfl⟩ ⟨_, b1, rfl⟩ PySem.F.slot_tuple_lt PySem.F.entry_tuple_lt (PySem.F.args_tuple_lt_2 _ _) (HT.tuple_lt_ints l b _ _ n n' dd dd' sl sl' [x, y] [x', y'] (.cons x t1 (.cons y t2 .nil)) (.cons x' t3 (.cons y' t4 .nil)))
    ⟨a1, b1, show Value.bool (HT.lexLt [x, y] [x', y']) ≠ Value.notImplemented ∧ Q (.bool (HT.lexLt [x, y] [x', y'])) s from ⟨(fun z => nomatch z), h⟩⟩ hu
/-- the sort's question -/
theorem ent_sortable {a : Addr} {vs : List Value} {f : Value → Ent} (hu : A.units < cLine) (h0 : 0 < vs.length) (x : ∀ v ∈ vs, EntIn s.heap v (f v)) (one : ∀ v ∈ vs, ∀ u ∈ vs, (f v).1 = (f u).1 → f v = f u) (ha : ∀ o, s.heap.get? a = some o → o.cls ≠ .type "tuple") :
    SrtO.SortableO prog w A s a vs fun v u => SrtO.lexB (f v).1 (f u).1 := by
  intro h' keep
  have x' : ∀ v ∈ vs, EntIn h' v (f v) := fun v m => (x v m).keeps fun b o e c => keep b o (fun z => by subst z; exact ha o e c) e
  obtain ⟨fs, k, hl, hi⟩ := ent_firsts vs x'
  refine ⟨tuples' false, fun Q E' hq => ?_, ?_⟩
  · refine PySem.W.kat_kind (T := Value.type "tuple") k (by omega) (fun u m => ?_) rfl ?_
    · obtain ⟨q, o, rfl, ho, hc⟩ := hi u m
      have z : PySem.W.Looks (model prog w) h' (typeOf (.ref q)) o.cls := (PySem.W.Looks.ld ho).andThen .now
      rw [hc] at z
      exact z
    · have hb : (Value.type "tuple" != Value.type "tuple") = false := by first | rfl | decide | simp
      rw [hb]
      exact hq
  · intro p q mp mq
    have h1 := x' _ mp
    have h2 := x' _ mq
    have h3 := one _ mp _ mq
    show wpAny (model prog w) A (keyLt' (tuples' false) p.1 q.1) (fun r s' => s' = { s with heap := h' } ∧ r = SrtO.lexB (f p.1).1 (f q.1).1) (fun _ _ => False) { s with heap := h' }
    generalize f p.1 = e at h1 h3 ⊢
    generalize f q.1 = e' at h2 h3 ⊢
    obtain ⟨t, kq, k, k1, k2, ev, ⟨o, a1, a2, n, a3⟩, g1⟩ := h1
    obtain ⟨t', kq', k', k1', k2', ev', ⟨o', b1, b2, n', b3⟩, g2⟩ := h2
    rw [ev, ev']
    refine PySem.W.kat_lt a1 a3 b1 b3 ?_
    show PySem.W.KatLex prog w A false false _ [(Value.ref kq, Value.ref kq'), (Value.int e.2 k, Value.int e'.2 k')] 0 { s with heap := h' }
    have t1 : IsTupleKey (L2.mixKind prog w) h' [Sum.inl e.1.1, Sum.inl e.1.2] kq := by
      obtain ⟨ok, c1, c2, nk, c3⟩ := g1
      exact ⟨ok, _, nk, c1, c2, c3, .cons (L2.mixKind_int prog w _ _) (.cons (L2.mixKind_int prog w _ _) .nil)⟩
    have t2 : IsTupleKey (L2.mixKind prog w) h' [Sum.inl e'.1.1, Sum.inl e'.1.2] kq' := by
      obtain ⟨ok, c1, c2, nk, c3⟩ := g2
      exact ⟨ok, _, nk, c1, c2, c3, .cons (L2.mixKind_int prog w _ _) (.cons (L2.mixKind_int prog w _ _) .nil)⟩
    by_cases c : e.1 = e'.1
    · have ee := h3 c
      subst ee
      have irr : SrtO.lexB e.1 e.1 = false := SrtO.lexB_no.mpr (by omega)
      rw [irr]
      refine PySem.W.kat_cons (wpAny_eqBool_tuple hu t1 t2 ?_)
      refine PySem.W.kat_go (fun _ => ?_) (fun e0 => absurd rfl (of_decide_eq_false e0))
      refine PySem.W.kat_yes (PySem.W.kat_cons (SeqAt.EqAt.int_int e.2 k e.2 k' prog w _ _ ?_))
      refine PySem.W.kat_go (fun _ => ?_) (fun e0 => absurd e0 (by simp))
      exact PySem.W.kat_yes (PySem.W.kat_nil ⟨rfl, rfl⟩)
    · refine PySem.W.kat_cons (wpAny_eqBool_tuple hu t1 t2 ?_)
      refine PySem.W.kat_go (fun e0 => ?_) (fun _ => ?_)
      · refine absurd ?_ c
        have z0 := of_decide_eq_true e0
        injection z0 with z1 z2
        injection z2 with z2 _
        injection z1 with z1
        injection z2 with z2
        exact Prod.ext z1 z2
      · exact PySem.W.kat_no (PySem.W.kat_one _ _ (lt_pair g1 g2 hu ⟨rfl, rfl⟩))
end
end Bs

namespace Bs
open PySem PySem.Spec PyProof.Rows L2
open Evl (Ex)
theorem kt_keys {H : Hp} : ∀ {kvs : List (List L2.Key × V)} {xs : List (List L2.Key × Addr × Value)}, KT H kvs xs → kvs.map (·.1) = xs.map (·.1)
  | _, _, .nil => rfl
  | _, _, .cons h t => by
    rw [List.map_cons, List.map_cons, kt_keys t, h.1]
def entOf (as : List Addr) (es : List Ent) : Value → Ent
  | .ref t => ((as.zip es).lookup t).getD ((0, 0), 0)
  | _ => ((0, 0), 0)
theorem entOf_at : ∀ {as : List Addr} {es : List Ent} {j : Nat} {t : Addr} {e : Ent}, as.Nodup → as[j]? = some t → es[j]? = some e → entOf as es (.ref t) = e
  | [], _, _, _, _, _, h, _ => by simp at h
  | _ :: _, [], _, _, _, _, _, h => by simp at h
  | a :: as, e0 :: es, 0, t, e, _, h1, h2 => by
    have x1 : a = t := Option.some.inj h1
    have x2 : e0 = e := Option.some.inj h2
    subst x1 x2
    show (((a, e0) :: as.zip es).lookup a).getD _ = _
    rw [List.lookup_cons_self]
    rfl
  | a :: as, e0 :: es, j + 1, t, e, nd, h1, h2 => by
    have ih := entOf_at (as := as) (es := es) (j := j) (t := t) (e := e) (List.nodup_cons.mp nd).2 h1 h2
    have ne : ¬ t = a := fun z => (List.nodup_cons.mp nd).1 (by rw [← z]; exact List.mem_of_getElem? (show as[j]? = some t from h1))
    show (((a, e0) :: as.zip es).lookup t).getD _ = _
    rw [List.lookup_cons, show (t == a) = false from by simpa using ne]
    exact ih
theorem ent_one {es : List Ent} (nd : (es.map fun e => kP e.1).Nodup) {i j : Nat} {e f : Ent} (hi : es[i]? = some e) (hj : es[j]? = some f) (k : e.1 = f.1) : e = f := by
  have p := List.pairwise_iff_getElem.mp nd
  obtain ⟨i1, i2⟩ := List.getElem?_eq_some_iff.mp hi
  obtain ⟨j1, j2⟩ := List.getElem?_eq_some_iff.mp hj
  subst i2 j2
  rcases Nat.lt_trichotomy i j with c | c | c
  · have := p i j (by simpa using i1) (by simpa using j1) c
    rw [List.getElem_map, List.getElem_map, k] at this
    exact absurd rfl this
  · subst c
    rfl
  · have := p j i (by simpa using j1) (by simpa using i1) c
    rw [List.getElem_map, List.getElem_map, k] at this
    exact absurd rfl this
/-- refs to data, by their places -/
theorem tds_of {H : Hp} {β : Type} {D : β → PyData} : ∀ {ts : List Addr} {es : List β}, ts.length = es.length → (∀ (j : Nat) (t : Addr) (e : β), ts[j]? = some t → es[j]? = some e → TD H (.ref t) (D e)) → TDs H (ts.map V.ref) (es.map D)
  | [], [], _, _ => .nil
  | [], _ :: _, h, _ => nomatch h
  | _ :: _, [], h, _ => nomatch h
  | t :: ts, e :: es, h, r => .cons (r 0 t e rfl rfl) (tds_of (Nat.succ.inj h) fun j u f h1 h2 => r (j + 1) u f h1 h2)
def rSortItP : List V → Hp → VK → Prop := fun vs H Q => ∃ (p d : Addr) (es : List Ent), vs = [.ref p] ∧ H p = some (DX.itemsO p d) ∧ H d = some (.dT (es.map entP)) ∧
  ∀ (H' : Hp) (l : Addr) (ts : List Addr) (es' : List Ent), es'.Perm es → es'.Pairwise (fun e f => SrtO.lexB f.1 e.1 = false) → Ex H H' → H l = none → H' l = some (.lst (ts.map V.ref)) → TDs H' (ts.map V.ref) (es'.map itemD) → Q (.ref l) H'
theorem cr_sortItP {X : Cx} (hc : X.calm = true) (hu : X.A.units + 64 < cLine) : CallR X (.builtin "sorted") rSortItP := by
  intro pins s σ H vs us Q I r h
  obtain ⟨p, d, es, rfl, hp, hd, q⟩ := h
  rw [Vals.ref1 r]
  have view : s.heap.IsItemsView p d := (show ObjOk X.prog X.w H s.heap p (DX.itemsO p d) from I.hok p _ hp).1
  obtain ⟨z, ns, xs, rel, o, ents, ep, ho, hx, hdat, hes, his, nd0⟩ := dt_of I.hok hd
  have l1 : (es.map entP).length = xs.length := Paired.length rel
  rw [List.length_map] at l1 z
  have l2 : ents.size = xs.length := size_of_entries hes
  have ndk : (es.map fun e => kP e.1).Nodup := by
    rw [← kt_keys rel, List.map_map] at nd0
    exact nd0
  refine DT.sortedI (es := ents) (ep := ep) (I.ok.hd hc) view ⟨o, ho, hx, hdat⟩ (by omega) fun h' tk as hk hlt hl G => ?_
  have la : as.length = es.length := by omega
  have nd : as.Nodup := List.Pairwise.imp (fun c => Nat.ne_of_lt c) G.rise
  have made : ∀ (j : Nat) (t : Addr), as[j]? = some t → _ := fun j t ht => made_at (X := X) rel hes G ht
  have hob : (h'.push { cls := .type "list", data := .seq (as.map Value.ref).toArray }).get? h'.objs.size = some (seqObj "list" (as.map Value.ref).toArray 0) := Heap.get?_push_size _ rfl
  generalize hh2 : h'.push { cls := .type "list", data := .seq (as.map Value.ref).toArray } = h2 at hob ⊢
  have up2 : ∀ b o, h'.get? b = some o → h2.get? b = some o := fun b o e => by rw [← hh2]; exact Heap.get?_push_of_some _ e
  have off : ∀ b o, h'.get? b = some o → b ≠ h'.objs.size := fun b o e => Nat.ne_of_lt (Heap.lt_size e)
  have ix : ∀ v ∈ as.map Value.ref, ∃ (j : Nat) (t : Addr) (e : Ent), v = .ref t ∧ as[j]? = some t ∧ es[j]? = some e ∧ entOf as es v = e := fun v hv => by
    obtain ⟨t, ht, rfl⟩ := List.mem_map.mp hv
    obtain ⟨j, hj⟩ := List.mem_iff_getElem?.mp ht
    obtain ⟨e, _, _, he, _⟩ := made j t hj
    exact ⟨j, t, e, rfl, hj, he, entOf_at nd hj he⟩
  have isIn : ∀ v ∈ as.map Value.ref, EntIn h2 v (entOf as es v) := fun v hv => by
    obtain ⟨j, t, e, rfl, hj, he, ev⟩ := ix v hv
    obtain ⟨e', kq, k, he', hkq, got⟩ := made j t hj
    have ee : e' = e := Option.some.inj (he'.symm.trans he)
    subst ee
    obtain ⟨_, its, rv, ot, a1, a2, nt, a3⟩ := (show ObjOk X.prog X.w H s.heap kq (.tup [.int e'.1.1, .int e'.1.2]) from I.hok kq _ hkq)
    obtain ⟨u1, u2, rfl, ri, rj⟩ := vals2 rv
    obtain ⟨t1, rfl⟩ := ri
    obtain ⟨t2, rfl⟩ := rj
    rw [ev]
    exact ⟨t, kq, k, t1, t2, rfl, ⟨_, up2 _ _ got, rfl, 0, rfl⟩, ⟨ot, up2 _ _ (hk _ _ a1), a2, nt, a3⟩⟩
  refine wpAny_call_entry PyProof.Rows.slot_list_sort ⟨_, hob, rfl⟩ PyProof.Rows.entry_list_sort
    (SrtO.list_sort_ord (s := { s with heap := h2, toks := tk }) (ltv := fun v u => SrtO.lexB (entOf as es v).1 (entOf as es u).1) (SrtO.swo_lex fun v => (entOf as es v).1) hob (by rw [List.length_map]; omega)
      (fun n2 => ent_sortable (by show X.A.units + 1 + 1 < cLine; omega) (by omega) isIn (fun v hv u hu' k => ?_) fun o e => ?_) fun out g1 g2 => ⟨.none, rfl, ?_⟩) (PyProof.Rows.args_list_sort _)
  · obtain ⟨i, t, e, _, hi, he, ev⟩ := ix v hv
    obtain ⟨j, t', f, _, hj, hf, eu⟩ := ix u hu'
    rw [ev, eu] at k ⊢
    exact ent_one ndk he hf k
  · have e' : some o = some (seqObj "list" (as.map Value.ref).toArray 0) := e.symm.trans hob
    cases e'
    intro c
    exact absurd (Value.type.inj c) (by decide)
  · show EP X pins σ Q (.ref h'.objs.size) { s with heap := sortedHeap h2 h'.objs.size (as.map Value.ref) out.toArray, toks := tk }
    obtain ⟨zs, pz, ez⟩ := perm_lift (fun z : Addr × Ent => Value.ref z.1) g2.perm (as.zip es) (by
      rw [show (fun z : Addr × Ent => Value.ref z.1) = Value.ref ∘ Prod.fst from rfl, ← List.map_map, List.map_fst_zip (by omega)])
    have idx : ∀ z ∈ zs, ∃ j : Nat, as[j]? = some z.1 ∧ es[j]? = some z.2 := fun z hz => by
      obtain ⟨j, hj⟩ := List.mem_iff_getElem?.mp (pz.mem_iff.mp hz)
      exact ⟨j, List.getElem?_zip_eq_some.mp hj⟩
    have hout : out = (zs.map (·.1)).map Value.ref := by
      rw [← ez, List.map_map]
      rfl
    have pm : (zs.map (·.2)).Perm es := by
      have e := pz.map (·.2)
      rw [List.map_snd_zip (by omega)] at e
      exact e
    have srt : (zs.map (·.2)).Pairwise (fun e f => SrtO.lexB f.1 e.1 = false) := by
      have g3 : out.Pairwise (fun v u => SrtO.lexB (entOf as es u).1 (entOf as es v).1 = false) := g1
      rw [← ez, List.pairwise_map] at g3
      rw [List.pairwise_map]
      refine List.Pairwise.imp_of_mem (fun {x y} hx hy c => ?_) g3
      obtain ⟨j, j1, j2⟩ := idx x hx
      obtain ⟨i, i1, i2⟩ := idx y hy
      rw [entOf_at nd j1 j2, entOf_at nd i1 i2] at c
      exact c
    have kF : ∀ b o, b ≠ h'.objs.size → h2.get? b = some o → (sortedHeap h2 h'.objs.size (as.map Value.ref) out.toArray).get? b = some o := fun b o hb e => (PyProof.Rows.sortedHeap_old hb (Heap.lt_size e)).trans e
    obtain ⟨c, hL⟩ := PyProof.Rows.sortedHeap_at (vs := as.map Value.ref) (out := out.toArray) hob
    obtain ⟨H', J, ex, free, hl', tds⟩ := items_track (hF := sortedHeap h2 h'.objs.size (as.map Value.ref) out.toArray) (tk := tk) (l := h'.objs.size) (c := c) (zs := zs.map (·.1)) I (fun b o e => kF b o (off _ _ (hk b o e)) (up2 _ _ (hk b o e))) (Nat.le_of_lt hlt)
      (fun m => Nat.lt_irrefl _ (G.there m)) nd (fun t m => Nat.le_of_lt (G.above t m)) (fun j t hj => by
        obtain ⟨e, kq, k, he, hkq, got⟩ := made j t hj
        exact ⟨e, kq, k, he, hkq, kF _ _ (off _ _ got) (up2 _ _ got)⟩) (by
        have := pm.length_eq
        rw [List.length_map] at this ⊢
        omega) (by rw [← hout]; exact hL)
    refine ⟨.ref h'.objs.size, H', J, rfl, q H' h'.objs.size (zs.map (·.1)) (zs.map (·.2)) pm srt ex free hl' (tds_of (by rw [List.length_map, List.length_map]) fun j t e h1 h2 => ?_)⟩
    rw [List.getElem?_map] at h1 h2
    cases hz : zs[j]? with
    | none =>
      rw [hz] at h1
      cases h1
    | some z =>
      rw [hz] at h1 h2
      have x1 : z.1 = t := Option.some.inj h1
      have x2 : z.2 = e := Option.some.inj h2
      subst x1 x2
      obtain ⟨i, i1, i2⟩ := idx z (List.mem_of_getElem? hz)
      exact tds i _ _ i1 i2
end Bs

namespace Bs
open PySem PySem.Spec PyProof.Rows L2
open Evl (Ex)
/-! ### list(d.items()), keys pairs of ints -/
section
open PySem.W PySem.Calls
variable {prog : Program} {w : World} {A : Around} {E : Value → Shared → Prop} {s : Shared} {r d : Addr} {es : Array DictEntry} {ep : Nat}
theorem list_view {Q : Value → Shared → Prop} (calm : A.handled = none) (view : s.heap.IsItemsView r d) (raw : DT.Raw s.heap d es ep) (fits : es.size ≤ sizeLine)
    (next : ∀ h' tk acc c as, (∀ b o, s.heap.get? b = some o → h'.get? b = some o) → h'.get? s.heap.objs.size = some { cls := .type "list", dict := none, data := .seq acc c, slots := #[] } → as.length = es.size → DT.Made es s.heap.objs.size h' as →
      acc.toList = as.map Value.ref → Q (.ref s.heap.objs.size) { s with heap := h', toks := tk }) : wpAny (model prog w) A (call (.type "list") [.ref r]) Q E s := by
  refine callType_codes (Q₁ := fun obj s₁ => obj = .ref s.heap.objs.size ∧ s₁ = { s with heap := s.heap.push { cls := .type "list", data := .seq #[] } }) PySem.F.called_list (PySem.F.typeCall_list_1 _) PySem.F.entry_list_init (code_list_new _ ⟨rfl, rfl⟩) fun obj s₁ two => ?_
  obtain ⟨e1, e2⟩ := two
  subst e1 e2
  have at_ : (s.heap.push { cls := .type "list", data := .seq #[] }).get? s.heap.objs.size = some { cls := .type "list", data := .seq #[] } := Heap.get?_push_size _ rfl
  obtain ⟨ov, hv, rv⟩ := view
  have lr : r < s.heap.objs.size := Heap.lt_size hv
  have ld := raw.lt
  refine ⟨⟨_, at_, rfl⟩, PySem.F.args_list_init_2 _ _, ?_⟩
  show wpAny (model prog w) A.in1.in1 (do let old ← Builtin.List.listItems (.ref s.heap.objs.size); Builtin.List.listUpdate (.ref s.heap.objs.size) (fun _ => #[]); letGo old.toList.reverse; Builtin.List.listExtendWith (.ref s.heap.objs.size) (.ref r) .none) _ _ _
  refine wpAny_bind ?_
  unfold Builtin.List.listItems
  refine wpAny_bind (wpAny_seqItems at_ rfl (wpAny_pure ?_))
  show wpAny _ _ (updateSeq s.heap.objs.size (fun _ => #[]) >>= fun _ => letGo (#[] : Array Value).toList.reverse >>= fun _ => Builtin.List.listExtendWith (.ref s.heap.objs.size) (.ref r) .none) _ _ _
  refine wpAny_bind (wpAny_updateSeq at_ rfl ?_)
  have at2 := Heap.get?_update_self (Obj.mapSeq (fun _ => (#[] : Array Value))) at_ rfl
  obtain ⟨c0, at3⟩ : ∃ c0, ((s.heap.push { cls := .type "list", data := .seq #[] }).update s.heap.objs.size (Obj.mapSeq (fun _ => (#[] : Array Value)))).get? s.heap.objs.size = some { cls := .type "list", data := .seq #[] c0 } := ⟨_, at2⟩
  have other : ∀ b o, b ≠ s.heap.objs.size → (s.heap.push { cls := .type "list", data := .seq #[] }).get? b = some o → ((s.heap.push { cls := .type "list", data := .seq #[] }).update s.heap.objs.size (Obj.mapSeq (fun _ => (#[] : Array Value)))).get? b = some o :=
    fun b o hb e => (Heap.get?_update_other _ _ (Ne.symm hb)).trans e
  have low : ∀ b o, s.heap.get? b = some o → ((s.heap.push { cls := .type "list", data := .seq #[] }).update s.heap.objs.size (Obj.mapSeq (fun _ => (#[] : Array Value)))).get? b = some o :=
    fun b o e => other b o (Nat.ne_of_lt (Heap.lt_size e)) (Heap.get?_push_of_some _ e)
  refine wpAny_bind (wpAny_letGo ?_)
  refine DT.extI (s := { s with heap := (s.heap.push { cls := .type "list", data := .seq #[] }).update s.heap.objs.size (Obj.mapSeq (fun _ => (#[] : Array Value))) }) (A := A.in1) (es := es) (ep := ep) (show A.in1.handled = none from calm) ⟨ov, low _ _ hv, rv⟩ (raw.at' fun o e => low d o e) s.heap.objs.size (Nat.ne_of_gt lr) (Nat.ne_of_lt ld) (.none) c0 at3 (fun h' tk acc c as up got len made eq => ?_) fits
  exact ⟨rfl, next h' tk acc c as (fun b o e => up b o (Nat.ne_of_lt (Heap.lt_size e)) (low b o e)) got len (made.low (Nat.le_of_lt (Heap.lt_size at2))) eq⟩
end
def rListItP : List V → Hp → VK → Prop := fun vs H Q => ∃ (p d : Addr) (es : List Ent), vs = [.ref p] ∧ H p = some (DX.itemsO p d) ∧ H d = some (.dT (es.map entP)) ∧
  ∀ (H' : Hp) (l : Addr) (ts : List Addr), Ex H H' → H l = none → H' l = some (.lst (ts.map V.ref)) → TDs H' (ts.map V.ref) (es.map itemD) → Q (.ref l) H'
theorem cr_listItP {X : Cx} (hc : X.calm = true) : CallR X (.type "list") rListItP := by
  intro pins s σ H vs us Q I r h
  obtain ⟨p, d, es, rfl, hp, hd, q⟩ := h
  rw [Vals.ref1 r]
  have view : s.heap.IsItemsView p d := (show ObjOk X.prog X.w H s.heap p (DX.itemsO p d) from I.hok p _ hp).1
  obtain ⟨z, ns, xs, rel, o, ents, ep, ho, hx, hdat, hes, his, nd0⟩ := dt_of I.hok hd
  have l1 : (es.map entP).length = xs.length := Paired.length rel
  rw [List.length_map] at l1 z
  have l2 : ents.size = xs.length := size_of_entries hes
  refine list_view (es := ents) (ep := ep) (I.ok.hd hc) view ⟨o, ho, hx, hdat⟩ (by omega) fun h' tk acc c as hk hL hl G ea => ?_
  have nd : as.Nodup := List.Pairwise.imp (fun c => Nat.ne_of_lt c) G.rise
  obtain ⟨H', J, ex, free, hl', tds⟩ := items_track (hF := h') (tk := tk) (l := s.heap.objs.size) (c := c) (zs := as) I hk (Nat.le_refl _) (fun m => Nat.lt_irrefl _ (G.above _ m)) nd (fun t m => Nat.le_of_lt (G.above t m))
    (fun j t hj => made_at (X := X) rel hes G hj) (by omega) (by
      have : acc = (as.map Value.ref).toArray := by rw [← ea, Array.toArray_toList]
      rw [hL, this])
  exact ⟨.ref _, H', J, rfl, q H' _ as ex free hl' (tds_of (by omega) tds)⟩
/-! ### d.clear() -/
def rClearT : V → List V → Hp → VK → Prop := fun x xs H Q => ∃ (d : Addr) (kvs : List (List L2.Key × V)), x = .ref d ∧ xs = [] ∧ H d = some (.dT kvs) ∧ Q .non (upd H d (.dT []))
theorem mt_clearT {X : Cx} : MtR X "dict.clear" rClearT := by
  intro pins s σ H x xs v us Q I rx rxs h
  obtain ⟨d, kvs, rfl, rfl, hd, q⟩ := h
  cases rx
  cases rxs
  obtain ⟨z, ns, ents, rel, o, es, ep, ho, hx, hdat, hes, his, nd⟩ := dt_of I.hok hd
  have l1 := Paired.length rel
  have l2 : es.size = ents.length := size_of_entries hes
  refine call_meetsIn PySem.F.slot_dict_clear ⟨o, ho, hx.1⟩ PySem.F.entry_dict_clear (PySem.F.args_dict_clear_1 _) (PySem.meets_dict_clear_raw d) ⟨es, ep, ⟨o, ho, hx, hdat⟩, by omega, fun h2 raw same => ?_⟩
  obtain ⟨o2, ho2, hx2, hdat2⟩ := raw
  exact ⟨.non, _, d_write (t' := s.toks) (ob := .dT []) I (by rw [hd]; trivial) same ⟨o2, ho2⟩ ⟨Nat.zero_le _, ns, [], .nil, o2, #[], ep + 1, ho2, hx2, hdat2, rfl, List.nodup_nil⟩, rfl, q⟩
end Bs

namespace Bs
open PySem PySem.Spec PyProof.Rows L2
open Evl (Ex)
/-! ### for .., .. in d.items(), keys pairs of ints, d locked -/
def Itp (d : Addr) (o : Obj) (es : List Ent) : It :=
  { go := fun i H => H d = some (.frz o (.dT (es.map entP))) ∧ i < es.length
    yld := fun i H x H' => ∃ (a : Addr) (e : Ent) (q : Addr), es[i]? = some e ∧ x = .ref a ∧ H a = none ∧ H q = some (.tup [.int e.1.1, .int e.1.2]) ∧ H' = upd H a (.tup [.ref q, .int e.2])
    stop := fun i H => H d = some (.frz o (.dT (es.map entP))) ∧ es.length ≤ i }
section
variable {X : Cx} {pins : List (Addr × Obj)} {σ : L2.St} {H : Hp} {s : Shared} {d : Addr} {o : Obj} {es : List Ent}
theorem frz_items (I : L2.Inv X pins σ H s) (h : H d = some (.frz o (.dT (es.map entP)))) :
    (d == sysModules) = false ∧ ∃ (ents : Array DictEntry) (ep : Nat), DT.Raw s.heap d ents ep ∧ o.data = .dict ents ep ∧ ents.size = es.length ∧ ents.size ≤ sizeLine ∧
      ∀ (i : Nat) (e : Ent), es[i]? = some e → ∃ (en : DictEntry) (q : Addr) (k : Tok), ents[i]? = some en ∧ en.key = .ref q ∧ en.val = .int e.2 k ∧ H q = some (.tup [.int e.1.1, .int e.1.2]) := by
  obtain ⟨at_, z, ns, xs, rel, o', ents, ep, ho, hx, hdat, hes, _⟩ := I.hok d _ h
  have oo : o = o' := Option.some.inj (at_.symm.trans ho)
  subst oo
  have l1 : (es.map entP).length = xs.length := Paired.length rel
  rw [List.length_map] at l1 z
  have l2 : ents.size = xs.length := size_of_entries hes
  refine ⟨ns, ents, ep, ⟨o, ho, hx, hdat⟩, hdat, by omega, by omega, fun i e he => ?_⟩
  have lt : i < xs.length := by
    have := (List.getElem?_eq_some_iff.mp he).1
    omega
  have hxi : xs[i]? = some xs[i] := List.getElem?_eq_getElem lt
  obtain ⟨kv, hkv, r1, r2, r3⟩ := pair_at rel hxi
  rw [List.getElem?_map, he] at hkv
  have ek : entP e = kv := Option.some.inj hkv
  subst ek
  obtain ⟨k, hk⟩ := (show ∃ k, xs[i].2.2 = Value.int e.2 k from r3)
  refine ⟨entryOfKey (tupleKind (mixKind X.prog X.w)) xs[i], xs[i].2.1, k, ?_, rfl, hk, r2⟩
  rw [entry_at hes i, hxi]
  rfl
end
theorem turn_itp {P : Program} {w : World} {K : PySem.W.Frag} {d : Addr} {o : Obj} {es : List Ent} {ents : Array DictEntry} {ep : Nat} {elts : List Expr} {kk : Nat} {tpos : Pos} (it : Addr) (dat : o.data = .dict ents ep) :
    Turn P w K (.Tuple elts kk tpos) (Itp d o es) [it] it (fun i h => ∃ ok ov, IsItemIter h it d i ents.size ep ok ov) where
  mem := by simp
  obj := fun i h st b hb => by
    obtain ⟨ok, ov, e⟩ := st
    rw [List.mem_singleton.mp hb]
    exact ⟨_, e, fun v z => nomatch z⟩
  keep := fun i h h' st k => st.elim fun ok z => z.elim fun ov e => ⟨ok, ov, k it (List.mem_singleton.mpr rfl) _ e⟩
  item := by
    intro X hP hw hK hc i pins s σ H E I hf st hg
    subst hP hw hK
    obtain ⟨hd, hi⟩ := hg
    obtain ⟨ns, ents', ep', raw, dat', size, _, ent⟩ := frz_items I hd
    obtain ⟨e1, e2⟩ := dict_ep dat dat'
    subst e1 e2
    obtain ⟨e, he⟩ : ∃ e, es[i]? = some e := ⟨_, List.getElem?_eq_getElem hi⟩
    obtain ⟨en, q, k, hen, hkey, hval, hq⟩ := ent i e he
    obtain ⟨ok, ov, hit⟩ := st
    have lt : it < s.heap.objs.size := Heap.lt_size hit
    have li : i < ents'.size := by omega
    have ei : ents'[i] = en := by
      rw [Array.getElem?_eq_getElem li] at hen
      exact Option.some.inj hen
    refine DT.nextI hit raw li fun h' out at_ sz kept => ?_
    rw [ei, hkey, hval] at at_
    refine ⟨_, rfl, wpAny_letOwnedTupleGo_items (s := { s with heap := h' }) out fun h2 again same => ?_⟩
    have at2 : h2.get? s.heap.objs.size = some { cls := .type "tuple", data := .seq #[Value.ref q, Value.int e.2 k] } := (same.2 _ (Nat.ne_of_gt lt)).trans at_
    have new : ObjOk X.prog X.w (upd H s.heap.objs.size (.tup [.ref q, .int e.2])) h2 s.heap.objs.size (.tup [.ref q, .int e.2]) :=
      ⟨by show 2 ≤ sizeLine; decide, [Value.ref q, Value.int e.2 k], .cons rfl (.cons ⟨k, rfl⟩ .nil), ⟨_, at2, rfl, _, rfl⟩⟩
    have J : L2.Inv X pins σ (upd H s.heap.objs.size (.tup [.ref q, .int e.2])) { s with heap := h2 } :=
      I.turnedNew (t' := s.toks) (ch := [it]) (fun b ob hb e => (same.2 b (by simpa using hb)).trans (kept b ob (by simpa using hb) e)) hf (Nat.le_refl _) new
    refine ⟨.ref s.heap.objs.size, _, J, rfl, ⟨_, e, q, he, rfl, I.hok.fresh (Nat.le_refl _), hq, rfl⟩, ⟨_, _, again⟩, fun b hb => ?_⟩
    rw [List.mem_singleton.mp hb, upd_ne (Nat.ne_of_lt lt)]
    exact (hf it (List.mem_singleton.mpr rfl)).1
  done := by
    intro X hP hw hK hc i pins s σ H E I hf st hg
    subst hP hw hK
    obtain ⟨hd, hi⟩ := hg
    obtain ⟨f0, f1, f2, f3, f4, f5⟩ := hf it (List.mem_singleton.mpr rfl)
    obtain ⟨ns, ents', ep', raw, dat', size, _, ent⟩ := frz_items I hd
    obtain ⟨e1, e2⟩ := dict_ep dat dat'
    subst e1 e2
    obtain ⟨ok, ov, hit⟩ := st
    exact DT.endI (I.ok.hd hc) hit raw (by omega) fun h' eb => ⟨rfl, I.turned (t' := s.toks) (fun b ob hb e => eb b ob hb e) f0 f1 f3 f4 f5⟩
  self := fun A i s Q E st h => st.elim fun _ z => z.elim fun _ e => PySem.W.kcp_self e h
def iItp (td : TE) : TI := fun σ H R => td σ H fun x H1 => ∃ d o es, x = .ref d ∧ H1 d = some (.frz o (.dT (es.map entP))) ∧ R (Itp d o es) H1
theorem pi_itp {X : Cx} {e : Expr} {td : TE} {apos cpos : Pos} {elts : List Expr} {kk : Nat} {tpos : Pos} (he : PE X e td) (hbase : attributeBase e "items" X.env (eval e X.env) = eval e X.env := by rfl) (hline : (apos.endLine == cpos.line) = true := by rfl) :
    PI X (.Tuple elts kk tpos) (.Call (.Attribute e "items" apos) [] [] cpos) (iItp td) := by
  refine ⟨fun pins s σ H R I h => ?_⟩
  refine wpAny_Call_method (T := "dict") (id := "dict.items") hbase rfl hline F.plainAttrs_dict F.slot_dict_items F.type_dict_items (thn (he.run pins s σ H _ I h) fun u s1 ⟨x, H1, J, rx, d, o, es, ex, hd, q⟩ => ?_)
  subst ex
  obtain rfl : u = Value.ref d := rx
  obtain ⟨ns, ents, ep, raw, dat, size, fits, ent⟩ := frz_items J hd
  obtain ⟨o', ho, hx, _⟩ := id raw
  refine ⟨⟨o', ho, hx.1⟩, (fun b z => by
    cases z
    exact ⟨o', ho, hx.2.1⟩), ?_⟩
  have J2 : L2.Inv X pins σ H1 { s1 with heap := s1.heap.push { cls := .type "dict_items", data := .fields #[.ref d] } } := J.kept (t' := s1.toks) fun b ob q => Heap.get?_push_of_some _ q
  have fin : wpAny (model X.prog X.w) X.A (pyIter (.ref s1.heap.objs.size)) (PIE X pins σ (.Tuple elts kk tpos) R) X.xe { s1 with heap := s1.heap.push { cls := .type "dict_items", data := .fields #[.ref d] } } := by
    refine DT.iterI (d := d) ⟨_, Heap.get?_push_size _ rfl, rfl, rfl⟩ (raw.push _) (pi_one (tk := s1.toks) J2 _ (turn_itp _ dat) ⟨.none, .none, Heap.get?_push_size _ rfl⟩ q)
  show wpAny _ _ (callWith cpos (.builtin "dict.items") [.ref d] [] []) _ X.xe s1
  exact method_meetsIn F.slot_dict_items F.entry_dict_items rfl (PySem.evalArgs_none ⟨rfl, ⟨o', ho, hx.1⟩, F.args_dict_items_1 _, _, DT.meetsItems (es := ents) (ep := ep) ns, ⟨raw, fin⟩⟩)
end Bs

namespace Bs
open PySem PySem.Spec PyProof.Rows L2
open Evl (Ex)
/-! ### range(n) as a value, list(range(n)) -/
theorem cr_range1 {X : Cx} : CallR X (.type "range") (fun vs H Q => ∃ n, vs = [V.int n] ∧ ∀ p, H p = none → Q (.ref p) (upd H p (.rng 0 n))) := by
  intro pins s σ H vs us Q I r h
  obtain ⟨n, rfl, q⟩ := h
  obtain ⟨u, rfl, ru⟩ := vals1 r
  obtain ⟨t, rfl⟩ := ru
  exact call_range_1 ⟨.ref s.heap.objs.size, upd H s.heap.objs.size (.rng 0 n), I.laid (t' := s.toks + 1 + 1) (fun b o e => Heap.get?_push_of_some _ e) (Nat.le_refl _) ⟨s.toks, t, s.toks + 1, Heap.get?_push_size _ rfl⟩, rfl, q _ (I.hok.fresh (Nat.le_refl _))⟩
def upTo (n : Nat) : List Int := (List.range n).map fun (k : Nat) => (k : Int)
theorem vals_upTo : ∀ (vs : List Value) (a : Nat), (∀ (i : Nat) (v : Value), vs[i]? = some v → ∃ t, v = .int (a + i : Nat) t) → Vals ((List.range' a vs.length).map fun (k : Nat) => V.int (k : Int)) vs
  | [], _, _ => .nil
  | v :: vs, a, h => by
    rw [List.length_cons, List.range'_succ, List.map_cons]
    refine .cons ?_ (vals_upTo vs (a + 1) fun i u e => ?_)
    · obtain ⟨t, e⟩ := h 0 v rfl
      exact ⟨t, e⟩
    · obtain ⟨t, e'⟩ := h (i + 1) u e
      exact ⟨t, by rw [e', show a + (i + 1) = a + 1 + i from by omega]⟩
theorem cr_listRng {X : Cx} (hc : X.calm = true) : CallR X (.type "list") (fun vs H Q => ∃ (r : Addr) (n : Nat), vs = [.ref r] ∧ H r = some (.rng 0 n) ∧ n ≤ 100000 ∧ ∀ p, H p = none → Q (.ref p) (upd H p (.lst ((upTo n).map V.int)))) := by
  intro pins s σ H vs us Q I r h
  obtain ⟨a, n, rfl, ha, hn, q⟩ := h
  rw [Vals.ref1 r]
  obtain ⟨t, u, v, e⟩ := (show ∃ t u v, s.heap.get? a = some { cls := .type "range", data := .fields #[.int 0 t, .int n u, .int 1 v] } from I.hok a _ ha)
  refine call_list_range (n := n) (t := t) (u := u) (v := v) (I.ok.hd hc) e (small_one (by omega) (by omega) (by omega) (by omega)) (by rw [rangeSize_one]; omega) (by omega) fun h' tk acc c up got it => ?_
  have len : acc.toList.length = n := by rw [Array.length_toList]; exact it.1
  have rv : Vals ((upTo n).map V.int) acc.toList := by
    have := vals_upTo acc.toList 0 fun i v e => by
      obtain ⟨t, e'⟩ := it.2 i v (by rw [← Array.getElem?_toList]; exact e)
      exact ⟨t, by rw [e', Int.mul_one]; simp⟩
    rw [len, ← List.range_eq_range'] at this
    unfold upTo
    rw [List.map_map]
    exact this
  refine ⟨.ref _, _, I.laid (t' := tk) (o := .lst ((upTo n).map V.int)) up (Nat.le_refl _) ⟨?_, acc.toList, c, rv, ?_⟩, rfl, q _ (I.hok.fresh (Nat.le_refl _))⟩
  · unfold upTo
    rw [List.length_map, List.length_map, List.length_range, sizeLine_eq]
    omega
  · rw [Array.toArray_toList]
    exact got
/-! ### t[::-1], t a pair -/
section
variable {prog : Program} {w : World} {A : Around} {E : Value → Shared → Prop} {s : Shared}
theorem getItem_pair_back {t sl : Addr} {x y vl vu vs : Value} {Q : Value → Shared → Prop} (ht : IsTup s.heap t #[x, y]) (hs : s.heap.IsSliceOf sl vl vu vs) (pl : IsPart vl none) (pu : IsPart vu none) (ps : IsPart vs (some (-1)))
    (h : Q (.ref s.heap.objs.size) { s with heap := s.heap.push { cls := .type "tuple", data := .seq #[y, x] } }) : wpAny (model prog w) A (getItem (.ref t) (.ref sl)) Q E s := by
  obtain ⟨os, hos, hcs, hds⟩ := id hs
  have hTs : s.TypeIs (.ref sl) "slice" := ⟨os, hos, hcs⟩
  unfold getItem
  try with_reducible refine wpAny_holding ?_
  first | refine wpAny_bind (wpAny_pure ?_) | skip
  refine wpAny_bind (wpAny_sequenceKey ht.typeIs (by decide) ?_)
  refine wpAny_bind (wpAny_callSpecial?_slot (name := Str.ofString "__getitem__") ht.typeIs PyProof.Rows.slot_tuple_getitem
    (wpAny_call_entry PyProof.Rows.slot_tuple_getitem ht.typeIs entry_tuple_getitem ?_ (args_tuple_getitem _ _)))
  show wpAny _ _ (Builtin.Tuple.tupleItemsOf (.ref t) >>= _) _ _ s
  refine wpAny_bind (tupleItemsOf_ ht ?_)
  refine wpAny_bind (wpAny_typeOf hTs ?_)
  rw [if_pos (by decide)]
  refine wpAny_bind ?_
  unfold Builtin.Slice.sliceApplied Builtin.Slice.sliceFields
  refine wpAny_bind (wpAny_bind (wpAny_field hos hds (x := vl) rfl (wpAny_bind (wpAny_field hos hds (x := vu) rfl (wpAny_bind (wpAny_field hos hds (x := vs) rfl (wpAny_pure ?_)))))))
  refine wpAny_bind (HT.slicePart_ ps ?_)
  show wpAny _ _ (if ((-1 : Int) == 0) = true then _ else _) _ _ s
  rw [if_neg (by decide)]
  refine wpAny_bind (HT.slicePart_ pl (wpAny_bind (HT.slicePart_ pu (wpAny_bind (wpAny_pure ?_)))))
  have adj : Builtin.Slice.sliceAdjust none none (-1) ((#[x, y] : Array Value).size : Int) = (1, -1) := by
    show Builtin.Slice.sliceAdjust none none (-1) 2 = (1, -1)
    decide
  show wpAny _ _ (match Builtin.Slice.sliceAdjust none none (-1) ((#[x, y] : Array Value).size : Int) with | (lo, hi) => pure (lo, (-1 : Int), Builtin.Slice.slicePlaces lo hi (-1))) _ _ s
  rw [adj]
  show wpAny _ _ (pure ((1 : Int), (-1 : Int), Builtin.Slice.slicePlaces 1 (-1) (-1))) _ _ s
  have pl2 : Builtin.Slice.slicePlaces 1 (-1) (-1) = 2 := by decide
  rw [pl2]
  refine wpAny_pure ?_
  show wpAny _ _ (if ((1 : Int) == 0 && (-1 : Int) == 1 && (2 : Nat) == (#[x, y] : Array Value).size) = true then _ else _) _ _ s
  rw [if_neg (by simp)]
  have pick : ((List.range 2).filterMap fun (k : Nat) => (#[x, y] : Array Value)[((1 : Int) + (k : Int) * (-1)).toNat]?).toArray = #[y, x] := rfl
  rw [pick]
  have fits : sizeOk (.seq (#[y, x] : Array Value)) := by
    show (#[y, x] : Array Value).size ≤ sizeLine
    rw [sizeLine_eq]
    show 2 ≤ 16777216
    decide
  first
    | exact wpAny_bind (m := Builtin.Tuple.tupleExact _) (wpAny_newObj_type (wpAny_pure ⟨_, rfl, wpAny_pure h⟩) fits)
    | exact wpAny_bind (m := Builtin.Tuple.tupleExact _) (wpAny_newObj_type (wpAny_bind (wpAny_pure (wpAny_pure ⟨_, rfl, wpAny_pure h⟩))) fits)
    | exact wpAny_bind (wpAny_bind (m := Builtin.Tuple.tupleExact _) (wpAny_newObj_type (wpAny_pure (wpAny_pure ⟨_, rfl, wpAny_pure h⟩)) fits))
    | exact wpAny_bind (wpAny_bind (m := Builtin.Tuple.tupleExact _) (wpAny_newObj_type (wpAny_pure ⟨_, rfl, wpAny_pure h⟩) fits))
end
def tRevP (te : TE) : TE := fun σ H Q => te σ H fun x H1 => ∃ (a : Addr) (u v : V), x = .ref a ∧ H1 a = some (.tup [u, v]) ∧ ∀ p, H1 p = none → Q (.ref p) (upd H1 p (.tup [v, u]))
theorem pe_revP {X : Cx} {e : Expr} {te : TE} {k : Nat} {p1 p2 p3 pos : Pos} (he : PE X e te) : PE X (.Subscript e (.Slice none none (some (.UnaryOp .USub (.Constant (.int 1) k p1) p2)) p3) pos) (tRevP te) := by
  refine ⟨fun pins s σ H Q I h => ?_⟩
  refine Subscript_ (thn (he.run pins s σ H _ I h) fun v s1 ⟨x, H1, I1, r1, a, y1, y2, ex, hx, q⟩ => ?_)
  subst ex
  cases r1
  have step : PO X (some (.UnaryOp .USub (.Constant (.int 1) k p1) p2)) (tPart (tUn (rU fun i => .int (-i)) (tC (.int 1)))) := po_some (pe_un un_neg pe_int)
  refine wpAny_Slice (thn (po_none.run pins s1 σ H1 (fun o H2 => o = none ∧ H2 = H1) I1 ⟨rfl, rfl⟩) fun vl s2 ⟨l, H2, I2, pl, e1, e2⟩ => ?_)
  subst e1 e2
  refine thn (po_none.run pins s2 σ H2 (fun o H3 => o = none ∧ H3 = H2) I2 ⟨rfl, rfl⟩) fun vu s3 ⟨u, H3, I3, pu, e3, e4⟩ => ?_
  subst e3 e4
  refine thn (step.run pins s3 σ H3 (fun o H4 => o = some (-1) ∧ H4 = H3) I3 ⟨1, rfl, -1, rfl, rfl, rfl⟩) fun vs s4 ⟨o, H4, I4, ps, e5, e6⟩ => ?_
  subst e5 e6
  have I5 : L2.Inv X pins σ H4 { s4 with heap := s4.heap.push { cls := .type "slice", data := .fields #[vl, vu, vs] } } := I4.kept (t' := s4.toks) fun b ob q => Heap.get?_push_of_some _ q
  obtain ⟨z, its, rv, at_⟩ := I5.hok a _ hx
  obtain ⟨v1, v2, rfl, rx, ry⟩ := vals2 rv
  have tp : IsTup (s4.heap.push { cls := .type "slice", data := .fields #[vl, vu, vs] }) a #[v1, v2] := at_
  show wpAny (model X.prog X.w) X.A (subscriptTail e (.Slice none none (some (.UnaryOp .USub (.Constant (.int 1) k p1) p2)) p3) (.ref a) (.ref s4.heap.objs.size)) (EP X pins σ Q) X.xe { s4 with heap := s4.heap.push { cls := .type "slice", data := .fields #[vl, vu, vs] } }
  refine tail_any (ops := [.ref a, .ref s4.heap.objs.size]) (show Shared.TypeIs { s4 with heap := s4.heap.push { cls := .type "slice", data := .fields #[vl, vu, vs] } } (.ref a) "tuple" from tp.typeIs) (PyProof.Rows.slot_tuple_getitem.lookup) ?_ (by with_unfolding_all rfl)
  refine getItem_pair_back tp (Heap.IsSliceOf.new _ vl vu vs) pl pu ps ?_
  refine ⟨.ref _, _, I5.laid (t' := s4.toks) (o := .tup [y2, y1]) (fun b ob q => Heap.get?_push_of_some _ q) (Nat.le_refl _) ⟨z, [v2, v1], .cons ry (.cons rx .nil), IsTup.new _ _⟩, rfl, q _ (I5.hok.fresh (Nat.le_refl _))⟩
end Bs

namespace Bs
open PySem PySem.Spec PyProof.Rows L2
open Evl (Ex)
/-! ### a def that is run at one place, of which more is known than of any -/
section
variable {P : Program} {w : World} {K : PySem.W.Frag} {mg : Str → Option Value} {base : Heap}
def RunAt (P : Program) (w : World) (K : PySem.W.Frag) (mg : Str → Option Value) (base : Heap) (A : Around) (f : Addr) (fd : FuncData) (ps : List Str) (sp : Sp) : Prop :=
  ∀ (outer : List Env) (s : Shared) (H : Hp) (args : Args) (us : List Value) (vs : List V) (Q : VK) (E : XK), Env0 P w K mg base A outer s H → BindsTo s fd args (ps.zip us) → Vals vs us → sp vs H Q E →
    codeAny (model P w) A (.call (.ref f) args) (CR CX0 outer P w H s Q E) s
theorem run_at {x qual : Str} {st : Stmt} {f : Addr} {fd : FuncData} {N ps : List Str} {k : Nat} {sp : Sp} {A : Around} (F : Fun K x qual st f fd) (S : FnScope N ps (defScope st)) (len : ∀ vs H Q E, sp vs H Q E → vs.length = ps.length) (room : Room (k + 1) A)
    (body : ∀ (cdv : Value) (outer : List Env) (s : Shared) (H : Hp) (vs : List V) (Q : VK) (E : XK), Room k (A.deeper (envOfC qual (defScope st) s.heap.objs.size f cdv)) → sp vs H Q E →
      ∃ t, PSs (cxOf CX0 P w K mg base N qual (defScope st) f cdv A outer s H E).nox (defBody st) t ∧ t { nx := fun _ H' => Q .non H', rt := Q } (start N vs) H) : RunAt P w K mg base A f fd ps sp := by
  obtain ⟨oc, od, kV, doc, pm, an, cdv, ct, osl, rfl, lk, hcd⟩ := F.ex
  intro outer s H args us vs Q E e0 hb r hsp
  have keep_ : ∀ b o, base.get? b = some o → s.heap.get? b = some o := fun b o e => (e0.bs b o e).1
  have KX : K.In s.heap := e0.mod.kin.keeps keep_
  have kinds : ∀ y ∈ ps.zip us, (defScope st).names.lookup y.1 = some .local ∨ ((defScope st).names.lookup y.1 = some .cell ∧ ((cellsFrom (s.heap.objs.size + 1) (defScope st).names []).lookup y.1).isSome = true) := fun y hy =>
    (S.par y.1 (List.of_mem_zip (a := y.1) (b := y.2) hy).1).imp id fun q => ⟨q, PySem.W.cellsFrom_some _ _ _ (.inl q)⟩
  refine codeAny_call_function room.depth (KX _ _ lk) rfl S.co S.gen rfl (PySem.W.codeRec_of KX hcd) (hb _ _ _ _ (wpAny_newFunctionEnv_cells S.kind kinds fun env he s1 made => ?_))
  subst he
  refine ⟨(e0.mod.nolimit.keeps keep_).keeps made.toInCall.keep, codeAny_func ?_⟩
  obtain ⟨t, ht, hq⟩ := body cdv outer s H vs Q E (room.deeper _) hsp
  have J := inv_start (CX := CX0) (E := E) (cd := cdv) (f := f) (qual := qual) S room.hd e0 (len _ _ _ _ hsp) r made
  refine wpAny_mono (ht.nox.run [] s1 (start N vs) H _ J hq) (fun fl s2 hs => ?_) fun _ _ hs => hs
  cases fl with
  | ret u => exact hs.elim fun v ⟨_, H2, J2, rv, q2⟩ => ⟨v, H2, J2.os, J2.bare, J2.base, J2.hok, rv, q2⟩
  | next => exact hs.elim fun _ ⟨H2, J2, q2⟩ => ⟨V.non, H2, J2.os, J2.bare, J2.base, J2.hok, rfl, q2⟩
  | brk => exact hs.elim fun _ ⟨_, _, q2⟩ => q2.elim
  | cont => exact hs.elim fun _ ⟨_, _, q2⟩ => q2.elim
/-- the law's call, its def run at the caller's place alone -/
theorem law_callG {mb : Str → Option Value} {fa a : Addr} {fd : FuncData} {x : Str} {sp : Sp} {s₁ : Shared} {vs : List Value} {ns : List Int}
    (KX : K.In s₁.heap) (hns : s₁.heap.Ns mainGlobals mg) (hb : s₁.heap.Ns builtinsNs mb) (hbb : ∀ x : Str, x ≠ "__name__" → mb x = bootBuiltins x) (hlim : s₁.heap.NoLimit) (hg : s₁.gens = #[])
    (ha : s₁.heap.get? a = some { cls := .type "list", data := .seq vs.toArray }) (hi : IntsAre vs ns) (hl : ns.length ≤ sizeLine)
    (F : ∀ base : Heap, K.In base → base.Ns mainGlobals mg → RunAt P w K mg base callerA fa fd [x] sp) (hbind : ∀ (s : Shared) (u : Value), BindsTo s fd ⟨[u], []⟩ [(x, u)])
    (hsp : ∀ H : Hp, Only H → SqL K H a (ns.map V.int) → sp [.ref a] H (fun v _ => v = .bl true) fun _ _ _ => False) :
    codeAny (model P w) callerA (.call (.ref fa) ⟨[.ref a], []⟩) (fun r s' => r = .ok (.ret (.bool true)) ∧ OldK s₁.heap s'.heap ∧ s'.os = s₁.os ∧ AllBare s'.gens) s₁ := by
  have rv := vals_ints hi
  have from_ : ∀ H : Hp, Only H → SqL K H a (ns.map V.int) → HOk P w H s₁.heap → (∀ b u, H b = some u → b = a ∧ K.lookup a = none) →
      codeAny (model P w) callerA (.call (.ref fa) ⟨[.ref a], []⟩) (fun r s' => r = .ok (.ret (.bool true)) ∧ OldK s₁.heap s'.heap ∧ s'.os = s₁.os ∧ AllBare s'.gens) s₁ := by
    intro H hO hS hok hA
    have notA : ∀ {b : Addr}, b ≠ a → H b = none := fun {b} n => by
      cases q : H b with
      | none => rfl
      | some u => exact absurd (hA b u q).1 n
    have space : ∀ {b : Addr} {m : Str → Option Value}, s₁.heap.Ns b m → (hidT s₁.heap H).Ns b m := fun {b m} z => by
      obtain ⟨o, es, ep, e, d, r⟩ := z
      refine ⟨o, es, ep, hidT_get e (notA fun eb => ?_), d, r⟩
      subst eb
      rw [ha] at e
      cases e
      exact absurd (show Data.seq vs.toArray _ = Data.dict es ep from d) (by intro z; cases z)
    have written : K.In (hidT s₁.heap H) := fun b o e => hidT_get (KX b o e) (by
      cases q : H b with
      | none => rfl
      | some u =>
        obtain ⟨eb, none_⟩ := hA b u q
        subst eb
        rw [none_] at e
        cases e)
    obtain ⟨mc, l1, l2⟩ := hlim
    have e0 : Env0 P w K mg (hidT s₁.heap H) callerA [] s₁ H :=
      { frames := rfl, mod := ⟨written, space hns, ⟨mb, space hb, hbb⟩, ⟨mc, space l1, l2⟩⟩, bs := fun _ _ e => of_hidT e, bsz := Nat.le_of_eq (hidT_size _ _), funs := trivial, frf := (fun _ z => nomatch (show _ ∈ ([] : List Addr) from z)), hok := hok, bare := .of_eq hg }
    refine codeAny_mono (F _ written (space hns) [] s₁ H ⟨[.ref a], []⟩ [.ref a] [.ref a] _ _ e0 (hbind s₁ (.ref a)) (.cons rfl .nil) (hsp H hO hS)) fun r s' h => ?_
    cases r with
    | error e => exact h.elim
    | ok fl =>
      cases fl with
      | next => exact h.elim
      | brk => exact h.elim
      | cont => exact h.elim
      | ret u =>
        obtain ⟨v, H', os, bare, un, hok', r', q⟩ := h
        have q' : v = .bl true := q
        subst q'
        obtain rfl : u = Value.bool true := r'
        refine ⟨rfl, OldK.of_keep fun b o e => ?_, os, bare⟩
        rcases hO b with z | ⟨ob, xs, z⟩
        · exact un.keep b o e z (fun z => nomatch (show b ∈ ([] : List Addr) from z)) (fun z => nomatch z)
        · have g1 := (hok b _ z).1
          rw [e] at g1
          cases g1
          exact (hok' b _ (un.frzs b _ _ z)).1
  have len_ := hi.length
  cases hk : K.lookup a with
  | some o =>
    have e := KX a o hk
    rw [ha] at e
    cases e
    exact from_ (fun _ => none) (fun _ => .inl rfl) (.inr ⟨_, vs.toArray, _, hk, rfl, rfl, rfl, by rw [List.size_toArray, len_]; exact hl, by simpa using rv⟩) (fun b u z => nomatch (show (none : Option HO) = some u from z)) fun b u z => nomatch (show (none : Option HO) = some u from z)
  | none =>
    have at_ : ∀ b u, (if b = a then some (HO.frz { cls := .type "list", data := .seq vs.toArray } (.lst (ns.map V.int))) else none) = some u → b = a ∧ u = .frz { cls := .type "list", data := .seq vs.toArray } (.lst (ns.map V.int)) := fun b u z => by
      by_cases eb : b = a
      · rw [if_pos eb] at z
        exact ⟨eb, (Option.some.inj z).symm⟩
      · rw [if_neg eb] at z
        cases z
    refine from_ (fun b => if b = a then some (.frz { cls := .type "list", data := .seq vs.toArray } (.lst (ns.map V.int))) else none) (fun b => ?_) (.inl (.inr ⟨{ cls := .type "list", data := .seq vs.toArray }, if_pos rfl⟩)) (fun b u z => ?_) fun b u z => ⟨(at_ b u z).1, hk⟩
    · by_cases eb : b = a
      · exact .inr ⟨_, _, if_pos eb⟩
      · exact .inl (if_neg eb)
    · obtain ⟨eb, eu⟩ := at_ b u z
      subst eb eu
      exact ⟨ha, by rw [List.length_map]; exact hl, vs, _, rv, ha⟩
end
/-- the end of a law row, its def run at the caller's place -/
theorem walk_ofG {l : PySem.W.OpenLaw} {n : Nat} {q : Program} {loose : List Str} {XP : (Str → Option Value) → Heap → Prop} {YP : World → Heap → Prop} {d : DefRec} {K : Params → PySem.W.Frag} {sp : World → Sp} {x : Str}
    (hn : l.most = some n) (hn2 : n ≤ sizeLine) (hdf : d.params.defaults = []) (hY : ∀ (w : World) (h : Heap), YP w h → (K w.params).In h)
    (F : ∀ (w : World) (mg : Str → Option Value) (fa : Addr) (h : Heap), (K w.params).In h → h.Ns mainGlobals mg → mg d.name = some (.ref fa) →
      ∃ fd : FuncData, (∀ (s : Shared) (u : Value), BindsTo s fd ⟨[u], []⟩ [(x, u)]) ∧ ∀ base : Heap, (K w.params).In base → base.Ns mainGlobals mg → RunAt l.prog w (K w.params) mg base callerA fa fd [x] (sp w))
    (hsp : ∀ (w : World) (H : Hp) (a : Addr) (ns : List Int), ns.length ≤ n → Only H → SqL (K w.params) H a (ns.map V.int) → sp w [.ref a] H (fun v _ => v = .bl true) fun _ _ _ => False) :
    PySem.W.WalkO q loose XP YP l.row.toRowW d [] (fun f vs => PySem.call f vs) := by
  refine Att.attach_call hn hdf fun w s₀ s₁ mg mb fa o pm cd doc a vs ns G Y ho hd hcd hmg hobj hints hlen hg => ?_
  have KX := hY w _ Y
  obtain ⟨fd, hb, hF⟩ := F w mg fa _ KX G.T.g hmg
  exact law_callG KX G.T.g G.T.b G.T.builtins G.T.nolimit hg hobj hints (Nat.le_trans hlen hn2) hF hb fun H hO hS => hsp w H a ns hlen hO hS
theorem law_endG {P : Program} {w : World} {K : PySem.W.Frag} {mg : Str → Option Value} {x : Str} {st : Stmt} {sp : Sp} {fa : Addr} (D : Dfn K mg x st ["script"]) (hfa : mg x = some (.ref fa))
    (ok : ∀ (base : Heap) (f : Addr) (fd : FuncData), Fun K x x st f fd → RunAt P w K mg base callerA f fd ["script"] sp) :
    ∃ fd : FuncData, (∀ (s : Shared) (v : Value), BindsTo s fd ⟨[v], []⟩ [("script", v)]) ∧ ∀ base : Heap, K.In base → base.Ns mainGlobals mg → RunAt P w K mg base callerA fa fd ["script"] sp := by
  obtain ⟨f, fd, F, g, b⟩ := D.ex
  have e := hfa.symm.trans g
  cases e
  exact ⟨fd, fun s v => .of_eq (b [v] rfl), fun base _ _ => ok base fa fd F⟩
end Bs

namespace Bs
open PySem PySem.Spec PyProof.Rows L2
open Evl (Ex)
/-! ### books -/
structure Tk where
  name : Str
  len : Int
  mach : Str
  needs : List (Str × Int)
  frm : Int
  due : Option Int
  wt : Int
structure Wt where
  a : Int
  b : Int
  gap : Int
structure Bk where
  machs : List Str
  goods : List (Str × Int)
  tasks : List Tk
  waits : List Wt
  fixed : List (Int × Int)
def goodD (g : Str × Int) : PyData := .tuple [.str g.1, .int g.2]
def dueD : Option Int → PyData
  | some i => .int i
  | none => .none
def dueV : Option Int → V
  | some i => .int i
  | none => .non
def taskD (t : Tk) : PyData := .tuple [.str t.name, .int t.len, .str t.mach, .tuple (t.needs.map goodD), .int t.frm, dueD t.due, .int t.wt]
def waitD (x : Wt) : PyData := .tuple [.int x.a, .int x.b, .int x.gap]
def fixD (x : Int × Int) : PyData := .tuple [.int x.1, .int x.2]
def bookD (b : Bk) : PyData := .tuple [.tuple (b.machs.map .str), .tuple (b.goods.map goodD), .tuple (b.tasks.map taskD), .tuple (b.waits.map waitD), .tuple (b.fixed.map fixD)]
/-- the same, where the tuple of the fixed tasks is known by its object -/
def bookF (b : Bk) : PyData := .tuple [.tuple (b.machs.map .str), .tuple (b.goods.map goodD), .tuple (b.tasks.map taskD), .tuple (b.waits.map waitD), .dict [(.tuple (b.fixed.map fixD), .none)]]
/-- a task's numbers are in their bounds -/
structure TaskOk (t : Tk) : Prop where
  len : 1 ≤ t.len ∧ t.len ≤ 1000
  frm : 0 ≤ t.frm ∧ t.frm ≤ 1000000
  due : ∀ d, t.due = some d → 0 ≤ d ∧ d ≤ 1000000
  wt : 0 ≤ t.wt ∧ t.wt ≤ 1000
structure BookOk (b : Bk) (most : Int) : Prop where
  few : 1 ≤ b.tasks.length ∧ (b.tasks.length : Int) ≤ most
  task : ∀ t ∈ b.tasks, TaskOk t
  waits : b.waits.length ≤ 60
  wait : ∀ x ∈ b.waits, (0 ≤ x.a ∧ x.a < b.tasks.length) ∧ (0 ≤ x.b ∧ x.b < b.tasks.length) ∧ x.a ≠ x.b ∧ 0 ≤ x.gap ∧ x.gap ≤ 1000
  fixeds : b.fixed.length ≤ 30
  fixed : ∀ x ∈ b.fixed, 0 ≤ x.1 ∧ x.1 < b.tasks.length ∧ 0 ≤ x.2 ∧ x.2 ≤ 1000000
/-- the five tuples of a book -/
theorem book_parts {H : Hp} {v : V} {b : Bk} (h : TD H v (bookD b)) : ∃ a m g t w f, v = .ref a ∧ H a = some (.tup [.ref m, .ref g, .ref t, .ref w, .ref f]) ∧
    (∃ xs, H m = some (.tup xs) ∧ RowsAt PyData.str H xs b.machs) ∧ (∃ xs, H g = some (.tup xs) ∧ RowsAt goodD H xs b.goods) ∧ (∃ xs, H t = some (.tup xs) ∧ RowsAt taskD H xs b.tasks) ∧
    (∃ xs, H w = some (.tup xs) ∧ RowsAt waitD H xs b.waits) ∧ (∃ xs, H f = some (.tup xs) ∧ RowsAt fixD H xs b.fixed) := by
  obtain ⟨a, xs, rfl, ha, hs⟩ := h.tupI
  cases hs with
  | cons h1 hs =>
    cases hs with
    | cons h2 hs =>
      cases hs with
      | cons h3 hs =>
        cases hs with
        | cons h4 hs =>
          cases hs with
          | cons h5 hs =>
            cases hs
            obtain ⟨m, x1, rfl, g1, k1⟩ := h1.tupI
            obtain ⟨g, x2, rfl, g2, k2⟩ := h2.tupI
            obtain ⟨t, x3, rfl, g3, k3⟩ := h3.tupI
            obtain ⟨w, x4, rfl, g4, k4⟩ := h4.tupI
            obtain ⟨f, x5, rfl, g5, k5⟩ := h5.tupI
            exact ⟨a, m, g, t, w, f, rfl, ha, ⟨x1, g1, k1⟩, ⟨x2, g2, k2⟩, ⟨x3, g3, k3⟩, ⟨x4, g4, k4⟩, ⟨x5, g5, k5⟩⟩
theorem TD.frzI {H : Hp} {v : V} {ds : List PyData} (h : TD H v (.dict [(.tuple ds, .none)])) : ∃ a o xs, v = .ref a ∧ o.dict = none ∧ H a = some (.frz o (.tup xs)) ∧ TDs H xs ds := by
  cases h with
  | frz z h hs => exact ⟨_, _, _, rfl, z, h, hs⟩
theorem SqT.fz {K : PySem.W.Frag} {H : Hp} {f : Addr} {xs : List V} (h : ∃ o : Obj, o.dict = none ∧ H f = some (.frz o (.tup xs))) : SqT K H f xs := by
  obtain ⟨o, _, h⟩ := h
  exact .inl (.inr ⟨o, h⟩)
theorem bookF_parts {H : Hp} {v : V} {b : Bk} (h : TD H v (bookF b)) : ∃ a m g t w f, v = .ref a ∧ H a = some (.tup [.ref m, .ref g, .ref t, .ref w, .ref f]) ∧
    (∃ xs, H m = some (.tup xs) ∧ RowsAt PyData.str H xs b.machs) ∧ (∃ xs, H g = some (.tup xs) ∧ RowsAt goodD H xs b.goods) ∧ (∃ xs, H t = some (.tup xs) ∧ RowsAt taskD H xs b.tasks) ∧
    (∃ xs, H w = some (.tup xs) ∧ RowsAt waitD H xs b.waits) ∧ (∃ xs, (∃ o, o.dict = none ∧ H f = some (.frz o (.tup xs))) ∧ RowsAt fixD H xs b.fixed) := by
  obtain ⟨a, xs, rfl, ha, hs⟩ := h.tupI
  cases hs with
  | cons h1 hs =>
    cases hs with
    | cons h2 hs =>
      cases hs with
      | cons h3 hs =>
        cases hs with
        | cons h4 hs =>
          cases hs with
          | cons h5 hs =>
            cases hs
            obtain ⟨m, x1, rfl, g1, k1⟩ := h1.tupI
            obtain ⟨g, x2, rfl, g2, k2⟩ := h2.tupI
            obtain ⟨t, x3, rfl, g3, k3⟩ := h3.tupI
            obtain ⟨w, x4, rfl, g4, k4⟩ := h4.tupI
            obtain ⟨f, o, x5, rfl, z5, g5, k5⟩ := h5.frzI
            exact ⟨a, m, g, t, w, f, rfl, ha, ⟨x1, g1, k1⟩, ⟨x2, g2, k2⟩, ⟨x3, g3, k3⟩, ⟨x4, g4, k4⟩, ⟨x5, ⟨o, z5, g5⟩, k5⟩⟩
theorem wait_parts {H : Hp} {v : V} {x : Wt} (h : TD H v (waitD x)) : ∃ p, v = .ref p ∧ H p = some (.tup [.int x.a, .int x.b, .int x.gap]) := by
  obtain ⟨p, xs, rfl, ha, hs⟩ := h.tupI
  cases hs with
  | cons h1 hs =>
    cases hs with
    | cons h2 hs =>
      cases hs with
      | cons h3 hs =>
        cases hs
        rw [h1.intI, h2.intI, h3.intI] at ha
        exact ⟨p, rfl, ha⟩
theorem good_parts {H : Hp} {v : V} {x : Str × Int} (h : TD H v (goodD x)) : ∃ p, v = .ref p ∧ H p = some (.tup [.str x.1, .int x.2]) := by
  obtain ⟨p, xs, rfl, ha, hs⟩ := h.tupI
  cases hs with
  | cons h1 hs =>
    cases hs with
    | cons h2 hs =>
      cases hs
      rw [h1.strI, h2.intI] at ha
      exact ⟨p, rfl, ha⟩
theorem fix_parts {H : Hp} {v : V} {x : Int × Int} (h : TD H v (fixD x)) : ∃ p, v = .ref p ∧ H p = some (.tup [.int x.1, .int x.2]) := by
  obtain ⟨p, xs, rfl, ha, hs⟩ := h.tupI
  cases hs with
  | cons h1 hs =>
    cases hs with
    | cons h2 hs =>
      cases hs
      rw [h1.intI, h2.intI] at ha
      exact ⟨p, rfl, ha⟩
theorem due_parts {H : Hp} {v : V} {o : Option Int} (h : TD H v (dueD o)) : v = dueV o := by
  cases o with
  | none => exact h.noneI
  | some i => exact h.intI
theorem task_parts {H : Hp} {v : V} {t : Tk} (h : TD H v (taskD t)) : ∃ p q xs, v = .ref p ∧ H p = some (.tup [.str t.name, .int t.len, .str t.mach, .ref q, .int t.frm, dueV t.due, .int t.wt]) ∧ H q = some (.tup xs) ∧ RowsAt goodD H xs t.needs := by
  obtain ⟨p, xs, rfl, ha, hs⟩ := h.tupI
  cases hs with
  | cons h1 hs =>
    cases hs with
    | cons h2 hs =>
      cases hs with
      | cons h3 hs =>
        cases hs with
        | cons h4 hs =>
          cases hs with
          | cons h5 hs =>
            cases hs with
            | cons h6 hs =>
              cases hs with
              | cons h7 hs =>
                cases hs
                obtain ⟨q, ys, e4, g4, k4⟩ := h4.tupI
                rw [h1.strI, h2.intI, h3.strI, e4, h5.intI, due_parts h6, h7.intI] at ha
                exact ⟨p, q, ys, rfl, ha, g4, k4⟩
end Bs

namespace Bs
open PySem PySem.Spec PyProof.Rows L2
open Evl (Ex)
section
variable {K : PySem.W.Frag} {w : World} {β : Type} {D' : β → PyData} {a : Addr} {xs : List V} {rows : List β} {g : TG} {tt : TT} {te : TE} {vs : List Nat} {σ : L2.St} {H : Hp}
/-- [row for row in a tuple if ..] -/
theorem lcTD {Qd : Addr → Hp → Prop} (p : β → Bool) (hx : SqT K H a xs) (hr : RowsAt D' H xs rows) (small : rows.length ≤ 10000)
    (turn : ∀ b v H', b ∈ rows → TD H' v (D' b) → Ex H H' → ∀ (R : VK) (R0 : Hp → Prop), (p b = true → ∀ H4, Ex H' H4 → R v H4) → (p b = false → ∀ H4, Ex H' H4 → R0 H4) →
      g v (wipe σ vs) H' fun σ2 H2 => wipe σ2 vs = wipe σ vs ∧ tt σ2 H2 fun c H3 => if c = true then te σ2 H3 R else R0 H3)
    (q : ∀ D H' zs, H D = none → Ex H H' → H' D = some (.lst zs) → RowsAt D' H' zs (rows.filter p) → Qd D H') : ∀ D, H D = none →
    ∃ W : Nat → Nat → Hp → Prop, (∃ m, W 0 m (upd H D (.lst []))) ∧ ∀ i m H, W i m H →
      ((Itt K a).stop i H ∧ Qd D H) ∨ ((Itt K a).go i H ∧ ∃ Nx : Hp → Prop, (∀ H', Nx H' → ∃ m', m' < m ∧ W (i + 1) m' H') ∧ ∀ x H', (Itt K a).yld i H x H' → g x (wipe σ vs) H' fun σ2 H2 => wipe σ2 vs = wipe σ vs ∧ tt σ2 H2 fun b H3 =>
        if b = true then te σ2 H3 fun y H4 => ∃ acc, H4 D = some (.lst acc) ∧ acc.length < sizeLine ∧ Nx (upd H4 D (.lst (acc ++ [y]))) else Nx H3) := fun D hD => by
  refine lc_tup (K := K) (a := a) (xs := xs) (fun i H' => Ex H H' ∧ ∃ zs, H' D = some (.lst zs) ∧ RowsAt D' H' zs ((rows.take i).filter p)) ⟨Ex.new hD, [], upd_same, .nil⟩ (fun i H' _ h => Evl.ex_t h.1 hx) ?_ ?_
  · rintro i x H' ex ⟨e, zs, hl, hz⟩
    obtain ⟨b, hb, ht⟩ := hr.get ex
    refine turn b x _ (List.mem_of_getElem? hb) (TD.tp (Tp.ex e) ht) e _ _ (fun hp H4 e4 => ?_) (fun hp H4 e4 => ?_)
    · have h4 := e4 _ _ hl
      refine ⟨zs, h4, ?_, (e.trans e4).mut hD, zs ++ [x], upd_same, ?_⟩
      · rw [hz.len, sizeLine_eq]
        have h1 := List.length_filter_le p (rows.take i)
        have h2 : (rows.take i).length ≤ rows.length := by rw [List.length_take]; omega
        omega
      · rw [take_snoc hb, List.filter_append, List.filter_cons_of_pos hp]
        have w1 : RowsAt D' H4 (zs ++ [x]) ((rows.take i).filter p ++ [b]) := by
          unfold RowsAt
          rw [List.map_append]
          exact TDs.append (RowsAt.tp (Tp.ex e4) hz) (.cons (TD.tp (Tp.ex (e.trans e4)) ht) .nil)
        exact RowsAt.tp (Tp.upd h4) w1
    · refine ⟨e.trans e4, zs, e4 _ _ hl, ?_⟩
      rw [take_snoc hb, List.filter_append, List.filter_cons_of_neg (by simp [hp])]
      simpa using RowsAt.tp (Tp.ex e4) hz
  · rintro H' ⟨e, zs, hl, hz⟩
    rw [hr.len, List.take_length] at hz
    exact q D H' zs hD e hl hz
/-- [e for k in range(n) if ..] -/
theorem lcR {Qd : Addr → Hp → Prop} {n : Nat} (p : Nat → Bool) (f : Nat → V) (small : n ≤ 10000)
    (turn : ∀ i H', i < n → Ex H H' → ∀ (R : VK) (R0 : Hp → Prop), (p i = true → ∀ H4, Ex H' H4 → R (f i) H4) → (p i = false → ∀ H4, Ex H' H4 → R0 H4) →
      g (.int (0 + i)) (wipe σ vs) H' fun σ2 H2 => wipe σ2 vs = wipe σ vs ∧ tt σ2 H2 fun c H3 => if c = true then te σ2 H3 R else R0 H3)
    (q : ∀ D H', H D = none → Ex H H' → H' D = some (.lst (((List.range n).filter p).map f)) → Qd D H') : ∀ D, H D = none →
    ∃ W : Nat → Nat → Hp → Prop, (∃ m, W 0 m (upd H D (.lst []))) ∧ ∀ i m H, W i m H →
      ((Itr 0 n).stop i H ∧ Qd D H) ∨ ((Itr 0 n).go i H ∧ ∃ Nx : Hp → Prop, (∀ H', Nx H' → ∃ m', m' < m ∧ W (i + 1) m' H') ∧ ∀ x H', (Itr 0 n).yld i H x H' → g x (wipe σ vs) H' fun σ2 H2 => wipe σ2 vs = wipe σ vs ∧ tt σ2 H2 fun b H3 =>
        if b = true then te σ2 H3 fun y H4 => ∃ acc, H4 D = some (.lst acc) ∧ acc.length < sizeLine ∧ Nx (upd H4 D (.lst (acc ++ [y]))) else Nx H3) := fun D hD => by
  refine lc_range (lo := 0) (n := n) (fun i H' => Ex H H' ∧ H' D = some (.lst (((List.range i).filter p).map f))) ⟨Ex.new hD, by rw [upd_same]; rfl⟩ ?_ ?_
  · rintro i H' hi ⟨e, hl⟩
    refine turn i _ hi e _ _ (fun hp H4 e4 => ?_) (fun hp H4 e4 => ?_)
    · refine ⟨_, e4 _ _ hl, ?_, (e.trans e4).mut hD, ?_⟩
      · rw [List.length_map, sizeLine_eq]
        have h1 := List.length_filter_le p (List.range i)
        rw [List.length_range] at h1
        omega
      · rw [upd_same, List.range_succ, List.filter_append, List.map_append, List.filter_cons_of_pos hp]
        rfl
    · refine ⟨e.trans e4, ?_⟩
      rw [e4 _ _ hl, List.range_succ, List.filter_append, List.filter_cons_of_neg (by simp [hp])]
      simp
  · rintro H' ⟨e, hl⟩
    exact q D H' hD e hl
end
/-! ### data of waits, compared -/
theorem shaped_waits (ws : List Wt) : SeqAt.shaped (.list (ws.map waitD)) = true := by
  have h1 : PyData.canLayAll0 (ws.map waitD) = true := by
    induction ws with
    | nil => rfl
    | cons x r ih =>
      show (PyData.canLay0 (waitD x) && PyData.canLayAll0 (r.map waitD)) = true
      rw [ih]
      rfl
  have h2 : PyData.depthAll (ws.map waitD) ≤ 1 := by
    induction ws with
    | nil => exact Nat.zero_le _
    | cons x r ih =>
      have := ih (by
        have h := h1
        rw [show PyData.canLayAll0 ((x :: r).map waitD) = (PyData.canLay0 (waitD x) && PyData.canLayAll0 (r.map waitD)) from rfl, Bool.and_eq_true] at h
        exact h.2)
      show max (PyData.depth (waitD x)) (PyData.depthAll (r.map waitD)) ≤ 1
      have e : PyData.depth (waitD x) = 1 := rfl
      omega
  unfold SeqAt.shaped
  rw [show PyData.canLay0 (.list (ws.map waitD)) = PyData.canLayAll0 (ws.map waitD) from rfl, h1]
  exact decide_eq_true (show PyData.depthAll (ws.map waitD) + 1 ≤ 64 by omega)
theorem cut2 {a b g : V} : cutV [a, b, g] none (some 2) = [a, b] := by
  unfold cutV
  rw [HT.sIx_none, show (some (2 : Int)) = some ((2 : Nat) : Int) from rfl, HT.sIx_nat]
  rfl
/-- a strictly rising list is told by its members -/
theorem rise_ext : ∀ {xs ys : List Int}, xs.Pairwise (· < ·) → ys.Pairwise (· < ·) → (∀ k, k ∈ xs ↔ k ∈ ys) → xs = ys
  | [], [], _, _, _ => rfl
  | [], y :: r, _, _, h => absurd ((h y).mpr List.mem_cons_self) (by simp)
  | x :: r, [], _, _, h => absurd ((h x).mp List.mem_cons_self) (by simp)
  | x :: r, y :: t, hx, hy, h => by
    rw [List.pairwise_cons] at hx hy
    have e : x = y := by
      rcases List.mem_cons.mp ((h x).mp List.mem_cons_self) with e | e
      · exact e
      · rcases List.mem_cons.mp ((h y).mpr List.mem_cons_self) with e2 | e2
        · exact e2.symm
        · have h1 := hy.1 x e
          have h2 := hx.1 y e2
          omega
    subst e
    rw [rise_ext hx.2 hy.2 fun k => ⟨fun hk => by
      rcases List.mem_cons.mp ((h k).mp (List.mem_cons_of_mem _ hk)) with e | e
      · have := hx.1 k hk
        omega
      · exact e, fun hk => by
      rcases List.mem_cons.mp ((h k).mpr (List.mem_cons_of_mem _ hk)) with e | e
      · have := hy.1 k hk
        omega
      · exact e⟩]
/-! ### what goes ahead by waits -/
def isAhead (b : Bk) (t o : Nat) : Bool := b.waits.any fun x => decide (x.a = o) && decide (x.b = t)
def ahd (b : Bk) (t : Nat) : List Int := ((List.range b.tasks.length).filter (isAhead b t)).map fun (o : Nat) => (o : Int)
def ahds (b : Bk) : List (List Int) := (List.range b.tasks.length).map (ahd b)
theorem isAhead_iff {b : Bk} {t o : Nat} : isAhead b t o = true ↔ ∃ x ∈ b.waits, x.a = o ∧ x.b = t := by
  unfold isAhead
  rw [List.any_eq_true]
  constructor
  · rintro ⟨x, hx, h⟩
    rw [Bool.and_eq_true, decide_eq_true_iff, decide_eq_true_iff] at h
    exact ⟨x, hx, h.1, h.2⟩
  · rintro ⟨x, hx, h1, h2⟩
    exact ⟨x, hx, by rw [decide_eq_true h1, decide_eq_true h2]; rfl⟩
theorem ahd_rise (b : Bk) (t : Nat) : (ahd b t).Pairwise (· < ·) := by
  unfold ahd
  rw [List.pairwise_map]
  refine List.Pairwise.imp (R := fun x y : Nat => x < y) (fun h => by omega) ?_
  exact List.Pairwise.filter _ List.pairwise_lt_range
theorem ahd_mem {b : Bk} {most : Int} (ok : BookOk b most) {t : Nat} {k : Int} : k ∈ ahd b t ↔ ∃ x ∈ b.waits, decide (x.b = (t : Int)) = true ∧ x.a = k := by
  unfold ahd
  rw [List.mem_map]
  constructor
  · rintro ⟨o, ho, rfl⟩
    obtain ⟨_, h2⟩ := List.mem_filter.mp ho
    obtain ⟨x, hx, h3, h4⟩ := isAhead_iff.mp h2
    exact ⟨x, hx, decide_eq_true h4, h3⟩
  · rintro ⟨x, hx, h1, h2⟩
    have h3 := ok.wait x hx
    refine ⟨x.a.toNat, List.mem_filter.mpr ⟨List.mem_range.mpr (by omega), isAhead_iff.mpr ⟨x, hx, by omega, of_decide_eq_true h1⟩⟩, by omega⟩
theorem ahds_few {b : Bk} {most : Int} (ok : BookOk b most) (h : most ≤ 30) : Few (ahds b) := by
  have := ok.few
  unfold ahds
  refine ⟨by rw [List.length_map, List.length_range]; omega, fun l hl => ?_⟩
  obtain ⟨t, _, rfl⟩ := List.mem_map.mp hl
  constructor
  · unfold ahd
    rw [List.length_map]
    have h1 := List.length_filter_le (isAhead b t) (List.range b.tasks.length)
    rw [List.length_range] at h1
    omega
  · intro n hn
    unfold ahd at hn
    obtain ⟨o, ho, rfl⟩ := List.mem_map.mp hn
    have := List.mem_range.mp (List.mem_filter.mp ho).1
    omega
/-- the greatest gap that waits tell -/
def GapOf (ws : List Wt) (x y : Int) : Option Int → Prop
  | none => ∀ z ∈ ws, ¬ (z.a = x ∧ z.b = y)
  | some g => (∃ z ∈ ws, (z.a = x ∧ z.b = y) ∧ z.gap = g) ∧ ∀ z ∈ ws, z.a = x ∧ z.b = y → z.gap ≤ g
def GapIs (b : Bk) (x y : Int) : Option Int → Prop := GapOf b.waits x y
theorem GapOf.same {ws : List Wt} {x y : Int} : ∀ {o u : Option Int}, GapOf ws x y o → GapOf ws x y u → o = u
  | none, none, _, _ => rfl
  | none, some g, h, k => by
    obtain ⟨⟨z, hz, h1, _⟩, _⟩ := k
    exact absurd h1 (h z hz)
  | some g, none, k, h => by
    obtain ⟨⟨z, hz, h1, _⟩, _⟩ := k
    exact absurd h1 (h z hz)
  | some g, some g', h, k => by
    obtain ⟨⟨z, hz, h1, h2⟩, h3⟩ := h
    obtain ⟨⟨y', hy, k1, k2⟩, k3⟩ := k
    have e1 := h3 y' hy k1
    have e2 := k3 z hz h1
    have : g = g' := by omega
    rw [this]
theorem GapOf.skip {ws : List Wt} {x y : Int} {o : Option Int} {z : Wt} (h : GapOf ws x y o) (n : (z.a = x ∧ z.b = y) → ∃ g, o = some g ∧ z.gap ≤ g) : GapOf (ws ++ [z]) x y o := by
  cases o with
  | none =>
    intro u hu
    rcases List.mem_append.mp hu with hu | hu
    · exact h u hu
    · rw [List.mem_singleton.mp hu]
      intro hh
      obtain ⟨g, e, _⟩ := n hh
      cases e
  | some g =>
    obtain ⟨⟨u, hu, h1, h2⟩, h3⟩ := h
    refine ⟨⟨u, List.mem_append_left _ hu, h1, h2⟩, fun r hr hh => ?_⟩
    rcases List.mem_append.mp hr with hr | hr
    · exact h3 r hr hh
    · rw [List.mem_singleton.mp hr] at hh ⊢
      obtain ⟨g', e, le⟩ := n hh
      cases e
      exact le
theorem GapOf.take_ {ws : List Wt} {x y : Int} {o : Option Int} {z : Wt} (h : GapOf ws x y o) (e : z.a = x ∧ z.b = y) (n : ∀ g, o = some g → g ≤ z.gap) : GapOf (ws ++ [z]) x y (some z.gap) := by
  refine ⟨⟨z, List.mem_append_right _ (List.mem_singleton.mpr rfl), e, rfl⟩, fun r hr hh => ?_⟩
  rcases List.mem_append.mp hr with hr | hr
  · cases o with
    | none => exact absurd hh (h r hr)
    | some g => exact Int.le_trans (h.2 r hr hh) (n g rfl)
  · rw [List.mem_singleton.mp hr]
    exact Int.le_refl _
theorem gap_short {n : Int} (h0 : 0 ≤ n) (h1 : n ≤ 1000) : (PyData.int n).shown.length ≤ 4 := by
  obtain ⟨k, rfl⟩ : ∃ k : Nat, n = (k : Int) := ⟨_, (Int.toNat_of_nonneg h0).symm⟩
  have all : ∀ k : Fin 1001, (PyData.int ((k.val : Nat) : Int)).shown.length ≤ 4 := by decide +kernel
  exact all ⟨k, by omega⟩
theorem rd_due {K : PySem.W.Frag} {H : Hp} {o : Option Int} {Q : VK} (h : ∀ g, o = some g → 0 ≤ g ∧ g ≤ 1000) (q : Q (.str (dueD o).shown) H) : rReprD K [dueV o] H Q := by
  cases o with
  | none => exact ⟨.non, .none, rfl, .non, True.intro, rfl, rfl, by decide, by decide +kernel, q⟩
  | some g =>
    obtain ⟨g0, g1⟩ := h g rfl
    have lg : g.natAbs.log2 < 1920 := Nat.lt_of_le_of_lt (Nat.log2_le_self _) (by omega)
    refine ⟨.int g, .int g, rfl, .int g, lg, decide_eq_true lg, rfl, Nat.zero_le _, ?_, q⟩
    have := gap_short g0 g1
    rw [sizeLine_eq]
    omega
end Bs

namespace Bs
open PySem PySem.Spec PyProof.Rows L2
open Evl (Ex)
/-! ### gaps of pairs -/
abbrev PP := Int × Int
def hits (z : Wt) (p : PP) : Bool := decide (z.a = p.1) && decide (z.b = p.2)
/-- the greater one of two -/
def mx (i j : Int) : Int := if j > i then j else i
def gapVal (ws : List Wt) (p : PP) : Int := ws.foldl (fun m z => if hits z p = true then mx z.gap m else m) 0
def hasKey (ws : List Wt) (arcs : List PP) (p : PP) : Bool := decide (p ∈ arcs) || ws.any fun z => hits z p
theorem gapVal_snoc (ws : List Wt) (z : Wt) (p : PP) : gapVal (ws ++ [z]) p = if hits z p = true then mx z.gap (gapVal ws p) else gapVal ws p := by
  unfold gapVal
  rw [List.foldl_append]
  rfl
theorem gapVal_none {ws : List Wt} {p : PP} (h : (ws.any fun z => hits z p) = false) : gapVal ws p = 0 := by
  have : ∀ (ws : List Wt) (m : Int), (ws.any fun z => hits z p) = false → ws.foldl (fun m z => if hits z p = true then mx z.gap m else m) m = m := by
    intro ws
    induction ws with
    | nil => intro m _; rfl
    | cons z r ih =>
      intro m h
      rw [List.any_cons, Bool.or_eq_false_iff] at h
      rw [List.foldl_cons, h.1]
      exact ih m h.2
  exact this ws 0 h
theorem hasKey_snoc (ws : List Wt) (z : Wt) (arcs : List PP) (p : PP) : hasKey (ws ++ [z]) arcs p = (hasKey ws arcs p || hits z p) := by
  unfold hasKey
  rw [List.any_append]
  simp [Bool.or_assoc]
theorem hasKey_arc (ws : List Wt) (arcs : List PP) (q p : PP) : hasKey ws (arcs ++ [q]) p = (hasKey ws arcs p || decide (p = q)) := by
  unfold hasKey
  by_cases a : p ∈ arcs <;> by_cases b : p = q <;> simp [a, b]
theorem hits_iff {z : Wt} {p : PP} : hits z p = true ↔ p = (z.a, z.b) := by
  unfold hits
  rw [Bool.and_eq_true, decide_eq_true_iff, decide_eq_true_iff]
  constructor
  · rintro ⟨h1, h2⟩
    exact Prod.ext h1.symm h2.symm
  · rintro h
    subst h
    exact ⟨rfl, rfl⟩
theorem keys_put {κ : Type} [DecidableEq κ] (kvs : List (κ × V)) (k : κ) (v : V) : (putK kvs k v).map (·.1) = if (valV kvs k).isSome = true then kvs.map (·.1) else kvs.map (·.1) ++ [k] := by
  unfold putK
  rw [valV_any]
  by_cases a : (valV kvs k).isSome = true
  · rw [if_pos a, if_pos a, List.map_map]
    refine List.map_congr_left fun e _ => ?_
    show (if e.1 = k then (e.1, v) else e).1 = e.1
    split <;> rfl
  · rw [if_neg a, if_neg a, List.map_append]
    rfl
theorem nodup_put {κ : Type} [DecidableEq κ] {kvs : List (κ × V)} (k : κ) (v : V) (nd : (kvs.map (·.1)).Nodup) : ((putK kvs k v).map (·.1)).Nodup := by
  rw [keys_put]
  by_cases a : (valV kvs k).isSome = true
  · rw [if_pos a]
    exact nd
  · rw [if_neg a, List.nodup_append]
    refine ⟨nd, by simp, fun x hx y hy e => ?_⟩
    rw [List.mem_singleton.mp hy] at e
    subst e
    obtain ⟨q, hq, e⟩ := List.mem_map.mp hx
    rw [← valV_any] at a
    exact a (List.any_eq_true.mpr ⟨q, hq, decide_eq_true e⟩)
theorem form_put {κ : Type} [DecidableEq κ] {kvs : List (κ × V)} {F : κ × V → Prop} (k : κ) (v : V) (f : ∀ e ∈ kvs, F e) (n : F (k, v)) : ∀ e ∈ putK kvs k v, F e := by
  intro e he
  unfold putK at he
  split at he
  · obtain ⟨x, hx, rfl⟩ := List.mem_map.mp he
    split
    · rename_i h
      rw [h]
      exact n
    · exact f x hx
  · rcases List.mem_append.mp he with h | h
    · exact f e h
    · rw [List.mem_singleton.mp h]
      exact n
theorem kP_inj {p q : PP} (h : kP p = kP q) : p = q := by
  injection h with h1 h2
  injection h2 with h2 _
  injection h1 with h1
  injection h2 with h2
  exact Prod.ext h1 h2
/-- a dict that holds just what waits and arcs tell -/
structure DK (kvs : List (List L2.Key × V)) (ws : List Wt) (arcs : List PP) : Prop where
  val : ∀ p : PP, valV kvs (kP p) = if hasKey ws arcs p = true then some (.int (gapVal ws p)) else none
  form : ∀ e ∈ kvs, ∃ x : Ent, e = entP x
  nd : (kvs.map (·.1)).Nodup
  len : kvs.length ≤ ws.length + arcs.length
theorem DK.nil : DK [] [] [] := ⟨fun p => rfl, (fun _ h => nomatch h), List.nodup_nil, Nat.le_refl _⟩
theorem DK.got {kvs : List (List L2.Key × V)} {ws : List Wt} {arcs : List PP} (h : DK kvs ws arcs) (p : PP) : (valV kvs (kP p)).getD (.int 0) = .int (gapVal ws p) := by
  rw [h.val p]
  by_cases a : hasKey ws arcs p = true
  · rw [if_pos a]
    rfl
  · rw [if_neg a]
    have : (ws.any fun z => hits z p) = false := by
      cases c : ws.any fun z => hits z p with
      | false => rfl
      | true => exact absurd (by unfold hasKey; rw [c, Bool.or_true]) a
    rw [gapVal_none this]
    rfl
theorem DK.wait {kvs : List (List L2.Key × V)} {ws : List Wt} {arcs : List PP} (h : DK kvs ws arcs) (z : Wt) : DK (putK kvs (kP (z.a, z.b)) (.int (mx z.gap (gapVal ws (z.a, z.b))))) (ws ++ [z]) arcs := by
  refine ⟨fun p => ?_, form_put _ _ h.form ⟨((z.a, z.b), mx z.gap (gapVal ws (z.a, z.b))), rfl⟩, nodup_put _ _ h.nd, ?_⟩
  · rw [valV_put, hasKey_snoc, gapVal_snoc, h.val p]
    by_cases e : p = (z.a, z.b)
    · subst e
      rw [if_pos rfl, hits_iff.mpr rfl, Bool.or_true]
      rfl
    · rw [if_neg fun c => e (kP_inj c)]
      have hn : hits z p = false := Bool.eq_false_iff.mpr fun c => e (hits_iff.mp c)
      rw [hn, Bool.or_false]
      rfl
  · have := length_putK kvs (kP (z.a, z.b)) (.int (mx z.gap (gapVal ws (z.a, z.b))))
    have := h.len
    rw [List.length_append, List.length_singleton]
    omega
theorem DK.arc {kvs : List (List L2.Key × V)} {ws : List Wt} {arcs : List PP} (h : DK kvs ws arcs) (q : PP) : DK (putK kvs (kP q) (.int (gapVal ws q))) ws (arcs ++ [q]) := by
  refine ⟨fun p => ?_, form_put _ _ h.form ⟨(q, gapVal ws q), rfl⟩, nodup_put _ _ h.nd, ?_⟩
  · rw [valV_put, hasKey_arc, h.val p]
    by_cases e : p = q
    · subst e
      rw [if_pos rfl, decide_eq_true rfl, Bool.or_true]
      rfl
    · rw [if_neg fun c => e (kP_inj c), decide_eq_false e, Bool.or_false]
  · have := length_putK kvs (kP q) (.int (gapVal ws q))
    have := h.len
    rw [List.length_append, List.length_singleton]
    omega
/-- such a dict by its entries -/
theorem DK.ents {kvs : List (List L2.Key × V)} {ws : List Wt} {arcs : List PP} (h : DK kvs ws arcs) : ∃ es : List Ent, kvs = es.map entP ∧ (es.map (·.1)).Nodup ∧ (∀ p, p ∈ es.map (·.1) ↔ hasKey ws arcs p = true) ∧ ∀ e ∈ es, e.2 = gapVal ws e.1 := by
  have ex : ∀ l : List (List L2.Key × V), (∀ e ∈ l, ∃ x : Ent, e = entP x) → ∃ es : List Ent, l = es.map entP := by
    intro l
    induction l with
    | nil => intro _; exact ⟨[], rfl⟩
    | cons a r ih =>
      intro f
      obtain ⟨x, hx⟩ := f a List.mem_cons_self
      obtain ⟨es, he⟩ := ih fun e m => f e (List.mem_cons_of_mem _ m)
      exact ⟨x :: es, by rw [hx, he]; rfl⟩
  obtain ⟨es, he⟩ := ex kvs h.form
  subst he
  have nd : (es.map (·.1)).Nodup := by
    have := h.nd
    rw [List.map_map] at this
    rw [List.Nodup, List.pairwise_map] at this ⊢
    exact this.imp fun c e => c (by show kP _ = kP _; rw [e])
  have some_ : ∀ p, (valV (es.map entP) (kP p)).isSome = true ↔ p ∈ es.map (·.1) := fun p => by
    rw [← valV_any, List.any_eq_true, List.mem_map]
    constructor
    · rintro ⟨x, hx, d⟩
      obtain ⟨e, me, rfl⟩ := List.mem_map.mp hx
      exact ⟨e, me, kP_inj (of_decide_eq_true d)⟩
    · rintro ⟨e, me, rfl⟩
      exact ⟨entP e, List.mem_map_of_mem me, decide_eq_true rfl⟩
  refine ⟨es, rfl, nd, fun p => ?_, fun e me => ?_⟩
  · rw [← some_ p, h.val p]
    by_cases a : hasKey ws arcs p = true
    · rw [if_pos a, a]
      simp
    · rw [if_neg a]
      simp [a]
  · have at_ : ∀ es : List Ent, (es.map (·.1)).Nodup → e ∈ es → valV (es.map entP) (kP e.1) = some (.int e.2) := by
      intro es
      induction es with
      | nil => intro _ m; cases m
      | cons x r ih =>
        intro nd m
        rw [List.map_cons, List.nodup_cons] at nd
        rcases List.mem_cons.mp m with c | c
        · subst c
          exact valV_pos (p := entP e) rfl
        · have ne : ¬ (entP x).1 = kP e.1 := fun c' => nd.1 (by
            rw [kP_inj c']
            exact List.mem_map_of_mem c)
          rw [List.map_cons, valV_neg ne]
          exact ih nd.2 c
    have v := h.val e.1
    rw [at_ es nd me] at v
    by_cases a : hasKey ws arcs e.1 = true
    · rw [if_pos a] at v
      exact V.int.inj (Option.some.inj v)
    · rw [if_neg a] at v
      cases v
/-! ### lists in the pairs' order -/
theorem lex_ne {p q : PP} (h : SrtO.lexB q p = false) (n : p ≠ q) : SrtO.lexB p q = true := by
  have a := SrtO.lexB_no.mp h
  refine SrtO.lexB_iff.mpr ?_
  have : ¬ (p.1 = q.1 ∧ p.2 = q.2) := fun c => n (Prod.ext c.1 c.2)
  omega
theorem lex_ext : ∀ {ps qs : List PP}, ps.Pairwise (fun p q => SrtO.lexB p q = true) → qs.Pairwise (fun p q => SrtO.lexB p q = true) → (∀ p, p ∈ ps ↔ p ∈ qs) → ps = qs
  | [], [], _, _, _ => rfl
  | [], q :: _, _, _, h => nomatch (h q).mpr List.mem_cons_self
  | p :: _, [], _, _, h => nomatch (h p).mp List.mem_cons_self
  | p :: ps, q :: qs, hp, hq, h => by
    rw [List.pairwise_cons] at hp hq
    have irr : ∀ x y : PP, SrtO.lexB x y = true → SrtO.lexB y x = true → False := fun x y a b => by
      have a' := SrtO.lexB_iff.mp a
      have b' := SrtO.lexB_iff.mp b
      omega
    have self : ∀ x : PP, SrtO.lexB x x = true → False := fun x a => irr x x a a
    have e : p = q := by
      rcases List.mem_cons.mp ((h p).mp List.mem_cons_self) with c | c
      · exact c
      · rcases List.mem_cons.mp ((h q).mpr List.mem_cons_self) with d | d
        · exact d.symm
        · exact (irr _ _ (hq.1 p c) (hp.1 q d)).elim
    subst e
    rw [lex_ext hp.2 hq.2 fun x => ⟨fun m => ?_, fun m => ?_⟩]
    · rcases List.mem_cons.mp ((h x).mp (List.mem_cons_of_mem _ m)) with c | c
      · rw [c] at m
        exact (self _ (hp.1 p m)).elim
      · exact c
    · rcases List.mem_cons.mp ((h x).mpr (List.mem_cons_of_mem _ m)) with c | c
      · rw [c] at m
        exact (self _ (hq.1 p m)).elim
      · exact c
theorem strict_of {ps : List PP} (h : ps.Pairwise fun p q => SrtO.lexB q p = false) (nd : ps.Nodup) : ps.Pairwise fun p q => SrtO.lexB p q = true :=
  (List.Pairwise.and h nd).imp fun c => lex_ne c.1 c.2
/-- entries in order, all that waits and arcs tell -/
structure EK (es : List Ent) (ws : List Wt) (arcs : List PP) : Prop where
  up : (es.map (·.1)).Pairwise fun p q => SrtO.lexB p q = true
  keys : ∀ p, p ∈ es.map (·.1) ↔ hasKey ws arcs p = true
  val : ∀ e ∈ es, e.2 = gapVal ws e.1
theorem EK.same {es fs : List Ent} {ws : List Wt} {arcs : List PP} (h : EK es ws arcs) (k : EK fs ws arcs) : es = fs := by
  have e := lex_ext h.up k.up fun p => (h.keys p).trans (k.keys p).symm
  have b : ∀ l : List Ent, (∀ e ∈ l, e.2 = gapVal ws e.1) → l = (l.map (·.1)).map fun p => (p, gapVal ws p) := fun l v => by
    rw [List.map_map]
    conv => lhs; rw [← List.map_id l]
    exact List.map_congr_left fun e m => Prod.ext rfl (v e m)
  rw [b es h.val, b fs k.val, e]
theorem u1 {n c : Nat} (h : n + 64 < c) : n + 1 < c := by omega
theorem ps_off {X : Cx} {st : Stmt} : PS X st (fun _ _ _ => False) := ⟨fun _ _ _ _ _ _ h => h.elim⟩
theorem rneIF {i j : Int} {H : Hp} {Q : VK} (e : i = j) (q : Q (.bl false) H) : rNe (.int i) (.int j) H Q := ⟨rfl, by
  rw [e, decide_eq_true rfl]
  exact q⟩
theorem rneIT {i j : Int} {H : Hp} {Q : VK} (e : i ≠ j) (q : Q (.bl true) H) : rNe (.int i) (.int j) H Q := ⟨rfl, by
  rw [decide_eq_false fun z => e (V.int.inj z)]
  exact q⟩
theorem reqIT {i j : Int} {H : Hp} {Q : VK} (e : i = j) (q : Q (.bl true) H) : rEq (.int i) (.int j) H Q := ⟨rfl, by
  rw [e, decide_eq_true rfl]
  exact q⟩
theorem reqIF {i j : Int} {H : Hp} {Q : VK} (e : i ≠ j) (q : Q (.bl false) H) : rEq (.int i) (.int j) H Q := ⟨rfl, by
  rw [decide_eq_false fun z => e (V.int.inj z)]
  exact q⟩
/-! ### arcs -/
def arcD (p : PP) : PyData := .tuple [.int p.1, .int p.2]
theorem arc_parts {H : Hp} {v : V} {p : PP} (h : TD H v (arcD p)) : ∃ a, v = .ref a ∧ H a = some (.tup [.int p.1, .int p.2]) := by
  obtain ⟨a, xs, rfl, ha, hs⟩ := h.tupI
  cases hs with
  | cons h1 hs =>
    cases hs with
    | cons h2 hs =>
      cases hs
      rw [h1.intI, h2.intI] at ha
      exact ⟨a, rfl, ha⟩
structure ArcOk (n : Nat) (p : PP) : Prop where
  a : 0 ≤ p.1 ∧ p.1 < n
  b : 0 ≤ p.2 ∧ p.2 < n
  ne : p.1 ≠ p.2
def ArcsAt (H : Hp) (l : Addr) (n : Nat) (arcs : List PP) : Prop := (∃ xs, H l = some (.lst xs) ∧ RowsAt arcD H xs arcs) ∧ (∀ p ∈ arcs, ArcOk n p) ∧ arcs.length ≤ 900
theorem ArcsAt.ex {H H' : Hp} {l : Addr} {n : Nat} {arcs : List PP} (h : ArcsAt H l n arcs) (e : Ex H H') : ArcsAt H' l n arcs := by
  obtain ⟨⟨xs, h1, h2⟩, h3⟩ := h
  exact ⟨⟨xs, e _ _ h1, RowsAt.tp (Tp.ex e) h2⟩, h3⟩
/-! ### {k: v for .. in a list} -/
theorem dct_list {K : PySem.W.Frag} {a : Addr} {xs : List V} {g : TG} {tt : TT} {tk te : TE} {vs : List Nat} {σ : L2.St} {H1 : Hp} {D : Addr} {Qd : Hp → Prop} (Pv : Nat → Hp → Prop) (h0 : Pv 0 (upd H1 D (.dT []))) (hl : ∀ i H, i ≤ xs.length → Pv i H → SqL K H a xs)
    (hs : ∀ i x H, xs[i]? = some x → Pv i H → g x (wipe σ vs) H fun σ2 H2 => wipe σ2 vs = wipe σ vs ∧ tt σ2 H2 fun b H3 =>
      if b = true then tk σ2 H3 fun y H4 => te σ2 H4 fun z H5 => ∃ (kvs : List (List L2.Key × V)) (k : List L2.Key) (a : Addr), y = .ref a ∧ H5 D = some (.dT kvs) ∧ H5 a = some (.tup (k.map kV)) ∧ kvs.length < sizeLine ∧ Pv (i + 1) (upd H5 D (.dT (putK kvs k z))) else Pv (i + 1) H3)
    (hd : ∀ H, Pv xs.length H → Qd H) :
    ∃ W : Nat → Nat → Hp → Prop, (∃ m, W 0 m (upd H1 D (.dT []))) ∧ ∀ i m H, W i m H →
      ((Itl K a).stop i H ∧ Qd H) ∨ ((Itl K a).go i H ∧ ∃ Nx : Hp → Prop, (∀ H', Nx H' → ∃ m', m' < m ∧ W (i + 1) m' H') ∧ ∀ x H', (Itl K a).yld i H x H' → g x (wipe σ vs) H' fun σ2 H2 => wipe σ2 vs = wipe σ vs ∧ tt σ2 H2 fun b H3 =>
        if b = true then tk σ2 H3 fun y H4 => te σ2 H4 fun z H5 => ∃ (kvs : List (List L2.Key × V)) (k : List L2.Key) (a : Addr), y = .ref a ∧ H5 D = some (.dT kvs) ∧ H5 a = some (.tup (k.map kV)) ∧ kvs.length < sizeLine ∧ Nx (upd H5 D (.dT (putK kvs k z))) else Nx H3) := by
  refine ⟨fun i m H => m = xs.length - i ∧ i ≤ xs.length ∧ Pv i H, ⟨xs.length, by simp, Nat.zero_le _, h0⟩, ?_⟩
  rintro i m H ⟨rfl, hi, p⟩
  have q := hl i H hi p
  by_cases lt : i < xs.length
  · refine .inr ⟨⟨xs, xs[i], q, by simp [lt]⟩, Pv (i + 1), fun H' p' => ⟨xs.length - (i + 1), by omega, rfl, lt, p'⟩, fun x H' y => ?_⟩
    obtain ⟨e, y⟩ := y
    subst e
    exact hs i x _ (y xs q) p
  · have e : i = xs.length := by omega
    subst e
    exact .inl ⟨⟨xs, q, Nat.le_refl _⟩, hd H p⟩
theorem keys_pairs {H : Hp} : ∀ {es : List Ent} {bs : List Addr}, IsKeys H (es.map entP) bs → (bs.map V.ref).map (prAt H) = es.map (·.1)
  | [], _, .nil => rfl
  | e :: es, b :: bs, .cons h t => by
    have e1 : prAt H (.ref b) = (e.1.1, e.1.2) := prAt_is h
    rw [List.map_cons, List.map_cons, List.map_cons, keys_pairs t, e1]
theorem valV_off {kvs : List (List L2.Key × V)} {k : List L2.Key} (h : ∀ e ∈ kvs, e.1 ≠ k) : valV kvs k = none := by
  cases c : valV kvs k with
  | none => rfl
  | some v =>
    have : (valV kvs k).isSome = true := by rw [c]; rfl
    rw [← valV_any, List.any_eq_true] at this
    obtain ⟨e, me, d⟩ := this
    exact absurd (of_decide_eq_true d) (h e me)
end Bs

namespace Bs
open PySem PySem.Spec PyProof.Rows L2
open Evl (Ex)
theorem shaped_rows {β : Type} {D : β → PyData} (h1 : ∀ x, PyData.canLay0 (D x) = true) (h2 : ∀ x, PyData.depth (D x) ≤ 10) (xs : List β) : SeqAt.shaped (.list (xs.map D)) = true := by
  have a : PyData.canLayAll0 (xs.map D) = true := by
    induction xs with
    | nil => rfl
    | cons x r ih =>
      show (PyData.canLay0 (D x) && PyData.canLayAll0 (r.map D)) = true
      rw [ih, h1 x]
      rfl
  have b : PyData.depthAll (xs.map D) ≤ 10 := by
    induction xs with
    | nil => exact Nat.zero_le _
    | cons x r ih =>
      have h := a
      rw [show PyData.canLayAll0 ((x :: r).map D) = (PyData.canLay0 (D x) && PyData.canLayAll0 (r.map D)) from rfl, Bool.and_eq_true] at h
      have i1 := ih h.2
      have i2 := h2 x
      show max (PyData.depth (D x)) (PyData.depthAll (r.map D)) ≤ 10
      omega
  unfold SeqAt.shaped
  rw [show PyData.canLay0 (.list (xs.map D)) = PyData.canLayAll0 (xs.map D) from rfl, a]
  exact decide_eq_true (show PyData.depthAll (xs.map D) + 1 ≤ 64 by omega)
theorem shaped_arcs (arcs : List PP) : SeqAt.shaped (.list (arcs.map arcD)) = true := shaped_rows (fun x => rfl) (fun x => by show 1 ≤ 10; decide) arcs
theorem shaped_items (es : List Ent) : SeqAt.shaped (.list (es.map itemD)) = true := shaped_rows (fun x => rfl) (fun x => by show 2 ≤ 10; decide) es
theorem eqv_same {d : PyData} (h : SeqAt.shaped d = true) : PyData.eqv d d = true := by
  unfold SeqAt.shaped at h
  rw [Bool.and_eq_true] at h
  exact SeqAt.eqv_refl d h.1
theorem shaped_can {ds : List PyData} (h : SeqAt.shaped (.list ds) = true) : PyData.canLayAll0 ds = true := by
  unfold SeqAt.shaped at h
  rw [Bool.and_eq_true] at h
  exact h.1
/-- a != of two lists of one datum -/
theorem neD_same {K : PySem.W.Frag} {H : Hp} {a b : Addr} {xs ys : List V} {ds : List PyData} {Q : VK} (ha : H a = some (.lst xs)) (hb : H b = some (.lst ys)) (hx : TDs H xs ds) (hy : TDs H ys ds) (sh : SeqAt.shaped (.list ds) = true) (q : Q (.bl false) H) : rNeD K (.ref a) (.ref b) H Q :=
  ⟨.list ds, .list ds, .lst (SqL.of ha) (TDs.dp (shaped_can sh) hx), .lst (SqL.of hb) (TDs.dp (shaped_can sh) hy), sh, sh, by
    rw [eqv_same sh]
    exact q⟩
theorem walk_itp {d : Addr} {o : Obj} {es : List Ent} : Walk (Itp d o es) es.length (fun H => H d = some (.frz o (.dT (es.map entP)))) (fun i H x H' => ∃ (a : Addr) (e : Ent) (q : Addr), es[i]? = some e ∧ x = .ref a ∧ H a = none ∧ H q = some (.tup [.int e.1.1, .int e.1.2]) ∧ H' = upd H a (.tup [.ref q, .int e.2])) :=
  ⟨fun _ _ hi h => ⟨h, hi⟩, fun _ h => ⟨h, Nat.le_refl _⟩, fun _ _ _ _ _ _ y => y⟩
end Bs

namespace Bs
open PySem PySem.Spec PyProof.Rows L2
open Evl (Ex)
/-! ### steps: a reading, opened by its head -/
section
variable {K : PySem.W.Frag} {σ : L2.St} {H : Hp} {Q : VK}
theorem q_var {i : Nat} {x : V} (h : σ[i]? = some (some x)) (q : Q x H) : tVar i σ H Q := ⟨x, h, q⟩
theorem q_c {v : V} (q : Q v H) : tC v σ H Q := q
theorem q_op {r : R2} {ta tb : TE} (q : ta σ H fun x H1 => tb σ H1 fun y H2 => r x y H2 Q) : tOp r ta tb σ H Q := q
theorem q_un {r : V → Hp → VK → Prop} {ta : TE} (q : ta σ H fun x H1 => r x H1 Q) : tUn r ta σ H Q := q
theorem q_ii {C : Int → Int → Prop} {g : Int → Int → V} {i j : Int} (c : C i j) (q : Q (g i j) H) : rI C g (.int i) (.int j) H Q := ⟨i, j, rfl, rfl, c, q⟩
theorem q_i0 {g : Int → Int → V} {i j : Int} (q : Q (g i j) H) : rI0 g (.int i) (.int j) H Q := ⟨i, j, rfl, rfl, q⟩
theorem q_u {g : Int → V} {i : Int} (q : Q (g i) H) : rU g (.int i) H Q := ⟨i, rfl, q⟩
theorem q_add {i j : Int} (q : Q (.int (i + j)) H) : rAdd (.int i) (.int j) H Q := ⟨i, j, rfl, rfl, q⟩
theorem q_sub {i j : Int} (q : Q (.int (i - j)) H) : rSub (.int i) (.int j) H Q := ⟨i, j, rfl, rfl, q⟩
theorem dec_int {i j : Int} : decide (V.int i = V.int j) = decide (i = j) := by
  by_cases h : i = j
  · rw [h, decide_eq_true rfl, decide_eq_true rfl]
  · rw [decide_eq_false h, decide_eq_false fun e => h (by injection e)]
theorem dec_str {i j : Str} : decide (V.str i = V.str j) = decide (i = j) := by
  by_cases h : i = j
  · rw [h, decide_eq_true rfl, decide_eq_true rfl]
  · rw [decide_eq_false h, decide_eq_false fun e => h (by injection e)]
theorem q_eqI {i j : Int} (q : Q (.bl (decide (i = j))) H) : rEq (.int i) (.int j) H Q := ⟨rfl, by rw [dec_int]; exact q⟩
theorem q_neI {i j : Int} (q : Q (.bl (!decide (i = j))) H) : rNe (.int i) (.int j) H Q := ⟨rfl, by rw [dec_int]; exact q⟩
theorem q_eqS {i j : Str} (q : Q (.bl (decide (i = j))) H) : rEq (.str i) (.str j) H Q := ⟨rfl, by rw [dec_str]; exact q⟩
theorem q_neS {i j : Str} (q : Q (.bl (!decide (i = j))) H) : rNe (.str i) (.str j) H Q := ⟨rfl, by rw [dec_str]; exact q⟩
theorem q_ipI {g : Int → Int → Int} {i j : Int} (q : Q (.int (g i j)) H) : ipI g (.int i) (.int j) H Q := ⟨i, j, rfl, rfl, q⟩
/-! tests -/
variable {R : Bool → Hp → Prop}
theorem q_tst {t : TE} (q : t σ H fun x H' => ∃ k, x = .bl k ∧ R k H') : tTest t σ H R := q
theorem q_tB {t : TE} (q : t σ H fun x H' => ∃ k, x = .bl k ∧ R k H') : tB t σ H R := q
theorem q_chain {r r' : R2} {ta tb tc : TE} (q : ta σ H fun x H1 => tb σ H1 fun y H2 => r x y H2 fun z H3 => ∃ k, z = .bl k ∧ if k = true then tc σ H3 (fun w H4 => r' y w H4 Q) else Q (.bl false) H3) : tChain r r' ta tb tc σ H Q := q
theorem q_ex {b : Bool} {P : Bool → Prop} (q : P b) : ∃ k, V.bl b = .bl k ∧ P k := ⟨b, rfl, q⟩
theorem q_exi {b : Int} {P : Int → Prop} (q : P b) : ∃ k, V.int b = .int k ∧ P k := ⟨b, rfl, q⟩
theorem q_yes (q : R true H) : tYes σ H R := q
theorem q_and {t u : TT} (q : t σ H fun c H1 => if c = true then u σ H1 R else R false H1) : tAnd t u σ H R := q
theorem q_or {t u : TT} (q : t σ H fun c H1 => if c = true then R true H1 else u σ H1 R) : tOr t u σ H R := q
theorem q_not {t : TT} (q : t σ H fun c H1 => R (!c) H1) : tNot t σ H R := q
theorem q_andV {ta tb : TE} (q : ta σ H fun x H1 => ∃ c, x = .bl c ∧ if c = true then tb σ H1 Q else Q (.bl false) H1) : tAndV ta tb σ H Q := q
theorem q_orV {ta tb : TE} (q : ta σ H fun x H1 => ∃ c, x = .bl c ∧ if c = true then Q (.bl true) H1 else tb σ H1 Q) : tOrV ta tb σ H Q := q
theorem q_notV {ta : TE} (q : ta σ H fun x H1 => ∃ c, x = .bl c ∧ Q (.bl (!c)) H1) : tNotV ta σ H Q := q
theorem q_if {t : TT} {ta tb : TE} (q : t σ H fun c H1 => if c = true then ta σ H1 Q else tb σ H1 Q) : tIf t ta tb σ H Q := q
/-! arguments, displays, calls -/
theorem q_nil {P : List V → Hp → Prop} (q : P [] H) : tNil σ H P := q
theorem q_cons {ta : TE} {tr : TA} {P : List V → Hp → Prop} (q : ta σ H fun x H1 => tr σ H1 fun xs H2 => P (x :: xs) H2) : tCons ta tr σ H P := q
theorem q_tup {t : TA} (q : t σ H fun xs H1 => xs.length ≤ sizeLine ∧ ∀ p, H1 p = none → Q (.ref p) (upd H1 p (.tup xs))) : tTup t σ H Q := q
theorem q_lst {t : TA} (q : t σ H fun xs H1 => xs.length ≤ sizeLine ∧ ∀ p, H1 p = none → Q (.ref p) (upd H1 p (.lst xs))) : tLst t σ H Q := q
theorem q_made {xs : List V} {P : Addr → Prop} (h : xs.length ≤ 16000000) (q : ∀ p, H p = none → P p) : xs.length ≤ sizeLine ∧ ∀ p, H p = none → P p := ⟨by rw [sizeLine_eq]; omega, q⟩
theorem q_cb {r : List V → Hp → VK → Prop} {t : TA} (q : t σ H fun vs H1 => r vs H1 Q) : tCB r t σ H Q := q
theorem q_call {sp : Sp} {E : XK} {t : TA} (q : t σ H fun vs H1 => sp vs H1 Q E) : tCall sp [] E t σ H Q := by
  have e : (fun (vs : List V) H1 => sp (vs ++ []) H1 Q E) = fun vs H1 => sp vs H1 Q E := by
    funext vs H1
    rw [List.append_nil]
  show t σ H fun vs H1 => sp (vs ++ []) H1 Q E
  rw [e]
  exact q
theorem q_callL {i : Nat} {f : Addr} {sp : Sp} {E : XK} {t : TA} (h : σ[i]? = some (some (.ref f))) (q : t σ H fun vs H1 => sp vs H1 Q E) : tCallL i f sp [] E t σ H Q := by
  refine ⟨h, ?_⟩
  have e : (fun (vs : List V) H1 => sp (vs ++ []) H1 Q E) = fun vs H1 => sp vs H1 Q E := by
    funext vs H1
    rw [List.append_nil]
  rw [e]
  exact q
theorem q_bm {T : String} {r : V → List V → Hp → VK → Prop} {to : TE} {t : TA} (q : to σ H fun x H1 => tyV K T x H1 ∧ t σ H1 fun xs H2 => r x xs H2 Q) : tBM K T r to t σ H Q := q
theorem q_bm0 {T : String} {r : V → List V → Hp → VK → Prop} {to : TE} (q : to σ H fun x H1 => tyV K T x H1 ∧ r x [] H1 Q) : tBM0 K T r to σ H Q := q
theorem q_tyL {a : Addr} {xs : List V} {P : Prop} (h : H a = some (.lst xs)) (q : P) : tyV K "list" (.ref a) H ∧ P := ⟨.inl ⟨rfl, _, SqL.of h⟩, q⟩
theorem q_sl {r : V → Option Int → Option Int → Hp → VK → Prop} {te : TE} {tl th : TO} (q : te σ H fun x H1 => tl σ H1 fun l H2 => th σ H2 fun u H3 => r x l u H3 Q) : tSl r te tl th σ H Q := q
theorem q_noPart {P : Option Int → Hp → Prop} (q : P none H) : tNoPart σ H P := q
theorem q_part {t : TE} {P : Option Int → Hp → Prop} (q : t σ H fun x H1 => ∃ i, x = .int i ∧ P (some i) H1) : tPart t σ H P := q
/-! things -/
theorem q_ixL {p : Addr} {xs : List V} {i : Int} {v : V} (h : H p = some (.lst xs)) (e : atI xs i = some v) (q : Q v H) : rIxL K (.ref p) (.int i) H Q := ⟨p, xs, i, v, rfl, rfl, SqL.of h, e, q⟩
theorem q_ixT {p : Addr} {xs : List V} {i : Int} {v : V} (h : H p = some (.tup xs)) (e : atI xs i = some v) (q : Q v H) : rIxT K (.ref p) (.int i) H Q := ⟨p, xs, i, v, rfl, rfl, SqT.of h, e, q⟩
theorem q_lenL {p : Addr} {ys : List V} (h : H p = some (.lst ys)) (q : Q (.int ys.length) H) : rLenK K [.ref p] H Q := ⟨p, ys, rfl, .inl (SqL.of h), q⟩
theorem q_lenT {p : Addr} {ys : List V} (h : H p = some (.tup ys)) (q : Q (.int ys.length) H) : rLenK K [.ref p] H Q := ⟨p, ys, rfl, .inr (SqT.of h), q⟩
theorem q_lenS {p : Addr} {ys : List V} (h : SqL K H p ys) (q : Q (.int ys.length) H) : rLenK K [.ref p] H Q := ⟨p, ys, rfl, .inl h, q⟩
theorem q_setL {p : Addr} {xs : List V} {i : Int} {j : Nat} {v : V} {P : Hp → Prop} (h : H p = some (.lst xs)) (e : ixN xs.length i = some j) (q : P (upd H p (.lst (xs.set j v)))) : rSetL (.ref p) (.int i) v H P := ⟨p, xs, i, j, rfl, rfl, h, e, q⟩
theorem q_append {l : Addr} {xs : List V} {y : V} (h : H l = some (.lst xs)) (s : xs.length < 16000000) (q : Q .non (upd H l (.lst (xs ++ [y])))) : rAppend (.ref l) [y] H Q := ⟨l, xs, y, rfl, rfl, h, by rw [sizeLine_eq]; omega, q⟩
theorem q_popAt {l : Addr} {xs : List V} {i : Nat} {y : V} (h : H l = some (.lst xs)) (e : xs[i]? = some y) (s : xs.length ≤ 16000000) (q : Q y (upd H l (.lst (xs.eraseIdx i)))) : rPopAt (.ref l) [.int i] H Q := by
  have hlt : i < xs.length := (List.getElem?_eq_some_iff.mp e).1
  have small : ((xs.length : Nat) : Int) ≤ 16000000 := by omega
  refine ⟨l, xs, i, i, y, rfl, rfl, h, by omega, by omega, ?_, e, q⟩
  have n : ¬ ((i : Int) < 0) := by omega
  unfold seqIndex?
  simp only [if_neg n]
  rw [if_pos (by simp; omega)]
  simp
def rList (K : PySem.W.Frag) : List V → Hp → VK → Prop := fun xs H Q => ∃ p ys, xs = [.ref p] ∧ (SqL K H p ys ∨ SqT K H p ys) ∧ ∀ l, H l = none → Q (.ref l) (upd H l (.lst ys))
def rTuple (K : PySem.W.Frag) : List V → Hp → VK → Prop := fun xs H Q => ∃ p ys, xs = [.ref p] ∧ ((SqL K H p ys ∧ ∀ l, H l = none → Q (.ref l) (upd H l (.tup ys))) ∨ (SqT K H p ys ∧ Q (.ref p) H))
theorem q_tupleL {p : Addr} {ys : List V} (h : H p = some (.lst ys)) (q : ∀ l, H l = none → Q (.ref l) (upd H l (.tup ys))) : rTuple K [.ref p] H Q := ⟨p, ys, rfl, .inl ⟨SqL.of h, q⟩⟩
theorem q_listL {p : Addr} {ys : List V} (h : H p = some (.lst ys)) (q : ∀ l, H l = none → Q (.ref l) (upd H l (.lst ys))) : rList K [.ref p] H Q := ⟨p, ys, rfl, .inl (SqL.of h), q⟩
theorem q_listT {p : Addr} {ys : List V} (h : H p = some (.tup ys)) (q : ∀ l, H l = none → Q (.ref l) (upd H l (.lst ys))) : rList K [.ref p] H Q := ⟨p, ys, rfl, .inr (SqT.of h), q⟩
def rIsN : R2 := fun x y H Q => y = .non ∧ Q (.bl (decide (x = .non))) H
def rNotN : R2 := fun x y H Q => y = .non ∧ Q (.bl (!decide (x = .non))) H
def rMax2 : List V → Hp → VK → Prop := fun xs H Q => ∃ i j, xs = [.int i, .int j] ∧ Q (.int (if j > i then j else i)) H
def rMin2 : List V → Hp → VK → Prop := fun xs H Q => ∃ i j, xs = [.int i, .int j] ∧ Q (.int (if j < i then j else i)) H
theorem q_isN {x : V} (q : Q (.bl (decide (x = .non))) H) : rIsN x .non H Q := ⟨rfl, q⟩
theorem q_notN {x : V} (q : Q (.bl (!decide (x = .non))) H) : rNotN x .non H Q := ⟨rfl, q⟩
theorem q_max2 {i j : Int} (q : Q (.int (max i j)) H) : rMax2 [.int i, .int j] H Q := ⟨i, j, rfl, by
  rw [show (if j > i then j else i) = max i j by rw [Int.max_def]; split <;> split <;> omega]
  exact q⟩
theorem q_min2 {i j : Int} (q : Q (.int (min i j)) H) : rMin2 [.int i, .int j] H Q := ⟨i, j, rfl, by
  rw [show (if j < i then j else i) = min i j by rw [Int.min_def]; split <;> split <;> omega]
  exact q⟩
theorem q_sum {a : Addr} {ns : List Int} (h : H a = some (.lst (ns.map V.int))) (q : Q (.int ns.sum) H) : rSum K [.ref a] H Q := ⟨a, ns, rfl, SqL.of h, q⟩
theorem q_maxL {a : Addr} {ns : List Int} (h : H a = some (.lst (ns.map V.int))) (l : 0 < ns.length) (q : ∀ m, m ∈ ns → (∀ y, y ∈ ns → y ≤ m) → Q (.int m) H) : rMax K [.ref a] H Q := ⟨a, ns, rfl, SqL.of h, l, q⟩
theorem q_minL {a : Addr} {ns : List Int} (h : H a = some (.lst (ns.map V.int))) (l : 0 < ns.length) (q : ∀ m, m ∈ ns → (∀ y, y ∈ ns → m ≤ y) → Q (.int m) H) : rMin K [.ref a] H Q := ⟨a, ns, rfl, SqL.of h, l, q⟩
theorem q_all {a : Addr} {bs : List Bool} (h : H a = some (.lst (bs.map V.bl))) (q : Q (.bl (bs.all id)) H) : rAll K [.ref a] H Q := ⟨a, bs, rfl, SqL.of h, q⟩
theorem q_any {a : Addr} {bs : List Bool} (h : H a = some (.lst (bs.map V.bl))) (q : Q (.bl (bs.any id)) H) : rAny K [.ref a] H Q := ⟨a, bs, rfl, SqL.of h, q⟩
theorem q_slL {a : Addr} {xs : List V} {lo hi : Option Int} (h : H a = some (.lst xs)) (q : ∀ p, H p = none → Q (.ref p) (upd H p (.lst (cutV xs lo hi)))) : rSlL K (.ref a) lo hi H Q := ⟨a, xs, rfl, SqL.of h, q⟩
theorem cutV_lo {xs : List V} {a : Nat} (h : a ≤ xs.length) : cutV xs none (some (a : Int)) = xs.take a := by
  unfold cutV
  rw [HT.sIx_nat, HT.sIx_none, List.drop_zero, Nat.min_eq_left h, Nat.sub_zero]
theorem cutV_hi {xs : List V} {a : Nat} (h : a ≤ xs.length) : cutV xs (some (a : Int)) none = xs.drop a := by
  unfold cutV
  rw [HT.sIx_nat, HT.sIx_none, Nat.min_eq_left h]
  exact List.take_of_length_le (by rw [List.length_drop]; exact Nat.le_refl _)
theorem cutV_one {xs : List V} : cutV xs (some 1) none = xs.drop 1 := by
  rcases xs with _ | ⟨x, r⟩
  · rfl
  · exact cutV_hi (a := 1) (xs := x :: r) (by simp)
theorem q_catL {a b : Addr} {xs ys : List V} (ha : H a = some (.lst xs)) (hb : H b = some (.lst ys)) (s : xs.length + ys.length ≤ 16000000) (q : ∀ p, H p = none → Q (.ref p) (upd H p (.lst (xs ++ ys)))) : rCat (.ref a) (.ref b) H Q := ⟨a, b, xs, ys, rfl, rfl, ha, hb, by rw [sizeLine_eq]; omega, q⟩
theorem q_eqD {x y : V} {d e : PyData} (h1 : Dp K H x d) (h2 : Dp K H y e) (s1 : SeqAt.shaped d = true) (s2 : SeqAt.shaped e = true) (q : Q (.bl (PyData.eqv d e)) H) : rEqD K x y H Q := ⟨d, e, h1, h2, s1, s2, q⟩
theorem q_neD {x y : V} {d e : PyData} (h1 : Dp K H x d) (h2 : Dp K H y e) (s1 : SeqAt.shaped d = true) (s2 : SeqAt.shaped e = true) (q : Q (.bl (!PyData.eqv d e)) H) : rNeD K x y H Q := ⟨d, e, h1, h2, s1, s2, q⟩
theorem q_isiI {i : Int} (q : Q (.bl true) H) : rIsi K [.int i, .ty "int"] H Q := ⟨_, _, _, _, _, rfl, .ty _, (Kd.int (K := K) (H := H) i).ty, (Kd.int (K := K) (H := H) i).int?, q⟩
theorem q_isiB {i : Int} (q : Q (.bl false) H) : rIsi K [.int i, .ty "bool"] H Q := ⟨_, _, _, _, _, rfl, .ty _, (Kd.int (K := K) (H := H) i).ty, (Kd.int (K := K) (H := H) i).bool?, q⟩
theorem q_isiL {a : Addr} {xs : List V} (h : H a = some (.lst xs)) (q : Q (.bl true) H) : rIsi K [.ref a, .ty "list"] H Q := ⟨_, _, _, _, _, rfl, .ty _, .base (.lst h), kit_ty (r := true) (by decide +kernel), q⟩
theorem q_isiT {a : Addr} {xs : List V} (h : H a = some (.tup xs)) (q : Q (.bl true) H) : rIsi K [.ref a, .ty "tuple"] H Q := ⟨_, _, _, _, _, rfl, .ty _, .base (.tup h), kit_ty (r := true) (by decide +kernel), q⟩
theorem flat_ints (ns : List Int) : (ns.map V.int).all flatV = true := by
  rw [List.all_eq_true]
  intro v hv
  obtain ⟨n, _, rfl⟩ := List.mem_map.mp hv
  rfl
theorem inV_ints {v : Int} : ∀ ns : List Int, inV (.int v) (ns.map V.int) = decide (v ∈ ns)
  | [] => rfl
  | n :: ns => by
    unfold inV
    rw [List.map_cons, List.any_cons]
    have ih := inV_ints (v := v) ns
    unfold inV at ih
    rw [ih]
    show (n == v || _) = _
    by_cases h : n = v
    · subst h
      simp
    · rw [show (n == v) = false from beq_eq_false_iff_ne.mpr h, Bool.false_or]
      have : v ≠ n := fun e => h e.symm
      simp [this]
theorem q_inI {p : Addr} {ns : List Int} {v : Int} (h : H p = some (.lst (ns.map V.int))) (q : Q (.bl (decide (v ∈ ns))) H) : rIn K false (.int v) (.ref p) H Q := ⟨p, _, rfl, .inl (SqL.of h), rfl, flat_ints ns, by
  rw [if_neg Bool.false_ne_true, inV_ints]
  exact q⟩
theorem q_niI {p : Addr} {ns : List Int} {v : Int} (h : H p = some (.lst (ns.map V.int))) (q : Q (.bl (!decide (v ∈ ns))) H) : rIn K true (.int v) (.ref p) H Q := ⟨p, _, rfl, .inl (SqL.of h), rfl, flat_ints ns, by
  rw [if_pos rfl, inV_ints]
  exact q⟩
theorem q_niIT {p : Addr} {ns : List Int} {v : Int} (h : H p = some (.tup (ns.map V.int))) (q : Q (.bl (!decide (v ∈ ns))) H) : rIn K true (.int v) (.ref p) H Q := ⟨p, _, rfl, .inr (SqT.of h), rfl, flat_ints ns, by
  rw [if_pos rfl, inV_ints]
  exact q⟩
theorem q_indexI {a : Addr} {ns : List Int} {v : Int} {j : Nat} (h : H a = some (.lst (ns.map V.int))) (e : ns[j]? = some v) (f : ∀ (m : Nat), m < j → ns[m]? ≠ some v) (q : Q (.int (j : Nat)) H) : rIndex K (.ref a) [.int v] H Q := by
  refine ⟨a, _, .int v, j, .int v, rfl, rfl, SqL.of h, rfl, flat_ints ns, by rw [List.getElem?_map, e]; rfl, by show (v == v) = true; simp, fun m z hm hz => ?_, q⟩
  rw [List.getElem?_map] at hz
  cases hn : ns[m]? with
  | none => rw [hn] at hz; cases hz
  | some n =>
    rw [hn] at hz
    have := Option.some.inj hz
    subst this
    show (n == v) = false
    exact beq_eq_false_iff_ne.mpr fun c => f m hm (by rw [hn, c])
theorem first_at {v : Int} : ∀ {ns : List Int}, v ∈ ns → ∃ j : Nat, ns[j]? = some v ∧ ∀ m : Nat, m < j → ns[m]? ≠ some v
  | n :: ns, h => by
    by_cases c : n = v
    · subst c
      exact ⟨0, rfl, fun m hm => absurd hm (Nat.not_lt_zero m)⟩
    · have h2 : v ∈ ns := by
        rcases List.mem_cons.mp h with e | e
        · exact absurd e.symm c
        · exact e
      obtain ⟨j, h3, h4⟩ := first_at h2
      refine ⟨j + 1, h3, fun m hm => ?_⟩
      cases m with
      | zero => exact fun z => c (Option.some.inj z)
      | succ m => exact h4 m (by omega)
theorem first_eq {v : Int} {ns : List Int} {i j : Nat} (a : ns[i]? = some v) (a' : ∀ m : Nat, m < i → ns[m]? ≠ some v) (b : ns[j]? = some v) (b' : ∀ m : Nat, m < j → ns[m]? ≠ some v) : i = j := by
  rcases Nat.lt_trichotomy i j with h | h | h
  · exact absurd a (b' i h)
  · exact h
  · exact absurd b (a' j h)
theorem at_mem {xs : List V} {n : Int} (h0 : 0 ≤ n) (h1 : n < xs.length) : ∃ v, v ∈ xs ∧ atI xs n = some v := by
  obtain ⟨j, rfl⟩ : ∃ j : Nat, n = (j : Int) := ⟨_, (Int.toNat_of_nonneg h0).symm⟩
  have hj : j < xs.length := by omega
  exact ⟨xs[j], List.getElem_mem hj, atI_nat (List.getElem?_eq_getElem hj)⟩
/-! what stands behind a test -/
theorem q_ifT {A B : Prop} (h : A) : if true = true then A else B := iteT h
theorem q_ifF {A B : Prop} (h : B) : if false = true then A else B := iteF h
theorem q_ifNT {A B : Prop} (h : B) : if (!true) = true then A else B := iteF h
theorem q_ifNF {A B : Prop} (h : A) : if (!false) = true then A else B := iteT h
theorem q_ifNN {b : Bool} {A B : Prop} (h : if b = true then A else B) : if (!!b) = true then A else B := by
  rw [Bool.not_not]
  exact h
theorem q_ifD {p : Prop} [Decidable p] {A B : Prop} (h1 : p → A) (h2 : ¬ p → B) : if decide p = true then A else B := by
  by_cases h : p
  · rw [if_pos (decide_eq_true h)]
    exact h1 h
  · rw [if_neg (by rw [decide_eq_false h]; exact Bool.false_ne_true)]
    exact h2 h
theorem q_ifDT {p : Prop} [Decidable p] {A B : Prop} (h : p) (q : A) : if decide p = true then A else B := q_ifD (fun _ => q) fun n => absurd h n
theorem q_ifDF {p : Prop} [Decidable p] {A B : Prop} (h : ¬ p) (q : B) : if decide p = true then A else B := q_ifD (fun n => absurd n h) fun _ => q
theorem q_ifN {p : Prop} [Decidable p] {A B : Prop} (h1 : ¬ p → A) (h2 : p → B) : if (!decide p) = true then A else B := by
  by_cases h : p
  · rw [decide_eq_true h]
    exact iteF (h2 h)
  · rw [decide_eq_false h]
    exact iteT (h1 h)
theorem q_ifNDT {p : Prop} [Decidable p] {A B : Prop} (h : ¬ p) (q : A) : if (!decide p) = true then A else B := q_ifN (fun _ => q) fun n => absurd n h
theorem q_ifNDF {p : Prop} [Decidable p] {A B : Prop} (h : p) (q : B) : if (!decide p) = true then A else B := q_ifN (fun n => absurd h n) fun _ => q
theorem q_ifB {b : Bool} {A B : Prop} (h1 : b = true → A) (h2 : b = false → B) : if b = true then A else B := by
  cases b with
  | true => exact iteT (h1 rfl)
  | false => exact iteF (h2 rfl)
end
/-! ### statements, what is wanted behind them written out -/
section
variable {K : PySem.W.Frag} {σ : L2.St} {H : Hp} {nx bk ct : L2.St → Hp → Prop} {rt : VK}
theorem q_seq {t u : TS} (q : t ⟨fun σ H => u ⟨nx, rt, bk, ct⟩ σ H, rt, bk, ct⟩ σ H) : tSeq t u ⟨nx, rt, bk, ct⟩ σ H := q
theorem q_next (q : nx σ H) : tNext ⟨nx, rt, bk, ct⟩ σ H := q
theorem q_break (q : bk σ H) : tBreak ⟨nx, rt, bk, ct⟩ σ H := q
theorem q_cont (q : ct σ H) : tCont ⟨nx, rt, bk, ct⟩ σ H := q
theorem q_drop {te : TE} (q : te σ H fun _ H1 => nx σ H1) : tDrop te ⟨nx, rt, bk, ct⟩ σ H := q
theorem q_ret {te : TE} (q : te σ H rt) : tRet te ⟨nx, rt, bk, ct⟩ σ H := q
theorem q_retN (q : rt .non H) : tRetN ⟨nx, rt, bk, ct⟩ σ H := q
theorem q_ifS {c : TT} {t u : TS} (q : c σ H fun b H1 => if b = true then t ⟨nx, rt, bk, ct⟩ σ H1 else u ⟨nx, rt, bk, ct⟩ σ H1) : tIfS c t u ⟨nx, rt, bk, ct⟩ σ H := q
theorem q_asg {te : TE} {g : TG} (q : te σ H fun x H1 => g x σ H1 nx) : tAsg te g ⟨nx, rt, bk, ct⟩ σ H := q
theorem q_par {i j : Nat} {ta : TA} (q : ta σ H fun vs H1 => ∃ v w, vs = [v, w] ∧ nx ((σ.set i (some v)).set j (some w)) H1) : tPar i j ta ⟨nx, rt, bk, ct⟩ σ H := q
theorem q_aug {i : Nat} {te : TE} {ti : TIp} {x : V} (e : σ[i]? = some (some x)) (q : te σ H fun y H1 => ti x y H1 fun z H2 => nx (σ.set i (some z)) H2) : tAug i te ti ⟨nx, rt, bk, ct⟩ σ H := ⟨x, e, q⟩
theorem q_g {i : Nat} {v : V} {τ : L2.St} {P : L2.St → Hp → Prop} (e : σ.set i (some v) = τ) (q : P τ H) : gName i v σ H P := by
  subst e
  exact q
theorem q_set {i : Nat} {v : V} {τ : L2.St} {P : L2.St → Hp → Prop} (e : σ.set i (some v) = τ) (q : P τ H) : P (σ.set i (some v)) H := by
  subst e
  exact q
theorem q_gsub {to ti : TE} {t : TSet} {v : V} {P : L2.St → Hp → Prop} (q : to σ H fun o H1 => ti σ H1 fun i H2 => t o i v H2 fun H3 => P σ H3) : gSub to ti t v σ H P := q
theorem q_gnil {P : L2.St → Hp → Prop} (q : P σ H) : gNil [] σ H P := ⟨rfl, q⟩
theorem q_gcons {t : TG} {u : TGs} {v : V} {r : List V} {P : L2.St → Hp → Prop} (q : t v σ H fun σ' H' => u r σ' H' P) : gCons t u (v :: r) σ H P := ⟨v, r, rfl, q⟩
theorem q_gtup {n : Nat} {t : TGs} {a : Addr} {xs : List V} {P : L2.St → Hp → Prop} (h : H a = some (.tup xs)) (l : xs.length = n) (q : t xs σ H P) : gTup K n t (.ref a) σ H P := ⟨a, xs, rfl, SqT.of h, l, q⟩
theorem q_start {t : TS} {D : Ends} {N : List PySem.Str} {vs : List V} {τ : L2.St} (e : L2.start N vs = τ) (q : t D τ H) : t D (L2.start N vs) H := by
  rw [e]
  exact q
/-- a walk of J, its body from turn to turn -/
def Loop (J : It) (g : TG) (tb : TS) (nx : L2.St → Hp → Prop) (rt : VK) (σ : L2.St) (H : Hp) : Prop := ∃ W : Nat → Nat → L2.St → Hp → Prop, (∃ m, W 0 m σ H) ∧ ∀ i m σ H, W i m σ H →
  (J.stop i H ∧ nx σ H) ∨ (J.go i H ∧ ∃ N : L2.St → Hp → Prop, (∀ σ' H', N σ' H' → ∃ m', m' < m ∧ W (i + 1) m' σ' H') ∧ ∀ x H', J.yld i H x H' → g x σ H' fun σ2 H2 => tb ⟨N, rt, nx, N⟩ σ2 H2)
theorem q_for {wi : TI} {g : TG} {tb : TS} (q : wi σ H fun J H1 => Loop J g tb nx rt σ H1) : tFor wi g tb ⟨nx, rt, bk, ct⟩ σ H := q
theorem q_iList {tl : TE} {P : It → Hp → Prop} (q : tl σ H fun x H1 => ∃ a, x = .ref a ∧ (∃ xs, SqL K H1 a xs) ∧ P (Itl K a) H1) : iList K tl σ H P := q
theorem q_iTup {tl : TE} {P : It → Hp → Prop} (q : tl σ H fun x H1 => ∃ a, x = .ref a ∧ (∃ xs, SqT K H1 a xs) ∧ P (Itt K a) H1) : iTup K tl σ H P := q
theorem q_isL {a : Addr} {xs : List V} {P : Addr → Prop} (h : H a = some (.lst xs)) (q : P a) : ∃ b, V.ref a = .ref b ∧ (∃ xs, SqL K H b xs) ∧ P b := ⟨a, rfl, ⟨_, SqL.of h⟩, q⟩
theorem q_isT {a : Addr} {xs : List V} {P : Addr → Prop} (h : H a = some (.tup xs)) (q : P a) : ∃ b, V.ref a = .ref b ∧ (∃ xs, SqT K H b xs) ∧ P b := ⟨a, rfl, ⟨_, SqT.of h⟩, q⟩
theorem q_iRng {ta : TA} {P : It → Hp → Prop} (q : ta σ H fun vs H1 => ∃ j : Int, vs = [.int j] ∧ -(2 ^ 62) ≤ j ∧ j < 2 ^ 62 ∧ P (Itr 0 j.toNat) H1) : iRng1 ta σ H P := q
theorem q_rng {j : Int} {P : Int → Prop} (h : -(2 ^ 62) ≤ j ∧ j < 2 ^ 62) (q : P j) : ∃ k : Int, [V.int j] = [.int k] ∧ -(2 ^ 62) ≤ k ∧ k < 2 ^ 62 ∧ P k := ⟨j, rfl, h.1, h.2, q⟩
theorem q_iEnum {ta : TA} {P : It → Hp → Prop} (q : ta σ H fun vs H1 => ∃ a xs, vs = [.ref a] ∧ SqL K H1 a xs ∧ P (Ite K a) H1) : iEnum K ta σ H P := q
theorem q_enum {a : Addr} {xs : List V} {P : Addr → Prop} (h : H a = some (.lst xs)) (q : P a) : ∃ b xs, [V.ref a] = [.ref b] ∧ SqL K H b xs ∧ P b := ⟨a, xs, rfl, SqL.of h, q⟩
theorem q_iZip {ta : TA} {P : It → Hp → Prop} (q : ta σ H fun vs H1 => ∃ a b xs ys, vs = [.ref a, .ref b] ∧ SqL K H1 a xs ∧ SqL K H1 b ys ∧ P (Itz K a b) H1) : iZip K ta σ H P := q
theorem q_zip {a b : Addr} {xs ys : List V} {P : Addr → Addr → Prop} (h : H a = some (.lst xs)) (h' : H b = some (.lst ys)) (q : P a b) : ∃ c d xs ys, [V.ref a, .ref b] = [.ref c, .ref d] ∧ SqL K H c xs ∧ SqL K H d ys ∧ P c d := ⟨a, b, xs, ys, rfl, SqL.of h, SqL.of h', q⟩
variable {g : TG} {tb : TS}
theorem loop_range {n : Nat} (Pv : Nat → L2.St → Hp → Prop) (h0 : Pv 0 σ H)
    (hs : ∀ (i : Nat) σ H, i < n → Pv i σ H → g (.int (i : Nat)) σ H fun σ2 H2 => tb ⟨Pv (i + 1), rt, nx, Pv (i + 1)⟩ σ2 H2) (hd : ∀ σ H, Pv n σ H → nx σ H) : Loop (Itr 0 n) g tb nx rt σ H :=
  for_range (D := ⟨nx, rt, fun _ _ => False, fun _ _ => False⟩) Pv h0 (fun i σ H h p => by rw [Int.zero_add]; exact hs i σ H h p) hd
theorem loop_list {a : Addr} {xs : List V} (Pv : Nat → L2.St → Hp → Prop) (h0 : Pv 0 σ H) (hl : ∀ i σ H, i ≤ xs.length → Pv i σ H → H a = some (.lst xs))
    (hs : ∀ i x σ H, xs[i]? = some x → Pv i σ H → g x σ H fun σ2 H2 => tb ⟨Pv (i + 1), rt, nx, Pv (i + 1)⟩ σ2 H2) (hd : ∀ σ H, Pv xs.length σ H → nx σ H) : Loop (Itl K a) g tb nx rt σ H :=
  for_list (D := ⟨nx, rt, fun _ _ => False, fun _ _ => False⟩) Pv h0 (fun i σ H h p => SqL.of (hl i σ H h p)) hs hd
theorem loop_tup {a : Addr} {xs : List V} (Pv : Nat → L2.St → Hp → Prop) (h0 : Pv 0 σ H) (hl : ∀ i σ H, i ≤ xs.length → Pv i σ H → H a = some (.tup xs))
    (hs : ∀ i x σ H, xs[i]? = some x → Pv i σ H → g x σ H fun σ2 H2 => tb ⟨Pv (i + 1), rt, nx, Pv (i + 1)⟩ σ2 H2) (hd : ∀ σ H, Pv xs.length σ H → nx σ H) : Loop (Itt K a) g tb nx rt σ H :=
  for_tup (D := ⟨nx, rt, fun _ _ => False, fun _ _ => False⟩) Pv h0 (fun i σ H h p => SqT.of (hl i σ H h p)) hs hd
theorem loop_enum {a : Addr} {xs : List V} (Pv : Nat → L2.St → Hp → Prop) (h0 : Pv 0 σ H) (hl : ∀ i σ H, i ≤ xs.length → Pv i σ H → H a = some (.lst xs))
    (hs : ∀ i x σ H T, xs[i]? = some x → Pv i σ H → H T = none → g (.ref T) σ (upd H T (.tup [.int (i : Nat), x])) fun σ2 H2 => tb ⟨Pv (i + 1), rt, nx, Pv (i + 1)⟩ σ2 H2) (hd : ∀ σ H, Pv xs.length σ H → nx σ H) : Loop (Ite K a) g tb nx rt σ H := by
  refine ⟨fun i m σ H => m = xs.length - i ∧ i ≤ xs.length ∧ Pv i σ H, ⟨xs.length, by simp, Nat.zero_le _, h0⟩, ?_⟩
  rintro i m σ H ⟨rfl, hi, p⟩
  have q : SqL K H a xs := SqL.of (hl i σ H hi p)
  by_cases hlt : i < xs.length
  · refine .inr ⟨⟨xs, xs[i], q, by simp [hlt]⟩, Pv (i + 1), fun σ' H' p' => ⟨xs.length - (i + 1), by omega, rfl, hlt, p'⟩, fun x H' y => ?_⟩
    obtain ⟨T, y1, e1, e2, e3, e4⟩ := y
    subst e1 e3
    exact hs i y1 σ H T (e4 xs q) p e2
  · have e : i = xs.length := by omega
    subst e
    exact .inl ⟨⟨xs, q, Nat.le_refl _⟩, hd σ H p⟩
theorem loop_zip {a b : Addr} {xs ys : List V} {n : Nat} (hn : n = min xs.length ys.length) (Pv : Nat → L2.St → Hp → Prop) (h0 : Pv 0 σ H) (hl : ∀ i σ H, Pv i σ H → H a = some (.lst xs) ∧ H b = some (.lst ys))
    (hs : ∀ i x y σ H T, xs[i]? = some x → ys[i]? = some y → Pv i σ H → H T = none → g (.ref T) σ (upd H T (.tup [x, y])) fun σ2 H2 => tb ⟨Pv (i + 1), rt, nx, Pv (i + 1)⟩ σ2 H2) (hd : ∀ σ H, Pv n σ H → nx σ H) : Loop (Itz K a b) g tb nx rt σ H := by
  refine ⟨fun i m σ H => m = n - i ∧ i ≤ n ∧ Pv i σ H, ⟨n, by simp, Nat.zero_le _, h0⟩, ?_⟩
  rintro i m σ H ⟨rfl, hi, p⟩
  have q1 : SqL K H a xs := SqL.of (hl i σ H p).1
  have q2 : SqL K H b ys := SqL.of (hl i σ H p).2
  by_cases hlt : i < n
  · have l1 : i < xs.length := by omega
    have l2 : i < ys.length := by omega
    refine .inr ⟨⟨xs, ys, xs[i], ys[i], q1, q2, by simp [l1], by simp [l2]⟩, Pv (i + 1), fun σ' H' p' => ⟨n - (i + 1), by omega, rfl, hlt, p'⟩, fun x H' y => ?_⟩
    obtain ⟨T, y1, y2, e1, e2, e3, e4, e5⟩ := y
    subst e1 e3
    exact hs i y1 y2 σ H T (e4 xs q1) (e5 ys q2) p e2
  · have e : i = n := by omega
    subst e
    exact .inl ⟨⟨xs, ys, q1, q2, by omega⟩, hd σ H p⟩
/-- while, the test's reading told -/
theorem q_while {c : TT} (Pv : L2.St → Hp → Prop) (μ : L2.St → Hp → Nat) (h0 : Pv σ H)
    (hs : ∀ σ H, Pv σ H → c σ H fun b H1 => if b = true then tb ⟨fun σ' H' => Pv σ' H' ∧ μ σ' H' < μ σ H, rt, nx, fun σ' H' => Pv σ' H' ∧ μ σ' H' < μ σ H⟩ σ H1 else nx σ H1)
    (mono : ∀ σ H Q Q', (∀ b H1, Q b H1 → Q' b H1) → c σ H Q → c σ H Q') : tWhile c tb ⟨nx, rt, bk, ct⟩ σ H :=
  while_by (D := ⟨nx, rt, bk, ct⟩) Pv μ h0 hs mono
/-! comprehensions -/
/-- a list comprehension's walk: D is the new list -/
def LoopC (J : It) (g : TG) (tt : TT) (te : TE) (τ : L2.St) (vs : List Nat) (D : Addr) (Qd : Hp → Prop) (H : Hp) : Prop := ∃ W : Nat → Nat → Hp → Prop, (∃ m, W 0 m H) ∧ ∀ i m H, W i m H →
  (J.stop i H ∧ Qd H) ∨ (J.go i H ∧ ∃ Nx : Hp → Prop, (∀ H', Nx H' → ∃ m', m' < m ∧ W (i + 1) m' H') ∧ ∀ x H', J.yld i H x H' → g x τ H' fun σ2 H2 => wipe σ2 vs = τ ∧ tt σ2 H2 fun b H3 =>
    if b = true then te σ2 H3 fun y H4 => ∃ acc, H4 D = some (.lst acc) ∧ acc.length < sizeLine ∧ Nx (upd H4 D (.lst (acc ++ [y]))) else Nx H3)
theorem q_lc {wi : TI} {tt : TT} {te : TE} {vs : List Nat} {τ : L2.St} {Q : VK} (e : wipe σ vs = τ) (q : wi σ H fun J H1 => ∀ D, H1 D = none → LoopC J g tt te τ vs D (fun H => Q (.ref D) H) (upd H1 D (.lst []))) : tLc wi g tt te vs σ H Q := by
  subst e
  exact q
section
variable {tt : TT} {te : TE} {vs : List Nat} {τ : L2.St} {D : Addr} {Qd : Hp → Prop}
/-- one turn of it -/
def TurnC (g : TG) (tt : TT) (te : TE) (τ : L2.St) (vs : List Nat) (D : Addr) (x : V) (Nx : Hp → Prop) (H : Hp) : Prop := g x τ H fun σ2 H2 => wipe σ2 vs = τ ∧ tt σ2 H2 fun b H3 =>
  if b = true then te σ2 H3 fun y H4 => ∃ acc, H4 D = some (.lst acc) ∧ acc.length < sizeLine ∧ Nx (upd H4 D (.lst (acc ++ [y]))) else Nx H3
theorem q_turn {x : V} {Nx : Hp → Prop} (q : g x τ H fun σ2 H2 => wipe σ2 vs = τ ∧ tt σ2 H2 fun b H3 => if b = true then te σ2 H3 fun y H4 => ∃ acc, H4 D = some (.lst acc) ∧ acc.length < sizeLine ∧ Nx (upd H4 D (.lst (acc ++ [y]))) else Nx H3) : TurnC g tt te τ vs D x Nx H := q
theorem q_wiped {P : Prop} (e : wipe σ vs = τ) (q : P) : wipe σ vs = τ ∧ P := ⟨e, q⟩
theorem q_push {acc : List V} {P : List V → Prop} (h : H D = some (.lst acc)) (s : acc.length < 16000000) (q : P acc) : ∃ acc, H D = some (.lst acc) ∧ acc.length < sizeLine ∧ P acc := ⟨acc, h, by rw [sizeLine_eq]; omega, q⟩
theorem lcp_range {n : Nat} (Pv : Nat → Hp → Prop) (h0 : Pv 0 H) (hs : ∀ (i : Nat) H, i < n → Pv i H → TurnC g tt te τ vs D (.int (i : Nat)) (Pv (i + 1)) H) (hd : ∀ H, Pv n H → Qd H) : LoopC (Itr 0 n) g tt te τ vs D Qd H := by
  refine ⟨fun i m H => m = n - i ∧ i ≤ n ∧ Pv i H, ⟨n, by simp, Nat.zero_le _, h0⟩, ?_⟩
  rintro i m H ⟨rfl, hi, p⟩
  by_cases hlt : i < n
  · refine .inr ⟨hlt, Pv (i + 1), fun H' p' => ⟨n - (i + 1), by omega, rfl, hlt, p'⟩, fun x H' y => ?_⟩
    obtain ⟨e, y⟩ := y
    subst e y
    rw [Int.zero_add]
    exact hs i _ hlt p
  · have e : i = n := by omega
    subst e
    exact .inl ⟨Nat.le_refl _, hd H p⟩
theorem lcp_list {a : Addr} {xs : List V} (Pv : Nat → Hp → Prop) (h0 : Pv 0 H) (hl : ∀ i H, i ≤ xs.length → Pv i H → H a = some (.lst xs)) (hs : ∀ i x H, xs[i]? = some x → Pv i H → TurnC g tt te τ vs D x (Pv (i + 1)) H) (hd : ∀ H, Pv xs.length H → Qd H) : LoopC (Itl K a) g tt te τ vs D Qd H := by
  refine ⟨fun i m H => m = xs.length - i ∧ i ≤ xs.length ∧ Pv i H, ⟨xs.length, by simp, Nat.zero_le _, h0⟩, ?_⟩
  rintro i m H ⟨rfl, hi, p⟩
  have q : SqL K H a xs := SqL.of (hl i H hi p)
  by_cases hlt : i < xs.length
  · refine .inr ⟨⟨xs, xs[i], q, by simp [hlt]⟩, Pv (i + 1), fun H' p' => ⟨xs.length - (i + 1), by omega, rfl, hlt, p'⟩, fun x H' y => ?_⟩
    obtain ⟨e, y⟩ := y
    subst e
    exact hs i x _ (y xs q) p
  · have e : i = xs.length := by omega
    subst e
    exact .inl ⟨⟨xs, q, Nat.le_refl _⟩, hd H p⟩
theorem lcp_tup {a : Addr} {xs : List V} (Pv : Nat → Hp → Prop) (h0 : Pv 0 H) (hl : ∀ i H, i ≤ xs.length → Pv i H → H a = some (.tup xs)) (hs : ∀ i x H, xs[i]? = some x → Pv i H → TurnC g tt te τ vs D x (Pv (i + 1)) H) (hd : ∀ H, Pv xs.length H → Qd H) : LoopC (Itt K a) g tt te τ vs D Qd H := by
  refine ⟨fun i m H => m = xs.length - i ∧ i ≤ xs.length ∧ Pv i H, ⟨xs.length, by simp, Nat.zero_le _, h0⟩, ?_⟩
  rintro i m H ⟨rfl, hi, p⟩
  have q : SqT K H a xs := SqT.of (hl i H hi p)
  by_cases hlt : i < xs.length
  · refine .inr ⟨⟨xs, xs[i], q, by simp [hlt]⟩, Pv (i + 1), fun H' p' => ⟨xs.length - (i + 1), by omega, rfl, hlt, p'⟩, fun x H' y => ?_⟩
    obtain ⟨e, y⟩ := y
    subst e
    exact hs i x _ (y xs q) p
  · have e : i = xs.length := by omega
    subst e
    exact .inl ⟨⟨xs, q, Nat.le_refl _⟩, hd H p⟩
theorem lcp_enum {a : Addr} {xs : List V} (Pv : Nat → Hp → Prop) (h0 : Pv 0 H) (hl : ∀ i H, i ≤ xs.length → Pv i H → H a = some (.lst xs)) (hs : ∀ i x H T, xs[i]? = some x → Pv i H → H T = none → TurnC g tt te τ vs D (.ref T) (Pv (i + 1)) (upd H T (.tup [.int (i : Nat), x]))) (hd : ∀ H, Pv xs.length H → Qd H) : LoopC (Ite K a) g tt te τ vs D Qd H := by
  refine ⟨fun i m H => m = xs.length - i ∧ i ≤ xs.length ∧ Pv i H, ⟨xs.length, by simp, Nat.zero_le _, h0⟩, ?_⟩
  rintro i m H ⟨rfl, hi, p⟩
  have q : SqL K H a xs := SqL.of (hl i H hi p)
  by_cases hlt : i < xs.length
  · refine .inr ⟨⟨xs, xs[i], q, by simp [hlt]⟩, Pv (i + 1), fun H' p' => ⟨xs.length - (i + 1), by omega, rfl, hlt, p'⟩, fun x H' y => ?_⟩
    obtain ⟨T, y1, e1, e2, e3, e4⟩ := y
    subst e1 e3
    exact hs i y1 H T (e4 xs q) p e2
  · have e : i = xs.length := by omega
    subst e
    exact .inl ⟨⟨xs, q, Nat.le_refl _⟩, hd H p⟩
end
end
/-! ### a chain of three comparisons -/
def tChain3 (r r' r'' : R2) (ta tb tc td : TE) : TE := fun σ H Q => ta σ H fun x H1 => tb σ H1 fun y H2 => r x y H2 fun z H3 => ∃ k, z = .bl k ∧
  (if k = true then tc σ H3 fun u H4 => r' y u H4 fun z2 H5 => ∃ k2, z2 = .bl k2 ∧ (if k2 = true then td σ H5 fun v H6 => r'' u v H6 Q else Q (.bl false) H5) else Q (.bl false) H3)
section
variable {X : Cx} {a b c d : Expr} {ta tb tc td : TE} {pos : Pos}
theorem pe_chain3 {op op' op'' : CmpOp} {r r' r'' : R2} (ho : OpR X (compareOp op) r) (ho' : OpR X (compareOp op') r') (ho'' : OpR X (compareOp op'') r'') (ha : PE X a ta) (hb : PE X b tb) (hc : PE X c tc) (hd : PE X d td)
    (hm : lastMarks [op, op', op''] [b, c, d] = false := by with_unfolding_all rfl) : PE X (.Compare a [op, op', op''] [b, c, d] pos) (tChain3 r r' r'' ta tb tc td) := by
  refine ⟨fun pins s σ H Q I h => ?_⟩
  refine Compare_chain (thn (ha.run pins s σ H _ I h) fun v s1 ⟨x, H1, I1, r1, q1⟩ => chain_link (thn (hb.run pins s1 σ H1 _ I1 q1) fun u s2 ⟨y, H2, I2, r2, q2⟩ =>
    thn (ho pins s2 σ H2 x y v u _ I2 r1 r2 q2) fun d s3 ⟨z, H3, I3, r3, k, e, q3⟩ => ?_)) hm
  subst e
  cases r3
  refine wpAny_truthy_bool ?_
  cases k with
  | false => exact ite_ff ⟨.bl false, H3, I3, rfl, q3⟩
  | true =>
    refine ite_tt (chain_link (thn (hc.run pins s3 σ H3 _ I3 q3) fun u' s4 ⟨y', H4, I4, r4, q4⟩ => thn (ho' pins s4 σ H4 y y' u u' _ I4 r2 r4 q4) fun d2 s5 ⟨z2, H5, I5, r5, k2, e2, q5⟩ => ?_))
    subst e2
    cases r5
    refine wpAny_truthy_bool ?_
    cases k2 with
    | false => exact ite_ff ⟨.bl false, H5, I5, rfl, q5⟩
    | true => exact ite_tt (chain_last (thn (hd.run pins s5 σ H5 _ I5 q5) fun w' s6 ⟨z', H6, I6, r6, q6⟩ => ho'' pins s6 σ H6 y' z' u' w' Q I6 r4 r6 q6))
theorem pt_chain3 {op op' op'' : CmpOp} {r r' r'' : R2} (ho : OpR X (compareOp op) r) (ho' : OpR X (compareOp op') r') (ho'' : OpR X (compareOp op'') r'') (ha : PE X a ta) (hb : PE X b tb) (hc : PE X c tc) (hd : PE X d td)
    (hm : lastMarks [op, op', op''] [b, c, d] = false := by with_unfolding_all rfl) : PT X (.Compare a [op, op', op''] [b, c, d] pos) (tTest (tChain3 r r' r'' ta tb tc td)) := by
  refine ⟨fun pins s σ H Q I h => ?_⟩
  refine isTrue_chain (thn (ha.run pins s σ H _ I h) fun v s1 ⟨x, H1, I1, r1, q1⟩ => test_link (thn (hb.run pins s1 σ H1 _ I1 q1) fun u s2 ⟨y, H2, I2, r2, q2⟩ =>
    thn (ho pins s2 σ H2 x y v u _ I2 r1 r2 q2) fun d s3 ⟨z, H3, I3, r3, k, e, q3⟩ => ?_)) hm
  subst e
  cases r3
  refine wpAny_truthy_bool ?_
  cases k with
  | false =>
    obtain ⟨k', e', q'⟩ := q3
    cases e'
    exact ite_ff ⟨H3, I3, q'⟩
  | true =>
    refine ite_tt (test_link (thn (hc.run pins s3 σ H3 _ I3 q3) fun u' s4 ⟨y', H4, I4, r4, q4⟩ => thn (ho' pins s4 σ H4 y y' u u' _ I4 r2 r4 q4) fun d2 s5 ⟨z2, H5, I5, r5, k2, e2, q5⟩ => ?_))
    subst e2
    cases r5
    refine wpAny_truthy_bool ?_
    cases k2 with
    | false =>
      obtain ⟨k', e', q'⟩ := q5
      cases e'
      exact ite_ff ⟨H5, I5, q'⟩
    | true =>
      refine ite_tt (test_last (thn (hd.run pins s5 σ H5 _ I5 q5) fun w' s6 ⟨z', H6, I6, r6, q6⟩ => thn (ho'' pins s6 σ H6 y' z' u' w' _ I6 r4 r6 q6) fun d3 s7 ⟨z3, H7, I7, r7, k3, e3, q7⟩ => ?_))
      subst e3
      cases r7
      exact wpAny_truthy_bool ⟨H7, I7, q7⟩
theorem q_chain3 {σ : L2.St} {H : Hp} {Q : VK} {r r' r'' : R2} (q : ta σ H fun x H1 => tb σ H1 fun y H2 => r x y H2 fun z H3 => ∃ k, z = .bl k ∧
  (if k = true then tc σ H3 fun u H4 => r' y u H4 fun z2 H5 => ∃ k2, z2 = .bl k2 ∧ (if k2 = true then td σ H5 fun v H6 => r'' u v H6 Q else Q (.bl false) H5) else Q (.bl false) H3)) : tChain3 r r' r'' ta tb tc td σ H Q := q
end
theorem q_rep {H : Hp} {Q : VK} {l : Addr} {xs : List V} {k : Nat} (h : H l = some (.lst xs)) (s : xs.length * k ≤ 16000000) (s2 : k ≤ 16000000) (q : ∀ p, H p = none → Q (.ref p) (upd H p (.lst (List.replicate k xs).flatten))) : rRep (.ref l) (.int k) H Q :=
  ⟨l, k, xs, rfl, rfl, h, by omega, by omega, by rw [sizeLine_eq, Int.toNat_natCast]; omega, fun p np => by
    rw [Int.toNat_natCast]
    exact q p np⟩
theorem flat_one (k : Nat) (v : V) : (List.replicate k [v]).flatten = List.replicate k v := by
  induction k with
  | zero => rfl
  | succ k ih => rw [List.replicate_succ, List.flatten_cons, ih, List.replicate_succ]; rfl
/-! ### comprehensions whose turns leave all that stands -/
section
variable {K : PySem.W.Frag} {H : Hp} {g : TG} {tt : TT} {te : TE} {vs : List Nat} {τ : L2.St} {D : Addr} {Qd : Hp → Prop}
/-- a turn without a test: the element, and what is wanted of it -/
def TurnE (g : TG) (tt : TT) (te : TE) (τ : L2.St) (vs : List Nat) (x : V) (R : VK) (H : Hp) : Prop := g x τ H fun σ2 H2 => wipe σ2 vs = τ ∧ tt σ2 H2 fun b H3 => if b = true then te σ2 H3 R else False
theorem q_turnE {x : V} {R : VK} (q : g x τ H fun σ2 H2 => wipe σ2 vs = τ ∧ tt σ2 H2 fun b H3 => if b = true then te σ2 H3 R else False) : TurnE g tt te τ vs x R H := q
/-- what is made so far -/
def Made (Y : Nat → V → Hp → Prop) (H H' : Hp) (D : Addr) (i : Nat) : Prop := ∃ ys : List V, ys.length = i ∧ H' D = some (.lst ys) ∧ Ex H H' ∧ ∀ j y, ys[j]? = some y → Y j y H'
theorem Made.push {Y : Nat → V → Hp → Prop} (mono : ∀ i y H1 H2, Ex H1 H2 → Y i y H1 → Y i y H2) {H' : Hp} {i : Nat} {y : V} {ys : List V} (nD : H D = none) (l : ys.length = i) (hD : H' D = some (.lst ys)) (e : Ex H H') (hy : ∀ j y, ys[j]? = some y → Y j y H') (off : ∀ i y o, Y i y H' → Y i y (upd H' D o)) (q : Y i y H') :
    Made Y H (upd H' D (.lst (ys ++ [y]))) D (i + 1) := by
  refine ⟨ys ++ [y], by rw [List.length_append, l]; rfl, upd_same, e.mut nD, fun j z hz => ?_⟩
  by_cases h : j < ys.length
  · rw [List.getElem?_append_left h] at hz
    exact off _ _ _ (hy j z hz)
  · rw [List.getElem?_append_right (by omega)] at hz
    by_cases h2 : j - ys.length = 0
    · rw [h2] at hz
      have := Option.some.inj hz
      subst this
      have : j = i := by omega
      subst this
      exact off _ _ _ q
    · obtain ⟨k, hk⟩ : ∃ k, j - ys.length = k + 1 := ⟨j - ys.length - 1, by omega⟩
      rw [hk] at hz
      cases hz
/-- a map over a list -/
theorem lcp_map {a : Addr} {xs : List V} (Y : Nat → V → Hp → Prop) (mono : ∀ i y H1 H2, Ex H1 H2 → Y i y H1 → Y i y H2) (off : ∀ i y H' ys u, H' D = some (.lst ys) → Y i y H' → Y i y (upd H' D u))
    (nD : H D = none) (ha : H a = some (.lst xs)) (small : xs.length ≤ 10000000)
    (turn : ∀ (i : Nat) (x : V) (H1 : Hp), xs[i]? = some x → Ex H H1 → ∀ R : VK, (∀ y H2, Ex H1 H2 → Y i y H2 → R y H2) → TurnE g tYes te τ vs x R H1)
    (q : ∀ ys H', ys.length = xs.length → Ex H H' → H' D = some (.lst ys) → (∀ j y, ys[j]? = some y → Y j y H') → Qd H') : LoopC (Itl K a) g tYes te τ vs D Qd (upd H D (.lst [])) := by
  refine lcp_list (xs := xs) (fun i H' => Made Y H H' D i) ⟨[], rfl, upd_same, Ex.new nD, fun j y h => by simp at h⟩ (fun i H' _ h => ?_) (fun i x H' hx h => ?_) (fun H' h => ?_)
  · obtain ⟨ys, _, _, e, _⟩ := h
    exact e _ _ ha
  · obtain ⟨ys, l, hD, e, hy⟩ := h
    have hi : i < xs.length := (List.getElem?_eq_some_iff.mp hx).1
    have t := turn i x H' hx e (fun y H4 => ∃ acc, H4 D = some (.lst acc) ∧ acc.length < sizeLine ∧ Made Y H (upd H4 D (.lst (acc ++ [y]))) D (i + 1)) fun y H2 e2 hy2 => by
      have hD2 := e2 _ _ hD
      refine ⟨ys, hD2, by rw [sizeLine_eq]; omega, Made.push mono nD l hD2 (e.trans e2) (fun j z hz => mono _ _ _ _ e2 (hy j z hz)) (fun i y o hh => off i y H2 ys o hD2 hh) hy2⟩
    exact t
  · obtain ⟨ys, l, hD, e, hy⟩ := h
    exact q ys H' l e hD hy
theorem lcp_mapF {a : Addr} {xs : List V} (f : Nat → V) (nD : H D = none) (ha : H a = some (.lst xs)) (small : xs.length ≤ 10000000)
    (turn : ∀ (i : Nat) (x : V) (H1 : Hp), xs[i]? = some x → Ex H H1 → ∀ R : VK, (∀ H2, Ex H1 H2 → R (f i) H2) → TurnE g tYes te τ vs x R H1)
    (q : ∀ H', Ex H H' → H' D = some (.lst ((List.range xs.length).map f)) → Qd H') : LoopC (Itl K a) g tYes te τ vs D Qd (upd H D (.lst [])) := by
  refine lcp_map (xs := xs) (fun i y _ => y = f i) (fun _ _ _ _ _ h => h) (fun _ _ _ _ _ _ h => h) nD ha small (fun i x H1 hx e R r => turn i x H1 hx e R fun H2 e2 => r _ H2 e2 rfl) fun ys H' l e hD hy => q H' e ?_
  rw [hD]
  refine congrArg (fun z => some (HO.lst z)) (List.ext_getElem? fun j => ?_)
  rw [List.getElem?_map]
  by_cases h : j < ys.length
  · rw [List.getElem?_range (by omega), List.getElem?_eq_getElem h, hy j _ (List.getElem?_eq_getElem h)]
    rfl
  · rw [List.getElem?_eq_none (by omega), List.getElem?_eq_none (by rw [List.length_range]; omega)]
    rfl
theorem lcp_allT {a : Addr} {xs : List V} (nD : H D = none) (ha : H a = some (.tup xs)) (small : xs.length ≤ 10000000)
    (turn : ∀ (i : Nat) (x : V) (H1 : Hp), xs[i]? = some x → Ex H H1 → ∀ R : VK, (∀ H2, Ex H1 H2 → R (.bl true) H2) → TurnE g tYes te τ vs x R H1)
    (q : ∀ (H' : Hp) (bs : List Bool), Ex H H' → H' D = some (.lst (bs.map V.bl)) → bs.all id = true → Qd H') : LoopC (Itt K a) g tYes te τ vs D Qd (upd H D (.lst [])) := by
  refine lcp_tup (xs := xs) (fun i H' => Ex H H' ∧ H' D = some (.lst ((List.replicate i true).map V.bl))) ⟨Ex.new nD, upd_same⟩ (fun i H' _ h => h.1 _ _ ha) (fun i x H' hx h => ?_) (fun H' h => ?_)
  · obtain ⟨e, hD⟩ := h
    have hi : i < xs.length := (List.getElem?_eq_some_iff.mp hx).1
    exact turn i x H' hx e _ fun H2 e2 => ⟨_, e2 _ _ hD, by rw [List.length_map, List.length_replicate, sizeLine_eq]; omega, (e.trans e2).mut nD, by
      rw [upd_same, List.replicate_succ', List.map_append]
      rfl⟩
  · exact q H' _ h.1 h.2 (by rw [List.all_eq_true]; intro b hb; exact (List.mem_replicate.mp hb).2)
/-- all([..]) of a map that is true throughout -/
theorem lcp_all {a : Addr} {xs : List V} (nD : H D = none) (ha : H a = some (.lst xs)) (small : xs.length ≤ 10000000)
    (turn : ∀ (i : Nat) (x : V) (H1 : Hp), xs[i]? = some x → Ex H H1 → ∀ R : VK, (∀ H2, Ex H1 H2 → R (.bl true) H2) → TurnE g tYes te τ vs x R H1)
    (q : ∀ (H' : Hp) (bs : List Bool), Ex H H' → H' D = some (.lst (bs.map V.bl)) → bs.all id = true → Qd H') : LoopC (Itl K a) g tYes te τ vs D Qd (upd H D (.lst [])) := by
  refine lcp_mapF (fun _ => .bl true) nD ha small turn fun H' e h => q H' ((List.range xs.length).map fun _ => true) e ?_ ?_
  · rw [h, List.map_map]
    rfl
  · rw [List.all_eq_true]
    intro b hb
    obtain ⟨_, _, rfl⟩ := List.mem_map.mp hb
    rfl
end
/-! ### rules whose readings have names, by the written part -/
section
variable {X : Cx} {K : PySem.W.Frag}
theorem au_tuple (h : X.K = K := by rfl) : CallR X (.type "tuple") (rTuple K) := h ▸ call_tuple_of
theorem au_list (h : X.K = K := by rfl) : CallR X (.type "list") (rList K) := h ▸ call_list_of
theorem au_isN : OpR X (compareOp .Is) rIsN := op_isN
theorem au_notN : OpR X (compareOp .IsNot) rNotN := op_notN
theorem au_max2 (hc : X.calm = true) : CallR X (.builtin "max") rMax2 := call_max2 hc
theorem au_min2 (hc : X.calm = true) : CallR X (.builtin "min") rMin2 := call_min2 hc
theorem au_sum (hc : X.calm = true) (h : X.K = K := by rfl) : CallR X (.builtin "sum") (rSum K) := h ▸ cr_sum hc
theorem au_max (hc : X.calm = true) (h : X.K = K := by rfl) : CallR X (.builtin "max") (rMax K) := h ▸ cr_max hc
theorem au_min (hc : X.calm = true) (h : X.K = K := by rfl) : CallR X (.builtin "min") (rMin K) := h ▸ cr_min hc
theorem au_all (hc : X.calm = true) (h : X.K = K := by rfl) : CallR X (.builtin "all") (rAll K) := h ▸ cr_all hc
theorem au_any (hc : X.calm = true) (h : X.K = K := by rfl) : CallR X (.builtin "any") (rAny K) := h ▸ cr_any hc
theorem au_index (h : X.K = K := by rfl) : MtR X "list.index" (rIndex K) := h ▸ mt_index
end
/-! ### bounds -/
theorem mulBd {i j : Int} (a : -(10 ^ 60) < i) (b : i < 10 ^ 60) (c : -(10 ^ 60) < j) (d : j < 10 ^ 60) : CMulX i j :=
  mulx_ok (a := 200) (b := 200) (by
    have : (10 : Nat) ^ 60 < 2 ^ 200 := by decide
    omega) (by
    have : (10 : Nat) ^ 60 < 2 ^ 200 := by decide
    omega) (by decide)
theorem divBd {i j : Int} (a : 0 < j) (b : j < 10 ^ 60) : CDivW i j := wide_div (b := 200) a (by
    have : (10 : Nat) ^ 60 < 2 ^ 200 := by decide
    omega) (by decide) (by decide)
theorem sz16 {n : Nat} (h : n ≤ 16000000) : n ≤ sizeLine := by
  rw [sizeLine_eq]
  omega
/-! ### all but one object stand -/
def But (d : Addr) (H H' : Hp) : Prop := ∀ b o, b ≠ d → H b = some o → H' b = some o
theorem But.refl (d : Addr) (H : Hp) : But d H H := fun _ _ _ h => h
theorem But.trans {d : Addr} {H H1 H2 : Hp} (a : But d H H1) (b : But d H1 H2) : But d H H2 := fun x o n h => b x o n (a x o n h)
theorem But.ex {d : Addr} {H H1 H2 : Hp} (a : But d H H1) (b : Ex H1 H2) : But d H H2 := fun x o n h => b x o (a x o n h)
theorem But.of {d : Addr} {H H1 : Hp} (a : Ex H H1) : But d H H1 := fun x o _ h => a x o h
theorem But.exl {d : Addr} {H H1 H2 : Hp} (a : Ex H H1) (b : But d H1 H2) : But d H H2 := fun x o n h => b x o n (a x o h)
theorem But.mut {d p : Addr} {H H1 : Hp} {o : HO} (a : But d H H1) (h : H p = none) : But d H (upd H1 p o) := fun x u n e => by
  rw [upd_ne (ne_of_none e h)]
  exact a x u n e
theorem But.self {d : Addr} {H : Hp} {o : HO} : But d H (upd H d o) := fun x u n e => by
  rw [upd_ne n]
  exact e
theorem But.put {d : Addr} {H H1 : Hp} {o : HO} (a : But d H H1) : But d H (upd H1 d o) := fun x u n e => by
  rw [upd_ne n]
  exact a x u n e
/-- an object that did not stand may change -/
theorem But.toEx {d : Addr} {H0 H H1 : Hp} (e : Ex H0 H) (a : But d H H1) (h : H0 d = none) : Ex H0 H1 := fun x o k => a x o (ne_of_none k h) (e x o k)
theorem but_at {d a : Addr} {H H' : Hp} {o : HO} (e : But d H H') (n : a ≠ d) (h : H a = some o) : H' a = some o := e _ _ n h
theorem ne_fresh {H : Hp} {a b : Addr} {o : HO} (h : H b = none) (h' : H a = some o) : a ≠ b := ne_of_none h' h
theorem ne_fresh' {H : Hp} {a b : Addr} {o : HO} (h : H b = none) (h' : H a = some o) : b ≠ a := (ne_of_none h' h).symm
/-! ### lists of tuples of ints -/
inductive Ts (H : Hp) : List V → List (List Int) → Prop
  | nil : Ts H [] []
  | cons {t : Addr} {ns : List Int} {xs : List V} {rows : List (List Int)} (h : H t = some (.tup (ns.map V.int))) (r : Ts H xs rows) : Ts H (.ref t :: xs) (ns :: rows)
theorem Ts.tp {H H' : Hp} (e : Tp H H') : ∀ {xs : List V} {rows : List (List Int)}, Ts H xs rows → Ts H' xs rows
  | _, _, .nil => .nil
  | _, _, .cons h r => .cons (e _ _ h) (r.tp e)
theorem Ts.ex {H H' : Hp} {xs : List V} {rows : List (List Int)} (h : Ts H xs rows) (e : Ex H H') : Ts H' xs rows := h.tp (Tp.ex e)
theorem Ts.len {H : Hp} : ∀ {xs : List V} {rows : List (List Int)}, Ts H xs rows → xs.length = rows.length
  | _, _, .nil => rfl
  | _, _, .cons _ r => by rw [List.length_cons, List.length_cons, r.len]
theorem Ts.append {H : Hp} : ∀ {xs ys : List V} {rows sows : List (List Int)}, Ts H xs rows → Ts H ys sows → Ts H (xs ++ ys) (rows ++ sows)
  | _, _, _, _, .nil, s => s
  | _, _, _, _, .cons h r, s => .cons h (r.append s)
theorem Ts.get {H : Hp} : ∀ {xs : List V} {rows : List (List Int)} {i : Nat} {v : V}, Ts H xs rows → xs[i]? = some v → ∃ t ns, v = .ref t ∧ rows[i]? = some ns ∧ H t = some (.tup (ns.map V.int))
  | _, _, _, _, .nil, e => by simp at e
  | _, _, 0, _, .cons h r, e => by
    have := Option.some.inj e
    subst this
    exact ⟨_, _, rfl, rfl, h⟩
  | _, _, i + 1, _, .cons _ r, e => r.get (i := i) e
theorem Ts.get' {H : Hp} : ∀ {xs : List V} {rows : List (List Int)} {i : Nat} {ns : List Int}, Ts H xs rows → rows[i]? = some ns → ∃ t, xs[i]? = some (.ref t) ∧ H t = some (.tup (ns.map V.int))
  | _, _, _, _, .nil, e => by simp at e
  | _, _, 0, _, .cons h r, e => by
    have := Option.some.inj e
    subst this
    exact ⟨_, rfl, h⟩
  | _, _, i + 1, _, .cons _ r, e => r.get' (i := i) e
theorem Ts.mem {H : Hp} {xs : List V} {rows : List (List Int)} (h : Ts H xs rows) {v : V} (m : v ∈ xs) : ∃ t ns, v = .ref t ∧ ns ∈ rows ∧ H t = some (.tup (ns.map V.int)) := by
  obtain ⟨i, e⟩ := List.mem_iff_getElem?.mp m
  obtain ⟨t, ns, a, b, c⟩ := h.get e
  exact ⟨t, ns, a, List.mem_of_getElem? b, c⟩
theorem Ts.of {H : Hp} : ∀ {xs : List V} {rows : List (List Int)}, xs.length = rows.length → (∀ (i : Nat) (v : V) (ns : List Int), xs[i]? = some v → rows[i]? = some ns → ∃ t, v = .ref t ∧ H t = some (.tup (ns.map V.int))) → Ts H xs rows
  | [], [], _, _ => .nil
  | x :: xs, ns :: rows, l, h => by
    obtain ⟨t, rfl, ht⟩ := h 0 x ns rfl rfl
    exact .cons ht (Ts.of (Nat.succ.inj l) fun i v ms a b => h (i + 1) v ms a b)
theorem dpa_intsT {K : PySem.W.Frag} {H : Hp} {ns : List Int} : DpAll K H (ns.map V.int) (ns.map PyData.int) := dpa_ints
theorem Ts.dp {K : PySem.W.Frag} {H : Hp} : ∀ {xs : List V} {rows : List (List Int)}, Ts H xs rows → DpAll K H xs (rows.map fun ns => .tuple (ns.map .int))
  | _, _, .nil => .nil
  | _, _, .cons h r => .cons (.tup (SqT.of h) dpa_ints) r.dp
theorem shaped_ts (rows : List (List Int)) : SeqAt.shaped (.list (rows.map fun ns => .tuple (ns.map .int))) = true :=
  shaped_rows (D := fun ns : List Int => PyData.tuple (ns.map .int)) (fun ns => show PyData.canLayAll0 (ns.map PyData.int) = true from sh_ints) (fun ns => show PyData.depthAll (ns.map PyData.int) + 1 ≤ 10 by rw [dp_ints]; omega) rows
/-! ### repr of small data -/
theorem showable_of {d : PyData} (h : PyData.layable0 d = true) (i : PyData.intsShort 13 d = true) : d.shown.length ≤ sizeLine := PyData.shown_fits_of_layable0 (B := 13) (by decide) (by decide) h i
/-! ### places that stand -/
theorem ex_s {K : PySem.W.Frag} {H H' : Hp} {a : Addr} {xs : List V} (e : Ex H H') (h : SqL K H a xs) : SqL K H' a xs := Evl.ex_l e h
theorem ex_at {H H' : Hp} {a : Addr} {o : HO} (e : Ex H H') (h : H a = some o) : H' a = some o := e _ _ h
theorem upd_at {H : Hp} {p a : Addr} {o u : HO} (n : a ≠ p) (h : H a = some o) : upd H p u a = some o := by
  rw [upd_ne n]
  exact h
theorem fresh_at {H : Hp} {p a : Addr} {o u : HO} (n : H p = none) (h : H a = some o) : upd H p u a = some o := upd_at (ne_of_none h n) h
theorem ex_new {H H' : Hp} {p : Addr} {o : HO} (e : Ex H H') (n : H' p = none) : Ex H (upd H' p o) := e.trans (Ex.new n)
theorem ex_tr {H H1 H2 : Hp} (b : Ex H1 H2) (a : Ex H H1) : Ex H H2 := a.trans b
theorem ts_ex {H H' : Hp} {xs : List V} {rows : List (List Int)} (e : Ex H H') (h : Ts H xs rows) : Ts H' xs rows := h.ex e
theorem ts_new {H : Hp} {p : Addr} {o : HO} {xs : List V} {rows : List (List Int)} (n : H p = none) (h : Ts H xs rows) : Ts (upd H p o) xs rows := h.ex (Ex.new n)
theorem ex_mut {H H' : Hp} {p : Addr} {o : HO} (e : Ex H H') (n : H p = none) : Ex H (upd H' p o) := e.mut n
end Bs

namespace Bs
open PySem PySem.Spec PyProof.Rows L2
open Evl (Ex)
/-! ### sorted of a list of tuples of ints, any width -/
section
variable {prog : Program} {w : World} {A : Around} {s : Shared}
def IsNs (h : Heap) (v : Value) (ns : List Int) : Prop := ∃ (a : Addr) (o : Obj) (us : List Value) (n : Nat), v = .ref a ∧ h.get? a = some o ∧ o.cls = .type "tuple" ∧ o.data = .seq us.toArray n ∧ IntsAre us ns ∧ ns ≠ []
theorem IsNs.keeps {h h' : Heap} {v : Value} {ns : List Int} (p : IsNs h v ns) (k : ∀ b o, h.get? b = some o → o.cls = .type "tuple" → h'.get? b = some o) : IsNs h' v ns := by
  obtain ⟨a, o, us, n, e, ho, hc, hd, hi, hn⟩ := p
  exact ⟨a, o, us, n, e, k _ _ ho hc, hc, hd, hi, hn⟩
theorem kat_ints {fin : Bool} {Q : Bool → Shared → Prop} : ∀ {us ws : List Value} {ns ms : List Int} (i : Nat), IntsAre us ns → IntsAre ws ms → fin = decide (us.length < ws.length) → Q (HT.lexLt ns ms) s → PySem.W.KatLex prog w A true fin Q (us.zip ws) i s
  | _, _, _, _, i, .nil, .nil, hf, q => by
    subst hf
    exact PySem.W.kat_nil q
  | _, _, _, _, i, .nil, .cons y u hw, hf, q => by
    subst hf
    exact PySem.W.kat_nil q
  | _, _, _, _, i, .cons x t hv, .nil, hf, q => by
    subst hf
    exact PySem.W.kat_nil q
  | _, _, _, _, i, .cons x t hv, .cons y u hw, hf, q => by
    refine PySem.W.kat_cons (SeqAt.EqAt.int_int x t y u prog w _ _ ?_)
    rw [HT.lexLt_cons] at q
    refine PySem.W.kat_go (fun e1 => ?_) (fun e1 => ?_)
    · have ex : x = y := by simpa using e1
      rw [if_pos ex] at q
      refine PySem.W.kat_yes (kat_ints (i + 1) hv hw ?_ q)
      rw [hf]
      simp only [List.length_cons, Nat.succ_lt_succ_iff, Nat.add_lt_add_iff_right]
    · have ex : ¬ x = y := by simpa using e1
      rw [if_neg ex] at q
      exact PySem.W.kat_no (TS.oneLt_ints _ q)
theorem ns_cmp {vs : List Value} {k : Value → List Int} (hp : ∀ v ∈ vs, IsNs s.heap v (k v)) : SrtO.Cmp prog w A s (tuples' true) (fun p => p.1 ∈ vs) (SrtO.lt2 fun v u => HT.lexLt (k v) (k u)) := by
  intro p q hm hm'
  have h1 := hp _ hm
  have h2 := hp _ hm'
  show wpAny (model prog w) A (keyLt' (tuples' true) p.1 q.1) (fun r s' => s' = s ∧ r = HT.lexLt (k p.1) (k q.1)) (fun _ _ => False) s
  generalize k p.1 = ns at h1 ⊢
  generalize k q.1 = ms at h2 ⊢
  obtain ⟨a, o, us, n, e, ho, hc, hd, hi, _⟩ := h1
  obtain ⟨a', o', us', n', e', ho', hc', hd', hi', _⟩ := h2
  rw [e, e']
  refine PySem.W.kat_lt ho hd ho' hd' ?_
  exact kat_ints 0 hi hi' (by simp) ⟨rfl, rfl⟩
theorem ns_firsts {h : Heap} : ∀ {vs : List Value}, (∀ v ∈ vs, ∃ ns, IsNs h v ns) → ∃ fs : List Value, PySem.W.KatTups h vs fs ∧ fs.length = vs.length ∧ ∀ f ∈ fs, ∃ x t, f = Value.int x t
  | [], _ => ⟨[], PySem.W.KatTups.nil, rfl, fun _ hm => by simp at hm⟩
  | v :: vs, hp => by
    obtain ⟨fs, h1, h2, h3⟩ := ns_firsts (vs := vs) fun v' hm => hp v' (List.mem_cons_of_mem _ hm)
    obtain ⟨ns, a, o, us, n, e, ho, hc, hd, hi, hn⟩ := hp v List.mem_cons_self
    subst e
    cases hi with
    | nil => exact absurd rfl hn
    | cons x t hv =>
      refine ⟨.int x t :: fs, PySem.W.KatTups.cons ho hc hd rfl h1, by rw [List.length_cons, List.length_cons, h2], fun f hm => ?_⟩
      rcases List.mem_cons.mp hm with rfl | hm
      · exact ⟨x, t, rfl⟩
      · exact h3 f hm
theorem ns_sortable {a : Addr} {vs : List Value} {k : Value → List Int} (h0 : 0 < vs.length) (hp : ∀ v ∈ vs, IsNs s.heap v (k v)) (ha : ∀ o, s.heap.get? a = some o → o.cls ≠ .type "tuple") : SrtO.SortableO prog w A s a vs fun v u => HT.lexLt (k v) (k u) := by
  intro h' keep
  have hp' : ∀ v ∈ vs, IsNs h' v (k v) := fun v hm => (hp v hm).keeps fun b o e c => keep b o (fun z => by subst z; exact ha o e c) e
  obtain ⟨fs, h1, h2, h3⟩ := ns_firsts fun v hm => ⟨_, hp' v hm⟩
  refine ⟨tuples' true, fun Q E hq => ?_, ns_cmp hp'⟩
  refine PySem.W.kat_kind (T := .type "int") h1 (by omega) (fun f hm => ?_) (by rfl) ?_
  · obtain ⟨x, t, rfl⟩ := h3 f hm
    exact PySem.W.Looks.now
  · have e : (Value.type "int" != Value.type "tuple") = true := by first | decide +kernel | rfl | decide
    rw [e]
    exact hq
end
/-- the ints of a tuple that stands -/
def nsAt (H : Hp) : V → List Int
  | .ref b => match H b with
    | some (.tup xs) => xs.map fun v => match v with | .int i => i | _ => 0
    | _ => []
  | _ => []
theorem nsAt_is {H : Hp} {b : Addr} {ns : List Int} (e : H b = some (.tup (ns.map V.int))) : nsAt H (.ref b) = ns := by
  unfold nsAt
  simp only [e, List.map_map]
  exact (List.map_congr_left fun _ _ => rfl).trans (List.map_id ns)
theorem ints_vals : ∀ {ns : List Int} {us : List Value}, Vals (ns.map V.int) us → IntsAre us ns
  | [], us, r => by
    cases r
    exact .nil
  | n :: ns, us, r => by
    cases r with
    | cons h q =>
      obtain ⟨t, rfl⟩ := h
      exact .cons n t (ints_vals q)
abbrev lexV (H : Hp) (x y : V) : Bool := HT.lexLt (nsAt H x) (nsAt H y)
/-- sorted of a list of tuples of ints -/
def rSortedNs (K : PySem.W.Frag) : List V → Hp → VK → Prop := fun vs H Q => ∃ (a : Addr) (xs : List V), vs = [V.ref a] ∧ SqL K H a xs ∧ (∀ x ∈ xs, ∃ t ns, x = V.ref t ∧ H t = some (.tup (ns.map V.int)) ∧ ns ≠ []) ∧
  ∀ ys p, SrtO.Srtd (lexV H) ys → SrtO.Stb (lexV H) ys xs → H p = none → Q (.ref p) (upd H p (.lst ys))
theorem cr_sortedNs {X : Cx} {K : PySem.W.Frag} (hK : X.K = K := by rfl) : CallR X (.builtin "sorted") (rSortedNs K) := by
  subst hK
  intro pins s σ H vs us Q I r h
  obtain ⟨a, xs, rfl, hs, hx, q⟩ := h
  obtain ⟨its, rv, hl, hz⟩ := I.list hs
  obtain ⟨u, rfl, ru⟩ := vals1 r
  obtain rfl : u = Value.ref a := ru
  obtain ⟨e1, e2⟩ := refs_back rv fun x m => by
    obtain ⟨t, _, e, _⟩ := hx x m
    exact ⟨t, e⟩
  have hp : ∀ v ∈ its, IsNs s.heap v (nsAt H (backV v)) := fun v hv => by
    obtain ⟨t, rfl⟩ := e2 v hv
    have hm : V.ref t ∈ xs := by rw [e1]; exact List.mem_map.mpr ⟨_, hv, rfl⟩
    obtain ⟨t', ns, e, ht, hn⟩ := hx _ hm
    cases e
    rw [show backV (Value.ref t) = V.ref t from rfl, nsAt_is ht]
    obtain ⟨_, its2, r2, o, ho, hc, n, hd⟩ := I.hok _ _ ht
    exact ⟨t, o, its2, n, rfl, ho, hc, hd, ints_vals r2, hn⟩
  refine SrtO.sorted_ord (NtL.swo_lexL fun u => nsAt H (backV u)) hl.isList (by rw [← rv.length]; exact hz) (fun h2 h₁ a' ha kk => ?_) fun out h1 h2 => ?_
  · refine ns_sortable (s := { s with heap := h₁ }) (by omega) (fun v hm => (hp v hm).keeps fun b o e _ => (kk b o e).2) fun o e => ?_
    have e' : some o = some (seqObj "list" its.toArray 0) := e.symm.trans ha
    cases e'
    intro c
    exact absurd (Value.type.inj c) (by decide)
  · have h3 : ∀ u ∈ out, ∃ a, u = Value.ref a := fun u hu => e2 u (h2.perm.mem_iff.mp hu)
    have hb : SrtO.Stb (lexV H) (out.map backV) xs := by
      rw [e1]
      exact SrtO.Stb.map (NtL.swo_lexL (nsAt H)) backV h2
    obtain ⟨n, hn⟩ := PyProof.Rows.sortedAll_at s.heap its out.toArray
    refine ⟨.ref (s.heap.objs.size + 1), upd H (s.heap.objs.size + 1) (.lst (out.map backV)), I.laid (t' := s.toks) (fun b o e => PyProof.Rows.sortedAll_old e) (Nat.le_succ _) ⟨?_, out, n, vals_back h3, hn⟩, rfl, q _ _ (SrtO.srtd_map h1) hb (I.hok.fresh (Nat.le_succ _))⟩
    rw [hb.len]
    exact hz
/-- rows that stand, by their ints -/
theorem Ts.nsAt {H : Hp} : ∀ {xs : List V} {rows : List (List Int)}, Ts H xs rows → xs.map (Bs.nsAt H) = rows
  | _, _, .nil => rfl
  | _, _, .cons h r => by rw [List.map_cons, nsAt_is h, r.nsAt]
/-- rows in order are told as they stand -/
theorem q_sortedId {K : PySem.W.Frag} {H : Hp} {Q : VK} {a : Addr} {xs : List V} {rows : List (List Int)} (h : H a = some (.lst xs)) (ts : Ts H xs rows) (ne : ∀ r ∈ rows, r ≠ []) (srt : rows.Pairwise fun p q => HT.lexLt q p = false) (q : ∀ p, H p = none → Q (.ref p) (upd H p (.lst xs))) : rSortedNs K [.ref a] H Q := by
  refine ⟨a, xs, rfl, SqL.of h, fun x hx => ?_, fun ys p s1 s2 np => ?_⟩
  · obtain ⟨t, ns, e, m, ht⟩ := ts.mem hx
    exact ⟨t, ns, e, ht, ne ns m⟩
  · have s0 : SrtO.Srtd (lexV H) xs := by
      show xs.Pairwise _
      have := ts.nsAt
      rw [← this] at srt
      exact List.pairwise_map.mp srt
    rw [SrtO.stb_uniq (NtL.swo_lexL (Bs.nsAt H)) s1 s0 s2]
    exact q p np
/-- sorted rows, told -/
theorem q_sortedNs {K : PySem.W.Frag} {H : Hp} {Q : VK} {a : Addr} {xs : List V} {rows : List (List Int)} (h : H a = some (.lst xs)) (ts : Ts H xs rows) (ne : ∀ r ∈ rows, r ≠ [])
    (q : ∀ p ys srt, H p = none → Ts H ys srt → srt.Perm rows → (srt.Pairwise fun p q => HT.lexLt q p = false) → Q (.ref p) (upd H p (.lst ys))) : rSortedNs K [.ref a] H Q := by
  refine ⟨a, xs, rfl, SqL.of h, fun x hx => ?_, fun ys p s1 s2 np => ?_⟩
  · obtain ⟨t, ns, e, m, ht⟩ := ts.mem hx
    exact ⟨t, ns, e, ht, ne ns m⟩
  · refine q p ys (ys.map (Bs.nsAt H)) np (Ts.of (by rw [List.length_map]) fun i v ns hv hn => ?_) ?_ ?_
    · obtain ⟨t, ms, e, m, ht⟩ := ts.mem (s2.perm.mem_iff.mp (List.mem_of_getElem? hv))
      subst e
      rw [List.getElem?_map, hv] at hn
      have := Option.some.inj hn
      rw [nsAt_is ht] at this
      subst this
      exact ⟨t, rfl, ht⟩
    · have := s2.perm.map (Bs.nsAt H)
      rw [ts.nsAt] at this
      exact this
    · exact List.pairwise_map.mpr s1
end Bs

namespace Bs
open PySem PySem.Spec PyProof.Rows L2
/-! ### orders by pairs: what order_of keeps -/
def remC (P : List PP) (D : List Int) (t : Int) : Nat := P.countP fun p => decide (p.2 = t) && !decide (p.1 ∈ D)
def hitC (P : List PP) (x t : Int) : Nat := P.countP fun p => decide (p.1 = x) && decide (p.2 = t)
def behindOf (P : List PP) (x : Int) : List Int := (P.filter fun p => decide (p.1 = x)).map (·.2)
def lackOf (P : List PP) (t : Int) : Nat := P.countP fun p => decide (p.2 = t)
theorem remC_nil (P : List PP) (t : Int) : remC P [] t = lackOf P t := by
  unfold remC lackOf
  refine List.countP_congr fun p _ => ?_
  simp
theorem behind_count (P : List PP) (x t : Int) : (behindOf P x).count t = hitC P x t := by
  unfold behindOf hitC
  induction P with
  | nil => rfl
  | cons p r ih =>
    rw [List.countP_cons]
    by_cases a : p.1 = x
    · rw [List.filter_cons_of_pos (by simpa using a), List.map_cons, List.count_cons, ih]
      by_cases b : p.2 = t
      · simp [a, b]
      · simp [a, b]
    · rw [List.filter_cons_of_neg (by simpa using a), ih]
      simp [a]
theorem remC_step (P : List PP) (D : List Int) (x t : Int) (h : x ∉ D) : remC P D t = remC P (D ++ [x]) t + hitC P x t := by
  unfold remC hitC
  induction P with
  | nil => rfl
  | cons p r ih =>
    rw [List.countP_cons, List.countP_cons, List.countP_cons, ih]
    by_cases a : p.2 = t
    · by_cases b : p.1 = x
      · have : p.1 ∉ D := by rw [b]; exact h
        simp [a, b, h]
        omega
      · by_cases c : p.1 ∈ D
        · simp [a, b, c]
        · simp [a, b, c]
          omega
    · simp [a]
theorem remC_zero {P : List PP} {D : List Int} {t : Int} (h : remC P D t = 0) : ∀ p ∈ P, p.2 = t → p.1 ∈ D := by
  intro p hp e
  unfold remC at h
  rw [List.countP_eq_zero] at h
  have := h p hp
  simp [e] at this
  exact this
theorem remC_pos {P : List PP} {D : List Int} {t : Int} (h : remC P D t ≠ 0) : ∃ p ∈ P, p.2 = t ∧ p.1 ∉ D := by
  have : 0 < remC P D t := Nat.pos_of_ne_zero h
  unfold remC at this
  rw [List.countP_pos_iff] at this
  obtain ⟨p, hp, e⟩ := this
  rw [Bool.and_eq_true, decide_eq_true_iff, Bool.not_eq_true', decide_eq_false_iff_not] at e
  exact ⟨p, hp, e.1, e.2⟩
/-- an order as it grows: k of it are gone through -/
structure Ord (P : List PP) (n k : Nat) (L : Int → Int) (O : List Int) : Prop where
  nd : O.Nodup
  bd : ∀ t ∈ O, 0 ≤ t ∧ t < n
  le : k ≤ O.length
  lack : ∀ t : Int, 0 ≤ t → t < n → L t = (remC P (O.take k) t : Nat)
  mem : ∀ t : Int, 0 ≤ t → t < n → (t ∈ O ↔ L t = 0)
  ahead : ∀ (j : Nat) (t : Int), O[j]? = some t → ∀ p ∈ P, p.2 = t → p.1 ∈ O.take j
/-- within a turn: m of the followers of the k-th are gone through -/
structure OrdI (P : List PP) (n k m : Nat) (x : Int) (L : Int → Int) (O : List Int) : Prop where
  nd : O.Nodup
  bd : ∀ t ∈ O, 0 ≤ t ∧ t < n
  at_ : O[k]? = some x
  lack : ∀ t : Int, 0 ≤ t → t < n → L t = (remC P (O.take (k + 1)) t + (hitC P x t - ((behindOf P x).take m).count t) : Nat)
  mem : ∀ t : Int, 0 ≤ t → t < n → (t ∈ O ↔ L t = 0)
  ahead : ∀ (j : Nat) (t : Int), O[j]? = some t → ∀ p ∈ P, p.2 = t → p.1 ∈ O.take j
theorem nodup_at {O : List Int} (h : O.Nodup) {k : Nat} {x : Int} (e : O[k]? = some x) : x ∉ O.take k := fun m => by
  obtain ⟨j, hj⟩ := List.mem_iff_getElem?.mp m
  have lj : j < k := by
    have := (List.getElem?_eq_some_iff.mp hj).1
    rw [List.length_take] at this
    omega
  rw [List.getElem?_take_of_lt lj] at hj
  have := (List.getElem?_inj (List.getElem?_eq_some_iff.mp hj).1 h).mp (hj.trans e.symm)
  omega
theorem take_next {O : List Int} {k : Nat} {x : Int} (e : O[k]? = some x) : O.take (k + 1) = O.take k ++ [x] := by
  rw [List.take_add_one, e]
  rfl
theorem Ord.begin_ {P : List PP} {n k : Nat} {L : Int → Int} {O : List Int} {x : Int} (h : Ord P n k L O) (e : O[k]? = some x) : OrdI P n k 0 x L O := by
  refine ⟨h.nd, h.bd, e, fun t t0 t1 => ?_, h.mem, h.ahead⟩
  rw [h.lack t t0 t1, remC_step P (O.take k) x t (nodup_at h.nd e), take_next e]
  simp
theorem OrdI.done {P : List PP} {n k m : Nat} {L : Int → Int} {O : List Int} {x : Int} (h : OrdI P n k m x L O) (e : m = (behindOf P x).length) : Ord P n (k + 1) L O := by
  have lt : k < O.length := (List.getElem?_eq_some_iff.mp h.at_).1
  refine ⟨h.nd, h.bd, lt, fun t t0 t1 => ?_, h.mem, h.ahead⟩
  rw [h.lack t t0 t1, e, List.take_length, behind_count, Nat.sub_self, Nat.add_zero]
theorem OrdI.step {P : List PP} {n k m : Nat} {L : Int → Int} {O : List Int} {x y : Int} (h : OrdI P n k m x L O) (e : (behindOf P x)[m]? = some y) (y0 : 0 ≤ y) (y1 : y < n) :
    OrdI P n k (m + 1) x (fun t => if t = y then L y - 1 else L t) (if L y - 1 = 0 then O ++ [y] else O) := by
  have lt : k < O.length := (List.getElem?_eq_some_iff.mp h.at_).1
  have cnt : ∀ t : Int, ((behindOf P x).take (m + 1)).count t = ((behindOf P x).take m).count t + (if y = t then 1 else 0) := fun t => by
    rw [List.take_add_one, e, List.count_append]
    show _ + [y].count t = _
    rw [List.count_singleton]
    by_cases c : y = t <;> simp [c]
  have le1 : ((behindOf P x).take (m + 1)).count y ≤ hitC P x y := by
    rw [← behind_count]
    exact (List.take_sublist _ _).count_le y
  have cy := cnt y
  rw [if_pos rfl] at cy
  have ly := h.lack y y0 y1
  have pos : 1 ≤ L y := by omega
  have ny : y ∉ O := fun c => by
    have := (h.mem y y0 y1).mp c
    omega
  have tk : ∀ O' : List Int, (O ++ O').take (k + 1) = O.take (k + 1) := fun O' => List.take_append_of_le_length (by omega)
  have lack' : ∀ t : Int, 0 ≤ t → t < n → (if t = y then L y - 1 else L t) = (remC P (O.take (k + 1)) t + (hitC P x t - ((behindOf P x).take (m + 1)).count t) : Nat) := fun t t0 t1 => by
    have c := cnt t
    by_cases ty : t = y
    · subst ty
      rw [if_pos rfl]
      omega
    · rw [if_neg ty, h.lack t t0 t1, c, if_neg fun z => ty z.symm]
      rfl
  by_cases z : L y - 1 = 0
  · rw [if_pos z]
    have rem0 : remC P (O.take (k + 1)) y = 0 := by
      have := lack' y y0 y1
      rw [if_pos rfl] at this
      omega
    refine ⟨?_, fun t ht => ?_, ?_, fun t t0 t1 => by rw [tk]; exact lack' t t0 t1, fun t t0 t1 => ?_, fun j t ht p hp hpt => ?_⟩
    · rw [List.nodup_append]
      exact ⟨h.nd, by simp, fun a ha b hb c => ny (by rw [← List.mem_singleton.mp hb, ← c]; exact ha)⟩
    · rcases List.mem_append.mp ht with c | c
      · exact h.bd t c
      · rw [List.mem_singleton.mp c]
        exact ⟨y0, y1⟩
    · rw [List.getElem?_append_left lt]
      exact h.at_
    · rw [List.mem_append, List.mem_singleton]
      by_cases ty : t = y
      · rw [if_pos ty]
        exact ⟨fun _ => z, fun _ => .inr ty⟩
      · rw [if_neg ty, ← h.mem t t0 t1]
        exact ⟨fun c => c.resolve_right ty, .inl⟩
    · rcases Nat.lt_or_ge j O.length with c | c
      · rw [List.getElem?_append_left c] at ht
        rw [List.take_append_of_le_length (Nat.le_of_lt c)]
        exact h.ahead j t ht p hp hpt
      · have lj : j < (O ++ [y]).length := (List.getElem?_eq_some_iff.mp ht).1
        rw [List.length_append, List.length_singleton] at lj
        have jj : j = O.length := by omega
        subst jj
        rw [List.getElem?_append_right (Nat.le_refl _), Nat.sub_self] at ht
        have : y = t := Option.some.inj ht
        subst this
        rw [List.take_append_of_le_length (Nat.le_refl _), List.take_length]
        exact List.mem_of_mem_take (remC_zero rem0 p hp hpt)
  · rw [if_neg z]
    refine ⟨h.nd, h.bd, h.at_, lack', fun t t0 t1 => ?_, h.ahead⟩
    by_cases ty : t = y
    · subst ty
      rw [if_pos rfl]
      exact ⟨fun c => absurd c ny, fun c => absurd c z⟩
    · rw [if_neg ty]
      exact h.mem t t0 t1
/-- what order_of tells: an order, or some tasks of which each has one of them ahead -/
def OrderRes (P : List PP) (n : Nat) : Option (List Int) → Prop
  | some O => O.Nodup ∧ O.length = n ∧ (∀ t ∈ O, 0 ≤ t ∧ t < n) ∧ ∀ (j : Nat) (t : Int), O[j]? = some t → ∀ p ∈ P, p.2 = t → p.1 ∈ O.take j
  | none => ∃ S : List Int, S ≠ [] ∧ (∀ t ∈ S, 0 ≤ t ∧ t < n) ∧ ∀ t ∈ S, ∃ p ∈ P, p.2 = t ∧ p.1 ∈ S
theorem len_le {n : Nat} {O : List Int} (nd : O.Nodup) (bd : ∀ t ∈ O, 0 ≤ t ∧ t < n) : O.length ≤ n := by
  have s : O ⊆ Bs.upTo n := fun t ht => by
    obtain ⟨a, b⟩ := bd t ht
    exact List.mem_map.mpr ⟨t.toNat, List.mem_range.mpr (by omega), by omega⟩
  have := nd.length_le_of_subset s
  unfold Bs.upTo at this
  rw [List.length_map, List.length_range] at this
  exact this
theorem Ord.full {P : List PP} {n : Nat} {L : Int → Int} {O : List Int} (h : Ord P n n L O) : OrderRes P n (some O) :=
  ⟨h.nd, Nat.le_antisymm (len_le h.nd h.bd) h.le, h.bd, h.ahead⟩
theorem Ord.stuck {P : List PP} {n k : Nat} {L : Int → Int} {O : List Int} (h : Ord P n k L O) (ok : ∀ p ∈ P, 0 ≤ p.1 ∧ p.1 < n) (lt : k < n) (e : k = O.length) : OrderRes P n none := by
  subst e
  refine ⟨(Bs.upTo n).filter fun t => !decide (t ∈ O), fun c => ?_, fun t ht => ?_, fun t ht => ?_⟩
  · have sub : Bs.upTo n ⊆ O := fun t ht => by
      have := List.filter_eq_nil_iff.mp c t ht
      simpa using this
    have ndu : (Bs.upTo n).Nodup := by
      unfold Bs.upTo
      rw [List.Nodup, List.pairwise_map]
      exact List.nodup_range.imp fun h e => h (Int.ofNat.inj e)
    have := ndu.length_le_of_subset sub
    unfold Bs.upTo at this
    rw [List.length_map, List.length_range] at this
    omega
  · obtain ⟨hu, _⟩ := List.mem_filter.mp ht
    obtain ⟨j, hj, rfl⟩ := List.mem_map.mp hu
    have := List.mem_range.mp hj
    omega
  · obtain ⟨hu, hn⟩ := List.mem_filter.mp ht
    obtain ⟨j, hj, rfl⟩ := List.mem_map.mp hu
    have jn := List.mem_range.mp hj
    have nm : ((j : Nat) : Int) ∉ O := by simpa using hn
    have l := h.lack j (by omega) (by omega)
    have : remC P (O.take O.length) j ≠ 0 := fun c => nm ((h.mem j (by omega) (by omega)).mpr (by rw [l, c]; rfl))
    obtain ⟨p, hp, e1, e2⟩ := remC_pos this
    rw [List.take_length] at e2
    refine ⟨p, hp, e1, List.mem_filter.mpr ⟨List.mem_map.mpr ⟨p.1.toNat, List.mem_range.mpr ?_, ?_⟩, by simpa using e2⟩⟩
    · have := ok p hp
      omega
    · have := ok p hp
      omega
end Bs

namespace Bs
open PySem PySem.Spec PyProof.Rows L2
open Evl (Ex)
theorem ixN_nat {n k : Nat} (h : k < n) : ixN n (k : Int) = some k := by
  unfold ixN
  rw [if_pos (by omega), if_pos (by omega)]
  simp
/-- xs[k], k not below 0, as += asks for it -/
theorem pget_list {X : Cx} : PGet X (fun o i H Q => ∃ (p : Addr) (xs : List V) (k : Nat) (v : V), o = .ref p ∧ i = .int k ∧ SqL X.K H p xs ∧ xs[k]? = some v ∧ Q v H) := by
  intro pins s σ H o i ov iv Q I ro ri h
  obtain ⟨p, xs, k, v, rfl, rfl, hs, hv, q⟩ := h
  cases ro
  obtain ⟨t, rfl⟩ := ri
  obtain ⟨its, r, pl, hz⟩ := I.list hs
  obtain ⟨w, ew, rw'⟩ := r.get hv
  have lt : k < its.length := (List.getElem?_eq_some_iff.mp ew).1
  have hl := r.length
  have hn := line63
  exact wpAny_getItem_list pl.isList (by omega) (by omega) (by rw [Int.toNat_natCast]; simpa using ew) ⟨v, H, I, rw', q⟩
/-- numbers by their places -/
def lst (L : Int → Int) (n : Nat) : List Int := (List.range n).map fun (t : Nat) => L (t : Int)
theorem lst_len (L : Int → Int) (n : Nat) : (lst L n).length = n := by
  unfold lst
  rw [List.length_map, List.length_range]
theorem lst_get {L : Int → Int} {n y : Nat} (h : y < n) : (lst L n)[y]? = some (L y) := by
  unfold lst
  rw [List.getElem?_map, List.getElem?_range h]
  rfl
theorem lst_set {L : Int → Int} {n y : Nat} (v : Int) : (lst L n).set y v = lst (fun t => if t = y then v else L t) n := by
  apply List.ext_getElem?
  intro i
  rw [List.getElem?_set, lst_len]
  by_cases e : y = i
  · subst e
    rw [if_pos rfl]
    by_cases h : y < n
    · rw [if_pos h, lst_get h, if_pos rfl]
    · rw [if_neg h]
      exact (List.getElem?_eq_none (by rw [lst_len]; omega)).symm
  · rw [if_neg e]
    by_cases h : i < n
    · rw [lst_get h, lst_get h, if_neg (by omega)]
    · rw [List.getElem?_eq_none (by rw [lst_len]; omega), List.getElem?_eq_none (by rw [lst_len]; omega)]
theorem lst_congr {L M : Int → Int} {n : Nat} (h : ∀ t : Nat, t < n → L t = M t) : lst L n = lst M n :=
  List.map_congr_left fun t ht => h t (List.mem_range.mp ht)
theorem lack_snoc (P : List PP) (p : PP) (t : Int) : (lackOf (P ++ [p]) t : Int) = if t = p.2 then (lackOf P p.2 : Int) + 1 else lackOf P t := by
  unfold lackOf
  rw [List.countP_append]
  by_cases e : t = p.2
  · subst e
    rw [if_pos rfl]
    simp
  · rw [if_neg e]
    have : ¬ p.2 = t := fun z => e z.symm
    simp [this]
theorem behind_snoc (P : List PP) (p : PP) (x : Int) : behindOf (P ++ [p]) x = if p.1 = x then behindOf P x ++ [p.2] else behindOf P x := by
  unfold behindOf
  rw [List.filter_append, List.map_append]
  by_cases e : p.1 = x
  · rw [if_pos e, List.filter_cons_of_pos (by simpa using e)]
    rfl
  · rw [if_neg e, List.filter_cons_of_neg (by simpa using e)]
    simp
def freeOf (L : Int → Int) (n : Nat) : List Int := ((List.range n).filter fun (t : Nat) => decide (L t = 0)).map fun (t : Nat) => (t : Int)
theorem Ord.first (P : List PP) (n : Nat) : Ord P n 0 (fun t => (lackOf P t : Nat)) (freeOf (fun t => (lackOf P t : Nat)) n) := by
  have mem : ∀ t : Int, 0 ≤ t → t < n → (t ∈ freeOf (fun t => (lackOf P t : Nat)) n ↔ ((lackOf P t : Nat) : Int) = 0) := fun t t0 t1 => by
    unfold freeOf
    rw [List.mem_map]
    constructor
    · rintro ⟨j, hj, rfl⟩
      exact of_decide_eq_true (List.mem_filter.mp hj).2
    · intro e
      exact ⟨t.toNat, List.mem_filter.mpr ⟨List.mem_range.mpr (by omega), by
        rw [Int.toNat_of_nonneg t0]
        exact decide_eq_true e⟩, Int.toNat_of_nonneg t0⟩
  have bd : ∀ t ∈ freeOf (fun t => (lackOf P t : Nat)) n, 0 ≤ t ∧ t < n := fun t ht => by
    unfold freeOf at ht
    obtain ⟨j, hj, rfl⟩ := List.mem_map.mp ht
    have := List.mem_range.mp (List.mem_filter.mp hj).1
    omega
  refine ⟨?_, bd, Nat.zero_le _, fun t t0 t1 => by rw [List.take_zero, remC_nil], mem, fun j t ht p hp e => ?_⟩
  · unfold freeOf
    rw [List.Nodup, List.pairwise_map]
    exact (List.Pairwise.filter _ List.nodup_range).imp fun h e => h (Int.ofNat.inj e)
  · have m := List.mem_of_getElem? ht
    have z := (mem t (bd t m).1 (bd t m).2).mp m
    have z' : remC P [] t = 0 := by
      rw [remC_nil]
      omega
    exact absurd (remC_zero z' p hp e) (by simp)
end Bs

namespace Bs
open PySem PySem.Spec PyProof.Rows L2
open Evl (Ex)
/-! ### dicts with int keys, ranges, sorted ints -/
section
variable {K : PySem.W.Frag} {σ : L2.St} {H : Hp} {Q : VK}
theorem q_dnew (q : ∀ p, H p = none → Q (.ref p) (upd H p (.dK []))) : tDNewK σ H Q := q
theorem q_dget {td ty : TE} (q : td σ H fun x H1 => ty σ H1 fun y H2 => ∃ a v, x = .ref a ∧ DGet H2 a y (some v) ∧ Q v H2) : tDGet td ty σ H Q := q
theorem q_dgetI {a : Addr} {kvs : List (L2.Key × V)} {i : Int} {v : V} {P : V → Prop} (h : H a = some (.dK kvs)) (e : valV kvs (Sum.inl i) = some v) (q : P v) : ∃ b v, V.ref a = .ref b ∧ DGet H b (.int i) (some v) ∧ P v :=
  ⟨a, v, rfl, by
    rw [← e]
    exact DGet.k (k := Sum.inl i) h, q⟩
theorem q_dput {nx bk ct : L2.St → Hp → Prop} {rt : VK} {td ty tv : TE} (q : tv σ H fun v H1 => td σ H1 fun x H2 => ty σ H2 fun y H3 => ∃ a H4, x = .ref a ∧ DPut H3 a y v H4 ∧ nx σ H4) : sDPut td ty tv ⟨nx, rt, bk, ct⟩ σ H := q
theorem q_dputI {a : Addr} {kvs : List (L2.Key × V)} {i : Int} {v : V} {P : Hp → Prop} (h : H a = some (.dK kvs)) (s : kvs.length < 16000000) (q : P (upd H a (.dK (putK kvs (Sum.inl i) v)))) : ∃ b H4, V.ref a = .ref b ∧ DPut H b (.int i) v H4 ∧ P H4 :=
  ⟨a, _, rfl, DPut.k (k := Sum.inl i) h (by rw [sizeLine_eq]; omega), q⟩
def rRange1 : List V → Hp → VK → Prop := fun vs H Q => ∃ n, vs = [V.int n] ∧ ∀ p, H p = none → Q (.ref p) (upd H p (.rng 0 n))
theorem q_range1 {n : Int} (q : ∀ p, H p = none → Q (.ref p) (upd H p (.rng 0 n))) : rRange1 [.int n] H Q := ⟨n, rfl, q⟩
def rListRng : List V → Hp → VK → Prop := fun vs H Q => ∃ (r : Addr) (n : Nat), vs = [.ref r] ∧ H r = some (.rng 0 n) ∧ n ≤ 100000 ∧ ∀ p, H p = none → Q (.ref p) (upd H p (.lst ((upTo n).map V.int)))
theorem q_listRng {r : Addr} {n : Nat} (h : H r = some (.rng 0 n)) (s : n ≤ 100000) (q : ∀ p, H p = none → Q (.ref p) (upd H p (.lst ((upTo n).map V.int)))) : rListRng [.ref r] H Q := ⟨r, n, rfl, h, s, q⟩
theorem q_sortedI {a : Addr} {ns : List Int} (h : H a = some (.lst (ns.map V.int))) (q : ∀ (ms : List Int) (p : Addr), ms.Perm ns → ms.Pairwise (· ≤ ·) → H p = none → Q (.ref p) (upd H p (.lst (ms.map V.int)))) : rSortedI K [.ref a] H Q := ⟨a, ns, rfl, SqL.of h, q⟩
end
section
variable {X : Cx} {K : PySem.W.Frag}
theorem au_range1 : CallR X (.type "range") rRange1 := cr_range1
theorem au_listRng (hc : X.calm = true) : CallR X (.type "list") rListRng := cr_listRng hc
theorem au_sortedI (h : X.K = K := by rfl) : CallR X (.builtin "sorted") (rSortedI K) := h ▸ cr_sortedI
end
/-- two sorted lists of the same ints are one -/
theorem sorted_uniq : ∀ {ms ns : List Int}, ms.Pairwise (· ≤ ·) → ns.Pairwise (· ≤ ·) → ms.Perm ns → ms = ns
  | [], ns, _, _, p => (List.Perm.eq_nil p.symm).symm
  | m :: ms, [], _, _, p => absurd p.length_eq (by simp)
  | m :: ms, n :: ns, h, h', p => by
    have a : m ≤ n := by
      rcases List.mem_cons.mp (p.mem_iff.mpr (List.mem_cons_self (a := n) (l := ns))) with e | e
      · omega
      · exact (List.pairwise_cons.mp h).1 n e
    have b : n ≤ m := by
      rcases List.mem_cons.mp (p.mem_iff.mp (List.mem_cons_self (a := m) (l := ms))) with e | e
      · omega
      · exact (List.pairwise_cons.mp h').1 m e
    obtain rfl : m = n := by omega
    rw [sorted_uniq (List.pairwise_cons.mp h).2 (List.pairwise_cons.mp h').2 p.cons_inv]
theorem upTo_sorted (n : Nat) : (upTo n).Pairwise (· ≤ ·) := by
  unfold upTo
  rw [List.pairwise_map]
  exact List.pairwise_lt_range.imp fun {a b} h => by omega
theorem upTo_len (n : Nat) : (upTo n).length = n := by
  unfold upTo
  rw [List.length_map, List.length_range]
theorem upTo_get {n i : Nat} (h : i < n) : (upTo n)[i]? = some (i : Int) := by
  unfold upTo
  rw [List.getElem?_map, List.getElem?_range h]
  rfl
theorem upTo_mem {n : Nat} {x : Int} : x ∈ upTo n ↔ 0 ≤ x ∧ x < n := by
  unfold upTo
  rw [List.mem_map]
  constructor
  · rintro ⟨k, hk, rfl⟩
    have := List.mem_range.mp hk
    omega
  · rintro ⟨a, b⟩
    exact ⟨x.toNat, List.mem_range.mpr (by omega), by omega⟩
theorem upTo_nodup (n : Nat) : (upTo n).Nodup := by
  unfold upTo
  rw [List.Nodup, List.pairwise_map]
  exact List.pairwise_lt_range.imp fun {a b} h => by omega
/-! ### two machines in a row: the mathematics -/
/-- rows as pairs -/
def one_ (rows : List (List Int)) (n : Int) : Int := (rows.getD n.toNat []).getD 0 0
def two_ (rows : List (List Int)) (n : Int) : Int := (rows.getD n.toNat []).getD 1 0
/-- an order of so many -/
def IsOrder (o : List Int) (n : Nat) : Prop := o.Perm (upTo n)
theorem IsOrder.bd {o : List Int} {n : Nat} (h : IsOrder o n) {x : Int} (m : x ∈ o) : 0 ≤ x ∧ x < n := upTo_mem.mp (h.mem_iff.mp m)
theorem IsOrder.len {o : List Int} {n : Nat} (h : IsOrder o n) : o.length = n := by
  rw [h.length_eq, upTo_len]
theorem IsOrder.nodup {o : List Int} {n : Nat} (h : IsOrder o n) : o.Nodup := h.nodup_iff.mpr (upTo_nodup n)
theorem IsOrder.all {o : List Int} {n : Nat} (h : IsOrder o n) {x : Int} (a : 0 ≤ x) (b : x < n) : x ∈ o := h.mem_iff.mpr (upTo_mem.mpr ⟨a, b⟩)
end Bs

namespace Bs
open PySem PySem.Spec PyProof.Rows L2
open Evl (Ex)
/-! ### more rules: min and max of a tuple, or, int of a truth, texts in a tuple, zips of tuples -/
section
variable {K : PySem.W.Frag} {σ : L2.St} {H : Hp} {Q : VK}
theorem min_in : ∀ (ns : List Int) (n : Int), (ns.foldl min n ∈ n :: ns) ∧ ∀ k ∈ n :: ns, ns.foldl min n ≤ k
  | [], n => ⟨List.mem_cons_self, fun k hk => by rw [List.mem_singleton.mp hk]; exact Int.le_refl _⟩
  | m :: r, n => by
    obtain ⟨h1, h2⟩ := min_in r (min n m)
    rw [List.foldl_cons]
    constructor
    · rcases List.mem_cons.mp h1 with e | e
      · rw [e]
        rcases Int.le_total n m with h | h
        · rw [Int.min_eq_left h]
          exact List.mem_cons_self
        · rw [Int.min_eq_right h]
          exact List.mem_cons_of_mem _ List.mem_cons_self
      · exact List.mem_cons_of_mem _ (List.mem_cons_of_mem _ e)
    · intro k hk
      have h3 := h2 _ List.mem_cons_self
      rcases List.mem_cons.mp hk with e | e
      · omega
      · rcases List.mem_cons.mp e with e | e
        · omega
        · exact h2 k (List.mem_cons_of_mem _ e)
def rMinT (K : PySem.W.Frag) : List V → Hp → VK → Prop := fun vs H Q => ∃ (a : Addr) (ns : List Int), vs = [V.ref a] ∧ SqT K H a (ns.map V.int) ∧ 0 < ns.length ∧ ∀ m, m ∈ ns → (∀ y, y ∈ ns → m ≤ y) → Q (.int m) H
theorem au_minT {X : Cx} (hc : X.calm = true) (hu : X.A.units + 64 < cLine) (hK : X.K = K := by rfl) : CallR X (.builtin "min") (rMinT K) := by
  subst hK
  intro pins s σ H xs us Q I r1 h
  obtain ⟨a, ns, rfl, hs, l, h1⟩ := h
  obtain ⟨u, rfl, ru⟩ := vals1 r1
  obtain rfl : u = Value.ref a := ru
  obtain ⟨its, rv, hl, _⟩ := I.tuple hs
  cases ns with
  | nil => exact absurd l (Nat.lt_irrefl 0)
  | cons n r =>
    obtain ⟨as, rd⟩ := Dp.readsAll I ((n :: r).map .int) _ _ dpa_ints rv
    have back : ∀ {h' : Heap} {tk : Nat}, (∀ b o, s.heap.get? b = some o → h'.get? b = some o) → L2.Inv X pins σ H { s with heap := h', toks := tk } := fun {h' tk} kept => I.call' (ch := []) rfl (Un.kept kept) (I.hok.kept kept) I.bare (fun _ z => nomatch z)
    have al : PySem.W.AlikeAll ((n :: r).map .int) := ⟨fun x hx y hy => by
      obtain ⟨i, _, rfl⟩ := List.mem_map.mp hx
      obtain ⟨j, _, rfl⟩ := List.mem_map.mp hy
      rfl, fun x hx => by
      obtain ⟨i, _, rfl⟩ := List.mem_map.mp hx
      intro z
      cases z⟩
    refine PySem.W.min_tuple_data (vs := its.toArray) (x := .int n) (xs := r.map .int) (I.ok.hd hc) (show s.heap.IsTuple a its.toArray from hl) (by simpa using rd) al (by
      rw [show (PyData.int n :: r.map PyData.int) = (n :: r).map PyData.int from rfl, dp_ints]
      omega) (fun i v h' tk bs hv hr kept => ?_)
    rw [PySem.W.minD_ints] at hr
    obtain ⟨t, rfl⟩ : ∃ t, v = .int (r.foldl min n) t := by
      cases hr with
      | int => exact ⟨_, rfl⟩
    obtain ⟨g1, g2⟩ := min_in r n
    exact ⟨.int _, H, back kept, ⟨t, rfl⟩, h1 _ g1 g2⟩
theorem q_minT2 {a : Addr} {x y : Int} (h : H a = some (.tup [.int x, .int y])) (q : Q (.int (min x y)) H) : rMinT K [.ref a] H Q :=
  ⟨a, [x, y], rfl, SqT.of h, Nat.succ_pos _, fun m hm hy => by
    have h1 := hy x List.mem_cons_self
    have h2 := hy y (List.mem_cons_of_mem _ List.mem_cons_self)
    have : m = min x y := by
      simp only [List.mem_cons, List.not_mem_nil, or_false] at hm
      omega
    rw [this]
    exact q⟩
def rInt1 : List V → Hp → VK → Prop := fun xs H Q => (∃ i, xs = [.int i] ∧ Q (.int i) H) ∨ ∃ k, xs = [.bl k] ∧ Q (.int (if k then 1 else 0)) H
theorem q_int1b {k : Bool} (q : Q (.int (if k then 1 else 0)) H) : rInt1 [.bl k] H Q := .inr ⟨k, rfl, q⟩
theorem q_int1i {i : Int} (q : Q (.int i) H) : rInt1 [.int i] H Q := .inl ⟨i, rfl, q⟩
theorem au_int1 {X : Cx} : CallR X (.type "int") rInt1 := call_int1
theorem q_orT {ta tb : TE} (q : ta σ H fun x H1 => ∃ k, TruV K x H1 k ∧ if k = true then Q x H1 else tb σ H1 Q) : tOrT K ta tb σ H Q := q
theorem q_truT {a : Addr} {xs : List V} {P : Bool → Prop} (h : H a = some (.tup xs)) (q : P (!xs.isEmpty)) : ∃ k, TruV K (.ref a) H k ∧ P k := ⟨_, .inr (.inl ⟨xs, SqT.of h, rfl⟩), q⟩
theorem q_truL {a : Addr} {xs : List V} {P : Bool → Prop} (h : H a = some (.lst xs)) (q : P (!xs.isEmpty)) : ∃ k, TruV K (.ref a) H k ∧ P k := ⟨_, .inl ⟨xs, SqL.of h, rfl⟩, q⟩
theorem flat_strs (ns : List Str) : (ns.map V.str).all flatV = true := by
  rw [List.all_eq_true]
  intro v hv
  obtain ⟨n, _, rfl⟩ := List.mem_map.mp hv
  rfl
/-- a text among written ones -/
theorem q_niS {p : Addr} {x a b : Str} (h : H p = some (.tup [.str a, .str b])) (q : Q (.bl (!(a == x || (b == x || false)))) H) : rIn K true (.str x) (.ref p) H Q := ⟨p, _, rfl, .inr (SqT.of h), rfl, rfl, by
  rw [if_pos rfl]
  exact q⟩
theorem q_iZipA {ta : TA} {P : It → Hp → Prop} (q : ta σ H fun vs H1 => ∃ a b xs ys, vs = [.ref a, .ref b] ∧ ((SqL K H1 a xs ∧ SqL K H1 b ys ∧ P (Itz K a b) H1) ∨ (SqT K H1 a xs ∧ SqT K H1 b ys ∧ P (RZ.ItzT K a b) H1))) : RZ.iZipA K ta σ H P := q
theorem q_zipT {a b : Addr} {xs ys : List V} {P P' : Addr → Addr → Prop} (h : H a = some (.tup xs)) (h' : H b = some (.tup ys)) (q : P' a b) : ∃ c d xs ys, [V.ref a, .ref b] = [.ref c, .ref d] ∧ ((SqL K H c xs ∧ SqL K H d ys ∧ P c d) ∨ (SqT K H c xs ∧ SqT K H d ys ∧ P' c d)) := ⟨a, b, xs, ys, rfl, .inr ⟨SqT.of h, SqT.of h', q⟩⟩
theorem q_slT1 {a : Addr} {xs : List V} (h : H a = some (.tup xs)) (l : 0 < xs.length) (q : ∀ p, H p = none → Q (.ref p) (upd H p (.tup (xs.drop 1)))) : rSlT K (.ref a) (some 1) none H Q :=
  ⟨a, xs, rfl, SqT.of h, fun z => by
    have z1 := z.1
    rw [show (some (1 : Int)) = some ((1 : Nat) : Int) from rfl, HT.sIx_nat] at z1
    omega, fun p np => by
    rw [cutV_one]
    exact q p np⟩
section
variable {g : TG} {tt : TT} {te : TE} {vs : List Nat} {τ : L2.St} {D : Addr} {Qd : Hp → Prop}
theorem lcp_zipT {a b : Addr} {xs ys : List V} {n : Nat} (hn : n = min xs.length ys.length) (Pv : Nat → Hp → Prop) (h0 : Pv 0 H) (hl : ∀ i H, Pv i H → H a = some (.tup xs) ∧ H b = some (.tup ys))
    (hs : ∀ (i : Nat) (x y : V) (H : Hp) (T : Addr), xs[i]? = some x → ys[i]? = some y → Pv i H → H T = none → TurnC g tt te τ vs D (.ref T) (Pv (i + 1)) (upd H T (.tup [x, y]))) (hd : ∀ H, Pv n H → Qd H) : LoopC (RZ.ItzT K a b) g tt te τ vs D Qd H := by
  refine ⟨fun i m H => m = n - i ∧ i ≤ n ∧ Pv i H, ⟨n, by simp, Nat.zero_le _, h0⟩, ?_⟩
  rintro i m H ⟨rfl, hi, p⟩
  have q1 : SqT K H a xs := SqT.of (hl i H p).1
  have q2 : SqT K H b ys := SqT.of (hl i H p).2
  by_cases hlt : i < n
  · have l1 : i < xs.length := by omega
    have l2 : i < ys.length := by omega
    refine .inr ⟨⟨xs, ys, xs[i], ys[i], q1, q2, by simp [l1], by simp [l2]⟩, Pv (i + 1), fun H' p' => ⟨n - (i + 1), by omega, rfl, hlt, p'⟩, fun x H' y => ?_⟩
    obtain ⟨T, y1, y2, e1, e2, e3, e4, e5⟩ := y
    subst e1 e3
    exact hs i y1 y2 H T (e4 xs q1) (e5 ys q2) p e2
  · have e : i = n := by omega
    subst e
    exact .inl ⟨⟨xs, ys, q1, q2, by omega⟩, hd H p⟩
/-- maps of ints over a list or a tuple of ints -/
theorem lcp_mapIL {a : Addr} {S : List Int} (fn : Int → Int) (nD : H D = none) (ha : H a = some (.lst (S.map V.int))) (small : S.length ≤ 10000000)
    (turn : ∀ (n : Int) (H1 : Hp), n ∈ S → Ex H H1 → ∀ R : VK, (∀ H2, Ex H1 H2 → R (.int (fn n)) H2) → TurnE g tYes te τ vs (.int n) R H1)
    (q : ∀ H', Ex H H' → H' D = some (.lst ((S.map fn).map V.int)) → Qd H') : LoopC (Itl K a) g tYes te τ vs D Qd (upd H D (.lst [])) := by
  refine lcp_list (xs := S.map V.int) (fun i H' => Ex H H' ∧ H' D = some (.lst (((S.take i).map fn).map V.int))) ⟨Ex.new nD, upd_same⟩ (fun i H' _ h => h.1 _ _ ha) (fun i x H' hx h => ?_) (fun H' h => ?_)
  · obtain ⟨e, hD⟩ := h
    rw [List.getElem?_map] at hx
    cases hn : S[i]? with
    | none => rw [hn] at hx; cases hx
    | some n =>
      rw [hn] at hx
      have := Option.some.inj hx
      subst this
      have hi := (List.getElem?_eq_some_iff.mp hn).1
      exact turn n H' (List.mem_of_getElem? hn) e _ fun H2 e2 => ⟨_, e2 _ _ hD, by rw [List.length_map, List.length_map, List.length_take, sizeLine_eq]; omega, (e.trans e2).mut nD, by
        rw [upd_same, take_snoc hn, List.map_append, List.map_append]
        rfl⟩
  · rw [List.length_map, List.take_length] at h
    exact q H' h.1 h.2
theorem lcp_mapIT {a : Addr} {S : List Int} (fn : Int → Int) (nD : H D = none) (ha : H a = some (.tup (S.map V.int))) (small : S.length ≤ 10000000)
    (turn : ∀ (n : Int) (H1 : Hp), n ∈ S → Ex H H1 → ∀ R : VK, (∀ H2, Ex H1 H2 → R (.int (fn n)) H2) → TurnE g tYes te τ vs (.int n) R H1)
    (q : ∀ H', Ex H H' → H' D = some (.lst ((S.map fn).map V.int)) → Qd H') : LoopC (Itt K a) g tYes te τ vs D Qd (upd H D (.lst [])) := by
  refine lcp_tup (xs := S.map V.int) (fun i H' => Ex H H' ∧ H' D = some (.lst (((S.take i).map fn).map V.int))) ⟨Ex.new nD, upd_same⟩ (fun i H' _ h => h.1 _ _ ha) (fun i x H' hx h => ?_) (fun H' h => ?_)
  · obtain ⟨e, hD⟩ := h
    rw [List.getElem?_map] at hx
    cases hn : S[i]? with
    | none => rw [hn] at hx; cases hx
    | some n =>
      rw [hn] at hx
      have := Option.some.inj hx
      subst this
      have hi := (List.getElem?_eq_some_iff.mp hn).1
      exact turn n H' (List.mem_of_getElem? hn) e _ fun H2 e2 => ⟨_, e2 _ _ hD, by rw [List.length_map, List.length_map, List.length_take, sizeLine_eq]; omega, (e.trans e2).mut nD, by
        rw [upd_same, take_snoc hn, List.map_append, List.map_append]
        rfl⟩
  · rw [List.length_map, List.take_length] at h
    exact q H' h.1 h.2
/-- a map of ints over rows -/
theorem lcp_mapR {a : Addr} {xs : List V} {rows : List (List Int)} (fn : List Int → Int) (nD : H D = none) (ha : H a = some (.lst xs)) (ts : Ts H xs rows) (small : rows.length ≤ 10000000)
    (turn : ∀ (t : Addr) (r : List Int) (H1 : Hp), r ∈ rows → Ex H H1 → H1 t = some (.tup (r.map V.int)) → ∀ R : VK, (∀ H2, Ex H1 H2 → R (.int (fn r)) H2) → TurnE g tYes te τ vs (.ref t) R H1)
    (q : ∀ H', Ex H H' → H' D = some (.lst ((rows.map fn).map V.int)) → Qd H') : LoopC (Itl K a) g tYes te τ vs D Qd (upd H D (.lst [])) := by
  have l := ts.len
  refine lcp_list (xs := xs) (fun i H' => Ex H H' ∧ H' D = some (.lst (((rows.take i).map fn).map V.int))) ⟨Ex.new nD, upd_same⟩ (fun i H' _ h => h.1 _ _ ha) (fun i x H' hx h => ?_) (fun H' h => ?_)
  · obtain ⟨e, hD⟩ := h
    obtain ⟨t, r, rfl, hn, ht⟩ := ts.get hx
    have hi := (List.getElem?_eq_some_iff.mp hn).1
    exact turn t r H' (List.mem_of_getElem? hn) e (e _ _ ht) _ fun H2 e2 => ⟨_, e2 _ _ hD, by rw [List.length_map, List.length_map, List.length_take, sizeLine_eq]; omega, (e.trans e2).mut nD, by
      rw [upd_same, take_snoc hn, List.map_append, List.map_append]
      rfl⟩
  · rw [l, List.take_length] at h
    exact q H' h.1 h.2
end
end
end Bs

/-! Se: set(xs) of a list of whole numbers, as a set that sorted reads. -/
namespace RZ
open PySem PySem.Spec PyProof.Rows L2
abbrev ledOf (w : World) : Bool := !w.params.followText "set-order"
abbrev empO (w : World) : Obj :=
  { cls := .type "set"
    dict := none
    data := .set #[] 0 (.fresh 0 0 (ledOf w)) }
abbrev withE (w : World) (s : Shared) : Shared :=
  { s with heap := s.heap.push (empO w) }
/-- what stands behind set(xs): the members of ns, at the heap's first free place -/
abbrev SetD (w : World) (s : Shared) (ns : List Int) (h' : Heap) (c : Nat) : Prop :=
  SetR w h' s.heap.objs.size (fun j => decide (j ∈ ns)) c ∧ c ≤ ns.length ∧ ∀ b o, s.heap.get? b = some o → h'.get? b = some o
section
variable {P : Program} {w : World} {A : Around} {E : Value → Shared → Prop} {s : Shared}
set_option maxHeartbeats 3200000 in
theorem call_setI {l : Addr} {its : Array Value} (ns : List Int) {Q : Value → Shared → Prop} (hh : A.handled = none)
    (hl : s.heap.IsList l its) (hi : IntsAre its.toList ns) (room : ns.length + 1 < scanBound)
    (h : ∀ h' tk c, SetD w s ns h' c → Q (.ref s.heap.objs.size) { s with heap := h', toks := tk }) :
    wpAny (model P w) A (call (.type "set") [.ref l]) Q E s := by
  have many : its.size = ns.length := by
    have q := IntsAre.length hi
    rwa [Array.length_toList] at q
  obtain ⟨cx, tx, mro⟩ := F.called_set.mro
  have made := F.called_set.made
  have sub := F.called_set.sub
  refine wpAny_call (codeAny_of_tree ?_)
  show wpAny _ _ (callAny (.type "set") _) _ _ s
  refine wpAny_pure ⟨Code.quiet_builtin _ (by decide +kernel), ?_⟩
  refine codeAny_builtin F.entry_type_call ?_
  rw [Around.under_plain (weight_type_call_type "set" [.ref l] []) rfl]
  have noType := F.called_set.notType
  have creates := F.called_set.canCreate
  have typed := F.typeCall_set_1 (.ref l)
  repeat any_goals first | assumption | wp_step
  refine codeAny_mono (code_set_led1 (.ref l) (E := E) (Q₁ := fun v t => v = .ref s.heap.objs.size ∧ t = withE w s) ⟨rfl, rfl⟩) ?_
  intro fl t got
  match fl, got with
  | .ok (.ret v), got =>
    obtain ⟨ev, et⟩ := got
    subst ev et
    have at0 : (withE w s).heap.get? s.heap.objs.size = some (empO w) := Heap.get?_push_size _ rfl
    have isSet : Shared.TypeIs (withE w s) (.ref s.heap.objs.size) "set" := ⟨_, at0, rfl⟩
    have look := F.called_set.init.lookup
    have bnd := F.called_set.init.bind (.ref s.heap.objs.size)
    repeat any_goals first | assumption | wp_step
    refine codeAny_mono (codeAny_call_builtin (R := wants (fun v t => v = .none ∧ ∃ h' tk c, t = { s with heap := h', toks := tk } ∧ SetD w s ns h' c) E)
      F.called_set.init.plain F.entry_set_init (check_set_init_1 isSet ?_)) ?_
    · obtain ⟨ol, ho, hc, nl, hd⟩ := hl
      obtain ⟨ocl, odi, oda, osl⟩ := ol
      simp only at hc hd
      subst hc hd
      have ho' : (withE w s).heap.get? l = some _ := Heap.get?_push_of_some _ ho
      have no1 := F.sub_list_set
      have no2 := F.sub_list_frozenset
      have no3 : (Value.type "list" == Value.type "dict") = false := by decide
      have still : (withE w s).heap.IsList l its := ⟨_, ho', rfl, nl, rfl⟩
      unfold Builtin.«set.__init__»
      unfold noKeywords Builtin.Frozenset.updateFrom
      generalize eIt : pyIter = itr
      wp_walk
      subst eIt
      refine wpAny_pyIter_list still (wpAny_bind (wpAny_runValue ?_))
      have below : l < s.heap.objs.size := Heap.lt_size ho
      have calm3 : A.in1.in1.in1.handled = none := by simp [hh]
      have sz : (withE w s).heap.objs.size = s.heap.objs.size + 1 := Heap.size_push ..
      have apart : l ≠ (withE w s).heap.objs.size := by
        rw [sz]
        exact Nat.ne_of_lt (Nat.lt_succ_of_lt below)
      have out : s.heap.objs.size ∉ [(withE w s).heap.objs.size, l] := by
        simp only [List.mem_cons, List.not_mem_nil, or_false, not_or]
        exact ⟨by rw [sz]; exact Nat.ne_of_lt (Nat.lt_succ_self _), Nat.ne_of_gt below⟩
      have vals : ∀ (i : Nat) (v : Value), its[i]? = some v → ∃ k t, ns[i]? = some k ∧ v = .int k t := by
        intro i v hv
        have lt : i < ns.length := by
          have := (Array.getElem?_eq_some_iff.mp hv).1
          omega
        obtain ⟨t, e⟩ := IntsAre.int_at hi i v (by rwa [Array.getElem?_toList])
        exact ⟨ns[i], t, List.getElem?_eq_getElem lt, by rw [e, List.getD_eq_getElem?_getD, List.getElem?_eq_getElem lt]; rfl⟩
      refine set_update_ints ((Walks.list calm3 _ l apart its).toS) s.heap.objs.size out ns many room vals
        (its.size - 0) 0 _ (by omega) (Nat.zero_le _) ⟨⟨_, Heap.get?_push_size _ rfl, rfl, rfl⟩, still.push _⟩ ?_ ?_
      · exact ⟨0, Nat.le_refl 0, setR_new_at (Heap.get?_push_of_some _ at0)⟩
      · intro t c mv hc hS
        obtain ⟨h', g', d', tk, os'⟩ := t
        obtain rfl : g' = s.gens := mv.gens
        obtain rfl : d' = s.drawn := mv.drawn
        obtain rfl : os' = s.os := mv.os
        show wpAny _ _ _ _ _ _
        refine wpAny_pure ?_
        show wpAny _ _ (ret Value.none) _ _ _
        refine wpAny_pure ⟨rfl, h', tk, c, rfl, hS, by omega, fun b o e => ?_⟩
        have lt : b < s.heap.objs.size := Heap.lt_size e
        refine mv.heap b o ?_ (Heap.get?_push_of_some _ (Heap.get?_push_of_some _ e))
        simp only [List.mem_cons, List.not_mem_nil, or_false, not_or]
        exact ⟨Nat.ne_of_lt lt, by rw [sz]; exact Nat.ne_of_lt (Nat.lt_succ_of_lt lt)⟩
    · intro fl2 t2 got2
      match fl2, got2 with
      | .ok (.ret v), got2 =>
        obtain ⟨ev, h', tk, c, et, sd⟩ := got2
        subst ev et
        repeat any_goals first | assumption | wp_step
        exact h _ _ _ sd
      | .error e, got2 => exact got2
  | .error e, got => exact got
end
section
variable {X : Cx} {K : PySem.W.Frag} {w : World}
/-- set(xs): xs a list of fewer than 64 whole numbers -/
def rSetI (K : PySem.W.Frag) (w : World) : List V → Hp → VK → Prop := fun vs H Q => ∃ (a : Addr) (ns : List Int), vs = [V.ref a] ∧ SqL K H a (ns.map V.int) ∧ ns.length < 64 ∧
  ∀ (p : Addr) (n : Nat), n ≤ ns.length → H p = none → Q (.ref p) (upd H p (SetO w p (fun j => decide (j ∈ ns)) n))
theorem cr_setI (hc : X.calm = true) (hK : X.K = K := by rfl) (hW : X.w = w := by rfl) : CallR X (.type "set") (rSetI K w) := by
  subst hK hW
  intro pins s σ H vs us Q I r h
  obtain ⟨a, ns, rfl, hs, h64, q⟩ := h
  obtain ⟨its, rv, hl, hz⟩ := I.list hs
  rw [Vals.ref1 r]
  refine call_setI ns (I.ok.hd hc) hl.isList (by simpa using rv.ints) (by unfold scanBound; omega) fun h' tk c ⟨R, hn, hk⟩ => ?_
  exact ⟨.ref _, upd H s.heap.objs.size (SetO X.w s.heap.objs.size _ c), I.laid (t' := tk) hk (Nat.le_refl _) (setO_new R), rfl, q _ c hn (I.hok.fresh (Nat.le_refl _))⟩
/-- set(t): t a tuple of fewer than 64 whole numbers -/
def rSetTI (K : PySem.W.Frag) (w : World) : List V → Hp → VK → Prop := fun vs H Q => ∃ (a : Addr) (ns : List Int), vs = [V.ref a] ∧ SqT K H a (ns.map V.int) ∧ ns.length < 64 ∧
  ∀ (p : Addr) (n : Nat), n ≤ ns.length → H p = none → Q (.ref p) (upd H p (SetO w p (fun j => decide (j ∈ ns)) n))
theorem cr_setTI (hc : X.calm = true) (hK : X.K = K := by rfl) (hW : X.w = w := by rfl) : CallR X (.type "set") (rSetTI K w) := by
  subst hK hW
  intro pins s σ H vs us Q I r h
  obtain ⟨a, ns, rfl, hs, h64, q⟩ := h
  obtain ⟨its, rv, hT, hz⟩ := I.tuple hs
  rw [Vals.ref1 r]
  refine call_set_tupI ns (I.ok.hd hc) (show s.heap.IsTuple a its.toArray from hT) (by simpa using rv.ints) (by unfold scanBound; omega) fun h' tk c R hn hk => ?_
  exact ⟨.ref _, upd H s.heap.objs.size (SetO X.w s.heap.objs.size _ c), I.laid (t' := tk) hk (Nat.le_refl _) (setO_new R), rfl, q _ c hn (I.hok.fresh (Nat.le_refl _))⟩
theorem au_sortedSet (hc : X.calm = true) (hW : X.w = w := by rfl) : CallR X (.builtin "sorted") (rSortedSet w) := hW ▸ cr_sortedSet hc
/-- a rising list is what sorted tells of its set -/
theorem rising_uniq : ∀ {a b : List Int}, a.Pairwise (· < ·) → b.Pairwise (· < ·) → (∀ k, k ∈ a ↔ k ∈ b) → a = b
  | [], [], _, _, _ => rfl
  | [], y :: b, _, _, h => absurd ((h y).mpr List.mem_cons_self) (by simp)
  | x :: a, [], _, _, h => absurd ((h x).mp List.mem_cons_self) (by simp)
  | x :: a, y :: b, ha, hb, h => by
    obtain ⟨a1, a2⟩ := List.pairwise_cons.mp ha
    obtain ⟨b1, b2⟩ := List.pairwise_cons.mp hb
    have e : x = y := by
      rcases List.mem_cons.mp ((h x).mp List.mem_cons_self) with e | e
      · exact e
      · rcases List.mem_cons.mp ((h y).mpr List.mem_cons_self) with e' | e'
        · exact e'.symm
        · have := a1 y e'
          have := b1 x e
          omega
    subst e
    rw [rising_uniq a2 b2 fun k => ?_]
    constructor
    · intro hk
      rcases List.mem_cons.mp ((h k).mp (List.mem_cons_of_mem _ hk)) with e | e
      · have := a1 k hk
        omega
      · exact e
    · intro hk
      rcases List.mem_cons.mp ((h k).mpr (List.mem_cons_of_mem _ hk)) with e | e
      · have := b1 k hk
        omega
      · exact e
end
end RZ

namespace Bs
open PySem PySem.Spec PyProof.Rows L2
open Evl (Ex)
/-! ### spans of two orders: the mathematics -/
def Pair2 (rows : List (List Int)) : Prop := ∀ r ∈ rows, ∃ a b : Int, r = [a, b] ∧ 1 ≤ a ∧ a ≤ 1000 ∧ 1 ≤ b ∧ b ≤ 1000
theorem Pair2.at {rows : List (List Int)} (h : Pair2 rows) {x : Int} (a : 0 ≤ x) (b : x < rows.length) : ∃ u v : Int, rows[x.toNat]? = some [u, v] ∧ one_ rows x = u ∧ two_ rows x = v ∧ 1 ≤ u ∧ u ≤ 1000 ∧ 1 ≤ v ∧ v ≤ 1000 := by
  have hlt : x.toNat < rows.length := by omega
  obtain ⟨u, v, e, h⟩ := h _ (List.getElem_mem hlt)
  have e2 : rows[x.toNat]? = some [u, v] := by rw [List.getElem?_eq_getElem hlt, e]
  refine ⟨u, v, e2, ?_, ?_, h⟩
  · unfold one_
    rw [show rows.getD x.toNat [] = [u, v] by rw [List.getD_eq_getElem?_getD, e2]; rfl]
    rfl
  · unfold two_
    rw [show rows.getD x.toNat [] = [u, v] by rw [List.getD_eq_getElem?_getD, e2]; rfl]
    rfl
def rdyL (rows : List (List Int)) : List Int → Int → Int → Int
  | [], _, _ => 0
  | y :: o, h, x => if y = x then h + one_ rows y else rdyL rows o (h + one_ rows y) x
def sumOf (f : Int → Int) (l : List Int) : Int := (l.map f).sum
theorem sumOf_cons (f : Int → Int) (x : Int) (l : List Int) : sumOf f (x :: l) = f x + sumOf f l := by
  unfold sumOf
  rw [List.map_cons, List.sum_cons]
theorem sumOf_append (f : Int → Int) (l m : List Int) : sumOf f (l ++ m) = sumOf f l + sumOf f m := by
  unfold sumOf
  rw [List.map_append, List.sum_append]
theorem rdyL_at (rows : List (List Int)) : ∀ (p : List Int) (y : Int) (r : List Int) (h : Int), y ∉ p → rdyL rows (p ++ y :: r) h y = h + sumOf (one_ rows) p + one_ rows y
  | [], y, r, h, _ => by
    show (if y = y then _ else _) = _
    rw [if_pos rfl]
    unfold sumOf
    simp
  | z :: p, y, r, h, n => by
    have n1 : ¬ z = y := fun e => n (by rw [e]; exact List.mem_cons_self)
    show (if z = y then _ else rdyL rows (p ++ y :: r) (h + one_ rows z) y) = _
    rw [if_neg n1, rdyL_at rows p y r _ fun m => n (List.mem_cons_of_mem _ m), sumOf_cons]
    omega
def rdy (rows : List (List Int)) (o : List Int) (x : Int) : Int := rdyL rows o 0 x
theorem rdy_get {rows : List (List Int)} {o : List Int} (nd : o.Nodup) {i : Nat} {x : Int} (h : o[i]? = some x) : rdy rows o x = sumOf (one_ rows) (o.take i) + one_ rows x := by
  obtain ⟨hi, e⟩ := List.getElem?_eq_some_iff.mp h
  have hx : x ∉ o.take i := nodup_at nd h
  have s : o = o.take i ++ x :: o.drop (i + 1) := by
    rw [← e, ← List.drop_eq_getElem_cons hi, List.take_append_drop]
  have := rdyL_at rows (o.take i) x (o.drop (i + 1)) 0 hx
  rw [← s] at this
  unfold rdy
  rw [this]
  omega
theorem sumOf_nn {f : Int → Int} : ∀ {l : List Int}, (∀ x ∈ l, 0 ≤ f x) → 0 ≤ sumOf f l
  | [], _ => by unfold sumOf; simp
  | x :: l, h => by
    have := sumOf_nn fun y hy => h y (List.mem_cons_of_mem x hy)
    have := h x List.mem_cons_self
    rw [sumOf_cons]
    omega
/-- the dict of the hours at which rows are ready -/
def Rdy (kvs : List (L2.Key × V)) (rows : List (List Int)) (o : List Int) (i : Nat) : Prop := (∀ x ∈ o.take i, valV kvs (Sum.inl x) = some (.int (rdy rows o x))) ∧ kvs.length ≤ i
theorem Rdy.nil (rows : List (List Int)) (o : List Int) : Rdy [] rows o 0 := ⟨(fun x h => by simp at h), Nat.le_refl _⟩
theorem put_len {κ : Type} [DecidableEq κ] (kvs : List (κ × V)) (k : κ) (v : V) : (putK kvs k v).length ≤ kvs.length + 1 := by
  unfold putK
  split
  · rw [List.length_map]
    omega
  · rw [List.length_append]
    exact Nat.le_refl _
theorem Rdy.put {kvs : List (L2.Key × V)} {rows : List (List Int)} {o : List Int} {i : Nat} (h : Rdy kvs rows o i) (nd : o.Nodup) {x : Int} (hx : o[i]? = some x) : Rdy (putK kvs (Sum.inl x) (.int (sumOf (one_ rows) (o.take i) + one_ rows x))) rows o (i + 1) := by
  refine ⟨fun y hy => ?_, Nat.le_trans (put_len _ _ _) (Nat.succ_le_succ h.2)⟩
  rw [take_snoc hx] at hy
  rw [valV_put]
  by_cases c : y = x
  · subst c
    rw [if_pos rfl, rdy_get nd hx]
  · rw [if_neg fun e => c (Sum.inl.inj e)]
    rcases List.mem_append.mp hy with e | e
    · exact h.1 y e
    · exact absurd (List.mem_singleton.mp e) c
theorem Rdy.all {kvs : List (L2.Key × V)} {rows : List (List Int)} {o : List Int} (h : Rdy kvs rows o o.length) {x : Int} (m : x ∈ o) : valV kvs (Sum.inl x) = some (.int (rdy rows o x)) := h.1 x (by rw [List.take_length]; exact m)
/-- the end, by going along; the greatest of what must come behind -/
def endL (rows : List (List Int)) (o : List Int) (e : Int) (t : List Int) : Int := t.foldl (fun e n => max e (rdy rows o n) + two_ rows n) e
def fnd (rows : List (List Int)) (o : List Int) : Int → List Int → Int
  | m, [] => m
  | m, n :: t => fnd rows o (max m (rdy rows o n + sumOf (two_ rows) (n :: t))) t
theorem endL_fnd (rows : List (List Int)) (o : List Int) : ∀ (t : List Int) (e : Int), endL rows o e t = fnd rows o (e + sumOf (two_ rows) t) t
  | [], e => by
    show e = e + _
    unfold sumOf
    simp
  | n :: t, e => by
    show endL rows o (max e (rdy rows o n) + two_ rows n) t = fnd rows o (max (e + sumOf (two_ rows) (n :: t)) (rdy rows o n + sumOf (two_ rows) (n :: t))) t
    rw [endL_fnd rows o t]
    refine congrArg (fun z => fnd rows o z t) ?_
    rw [sumOf_cons]
    omega
theorem end_is {rows : List (List Int)} {o t : List Int} (r0 : ∀ x ∈ t, 0 ≤ rdy rows o x) (w0 : ∀ x ∈ t, 0 ≤ two_ rows x) : endL rows o 0 t = fnd rows o 0 t := by
  rw [endL_fnd]
  cases t with
  | nil => rfl
  | cons n t =>
    show fnd rows o (max _ _) t = fnd rows o (max _ _) t
    refine congrArg (fun z => fnd rows o z t) ?_
    have := r0 n List.mem_cons_self
    have := sumOf_nn w0
    omega
theorem drop_get {o : List Int} {i : Nat} {x : Int} (h : o[i]? = some x) : o.drop i = x :: o.drop (i + 1) := by
  obtain ⟨hi, e⟩ := List.getElem?_eq_some_iff.mp h
  rw [List.drop_eq_getElem_cons hi, e]
theorem pick_perm {α : Type} : ∀ {l : List α} {k : Nat} {x : α}, l[k]? = some x → (x :: l.eraseIdx k).Perm l
  | [], _, _, h => by simp at h
  | y :: l, 0, x, h => by
    have := Option.some.inj h
    subst this
    exact List.Perm.refl _
  | y :: l, k + 1, x, h => (List.Perm.swap y x _).trans ((pick_perm (l := l) (k := k) h).cons y)
theorem erase_map {α β : Type} (f : α → β) : ∀ (l : List α) (k : Nat), (l.map f).eraseIdx k = (l.eraseIdx k).map f
  | [], _ => rfl
  | _ :: _, 0 => rfl
  | x :: l, k + 1 => congrArg (f x :: ·) (erase_map f l k)
theorem IsOrder.pop {l r : List Int} {n : Nat} (h : IsOrder (l ++ r) n) {k : Nat} {x : Int} (hx : r[k]? = some x) : IsOrder ((l ++ [x]) ++ r.eraseIdx k) n := by
  unfold IsOrder at h ⊢
  refine List.Perm.trans ?_ h
  rw [List.append_assoc]
  exact List.Perm.append_left l (pick_perm hx)
theorem row_at {H : Hp} {xs : List V} {rows : List (List Int)} {x : Int} (ts : Ts H xs rows) (ok : Pair2 rows) (x0 : 0 ≤ x) (x1 : x < rows.length) : ∃ t, atI xs x = some (.ref t) ∧ H t = some (.tup [.int (one_ rows x), .int (two_ rows x)]) ∧ 1 ≤ one_ rows x ∧ one_ rows x ≤ 1000 ∧ 1 ≤ two_ rows x ∧ two_ rows x ≤ 1000 := by
  obtain ⟨u, v, e, rfl, rfl, h⟩ := ok.at x0 x1
  obtain ⟨t, e2, ht⟩ := ts.get' e
  obtain ⟨k, rfl⟩ : ∃ k : Nat, x = (k : Int) := ⟨_, (Int.toNat_of_nonneg x0).symm⟩
  exact ⟨t, atI_nat (by rw [Int.toNat_natCast] at e2; exact e2), ht, h⟩
theorem map_get {l : List Int} {i : Nat} {x : V} (h : (l.map V.int)[i]? = some x) : ∃ n, l[i]? = some n ∧ x = .int n := by
  rw [List.getElem?_map] at h
  cases e : l[i]? with
  | none => rw [e] at h; cases h
  | some n => rw [e] at h; exact ⟨n, rfl, (Option.some.inj h).symm⟩
theorem sumOf_snoc {f : Int → Int} {l : List Int} {i : Nat} {x : Int} (h : l[i]? = some x) : sumOf f (l.take (i + 1)) = sumOf f (l.take i) + f x := by
  rw [take_snoc h, sumOf_append]
  unfold sumOf
  simp
theorem endL_snoc {rows : List (List Int)} {o l : List Int} {e : Int} {i : Nat} {x : Int} (h : l[i]? = some x) : endL rows o e (l.take (i + 1)) = max (endL rows o e (l.take i)) (rdy rows o x) + two_ rows x := by
  unfold endL
  rw [take_snoc h, List.foldl_append]
  rfl
theorem Pair2.nn {rows : List (List Int)} (ok : Pair2 rows) {x : Int} (h : 0 ≤ x ∧ x < rows.length) : 1 ≤ one_ rows x ∧ 1 ≤ two_ rows x := by
  obtain ⟨u, v, _, rfl, rfl, a, _, b, _⟩ := ok.at h.1 h.2
  exact ⟨a, b⟩
theorem two_nn {rows : List (List Int)} (ok : Pair2 rows) {x : Int} (h : 0 ≤ x ∧ x < rows.length) : 0 ≤ two_ rows x := by
  have := (ok.nn h).2
  omega
theorem rdy_nn {rows : List (List Int)} {o : List Int} (ok : Pair2 rows) (io : IsOrder o rows.length) {x : Int} (h : 0 ≤ x ∧ x < rows.length) : 0 ≤ rdy rows o x := by
  obtain ⟨i, hi⟩ := List.mem_iff_getElem?.mp (io.all h.1 h.2)
  rw [rdy_get io.nodup hi]
  have := (ok.nn h).1
  have : 0 ≤ sumOf (one_ rows) (o.take i) := sumOf_nn fun y hy => by
    have := (ok.nn (io.bd (List.mem_of_mem_take hy))).1
    omega
  omega
theorem lay_ints (ns : List Int) : PyData.canLay0 (.list (ns.map .int)) = true ∧ PyData.depth (.list (ns.map .int)) ≤ 10 :=
  ⟨show PyData.canLayAll0 (ns.map .int) = true from sh_ints, show PyData.depthAll (ns.map .int) + 1 ≤ 10 by rw [dp_ints]; omega⟩
theorem lay_ts (rows : List (List Int)) : PyData.canLay0 (.list (rows.map fun ns => .tuple (ns.map .int))) = true ∧ PyData.depth (.list (rows.map fun ns => .tuple (ns.map .int))) ≤ 10 := by
  constructor
  · have := shaped_ts rows
    unfold SeqAt.shaped at this
    rw [Bool.and_eq_true] at this
    exact this.1
  · have : PyData.depthAll (rows.map fun ns => PyData.tuple (ns.map .int)) ≤ 1 := by
      induction rows with
      | nil => exact Nat.zero_le _
      | cons r rs ih =>
        show max (PyData.depthAll (r.map .int) + 1) (PyData.depthAll (rs.map fun ns => PyData.tuple (ns.map .int))) ≤ 1
        rw [dp_ints]
        omega
    show PyData.depthAll _ + 1 ≤ 10
    omega
theorem shaped3 {a b c : PyData} (ha : PyData.canLay0 a = true ∧ PyData.depth a ≤ 10) (hb : PyData.canLay0 b = true ∧ PyData.depth b ≤ 10) (hc : PyData.canLay0 c = true ∧ PyData.depth c ≤ 10) : SeqAt.shaped (.list [a, b, c]) = true := by
  unfold SeqAt.shaped
  rw [show PyData.canLay0 (.list [a, b, c]) = (PyData.canLay0 a && (PyData.canLay0 b && (PyData.canLay0 c && true))) from rfl, ha.1, hb.1, hc.1]
  exact decide_eq_true (show max (PyData.depth a) (max (PyData.depth b) (max (PyData.depth c) 0)) + 1 ≤ 64 by have := ha.2; have := hb.2; have := hc.2; omega)
end Bs

namespace Bs
open PySem PySem.Spec PyProof.Rows L2
open Evl (Ex)
/-! ### what sets of rows show: the mathematics -/
theorem sumOf_perm {f : Int → Int} {l m : List Int} (h : l.Perm m) : sumOf f l = sumOf f m := by
  induction h with
  | nil => rfl
  | cons x _ ih => rw [sumOf_cons, sumOf_cons, ih]
  | swap x y l =>
    rw [sumOf_cons, sumOf_cons, sumOf_cons, sumOf_cons]
    omega
  | trans _ _ a b => rw [a, b]
theorem sumOf_le {f g : Int → Int} : ∀ {l : List Int}, (∀ x ∈ l, f x ≤ g x) → sumOf f l ≤ sumOf g l
  | [], _ => Int.le_refl _
  | x :: l, h => by
    have := sumOf_le fun y hy => h y (List.mem_cons_of_mem x hy)
    have := h x List.mem_cons_self
    rw [sumOf_cons, sumOf_cons]
    omega
/-- a part's sum -/
theorem sumOf_sub {f : Int → Int} : ∀ {l m : List Int}, l.Nodup → (∀ x ∈ l, x ∈ m) → (∀ x ∈ m, 0 ≤ f x) → sumOf f l ≤ sumOf f m
  | [], m, _, _, nn => by
    have := sumOf_nn nn
    exact this
  | x :: l, m, nd, sub, nn => by
    obtain ⟨a, b, rfl⟩ := List.append_of_mem (sub x List.mem_cons_self)
    have nd' := List.nodup_cons.mp nd
    have := sumOf_sub (l := l) (m := a ++ b) nd'.2 (fun y hy => by
      have := sub y (List.mem_cons_of_mem _ hy)
      rw [List.mem_append, List.mem_cons] at this
      rw [List.mem_append]
      rcases this with e | e | e
      · exact .inl e
      · subst e
        exact absurd hy nd'.1
      · exact .inr e) (fun y hy => nn y (by
        rw [List.mem_append] at hy
        rw [List.mem_append, List.mem_cons]
        rcases hy with e | e
        · exact .inl e
        · exact .inr (.inr e)))
    rw [sumOf_cons, sumOf_append, sumOf_cons]
    rw [sumOf_append] at this
    omega
/-- the greatest of what must come behind is at least each -/
theorem fnd_le {rows : List (List Int)} {o : List Int} : ∀ (t : List Int) (m : Int), m ≤ fnd rows o m t
  | [], m => Int.le_refl m
  | n :: t, m => by
    have := fnd_le (rows := rows) (o := o) t (max m (rdy rows o n + sumOf (two_ rows) (n :: t)))
    show m ≤ fnd rows o (max m (rdy rows o n + sumOf (two_ rows) (n :: t))) t
    omega
theorem fnd_at {rows : List (List Int)} {o : List Int} : ∀ {t : List Int} {m : Int} {q : Nat} {x : Int}, t[q]? = some x → rdy rows o x + sumOf (two_ rows) (t.drop q) ≤ fnd rows o m t
  | [], _, _, _, h => by simp at h
  | n :: t, m, 0, x, h => by
    have := Option.some.inj h
    subst this
    have := fnd_le (rows := rows) (o := o) t (max m (rdy rows o n + sumOf (two_ rows) (n :: t)))
    show rdy rows o n + sumOf (two_ rows) (n :: t) ≤ fnd rows o (max m (rdy rows o n + sumOf (two_ rows) (n :: t))) t
    omega
  | n :: t, m, q + 1, x, h => fnd_at (t := t) (q := q) h
/-- and is one of these, or what it began with -/
theorem fnd_one {rows : List (List Int)} {o : List Int} : ∀ (t : List Int) (m : Int), fnd rows o m t = m ∨ ∃ (q : Nat) (x : Int), t[q]? = some x ∧ fnd rows o m t = rdy rows o x + sumOf (two_ rows) (t.drop q)
  | [], m => .inl rfl
  | n :: t, m => by
    show fnd rows o (max m (rdy rows o n + sumOf (two_ rows) (n :: t))) t = m ∨ _
    rcases fnd_one (rows := rows) (o := o) t (max m (rdy rows o n + sumOf (two_ rows) (n :: t))) with e | ⟨q, x, a, b⟩
    · by_cases c : rdy rows o n + sumOf (two_ rows) (n :: t) ≤ m
      · exact .inl (by omega)
      · exact .inr ⟨0, n, rfl, by
          show fnd rows o (max m (rdy rows o n + sumOf (two_ rows) (n :: t))) t = rdy rows o n + sumOf (two_ rows) (n :: t)
          omega⟩
    · exact .inr ⟨q + 1, x, a, b⟩
section
variable {rows : List (List Int)} {one two : List Int}
/-- no span is less, from the front -/
theorem span_front (ok : Pair2 rows) (io : IsOrder one rows.length) (it : IsOrder two rows.length) {p : Nat} {f : Int} (hf : two[p]? = some f) :
    sumOf (one_ rows) (two.take p) + one_ rows f + sumOf (two_ rows) (two.drop p) ≤ fnd rows one 0 two := by
  -- the one of the first p + 1 that is ready last
  have nn1 : ∀ x ∈ one, 0 ≤ one_ rows x := fun x hx => by
    have := (ok.nn (io.bd hx)).1
    omega
  have nn2 : ∀ x ∈ two, 0 ≤ two_ rows x := fun x hx => two_nn ok (it.bd hx)
  have hp := (List.getElem?_eq_some_iff.mp hf).1
  have key : ∀ k, k ≤ p → ∃ (q i : Nat) (x : Int), q ≤ k ∧ two[q]? = some x ∧ one[i]? = some x ∧ ∀ y ∈ two.take (k + 1), y ∈ one.take (i + 1) := by
    intro k
    induction k with
    | zero =>
      intro _
      obtain ⟨x, hx⟩ : ∃ x, two[0]? = some x := ⟨_, List.getElem?_eq_getElem (by omega)⟩
      have mx := it.bd (List.mem_of_getElem? hx)
      obtain ⟨i, hi⟩ := List.mem_iff_getElem?.mp (io.all mx.1 mx.2)
      refine ⟨0, i, x, Nat.le_refl _, hx, hi, fun y hy => ?_⟩
      rw [take_snoc hx] at hy
      have : y = x := by simpa using hy
      subst this
      rw [take_snoc hi]
      exact List.mem_append_right _ List.mem_cons_self
    | succ k ih =>
      intro hk
      obtain ⟨q, i, x, q1, hx, hi, all⟩ := ih (by omega)
      obtain ⟨z, hz⟩ : ∃ z, two[k + 1]? = some z := ⟨_, List.getElem?_eq_getElem (by omega)⟩
      have mz := it.bd (List.mem_of_getElem? hz)
      obtain ⟨j, hj⟩ := List.mem_iff_getElem?.mp (io.all mz.1 mz.2)
      by_cases c : i ≤ j
      · refine ⟨k + 1, j, z, Nat.le_refl _, hz, hj, fun y hy => ?_⟩
        rw [take_snoc hz] at hy
        rcases List.mem_append.mp hy with e | e
        · exact (List.take_subset_take_left one (by omega)) (all y e)
        · rw [List.mem_singleton.mp e, take_snoc hj]
          exact List.mem_append_right _ List.mem_cons_self
      · refine ⟨q, i, x, by omega, hx, hi, fun y hy => ?_⟩
        rw [take_snoc hz] at hy
        rcases List.mem_append.mp hy with e | e
        · exact all y e
        · rw [List.mem_singleton.mp e]
          have : z ∈ one.take (j + 1) := by
            rw [take_snoc hj]
            exact List.mem_append_right _ List.mem_cons_self
          exact (List.take_subset_take_left one (by omega)) this
  obtain ⟨q, i, x, q1, hx, hi, all⟩ := key p (Nat.le_refl _)
  have a := fnd_at (rows := rows) (o := one) (m := 0) hx
  have b := rdy_get (rows := rows) io.nodup hi
  have c : sumOf (one_ rows) (two.take (p + 1)) ≤ sumOf (one_ rows) (one.take (i + 1)) := sumOf_sub (it.nodup.sublist (List.take_sublist _ _)) all fun y hy => nn1 y (List.mem_of_mem_take hy)
  rw [sumOf_snoc hf, sumOf_snoc hi] at c
  have d : sumOf (two_ rows) (two.drop p) ≤ sumOf (two_ rows) (two.drop q) := by
    refine sumOf_sub (it.nodup.sublist (List.drop_sublist _ _)) (fun y hy => ?_) fun y hy => nn2 y (List.mem_of_mem_drop hy)
    rw [show p = (p - q) + q by omega, ← List.drop_drop] at hy
    exact List.mem_of_mem_drop (by rw [List.drop_drop] at hy ⊢; rw [Nat.add_comm]; exact hy)
  omega
/-- and from the back -/
theorem span_back (ok : Pair2 rows) (io : IsOrder one rows.length) (it : IsOrder two rows.length) {p : Nat} {f : Int} (hf : one[p]? = some f) :
    sumOf (one_ rows) (one.take (p + 1)) + sumOf (two_ rows) (one.drop p) ≤ fnd rows one 0 two := by
  have nn1 : ∀ x ∈ one, 0 ≤ one_ rows x := fun x hx => by
    have := (ok.nn (io.bd hx)).1
    omega
  have nn2 : ∀ x ∈ two, 0 ≤ two_ rows x := fun x hx => two_nn ok (it.bd hx)
  have hp := (List.getElem?_eq_some_iff.mp hf).1
  -- the one of those behind that is first on the second machine
  have key : ∀ k, p + k < one.length → ∃ (q i : Nat) (x : Int), p ≤ i ∧ two[q]? = some x ∧ one[i]? = some x ∧ ∀ y ∈ (one.drop p).take (k + 1), y ∈ two.drop q := by
    intro k
    induction k with
    | zero =>
      intro _
      have mx := io.bd (List.mem_of_getElem? hf)
      obtain ⟨q, hq⟩ := List.mem_iff_getElem?.mp (it.all mx.1 mx.2)
      refine ⟨q, p, f, Nat.le_refl _, hq, hf, fun y hy => ?_⟩
      have h0 : (one.drop p)[0]? = some f := by rw [List.getElem?_drop]; exact hf
      rw [take_snoc h0] at hy
      have : y = f := by simpa using hy
      subst this
      rw [drop_get hq]
      exact List.mem_cons_self
    | succ k ih =>
      intro hk
      obtain ⟨q, i, x, i1, hx, hi, all⟩ := ih (by omega)
      obtain ⟨z, hz⟩ : ∃ z, one[p + (k + 1)]? = some z := ⟨_, List.getElem?_eq_getElem hk⟩
      have hz' : (one.drop p)[k + 1]? = some z := by rw [List.getElem?_drop]; exact hz
      have mz := io.bd (List.mem_of_getElem? hz)
      obtain ⟨j, hj⟩ := List.mem_iff_getElem?.mp (it.all mz.1 mz.2)
      have inD : ∀ {u v : Nat} {y : Int}, u ≤ v → y ∈ two.drop v → y ∈ two.drop u := fun {u v y} h m => by
        rw [show v = u + (v - u) by omega, ← List.drop_drop] at m
        exact List.mem_of_mem_drop m
      by_cases c : j ≤ q
      · refine ⟨j, p + (k + 1), z, by omega, hj, hz, fun y hy => ?_⟩
        rw [take_snoc hz'] at hy
        rcases List.mem_append.mp hy with e | e
        · exact inD c (all y e)
        · rw [List.mem_singleton.mp e, drop_get hj]
          exact List.mem_cons_self
      · refine ⟨q, i, x, i1, hx, hi, fun y hy => ?_⟩
        rw [take_snoc hz'] at hy
        rcases List.mem_append.mp hy with e | e
        · exact all y e
        · rw [List.mem_singleton.mp e]
          have : z ∈ two.drop j := by
            rw [drop_get hj]
            exact List.mem_cons_self
          exact inD (by omega) this
  obtain ⟨q, i, x, i1, hx, hi, all⟩ := key (one.length - p - 1) (by omega)
  rw [List.take_of_length_le (by rw [List.length_drop]; omega)] at all
  have a := fnd_at (rows := rows) (o := one) (m := 0) hx
  have b := rdy_get (rows := rows) io.nodup hi
  have c : sumOf (one_ rows) (one.take (p + 1)) ≤ sumOf (one_ rows) (one.take (i + 1)) := sumOf_sub (io.nodup.sublist (List.take_sublist _ _)) (fun y hy => (List.take_subset_take_left one (by omega)) hy) fun y hy => nn1 y (List.mem_of_mem_take hy)
  rw [sumOf_snoc hi] at c
  have d : sumOf (two_ rows) (one.drop p) ≤ sumOf (two_ rows) (two.drop q) := sumOf_sub (io.nodup.sublist (List.drop_sublist _ _)) all fun y hy => nn2 y (List.mem_of_mem_drop hy)
  omega
end
/-! ### the sums -/
def wF (rows : List (List Int)) (front : Bool) (S : List Int) (x : Int) : Int := if x ∈ S then (if front = true then two_ rows x else one_ rows x) else min (one_ rows x) (two_ rows x)
def mF (rows : List (List Int)) (front : Bool) (x : Int) : Int := if front = true then one_ rows x else two_ rows x
def kF (rows : List (List Int)) (front : Bool) (x : Int) : Int := if front = true then two_ rows x else one_ rows x
def nF (rows : List (List Int)) (x : Int) : Int := min (one_ rows x) (two_ rows x)
structure SetOk (S : List Int) (n : Nat) : Prop where
  ne : S ≠ []
  up : S.Pairwise (· < ·)
  bd : ∀ x ∈ S, 0 ≤ x ∧ x < n
def IsBnd (rows : List (List Int)) (front : Bool) (S : List Int) (v : Int) : Prop := ∃ m, (∃ x ∈ S, mF rows front x = m) ∧ (∀ x ∈ S, m ≤ mF rows front x) ∧ v = sumOf (wF rows front S) (Bs.upTo rows.length) + m
theorem IsBnd.uniq {rows : List (List Int)} {front : Bool} {S : List Int} {v u : Int} (h : IsBnd rows front S v) (k : IsBnd rows front S u) : v = u := by
  obtain ⟨m, ⟨x, hx, rfl⟩, a, rfl⟩ := h
  obtain ⟨n, ⟨y, hy, rfl⟩, b, rfl⟩ := k
  have := a y hy
  have := b x hx
  omega
theorem first_in {P : Int → Prop} [DecidablePred P] : ∀ {l : List Int}, (∃ x ∈ l, P x) → ∃ (p : Nat) (x : Int), l[p]? = some x ∧ P x ∧ ∀ y ∈ l.take p, ¬ P y
  | [], h => by
    obtain ⟨_, h, _⟩ := h
    cases h
  | z :: l, h => by
    by_cases c : P z
    · exact ⟨0, z, rfl, c, fun y hy => by simp at hy⟩
    · obtain ⟨x, hx, hp⟩ := h
      have : x ∈ l := by
        rcases List.mem_cons.mp hx with e | e
        · subst e
          exact absurd hp c
        · exact e
      obtain ⟨p, y, a, b, d⟩ := first_in ⟨x, this, hp⟩
      refine ⟨p + 1, y, a, b, fun u hu => ?_⟩
      rw [List.take_succ_cons] at hu
      rcases List.mem_cons.mp hu with e | e
      · rw [e]
        exact c
      · exact d u e
theorem last_in {P : Int → Prop} [DecidablePred P] : ∀ {l : List Int}, (∃ x ∈ l, P x) → ∃ (p : Nat) (x : Int), l[p]? = some x ∧ P x ∧ ∀ y ∈ l.drop (p + 1), ¬ P y
  | [], h => by
    obtain ⟨_, h, _⟩ := h
    cases h
  | z :: l, h => by
    by_cases c : ∃ x ∈ l, P x
    · obtain ⟨p, y, a, b, d⟩ := last_in c
      exact ⟨p + 1, y, a, b, d⟩
    · obtain ⟨x, hx, hp⟩ := h
      rcases List.mem_cons.mp hx with e | e
      · subst e
        exact ⟨0, x, rfl, hp, fun y hy hy2 => c ⟨y, hy, hy2⟩⟩
      · exact absurd ⟨x, e, hp⟩ c
theorem bnd_le {rows : List (List Int)} {one two S : List Int} {front : Bool} {v : Int} (ok : Pair2 rows) (io : IsOrder one rows.length) (it : IsOrder two rows.length) (so : SetOk S rows.length) (h : IsBnd rows front S v) : v ≤ fnd rows one 0 two := by
  obtain ⟨m, _, hm, rfl⟩ := h
  obtain ⟨s0, hs0⟩ := List.exists_mem_of_ne_nil S so.ne
  have sb := so.bd s0 hs0
  cases front with
  | true =>
    obtain ⟨p, f, hf, fs, before⟩ := first_in (P := fun x => x ∈ S) (l := two) ⟨s0, it.all sb.1 sb.2, hs0⟩
    have a := span_front ok io it hf
    have e : sumOf (wF rows true S) two = sumOf (wF rows true S) (two.take p) + sumOf (wF rows true S) (two.drop p) := by rw [← sumOf_append, List.take_append_drop]
    rw [← sumOf_perm it, e]
    have b : sumOf (wF rows true S) (two.take p) ≤ sumOf (one_ rows) (two.take p) := sumOf_le fun x hx => by
      unfold wF
      rw [if_neg (before x hx)]
      omega
    have c : sumOf (wF rows true S) (two.drop p) ≤ sumOf (two_ rows) (two.drop p) := sumOf_le fun x hx => by
      unfold wF
      split
      · exact Int.le_refl _
      · omega
    have d := hm f fs
    unfold mF at d
    rw [if_pos rfl] at d
    omega
  | false =>
    obtain ⟨p, f, hf, fs, behind⟩ := last_in (P := fun x => x ∈ S) (l := one) ⟨s0, io.all sb.1 sb.2, hs0⟩
    have a := span_back ok io it hf
    have e : sumOf (wF rows false S) one = sumOf (wF rows false S) (one.take (p + 1)) + sumOf (wF rows false S) (one.drop (p + 1)) := by rw [← sumOf_append, List.take_append_drop]
    rw [← sumOf_perm io, e]
    rw [drop_get hf, sumOf_cons] at a
    have b : sumOf (wF rows false S) (one.take (p + 1)) ≤ sumOf (one_ rows) (one.take (p + 1)) := sumOf_le fun x hx => by
      unfold wF
      split
      · exact Int.le_refl _
      · omega
    have c : sumOf (wF rows false S) (one.drop (p + 1)) ≤ sumOf (two_ rows) (one.drop (p + 1)) := sumOf_le fun x hx => by
      unfold wF
      rw [if_neg (behind x hx)]
      omega
    have d := hm f fs
    unfold mF at d
    rw [if_neg Bool.false_ne_true] at d
    omega
theorem split_sum (rows : List (List Int)) (front : Bool) (S : List Int) : ∀ l : List Int, sumOf (wF rows front S) l = sumOf (nF rows) (l.filter fun x => !decide (x ∈ S)) + sumOf (kF rows front) (l.filter fun x => decide (x ∈ S))
  | [] => rfl
  | x :: l => by
    rw [sumOf_cons, split_sum rows front S l]
    by_cases h : x ∈ S
    · rw [List.filter_cons_of_neg (by simp [h]), List.filter_cons_of_pos (by simp [h]), sumOf_cons]
      unfold wF kF
      rw [if_pos h]
      omega
    · rw [List.filter_cons_of_pos (by simp [h]), List.filter_cons_of_neg (by simp [h]), sumOf_cons]
      unfold wF nF
      rw [if_neg h]
      omega
theorem kF_nn {rows : List (List Int)} (ok : Pair2 rows) (front : Bool) {x : Int} (h : 0 ≤ x ∧ x < rows.length) : 0 ≤ kF rows front x := by
  have := ok.nn h
  unfold kF
  split <;> omega
theorem part_sum {rows : List (List Int)} {S : List Int} (ok : Pair2 rows) (front : Bool) (so : SetOk S rows.length) : sumOf (kF rows front) ((Bs.upTo rows.length).filter fun x => decide (x ∈ S)) = sumOf (kF rows front) S := by
  have nd : S.Nodup := so.up.imp fun {a b} h => by omega
  have a : sumOf (kF rows front) ((Bs.upTo rows.length).filter fun x => decide (x ∈ S)) ≤ sumOf (kF rows front) S := sumOf_sub ((upTo_nodup _).sublist List.filter_sublist) (fun x hx => of_decide_eq_true (List.mem_filter.mp hx).2) fun x hx => kF_nn ok front (so.bd x hx)
  have b : sumOf (kF rows front) S ≤ sumOf (kF rows front) ((Bs.upTo rows.length).filter fun x => decide (x ∈ S)) := sumOf_sub nd (fun x hx => List.mem_filter.mpr ⟨upTo_mem.mpr (so.bd x hx), decide_eq_true hx⟩) fun x hx => kF_nn ok front (upTo_mem.mp (List.mem_filter.mp hx).1)
  omega
theorem bnd_mk {rows : List (List Int)} {S : List Int} {front : Bool} {m : Int} (ok : Pair2 rows) (so : SetOk S rows.length) (hm : m ∈ S.map (mF rows front)) (le : ∀ y ∈ S.map (mF rows front), m ≤ y) :
    IsBnd rows front S (sumOf (nF rows) ((Bs.upTo rows.length).filter fun x => !decide (x ∈ S)) + (sumOf (kF rows front) S + m)) := by
  obtain ⟨x, hx, e⟩ := List.mem_map.mp hm
  refine ⟨m, ⟨x, hx, e⟩, fun y hy => le _ (List.mem_map.mpr ⟨y, hy, rfl⟩), ?_⟩
  rw [split_sum, part_sum ok front so]
  omega
def sideOf (front : Bool) : Str := if front = true then "front" else "back"
def rowAt (rows : List (List Int)) (x : Int) : List Int := [one_ rows x, two_ rows x]
theorem rows_at {rows : List (List Int)} (ok : Pair2 rows) {i : Nat} {ns : List Int} (h : rows[i]? = some ns) : ns = rowAt rows (i : Nat) := by
  have hi := (List.getElem?_eq_some_iff.mp h).1
  obtain ⟨u, v, e, rfl, rfl, _⟩ := ok.at (x := (i : Nat)) (by omega) (by omega)
  rw [Int.toNat_natCast, h] at e
  exact Option.some.inj e
theorem nodup_few : ∀ {l : List Int} {n : Nat}, l.Nodup → (∀ x ∈ l, 0 ≤ x ∧ x < n) → l.length ≤ n := fun {l n} nd h => len_le nd h
theorem set_few {S : List Int} {n : Nat} (so : SetOk S n) (h : n ≤ 30) : S.length ≤ 30 := Nat.le_trans (nodup_few (so.up.imp fun {a b} h => by omega) so.bd) h
theorem upTo_lt (n : Nat) : (Bs.upTo n).Pairwise (· < ·) := by
  unfold Bs.upTo
  rw [List.pairwise_map]
  exact List.pairwise_lt_range.imp fun {a b} h => by omega
theorem SetOk.of_sub {S : List Int} {n : Nat} (h : S.Sublist (Bs.upTo n)) (ne : S ≠ []) : SetOk S n := ⟨ne, (upTo_lt n).sublist h, fun x hx => upTo_mem.mp (h.subset hx)⟩
theorem SetOk.one {x : Int} {n : Nat} (a : 0 ≤ x) (b : x < n) : SetOk [x] n := ⟨fun z => (nomatch z), List.pairwise_singleton _ _, fun y hy => by
  rw [List.mem_singleton.mp hy]
  exact ⟨a, b⟩⟩
theorem SetOk.all {n : Nat} (h : 1 ≤ n) : SetOk (Bs.upTo n) n := SetOk.of_sub (List.Sublist.refl _) fun z => by
  have := congrArg List.length z
  rw [upTo_len] at this
  simp at this
  omega
end Bs

namespace Bs
open PySem PySem.Spec PyProof.Rows L2
open Evl (Ex)
/-! ### one machine: the mathematics -/
def Row4 (r : List Int) : Prop := ∃ l f b w : Int, r = [l, f, b, w] ∧ 1 ≤ l ∧ l ≤ 1000 ∧ 0 ≤ f ∧ f ≤ 1000000 ∧ 0 ≤ b ∧ b ≤ 1000000 ∧ 0 ≤ w ∧ w ≤ 1000
def Rows4 (rows : List (List Int)) : Prop := ∀ r ∈ rows, Row4 r
def cAt (rows : List (List Int)) (k : Nat) (x : Int) : Int := (rows.getD x.toNat []).getD k 0
abbrev len_ (rows : List (List Int)) : Int → Int := cAt rows 0
abbrev frm_ (rows : List (List Int)) : Int → Int := cAt rows 1
abbrev due_ (rows : List (List Int)) : Int → Int := cAt rows 2
abbrev wgt_ (rows : List (List Int)) : Int → Int := cAt rows 3
def row4 (rows : List (List Int)) (x : Int) : List Int := [len_ rows x, frm_ rows x, due_ rows x, wgt_ rows x]
theorem Rows4.at {rows : List (List Int)} (h : Rows4 rows) {x : Int} (a : 0 ≤ x) (b : x < rows.length) : rows[x.toNat]? = some (row4 rows x) ∧ 1 ≤ len_ rows x ∧ len_ rows x ≤ 1000 ∧ 0 ≤ frm_ rows x ∧ frm_ rows x ≤ 1000000 ∧ 0 ≤ due_ rows x ∧ due_ rows x ≤ 1000000 ∧ 0 ≤ wgt_ rows x ∧ wgt_ rows x ≤ 1000 := by
  have hlt : x.toNat < rows.length := by omega
  obtain ⟨l, f, d, w, e, h⟩ := h _ (List.getElem_mem hlt)
  have e2 : rows[x.toNat]? = some [l, f, d, w] := by rw [List.getElem?_eq_getElem hlt, e]
  have e3 : rows.getD x.toNat [] = [l, f, d, w] := by rw [List.getD_eq_getElem?_getD, e2]; rfl
  have c0 : len_ rows x = l := by show (rows.getD x.toNat []).getD 0 0 = l; rw [e3]; rfl
  have c1 : frm_ rows x = f := by show (rows.getD x.toNat []).getD 1 0 = f; rw [e3]; rfl
  have c2 : due_ rows x = d := by show (rows.getD x.toNat []).getD 2 0 = d; rw [e3]; rfl
  have c3 : wgt_ rows x = w := by show (rows.getD x.toNat []).getD 3 0 = w; rw [e3]; rfl
  unfold row4
  rw [c0, c1, c2, c3]
  exact ⟨e2, h⟩
theorem r4_at {H : Hp} {xs : List V} {rows : List (List Int)} {x : Int} (ts : Ts H xs rows) (ok : Rows4 rows) (x0 : 0 ≤ x) (x1 : x < rows.length) : ∃ t, atI xs x = some (.ref t) ∧ H t = some (.tup [.int (len_ rows x), .int (frm_ rows x), .int (due_ rows x), .int (wgt_ rows x)]) ∧ 1 ≤ len_ rows x ∧ len_ rows x ≤ 1000 ∧ 0 ≤ due_ rows x ∧ due_ rows x ≤ 1000000 := by
  obtain ⟨e, a, b, _, _, c, d, _⟩ := ok.at x0 x1
  obtain ⟨t, e2, ht⟩ := ts.get' e
  obtain ⟨k, rfl⟩ : ∃ k : Nat, x = (k : Int) := ⟨_, (Int.toNat_of_nonneg x0).symm⟩
  exact ⟨t, atI_nat (by rw [Int.toNat_natCast] at e2; exact e2), ht, a, b, c, d⟩
theorem rows4_is {rows : List (List Int)} (ok : Rows4 rows) {i : Nat} {ns : List Int} (h : rows[i]? = some ns) : ns = row4 rows (i : Nat) := by
  have hi := (List.getElem?_eq_some_iff.mp h).1
  obtain ⟨e, _⟩ := ok.at (x := (i : Nat)) (by omega) (by omega)
  rw [Int.toNat_natCast, h] at e
  exact Option.some.inj e
/-- sorted lists of lists of ints are one -/
theorem lex_eq : ∀ {p q : List Int}, HT.lexLt p q = false → HT.lexLt q p = false → p = q
  | [], [], _, _ => rfl
  | [], y :: q, h, _ => by rw [HT.lexLt_nil_cons] at h; cases h
  | x :: p, [], _, h => by rw [HT.lexLt_nil_cons] at h; cases h
  | x :: p, y :: q, h, k => by
    rw [HT.lexLt_cons] at h k
    by_cases e : x = y
    · subst e
      rw [if_pos rfl] at h k
      rw [lex_eq h k]
    · rw [if_neg e] at h
      rw [if_neg fun z => e z.symm] at k
      have a := of_decide_eq_false h
      have b := of_decide_eq_false k
      omega
abbrev Lex (l : List (List Int)) : Prop := l.Pairwise fun p q => HT.lexLt q p = false
theorem lex_uniq : ∀ {l m : List (List Int)}, Lex l → Lex m → l.Perm m → l = m
  | [], m, _, _, p => (List.Perm.eq_nil p.symm).symm
  | x :: l, [], _, _, p => absurd p.length_eq (by simp)
  | x :: l, y :: m, h, k, p => by
    have h1 := List.pairwise_cons.mp h
    have k1 := List.pairwise_cons.mp k
    have irr : ∀ z : List Int, HT.lexLt z z = false := fun z => (NtL.swo_lexL (α := List Int) id).refl z
    have a : HT.lexLt y x = false := by
      rcases List.mem_cons.mp (p.mem_iff.mpr (List.mem_cons_self (a := y) (l := m))) with e | e
      · rw [e]
        exact irr x
      · exact h1.1 y e
    have b : HT.lexLt x y = false := by
      rcases List.mem_cons.mp (p.mem_iff.mp (List.mem_cons_self (a := x) (l := l))) with e | e
      · rw [e]
        exact irr y
      · exact k1.1 x e
    obtain rfl := lex_eq b a
    rw [lex_uniq h1.2 k1.2 p.cons_inv]
/-- the order by a key, of like ones by number -/
def keyed (key : Int → Int) (l : List Int) : List (List Int) := l.map fun x => [key x, x]
def IsKey (key : Int → Int) (l o : List Int) : Prop := ∃ srt, srt.Perm (keyed key l) ∧ Lex srt ∧ o = srt.map fun p => p.getD 1 0
theorem IsKey.uniq {key : Int → Int} {l o o' : List Int} (h : IsKey key l o) (k : IsKey key l o') : o = o' := by
  obtain ⟨s, a, b, rfl⟩ := h
  obtain ⟨s', a', b', rfl⟩ := k
  rw [lex_uniq b b' (a.trans a'.symm)]
theorem IsKey.perm {key : Int → Int} {l o : List Int} (h : IsKey key l o) : o.Perm l := by
  obtain ⟨s, a, _, rfl⟩ := h
  have := a.map fun p : List Int => p.getD 1 0
  unfold keyed at this
  rw [List.map_map] at this
  refine this.trans ?_
  rw [show ((fun p : List Int => p.getD 1 0) ∘ fun x => [key x, x]) = id from rfl, List.map_id]
theorem IsKey.rising {key : Int → Int} {l o : List Int} (h : IsKey key l o) : o.Pairwise fun x y => key x ≤ key y := by
  obtain ⟨s, a, b, rfl⟩ := h
  refine List.pairwise_map.mpr (b.imp_of_mem fun {p q} hp hq h => ?_)
  obtain ⟨x, _, rfl⟩ := List.mem_map.mp (a.mem_iff.mp hp)
  obtain ⟨y, _, rfl⟩ := List.mem_map.mp (a.mem_iff.mp hq)
  show key x ≤ key y
  rw [HT.lexLt_cons] at h
  by_cases e : key y = key x
  · omega
  · rw [if_neg e] at h
    have := of_decide_eq_false h
    omega
/-- lateness of a list of rows, one behind the other -/
def latAt (rows : List (List Int)) (o : List Int) (i : Nat) (x : Int) : Int := sumOf (len_ rows) (o.take (i + 1)) - due_ rows x
def IsLate (rows : List (List Int)) (o : List Int) (L : Int) : Prop := (∃ (i : Nat) (x : Int), o[i]? = some x ∧ L = latAt rows o i x) ∧ ∀ (i : Nat) (x : Int), o[i]? = some x → latAt rows o i x ≤ L
theorem IsLate.uniq {rows : List (List Int)} {o : List Int} {L M : Int} (h : IsLate rows o L) (k : IsLate rows o M) : L = M := by
  obtain ⟨⟨i, x, a, rfl⟩, b⟩ := h
  obtain ⟨⟨j, y, c, rfl⟩, d⟩ := k
  have := b j y c
  have := d i x a
  omega
/-- the set that shows it: the rows to the first latest one -/
structure Shows (rows : List (List Int)) (S : List Int) (L : Int) : Prop where
  ne : S ≠ []
  nd : S.Nodup
  bd : ∀ x ∈ S, 0 ≤ x ∧ x < rows.length
  sum : ∃ m, (∃ x ∈ S, due_ rows x = m) ∧ (∀ x ∈ S, due_ rows x ≤ m) ∧ L = sumOf (len_ rows) S - m
/-- whichever list of rows has all of them, the one of them done last is that late -/
theorem Shows.last {rows : List (List Int)} {S o : List Int} {L : Int} (ok : Rows4 rows) (h : Shows rows S L) (ob : ∀ x ∈ o, 0 ≤ x ∧ x < rows.length) (sub : ∀ x ∈ S, x ∈ o) {i : Nat} {x : Int} (hx : o[i]? = some x) (xs : x ∈ S) (behind : ∀ y ∈ o.drop (i + 1), y ∉ S) : L ≤ latAt rows o i x := by
  obtain ⟨m, _, hm, rfl⟩ := h.sum
  have a := hm x xs
  have b : sumOf (len_ rows) S ≤ sumOf (len_ rows) (o.take (i + 1)) := by
    refine sumOf_sub h.nd (fun y hy => ?_) fun y hy => by
      have := ob y (List.mem_of_mem_take hy)
      have := (ok.at this.1 this.2).2.1
      omega
    have := sub y hy
    rw [← List.take_append_drop (i + 1) o] at this
    rcases List.mem_append.mp this with e | e
    · exact e
    · exact absurd hy (behind y e)
  unfold latAt
  omega
theorem Shows.le {rows : List (List Int)} {S o : List Int} {L M : Int} (ok : Rows4 rows) (h : Shows rows S L) (io : IsOrder o rows.length) (k : IsLate rows o M) : L ≤ M := by
  obtain ⟨s0, hs0⟩ := List.exists_mem_of_ne_nil S h.ne
  have sb := h.bd s0 hs0
  obtain ⟨p, x, hx, xs, behind⟩ := last_in (P := fun x => x ∈ S) (l := o) ⟨s0, io.all sb.1 sb.2, hs0⟩
  have a := h.last ok (fun y hy => io.bd hy) (fun y hy => io.all (h.bd y hy).1 (h.bd y hy).2) hx xs behind
  have b := k.2 p x hx
  omega
/-- the rows to the first latest one of the due order show its lateness -/
theorem due_shows {rows : List (List Int)} {o : List Int} {L : Int} (io : IsOrder o rows.length) (up : o.Pairwise fun x y => due_ rows x ≤ due_ rows y) {j : Nat} {x : Int} (hx : o[j]? = some x) (e : latAt rows o j x = L) {S : List Int} (pm : S.Perm (o.take (j + 1))) : Shows rows S L := by
  have mx : x ∈ o.take (j + 1) := by
    rw [take_snoc hx]
    exact List.mem_append_right _ List.mem_cons_self
  refine ⟨fun z => ?_, pm.nodup_iff.mpr (io.nodup.sublist (List.take_sublist _ _)), fun y hy => io.bd (List.mem_of_mem_take (pm.mem_iff.mp hy)), due_ rows x, ⟨x, pm.mem_iff.mpr mx, rfl⟩, fun y hy => ?_, ?_⟩
  · rw [← pm.mem_iff, z] at mx
    cases mx
  · have := pm.mem_iff.mp hy
    rw [take_snoc hx] at this
    rcases List.mem_append.mp this with e | e
    · obtain ⟨i, hi⟩ := List.mem_iff_getElem?.mp e
      rw [List.getElem?_take] at hi
      split at hi
      · obtain ⟨a1, a2⟩ := List.getElem?_eq_some_iff.mp hi
        obtain ⟨b1, b2⟩ := List.getElem?_eq_some_iff.mp hx
        have := (List.pairwise_iff_getElem.mp up) i j a1 b1 (by omega)
        rw [a2, b2] at this
        exact this
      · cases hi
    · rw [List.mem_singleton.mp e]
      exact Int.le_refl _
  · rw [sumOf_perm pm, ← e]
    rfl
end Bs

namespace Bs
open PySem PySem.Spec PyProof.Rows L2
open Evl (Ex)
theorem Ts.set {H : Hp} {t : Addr} {ns : List Int} (ht : H t = some (.tup (ns.map V.int))) : ∀ {xs : List V} {rows : List (List Int)} (j : Nat), Ts H xs rows → Ts H (xs.set j (.ref t)) (rows.set j ns)
  | _, _, _, .nil => .nil
  | _, _, 0, .cons h r => .cons ht r
  | _, _, j + 1, .cons h r => .cons h (Ts.set ht j r)
/-- longer or due earlier -/
def Grw (rows gs : List (List Int)) : Prop := gs.length = rows.length ∧ ∀ (j : Nat) (r g : List Int), rows[j]? = some r → gs[j]? = some g → r.getD 0 0 ≤ g.getD 0 0 ∧ g.getD 2 0 ≤ r.getD 2 0
theorem Grw.nil : Grw [] [] := ⟨rfl, fun j r g h => by simp at h⟩
theorem Grw.snoc {rows gs : List (List Int)} {r g : List Int} (h : Grw rows gs) (a : r.getD 0 0 ≤ g.getD 0 0) (b : g.getD 2 0 ≤ r.getD 2 0) : Grw (rows ++ [r]) (gs ++ [g]) := by
  refine ⟨by rw [List.length_append, List.length_append, h.1]; rfl, fun j x y hx hy => ?_⟩
  have l := h.1
  by_cases hj : j < rows.length
  · rw [List.getElem?_append_left hj] at hx
    rw [List.getElem?_append_left (by omega)] at hy
    exact h.2 j x y hx hy
  · have lt := (List.getElem?_eq_some_iff.mp hx).1
    rw [List.length_append] at lt
    have lt : j < rows.length + 1 := lt
    have e : j = rows.length := by omega
    subst e
    rw [List.getElem?_append_right (Nat.le_refl _), Nat.sub_self] at hx
    rw [List.getElem?_append_right (by omega), show rows.length - gs.length = 0 by omega] at hy
    obtain rfl := Option.some.inj hx
    obtain rfl := Option.some.inj hy
    exact ⟨a, b⟩
theorem Grw.at {rows gs : List (List Int)} (h : Grw rows gs) {x : Int} (x0 : 0 ≤ x) (x1 : x < rows.length) : len_ rows x ≤ len_ gs x ∧ due_ gs x ≤ due_ rows x := by
  have lt : x.toNat < rows.length := by omega
  have l := h.1
  have := h.2 x.toNat _ _ (List.getElem?_eq_getElem lt) (List.getElem?_eq_getElem (by omega))
  show (rows.getD x.toNat []).getD 0 0 ≤ (gs.getD x.toNat []).getD 0 0 ∧ (gs.getD x.toNat []).getD 2 0 ≤ (rows.getD x.toNat []).getD 2 0
  have e1 : rows.getD x.toNat [] = rows[x.toNat] := by rw [List.getD_eq_getElem?_getD, List.getElem?_eq_getElem lt]; rfl
  have e2 : gs.getD x.toNat [] = gs[x.toNat]'(by omega) := by rw [List.getD_eq_getElem?_getD, List.getElem?_eq_getElem (by omega)]; rfl
  rw [e1, e2]
  exact this
theorem sumOf_mono {f g : Int → Int} : ∀ {l : List Int}, (∀ x ∈ l, f x ≤ g x) → sumOf f l ≤ sumOf g l
  | [], _ => Int.le_refl _
  | x :: l, h => by
    have a := h x List.mem_cons_self
    have b := sumOf_mono (l := l) fun y hy => h y (List.mem_cons_of_mem _ hy)
    unfold sumOf at b ⊢
    rw [List.map_cons, List.map_cons, List.sum_cons, List.sum_cons]
    omega
theorem Shows.grown {rows gs : List (List Int)} {S o : List Int} {L M : Int} (ok : Rows4 rows) (h : Shows rows S L) (gr : Grw rows gs) (io : IsOrder o rows.length) (k : IsLate gs o M) : L ≤ M := by
  obtain ⟨s0, hs0⟩ := List.exists_mem_of_ne_nil S h.ne
  have sb := h.bd s0 hs0
  obtain ⟨p, x, hx, xs, behind⟩ := last_in (P := fun x => x ∈ S) (l := o) ⟨s0, io.all sb.1 sb.2, hs0⟩
  have a := h.last ok (fun y hy => io.bd hy) (fun y hy => io.all (h.bd y hy).1 (h.bd y hy).2) hx xs behind
  have b := k.2 p x hx
  have bx := io.bd (List.mem_of_getElem? hx)
  have c := (gr.at bx.1 bx.2).2
  have d : sumOf (len_ rows) (o.take (p + 1)) ≤ sumOf (len_ gs) (o.take (p + 1)) := sumOf_mono fun y hy => by
    have by' := io.bd (List.mem_of_mem_take hy)
    exact (gr.at by'.1 by'.2).1
  unfold latAt at a b
  omega
/-- only the part up to the last of the set -/
theorem Shows.part {rows : List (List Int)} {S o : List Int} {L M : Int} (ok : Rows4 rows) (h : Shows rows S L) (io : IsOrder o rows.length) {p : Nat} {x : Int} (hx : o[p]? = some x) (xs : x ∈ S) (behind : ∀ y ∈ o.drop (p + 1), y ∉ S) (k : IsLate rows (o.take (p + 1)) M) : L ≤ M := by
  have a := h.last ok (fun y hy => io.bd hy) (fun y hy => io.all (h.bd y hy).1 (h.bd y hy).2) hx xs behind
  have b := k.2 p x (by rw [List.getElem?_take, if_pos (by omega), hx])
  unfold latAt at a b
  rw [List.take_take, Nat.min_self] at b
  omega
/-- two neighbours exchanged -/
theorem near_order {o : List Int} {n : Nat} (io : IsOrder o n) (k : Nat) : IsOrder (o.take k ++ ((o.drop k).take 2).reverse ++ o.drop (k + 2)) n := by
  have e : o = o.take k ++ (o.drop k).take 2 ++ o.drop (k + 2) := by
    rw [List.append_assoc]
    rw [← List.drop_drop, List.take_append_drop, List.take_append_drop]
  have pm : (o.take k ++ ((o.drop k).take 2).reverse ++ o.drop (k + 2)).Perm o := by
    conv => rhs; rw [e]
    exact ((List.reverse_perm _).append_left _).append_right _
  exact pm.trans io
/-- the last one that is kept -/
theorem filter_last {P : Int → Bool} {l : List Int} {p : Nat} {x : Int} (hx : l[p]? = some x) (px : P x = true) (behind : ∀ y ∈ l.drop (p + 1), P y = false) : l.filter P = (l.take p).filter P ++ [x] := by
  have e : l = l.take p ++ [x] ++ l.drop (p + 1) := by
    rw [← take_snoc hx, List.take_append_drop]
  have z : (l.drop (p + 1)).filter P = [] := by
    rw [List.filter_eq_nil_iff]
    intro y hy
    rw [behind y hy]
    exact fun h => nomatch h
  have w : [x].filter P = [x] := by rw [List.filter_cons, if_pos px]; rfl
  conv => lhs; rw [e, List.filter_append, List.filter_append, z, w, List.append_nil]
theorem cutV_two {xs : List V} {k : Nat} (h : k ≤ xs.length) : cutV xs (some (k : Int)) (some ((k : Int) + 2)) = (xs.drop k).take 2 := by
  unfold cutV
  rw [show ((k : Int) + 2) = ((k + 2 : Nat) : Int) by omega, HT.sIx_nat, HT.sIx_nat, Nat.min_eq_left h]
  by_cases hk : k + 2 ≤ xs.length
  · rw [Nat.min_eq_left hk]
    congr 1
    omega
  · rw [Nat.min_eq_right (by omega), List.take_of_length_le (by rw [List.length_drop]; exact Nat.le_refl _), List.take_of_length_le (by rw [List.length_drop]; omega)]
theorem cutV_from {xs : List V} {k : Nat} : cutV xs (some (k : Int)) none = xs.drop k := by
  unfold cutV
  rw [HT.sIx_nat, HT.sIx_none]
  by_cases hk : k ≤ xs.length
  · rw [Nat.min_eq_left hk]
    exact List.take_of_length_le (by rw [List.length_drop]; exact Nat.le_refl _)
  · rw [Nat.min_eq_right (by omega), List.drop_eq_nil_of_le (Nat.le_refl _), List.drop_eq_nil_of_le (by omega), List.take_nil]
theorem is_late_max {rows : List (List Int)} {o : List Int} {ls : List Int} {M : Int} (e : ls = (List.range o.length).map fun i => latAt rows o i (o.getD i 0)) (mem : M ∈ ls) (top : ∀ y ∈ ls, y ≤ M) : IsLate rows o M := by
  subst e
  constructor
  · obtain ⟨i, hi, rfl⟩ := List.mem_map.mp mem
    have hi := List.mem_range.mp hi
    refine ⟨i, o.getD i 0, ?_, rfl⟩
    rw [List.getD_eq_getElem?_getD, List.getElem?_eq_getElem hi]
    rfl
  · intro i x hx
    refine top _ (List.mem_map.mpr ⟨i, List.mem_range.mpr (List.getElem?_eq_some_iff.mp hx).1, ?_⟩)
    show latAt rows o i (o.getD i 0) = _
    rw [List.getD_eq_getElem?_getD, hx]
    rfl
theorem ixN_last {n : Nat} (h : 0 < n) : ixN n (-1) = some (n - 1) := by
  unfold ixN
  rw [if_neg (by decide), if_pos (by omega)]
  exact congrArg some (by omega)
theorem at_ints {ls : List Int} {n lo hi : Int} (h0 : 0 ≤ n) (h1 : n < ls.length) (bd : ∀ y ∈ ls, lo ≤ y ∧ y ≤ hi) : ∃ v, atI (ls.map V.int) n = some (.int v) ∧ lo ≤ v ∧ v ≤ hi := by
  obtain ⟨v, m, e⟩ := at_mem (xs := ls.map V.int) h0 (by rw [List.length_map]; exact h1)
  obtain ⟨y, hy, rfl⟩ := List.mem_map.mp m
  exact ⟨y, e, bd y hy⟩
section
variable {K : PySem.W.Frag} {H : Hp} {σ : L2.St} {Q : VK}
theorem q_revL0 {te : TE} (q : te σ H fun x H1 => ∃ a xs, x = .ref a ∧ SqL K H1 a xs ∧ ∀ p, H1 p = none → Q (.ref p) (upd H1 p (.lst xs.reverse))) : tRevL K te σ H Q := q
theorem q_rev {a : Addr} {xs : List V} {P : List V → Prop} (h : H a = some (.lst xs)) (q : P xs) : ∃ b ys, V.ref a = .ref b ∧ SqL K H b ys ∧ P ys := ⟨a, xs, rfl, SqL.of h, q⟩
variable {g : TG} {tt : TT} {te : TE} {vs : List Nat} {τ : L2.St} {D : Addr} {Qd : Hp → Prop}
theorem lcp_zip {a b : Addr} {xs ys : List V} {n : Nat} (hn : n = min xs.length ys.length) (Pv : Nat → Hp → Prop) (h0 : Pv 0 H) (hl : ∀ i H, Pv i H → H a = some (.lst xs) ∧ H b = some (.lst ys))
    (hs : ∀ (i : Nat) (x y : V) (H : Hp) (T : Addr), xs[i]? = some x → ys[i]? = some y → Pv i H → H T = none → TurnC g tt te τ vs D (.ref T) (Pv (i + 1)) (upd H T (.tup [x, y]))) (hd : ∀ H, Pv n H → Qd H) : LoopC (Itz K a b) g tt te τ vs D Qd H := by
  refine ⟨fun i m H => m = n - i ∧ i ≤ n ∧ Pv i H, ⟨n, by simp, Nat.zero_le _, h0⟩, ?_⟩
  rintro i m H ⟨rfl, hi, p⟩
  have q1 : SqL K H a xs := SqL.of (hl i H p).1
  have q2 : SqL K H b ys := SqL.of (hl i H p).2
  by_cases hlt : i < n
  · have l1 : i < xs.length := by omega
    have l2 : i < ys.length := by omega
    refine .inr ⟨⟨xs, ys, xs[i], ys[i], q1, q2, by simp [l1], by simp [l2]⟩, Pv (i + 1), fun H' p' => ⟨n - (i + 1), by omega, rfl, hlt, p'⟩, fun x H' y => ?_⟩
    obtain ⟨T, y1, y2, e1, e2, e3, e4, e5⟩ := y
    subst e1 e3
    exact hs i y1 y2 H T (e4 xs q1) (e5 ys q2) p e2
  · have e : i = n := by omega
    subst e
    exact .inl ⟨⟨xs, ys, q1, q2, by omega⟩, hd H p⟩
end
section
open PySem.F
variable {X : Cx} {K : PySem.W.Frag} {o e : Expr} {es : List Expr} {to : TE} {t : TA} {name : Str} {apos cpos : Pos} {T id : String} {r : V → List V → Hp → VK → Prop}
theorem pe_bmK (pa : PlainAttrs T) (slot : Slot T name id) (hty : typeOf (.builtin id) = pure (.type "method_descriptor")) (hm : MtR X id r) (ho : PE X o to) (ha : PA X (e :: es) t)
    (hbase : attributeBase o name X.env (eval o X.env) = eval o X.env := by rfl)
    (hfew : ((backTo cpos (starEach (e :: es) X.env)).all (fun x => !x.1) && (backToKw cpos (keywordEach [] X.env)).all (fun x => x.1.isSome)
      && decide ((e :: es).length + ([] : List Keyword).length + (if ([] : List Keyword).isEmpty then 0 else 1) < 30)) = true := by rfl)
    (hline : (apos.endLine == cpos.line) = true := by rfl) (hs : starEach (e :: es) X.env = (false, eval e X.env) :: starEach es X.env := by rfl) (hplain : (backTo cpos (starEach es X.env)).any (·.1) = false := by rfl) (hK : X.K = K := by rfl) :
    PE X (.Call (.Attribute o name apos) (e :: es) [] cpos) (tBM K T r to t) := hK ▸ pe_bm pa slot hty hm ho ha hbase hfew hline hs hplain
end
end Bs

namespace Bs
open PySem PySem.Spec PyProof.Rows L2
open Evl (Ex)
/-! ### any of whole numbers; the least of tuples of whole numbers -/
def rAnyI (K : PySem.W.Frag) : List V → Hp → VK → Prop := fun vs H Q => ∃ (a : Addr) (ns : List Int), vs = [.ref a] ∧ SqL K H a (ns.map V.int) ∧ Q (.bl (ns.any fun n => decide (n ≠ 0))) H
theorem cr_anyI {X : Cx} {K : PySem.W.Frag} (hc : X.calm = true) (hK : X.K = K := by rfl) : CallR X (.builtin "any") (rAnyI K) := by
  subst hK
  intro pins s σ H vs us Q I r h
  obtain ⟨a, ns, rfl, hs, q⟩ := h
  obtain ⟨u, rfl, ru⟩ := vals1 r
  obtain rfl : u = Value.ref a := ru
  obtain ⟨its, rv, hl, hz⟩ := I.list hs
  obtain ⟨as, rd⟩ := Dp.readsAll I (ns.map .int) _ _ dpa_ints rv
  refine PySem.W.any_list_data (vs := its.toArray) (I.ok.hd hc) hl.isList (by simpa using rd) ?_ ?_ fun h' tk kept => ?_
  · clear hs rv rd q hz
    induction ns with
    | nil => rfl
    | cons n ns ih => exact ih
  · intro x hx
    obtain ⟨i, _, rfl⟩ := List.mem_map.mp hx
    exact True.intro
  · refine ⟨.bl _, H, I.call' (ch := []) rfl (Un.kept kept) (I.hok.kept kept) I.bare (fun _ z => nomatch z), rfl, ?_⟩
    have e : (ns.map PyData.int).any PyData.truthy = ns.any fun n => decide (n ≠ 0) := by
      rw [List.any_map]
      congr 1
      funext n
      show (n != 0) = decide (n ≠ 0)
      by_cases h : n = 0
      · subst h
        rfl
      · rw [decide_eq_true h]
        exact bne_iff_ne.mpr h
    rw [e]
    exact q
theorem q_anyI {K : PySem.W.Frag} {H : Hp} {Q : VK} {a : Addr} {ns : List Int} (h : H a = some (.lst (ns.map V.int))) (q : Q (.bl (ns.any fun n => decide (n ≠ 0))) H) : rAnyI K [.ref a] H Q := ⟨a, ns, rfl, SqL.of h, q⟩
theorem alike_ints : ∀ {ns ms : List Int}, PySem.W.alikeAll (ns.map PyData.int) (ms.map PyData.int) = true
  | [], _ => by
    cases (‹List Int› : List Int) <;> rfl
  | _ :: _, [] => rfl
  | _ :: ns, _ :: ms => by
    show (true && PySem.W.alikeAll (ns.map PyData.int) (ms.map PyData.int)) = true
    rw [alike_ints]
    rfl
theorem lex_data : ∀ {ns ms : List Int}, ns.length = ms.length → PyProof.Rows.lexLt itemOrd (PySem.W.keyToksAll (ns.map PyData.int)) (PySem.W.keyToksAll (ms.map PyData.int)) = HT.lexLt ns ms
  | [], [], _ => rfl
  | [], _ :: _, h => by simp at h
  | _ :: _, [], h => by simp at h
  | x :: ns, y :: ms, h => by
    rw [List.map_cons, List.map_cons, PySem.W.dataLt_cons (x := .int x) (y := .int y) rfl, lex_data (Nat.succ.inj h), HT.lexLt_cons, PySem.W.dataLt_int]
    show (if (x == y) = true then _ else _) = _
    by_cases e : x = y
    · subst e
      rw [if_pos (beq_self_eq_true x), if_pos rfl]
    · rw [if_neg (by rw [beq_iff_eq]; exact e), if_neg e]
theorem dataLt_ints {ns ms : List Int} (h : ns.length = ms.length) : PySem.W.dataLt (.tuple (ns.map .int)) (.tuple (ms.map .int)) = HT.lexLt ns ms := by
  rw [PySem.W.dataLt_tuple, lex_data h]
/-- the place of the least row -/
def bestI (rows : List (List Int)) (n : Nat) : Nat := argBest (fun i j => HT.lexLt (rows.getD i []) (rows.getD j [])) n
theorem bestI_ok (rows : List (List Int)) : ∀ n, bestI rows n ≤ n ∧ ∀ k, k ≤ n → HT.lexLt (rows.getD k []) (rows.getD (bestI rows n) []) = false
  | 0 => ⟨Nat.le_refl _, fun k hk => by
    obtain rfl : k = 0 := by omega
    exact (NtL.swo_lexL (α := List Int) id).refl _⟩
  | n + 1 => by
    obtain ⟨a, b⟩ := bestI_ok rows n
    have O := NtL.swo_lexL (α := List Int) id
    by_cases h : HT.lexLt (rows.getD (n + 1) []) (rows.getD (bestI rows n) []) = true
    · have e : bestI rows (n + 1) = n + 1 := if_pos h
      rw [e]
      refine ⟨Nat.le_refl _, fun k hk => ?_⟩
      by_cases kn : k = n + 1
      · rw [kn]
        exact O.refl _
      · have h1 := b k (by omega)
        have h2 := O.asym _ _ h
        exact O.tr _ _ _ h2 h1
    · have e : bestI rows (n + 1) = bestI rows n := if_neg h
      rw [e]
      refine ⟨by omega, fun k hk => ?_⟩
      by_cases kn : k = n + 1
      · rw [kn]
        exact Bool.eq_false_iff.mpr h
      · exact b k (by omega)
theorem argBest_congr {f g : Nat → Nat → Bool} : ∀ n, (∀ i j, i ≤ n → j ≤ n → f i j = g i j) → argBest f n = argBest g n ∧ argBest g n ≤ n
  | 0, _ => ⟨rfl, Nat.le_refl _⟩
  | n + 1, h => by
    obtain ⟨a, b⟩ := argBest_congr n fun i j hi hj => h i j (by omega) (by omega)
    constructor
    · show (if f (n + 1) (argBest f n) = true then n + 1 else argBest f n) = (if g (n + 1) (argBest g n) = true then n + 1 else argBest g n)
      rw [a, h (n + 1) (argBest g n) (Nat.le_refl _) (by omega)]
    · show (if g (n + 1) (argBest g n) = true then n + 1 else argBest g n) ≤ n + 1
      split <;> omega
def rMinTs (K : PySem.W.Frag) : List V → Hp → VK → Prop := fun vs H Q => ∃ (a : Addr) (xs : List V) (rows : List (List Int)) (d : Nat), vs = [.ref a] ∧ SqL K H a xs ∧ Ts H xs rows ∧ rows ≠ [] ∧ (∀ r ∈ rows, r.length = d) ∧
  ∀ (i : Nat) (t : Addr) (r : List Int), xs[i]? = some (.ref t) → rows[i]? = some r → (∀ u ∈ rows, HT.lexLt u r = false) → Q (.ref t) H
theorem dpT : ∀ rows : List (List Int), PyData.depthAll (rows.map fun ns => PyData.tuple (ns.map .int)) ≤ 1
  | [] => Nat.zero_le _
  | r :: rs => by
    show max (PyData.depthAll (r.map .int) + 1) (PyData.depthAll (rs.map fun ns => PyData.tuple (ns.map .int))) ≤ 1
    have := dpT rs
    rw [dp_ints]
    omega
theorem cr_minTs {X : Cx} {K : PySem.W.Frag} (hc : X.calm = true) (hu : X.A.units + 64 < cLine) (hK : X.K = K := by rfl) : CallR X (.builtin "min") (rMinTs K) := by
  subst hK
  intro pins s σ H vs us Q I r h
  obtain ⟨a, xs, rows, d, rfl, hs, ts, ne, hd, q⟩ := h
  obtain ⟨u, rfl, ru⟩ := vals1 r
  obtain rfl : u = Value.ref a := ru
  obtain ⟨its, rv, hl, _⟩ := I.list hs
  obtain ⟨as, rd⟩ := Dp.readsAll I (rows.map fun ns => .tuple (ns.map .int)) _ _ ts.dp rv
  have rd' : ReadsAll s.heap its.toArray.toList (rows.map fun ns => PyData.tuple (ns.map .int)) as := by simpa using rd
  have al : PySem.W.AlikeAll (rows.map fun ns => PyData.tuple (ns.map .int)) := ⟨fun x hx y hy => by
    obtain ⟨i, _, rfl⟩ := List.mem_map.mp hx
    obtain ⟨j, _, rfl⟩ := List.mem_map.mp hy
    exact alike_ints, fun x hx => by
    obtain ⟨i, _, rfl⟩ := List.mem_map.mp hx
    intro z
    cases z⟩
  have hn : its.toArray.size = rows.length := by
    have := PySem.W.readsAll_len rd'
    rw [this, List.length_map]
  have pos : 0 < rows.length := List.length_pos_iff.mpr ne
  have dp := dpT rows
  refine PySem.call_min_walkH (PySem.W.iter_listW (A := X.A.in1) (I.ok.hd hc) hl.isList fun s₂ e W st hfp hw hk => ?_)
  refine ⟨_, _, _, _, _, _, _, s.heap, _, rfl, W, st, hfp, by omega, hw, hk, PySem.W.cmpIn_lt (A := X.A.in1) rd' al (by show X.A.units + 1 + _ < _; omega), fun v s' hP m => ?_⟩
  obtain ⟨h', tk, rfl, hk'⟩ := PySem.W.moved_old e rfl m
  have eb : ∀ n, n < rows.length → argBest (fun i j => PySem.W.dataLt ((rows.map fun ns => PyData.tuple (ns.map .int)).getD i .none) ((rows.map fun ns => PyData.tuple (ns.map .int)).getD j .none)) n = bestI rows n := by
    have at_ : ∀ i, i < rows.length → (rows.map fun ns => PyData.tuple (ns.map .int)).getD i .none = .tuple ((rows.getD i []).map .int) := fun i hi => by
      rw [List.getD_eq_getElem?_getD, List.getElem?_map, List.getElem?_eq_getElem hi, List.getD_eq_getElem?_getD, List.getElem?_eq_getElem hi]
      rfl
    have len_ : ∀ i, i < rows.length → (rows.getD i []).length = d := fun i hi => by
      rw [List.getD_eq_getElem?_getD, List.getElem?_eq_getElem hi]
      exact hd _ (List.getElem_mem hi)
    intro n hn
    refine (argBest_congr n fun i j hi hj => ?_).1
    show PySem.W.dataLt _ _ = _
    rw [at_ i (by omega), at_ j (by omega), dataLt_ints (by rw [len_ i (by omega), len_ j (by omega)])]
  rw [hn, eb _ (by omega)] at hP
  obtain ⟨b1, b2⟩ := bestI_ok rows (rows.length - 1)
  have bl : bestI rows (rows.length - 1) < rows.length := by omega
  have lx := ts.len
  obtain ⟨t, ex, ht⟩ := ts.get' (List.getElem?_eq_getElem bl)
  have hv : its[bestI rows (rows.length - 1)]? = some v := by simpa using hP
  have rel : RelV (.ref t) v := by
    obtain ⟨w', hw1, hw2⟩ := rv.get ex
    rw [hv] at hw1
    obtain rfl := Option.some.inj hw1
    exact hw2
  obtain rfl : v = Value.ref t := rel
  refine ⟨.ref t, H, I.call' (ch := []) rfl (Un.kept hk') (I.hok.kept hk') I.bare (fun _ z => nomatch z), rfl, q _ t _ ex (List.getElem?_eq_getElem bl) fun z hz => ?_⟩
  obtain ⟨k, hk2⟩ := List.mem_iff_getElem?.mp hz
  have hkl := (List.getElem?_eq_some_iff.mp hk2).1
  have := b2 k (by omega)
  rw [List.getD_eq_getElem?_getD, hk2, List.getD_eq_getElem?_getD, List.getElem?_eq_getElem bl] at this
  exact this
theorem q_minTs {K : PySem.W.Frag} {H : Hp} {Q : VK} {a : Addr} {xs : List V} {rows : List (List Int)} (d : Nat) (h : H a = some (.lst xs)) (ts : Ts H xs rows) (ne : rows ≠ []) (hd : ∀ r ∈ rows, r.length = d)
    (q : ∀ (t : Addr) (r : List Int), r ∈ rows → H t = some (.tup (r.map V.int)) → (∀ u ∈ rows, HT.lexLt u r = false) → Q (.ref t) H) : rMinTs K [.ref a] H Q :=
  ⟨a, xs, rows, d, rfl, SqL.of h, ts, ne, hd, fun i t r ex er le => by
    obtain ⟨t', ex', ht⟩ := ts.get' er
    rw [ex] at ex'
    cases ex'
    exact q t r (List.mem_of_getElem? er) ht le⟩
theorem au_ltT {X : Cx} {K : PySem.W.Frag} (hu : X.A.units + 64 < cLine) (hK : X.K = K := by rfl) : OpR X (compareOp .Lt) (rLtT K) := hK ▸ op_ltT (by omega)
theorem q_ltT {K : PySem.W.Frag} {H : Hp} {Q : VK} {a b : Addr} {ns ms : List Int} (h1 : H a = some (.tup (ns.map V.int))) (h2 : H b = some (.tup (ms.map V.int))) (q : Q (.bl (HT.lexLt ns ms)) H) : rLtT K (.ref a) (.ref b) H Q := ⟨a, b, ns, ms, rfl, rfl, SqT.of h1, SqT.of h2, q⟩
end Bs

namespace Bs
open PySem PySem.Spec PyProof.Rows L2
open Evl (Ex)
/-! ### parted work: the least lateness, and the set that shows it -/
theorem sumOf_ext {f g : Int → Int} {l : List Int} (h : ∀ x ∈ l, f x = g x) : sumOf f l = sumOf g l := by
  have a := sumOf_le (f := f) (g := g) (l := l) fun x hx => Int.le_of_eq (h x hx)
  have b := sumOf_le (f := g) (g := f) (l := l) fun x hx => Int.le_of_eq (h x hx).symm
  omega
theorem sumOf_nil (f : Int → Int) : sumOf f [] = 0 := by
  unfold sumOf
  simp
def lfA (lf : List Int) (x : Int) : Int := lf.getD x.toNat 0
def sel (rows : List (List Int)) (t D : Int) (g : Int → Int) (x : Int) : Int := if due_ rows x ≤ D ∧ t ≤ frm_ rows x then g x else 0
abbrev pN (p : List Int) : Int := p.getD 0 0
abbrev pH (p : List Int) : Int := p.getD 1 0
abbrev pB (p : List Int) : Int := p.getD 2 0
/-- hours in which pieces of a row lie -/
def wrk (ps : List (List Int)) (x : Int) : Int := (ps.map fun p => if pN p = x then pB p - pH p else 0).sum
theorem wrk_snoc (ps : List (List Int)) (p : List Int) (x : Int) : wrk (ps ++ [p]) x = wrk ps x + if pN p = x then pB p - pH p else 0 := by
  unfold wrk
  rw [List.map_append, List.sum_append]
  simp
structure Stp (rows : List (List Int)) (lf : List Int) (ps : List (List Int)) (hour : Int) : Prop where
  len : lf.length = rows.length
  bd : ∀ x : Int, 0 ≤ x → x < rows.length → 0 ≤ lfA lf x ∧ lfA lf x ≤ len_ rows x
  pc : ∀ p ∈ ps, ∃ x h b : Int, p = [x, h, b] ∧ 0 ≤ x ∧ x < rows.length ∧ frm_ rows x ≤ h ∧ h < b ∧ b ≤ hour
  ord : ps.Pairwise fun p q => pB p ≤ pH q
  wk : ∀ x : Int, 0 ≤ x → x < rows.length → wrk ps x = len_ rows x - lfA lf x
  run : ∀ D : Int, ∃ t : Int, t ≤ hour ∧ (∀ x : Int, 0 ≤ x → x < rows.length → due_ rows x ≤ D → 0 < lfA lf x → t ≤ frm_ rows x) ∧ hour - t ≤ sumOf (sel rows t D fun x => len_ rows x - lfA lf x) (Bs.upTo rows.length)
  why : ∀ p ∈ ps, ∃ t : Int, t ≤ frm_ rows (pN p) ∧ pB p - t ≤ sumOf (sel rows t (due_ rows (pN p)) (len_ rows)) (Bs.upTo rows.length)
section
variable {rows : List (List Int)}
theorem Stp.start (ok : Rows4 rows) {lf : List Int} {h : Int} (hl : lf.length = rows.length) (hlf : ∀ x : Int, 0 ≤ x → x < rows.length → lfA lf x = len_ rows x) (hm : ∀ x : Int, 0 ≤ x → x < rows.length → h ≤ frm_ rows x) : Stp rows lf [] h where
  len := hl
  bd x a b := by
    have := (ok.at a b).2.1
    rw [hlf x a b]
    omega
  pc p hp := nomatch hp
  ord := List.Pairwise.nil
  wk x a b := by
    rw [hlf x a b]
    show (0 : Int) = _
    omega
  run D := ⟨h, Int.le_refl _, fun x a b _ _ => hm x a b, by
    have : 0 ≤ sumOf (sel rows h D fun x => len_ rows x - lfA lf x) (Bs.upTo rows.length) := sumOf_nn fun x hx => by
      have hx := upTo_mem.mp hx
      unfold sel
      split
      · show 0 ≤ len_ rows x - lfA lf x
        rw [hlf x hx.1 hx.2]
        omega
      · exact Int.le_refl 0
    omega⟩
  why p hp := nomatch hp
theorem sel_nn {lf : List Int} {ps : List (List Int)} {hour : Int} (s : Stp rows lf ps hour) (t D : Int) : 0 ≤ sumOf (sel rows t D fun x => len_ rows x - lfA lf x) (Bs.upTo rows.length) := sumOf_nn fun x hx => by
  have hx := upTo_mem.mp hx
  have := s.bd x hx.1 hx.2
  unfold sel
  split
  · show 0 ≤ len_ rows x - lfA lf x
    omega
  · exact Int.le_refl 0
theorem Stp.idle {lf : List Int} {ps : List (List Int)} {hour h' : Int} (s : Stp rows lf ps hour) (hh : hour < h') (all : ∀ x : Int, 0 ≤ x → x < rows.length → 0 < lfA lf x → h' ≤ frm_ rows x) : Stp rows lf ps h' where
  len := s.len
  bd := s.bd
  pc p hp := by
    obtain ⟨x, h, b, e, a1, a2, a3, a4, a5⟩ := s.pc p hp
    exact ⟨x, h, b, e, a1, a2, a3, a4, by omega⟩
  ord := s.ord
  wk := s.wk
  run D := ⟨h', Int.le_refl _, fun x a b _ l => all x a b l, by
    have := sel_nn s h' D
    omega⟩
  why := s.why
theorem lfA_set {lf : List Int} {x y v : Int} (x0 : 0 ≤ x) (x1 : x < lf.length) (y0 : 0 ≤ y) : lfA (lf.set x.toNat v) y = if y = x then v else lfA lf y := by
  unfold lfA
  rw [List.getD_eq_getElem?_getD, List.getD_eq_getElem?_getD, List.getElem?_set]
  by_cases e : y = x
  · subst e
    rw [if_pos rfl, if_pos rfl, if_pos (by omega)]
    rfl
  · rw [if_neg (by omega), if_neg e]
/-- one piece more -/
theorem Stp.step {lf : List Int} {ps : List (List Int)} {hour b x0 : Int} (s : Stp rows lf ps hour) (a0 : 0 ≤ x0) (a1 : x0 < rows.length) (fr : frm_ rows x0 ≤ hour) (hb : hour < b) (lb : b - hour ≤ lfA lf x0)
    (first : ∀ y : Int, 0 ≤ y → y < rows.length → 0 < lfA lf y → due_ rows y < due_ rows x0 → hour < frm_ rows y)
    (leave : ∀ y : Int, 0 ≤ y → y < rows.length → hour < frm_ rows y → due_ rows y < due_ rows x0 → b ≤ frm_ rows y) :
    Stp rows (lf.set x0.toNat (lfA lf x0 - (b - hour))) (ps ++ [[x0, hour, b]]) b := by
  have hl := s.len
  have st : ∀ y : Int, 0 ≤ y → lfA (lf.set x0.toNat (lfA lf x0 - (b - hour))) y = if y = x0 then lfA lf x0 - (b - hour) else lfA lf y := fun y hy => lfA_set a0 (by omega) hy
  have run : ∀ D : Int, ∃ t : Int, t ≤ b ∧ (∀ x : Int, 0 ≤ x → x < rows.length → due_ rows x ≤ D → 0 < lfA (lf.set x0.toNat (lfA lf x0 - (b - hour))) x → t ≤ frm_ rows x) ∧ b - t ≤ sumOf (sel rows t D fun x => len_ rows x - lfA (lf.set x0.toNat (lfA lf x0 - (b - hour))) x) (Bs.upTo rows.length) ∧ (due_ rows x0 ≤ D → t ≤ frm_ rows x0) := by
    intro D
    by_cases c : due_ rows x0 ≤ D
    · obtain ⟨t, t1, t2, t3⟩ := s.run D
      have tx := t2 x0 a0 a1 c (by omega)
      refine ⟨t, by omega, fun x h1 h2 h3 h4 => ?_, ?_, fun _ => tx⟩
      · rw [st x h1] at h4
        by_cases e : x = x0
        · rw [e]
          exact tx
        · rw [if_neg e] at h4
          exact t2 x h1 h2 h3 h4
      · have key : sumOf (sel rows t D fun x => len_ rows x - lfA (lf.set x0.toNat (lfA lf x0 - (b - hour))) x) (Bs.upTo rows.length) = sumOf (sel rows t D fun x => len_ rows x - lfA lf x) (Bs.upTo rows.length) + (b - hour) := by
          obtain ⟨u, v, e⟩ := List.append_of_mem (upTo_mem.mpr ⟨a0, a1⟩ : x0 ∈ Bs.upTo rows.length)
          have nd := upTo_nodup rows.length
          have mem : ∀ y ∈ u ++ x0 :: v, 0 ≤ y := fun y hy => (upTo_mem.mp (e ▸ hy)).1
          rw [e] at nd ⊢
          have n1 := (List.nodup_append.mp nd).2.2
          have n2 := List.nodup_cons.mp (List.nodup_append.mp nd).2.1
          have same : ∀ y, 0 ≤ y → y ≠ x0 → sel rows t D (fun x => len_ rows x - lfA (lf.set x0.toNat (lfA lf x0 - (b - hour))) x) y = sel rows t D (fun x => len_ rows x - lfA lf x) y := fun y hy ne => by
            unfold sel
            show (if _ then len_ rows y - lfA _ y else 0) = (if _ then len_ rows y - lfA _ y else 0)
            rw [st y hy, if_neg ne]
          rw [sumOf_append, sumOf_append, sumOf_cons, sumOf_cons]
          rw [sumOf_ext (l := u) fun y hy => same y (mem y (List.mem_append_left _ hy)) fun z => n1 y hy x0 List.mem_cons_self z]
          rw [sumOf_ext (l := v) fun y hy => same y (mem y (List.mem_append_right _ (List.mem_cons_of_mem _ hy))) fun z => n2.1 (z ▸ hy)]
          have own : sel rows t D (fun x => len_ rows x - lfA (lf.set x0.toNat (lfA lf x0 - (b - hour))) x) x0 = sel rows t D (fun x => len_ rows x - lfA lf x) x0 + (b - hour) := by
            unfold sel
            rw [if_pos ⟨c, tx⟩, if_pos ⟨c, tx⟩]
            show len_ rows x0 - lfA _ x0 = len_ rows x0 - lfA lf x0 + (b - hour)
            rw [st x0 a0, if_pos rfl]
            omega
          rw [own]
          omega
        rw [key]
        omega
    · refine ⟨b, Int.le_refl _, fun x h1 h2 h3 h4 => ?_, ?_, fun h => absurd h c⟩
      · rw [st x h1] at h4
        have ne : x ≠ x0 := by
          rintro rfl
          exact c h3
        rw [if_neg ne] at h4
        have := first x h1 h2 h4 (by omega)
        exact leave x h1 h2 this (by omega)
      · have : 0 ≤ sumOf (sel rows b D fun x => len_ rows x - lfA (lf.set x0.toNat (lfA lf x0 - (b - hour))) x) (Bs.upTo rows.length) := sumOf_nn fun x hx => by
          have hx := upTo_mem.mp hx
          have := s.bd x hx.1 hx.2
          unfold sel
          split
          · show 0 ≤ len_ rows x - lfA _ x
            rw [st x hx.1]
            split
            · rename_i e
              subst e
              omega
            · omega
          · exact Int.le_refl 0
        omega
  constructor
  · rw [List.length_set]
    exact hl
  · intro x h1 h2
    have := s.bd x h1 h2
    rw [st x h1]
    split
    · rename_i e
      subst e
      omega
    · exact this
  · intro p hp
    rcases List.mem_append.mp hp with hp | hp
    · obtain ⟨x, h, b', e, q1, q2, q3, q4, q5⟩ := s.pc p hp
      exact ⟨x, h, b', e, q1, q2, q3, q4, by omega⟩
    · rw [List.mem_singleton.mp hp]
      exact ⟨x0, hour, b, rfl, a0, a1, fr, hb, Int.le_refl _⟩
  · rw [List.pairwise_append]
    refine ⟨s.ord, List.pairwise_singleton _ _, fun p hp q hq => ?_⟩
    rw [List.mem_singleton.mp hq]
    obtain ⟨x, h, b', rfl, _, _, _, _, q5⟩ := s.pc p hp
    exact q5
  · intro x h1 h2
    rw [wrk_snoc, s.wk x h1 h2, st x h1]
    show _ + (if x0 = x then b - hour else 0) = _
    by_cases e : x = x0
    · subst e
      rw [if_pos rfl, if_pos rfl]
      omega
    · rw [if_neg (fun z => e z.symm), if_neg e]
      omega
  · intro D
    obtain ⟨t, q1, q2, q3, _⟩ := run D
    exact ⟨t, q1, q2, q3⟩
  · intro p hp
    rcases List.mem_append.mp hp with hp | hp
    · exact s.why p hp
    · rw [List.mem_singleton.mp hp]
      obtain ⟨t, _, _, q3, q4⟩ := run (due_ rows x0)
      refine ⟨t, q4 (Int.le_refl _), Int.le_trans q3 (sumOf_le fun x hx => ?_)⟩
      have hx := upTo_mem.mp hx
      have := s.bd x hx.1 hx.2
      unfold sel
      by_cases c : due_ rows x ≤ due_ rows x0 ∧ t ≤ frm_ rows x
      · rw [if_pos c, if_pos (show due_ rows x ≤ due_ rows (pN [x0, hour, b]) ∧ t ≤ frm_ rows x from c)]
        show len_ rows x - lfA _ x ≤ len_ rows x
        rw [st x hx.1]
        split
        · rename_i e
          subst e
          omega
        · omega
      · rw [if_neg c, if_neg (show ¬ (due_ rows x ≤ due_ rows (pN [x0, hour, b]) ∧ t ≤ frm_ rows x) from c)]
        exact Int.le_refl 0
end
/-- what a set shows -/
def IsPB (rows : List (List Int)) (S : List Int) (v : Int) : Prop := ∃ f d : Int, (∃ x ∈ S, frm_ rows x = f) ∧ (∀ x ∈ S, f ≤ frm_ rows x) ∧ (∃ x ∈ S, due_ rows x = d) ∧ (∀ x ∈ S, due_ rows x ≤ d) ∧ v = f + sumOf (len_ rows) S - d
theorem IsPB.uniq {rows : List (List Int)} {S : List Int} {v u : Int} (h : IsPB rows S v) (k : IsPB rows S u) : v = u := by
  obtain ⟨f, d, ⟨x, hx, rfl⟩, a, ⟨y, hy, rfl⟩, b, rfl⟩ := h
  obtain ⟨f', d', ⟨x', hx', rfl⟩, a', ⟨y', hy', rfl⟩, b', rfl⟩ := k
  have := a x' hx'
  have := a' x hx
  have := b y' hy'
  have := b' y hy
  omega
/-- the greatest lateness of pieces -/
def IsPL (rows : List (List Int)) (ps : List (List Int)) (L : Int) : Prop := (∃ p ∈ ps, L = pB p - due_ rows (pN p)) ∧ ∀ p ∈ ps, pB p - due_ rows (pN p) ≤ L
/-- pieces of a set's rows end no sooner -/
theorem pieces_end {S : List Int} {f : Int} : ∀ ps : List (List Int), (∀ p ∈ ps, pN p ∈ S → f ≤ pH p) → (∀ p ∈ ps, pH p < pB p) → ps.Pairwise (fun p q => pB p ≤ pH q) →
    ((ps.map fun p => if pN p ∈ S then pB p - pH p else 0).sum = 0 ∨ ∃ p ∈ ps, pN p ∈ S ∧ f + (ps.map fun p => if pN p ∈ S then pB p - pH p else 0).sum ≤ pB p) := by
  intro ps
  have : ∀ qs : List (List Int), (∀ p ∈ qs.reverse, pN p ∈ S → f ≤ pH p) → (∀ p ∈ qs.reverse, pH p < pB p) → qs.reverse.Pairwise (fun p q => pB p ≤ pH q) →
    ((qs.reverse.map fun p => if pN p ∈ S then pB p - pH p else 0).sum = 0 ∨ ∃ p ∈ qs.reverse, pN p ∈ S ∧ f + (qs.reverse.map fun p => if pN p ∈ S then pB p - pH p else 0).sum ≤ pB p) := by
    intro qs
    induction qs with
    | nil => exact fun _ _ _ => .inl rfl
    | cons q qs ih =>
      rw [List.reverse_cons]
      intro h1 h2 h3
      rw [List.pairwise_append] at h3
      have ih := ih (fun p hp => h1 p (List.mem_append_left _ hp)) (fun p hp => h2 p (List.mem_append_left _ hp)) h3.1
      rw [List.map_append, List.sum_append]
      have e : (([q] : List (List Int)).map fun p => if pN p ∈ S then pB p - pH p else 0).sum = if pN q ∈ S then pB q - pH q else 0 := by simp
      rw [e]
      have mq : q ∈ qs.reverse ++ [q] := List.mem_append_right _ List.mem_cons_self
      by_cases c : pN q ∈ S
      · rw [if_pos c]
        have := h1 q mq c
        refine .inr ⟨q, mq, c, ?_⟩
        rcases ih with z | ⟨p, hp, _, le⟩
        · omega
        · have := h3.2.2 p hp q List.mem_cons_self
          omega
      · rw [if_neg c]
        rcases ih with z | ⟨p, hp, pc, le⟩
        · exact .inl (by omega)
        · exact .inr ⟨p, List.mem_append_left _ hp, pc, by omega⟩
  have := this ps.reverse
  rwa [List.reverse_reverse] at this
theorem wrk_set (ps : List (List Int)) : ∀ S : List Int, S.Nodup → (ps.map fun p => if pN p ∈ S then pB p - pH p else 0).sum = sumOf (wrk ps) S := by
  intro S
  induction S with
  | nil =>
    intro _
    rw [sumOf_nil]
    induction ps with
    | nil => rfl
    | cons p ps ih =>
      rw [List.map_cons, List.sum_cons, ih]
      simp
  | cons x S ih =>
    intro nd
    have nd := List.nodup_cons.mp nd
    rw [sumOf_cons, ← ih nd.2]
    unfold wrk
    clear ih
    induction ps with
    | nil => rfl
    | cons p ps ih =>
      rw [List.map_cons, List.sum_cons, List.map_cons, List.sum_cons, List.map_cons, List.sum_cons, ih]
      by_cases c : pN p = x
      · rw [if_pos c, if_pos (by rw [c]; exact List.mem_cons_self), if_neg (by rw [c]; exact nd.1)]
        omega
      · rw [if_neg c]
        by_cases c2 : pN p ∈ S
        · rw [if_pos c2, if_pos (List.mem_cons_of_mem _ c2)]
          omega
        · rw [if_neg c2, if_neg fun h => by
            rcases List.mem_cons.mp h with h | h
            · exact c h
            · exact c2 h]
          omega
section
variable {rows : List (List Int)} {lf : List Int} {ps : List (List Int)} {hour L : Int}
theorem Stp.most (ok : Rows4 rows) (s : Stp rows lf ps hour) (done : ∀ x : Int, 0 ≤ x → x < rows.length → lfA lf x = 0) (il : IsPL rows ps L) {S : List Int} (nd : S.Nodup) (bd : ∀ x ∈ S, 0 ≤ x ∧ x < rows.length) {v : Int} (h : IsPB rows S v) : v ≤ L := by
  obtain ⟨f, d, ⟨x, hx, hf⟩, a, ⟨y, hy, hd⟩, b, rfl⟩ := h
  have e1 := wrk_set ps S nd
  have e2 : sumOf (wrk ps) S = sumOf (len_ rows) S := sumOf_ext fun z hz => by
    rw [s.wk z (bd z hz).1 (bd z hz).2, done z (bd z hz).1 (bd z hz).2]
    omega
  have pos : 1 ≤ sumOf (len_ rows) S := by
    have h1 := sumOf_sub (f := len_ rows) (l := [x]) (m := S) (List.nodup_cons.mpr ⟨by simp, List.nodup_nil⟩) (fun z hz => by rw [List.mem_singleton.mp hz]; exact hx) fun z hz => by
      have := (ok.at (bd z hz).1 (bd z hz).2).2.1
      omega
    rw [sumOf_cons, sumOf_nil] at h1
    have := (ok.at (bd x hx).1 (bd x hx).2).2.1
    omega
  rcases pieces_end (S := S) (f := f) ps (fun p hp hS => by
      obtain ⟨z, h, b', rfl, _, _, q, _, _⟩ := s.pc p hp
      have := a z hS
      show f ≤ h
      omega) (fun p hp => by
      obtain ⟨z, h, b', rfl, _, _, _, q, _⟩ := s.pc p hp
      exact q) s.ord with z | ⟨p, hp, pS, le⟩
  · rw [e1, e2] at z
    omega
  · rw [e1, e2] at le
    have := il.2 p hp
    have := b _ pS
    omega
/-- the sets looked through -/
def thr (rows : List (List Int)) (f d : Int) : List Int := (Bs.upTo rows.length).filter fun x => decide (f ≤ frm_ rows x) && decide (due_ rows x ≤ d)
theorem thr_mem {f d x : Int} : x ∈ thr rows f d ↔ (0 ≤ x ∧ x < rows.length) ∧ f ≤ frm_ rows x ∧ due_ rows x ≤ d := by
  unfold thr
  rw [List.mem_filter, upTo_mem, Bool.and_eq_true, decide_eq_true_eq, decide_eq_true_eq]
theorem sel_filter (t D : Int) (g : Int → Int) : ∀ l : List Int, sumOf (sel rows t D g) l = sumOf g (l.filter fun x => decide (t ≤ frm_ rows x) && decide (due_ rows x ≤ D))
  | [] => rfl
  | x :: l => by
    rw [sumOf_cons, sel_filter t D g l]
    unfold sel
    by_cases c : due_ rows x ≤ D ∧ t ≤ frm_ rows x
    · rw [if_pos c, List.filter_cons_of_pos (by rw [Bool.and_eq_true, decide_eq_true_eq, decide_eq_true_eq]; exact ⟨c.2, c.1⟩), sumOf_cons]
    · rw [if_neg c, List.filter_cons_of_neg (by rw [Bool.and_eq_true, decide_eq_true_eq, decide_eq_true_eq]; exact fun h => c ⟨h.2, h.1⟩)]
      omega
theorem Stp.shown (ok : Rows4 rows) (s : Stp rows lf ps hour) (done : ∀ x : Int, 0 ≤ x → x < rows.length → lfA lf x = 0) (il : IsPL rows ps L) :
    ∃ x y : Int, (0 ≤ x ∧ x < rows.length) ∧ (0 ≤ y ∧ y < rows.length) ∧ thr rows (frm_ rows y) (due_ rows x) ≠ [] ∧ IsPB rows (thr rows (frm_ rows y) (due_ rows x)) L := by
  obtain ⟨p, hp, eL⟩ := il.1
  obtain ⟨t, t1, t2⟩ := s.why p hp
  obtain ⟨x, h, b, rfl, x0, x1, _, _, _⟩ := s.pc p hp
  have t1 : t ≤ frm_ rows x := t1
  have t2 : b - t ≤ sumOf (sel rows t (due_ rows x) (len_ rows)) (Bs.upTo rows.length) := t2
  have eL : L = b - due_ rows x := eL
  have xm : x ∈ thr rows t (due_ rows x) := thr_mem.mpr ⟨⟨x0, x1⟩, t1, Int.le_refl _⟩
  -- the least FROM among them
  have least : ∀ l : List Int, l ≠ [] → ∃ y ∈ l, ∀ z ∈ l, frm_ rows y ≤ frm_ rows z := by
    intro l
    induction l with
    | nil => exact fun h => absurd rfl h
    | cons a l ih =>
      intro _
      by_cases hl : l = []
      · subst hl
        exact ⟨a, List.mem_cons_self, fun z hz => by rw [List.mem_singleton.mp hz]; exact Int.le_refl _⟩
      · obtain ⟨y, hy, le⟩ := ih hl
        by_cases c : frm_ rows a ≤ frm_ rows y
        · exact ⟨a, List.mem_cons_self, fun z hz => by
            rcases List.mem_cons.mp hz with rfl | hz
            · exact Int.le_refl _
            · have := le z hz
              omega⟩
        · exact ⟨y, List.mem_cons_of_mem _ hy, fun z hz => by
            rcases List.mem_cons.mp hz with rfl | hz
            · omega
            · exact le z hz⟩
  obtain ⟨y, hy, le⟩ := least _ (List.ne_nil_of_mem xm)
  have ym := thr_mem.mp hy
  have same : thr rows (frm_ rows y) (due_ rows x) = thr rows t (due_ rows x) := by
    unfold thr
    refine List.filter_congr fun z hz => ?_
    have hz := upTo_mem.mp hz
    by_cases c : due_ rows z ≤ due_ rows x
    · rw [decide_eq_true c, Bool.and_true, Bool.and_true]
      refine decide_eq_decide.mpr ⟨fun h => by omega, fun h => le z (thr_mem.mpr ⟨hz, h, c⟩)⟩
    · rw [decide_eq_false c, Bool.and_false, Bool.and_false]
  refine ⟨x, y, ⟨x0, x1⟩, ym.1, by rw [same]; exact List.ne_nil_of_mem xm, ?_⟩
  rw [same]
  have pb : IsPB rows (thr rows t (due_ rows x)) (frm_ rows y + sumOf (len_ rows) (thr rows t (due_ rows x)) - due_ rows x) := ⟨frm_ rows y, due_ rows x, ⟨y, hy, rfl⟩, le, ⟨x, xm, rfl⟩, fun z hz => (thr_mem.mp hz).2.2, rfl⟩
  have up := s.most ok done il (S := thr rows t (due_ rows x)) ((upTo_nodup _).sublist List.filter_sublist) (fun z hz => (thr_mem.mp hz).1) pb
  rw [sel_filter] at t2
  have t2 : b - t ≤ sumOf (len_ rows) (thr rows t (due_ rows x)) := t2
  have : L = frm_ rows y + sumOf (len_ rows) (thr rows t (due_ rows x)) - due_ rows x := by omega
  rw [this]
  exact pb
end
/-- ends where each goes from its begin on -/
def endW (rows : List (List Int)) : Int → List Int → Int
  | e, [] => e
  | e, x :: o => endW rows (max e (frm_ rows x) + len_ rows x) o
theorem endW_snoc (rows : List (List Int)) (x : Int) : ∀ (o : List Int) (e : Int), endW rows e (o ++ [x]) = max (endW rows e o) (frm_ rows x) + len_ rows x
  | [], _ => rfl
  | y :: o, e => endW_snoc rows x o _
theorem endW_set {rows : List (List Int)} (ok : Rows4 rows) {S : List Int} {f : Int} (a : ∀ x ∈ S, f ≤ frm_ rows x) : ∀ qs : List Int, (∀ x ∈ qs, 0 ≤ x ∧ x < rows.length) →
    (qs.reverse.filter fun x => decide (x ∈ S)) = [] ∨ f + sumOf (len_ rows) (qs.reverse.filter fun x => decide (x ∈ S)) ≤ endW rows 0 qs.reverse
  | [], _ => .inl rfl
  | x :: qs, bd => by
    have ih := endW_set ok a qs fun z hz => bd z (List.mem_cons_of_mem _ hz)
    have l1 := (ok.at (bd x List.mem_cons_self).1 (bd x List.mem_cons_self).2).2.1
    rw [List.reverse_cons, List.filter_append, endW_snoc]
    by_cases c : x ∈ S
    · have := a x c
      rw [List.filter_cons_of_pos (by simpa using c), List.filter_nil, sumOf_append, sumOf_cons, sumOf_nil]
      refine .inr ?_
      rcases ih with z | z
      · rw [z, sumOf_nil]
        omega
      · omega
    · rw [List.filter_cons_of_neg (by simpa using c), List.filter_nil, List.append_nil]
      rcases ih with z | z
      · exact .inl z
      · exact .inr (by omega)
theorem later_ge {rows : List (List Int)} (ok : Rows4 rows) {S o : List Int} {v : Int} (h : IsPB rows S v) (nd : S.Nodup) (bd : ∀ x ∈ S, 0 ≤ x ∧ x < rows.length) (io : IsOrder o rows.length) : ∃ (i : Nat) (x : Int), o[i]? = some x ∧ v ≤ endW rows 0 (o.take (i + 1)) - due_ rows x := by
  obtain ⟨f, d, ⟨x, hx, hf⟩, a, ⟨y, hy, hd⟩, b, rfl⟩ := h
  obtain ⟨i, z, hz, zS, behind⟩ := last_in (P := fun x => x ∈ S) (l := o) ⟨x, io.all (bd x hx).1 (bd x hx).2, hx⟩
  refine ⟨i, z, hz, ?_⟩
  have e := endW_set ok a (o.take (i + 1)).reverse fun w hw => io.bd (List.mem_of_mem_take (List.mem_reverse.mp hw))
  rw [List.reverse_reverse] at e
  have mz : z ∈ (o.take (i + 1)).filter fun x => decide (x ∈ S) := List.mem_filter.mpr ⟨by rw [take_snoc hz]; exact List.mem_append_right _ List.mem_cons_self, decide_eq_true zS⟩
  have le : sumOf (len_ rows) S ≤ sumOf (len_ rows) ((o.take (i + 1)).filter fun x => decide (x ∈ S)) := sumOf_sub nd (fun w hw => by
    have := io.all (bd w hw).1 (bd w hw).2
    rw [← List.take_append_drop (i + 1) o] at this
    rcases List.mem_append.mp this with k | k
    · exact List.mem_filter.mpr ⟨k, decide_eq_true hw⟩
    · exact absurd hw (behind w k)) fun w hw => by
    have := io.bd (List.mem_of_mem_take (List.mem_filter.mp hw).1)
    have := (ok.at this.1 this.2).2.1
    omega
  have := b z zS
  rcases e with e | e
  · rw [e] at mz
    cases mz
  · omega
end Bs

namespace Bs
open PySem PySem.Spec PyProof.Rows L2
open Evl (Ex)
/-! ### a set comprehension over rows -/
def ScC (w : World) (J : It) (g : TG) (tt : TT) (te : TE) (τ : L2.St) (vs : List Nat) (D : Addr) (Qd : Hp → Prop) (H : Hp) : Prop := ∃ W : Nat → Nat → Hp → Prop, (∃ m, W 0 m H) ∧ ∀ i m H, W i m H →
  (J.stop i H ∧ Qd H) ∨ (J.go i H ∧ ∃ Nx : Hp → Prop, (∀ H', Nx H' → ∃ m', m' < m ∧ W (i + 1) m' H') ∧ ∀ x H', J.yld i H x H' → g x τ H' fun σ2 H2 => wipe σ2 vs = τ ∧ tt σ2 H2 fun b H3 =>
    if b = true then te σ2 H3 fun y H4 => ∃ (k : Int) (S : Int → Bool) (n : Nat), y = .int k ∧ H4 D = some (SetO w D S n) ∧ n + 1 < scanBound ∧ Nx (upd H4 D (SetO w D (fun j => S j || decide (j = k)) (if S k = true then n else n + 1))) else Nx H3)
theorem q_scI {w : World} {wi : TI} {g : TG} {tt : TT} {te : TE} {vs : List Nat} {σ τ : L2.St} {H : Hp} {Q : VK} (e : wipe σ vs = τ) (q : wi σ H fun J H1 => ∀ D, H1 D = none → ScC w J g tt te τ vs D (fun H2 => Q (.ref D) H2) (upd H1 D (SetO w D (fun _ => false) 0))) : tScI w wi g tt te vs σ H Q := by
  subst e
  exact q
theorem sc_mapR {w : World} {K : PySem.W.Frag} {g : TG} {te : TE} {τ : L2.St} {vs : List Nat} {D : Addr} {Qd : Hp → Prop} {H : Hp} {a : Addr} {xs : List V} {rows : List (List Int)} (fn : List Int → Int) (nD : H D = none) (ha : H a = some (.lst xs)) (ts : Ts H xs rows) (small : rows.length ≤ 60)
    (turn : ∀ (t : Addr) (r : List Int) (H1 : Hp), r ∈ rows → Ex H H1 → H1 t = some (.tup (r.map V.int)) → ∀ R : VK, (∀ H2, Ex H1 H2 → R (.int (fn r)) H2) → TurnE g tYes te τ vs (.ref t) R H1)
    (q : ∀ H' S n, Ex H H' → H' D = some (SetO w D S n) → n ≤ rows.length → (∀ k, S k = true ↔ ∃ r ∈ rows, fn r = k) → Qd H') : ScC w (Itl K a) g tYes te τ vs D Qd (upd H D (SetO w D (fun _ => false) 0)) := by
  have l := ts.len
  refine ⟨fun i m H' => m = xs.length - i ∧ i ≤ xs.length ∧ Ex H H' ∧ ∃ S n, H' D = some (SetO w D S n) ∧ n ≤ i ∧ ∀ k, S k = true ↔ ∃ r ∈ rows.take i, fn r = k, ⟨xs.length, by simp, Nat.zero_le _, Ex.new nD, _, 0, upd_same, Nat.le_refl _, fun k => ?_⟩, ?_⟩
  · constructor
    · intro h
      cases h
    · rintro ⟨r, hr, _⟩
      simp at hr
  rintro i m H' ⟨rfl, hi, e, S, n, hD, hn, hS⟩
  have sq : SqL K H' a xs := SqL.of (e _ _ ha)
  by_cases hlt : i < xs.length
  · refine .inr ⟨⟨xs, xs[i], sq, by simp [hlt]⟩, fun H'' => Ex H H'' ∧ ∃ S n, H'' D = some (SetO w D S n) ∧ n ≤ i + 1 ∧ ∀ k, S k = true ↔ ∃ r ∈ rows.take (i + 1), fn r = k, fun H'' p => ⟨xs.length - (i + 1), by omega, rfl, hlt, p⟩, fun x H'' y => ?_⟩
    obtain ⟨ey, y⟩ := y
    subst ey
    have hx := y xs sq
    obtain ⟨t, r, rfl, hr, ht⟩ := ts.get hx
    refine turn t r _ (List.mem_of_getElem? hr) e (e _ _ ht) _ fun H2 e2 => ?_
    refine ⟨fn r, S, n, rfl, e2 _ _ hD, by unfold scanBound; omega, (e.trans e2).mut nD, _, _, upd_same, ?_, fun k => ?_⟩
    · split <;> omega
    · rw [Bool.or_eq_true, decide_eq_true_eq, hS k, take_snoc hr]
      constructor
      · rintro (⟨z, hz, h⟩ | h)
        · exact ⟨z, List.mem_append_left _ hz, h⟩
        · exact ⟨r, List.mem_append_right _ List.mem_cons_self, h.symm⟩
      · rintro ⟨z, hz, h⟩
        rcases List.mem_append.mp hz with hz | hz
        · exact .inl ⟨z, hz, h⟩
        · rw [List.mem_singleton.mp hz] at h
          exact .inr h.symm
  · have ei : i = xs.length := by omega
    subst ei
    rw [l, List.take_length] at hS
    exact .inl ⟨⟨xs, sq, Nat.le_refl _⟩, q H' S n e hD (by omega) hS⟩
/-- the truth of a thing -/
def tTruK (K : PySem.W.Frag) (ta : TE) : TT := fun σ H Q => ta σ H fun x H' => ∃ k, TruV K x H' k ∧ Q k H'
theorem pt_truthK {X : Cx} {K : PySem.W.Frag} {a : Expr} {ta : TE} (ha : PE X a ta) (he : ∀ whole, isTrue a X.env whole = (do let v ← whole; standAt a.pos; holding [v] (truthy v))) (h : X.K = K := by rfl) : PT X a (tTruK K ta) := h ▸ pt_truth ha he
theorem q_truK {K : PySem.W.Frag} {ta : TE} {σ : L2.St} {H : Hp} {Q : Bool → Hp → Prop} (q : ta σ H fun x H' => ∃ k, TruV K x H' k ∧ Q k H') : tTruK K ta σ H Q := q
end Bs

namespace Bs
open PySem PySem.Spec PyProof.Rows L2
open Evl (Ex)
/-! ### sorted(xs, reverse=True), pairs of whole numbers -/
def rSortedPOR (K : PySem.W.Frag) : List V → List V → Hp → VK → Prop := fun vs zs H Q => ∃ (a : Addr) (xs : List V) (k : V → Int × Int), vs = [V.ref a] ∧ zs = [.bl true] ∧ SqL K H a xs ∧ (∀ x ∈ xs, ∃ t, x = V.ref t ∧ H t = some (.tup [.int (k x).1, .int (k x).2])) ∧
  ∀ (ys : List V) (p : Addr), SrtO.Srtd (ltP k) ys → ys.Perm xs → H p = none → Q (.ref p) (upd H p (.lst ys.reverse))
theorem cr_sortedPOR {X : Cx} {K : PySem.W.Frag} (hK : X.K = K := by rfl) : CallRK X (.builtin "sorted") [Str.ofString "reverse"] (rSortedPOR K) := by
  subst hK
  intro pins s σ H vs zs us ws Q I r rz h
  obtain ⟨a, xs, k, rfl, rfl, hs, hx, q⟩ := h
  obtain rfl := Vals.ref1 r
  obtain ⟨w1, rfl, e1⟩ := vals1 rz
  obtain rfl : w1 = Value.bool true := e1
  obtain ⟨its, rv, hl, hz⟩ := I.list hs
  obtain ⟨e1, e2⟩ := refs_back rv fun x m => by
    obtain ⟨t, e, _⟩ := hx x m
    exact ⟨t, e⟩
  have hp : ∀ v ∈ its, Srt.IsPair s.heap v (k (backV v)).1 (k (backV v)).2 := fun v hv => by
    obtain ⟨t, rfl⟩ := e2 v hv
    have hm : V.ref t ∈ xs := by rw [e1]; exact List.mem_map.mpr ⟨_, hv, rfl⟩
    obtain ⟨t', e, ht⟩ := hx _ hm
    cases e
    obtain ⟨_, its2, r2, o, ho, hc, n, hd⟩ := I.hok _ _ ht
    obtain ⟨u1, u2, rfl, ri, rj⟩ := vals2 r2
    obtain ⟨t1, rfl⟩ := ri
    obtain ⟨t2, rfl⟩ := rj
    exact ⟨t, o, t1, t2, n, rfl, ho, hc, hd⟩
  refine SrtR.sorted_ordK (b := true) (fun _ => rfl) (PyProof.Rows.args_sorted_rev _ _) (fun _ => PyProof.Rows.args_list_sort_rev _ _) (SrtO.swo_lex fun u => k (backV u)) hl.isList (by rw [← rv.length]; exact hz)
    (fun h2 h₁ a' hob keep => SrtO.pairs_sortableO (by omega) (fun v hv => by
      obtain ⟨t, o, t1, t2, n, e, ho, hc, hd⟩ := hp v hv
      exact ⟨t, o, t1, t2, n, e, (keep t o ho).2, hc, hd⟩) fun o e => by
      rw [show _ = _ from hob] at e
      cases e
      exact fun z => by
        injection z with z3
        exact absurd z3 (by decide)) fun out h1 h2 => ?_
  have h2p : out.Perm its := h2.perm.trans (List.reverse_perm _)
  have h3 : ∀ u ∈ out, ∃ a, u = Value.ref a := fun u hu => e2 u (h2p.mem_iff.mp hu)
  have hb : (out.map backV).Perm xs := by
    rw [e1]
    exact h2p.map backV
  obtain ⟨ep, he'⟩ := PyProof.Rows.sortedAll_at s.heap its (out.toArray.reverse)
  have hlen : (out.map backV).reverse.length ≤ sizeLine := by
    rw [List.length_reverse, hb.length_eq]
    exact hz
  have er : (out.map backV).reverse = out.reverse.map backV := by rw [List.map_reverse]
  have h4 : ∀ u ∈ out.reverse, ∃ a, u = Value.ref a := fun u hu => h3 u (List.mem_reverse.mp hu)
  have e0 : out.reverse.toArray = out.toArray.reverse := by simp
  exact ⟨.ref _, upd H (s.heap.objs.size + 1) (.lst (out.map backV).reverse), I.laid (t' := s.toks) (fun _ _ => PyProof.Rows.sortedAll_old) (Nat.le_succ _) ⟨hlen, _, ep, by rw [er]; exact vals_back h4, by rw [e0]; exact he'⟩, rfl, q _ _ (SrtO.srtd_map h1) hb (I.hok.fresh (Nat.le_succ _))⟩
end Bs

namespace Bs
open PySem PySem.Spec PyProof.Rows L2
open Evl (Ex)
/-! ### a set comprehension over a list of whole numbers -/
theorem sc_mapI {w : World} {K : PySem.W.Frag} {g : TG} {te : TE} {τ : L2.St} {vs : List Nat} {D : Addr} {Qd : Hp → Prop} {H : Hp} {a : Addr} {ns : List Int} (fn : Int → Int) (nD : H D = none) (ha : H a = some (.lst (ns.map V.int))) (small : ns.length ≤ 60)
    (turn : ∀ (r : Int) (H1 : Hp), r ∈ ns → Ex H H1 → ∀ R : VK, (∀ H2, Ex H1 H2 → R (.int (fn r)) H2) → TurnE g tYes te τ vs (.int r) R H1)
    (q : ∀ H' S n, Ex H H' → H' D = some (SetO w D S n) → n ≤ ns.length → (∀ k, S k = true ↔ ∃ r ∈ ns, fn r = k) → Qd H') : ScC w (Itl K a) g tYes te τ vs D Qd (upd H D (SetO w D (fun _ => false) 0)) := by
  have l : (ns.map V.int).length = ns.length := List.length_map _
  refine ⟨fun i m H' => m = (ns.map V.int).length - i ∧ i ≤ (ns.map V.int).length ∧ Ex H H' ∧ ∃ S n, H' D = some (SetO w D S n) ∧ n ≤ i ∧ ∀ k, S k = true ↔ ∃ r ∈ ns.take i, fn r = k, ⟨(ns.map V.int).length, by simp, Nat.zero_le _, Ex.new nD, _, 0, upd_same, Nat.le_refl _, fun k => ?_⟩, ?_⟩
  · constructor
    · intro h
      cases h
    · rintro ⟨r, hr, _⟩
      simp at hr
  rintro i m H' ⟨rfl, hi, e, S, n, hD, hn, hS⟩
  have sq : SqL K H' a (ns.map V.int) := SqL.of (e _ _ ha)
  by_cases hlt : i < (ns.map V.int).length
  · refine .inr ⟨⟨_, (ns.map V.int)[i], sq, by simp [hlt]⟩, fun H'' => Ex H H'' ∧ ∃ S n, H'' D = some (SetO w D S n) ∧ n ≤ i + 1 ∧ ∀ k, S k = true ↔ ∃ r ∈ ns.take (i + 1), fn r = k, fun H'' p => ⟨(ns.map V.int).length - (i + 1), by omega, rfl, hlt, p⟩, fun x H'' y => ?_⟩
    obtain ⟨ey, y⟩ := y
    subst ey
    have hx := y _ sq
    obtain ⟨r, hr, rfl⟩ := map_get hx
    refine turn r _ (List.mem_of_getElem? hr) e _ fun H2 e2 => ?_
    refine ⟨fn r, S, n, rfl, e2 _ _ hD, by unfold scanBound; omega, (e.trans e2).mut nD, _, _, upd_same, ?_, fun k => ?_⟩
    · split <;> omega
    · rw [Bool.or_eq_true, decide_eq_true_eq, hS k, take_snoc hr]
      constructor
      · rintro (⟨z, hz, h⟩ | h)
        · exact ⟨z, List.mem_append_left _ hz, h⟩
        · exact ⟨r, List.mem_append_right _ List.mem_cons_self, h.symm⟩
      · rintro ⟨z, hz, h⟩
        rcases List.mem_append.mp hz with hz | hz
        · exact .inl ⟨z, hz, h⟩
        · rw [List.mem_singleton.mp hz] at h
          exact .inr h.symm
  · have ei : i = (ns.map V.int).length := by omega
    subst ei
    rw [l, List.take_length] at hS
    exact .inl ⟨⟨_, sq, Nat.le_refl _⟩, q H' S n e hD (by omega) hS⟩
/-! ### sorted(list of pairs of whole numbers, reverse=True), by rows -/
theorem q_ckw {r : List V → List V → Hp → VK → Prop} {t tk : TA} {σ : L2.St} {H : Hp} {Q : VK} (q : t σ H fun vs H1 => tk σ H1 fun zs H2 => r vs zs H2 Q) : tCKw r t tk σ H Q := q
def pairOf (H : Hp) : V → Int × Int
  | .ref t => match H t with
    | some (.tup [.int i, .int j]) => (i, j)
    | _ => (0, 0)
  | _ => (0, 0)
/-- the rows (r t, t) of the tasks l, told falling: o is l in that order -/
theorem q_sortPOR {K : PySem.W.Frag} {H : Hp} {Q : VK} {a : Addr} {xs : List V} {l : List Int} (r : Int → Int) (ha : H a = some (.lst xs)) (ts : Ts H xs (l.map fun t => [r t, t]))
    (q : ∀ (o : List Int) (ys : List V) (p : Addr), o.Perm l → o.Pairwise (fun x y => ¬ (r x < r y ∨ (r x = r y ∧ x < y))) → Ts H ys (o.map fun t => [r t, t]) → H p = none → Q (.ref p) (upd H p (.lst ys))) : rSortedPOR K [.ref a] [.bl true] H Q := by
  have at_ : ∀ x ∈ xs, ∃ (t : Addr) (n : Int), n ∈ l ∧ x = V.ref t ∧ H t = some (.tup [.int (r n), .int n]) ∧ pairOf H x = (r n, n) := fun x m => by
    obtain ⟨i, hi⟩ := List.mem_iff_getElem?.mp m
    obtain ⟨t, row, rfl, hr, ht⟩ := ts.get hi
    rw [List.getElem?_map] at hr
    obtain ⟨n, hn, rfl⟩ := Option.map_eq_some_iff.mp hr
    have ht' : H t = some (.tup [.int (r n), .int n]) := ht
    refine ⟨t, n, List.mem_of_getElem? hn, rfl, ht', ?_⟩
    show (match H t with
    | some (.tup [.int i, .int j]) => (i, j)
    | _ => (0, 0)) = _
    rw [ht']
  have en : xs.map (fun x => (pairOf H x).2) = l := by
    refine List.ext_getElem? fun i => ?_
    rw [List.getElem?_map]
    by_cases c : i < xs.length
    · obtain ⟨t, row, ex, hr, ht⟩ := ts.get (List.getElem?_eq_getElem c)
      rw [List.getElem?_map] at hr
      obtain ⟨n, hn, rfl⟩ := Option.map_eq_some_iff.mp hr
      have ht' : H t = some (.tup [.int (r n), .int n]) := ht
      rw [List.getElem?_eq_getElem c, hn, ex]
      show some (match H t with
      | some (.tup [.int i, .int j]) => (i, j)
      | _ => (0, 0)).2 = _
      rw [ht']
    · have hl := ts.len
      rw [List.length_map] at hl
      rw [List.getElem?_eq_none (by omega), List.getElem?_eq_none (by omega)]
      rfl
  refine ⟨a, xs, pairOf H, rfl, rfl, SqL.of ha, fun x m => ?_, fun ys p hs hp np => ?_⟩
  · obtain ⟨t, n, _, e, ht, ek⟩ := at_ x m
    exact ⟨t, e, by rw [ek]; exact ht⟩
  · refine q (ys.reverse.map fun x => (pairOf H x).2) ys.reverse p ?_ ?_ ?_ np
    · rw [← en]
      exact ((List.reverse_perm ys).trans hp).map _
    · rw [List.pairwise_map, List.pairwise_reverse]
      refine (List.Pairwise.and_mem.mp hs).imp fun {x y} h => ?_
      obtain ⟨mx, my, h⟩ := h
      obtain ⟨_, n, _, _, _, ex⟩ := at_ x (hp.mem_iff.mp mx)
      obtain ⟨_, m, _, _, _, ey⟩ := at_ y (hp.mem_iff.mp my)
      have h' : SrtO.lexB (pairOf H y) (pairOf H x) = false := h
      rw [ex, ey] at h' ⊢
      unfold SrtO.lexB at h'
      dsimp only at h' ⊢
      rintro (z | ⟨z1, z2⟩)
      · rw [if_neg (by omega)] at h'
        exact absurd z (of_decide_eq_false h')
      · rw [if_pos z1] at h'
        exact absurd z2 (of_decide_eq_false h')
    · refine Ts.of (by rw [List.length_map, List.length_map]) fun i x row hx hr => ?_
      have m : x ∈ xs := hp.mem_iff.mp (List.mem_reverse.mp (List.mem_of_getElem? hx))
      obtain ⟨t, n, _, e, ht, ek⟩ := at_ x m
      rw [List.map_map, List.getElem?_map, hx] at hr
      have hr' : [r (pairOf H x).2, (pairOf H x).2] = row := Option.some.inj hr
      rw [ek] at hr'
      subst hr'
      exact ⟨t, e, ht⟩
end Bs

namespace Bs
open PySem PySem.Spec PyProof.Rows L2
open Evl (Ex)
/-! ### xs[::st], st told -/
def tStepL (K : PySem.W.Frag) (te : TE) (ts : TO) : TE := fun σ H Q => te σ H fun x H1 => ts σ H1 fun o H2 => ∃ a xs, x = .ref a ∧ SqL K H2 a xs ∧
  ((o = some (-1) ∧ ∀ p, H2 p = none → Q (.ref p) (upd H2 p (.lst xs.reverse))) ∨ (o = some 1 ∧ ∀ p, H2 p = none → Q (.ref p) (upd H2 p (.lst xs))))
theorem pick_one (items : Array Value) : slicePick items none none (some 1) = items := by
  have h : slicePick items none none (some 1) = slicePick items none none none := rfl
  rw [h, slicePick_cut]
  rw [HT.sIx_none, HT.sIx_none, List.drop_zero, Nat.sub_zero, List.take_length]
theorem pe_stepL {X : Cx} {e st : Expr} {te : TE} {ts : TO} {p3 pos : Pos} (he : PE X e te) (hst : PO X (some st) ts)
    (hop : ∀ x y, subscripted (.Slice none none (some st) p3) false x y = operate [x, y] (getItem x y) := by intro x y; with_unfolding_all rfl) : PE X (.Subscript e (.Slice none none (some st) p3) pos) (tStepL X.K te ts) := by
  refine ⟨fun pins s σ H Q I h => ?_⟩
  refine Subscript_ (thn (he.run pins s σ H _ I h) fun v s1 ⟨x, H1, I1, r1, q1⟩ => ?_)
  refine wpAny_Slice (thn (po_none.run pins s1 σ H1 (fun o H2 => o = none ∧ H2 = H1) I1 ⟨rfl, rfl⟩) fun vl s2 ⟨l, H2, I2, pl, el, e2⟩ => ?_)
  subst el e2
  refine thn (po_none.run pins s2 σ H2 (fun o H3 => o = none ∧ H3 = H2) I2 ⟨rfl, rfl⟩) fun vu s3 ⟨u, H3, I3, pu, eu, e3⟩ => ?_
  subst eu e3
  refine thn (hst.run pins s3 σ H3 _ I3 q1) fun vs s4 ⟨o, H4, I4, ps, a, xs, ex, hx, q⟩ => ?_
  subst ex
  cases r1
  have I5 : L2.Inv X pins σ H4 { s4 with heap := s4.heap.push { cls := .type "slice", data := .fields #[vl, vu, vs] } } := I4.kept (t' := s4.toks) fun b ob q => Heap.get?_push_of_some _ q
  obtain ⟨its, r, ht, hz⟩ := I5.list hx
  have hlen := r.length
  show wpAny (model X.prog X.w) X.A (subscriptTail e (.Slice none none (some st) p3) (.ref a) (.ref s4.heap.objs.size)) (EP X pins σ Q) X.xe { s4 with heap := s4.heap.push { cls := .type "slice", data := .fields #[vl, vu, vs] } }
  refine tail_any (ops := [.ref a, .ref s4.heap.objs.size]) ht.isList.typeIs (PySem.slot_list_getitem.lookup) ?_ (hop _ _)
  rcases q with ⟨eo, q⟩ | ⟨eo, q⟩
  · subst eo
    refine wpAny_getItem_list_slice ht.isList (Heap.IsSliceOf.new _ vl vu vs) pl pu ps (by decide) ?_ (by rw [List.size_toArray]; omega)
    rw [PySem.W.krv_pick]
    refine ⟨.ref _, _, I5.laid (t' := s4.toks) (o := .lst xs.reverse) (fun b ob q => Heap.get?_push_of_some _ q) (Nat.le_refl _) ?_, rfl, q _ (I5.hok.fresh (Nat.le_refl _))⟩
    exact ⟨by rw [List.length_reverse]; exact hz, _, 0, r.reverse, Heap.get?_push_size _ rfl⟩
  · subst eo
    refine wpAny_getItem_list_slice ht.isList (Heap.IsSliceOf.new _ vl vu vs) pl pu ps (by decide) ?_ (by rw [List.size_toArray]; omega)
    rw [pick_one]
    refine ⟨.ref _, _, I5.laid (t' := s4.toks) (o := .lst xs) (fun b ob q => Heap.get?_push_of_some _ q) (Nat.le_refl _) ?_, rfl, q _ (I5.hok.fresh (Nat.le_refl _))⟩
    exact ⟨hz, _, 0, r, Heap.get?_push_size _ rfl⟩
theorem pe_stepLK {X : Cx} {K : PySem.W.Frag} {e st : Expr} {te : TE} {ts : TO} {p3 pos : Pos} (he : PE X e te) (hst : PO X (some st) ts) (h : X.K = K := by rfl)
    (hop : ∀ x y, subscripted (.Slice none none (some st) p3) false x y = operate [x, y] (getItem x y) := by intro x y; with_unfolding_all rfl) : PE X (.Subscript e (.Slice none none (some st) p3) pos) (tStepL K te ts) := h ▸ pe_stepL he hst hop
section
variable {K : PySem.W.Frag} {σ : L2.St} {H : Hp} {Q : VK}
theorem q_stepL {te : TE} {ts : TO} (q : te σ H fun x H1 => ts σ H1 fun o H2 => ∃ a xs, x = .ref a ∧ SqL K H2 a xs ∧
  ((o = some (-1) ∧ ∀ p, H2 p = none → Q (.ref p) (upd H2 p (.lst xs.reverse))) ∨ (o = some 1 ∧ ∀ p, H2 p = none → Q (.ref p) (upd H2 p (.lst xs))))) : tStepL K te ts σ H Q := q
end
theorem map_erase {α β : Type} (f : α → β) : ∀ (l : List α) (k : Nat), (l.map f).eraseIdx k = (l.eraseIdx k).map f
  | [], _ => rfl
  | _ :: _, 0 => rfl
  | x :: l, k + 1 => by
    show f x :: (l.map f).eraseIdx k = f x :: (l.eraseIdx k).map f
    rw [map_erase f l k]
theorem erase_perm {α : Type} : ∀ (l : List α) (k : Nat) (h : k < l.length), (l[k] :: l.eraseIdx k).Perm l
  | x :: l, 0, _ => List.Perm.refl _
  | x :: l, k + 1, h => ((List.Perm.swap x (l[k]'(Nat.lt_of_succ_lt_succ h)) (l.eraseIdx k)).trans (List.Perm.cons x (erase_perm l k (Nat.lt_of_succ_lt_succ h))))
end Bs

namespace Bs
open PySem PySem.Spec PyProof.Rows L2
open Evl (Ex)
section
variable {K : PySem.W.Frag} {σ : L2.St} {H : Hp} {Q : VK} {nx bk ct : L2.St → Hp → Prop} {rt : VK}
theorem q_par3 {i j l : Nat} {ta : TA} (q : ta σ H fun vs H1 => ∃ u v w, vs = [u, v, w] ∧ nx (((σ.set i (some u)).set j (some v)).set l (some w)) H1) : tPar3 i j l ta ⟨nx, rt, bk, ct⟩ σ H := q
theorem q_extend {l b : Addr} {xs zs : List V} (h : H l = some (.lst xs)) (h' : H b = some (.lst zs)) (s : xs.length + zs.length ≤ 16000000) (q : Q .non (upd H l (.lst (xs ++ zs)))) : rExtend (.ref l) [.ref b] H Q := ⟨l, b, xs, zs, rfl, rfl, h, h', by rw [sizeLine_eq]; omega, q⟩
theorem q_rng2i {ta : TA} {P : It → Hp → Prop} (q : ta σ H fun vs H1 => ∃ i j : Int, vs = [.int i, .int j] ∧ (-(2 ^ 62) ≤ i ∧ i < 2 ^ 62 ∧ -(2 ^ 62) ≤ j ∧ j < 2 ^ 62) ∧ P (Itr i (j - i).toNat) H1) : iRng2 ta σ H P := q
theorem loop_rng2 {lo : Int} {n : Nat} {g : TG} {tb : TS} (Pv : Nat → L2.St → Hp → Prop) (h0 : Pv 0 σ H)
    (hs : ∀ (i : Nat) σ H, i < n → Pv i σ H → g (.int (lo + (i : Nat))) σ H fun σ2 H2 => tb ⟨Pv (i + 1), rt, nx, Pv (i + 1)⟩ σ2 H2) (hd : ∀ σ H, Pv n σ H → nx σ H) : Loop (Itr lo n) g tb nx rt σ H :=
  for_range (D := ⟨nx, rt, fun _ _ => False, fun _ _ => False⟩) Pv h0 hs hd
variable {g : TG} {tt : TT} {te : TE} {vs : List Nat} {τ : L2.St} {D : Addr} {Qd : Hp → Prop}
/-- a comprehension over range(lo, hi) -/
theorem lcp_range2 {lo : Int} {n : Nat} (Pv : Nat → Hp → Prop) (h0 : Pv 0 H) (hs : ∀ (i : Nat) H, i < n → Pv i H → TurnC g tt te τ vs D (.int (lo + (i : Nat))) (Pv (i + 1)) H) (hd : ∀ H, Pv n H → Qd H) : LoopC (Itr lo n) g tt te τ vs D Qd H := by
  refine ⟨fun i m H => m = n - i ∧ i ≤ n ∧ Pv i H, ⟨n, by simp, Nat.zero_le _, h0⟩, ?_⟩
  rintro i m H ⟨rfl, hi, p⟩
  by_cases hlt : i < n
  · refine .inr ⟨hlt, Pv (i + 1), fun H' p' => ⟨n - (i + 1), by omega, rfl, hlt, p'⟩, fun x H' y => ?_⟩
    obtain ⟨e, y⟩ := y
    subst e y
    exact hs i _ hlt p
  · have e : i = n := by omega
    subst e
    exact .inl ⟨Nat.le_refl _, hd H p⟩
/-- none, or a whole number -/
def oiD : Option Int → PyData
  | some i => .int i
  | none => .none
def oiV : Option Int → V
  | some i => .int i
  | none => .non
theorem oi_td {H : Hp} : ∀ os : List (Option Int), TDs H (os.map oiV) (os.map oiD)
  | [] => .nil
  | none :: r => .cons .non (oi_td r)
  | some i :: r => .cons (.int i) (oi_td r)
theorem shaped_oi (os : List (Option Int)) : SeqAt.shaped (.list (os.map oiD)) = true :=
  shaped_rows (fun x => by cases x <;> rfl) (fun x => by cases x <;> exact Nat.zero_le _) os
theorem oiV_some (ns : List Int) : (ns.map some).map oiV = ns.map V.int := by
  rw [List.map_map]
  rfl
end
end Bs

namespace Bs
open PySem PySem.Spec PyProof.Rows L2
/-! ### earliest begins by an order: what heads keeps -/
structure Hd (E : List Ent) (D : List Int) (len fst T : Int → Int) : Prop where
  low : ∀ t, fst t ≤ T t
  ge : ∀ e ∈ E, e.1.1 ∈ D → T e.1.1 + len e.1.1 + e.2 ≤ T e.1.2
  tight : ∀ t, T t = fst t ∨ ∃ e ∈ E, e.1.2 = t ∧ e.1.1 ∈ D ∧ T t = T e.1.1 + len e.1.1 + e.2
def outs (E : List Ent) (x : Int) : List Ent := E.filter fun e => decide (e.1.1 = x)
/-- m of the ways out of x are gone along; z is x's end -/
structure HdI (E : List Ent) (D : List Int) (x : Int) (m : Nat) (z : Int) (len fst T : Int → Int) : Prop where
  low : ∀ t, fst t ≤ T t
  ge : ∀ e ∈ E, e.1.1 ∈ D → T e.1.1 + len e.1.1 + e.2 ≤ T e.1.2
  geX : ∀ e ∈ (outs E x).take m, z + e.2 ≤ T e.1.2
  end_ : z = T x + len x
  tight : ∀ t, T t = fst t ∨ ∃ e ∈ E, e.1.2 = t ∧ e.1.1 ∈ D ++ [x] ∧ T t = T e.1.1 + len e.1.1 + e.2
theorem Hd.start (E : List Ent) (len fst : Int → Int) : Hd E [] len fst fst := ⟨fun _ => Int.le_refl _, (fun _ _ h => nomatch h), fun _ => .inl rfl⟩
theorem Hd.begin_ {E : List Ent} {D : List Int} {len fst T : Int → Int} (h : Hd E D len fst T) (x : Int) : HdI E D x 0 (T x + len x) len fst T := by
  refine ⟨h.low, h.ge, fun e m => by simp at m, rfl, fun t => ?_⟩
  rcases h.tight t with a | ⟨e, me, e1, e2, e3⟩
  · exact .inl a
  · exact .inr ⟨e, me, e1, List.mem_append_left _ e2, e3⟩
theorem HdI.done {E : List Ent} {D : List Int} {x z : Int} {m : Nat} {len fst T : Int → Int} (h : HdI E D x m z len fst T) (e : m = (outs E x).length) : Hd E (D ++ [x]) len fst T := by
  refine ⟨h.low, fun e' me d => ?_, h.tight⟩
  rcases List.mem_append.mp d with a | a
  · exact h.ge e' me a
  · have ex := List.mem_singleton.mp a
    have := h.geX e' (by
      rw [e, List.take_length]
      exact List.mem_filter.mpr ⟨me, decide_eq_true ex⟩)
    rw [ex, ← h.end_]
    exact this
theorem HdI.step {E : List Ent} {D : List Int} {x z : Int} {m : Nat} {len fst T T' : Int → Int} {e : Ent} (h : HdI E D x m z len fst T) (he : (outs E x)[m]? = some e) (off : e.1.2 ∉ D ++ [x])
    (at_ : T' e.1.2 = if z + e.2 > T e.1.2 then z + e.2 else T e.1.2) (els : ∀ t, t ≠ e.1.2 → T' t = T t) : HdI E D x (m + 1) z len fst T' := by
  have mem := List.mem_filter.mp (List.mem_of_getElem? he)
  have ex : e.1.1 = x := of_decide_eq_true mem.2
  have keep : ∀ t, t ∈ D ++ [x] → T' t = T t := fun t m => els t fun c => off (by rw [← c]; exact m)
  have up : ∀ t, T t ≤ T' t := fun t => by
    by_cases c : t = e.1.2
    · rw [c, at_]
      split <;> omega
    · rw [els t c]
      exact Int.le_refl _
  refine ⟨fun t => Int.le_trans (h.low t) (up t), fun e' me d => ?_, fun e' me => ?_, ?_, fun t => ?_⟩
  · rw [keep _ (List.mem_append_left _ d)]
    exact Int.le_trans (h.ge e' me d) (up _)
  · rw [List.take_add_one, he] at me
    rcases List.mem_append.mp me with a | a
    · exact Int.le_trans (h.geX e' a) (up _)
    · have : e' = e := List.mem_singleton.mp a
      subst this
      rw [at_]
      split <;> omega
  · rw [keep _ (List.mem_append_right _ (List.mem_singleton.mpr rfl))]
    exact h.end_
  · by_cases c : t = e.1.2
    · subst c
      by_cases g : z + e.2 > T e.1.2
      · rw [if_pos g] at at_
        refine .inr ⟨e, mem.1, rfl, List.mem_append_right _ (List.mem_singleton.mpr ex), ?_⟩
        rw [at_, keep _ (List.mem_append_right _ (List.mem_singleton.mpr ex)), h.end_, ex]
      · rw [if_neg g] at at_
        rw [at_]
        rcases h.tight e.1.2 with a | ⟨e', me, e1, e2, e3⟩
        · exact .inl a
        · exact .inr ⟨e', me, e1, e2, by rw [keep _ e2]; exact e3⟩
    · rw [els t c]
      rcases h.tight t with a | ⟨e', me, e1, e2, e3⟩
      · exact .inl a
      · exact .inr ⟨e', me, e1, e2, by rw [keep _ e2]; exact e3⟩
/-- what heads tells of each task -/
structure HeadsOf (E : List Ent) (n : Nat) (len fst T : Int → Int) : Prop where
  low : ∀ t, fst t ≤ T t
  ge : ∀ e ∈ E, T e.1.1 + len e.1.1 + e.2 ≤ T e.1.2
  tight : ∀ t, T t = fst t ∨ ∃ e ∈ E, e.1.2 = t ∧ T t = T e.1.1 + len e.1.1 + e.2
theorem Hd.full {E : List Ent} {n : Nat} {len fst T : Int → Int} {O : List Int} {P : List PP} (h : Hd E O len fst T) (r : OrderRes P n (some O)) (ok : ∀ e ∈ E, 0 ≤ e.1.1 ∧ e.1.1 < n) : HeadsOf E n len fst T := by
  refine ⟨h.low, fun e me => h.ge e me ?_, fun t => ?_⟩
  · obtain ⟨nd, ln, bd, _⟩ := r
    obtain ⟨a, b⟩ := ok e me
    refine Classical.byContradiction fun c => ?_
    have := len_le (n := n) (O := e.1.1 :: O) (List.nodup_cons.mpr ⟨c, nd⟩) fun t ht => by
      rcases List.mem_cons.mp ht with d | d
      · rw [d]
        exact ⟨a, b⟩
      · exact bd t d
    rw [List.length_cons, ln] at this
    omega
  · rcases h.tight t with a | ⟨e, me, e1, _, e3⟩
    · exact .inl a
    · exact .inr ⟨e, me, e1, e3⟩
/-- those behind come behind in the order -/
theorem behind_off {P : List PP} {n : Nat} {O : List Int} {k : Nat} {x : Int} (r : OrderRes P n (some O)) (hx : O[k]? = some x) {p : PP} (hp : p ∈ P) (e1 : p.1 = x) (b0 : 0 ≤ p.2) (b1 : p.2 < n) : p.2 ∉ O.take k ++ [x] := by
  obtain ⟨nd, ln, bd, ah⟩ := r
  rw [← take_next hx]
  intro m
  obtain ⟨j, hj⟩ := List.mem_iff_getElem?.mp m
  have lj : j < k + 1 := by
    have := (List.getElem?_eq_some_iff.mp hj).1
    rw [List.length_take] at this
    omega
  rw [List.getElem?_take_of_lt lj] at hj
  have x_in := ah j _ hj p hp rfl
  rw [e1] at x_in
  obtain ⟨i, hi⟩ := List.mem_iff_getElem?.mp x_in
  have li : i < j := by
    have := (List.getElem?_eq_some_iff.mp hi).1
    rw [List.length_take] at this
    omega
  rw [List.getElem?_take_of_lt li] at hi
  have := (List.getElem?_inj (List.getElem?_eq_some_iff.mp hi).1 nd).mp (hi.trans hx.symm)
  omega
end Bs

namespace Bs
open PySem PySem.Spec PyProof.Rows L2
/-! ### the same begins by many rounds -/
def Rnd (E : List Ent) (n : Nat) (len fst : Int → Int) (r i : Nat) (T : Int → Int) : Prop := ∀ (Z : Int → Int) (O : List Int), HeadsOf E n len fst Z → OrderRes (E.map (·.1)) n (some O) →
  (∀ t, T t ≤ Z t) ∧ (∀ t, fst t ≤ T t) ∧ (∀ (j : Nat) (t : Int), j < r → O[j]? = some t → T t = Z t) ∧ ∀ t, O[r]? = some t → ∀ e ∈ E.take i, e.1.2 = t → Z e.1.1 + len e.1.1 + e.2 ≤ T t
theorem Rnd.start (E : List Ent) (n : Nat) (len fst : Int → Int) : Rnd E n len fst 0 0 fst := fun Z O h _ => ⟨h.low, fun _ => Int.le_refl _, (fun j _ l _ => absurd l (Nat.not_lt_zero j)), fun _ _ e m => by simp at m⟩
theorem Rnd.step {E : List Ent} {n r i : Nat} {len fst T T' : Int → Int} {e : Ent} (h : Rnd E n len fst r i T) (he : E[i]? = some e)
    (at_ : T' e.1.2 = if T e.1.1 + len e.1.1 + e.2 > T e.1.2 then T e.1.1 + len e.1.1 + e.2 else T e.1.2) (els : ∀ t, t ≠ e.1.2 → T' t = T t) : Rnd E n len fst r (i + 1) T' := fun Z O hz ho => by
  obtain ⟨h1, h2, h3, h4⟩ := h Z O hz ho
  have up : ∀ t, T t ≤ T' t := fun t => by
    by_cases c : t = e.1.2
    · rw [c, at_]
      split <;> omega
    · rw [els t c]
      exact Int.le_refl _
  have le : ∀ t, T' t ≤ Z t := fun t => by
    by_cases c : t = e.1.2
    · rw [c, at_]
      have a := hz.ge e (List.mem_of_getElem? he)
      have b := h1 e.1.1
      have d := h1 e.1.2
      split <;> omega
    · rw [els t c]
      exact h1 t
  refine ⟨le, fun t => Int.le_trans (h2 t) (up t), fun j t lj hj => ?_, fun t ht e' me e2 => ?_⟩
  · have a := h3 j t lj hj
    have b := up t
    have c := le t
    omega
  · rw [List.take_add_one, he] at me
    rcases List.mem_append.mp me with a | a
    · exact Int.le_trans (h4 t ht e' a e2) (up t)
    · have : e' = e := List.mem_singleton.mp a
      subst this
      obtain ⟨nd, ln, bd, ah⟩ := ho
      have m := ah r t ht e'.1 (List.mem_map_of_mem (List.mem_of_getElem? he)) e2
      obtain ⟨j, hj⟩ := List.mem_iff_getElem?.mp m
      have lj : j < r := by
        have := (List.getElem?_eq_some_iff.mp hj).1
        rw [List.length_take] at this
        omega
      rw [List.getElem?_take_of_lt lj] at hj
      have z := h3 j _ lj hj
      rw [← e2, at_, ← z]
      split <;> omega
theorem Rnd.next {E : List Ent} {n r : Nat} {len fst T : Int → Int} (h : Rnd E n len fst r E.length T) : Rnd E n len fst (r + 1) 0 T := fun Z O hz ho => by
  obtain ⟨h1, h2, h3, h4⟩ := h Z O hz ho
  refine ⟨h1, h2, fun j t lj hj => ?_, fun _ _ e m => by simp at m⟩
  rcases Nat.lt_or_ge j r with c | c
  · exact h3 j t c hj
  · have : j = r := by omega
    subst this
    rcases hz.tight t with a | ⟨e, me, e1, e3⟩
    · have x := h1 t
      have y := h2 t
      omega
    · have x := h1 t
      have y := h4 t hj e (by rw [List.take_length]; exact me) e1
      omega
theorem Rnd.full {E : List Ent} {n : Nat} {len fst T Z : Int → Int} {O : List Int} (h : Rnd E n len fst n 0 T) (hz : HeadsOf E n len fst Z) (ho : OrderRes (E.map (·.1)) n (some O)) (all : ∀ t : Nat, t < n → (t : Int) ∈ O) : ∀ t : Nat, t < n → T t = Z t := fun t lt => by
  obtain ⟨_, _, h3, _⟩ := h Z O hz ho
  obtain ⟨j, hj⟩ := List.mem_iff_getElem?.mp (all t lt)
  refine h3 j t ?_ hj
  have := (List.getElem?_eq_some_iff.mp hj).1
  rw [ho.2.1] at this
  exact this
theorem order_all {P : List PP} {n : Nat} {O : List Int} (h : OrderRes P n (some O)) (t : Nat) (lt : t < n) : (t : Int) ∈ O := by
  obtain ⟨nd, ln, bd, _⟩ := h
  refine Classical.byContradiction fun c => ?_
  have := len_le (n := n) (O := (t : Int) :: O) (List.nodup_cons.mpr ⟨c, nd⟩) fun x hx => by
    rcases List.mem_cons.mp hx with d | d
    · rw [d]
      omega
    · exact bd x d
  rw [List.length_cons, ln] at this
  omega
/-- what is told depends on which entries there are, not on their order -/
theorem HeadsOf.same {E F : List Ent} {n : Nat} {len fst Z : Int → Int} (h : HeadsOf E n len fst Z) (s : ∀ e, e ∈ F ↔ e ∈ E) : HeadsOf F n len fst Z :=
  ⟨h.low, fun e m => h.ge e ((s e).mp m), fun t => (h.tight t).imp id fun ⟨e, m, r⟩ => ⟨e, (s e).mpr m, r⟩⟩
theorem OrderRes.same {P R : List PP} {n : Nat} {o : Option (List Int)} (h : OrderRes P n o) (s : ∀ p, p ∈ R ↔ p ∈ P) : OrderRes R n o := by
  cases o with
  | some O =>
    obtain ⟨a, b, c, d⟩ := h
    exact ⟨a, b, c, fun j t hj p hp => d j t hj p ((s p).mp hp)⟩
  | none =>
    obtain ⟨S, a, b, c⟩ := h
    exact ⟨S, a, b, fun t ht => (c t ht).elim fun p ⟨m, r⟩ => ⟨p, (s p).mpr m, r⟩⟩
/-- pairs that go up in some places leave no ring -/
theorem no_ring {P : List PP} {n : Nat} (rank : Int → Nat) (up : ∀ p ∈ P, rank p.1 < rank p.2) : ¬ OrderRes P n none := by
  rintro ⟨S, ne, _, ah⟩
  have : ∀ (m : Nat) (t : Int), t ∈ S → rank t < m → False := by
    intro m
    induction m with
    | zero => intro t _ l; exact absurd l (Nat.not_lt_zero _)
    | succ m ih =>
      intro t ht l
      obtain ⟨p, hp, e, hs⟩ := ah t ht
      have := up p hp
      rw [e] at this
      exact ih p.1 hs (by omega)
  cases S with
  | nil => exact ne rfl
  | cons t r => exact this (rank t + 1) t List.mem_cons_self (Nat.lt_succ_self _)
end Bs

namespace Bs
open PySem PySem.Spec PyProof.Rows L2
open Evl (Ex)
/-! ### a chain of thirty among other arcs that go up -/
structure Far (arcs : List PP) : Prop where
  up : ∀ p ∈ arcs, 0 ≤ p.1 ∧ p.1 < p.2 ∧ p.2 < 30
  chain : ∀ t : Nat, t < 29 → ((t : Int), (t : Int) + 1) ∈ arcs
def sumTo (len : Int → Int) : Nat → Int
  | 0 => 0
  | t + 1 => sumTo len t + len (t : Int)
theorem gapVal_nil (p : PP) : gapVal [] p = 0 := rfl
theorem hasKey_nil {arcs : List PP} {p : PP} : hasKey [] arcs p = true ↔ p ∈ arcs := by
  unfold hasKey
  simp
theorem sumTo_le {len : Int → Int} (h : ∀ t : Nat, 0 ≤ len t) : ∀ {a b : Nat}, a ≤ b → sumTo len a ≤ sumTo len b
  | a, 0, e => by
    have : a = 0 := by omega
    rw [this]
    exact Int.le_refl _
  | a, b + 1, e => by
    by_cases c : a = b + 1
    · rw [c]
      exact Int.le_refl _
    · have := sumTo_le h (a := a) (b := b) (by omega)
      have := h b
      show sumTo len a ≤ sumTo len b + len b
      omega
theorem Far.heads {es : List Ent} {arcs : List PP} {len fst Z : Int → Int} (f : Far arcs) (ek : EK es [] arcs) (hz : HeadsOf es 30 len fst Z) (l0 : ∀ t : Nat, 0 ≤ len t) (f0 : ∀ t : Nat, t < 30 → fst t = 0) : ∀ t : Nat, t < 30 → Z t = sumTo len t := by
  have ge : ∀ t : Nat, t < 30 → sumTo len t ≤ Z t := by
    intro t
    induction t with
    | zero =>
      intro _
      have := hz.low 0
      have e := f0 0 (by decide)
      show (0 : Int) ≤ Z 0
      have : fst 0 = 0 := e
      omega
    | succ t ih =>
      intro ht
      have m := (ek.keys _).mpr (hasKey_nil.mpr (f.chain t (by omega)))
      obtain ⟨e, me, h1⟩ := List.mem_map.mp m
      have h2 := hz.ge e me
      have h3 := ek.val e me
      rw [gapVal_nil] at h3
      rw [h1, h3] at h2
      have h4 := ih (by omega)
      show sumTo len t + len t ≤ Z ((t + 1 : Nat) : Int)
      have h5 : Z (t : Int) + len (t : Int) + 0 ≤ Z ((t : Int) + 1) := h2
      have e6 : (((t + 1 : Nat)) : Int) = (t : Int) + 1 := rfl
      rw [e6]
      omega
  have all : ∀ (m t : Nat), t < m → t < 30 → Z t = sumTo len t := by
    intro m
    induction m with
    | zero => intro t h; exact absurd h (Nat.not_lt_zero _)
    | succ m ih =>
      intro t hm ht
      rcases hz.tight t with h | ⟨e, me, h1, h2⟩
      · have a := ge t ht
        have b := sumTo_le l0 (a := 0) (b := t) (Nat.zero_le _)
        have c := f0 t ht
        have : sumTo len 0 = 0 := rfl
        omega
      · have k := hasKey_nil.mp ((ek.keys _).mp (List.mem_map_of_mem me))
        have u := f.up _ k
        rw [h1] at u
        obtain ⟨j, hj⟩ : ∃ j : Nat, e.1.1 = (j : Int) := ⟨_, (Int.toNat_of_nonneg u.1).symm⟩
        rw [hj] at u h2
        have z := ih j (by omega) (by omega)
        have v := ek.val e me
        rw [gapVal_nil] at v
        have w := sumTo_le l0 (a := j + 1) (b := t) (by omega)
        have w' : sumTo len (j + 1) = sumTo len j + len j := rfl
        have g := ge t ht
        omega
  exact fun t ht => all (t + 1) t (by omega) ht
theorem Far.no_ring {es : List Ent} {arcs : List PP} {n : Nat} (f : Far arcs) (ek : EK es [] arcs) : ¬ OrderRes (es.map (·.1)) n none :=
  Bs.no_ring (fun x => x.toNat) fun p hp => by
    have u := f.up p (hasKey_nil.mp ((ek.keys p).mp hp))
    show p.1.toNat < p.2.toNat
    omega
theorem atI_last {xs : List V} {v : V} : atI (xs ++ [v]) (-1) = some v := by
  unfold atI
  have : ixN (xs ++ [v]).length (-1) = some xs.length := by
    unfold ixN
    rw [if_neg (by decide), List.length_append]
    have l1 : [v].length = 1 := rfl
    rw [if_pos (by omega)]
    exact congrArg some (by omega)
  rw [this]
  show (xs ++ [v])[xs.length]? = some v
  simp
end Bs

namespace Bs
open PySem PySem.Spec PyProof.Rows L2
/-! ### none, or a whole number: none is least -/
def leO : Option Int → Option Int → Prop
  | none, _ => True
  | some _, none => False
  | some a, some b => a ≤ b
def addO (o : Option Int) (k : Int) : Option Int := o.map (· + k)
def maxO : Option Int → Option Int → Option Int
  | none, b => b
  | some a, none => some a
  | some a, some b => some (max a b)
theorem leO.refl : ∀ a : Option Int, leO a a
  | none => True.intro
  | some a => Int.le_refl a
theorem leO.trans : ∀ {a b c : Option Int}, leO a b → leO b c → leO a c
  | none, _, _, _, _ => True.intro
  | some _, none, _, h, _ => h.elim
  | some _, some _, none, _, h => h.elim
  | some _, some _, some _, h, k => Int.le_trans h k
theorem leO.anti : ∀ {a b : Option Int}, leO a b → leO b a → a = b
  | none, none, _, _ => rfl
  | none, some _, _, h => h.elim
  | some _, none, h, _ => h.elim
  | some _, some _, h, k => congrArg some (Int.le_antisymm h k)
theorem leO_maxl : ∀ a b : Option Int, leO a (maxO a b)
  | none, _ => True.intro
  | some a, none => Int.le_refl a
  | some a, some b => Int.le_max_left a b
theorem leO_maxr : ∀ a b : Option Int, leO b (maxO a b)
  | none, b => leO.refl b
  | some a, none => True.intro
  | some a, some b => Int.le_max_right a b
theorem maxO_le : ∀ {a b c : Option Int}, leO a c → leO b c → leO (maxO a b) c
  | none, _, _, _, k => k
  | some _, none, _, h, _ => h
  | some _, some _, none, h, _ => h
  | some _, some _, some _, h, k => Int.max_le.mpr ⟨h, k⟩
theorem maxO_or : ∀ a b : Option Int, maxO a b = a ∨ maxO a b = b
  | none, _ => .inr rfl
  | some _, none => .inl rfl
  | some a, some b => by
    rcases Int.le_total a b with h | h
    · exact .inr (congrArg some (Int.max_eq_right h))
    · exact .inl (congrArg some (Int.max_eq_left h))
theorem addO_mono : ∀ {a b : Option Int} (k : Int), leO a b → leO (addO a k) (addO b k)
  | none, _, _, _ => True.intro
  | some _, none, _, h => h.elim
  | some _, some _, _, h => Int.add_le_add_right h _
/-! ### the greatest rests behind each task -/
def wOf (len : Int → Int) (e : Ent) : Int := e.2 + len e.1.2
/-- what tails tells of each task -/
structure TailsOf (E : List Ent) (len : Int → Int) (own Z : Int → Option Int) : Prop where
  low : ∀ t, leO (own t) (Z t)
  ge : ∀ e ∈ E, leO (addO (Z e.1.2) (wOf len e)) (Z e.1.1)
  tight : ∀ t, Z t = own t ∨ ∃ e ∈ E, e.1.1 = t ∧ Z t = addO (Z e.1.2) (wOf len e)
structure Tl (E : List Ent) (D : List Int) (len : Int → Int) (own T : Int → Option Int) : Prop where
  low : ∀ t, leO (own t) (T t)
  ge : ∀ e ∈ E, e.1.1 ∈ D → leO (addO (T e.1.2) (wOf len e)) (T e.1.1)
  tight : ∀ t, T t = own t ∨ ∃ e ∈ E, e.1.1 = t ∧ e.1.2 ∈ D ∧ T t = addO (T e.1.2) (wOf len e)
structure TlI (E : List Ent) (D : List Int) (x : Int) (m : Nat) (len : Int → Int) (own T : Int → Option Int) : Prop extends Tl E D len own T where
  geX : ∀ e ∈ (outs E x).take m, leO (addO (T e.1.2) (wOf len e)) (T x)
theorem Tl.start (E : List Ent) (len : Int → Int) (own : Int → Option Int) : Tl E [] len own own := ⟨fun _ => leO.refl _, (fun _ _ h => nomatch h), fun _ => .inl rfl⟩
theorem Tl.begin_ {E : List Ent} {D : List Int} {len : Int → Int} {own T : Int → Option Int} (h : Tl E D len own T) (x : Int) : TlI E D x 0 len own T := ⟨h, fun e m => by simp at m⟩
theorem TlI.done {E : List Ent} {D : List Int} {x : Int} {m : Nat} {len : Int → Int} {own T : Int → Option Int} (h : TlI E D x m len own T) (e : m = (outs E x).length) : Tl E (D ++ [x]) len own T := by
  refine ⟨h.low, fun e' me d => ?_, fun t => ?_⟩
  · rcases List.mem_append.mp d with a | a
    · exact h.ge e' me a
    · have ex := List.mem_singleton.mp a
      have := h.geX e' (by
        rw [e, List.take_length]
        exact List.mem_filter.mpr ⟨me, decide_eq_true ex⟩)
      rw [ex]
      exact this
  · rcases h.tight t with a | ⟨e', me, e1, e2, e3⟩
    · exact .inl a
    · exact .inr ⟨e', me, e1, List.mem_append_left _ e2, e3⟩
/-- one way out of x is looked at -/
theorem TlI.step {E : List Ent} {D : List Int} {x : Int} {m : Nat} {len : Int → Int} {own T T' : Int → Option Int} {e : Ent} (h : TlI E D x m len own T) (he : (outs E x)[m]? = some e) (ends : ∀ e' ∈ outs E x, e'.1.2 ∈ D) (off : x ∉ D) (cl : ∀ e' ∈ E, e'.1.1 ∈ D → e'.1.2 ∈ D)
    (at_ : T' x = maxO (T x) (addO (T e.1.2) (wOf len e))) (els : ∀ t, t ≠ x → T' t = T t) : TlI E D x (m + 1) len own T' := by
  have me0 := List.mem_of_getElem? he
  have mem := List.mem_filter.mp me0
  have inD := ends e me0
  have ex : e.1.1 = x := of_decide_eq_true mem.2
  have keep : ∀ t, t ∈ D → T' t = T t := fun t m => els t fun c => off (by rw [← c]; exact m)
  have up : ∀ t, leO (T t) (T' t) := fun t => by
    by_cases c : t = x
    · rw [c, at_]
      exact leO_maxl _ _
    · rw [els t c]
      exact leO.refl _
  refine ⟨⟨fun t => (h.low t).trans (up t), fun e' me d => ?_, fun t => ?_⟩, fun e' me => ?_⟩
  · rw [keep _ d, keep _ (cl e' me d)]
    exact h.ge e' me d
  · by_cases c : t = x
    · subst c
      rcases maxO_or (T t) (addO (T e.1.2) (wOf len e)) with g | g
      · rw [at_, g]
        rcases h.tight t with a | ⟨e', me, e1, e2, e3⟩
        · exact .inl a
        · exact .inr ⟨e', me, e1, e2, by rw [keep _ e2]; exact e3⟩
      · rw [at_, g]
        exact .inr ⟨e, mem.1, ex, inD, by rw [keep _ inD]⟩
    · rw [els t c]
      rcases h.tight t with a | ⟨e', me, e1, e2, e3⟩
      · exact .inl a
      · exact .inr ⟨e', me, e1, e2, by rw [keep _ e2]; exact e3⟩
  · rw [keep _ (ends e' (List.mem_of_mem_take me))]
    rw [List.take_add_one, he] at me
    rcases List.mem_append.mp me with a | a
    · exact (h.geX e' a).trans (up x)
    · have : e' = e := List.mem_singleton.mp a
      subst this
      rw [at_]
      exact leO_maxr _ _
/-- an order gone through from behind -/
def BackRes (P : List PP) (n : Nat) (B : List Int) : Prop := B.Nodup ∧ B.length = n ∧ (∀ t ∈ B, 0 ≤ t ∧ t < n) ∧ ∀ (j : Nat) (t : Int), B[j]? = some t → ∀ p ∈ P, p.1 = t → p.2 ∈ B.take j
theorem OrderRes.back {P : List PP} {n : Nat} {O : List Int} (h : OrderRes P n (some O)) (ok : ∀ p ∈ P, 0 ≤ p.2 ∧ p.2 < n) : BackRes P n O.reverse := by
  have all := order_all h
  obtain ⟨nd, ln, bd, ah⟩ := h
  refine ⟨(List.reverse_perm O).nodup_iff.mpr nd, by rw [List.length_reverse]; exact ln, fun t ht => bd t (List.mem_reverse.mp ht), fun j t hj p hp e => ?_⟩
  obtain ⟨a, b⟩ := ok p hp
  obtain ⟨k2, hk2⟩ : ∃ k2 : Nat, p.2 = (k2 : Int) := ⟨_, (Int.toNat_of_nonneg a).symm⟩
  have m2 := all k2 (by omega)
  rw [← hk2] at m2
  obtain ⟨i, hi⟩ := List.mem_iff_getElem?.mp m2
  have m1 := ah i _ hi p hp rfl
  obtain ⟨i1, hi1⟩ := List.mem_iff_getElem?.mp m1
  have li1 : i1 < i := by
    have := (List.getElem?_eq_some_iff.mp hi1).1
    rw [List.length_take] at this
    omega
  rw [List.getElem?_take_of_lt li1, e] at hi1
  have lj : j < O.length := by
    have := (List.getElem?_eq_some_iff.mp hj).1
    rwa [List.length_reverse] at this
  rw [List.getElem?_reverse lj] at hj
  have li := (List.getElem?_eq_some_iff.mp hi).1
  have ej : i1 = O.length - 1 - j := (List.getElem?_inj (List.getElem?_eq_some_iff.mp hi1).1 nd).mp (hi1.trans hj.symm)
  refine List.mem_iff_getElem?.mpr ⟨O.length - 1 - i, ?_⟩
  rw [List.getElem?_take_of_lt (by omega), List.getElem?_reverse (by omega)]
  rw [show O.length - 1 - (O.length - 1 - i) = i by omega]
  exact hi
theorem Tl.full {E : List Ent} {n : Nat} {len : Int → Int} {own T : Int → Option Int} {B : List Int} {P : List PP} (h : Tl E B len own T) (r : BackRes P n B) (ok : ∀ e ∈ E, 0 ≤ e.1.1 ∧ e.1.1 < n) : TailsOf E len own T := by
  refine ⟨h.low, fun e me => h.ge e me ?_, fun t => ?_⟩
  · obtain ⟨nd, ln, bd, _⟩ := r
    obtain ⟨a, b⟩ := ok e me
    refine Classical.byContradiction fun c => ?_
    have := len_le (n := n) (O := e.1.1 :: B) (List.nodup_cons.mpr ⟨c, nd⟩) fun t ht => by
      rcases List.mem_cons.mp ht with d | d
      · rw [d]
        exact ⟨a, b⟩
      · exact bd t d
    rw [List.length_cons, ln] at this
    omega
  · rcases h.tight t with a | ⟨e, me, e1, _, e3⟩
    · exact .inl a
    · exact .inr ⟨e, me, e1, e3⟩
theorem BackRes.off {P : List PP} {n : Nat} {B : List Int} (r : BackRes P n B) {k : Nat} {x : Int} (hx : B[k]? = some x) : x ∉ B.take k := fun m => by
  obtain ⟨j, hj⟩ := List.mem_iff_getElem?.mp m
  have lj : j < k := by
    have := (List.getElem?_eq_some_iff.mp hj).1
    rw [List.length_take] at this
    omega
  rw [List.getElem?_take_of_lt lj] at hj
  have := (List.getElem?_inj (List.getElem?_eq_some_iff.mp hj).1 r.1).mp (hj.trans hx.symm)
  omega
theorem BackRes.closed {P : List PP} {n : Nat} {B : List Int} (r : BackRes P n B) {k : Nat} {p : PP} (hp : p ∈ P) (m : p.1 ∈ B.take k) : p.2 ∈ B.take k := by
  obtain ⟨j, hj⟩ := List.mem_iff_getElem?.mp m
  have lj : j < k := by
    have := (List.getElem?_eq_some_iff.mp hj).1
    rw [List.length_take] at this
    omega
  rw [List.getElem?_take_of_lt lj] at hj
  have := r.2.2.2 j _ hj p hp rfl
  have e : (B.take k).take j = B.take j := by rw [List.take_take, Nat.min_eq_left (Nat.le_of_lt lj)]
  exact List.mem_of_mem_take (by rw [e]; exact this)
/-! ### the same by many rounds -/
def RndT (E : List Ent) (n : Nat) (len : Int → Int) (own : Int → Option Int) (r i : Nat) (T : Int → Option Int) : Prop := ∀ (Z : Int → Option Int) (B : List Int), TailsOf E len own Z → BackRes (E.map (·.1)) n B →
  (∀ t, leO (T t) (Z t)) ∧ (∀ t, leO (own t) (T t)) ∧ (∀ (j : Nat) (t : Int), j < r → B[j]? = some t → T t = Z t) ∧ ∀ t, B[r]? = some t → ∀ e ∈ E.take i, e.1.1 = t → leO (addO (Z e.1.2) (wOf len e)) (T t)
theorem RndT.start (E : List Ent) (n : Nat) (len : Int → Int) (own : Int → Option Int) : RndT E n len own 0 0 own := fun Z O h _ => ⟨h.low, fun _ => leO.refl _, (fun j _ l _ => absurd l (Nat.not_lt_zero j)), fun _ _ e m => by simp at m⟩
theorem RndT.step {E : List Ent} {n r i : Nat} {len : Int → Int} {own T T' : Int → Option Int} {e : Ent} (h : RndT E n len own r i T) (he : E[i]? = some e)
    (at_ : T' e.1.1 = maxO (T e.1.1) (addO (T e.1.2) (wOf len e))) (els : ∀ t, t ≠ e.1.1 → T' t = T t) : RndT E n len own r (i + 1) T' := fun Z B hz ho => by
  obtain ⟨h1, h2, h3, h4⟩ := h Z B hz ho
  have up : ∀ t, leO (T t) (T' t) := fun t => by
    by_cases c : t = e.1.1
    · rw [c, at_]
      exact leO_maxl _ _
    · rw [els t c]
      exact leO.refl _
  have le : ∀ t, leO (T' t) (Z t) := fun t => by
    by_cases c : t = e.1.1
    · rw [c, at_]
      exact maxO_le (h1 _) ((addO_mono _ (h1 _)).trans (hz.ge e (List.mem_of_getElem? he)))
    · rw [els t c]
      exact h1 t
  refine ⟨le, fun t => (h2 t).trans (up t), fun j t lj hj => ?_, fun t ht e' me e2 => ?_⟩
  · have a := h3 j t lj hj
    exact leO.anti (le t) (a ▸ up t)
  · rw [List.take_add_one, he] at me
    rcases List.mem_append.mp me with a | a
    · exact (h4 t ht e' a e2).trans (up t)
    · have : e' = e := List.mem_singleton.mp a
      subst this
      obtain ⟨nd, ln, bd, ah⟩ := ho
      have m := ah r t ht e'.1 (List.mem_map_of_mem (List.mem_of_getElem? he)) e2
      obtain ⟨j, hj⟩ := List.mem_iff_getElem?.mp m
      have lj : j < r := by
        have := (List.getElem?_eq_some_iff.mp hj).1
        rw [List.length_take] at this
        omega
      rw [List.getElem?_take_of_lt lj] at hj
      have z := h3 j _ lj hj
      rw [← e2, at_, ← z]
      exact leO_maxr _ _
theorem RndT.next {E : List Ent} {n r : Nat} {len : Int → Int} {own T : Int → Option Int} (h : RndT E n len own r E.length T) : RndT E n len own (r + 1) 0 T := fun Z B hz ho => by
  obtain ⟨h1, h2, h3, h4⟩ := h Z B hz ho
  refine ⟨h1, h2, fun j t lj hj => ?_, fun _ _ e m => by simp at m⟩
  rcases Nat.lt_or_ge j r with c | c
  · exact h3 j t c hj
  · have : j = r := by omega
    subst this
    refine leO.anti (h1 t) ?_
    rcases hz.tight t with a | ⟨e, me, e1, e3⟩
    · rw [a]
      exact h2 t
    · rw [e3]
      exact h4 t hj e (by rw [List.take_length]; exact me) e1
theorem BackRes.all {P : List PP} {n : Nat} {B : List Int} (h : BackRes P n B) (t : Nat) (lt : t < n) : (t : Int) ∈ B := by
  obtain ⟨nd, ln, bd, _⟩ := h
  refine Classical.byContradiction fun c => ?_
  have := len_le (n := n) (O := (t : Int) :: B) (List.nodup_cons.mpr ⟨c, nd⟩) fun x hx => by
    rcases List.mem_cons.mp hx with d | d
    · rw [d]
      omega
    · exact bd x d
  rw [List.length_cons, ln] at this
  omega
theorem RndT.full {E : List Ent} {n : Nat} {len : Int → Int} {own T Z : Int → Option Int} {B : List Int} (h : RndT E n len own n 0 T) (hz : TailsOf E len own Z) (ho : BackRes (E.map (·.1)) n B) : ∀ t : Nat, t < n → T t = Z t := fun t lt => by
  obtain ⟨_, _, h3, _⟩ := h Z B hz ho
  obtain ⟨j, hj⟩ := List.mem_iff_getElem?.mp (ho.all t lt)
  refine h3 j t ?_ hj
  have := (List.getElem?_eq_some_iff.mp hj).1
  rw [ho.2.1] at this
  exact this
theorem TailsOf.same {E F : List Ent} {len : Int → Int} {own Z : Int → Option Int} (h : TailsOf E len own Z) (s : ∀ e, e ∈ F ↔ e ∈ E) : TailsOf F len own Z :=
  ⟨h.low, fun e m => h.ge e ((s e).mp m), fun t => (h.tight t).imp id fun ⟨e, m, r⟩ => ⟨e, (s e).mpr m, r⟩⟩
theorem BackRes.same {P R : List PP} {n : Nat} {B : List Int} (h : BackRes P n B) (s : ∀ p, p ∈ R ↔ p ∈ P) : BackRes R n B :=
  ⟨h.1, h.2.1, h.2.2.1, fun j t hj p hp => h.2.2.2 j t hj p ((s p).mp hp)⟩
/-- values by their places -/
def lstO (L : Int → Option Int) (n : Nat) : List (Option Int) := (List.range n).map fun (t : Nat) => L (t : Int)
theorem lstO_len (L : Int → Option Int) (n : Nat) : (lstO L n).length = n := by
  unfold lstO
  rw [List.length_map, List.length_range]
theorem lstO_get {L : Int → Option Int} {n y : Nat} (h : y < n) : (lstO L n)[y]? = some (L y) := by
  unfold lstO
  rw [List.getElem?_map, List.getElem?_range h]
  rfl
theorem lstO_set {L : Int → Option Int} {n y : Nat} (v : Option Int) : (lstO L n).set y v = lstO (fun t => if t = y then v else L t) n := by
  apply List.ext_getElem?
  intro i
  rw [List.getElem?_set, lstO_len]
  by_cases e : y = i
  · subst e
    rw [if_pos rfl]
    by_cases h : y < n
    · rw [if_pos h, lstO_get h, if_pos rfl]
    · rw [if_neg h]
      exact (List.getElem?_eq_none (by rw [lstO_len]; omega)).symm
  · rw [if_neg e]
    by_cases h : i < n
    · rw [lstO_get h, lstO_get h, if_neg (by omega)]
    · rw [List.getElem?_eq_none (by rw [lstO_len]; omega), List.getElem?_eq_none (by rw [lstO_len]; omega)]
theorem lstO_congr {L M : Int → Option Int} {n : Nat} (h : ∀ t : Nat, t < n → L t = M t) : lstO L n = lstO M n :=
  List.map_congr_left fun t ht => h t (List.mem_range.mp ht)
end Bs

namespace Bs
open PySem PySem.Spec PyProof.Rows L2
open Evl (Ex)
theorem piRvK {X : Cx} {K : PySem.W.Frag} {tg e : Expr} {ta : TA} {p pos : Pos} (hg : Gl X "reversed") (hm : X.mg "reversed" = none) (ha : PA X [e] ta) (h : X.K = K := by rfl) (hs : starEach [e] X.env = [(false, eval e X.env)] := by rfl) : PI X tg (.Call (.Name "reversed" p) [e] [] pos) (iRev K ta) := h ▸ pi_reversed hg hm ha hs
section
variable {K : PySem.W.Frag} {σ : L2.St} {H : Hp} {Q : VK} {nx bk ct : L2.St → Hp → Prop} {rt : VK} {g : TG} {tb : TS}
theorem q_iRev {P : It → Hp → Prop} {ta : TA} (q : ta σ H fun vs H1 => ∃ (a : Addr) (xs : List V), vs = [.ref a] ∧ SqL K H1 a xs ∧ P (Itv K a xs.length) H1) : iRev K ta σ H P := q
theorem loop_rev {a : Addr} {xs : List V} (Pv : Nat → L2.St → Hp → Prop) (h0 : Pv 0 σ H) (hl : ∀ i σ H, i ≤ xs.length → Pv i σ H → H a = some (.lst xs))
    (hs : ∀ i x σ H, xs.reverse[i]? = some x → Pv i σ H → g x σ H fun σ2 H2 => tb ⟨Pv (i + 1), rt, nx, Pv (i + 1)⟩ σ2 H2) (hd : ∀ σ H, Pv xs.length σ H → nx σ H) : Loop (Itv K a xs.length) g tb nx rt σ H := by
  refine ⟨fun i m σ H => m = xs.length - i ∧ i ≤ xs.length ∧ Pv i σ H, ⟨xs.length, by simp, Nat.zero_le _, h0⟩, ?_⟩
  rintro i m σ H ⟨rfl, hi, p⟩
  have q : SqL K H a xs := SqL.of (hl i σ H hi p)
  by_cases hlt : i < xs.length
  · obtain ⟨x, hx⟩ : ∃ x, xs[xs.length - 1 - i]? = some x := ⟨_, List.getElem?_eq_getElem (by omega)⟩
    refine .inr ⟨⟨hlt, xs, x, q, hx⟩, Pv (i + 1), fun σ' H' p' => ⟨xs.length - (i + 1), by omega, rfl, hlt, p'⟩, fun y H' z => ?_⟩
    obtain ⟨e, z⟩ := z
    subst e
    exact hs i y σ _ (by rw [List.getElem?_reverse hlt]; exact z xs q) p
  · have e : i = xs.length := by omega
    subst e
    exact .inl ⟨Nat.le_refl _, hd σ H p⟩
end
end Bs

namespace Bs
open PySem PySem.Spec PyProof.Rows L2
open Evl (Ex)
/-! ### a walk over a dict with pairs as keys, Au's way -/
section
variable {K : PySem.W.Frag} {σ : L2.St} {H : Hp} {Q : VK} {nx bk ct : L2.St → Hp → Prop} {rt : VK} {g : TG} {tb : TS}
theorem q_lock {t : TS} {d : Addr} {u : HO} (h : H d = some u) (m : Mut (some u)) (q : ∀ od, t ⟨fun σ' H' => H' d = some (.frz od u) ∧ nx σ' (upd H' d u), fun v H' => H' d = some (.frz od u) ∧ rt v (upd H' d u), fun σ' H' => H' d = some (.frz od u) ∧ bk σ' (upd H' d u), fun σ' H' => H' d = some (.frz od u) ∧ ct σ' (upd H' d u)⟩ σ (upd H d (.frz od u))) : tLock t ⟨nx, rt, bk, ct⟩ σ H := ⟨d, u, h, m, q⟩
theorem q_iKeys {td : TE} {P : It → Hp → Prop} (q : td σ H fun x H1 => ∃ d o, x = .ref d ∧ ((∃ kvs, H1 d = some (.frz o (.dK kvs)) ∧ P (Itk d o kvs) H1) ∨ ∃ kvs, H1 d = some (.frz o (.dT kvs)) ∧ P (Itkt d o kvs) H1)) : iKeys td σ H P := q
theorem q_keysT {d : Addr} {od : Obj} {kvs : List (List L2.Key × V)} {P : It → Hp → Prop} {H1 : Hp} (h : H1 d = some (.frz od (.dT kvs))) (q : P (Itkt d od kvs) H1) : ∃ d' o, V.ref d = .ref d' ∧ ((∃ kvs, H1 d' = some (.frz o (.dK kvs)) ∧ P (Itk d' o kvs) H1) ∨ ∃ kvs, H1 d' = some (.frz o (.dT kvs)) ∧ P (Itkt d' o kvs) H1) := ⟨d, od, rfl, .inr ⟨kvs, h, q⟩⟩
theorem loop_keysT {E : List Ent} {d : Addr} {o : Obj} (Pv : Nat → L2.St → Hp → Prop) (h0 : Pv 0 σ H) (hl : ∀ i σ H, Pv i σ H → H d = some (.frz o (.dT (E.map entP))))
    (hs : ∀ (i : Nat) (e : Ent) (q : Addr) σ H, E[i]? = some e → H q = some (.tup [.int e.1.1, .int e.1.2]) → Pv i σ H → g (.ref q) σ H fun σ2 H2 => tb ⟨Pv (i + 1), rt, nx, Pv (i + 1)⟩ σ2 H2) (hd : ∀ σ H, Pv E.length σ H → nx σ H) : Loop (Itkt d o (E.map entP)) g tb nx rt σ H := by
  refine for_it (D := ⟨nx, rt, fun _ _ => False, fun _ _ => False⟩) walk_keysT Pv h0 (fun i σ H _ p => hl i σ H p) ?_ ?_
  · rintro i x σ H H' hi p ⟨rfl, k, kv, q, hk, rfl, hq⟩
    rw [List.getElem?_map] at hk
    cases c : E[i]? with
    | none =>
      rw [c] at hk
      cases hk
    | some en =>
      rw [c] at hk
      have e1 : kP en.1 = k := congrArg Prod.fst (Option.some.inj hk)
      rw [← e1] at hq
      exact hs i en q σ _ c hq p
  · intro σ H p
    rw [List.length_map] at p
    exact hd σ H p
theorem But.relock {d : Addr} {u : HO} {H0 H' : Hp} (b : But d H0 H') (h : H0 d = some u) : Ex H0 (upd H' d u) := fun x o e => by
  by_cases c : x = d
  · subst c
    rw [upd_same, ← e, h]
  · rw [upd_ne c]
    exact b x o c e
end
end Bs

namespace Bs
open PySem PySem.Spec PyProof.Rows L2
open Evl (Ex)
/-! ### tails of a chain, and of a star -/
def restOf (len : Int → Int) : Nat → Int
  | 0 => 0
  | k + 1 => restOf len k + len (29 - (k : Int))
theorem restOf_le {len : Int → Int} (h : ∀ t : Int, 0 ≤ len t) : ∀ {a b : Nat}, a ≤ b → restOf len a ≤ restOf len b
  | a, 0, e => by
    have : a = 0 := by omega
    rw [this]
    exact Int.le_refl _
  | a, b + 1, e => by
    by_cases c : a = b + 1
    · rw [c]
      exact Int.le_refl _
    · have := restOf_le h (a := a) (b := b) (by omega)
      have := h (29 - (b : Int))
      show restOf len a ≤ restOf len b + len (29 - (b : Int))
      omega
theorem Far.tails {es : List Ent} {arcs : List PP} {len : Int → Int} {own Z : Int → Option Int} (f : Far arcs) (ek : EK es [] arcs) (hz : TailsOf es len own Z) (l0 : ∀ t : Int, 0 ≤ len t) (f0 : ∀ t : Nat, t < 30 → own t = some 0) : ∀ k : Nat, k < 30 → Z (29 - (k : Int)) = some (restOf len k) := by
  have ow : ∀ k : Nat, k < 30 → own (29 - (k : Int)) = some 0 := fun k hk => by
    have := f0 (29 - k) (by omega)
    rw [show ((29 - k : Nat) : Int) = 29 - (k : Int) by omega] at this
    exact this
  have ge : ∀ k : Nat, k < 30 → leO (some (restOf len k)) (Z (29 - (k : Int))) := by
    intro k
    induction k with
    | zero =>
      intro h
      have := hz.low (29 - ((0 : Nat) : Int))
      rw [ow 0 h] at this
      exact this
    | succ k ih =>
      intro h
      have m := (ek.keys _).mpr (hasKey_nil.mpr (f.chain (28 - k) (by omega)))
      obtain ⟨e, me, h1⟩ := List.mem_map.mp m
      have h2 := hz.ge e me
      have h3 := ek.val e me
      rw [gapVal_nil] at h3
      have e1 : e.1.1 = 29 - ((k + 1 : Nat) : Int) := by rw [h1]; show ((28 - k : Nat) : Int) = _; omega
      have e2 : e.1.2 = 29 - (k : Int) := by rw [h1]; show ((28 - k : Nat) : Int) + 1 = _; omega
      rw [e1, e2] at h2
      refine leO.trans ?_ h2
      have := addO_mono (wOf len e) (ih (by omega))
      refine leO.trans ?_ this
      show restOf len k + len (29 - (k : Int)) ≤ restOf len k + wOf len e
      unfold wOf
      rw [h3, e2]
      omega
  have all : ∀ (m k : Nat), k < m → k < 30 → Z (29 - (k : Int)) = some (restOf len k) := by
    intro m
    induction m with
    | zero => intro t h; exact absurd h (Nat.not_lt_zero _)
    | succ m ih =>
      intro k hm hk
      refine leO.anti ?_ (ge k hk)
      rcases hz.tight (29 - (k : Int)) with h | ⟨e, me, h1, h2⟩
      · rw [h, ow k hk]
        have b := restOf_le l0 (a := 0) (b := k) (Nat.zero_le _)
        exact b
      · have kk := hasKey_nil.mp ((ek.keys _).mp (List.mem_map_of_mem me))
        have u := f.up _ kk
        rw [h1] at u
        obtain ⟨j, hj⟩ : ∃ j : Nat, e.1.2 = 29 - (j : Int) := ⟨(29 - e.1.2).toNat, by omega⟩
        rw [h2, hj, ih j (by omega) (by omega)]
        have v := ek.val e me
        rw [gapVal_nil] at v
        show restOf len j + wOf len e ≤ restOf len k
        unfold wOf
        rw [v, hj]
        have w := restOf_le l0 (a := j + 1) (b := k) (by omega)
        have w' : restOf len (j + 1) = restOf len j + len (29 - (j : Int)) := rfl
        omega
  exact fun k hk => all (k + 1) k (by omega) hk
/-- arcs from the first task to all others -/
structure Star (arcs : List PP) : Prop where
  from0 : ∀ p ∈ arcs, p.1 = 0 ∧ 1 ≤ p.2 ∧ p.2 < 30
  all : ∀ t : Nat, 1 ≤ t → t < 30 → ((0 : Int), (t : Int)) ∈ arcs
theorem Star.no_ring {es : List Ent} {arcs : List PP} {n : Nat} (f : Star arcs) (ek : EK es [] arcs) : ¬ OrderRes (es.map (·.1)) n none :=
  Bs.no_ring (fun x => x.toNat) fun p hp => by
    have u := f.from0 p (hasKey_nil.mp ((ek.keys p).mp hp))
    show p.1.toNat < p.2.toNat
    omega
theorem Star.tails {es : List Ent} {arcs : List PP} {len : Int → Int} {own Z : Int → Option Int} {o : Int} {at_ : Nat} (f : Star arcs) (ek : EK es [] arcs) (hz : TailsOf es len own Z) (f0 : ∀ t : Nat, t < 30 → own t = some o) (l0 : ∀ t : Nat, 1 ≤ t → t < 30 → len t ≤ 1000) (a0 : 1 ≤ at_) (a1 : at_ < 30) (la : len at_ = 1000) :
    (∀ t : Nat, 1 ≤ t → t < 30 → Z t = some o) ∧ Z 0 = some (1000 + o) := by
  have oth : ∀ t : Nat, 1 ≤ t → t < 30 → Z t = some o := fun t h1 h2 => by
    rcases hz.tight t with h | ⟨e, me, e1, _⟩
    · rw [h, f0 t h2]
    · have u := f.from0 _ (hasKey_nil.mp ((ek.keys _).mp (List.mem_map_of_mem me)))
      omega
  refine ⟨oth, leO.anti ?_ ?_⟩
  · rcases hz.tight 0 with h | ⟨e, me, e1, h⟩
    · have := f0 0 (by decide)
      rw [h, show own 0 = some o from this]
      show o ≤ 1000 + o
      omega
    · have u := f.from0 _ (hasKey_nil.mp ((ek.keys _).mp (List.mem_map_of_mem me)))
      obtain ⟨j, hj⟩ : ∃ j : Nat, e.1.2 = (j : Int) := ⟨_, (Int.toNat_of_nonneg (by omega)).symm⟩
      have v := ek.val e me
      rw [gapVal_nil] at v
      rw [h, hj, oth j (by omega) (by omega)]
      show o + wOf len e ≤ 1000 + o
      unfold wOf
      have := l0 j (by omega) (by omega)
      rw [v, hj]
      omega
  · obtain ⟨e, me, h1⟩ := List.mem_map.mp ((ek.keys _).mpr (hasKey_nil.mpr (f.all at_ a0 a1)))
    have h2 := hz.ge e me
    have v := ek.val e me
    rw [gapVal_nil] at v
    have e1 : e.1.1 = 0 := by rw [h1]
    have e2 : e.1.2 = (at_ : Int) := by rw [h1]
    rw [e1, e2, oth at_ a0 a1] at h2
    refine leO.trans ?_ h2
    show 1000 + o ≤ o + wOf len e
    unfold wOf
    rw [v, e2, la]
    omega
/-! ### parts of tuples, put together -/
theorem catTK {X : Cx} {K : PySem.W.Frag} (h : X.K = K := by rfl) : OpR X (binaryOp .Add) (rCatT K) := h ▸ op_catT
section
variable {K : PySem.W.Frag} {σ : L2.St} {H : Hp} {Q : VK}
theorem q_slT {a : Addr} {xs : List V} {lo hi : Option Int} (h : H a = some (.tup xs)) (n : ¬ (HT.sIx xs.length 0 lo = 0 ∧ HT.sIx xs.length xs.length hi = xs.length)) (q : ∀ p, H p = none → Q (.ref p) (upd H p (.tup (cutV xs lo hi)))) : rSlT K (.ref a) lo hi H Q := ⟨a, xs, rfl, SqT.of h, n, q⟩
/-- t[:k], k less than all -/
theorem q_slT_lo {a : Addr} {xs : List V} {k : Nat} (h : H a = some (.tup xs)) (l : k < xs.length) (q : ∀ p, H p = none → Q (.ref p) (upd H p (.tup (xs.take k)))) : rSlT K (.ref a) none (some (k : Int)) H Q := by
  refine q_slT h ?_ ?_
  · rw [HT.sIx_nat]
    omega
  · rw [cutV_lo (Nat.le_of_lt l)]
    exact q
/-- t[k:], k not 0 -/
theorem q_slT_hi {a : Addr} {xs : List V} {k : Nat} (h : H a = some (.tup xs)) (k0 : 0 < k) (l : k ≤ xs.length) (q : ∀ p, H p = none → Q (.ref p) (upd H p (.tup (xs.drop k)))) : rSlT K (.ref a) (some (k : Int)) none H Q := by
  refine q_slT h ?_ ?_
  · rw [HT.sIx_nat]
    omega
  · rw [cutV_hi l]
    exact q
/-- a + b of tuples, a not empty: a tuple of both -/
theorem q_catT {a b : Addr} {xs ys : List V} (ha : H a = some (.tup xs)) (hb : H b = some (.tup ys)) (ne : xs ≠ []) (s : xs.length + ys.length ≤ 16000000) (q : ∀ p H', Ex H H' → H' p = some (.tup (xs ++ ys)) → Q (.ref p) H') : rCatT K (.ref a) (.ref b) H Q := by
  refine ⟨a, b, xs, ys, rfl, rfl, SqT.of ha, SqT.of hb, ne, by rw [sizeLine_eq]; omega, fun e => ?_, fun e p np => ?_⟩
  · refine q a H (Ex.refl _) ?_
    rw [e, List.append_nil]
    exact ha
  · exact q p _ (Ex.new np) upd_same
def rInsert : V → List V → Hp → VK → Prop := fun x vs H Q => ∃ (l : Addr) (xs : List V) (i : Int) (y : V), x = .ref l ∧ vs = [.int i, y] ∧ H l = some (.lst xs) ∧ xs.length < sizeLine ∧ 0 ≤ i ∧ i < 2 ^ 63 ∧ Q .non (upd H l (.lst (xs.take i.toNat ++ [y] ++ xs.drop i.toNat)))
theorem q_insert0 {l : Addr} {xs : List V} {y : V} (h : H l = some (.lst xs)) (s : xs.length < 16000000) (q : Q .non (upd H l (.lst (y :: xs)))) : rInsert (.ref l) [.int 0, y] H Q := ⟨l, xs, 0, y, rfl, rfl, h, by rw [sizeLine_eq]; omega, by decide, by decide, q⟩
end
end Bs

namespace Bs
open PySem PySem.Spec PyProof.Rows L2
open Evl (Ex)
/-! ### what is come to, going on -/
inductive Reach (E : List Ent) (t : Int) : Int → Prop
  | one {e : Ent} : e ∈ E → e.1.1 = t → Reach E t e.1.2
  | more {x : Int} {e : Ent} : Reach E t x → e ∈ E → e.1.1 = x → Reach E t e.1.2
theorem Reach.cons {E : List Ent} {e : Ent} {x : Int} (me : e ∈ E) (h : Reach E e.1.2 x) : Reach E e.1.1 x := by
  induction h with
  | one m1 e1 => exact .more (.one me rfl) m1 e1
  | more _ m1 e1 ih => exact .more ih m1 e1
theorem countP_lt {p q : Int → Bool} : ∀ {l : List Int}, (∀ x ∈ l, p x = true → q x = true) → (∃ y ∈ l, q y = true ∧ p y = false) → l.countP p < l.countP q
  | [], _, ⟨_, h, _⟩ => nomatch h
  | z :: l, h, ⟨y, hy, h1, h2⟩ => by
    have le : l.countP p ≤ l.countP q := List.countP_mono_left fun x hx => h x (List.mem_cons_of_mem _ hx)
    rw [List.countP_cons, List.countP_cons]
    rcases List.mem_cons.mp hy with e | e
    · subst e
      rw [h1, h2]
      simp
      omega
    · have lt := countP_lt (l := l) (fun x hx => h x (List.mem_cons_of_mem _ hx)) ⟨y, e, h1, h2⟩
      by_cases c : p z = true
      · rw [c, h z List.mem_cons_self c]
        simp
        omega
      · rw [Bool.not_eq_true _ |>.mp c]
        by_cases d : q z = true <;> simp [d] <;> omega
theorem ring_iff {E : List Ent} {n : Nat} {r : Option (List Int)} (h : OrderRes (E.map (·.1)) n r) (ok : ∀ e ∈ E, (0 ≤ e.1.1 ∧ e.1.1 < n) ∧ 0 ≤ e.1.2 ∧ e.1.2 < n) : r = none ↔ ∃ t : Int, Reach E t t := by
  cases r with
  | some O =>
    constructor
    · intro z; cases z
    · rintro ⟨t, ht⟩
      exfalso
      have all := order_all h
      obtain ⟨nd, ln, bd, ah⟩ := h
      have step : ∀ e ∈ E, O.idxOf e.1.1 < O.idxOf e.1.2 := fun e me => by
        obtain ⟨_, a, b⟩ := ok e me
        obtain ⟨k, hk⟩ : ∃ k : Nat, e.1.2 = (k : Int) := ⟨_, (Int.toNat_of_nonneg a).symm⟩
        have m := all k (by omega)
        rw [← hk] at m
        obtain ⟨j, hj⟩ := List.mem_iff_getElem?.mp m
        have m1 := ah j _ hj e.1 (List.mem_map_of_mem me) rfl
        obtain ⟨i, hi⟩ := List.mem_iff_getElem?.mp m1
        have li : i < j := by
          have := (List.getElem?_eq_some_iff.mp hi).1
          rw [List.length_take] at this
          omega
        rw [List.getElem?_take_of_lt li] at hi
        obtain ⟨i1, i2⟩ := List.getElem?_eq_some_iff.mp hi
        obtain ⟨j1, j2⟩ := List.getElem?_eq_some_iff.mp hj
        rw [← i2, ← j2, nd.idxOf_getElem i i1, nd.idxOf_getElem j j1]
        exact li
      have all2 : ∀ x, Reach E t x → O.idxOf t < O.idxOf x := fun x hx => by
        induction hx with
        | one me e1 => rw [← e1]; exact step _ me
        | more _ me e1 ih => exact Nat.lt_trans ih (by rw [← e1]; exact step _ me)
      exact absurd (all2 t ht) (Nat.lt_irrefl _)
  | none =>
    refine ⟨fun _ => Classical.byContradiction fun no => ?_, fun _ => rfl⟩
    obtain ⟨S, ne, bd, ah⟩ := h
    have dec : ∀ t x, Decidable (Reach E t x) := fun _ _ => Classical.propDecidable _
    have cnt : ∀ k : Nat, ∃ t ∈ S, k ≤ (Bs.upTo n).countP fun x => @decide (Reach E t x) (dec t x) := by
      intro k
      induction k with
      | zero =>
        cases S with
        | nil => exact absurd rfl ne
        | cons t r => exact ⟨t, List.mem_cons_self, Nat.zero_le _⟩
      | succ k ih =>
        obtain ⟨t, ht, hk⟩ := ih
        obtain ⟨p, hp, e2, ps⟩ := ah t ht
        obtain ⟨e, me, rfl⟩ := List.mem_map.mp hp
        refine ⟨e.1.1, ps, Nat.lt_of_le_of_lt hk (countP_lt (fun x _ h => ?_) ⟨t, ?_, ?_, ?_⟩)⟩
        · refine @decide_eq_true _ (dec _ _) ?_
          have := @of_decide_eq_true _ (dec _ _) h
          rw [← e2] at this
          exact Reach.cons me this
        · obtain ⟨a, b⟩ := bd t ht
          exact List.mem_map.mpr ⟨t.toNat, List.mem_range.mpr (by omega), Int.toNat_of_nonneg a⟩
        · refine @decide_eq_true _ (dec _ _) ?_
          rw [← e2]
          exact .one me rfl
        · exact @decide_eq_false _ (dec _ _) fun z => no ⟨t, z⟩
    obtain ⟨t, _, h1⟩ := cnt (n + 1)
    have := List.countP_le_length (p := fun x => @decide (Reach E t x) (dec t x)) (l := Bs.upTo n)
    unfold Bs.upTo at this
    rw [List.length_map, List.length_range] at this
    unfold Bs.upTo at h1
    omega
/-- what a walk from t on keeps: found, waiting -/
structure Wk (E : List Ent) (n : Nat) (t : Int) (F W : List Int) : Prop where
  nd : F.Nodup
  bd : ∀ x ∈ F, 0 ≤ x ∧ x < n
  sound : ∀ x ∈ F, Reach E t x
  waits : ∀ x ∈ W, x = t ∨ x ∈ F
  done : ∀ x, x = t ∨ x ∈ F → x ∈ W ∨ ∀ e ∈ E, e.1.1 = x → e.1.2 ∈ F
structure WkI (E : List Ent) (n : Nat) (t h : Int) (i : Nat) (F W : List Int) : Prop where
  nd : F.Nodup
  bd : ∀ x ∈ F, 0 ≤ x ∧ x < n
  sound : ∀ x ∈ F, Reach E t x
  waits : ∀ x ∈ W, x = t ∨ x ∈ F
  here : h = t ∨ h ∈ F
  done : ∀ x, x = t ∨ x ∈ F → x ∈ W ∨ (∀ e ∈ E, e.1.1 = x → e.1.2 ∈ F) ∨ (x = h ∧ ∀ e ∈ E.take i, e.1.1 = h → e.1.2 ∈ F)
theorem Wk.start (E : List Ent) (n : Nat) (t : Int) : Wk E n t [] [t] := ⟨List.nodup_nil, (fun _ h => nomatch h), (fun _ h => nomatch h), fun x h => .inl (List.mem_singleton.mp h), fun x h => by
  rcases h with h | h
  · exact .inl (by rw [h]; exact List.mem_cons_self)
  · cases h⟩
theorem Wk.pop {E : List Ent} {n : Nat} {t h : Int} {F W : List Int} (w : Wk E n t F (W ++ [h])) : WkI E n t h 0 F W := by
  refine ⟨w.nd, w.bd, w.sound, fun x hx => w.waits x (List.mem_append_left _ hx), w.waits h (List.mem_append_right _ List.mem_cons_self), fun x hx => ?_⟩
  rcases w.done x hx with h1 | h1
  · rcases List.mem_append.mp h1 with h2 | h2
    · exact .inl h2
    · exact .inr (.inr ⟨List.mem_singleton.mp h2, fun e me => by simp at me⟩)
  · exact .inr (.inl h1)
theorem WkI.skip {E : List Ent} {n : Nat} {t h : Int} {i : Nat} {F W : List Int} {e : Ent} (w : WkI E n t h i F W) (he : E[i]? = some e) (c : e.1.1 = h → e.1.2 ∈ F) : WkI E n t h (i + 1) F W := by
  refine ⟨w.nd, w.bd, w.sound, w.waits, w.here, fun x hx => ?_⟩
  rcases w.done x hx with h1 | h1 | ⟨h1, h2⟩
  · exact .inl h1
  · exact .inr (.inl h1)
  · refine .inr (.inr ⟨h1, fun e' me => ?_⟩)
    rw [List.take_add_one, he] at me
    rcases List.mem_append.mp me with a | a
    · exact h2 e' a
    · have : e' = e := List.mem_singleton.mp a
      rw [this]
      exact c
theorem WkI.push {E : List Ent} {n : Nat} {t h : Int} {i : Nat} {F W : List Int} {e : Ent} (w : WkI E n t h i F W) (he : E[i]? = some e) (e1 : e.1.1 = h) (nf : e.1.2 ∉ F) (b : 0 ≤ e.1.2 ∧ e.1.2 < n) : WkI E n t h (i + 1) (F ++ [e.1.2]) (W ++ [e.1.2]) := by
  have me := List.mem_of_getElem? he
  have mono : ∀ x, x ∈ F → x ∈ F ++ [e.1.2] := fun x h => List.mem_append_left _ h
  refine ⟨?_, fun x hx => ?_, fun x hx => ?_, fun x hx => ?_, w.here.imp id (mono _), fun x hx => ?_⟩
  · rw [List.nodup_append]
    refine ⟨w.nd, by simp, fun x hx y hy z => nf ?_⟩
    rw [← List.mem_singleton.mp hy, ← z]
    exact hx
  · rcases List.mem_append.mp hx with h1 | h1
    · exact w.bd x h1
    · rw [List.mem_singleton.mp h1]
      exact b
  · rcases List.mem_append.mp hx with h1 | h1
    · exact w.sound x h1
    · rw [List.mem_singleton.mp h1]
      rcases w.here with h2 | h2
      · exact .one me (e1.trans h2)
      · exact .more (w.sound h h2) me e1
  · rcases List.mem_append.mp hx with h1 | h1
    · exact (w.waits x h1).imp id (mono x)
    · exact .inr (List.mem_append_right _ h1)
  · have old : x = t ∨ x ∈ F → x ∈ W ++ [e.1.2] ∨ (∀ e' ∈ E, e'.1.1 = x → e'.1.2 ∈ F ++ [e.1.2]) ∨ (x = h ∧ ∀ e' ∈ E.take (i + 1), e'.1.1 = h → e'.1.2 ∈ F ++ [e.1.2]) := fun hx => by
      rcases w.done x hx with h1 | h1 | ⟨h1, h2⟩
      · exact .inl (List.mem_append_left _ h1)
      · exact .inr (.inl fun e' m' z => mono _ (h1 e' m' z))
      · refine .inr (.inr ⟨h1, fun e' m' z => ?_⟩)
        rw [List.take_add_one, he] at m'
        rcases List.mem_append.mp m' with a | a
        · exact mono _ (h2 e' a z)
        · have : e' = e := List.mem_singleton.mp a
          rw [this]
          exact List.mem_append_right _ List.mem_cons_self
    rcases hx with h1 | h1
    · exact old (.inl h1)
    · rcases List.mem_append.mp h1 with h2 | h2
      · exact old (.inr h2)
      · exact .inl (List.mem_append_right _ h2)
theorem WkI.next {E : List Ent} {n : Nat} {t h : Int} {F W : List Int} (w : WkI E n t h E.length F W) : Wk E n t F W := by
  refine ⟨w.nd, w.bd, w.sound, w.waits, fun x hx => ?_⟩
  rcases w.done x hx with h1 | h1 | ⟨h1, h2⟩
  · exact .inl h1
  · exact .inr h1
  · refine .inr fun e me z => ?_
    rw [List.take_length] at h2
    exact h2 e me (z.trans h1)
theorem Wk.full {E : List Ent} {n : Nat} {t : Int} {F : List Int} (w : Wk E n t F []) (x : Int) : x ∈ F ↔ Reach E t x := by
  refine ⟨w.sound x, fun h => ?_⟩
  induction h with
  | one me e1 =>
    rcases w.done t (.inl rfl) with h | h
    · cases h
    · exact h _ me e1
  | more _ me e1 ih =>
    rcases w.done _ (.inr ih) with h | h
    · cases h
    · exact h _ me e1
theorem Wk.few {E : List Ent} {n : Nat} {t : Int} {F W : List Int} (w : Wk E n t F W) : F.length ≤ n := len_le w.nd w.bd
theorem WkI.few {E : List Ent} {n : Nat} {t h : Int} {i : Nat} {F W : List Int} (w : WkI E n t h i F W) : F.length ≤ n := len_le w.nd w.bd
theorem reach_same {E F : List Ent} (s : ∀ e, e ∈ F ↔ e ∈ E) {t x : Int} : Reach F t x ↔ Reach E t x :=
  ⟨fun h => by
    induction h with
    | one me e1 => exact .one ((s _).mp me) e1
    | more _ me e1 ih => exact .more ih ((s _).mp me) e1,
  fun h => by
    induction h with
    | one me e1 => exact .one ((s _).mpr me) e1
    | more _ me e1 ih => exact .more ih ((s _).mpr me) e1⟩
end Bs

namespace Bs
open PySem PySem.Spec PyProof.Rows L2
open Evl (Ex)
/-! ### a def that says repr, called where no repr runs yet -/
structure CalG (P : Program) (w : World) (K : PySem.W.Frag) (mg : Str → Option Value) (base : Heap) (k : Nat) (x : Str) (ps : List Str) (sp : Sp) : Prop where
  len : ∀ vs H Q E, sp vs H Q E → vs.length = ps.length
  ex : ∃ (f : Addr) (fd : FuncData), mg x = some (.ref f) ∧ PySem.W.keepIn K (.ref f) = true ∧ Binds K fd ps [] ∧ ∀ A : Around, A.guards = some [] → Room k A → RunAt P w K mg base A f fd ps sp
theorem Dfn.calG {P : Program} {w : World} {K : PySem.W.Frag} {mg : Str → Option Value} {base : Heap} {k : Nat} {x : Str} {st : Stmt} {N ps : List Str} {sp : Sp} (D : Dfn K mg x st ps) (S : FnScope N ps (defScope st)) (len : ∀ vs H Q E, sp vs H Q E → vs.length = ps.length)
    (hbody : ∀ (f : Addr) (cdv : Value) (A : Around) (outer : List Env) (s : Shared) (H : Hp) (vs : List V) (Q : VK) (E : XK), (A.deeper (envOfC x (defScope st) s.heap.objs.size f cdv)).guards = some [] → Room k (A.deeper (envOfC x (defScope st) s.heap.objs.size f cdv)) → sp vs H Q E →
      ∃ t, PSs (cxOf CX0 P w K mg base N x (defScope st) f cdv A outer s H E).nox (defBody st) t ∧ t { nx := fun _ H' => Q .non H', rt := Q } (start N vs) H) : CalG P w K mg base (k + 1) x ps sp := by
  obtain ⟨f, fd, F, g, b⟩ := D.ex
  refine ⟨len, f, fd, g, F.kp, .all b, fun A hA room => run_at F S len room fun cdv outer s H vs Q E hr h => hbody f cdv A outer s H vs Q E ?_ hr h⟩
  exact hA
theorem pe_calG {X : Cx} {k : Nat} {x : Str} {ps : List Str} {sp : Sp} {p pos : Pos} {e : Expr} {es : List Expr} {t : TA} (G : CalG X.prog X.w X.K X.mg X.base k x ps sp) (hr : Room k X.A) (hg : Gl X x) (hgd : X.A.guards = some [])
    (ha : PA X (e :: es) t) (hdb : (x == ("__debug__" : Str)) = false := by decide) (he : starEach (e :: es) X.env = (false, eval e X.env) :: starEach es X.env := by rfl) (hpl : (backTo pos (starEach es X.env)).any (·.1) = false := by rfl) :
    PE X (.Call (.Name x p) (e :: es) [] pos) (tCall sp [] E0 t) := by
  obtain ⟨f, fd, hm, hk, hb, F⟩ := G.ex
  refine ⟨fun pins s σ H Q I h => ?_⟩
  refine wpAny_Call_Name_kw (ld_glob I hg hm ?_ hdb)
  refine PySem.W.callWith_K (h₀ := X.base) I.ok.mod.kin hk (thn (ha.run pos pins s σ H _ I h) fun us s1 ⟨vs, H1, I1, r, q⟩ => ⟨I1.kIn, ?_⟩) he hpl
  have r2 : Vals (vs ++ []) (us ++ []) := r.append .nil
  have hl : (us ++ []).length = ps.length := by rw [← r2.length]; exact G.len _ _ _ _ q
  refine wpAny_call (codeAny_mono (F X.A hgd hr X.stack s1 H1 ⟨us, []⟩ (us ++ []) (vs ++ []) Q E0 I1.env0 (hb s1 us I1.kIn hl) r2 q) fun r s' hq => ?_)
  cases r with
  | error e => exact pass0 pins σ H1 s1 e s' I1 hq
  | ok fl =>
    cases fl with
    | ret u => exact I1.after hq
    | next => exact False.elim hq
    | brk => exact False.elim hq
    | cont => exact False.elim hq
/-! ### list(range(i, j)) -/
def frTo (i : Int) (n : Nat) : List Int := (List.range n).map fun (k : Nat) => i + (k : Int)
theorem vals_frTo (i : Int) : ∀ (vs : List Value) (a : Nat), (∀ (j : Nat) (v : Value), vs[j]? = some v → ∃ t, v = .int (i + (a + j : Nat)) t) → Vals ((List.range' a vs.length).map fun (k : Nat) => V.int (i + (k : Int))) vs
  | [], _, _ => .nil
  | v :: vs, a, h => by
    rw [List.length_cons, List.range'_succ, List.map_cons]
    refine .cons ?_ (vals_frTo i vs (a + 1) fun j u e => ?_)
    · obtain ⟨t, e⟩ := h 0 v rfl
      exact ⟨t, e⟩
    · obtain ⟨t, e'⟩ := h (j + 1) u e
      exact ⟨t, by rw [e', show a + (j + 1) = a + 1 + j from by omega]⟩
def rListRng2 : List V → Hp → VK → Prop := fun vs H Q => ∃ (r : Addr) (i j : Int), vs = [.ref r] ∧ H r = some (.rng i j) ∧ 0 ≤ i ∧ i ≤ j ∧ j ≤ 100000 ∧ ∀ p, H p = none → Q (.ref p) (upd H p (.lst ((frTo i (j - i).toNat).map V.int)))
theorem au_listRng2 {X : Cx} (hc : X.calm = true) : CallR X (.type "list") rListRng2 := by
  intro pins s σ H vs us Q I r h
  obtain ⟨a, i, j, rfl, ha, i0, ij, j1, q⟩ := h
  rw [Vals.ref1 r]
  obtain ⟨t, u, v, e⟩ := (show ∃ t u v, s.heap.get? a = some { cls := .type "range", data := .fields #[.int i t, .int j u, .int 1 v] } from I.hok a _ ha)
  refine call_list_range (n := (j - i).toNat) (t := t) (u := u) (v := v) (I.ok.hd hc) e (small_one (by omega) (by omega) (by omega) (by omega)) (by rw [rangeSize_one]; split <;> omega) (by omega) fun h' tk acc c up got it => ?_
  have len : acc.toList.length = (j - i).toNat := by rw [Array.length_toList]; exact it.1
  have rv : Vals ((frTo i (j - i).toNat).map V.int) acc.toList := by
    have := vals_frTo i acc.toList 0 fun k v e => by
      obtain ⟨t, e'⟩ := it.2 k v (by rw [← Array.getElem?_toList]; exact e)
      exact ⟨t, by rw [e', Int.mul_one]; simp⟩
    rw [len, ← List.range_eq_range'] at this
    unfold frTo
    rw [List.map_map]
    exact this
  refine ⟨.ref _, _, I.laid (t' := tk) (o := .lst ((frTo i (j - i).toNat).map V.int)) up (Nat.le_refl _) ⟨?_, acc.toList, c, rv, ?_⟩, rfl, q _ (I.hok.fresh (Nat.le_refl _))⟩
  · unfold frTo
    rw [List.length_map, List.length_map, List.length_range, sizeLine_eq]
    omega
  · rw [Array.toArray_toList]
    exact got
section
variable {H : Hp} {Q : VK}
theorem q_listRng2 {r : Addr} {i j : Int} (h : H r = some (.rng i j)) (i0 : 0 ≤ i) (ij : i ≤ j) (j1 : j ≤ 100000) (q : ∀ p, H p = none → Q (.ref p) (upd H p (.lst ((frTo i (j - i).toNat).map V.int)))) : rListRng2 [.ref r] H Q := ⟨r, i, j, rfl, h, i0, ij, j1, q⟩
def rRange2 : List V → Hp → VK → Prop := fun vs H Q => ∃ i j, vs = [V.int i, V.int j] ∧ ∀ p, H p = none → Q (.ref p) (upd H p (.rng i j))
theorem q_range2 {i j : Int} (q : ∀ p, H p = none → Q (.ref p) (upd H p (.rng i j))) : rRange2 [.int i, .int j] H Q := ⟨i, j, rfl, q⟩
end
theorem au_range2 {X : Cx} : CallR X (.type "range") rRange2 := cr_range2
section
variable {K : PySem.W.Frag} {H : Hp} {Q : VK}
theorem dec_bl {i j : Bool} : decide (V.bl i = V.bl j) = decide (i = j) := by
  by_cases h : i = j
  · rw [h, decide_eq_true rfl, decide_eq_true rfl]
  · rw [decide_eq_false h, decide_eq_false fun e => h (by injection e)]
theorem q_neB {i j : Bool} (q : Q (.bl (!decide (i = j))) H) : rNe (.bl i) (.bl j) H Q := ⟨rfl, by rw [dec_bl]; exact q⟩
theorem q_eqB {i j : Bool} (q : Q (.bl (decide (i = j))) H) : rEq (.bl i) (.bl j) H Q := ⟨rfl, by rw [dec_bl]; exact q⟩
theorem q_notB {i j : Bool} (q : Q (.bl (!decide (i = j))) H) : rNotB (.bl i) (.bl j) H Q := ⟨i, j, rfl, rfl, q⟩
theorem q_isiBB {i : Bool} (q : Q (.bl true) H) : rIsi K [.bl i, .ty "bool"] H Q := ⟨_, _, _, _, _, rfl, .ty _, (Kd.bl (K := K) (H := H) i).ty, (Kd.bl (K := K) (H := H) i).bool?, q⟩
end
end Bs

namespace PySem
open Sem (wp)
open AutoSeq1 (wpAny_loadPart')
/-! ### enumerate(t), t a tuple -/
theorem q_meets_enumerateT (l : Addr) (items : Array Value) (n : Nat) (dct : Option Addr) (sl : Array (Option Value)) :
    Meets (Builtin.«enumerate.__new__» ⟨[.type "enumerate", .ref l], []⟩) (fun _ R s => s.heap.get? l = some { cls := .type "tuple", dict := dct, data := .seq items n, slots := sl } ∧
      R (.ok (.ret (.ref (s.heap.push { cls := .type "tuple_iterator", data := .fields #[.ref l, .int 0 0] }).objs.size)))
        { s with heap := (s.heap.push { cls := .type "tuple_iterator", data := .fields #[.ref l, .int 0 0] }).push { cls := .type "enumerate", data := .fields #[.none, .bool false, .ref s.heap.objs.size, rawInt 0, .none, .none] } }) :=
  .of_wp fun prog w A R s h => by
    obtain ⟨hp, g, d, tk, os⟩ := s; obtain ⟨hl, h⟩ := h
    have hsub := sub_enumerate
    have hL : Heap.IsTuple (Shared.heap ⟨hp, g, d, tk, os⟩) l items := ⟨_, hl, rfl, n, rfl⟩
    wp_walk using wpAny_loadPart' hl
    refine wpAny_stack_any fun st => wpAny_pure ?_
    split
    · rename_i c _ _ _ _ _
      cases (c == Value.type "enumerate")
      · wp_walk using wpAny_loadPart' hl, wpAny_pyIter_tuple hL
        exact ⟨_, rfl, h⟩
      · wp_walk using wpAny_loadPart' hl, wpAny_pyIter_tuple hL
        exact ⟨_, rfl, h⟩
    · wp_walk using wpAny_loadPart' hl, wpAny_pyIter_tuple hL
      exact ⟨_, rfl, h⟩
section
variable {prog : Program} {w : World} {A : Around} {E : Value → Shared → Prop} {s : Shared}
theorem q_call_enumerateT {l : Addr} {items : Array Value} {Q : Value → Shared → Prop} (hL : s.heap.IsTuple l items)
    (h : ∀ h', IsEnum h' (s.heap.objs.size + 1) s.heap.objs.size 0 .none → h'.IsTupleIter s.heap.objs.size l 0 → h'.objs.size = s.heap.objs.size + 2 →
      (∀ b o, s.heap.get? b = some o → h'.get? b = some o) → Q (.ref (s.heap.objs.size + 1)) { s with heap := h' }) :
    wpAny (model prog w) A (call (.type "enumerate") [.ref l]) Q E s := by
  obtain ⟨⟨c, dct, dt, sl⟩, hl, hc, n, hd⟩ := hL
  replace hc : c = .type "tuple" := hc
  replace hd : dt = .seq items n := hd
  subst hc hd
  refine callType_new F.called_enumerate (by decide) (F.typeCall_enumerate_1 _) (F.newCall_enumerate_1 _) (fun obj => F.args_object_init_2 obj _) F.entry_enumerate_new
    (q_meets_enumerateT l items n dct sl) ⟨hl, ?_⟩
  have hz : (s.heap.push { cls := .type "tuple_iterator", data := .fields #[.ref l, .int 0 0] }).objs.size = s.heap.objs.size + 1 := Heap.size_push ..
  show _ ∧ _
  rw [hz]
  have he : IsEnum ((s.heap.push { cls := .type "tuple_iterator", data := .fields #[.ref l, .int 0 0] }).push
      { cls := .type "enumerate", data := .fields #[.none, .bool false, .ref s.heap.objs.size, rawInt 0, .none, .none] }) (s.heap.objs.size + 1) s.heap.objs.size 0 .none := by
    have := Heap.get?_push_size (s.heap.push { cls := .type "tuple_iterator", data := .fields #[.ref l, .int 0 0] })
      (o := { cls := .type "enumerate", data := .fields #[.none, .bool false, .ref s.heap.objs.size, rawInt 0, .none, .none] }) rfl
    rw [hz] at this; exact this
  refine ⟨⟨_, he, rfl⟩, h _ he ⟨_, Heap.get?_push_of_some _ (Heap.get?_push_size _ rfl), rfl, rfl⟩ (by rw [Heap.size_push, hz]) fun b o x => Heap.get?_push_of_some _ (Heap.get?_push_of_some _ x)⟩
end
end PySem
namespace Bs
open PySem PySem.Spec PyProof.Rows L2
open Evl (Ex)
def IteT (K : PySem.W.Frag) (a : Addr) : It :=
  ⟨fun i H => ∃ (xs : List V) (x : V), SqT K H a xs ∧ xs[i]? = some x, fun i H v H' => ∃ T x, v = .ref T ∧ H T = none ∧ H' = upd H T (.tup [.int (i : Nat), x]) ∧ ∀ xs, SqT K H a xs → xs[i]? = some x, fun i H => ∃ xs : List V, SqT K H a xs ∧ xs.length = i⟩
theorem turn_enumT {P : Program} {w : World} {K : PySem.W.Frag} {elts : List Expr} {kk : Nat} {tpos : Pos} (a e it : Addr) :
    Turn P w K (.Tuple elts kk tpos) (IteT K a) [e, it] e (fun i h => (∃ old, IsEnum h e it ((i : Nat) : Int) old) ∧ h.IsTupleIter it a i ∧ e ≠ it ∧ a ≠ it ∧ e ≠ a) where
  mem := by simp
  obj := fun i h st b hb => by
    obtain ⟨⟨old, he⟩, ⟨o, ho, hc, hd⟩, _⟩ := st
    have e' : b = e ∨ b = it := by simpa using hb
    rcases e' with z | z
    · rw [z]; exact ⟨_, he, fun v q => nomatch q⟩
    · rw [z]; exact ⟨o, ho, fun v q => by rw [hd] at q; cases q⟩
  keep := fun i h h' st k => let ⟨⟨old, he⟩, hi, hne⟩ := st; ⟨⟨old, k e (by simp) _ he⟩, hi.at fun o q => k it (by simp) o q, hne⟩
  item := by
    intro X hP hw hK hc i pins s σ H E I hf st hg
    subst hP hw hK
    obtain ⟨⟨old, he⟩, hit, hne, hai, hea⟩ := st
    obtain ⟨xs, x, hq, hx⟩ := hg
    obtain ⟨its, rv, p, hz⟩ := I.tuple hq
    obtain ⟨u, hu, ru⟩ := rv.get hx
    have hel : e < s.heap.objs.size := Heap.lt_size he
    have hil : it < s.heap.objs.size := by obtain ⟨_, q, _⟩ := hit; exact Heap.lt_size q
    have hlt : i < its.toArray.size := by
      have := (List.getElem?_eq_some_iff.mp hu).1
      simpa using this
    refine wpAny_pyNext_enum_itemD (Draws.tuple (A := X.A.in1) (I.ok.hd hc) it a hai its.toArray) he ⟨hit, p⟩ hlt hne (by simp [hne, hea]) fun y h' tk hy ho hit' hT hsz hk => ?_
    obtain rfl : y = u := by
      have e1 : its.toArray[i]? = some u := by simpa using hu
      have e2 : its.toArray[i]? = some y := hy
      exact Option.some.inj (e2.symm.trans e1)
    obtain ⟨hit', _⟩ := hit'
    refine ⟨_, rfl, wpAny_letOwnedTupleGo_enum (s := { s with heap := h', toks := tk + 1 }) ho fun h'' he' sb => ?_⟩
    have hT2 : h''.get? s.heap.objs.size = some { cls := .type "tuple", data := .seq #[.int i tk, y] } := (sb.2 _ (Nat.ne_of_gt hel)).trans hT
    have new : ObjOk X.prog X.w (upd H s.heap.objs.size (.tup [.int (i : Nat), x])) h'' s.heap.objs.size (.tup [.int (i : Nat), x]) :=
      ⟨by show 2 ≤ sizeLine; decide, [.int i tk, y], .cons ⟨_, rfl⟩ (.cons ru .nil), ⟨_, hT2, rfl, _, rfl⟩⟩
    have I1 : L2.Inv X pins σ (upd H s.heap.objs.size (.tup [.int (i : Nat), x])) { s with heap := h'', toks := tk + 1 } :=
      I.turnedNew (ch := [e, it]) (fun b ob hb q => (sb.2 b (fun z => hb (by simp [z]))).trans (hk b ob (fun z => hb (by simp [z])) (fun z => hb (by simp [z])) q)) hf (Nat.le_refl _) new
    refine ⟨.ref s.heap.objs.size, _, I1, rfl, ⟨_, x, rfl, I.hok.fresh (Nat.le_refl _), rfl, fun ys hy => by rw [I.tuple_inj hy hq]; exact hx⟩, ⟨⟨y, ?_⟩, hit'.at fun o q => (sb.2 it (Ne.symm hne)).trans q, hne, hai, hea⟩, fun b hb => ?_⟩
    · have e1 : ((i + 1 : Nat) : Int) = (i : Int) + 1 := by omega
      rw [e1]; exact he'
    · have hb' : b < s.heap.objs.size := by
        have e' : b = e ∨ b = it := by simpa using hb
        rcases e' with z | z
        · rw [z]; exact hel
        · rw [z]; exact hil
      rw [upd_ne (Nat.ne_of_lt hb')]
      exact (hf b hb).1
  done := by
    intro X hP hw hK hc i pins s σ H E I hf st hg
    subst hP hw hK
    obtain ⟨⟨old, he⟩, hit, hne, hai, hea⟩ := st
    obtain ⟨xs, hq, hx⟩ := hg
    obtain ⟨its, rv, p, hz⟩ := I.tuple hq
    obtain ⟨f0, f1, f2, f3, f4, f5⟩ := hf it (by simp)
    have hl := rv.length
    have hn : its.toArray.size = i := by simp; omega
    subst hn
    exact wpAny_pyNext_enum_endD (Draws.tuple (A := X.A.in1) (I.ok.hd hc) it a hai its.toArray) he ⟨hit, p⟩ fun h' eb => ⟨rfl, I.turned (t' := s.toks) (fun b o hb q => eb b o hb q) f0 f1 f3 f4 f5⟩
  self := fun A i s Q E st h => let ⟨⟨_, he⟩, _⟩ := st; wpAny_pyIter_enum he h
def iEnumT (K : PySem.W.Frag) (ta : TA) : TI := fun σ H R => ta σ H fun vs H1 => ∃ a xs, vs = [.ref a] ∧ SqT K H1 a xs ∧ R (IteT K a) H1
theorem pi_enumT {X : Cx} {e : Expr} {ta : TA} {p pos tpos : Pos} {elts : List Expr} {kk : Nat} (hg : Gl X "enumerate") (hm : X.mg "enumerate" = none) (ha : PA X [e] ta) (hs : starEach [e] X.env = [(false, eval e X.env)] := by rfl) :
    PI X (.Tuple elts kk tpos) (.Call (.Name "enumerate" p) [e] [] pos) (iEnumT X.K ta) := by
  refine ⟨fun pins s σ H R I h => ?_⟩
  refine Call_ (ld_blt I hg hm boot_enumerate (PyProof.Rows.callWith_type1 (thn (ha.run pos pins s σ H _ I h) fun us s1 ⟨vs, H1, I1, r1, q1⟩ => ?_) hs rfl))
  obtain ⟨a, xs, ex, hq, q⟩ := q1
  subst ex
  cases r1 with
  | cons r rr =>
    cases rr
    cases r
    obtain ⟨its, rv, p', hz⟩ := I1.tuple hq
    refine q_call_enumerateT (show s1.heap.IsTuple a its.toArray from p') fun h' he hit hsz hk => wpAny_pyIter_enum he ?_
    have I2 : L2.Inv X pins σ H1 { s1 with heap := h' } := I1.kept (t' := s1.toks) hk
    have la : a < s1.heap.objs.size := by
      obtain ⟨o, ho, _⟩ := p'
      exact Heap.lt_size ho
    refine ⟨s1.heap.objs.size + 1, [s1.heap.objs.size + 1, s1.heap.objs.size], _, _, H1, rfl, I2, turn_enumT a (s1.heap.objs.size + 1) s1.heap.objs.size, ⟨⟨.none, he⟩, hit, Nat.succ_ne_self _, Nat.ne_of_lt la, Nat.ne_of_gt (Nat.lt_succ_of_lt la)⟩, fun b hb => ?_, q⟩
    have e' : b = s1.heap.objs.size + 1 ∨ b = s1.heap.objs.size := by simpa using hb
    have hle : s1.heap.objs.size ≤ b := by
      rcases e' with z | z
      · rw [z]; exact Nat.le_add_right _ _
      · rw [z]; exact Nat.le_refl _
    exact I1.fpOk hle (I1.hok.fresh hle)
theorem piETK {X : Cx} {K : PySem.W.Frag} {e : Expr} {ta : TA} {p pos tpos : Pos} {elts : List Expr} {kk : Nat} (hg : Gl X "enumerate") (hm : X.mg "enumerate" = none) (ha : PA X [e] ta) (h : X.K = K := by rfl) (hs : starEach [e] X.env = [(false, eval e X.env)] := by rfl) :
    PI X (.Tuple elts kk tpos) (.Call (.Name "enumerate" p) [e] [] pos) (iEnumT K ta) := h ▸ pi_enumT hg hm ha hs
section
variable {K : PySem.W.Frag} {σ : L2.St} {H : Hp} {Q : VK} {nx bk ct : L2.St → Hp → Prop} {rt : VK} {g : TG} {tb : TS}
theorem q_iEnumT {ta : TA} {P : It → Hp → Prop} (q : ta σ H fun vs H1 => ∃ a xs, vs = [.ref a] ∧ SqT K H1 a xs ∧ P (IteT K a) H1) : iEnumT K ta σ H P := q
theorem q_enumT {a : Addr} {xs : List V} {P : Addr → Prop} (h : H a = some (.tup xs)) (q : P a) : ∃ b xs, [V.ref a] = [.ref b] ∧ SqT K H b xs ∧ P b := ⟨a, xs, rfl, SqT.of h, q⟩
theorem loop_enumT {a : Addr} {xs : List V} (Pv : Nat → L2.St → Hp → Prop) (h0 : Pv 0 σ H) (hl : ∀ i σ H, i ≤ xs.length → Pv i σ H → H a = some (.tup xs))
    (hs : ∀ i x σ H T, xs[i]? = some x → Pv i σ H → H T = none → g (.ref T) σ (upd H T (.tup [.int (i : Nat), x])) fun σ2 H2 => tb ⟨Pv (i + 1), rt, nx, Pv (i + 1)⟩ σ2 H2) (hd : ∀ σ H, Pv xs.length σ H → nx σ H) : Loop (IteT K a) g tb nx rt σ H := by
  refine ⟨fun i m σ H => m = xs.length - i ∧ i ≤ xs.length ∧ Pv i σ H, ⟨xs.length, by simp, Nat.zero_le _, h0⟩, ?_⟩
  rintro i m σ H ⟨rfl, hi, p⟩
  have q : SqT K H a xs := SqT.of (hl i σ H hi p)
  by_cases hlt : i < xs.length
  · refine .inr ⟨⟨xs, xs[i], q, by simp [hlt]⟩, Pv (i + 1), fun σ' H' p' => ⟨xs.length - (i + 1), by omega, rfl, hlt, p'⟩, fun x H' y => ?_⟩
    obtain ⟨T, y1, e1, e2, e3, e4⟩ := y
    subst e1 e3
    exact hs i y1 σ H T (e4 xs q) p e2
  · have e : i = xs.length := by omega
    subst e
    exact .inl ⟨⟨xs, q, rfl⟩, hd σ H p⟩
theorem lcp_enumT {tt : TT} {te : TE} {vs : List Nat} {τ : L2.St} {D : Addr} {Qd : Hp → Prop} {a : Addr} {xs : List V} (Pv : Nat → Hp → Prop) (h0 : Pv 0 H) (hl : ∀ i H, i ≤ xs.length → Pv i H → H a = some (.tup xs)) (hs : ∀ i x H T, xs[i]? = some x → Pv i H → H T = none → TurnC g tt te τ vs D (.ref T) (Pv (i + 1)) (upd H T (.tup [.int (i : Nat), x]))) (hd : ∀ H, Pv xs.length H → Qd H) : LoopC (IteT K a) g tt te τ vs D Qd H := by
  refine ⟨fun i m H => m = xs.length - i ∧ i ≤ xs.length ∧ Pv i H, ⟨xs.length, by simp, Nat.zero_le _, h0⟩, ?_⟩
  rintro i m H ⟨rfl, hi, p⟩
  have q : SqT K H a xs := SqT.of (hl i H hi p)
  by_cases hlt : i < xs.length
  · refine .inr ⟨⟨xs, xs[i], q, by simp [hlt]⟩, Pv (i + 1), fun H' p' => ⟨xs.length - (i + 1), by omega, rfl, hlt, p'⟩, fun x H' y => ?_⟩
    obtain ⟨T, y1, e1, e2, e3, e4⟩ := y
    subst e1 e3
    exact hs i y1 H T (e4 xs q) p e2
  · have e : i = xs.length := by omega
    subst e
    exact .inl ⟨⟨xs, q, rfl⟩, hd H p⟩
end
/-! ### list(d.values()) -/
theorem vals_of : ∀ {xs : List V} {ys : List Value}, xs.length = ys.length → (∀ (i : Nat) (x : V) (y : Value), xs[i]? = some x → ys[i]? = some y → RelV x y) → Vals xs ys
  | [], [], _, _ => .nil
  | [], _ :: _, h, _ => nomatch h
  | _ :: _, [], h, _ => nomatch h
  | x :: xs, y :: ys, h, r => .cons (r 0 x y rfl rfl) (vals_of (Nat.succ.inj h) fun i a b h1 h2 => r (i + 1) a b h1 h2)
def tListVals (te : TE) : TE := fun σ H Q => te σ H fun x H1 => ∃ (d : Addr) (kvs : List (L2.Key × V)), x = .ref d ∧ H1 d = some (.dK kvs) ∧ ∀ p, H1 p = none → Q (.ref p) (upd H1 p (.lst (kvs.map (·.2))))
theorem pe_listVals {X : Cx} {e : Expr} {te : TE} {p apos cpos pos : Pos} (hc : X.calm = true) (he : PE X e te) (hg : Gl X "list") (hm : X.mg "list" = none) (hv : bootBuiltins "list" = some (.type "list")) (hbase : attributeBase e "values" X.env (eval e X.env) = eval e X.env := by rfl) (hline : (apos.endLine == cpos.line) = true := by rfl)
    (hs : starEach [.Call (.Attribute e "values" apos) [] [] cpos] X.env = (false, eval (.Call (.Attribute e "values" apos) [] [] cpos) X.env) :: starEach [] X.env := by rfl) :
    PE X (.Call (.Name "list" p) [.Call (.Attribute e "values" apos) [] [] cpos] [] pos) (tListVals te) := by
  refine ⟨fun pins s σ H Q I hq => ?_⟩
  refine wpAny_Call_Name_kw (ld_blt I hg hm hv ?_)
  refine PyProof.Rows.callWith_type1 ?_ hs rfl
  rw [hs]
  show wpAny _ _ (spliced ((false, eval (.Call (.Attribute e "values" apos) [] [] cpos) X.env) :: backTo pos (starEach [] X.env))) _ _ s
  refine Calls.spliced_cons ?_
  refine wpAny_Call_method (T := "dict") (id := "dict.values") hbase rfl hline F.plainAttrs_dict F.slot_dict_values F.type_dict_values (thn (he.run pins s σ H _ I hq) fun u s1 ⟨x, H1, I1, rx, d, kvs, ex, hd, q⟩ => ?_)
  subst ex
  obtain rfl : u = Value.ref d := rx
  obtain ⟨hz, hs0, vs, kv, hdo⟩ := I1.hok d _ hd
  obtain ⟨ep, hat⟩ := hdo.dictAt
  have lk : kvs.length = vs.length := Paired.length kv
  have I2 : L2.Inv X pins σ H1 { s1 with heap := s1.heap.push { cls := .type "dict_values", data := .fields #[.ref d] } } := I1.kept (t' := s1.toks) fun b ob q => Heap.get?_push_of_some _ q
  refine ⟨hdo.typeIs, hdo.mapOf.noDict, ?_⟩
  show wpAny _ _ (callWith cpos (.builtin "dict.values") [.ref d] [] []) _ X.xe s1
  refine method_meetsIn F.slot_dict_values F.entry_dict_values rfl (PySem.evalArgs_none ⟨rfl, hdo.typeIs, F.args_dict_values_1 _, _, meets_dict_values (mixKind X.prog X.w) d hs0, ⟨vs, hdo⟩, ?_⟩)
  refine Calls.spliced_nil ?_
  refine PySem.W.kdl_call (PySem.W.kdl_values (knd := mixKind X.prog X.w) (kvs := vs) (ep := ep)) (I1.ok.hd hc) ⟨⟨_, Heap.get?_push_size _ rfl, rfl, rfl⟩, hat.push _⟩ (by omega) fun h' tk acc c hk hS hacc => ?_
  have rv : Vals (kvs.map (·.2)) acc.toList := by
    have la : acc.toList.length = vs.length := by
      rw [Array.length_toList]
      exact hacc.1
    refine vals_of (by rw [List.length_map, la, lk]) fun i x y hx hy => ?_
    obtain ⟨k, hk2⟩ := hacc.2 i y (by rw [← Array.getElem?_toList]; exact hy)
    obtain ⟨x', h1, h2⟩ := KV.at' kv hk2
    rw [List.getElem?_map, h1] at hx
    have := Option.some.inj hx
    rw [← this]
    exact h2
  refine ⟨.ref _, _, I2.laid (t' := tk) (o := .lst (kvs.map (·.2))) hk (Nat.le_refl _) ⟨by rw [List.length_map]; exact hz, acc.toList, c, rv, ?_⟩, rfl, q _ (I2.hok.fresh (Nat.le_refl _))⟩
  rw [Array.toArray_toList]
  exact hS
section
variable {σ : L2.St} {H : Hp} {Q : VK}
theorem q_listVals {te : TE} (q : te σ H fun x H1 => ∃ (d : Addr) (kvs : List (L2.Key × V)), x = .ref d ∧ H1 d = some (.dK kvs) ∧ ∀ p, H1 p = none → Q (.ref p) (upd H1 p (.lst (kvs.map (·.2))))) : tListVals te σ H Q := q
end
end Bs

namespace Bs
open PySem PySem.Spec PyProof.Rows L2
open Evl (Ex)
/-! ### dicts of whole numbers, by their rows -/
def kI (p : Int × Int) : L2.Key × V := (Sum.inl p.1, .int p.2)
theorem kI_val : ∀ {kvs : List (Int × Int)} {k v : Int}, (kvs.map (·.1)).Nodup → (k, v) ∈ kvs → valV (kvs.map kI) (Sum.inl k) = some (.int v)
  | p :: r, k, v, nd, m => by
    rw [List.map_cons, List.nodup_cons] at nd
    unfold valV
    rw [List.map_cons, List.find?_cons]
    rcases List.mem_cons.mp m with e | e
    · rw [← e]
      rw [show decide ((kI (k, v)).1 = Sum.inl k) = true from decide_eq_true rfl]
      rfl
    · have ne : p.1 ≠ k := fun z => nd.1 (by rw [z]; exact List.mem_map_of_mem (f := (·.1)) e)
      rw [show decide ((kI p).1 = Sum.inl k) = false from decide_eq_false fun z => ne (Sum.inl.inj z)]
      have := kI_val nd.2 e
      unfold valV at this
      exact this
theorem kI_put {kvs : List (Int × Int)} {k v : Int} (h : k ∉ kvs.map (·.1)) : putK (kvs.map kI) (Sum.inl k) (.int v) = (kvs ++ [(k, v)]).map kI := by
  unfold putK
  rw [if_neg, List.map_append]
  · rfl
  · intro z
    rw [List.any_eq_true] at z
    obtain ⟨q, hq, e⟩ := z
    obtain ⟨p, hp, rfl⟩ := List.mem_map.mp hq
    exact h (List.mem_map.mpr ⟨p, hp, Sum.inl.inj (of_decide_eq_true e)⟩)
section
variable {K : PySem.W.Frag} {σ : L2.St} {H : Hp} {Q : VK} {nx bk ct : L2.St → Hp → Prop} {rt : VK} {g : TG} {tt : TT} {te tk : TE} {vs : List Nat} {τ : L2.St} {D : Addr} {Qd : Hp → Prop}
/-- a dict comprehension's walk -/
def LoopD (J : It) (g : TG) (tt : TT) (tk te : TE) (τ : L2.St) (vs : List Nat) (D : Addr) (Qd : Hp → Prop) (H : Hp) : Prop := ∃ W : Nat → Nat → Hp → Prop, (∃ m, W 0 m H) ∧ ∀ i m H, W i m H →
  (J.stop i H ∧ Qd H) ∨ (J.go i H ∧ ∃ Nx : Hp → Prop, (∀ H', Nx H' → ∃ m', m' < m ∧ W (i + 1) m' H') ∧ ∀ x H', J.yld i H x H' → g x τ H' fun σ2 H2 => wipe σ2 vs = τ ∧ tt σ2 H2 fun b H3 =>
    if b = true then tk σ2 H3 fun y H4 => te σ2 H4 fun z H5 => ∃ kvs k, y = kV k ∧ H5 D = some (.dK kvs) ∧ kvs.length < sizeLine ∧ Nx (upd H5 D (.dK (putK kvs k z))) else Nx H3)
def TurnD (g : TG) (tt : TT) (tk te : TE) (τ : L2.St) (vs : List Nat) (D : Addr) (x : V) (Nx : Hp → Prop) (H : Hp) : Prop := g x τ H fun σ2 H2 => wipe σ2 vs = τ ∧ tt σ2 H2 fun b H3 =>
  if b = true then tk σ2 H3 fun y H4 => te σ2 H4 fun z H5 => ∃ kvs k, y = kV k ∧ H5 D = some (.dK kvs) ∧ kvs.length < sizeLine ∧ Nx (upd H5 D (.dK (putK kvs k z))) else Nx H3
theorem q_turnD {x : V} {Nx : Hp → Prop} (q : g x τ H fun σ2 H2 => wipe σ2 vs = τ ∧ tt σ2 H2 fun b H3 => if b = true then tk σ2 H3 fun y H4 => te σ2 H4 fun z H5 => ∃ kvs k, y = kV k ∧ H5 D = some (.dK kvs) ∧ kvs.length < sizeLine ∧ Nx (upd H5 D (.dK (putK kvs k z))) else Nx H3) : TurnD g tt tk te τ vs D x Nx H := q
theorem q_dc {wi : TI} (e : wipe σ vs = τ) (q : wi σ H fun J H1 => ∀ D, H1 D = none → LoopD J g tt tk te τ vs D (fun H => Q (.ref D) H) (upd H1 D (.dK []))) : tDc wi g tt tk te vs σ H Q := by
  subst e
  exact q
theorem q_putD {k v : Int} {kvs : List (Int × Int)} {Nx : Hp → Prop} (h : H D = some (.dK (kvs.map kI))) (s : kvs.length ≤ 10000) (n : k ∉ kvs.map (·.1)) (q : Nx (upd H D (.dK ((kvs ++ [(k, v)]).map kI)))) : ∃ kvs' k', V.int k = kV k' ∧ H D = some (.dK kvs') ∧ kvs'.length < sizeLine ∧ Nx (upd H D (.dK (putK kvs' k' (.int v)))) :=
  ⟨kvs.map kI, Sum.inl k, rfl, h, by rw [List.length_map, sizeLine_eq]; omega, by rw [kI_put n]; exact q⟩
theorem dcp_list {a : Addr} {xs : List V} (Pv : Nat → Hp → Prop) (h0 : Pv 0 H) (hl : ∀ i H, i ≤ xs.length → Pv i H → H a = some (.lst xs)) (hs : ∀ i x H, xs[i]? = some x → Pv i H → TurnD g tt tk te τ vs D x (Pv (i + 1)) H) (hd : ∀ H, Pv xs.length H → Qd H) : LoopD (Itl K a) g tt tk te τ vs D Qd H := by
  refine ⟨fun i m H => m = xs.length - i ∧ i ≤ xs.length ∧ Pv i H, ⟨xs.length, by simp, Nat.zero_le _, h0⟩, ?_⟩
  rintro i m H ⟨rfl, hi, p⟩
  have q : SqL K H a xs := SqL.of (hl i H hi p)
  by_cases hlt : i < xs.length
  · refine .inr ⟨⟨xs, xs[i], q, by simp [hlt]⟩, Pv (i + 1), fun H' p' => ⟨xs.length - (i + 1), by omega, rfl, hlt, p'⟩, fun x H' y => ?_⟩
    obtain ⟨e, y⟩ := y
    subst e
    exact hs i x _ (y xs q) p
  · have e : i = xs.length := by omega
    subst e
    exact .inl ⟨⟨xs, q, Nat.le_refl _⟩, hd H p⟩
theorem dcp_keysT {E : List Ent} {d : Addr} {o : Obj} (Pv : Nat → Hp → Prop) (h0 : Pv 0 H) (hl : ∀ i H, Pv i H → H d = some (.frz o (.dT (E.map entP))))
    (hs : ∀ (i : Nat) (e : Ent) (q : Addr) H, E[i]? = some e → H q = some (.tup [.int e.1.1, .int e.1.2]) → Pv i H → TurnD g tt tk te τ vs D (.ref q) (Pv (i + 1)) H) (hd : ∀ H, Pv E.length H → Qd H) : LoopD (Itkt d o (E.map entP)) g tt tk te τ vs D Qd H := by
  refine ⟨fun i m H => m = E.length - i ∧ i ≤ E.length ∧ Pv i H, ⟨E.length, by simp, Nat.zero_le _, h0⟩, ?_⟩
  rintro i m H ⟨rfl, hi, p⟩
  have q := hl i H p
  by_cases hlt : i < E.length
  · refine .inr ⟨⟨q, by rw [List.length_map]; exact hlt⟩, Pv (i + 1), fun H' p' => ⟨E.length - (i + 1), by omega, rfl, hlt, p'⟩, fun x H' y => ?_⟩
    obtain ⟨rfl, k, kv, pq, hk, rfl, hq⟩ := y
    rw [List.getElem?_map, List.getElem?_eq_getElem hlt] at hk
    have e1 : kP (E[i]).1 = k := congrArg Prod.fst (Option.some.inj hk)
    rw [← e1] at hq
    exact hs i _ pq _ (List.getElem?_eq_getElem hlt) hq p
  · have e : i = E.length := by omega
    subst e
    exact .inl ⟨⟨q, by rw [List.length_map]; exact Nat.le_refl _⟩, hd H p⟩
theorem lcp_keysT {E : List Ent} {d : Addr} {o : Obj} (Pv : Nat → Hp → Prop) (h0 : Pv 0 H) (hl : ∀ i H, Pv i H → H d = some (.frz o (.dT (E.map entP))))
    (hs : ∀ (i : Nat) (e : Ent) (q : Addr) H, E[i]? = some e → H q = some (.tup [.int e.1.1, .int e.1.2]) → Pv i H → TurnC g tt te τ vs D (.ref q) (Pv (i + 1)) H) (hd : ∀ H, Pv E.length H → Qd H) : LoopC (Itkt d o (E.map entP)) g tt te τ vs D Qd H := by
  refine ⟨fun i m H => m = E.length - i ∧ i ≤ E.length ∧ Pv i H, ⟨E.length, by simp, Nat.zero_le _, h0⟩, ?_⟩
  rintro i m H ⟨rfl, hi, p⟩
  have q := hl i H p
  by_cases hlt : i < E.length
  · refine .inr ⟨⟨q, by rw [List.length_map]; exact hlt⟩, Pv (i + 1), fun H' p' => ⟨E.length - (i + 1), by omega, rfl, hlt, p'⟩, fun x H' y => ?_⟩
    obtain ⟨rfl, k, kv, pq, hk, rfl, hq⟩ := y
    rw [List.getElem?_map, List.getElem?_eq_getElem hlt] at hk
    have e1 : kP (E[i]).1 = k := congrArg Prod.fst (Option.some.inj hk)
    rw [← e1] at hq
    exact hs i _ pq _ (List.getElem?_eq_getElem hlt) hq p
  · have e : i = E.length := by omega
    subst e
    exact .inl ⟨⟨q, by rw [List.length_map]; exact Nat.le_refl _⟩, hd H p⟩
theorem lcp_keysI {kvs : List (Int × Int)} {d : Addr} {o : Obj} (Pv : Nat → Hp → Prop) (h0 : Pv 0 H) (hl : ∀ i H, Pv i H → H d = some (.frz o (.dK (kvs.map kI))))
    (hs : ∀ (i : Nat) (p : Int × Int) H, kvs[i]? = some p → Pv i H → TurnC g tt te τ vs D (.int p.1) (Pv (i + 1)) H) (hd : ∀ H, Pv kvs.length H → Qd H) : LoopC (Itk d o (kvs.map kI)) g tt te τ vs D Qd H := by
  refine ⟨fun i m H => m = kvs.length - i ∧ i ≤ kvs.length ∧ Pv i H, ⟨kvs.length, by simp, Nat.zero_le _, h0⟩, ?_⟩
  rintro i m H ⟨rfl, hi, p⟩
  have q := hl i H p
  by_cases hlt : i < kvs.length
  · refine .inr ⟨⟨q, by rw [List.length_map]; exact hlt⟩, Pv (i + 1), fun H' p' => ⟨kvs.length - (i + 1), by omega, rfl, hlt, p'⟩, fun x H' y => ?_⟩
    obtain ⟨rfl, k, kv, hk, rfl⟩ := y
    rw [List.getElem?_map, List.getElem?_eq_getElem hlt] at hk
    have e1 : Sum.inl (kvs[i]).1 = k := congrArg Prod.fst (Option.some.inj hk)
    rw [← e1]
    exact hs i _ _ (List.getElem?_eq_getElem hlt) p
  · have e : i = kvs.length := by omega
    subst e
    exact .inl ⟨⟨q, by rw [List.length_map]; exact Nat.le_refl _⟩, hd H p⟩
/-- d[k] of a dict of whole numbers, frozen or not -/
theorem q_getI {a : Addr} {kvs : List (Int × Int)} {k v : Int} {P : V → Prop} (h : H a = some (.dK (kvs.map kI)) ∨ ∃ o, H a = some (.frz o (.dK (kvs.map kI)))) (nd : (kvs.map (·.1)).Nodup) (m : (k, v) ∈ kvs) (q : P (.int v)) : ∃ b v, V.ref a = .ref b ∧ DGet H b (.int k) (some v) ∧ P v := by
  refine ⟨a, .int v, rfl, ?_, q⟩
  rw [← kI_val nd m]
  exact .inl ⟨_, Sum.inl k, h, rfl, rfl⟩
/-- gaps[(x, y)], frozen or not -/
theorem q_getP {a p : Addr} {E : List Ent} {e : Ent} {P : V → Prop} (h : H a = some (.dT (E.map entP)) ∨ ∃ o, H a = some (.frz o (.dT (E.map entP)))) (hp : H p = some (.tup [.int e.1.1, .int e.1.2])) (v : valV (E.map entP) (kP e.1) = some (.int e.2)) (q : P (.int e.2)) : ∃ b v, V.ref a = .ref b ∧ DGet H b (.ref p) (some v) ∧ P v := by
  refine ⟨a, .int e.2, rfl, ?_, q⟩
  rw [← v]
  exact .inr ⟨_, kP e.1, p, h, rfl, hp, rfl⟩
end
/-! ### ways through a net -/
/-- consecutive pairs of a way are entries; the sum of their gaps and the lengths of all but the last -/
inductive Way (E : List Ent) (len : Int → Int) : List Int → Int → Prop
  | one (x : Int) : Way E len [x] 0
  | cons {e : Ent} {r : List Int} {s : Int} : e ∈ E → Way E len (e.1.2 :: r) s → Way E len (e.1.1 :: e.1.2 :: r) (len e.1.1 + e.2 + s)
theorem Way.snoc {E : List Ent} {len : Int → Int} {w : List Int} {s : Int} (h : Way E len w s) : ∀ {e : Ent}, e ∈ E → w.getLast? = some e.1.1 → Way E len (w ++ [e.1.2]) (s + (len e.1.1 + e.2)) := by
  induction h with
  | one x =>
    intro e me hl
    have : x = e.1.1 := Option.some.inj hl
    subst this
    have := Way.cons (len := len) me (Way.one e.1.2)
    rw [show len e.1.1 + e.2 + 0 = 0 + (len e.1.1 + e.2) by omega] at this
    exact this
  | cons m0 w0 ih =>
    intro e me hl
    rw [List.getLast?_cons_cons] at hl
    have := Way.cons m0 (ih me hl)
    rw [show ∀ a b c d : Int, a + b + (c + d) = a + b + c + d from fun a b c d => by omega] at this
    exact this
theorem Way.ne {E : List Ent} {len : Int → Int} {w : List Int} {s : Int} (h : Way E len w s) : w ≠ [] := by
  cases h <;> exact List.cons_ne_nil _ _
end Bs

namespace Bs
open PySem PySem.Spec PyProof.Rows L2
open Evl (Ex)
/-! ### zip of a tuple and a list -/
def IzM (K : PySem.W.Frag) (a b : Addr) : It :=
  ⟨fun i H => ∃ (xs ys : List V) (x y : V), SqT K H a xs ∧ SqL K H b ys ∧ xs[i]? = some x ∧ ys[i]? = some y,
    fun i H v H' => ∃ T x y, v = .ref T ∧ H T = none ∧ H' = upd H T (.tup [x, y]) ∧ (∀ xs, SqT K H a xs → xs[i]? = some x) ∧ ∀ ys, SqL K H b ys → ys[i]? = some y,
    fun i H => ∃ xs ys : List V, SqT K H a xs ∧ SqL K H b ys ∧ xs.length = i ∧ ys.length = i⟩
theorem turn_zipM {P : Program} {w : World} {K : PySem.W.Frag} {elts : List Expr} {kk : Nat} {tpos : Pos} {a b z TI TO i1 i2 : Addr} (D : ZipSep2 z TI TO i1 i2 [i1, a] [i2, b]) (na : a ≠ i1) (nb : b ≠ i2) :
    Turn P w K (.Tuple elts kk tpos) (IzM K a b) [z, TI, TO, i1, i2] z (fun i h => IsZip h z TI TO .none ∧ IsTupOf2 h TI (.ref i1) (.ref i2) ∧ (∃ x y, IsTupOf2 h TO x y) ∧ h.IsTupleIter i1 a i ∧ h.IsListIter i2 b i) where
  mem := by simp
  obj := fun i h st c cm => by
    obtain ⟨sz, sI, ⟨x, y, sO⟩, ⟨o1, e1, _, d1⟩, ⟨o2, e2, _, d2⟩⟩ := st
    simp only [List.mem_cons, List.not_mem_nil, or_false] at cm
    rcases cm with rfl | rfl | rfl | rfl | rfl
    · exact ⟨_, sz, fun v q => nomatch q⟩
    · exact ⟨_, sI, fun v q => nomatch q⟩
    · exact ⟨_, sO, fun v q => nomatch q⟩
    · exact ⟨o1, e1, fun v q => by rw [d1] at q; cases q⟩
    · exact ⟨o2, e2, fun v q => by rw [d2] at q; cases q⟩
  keep := fun i h h' ⟨sz, sI, ⟨x, y, sO⟩, t1, t2⟩ k =>
    ⟨k z (by simp) _ sz, k TI (by simp) _ sI, ⟨x, y, k TO (by simp) _ sO⟩, t1.at fun o q => k i1 (by simp) o q, t2.at fun o q => k i2 (by simp) o q⟩
  item := by
    intro X hP hw hK hc i pins s σ H E I hf st hg
    subst hP hw hK
    obtain ⟨sz, sI, ⟨x0, y0, sO⟩, t1, t2⟩ := st
    obtain ⟨xs, ys, x, y, qx, qy, hx, hy⟩ := hg
    obtain ⟨its, rv, p, _⟩ := I.tuple qx
    obtain ⟨its2, rv2, p2, _⟩ := I.list qy
    obtain ⟨u, hu, ru⟩ := rv.get hx
    obtain ⟨u2, hu2, ru2⟩ := rv2.get hy
    have zl : z < s.heap.objs.size := Heap.lt_size sz
    have lt1 : i < its.toArray.size := by
      have := (List.getElem?_eq_some_iff.mp hu).1
      simpa using this
    have lt2 : i < its2.toArray.size := by
      have := (List.getElem?_eq_some_iff.mp hu2).1
      simpa using this
    refine wpAny_pyNext_zipD2_item D (Draws.tuple (A := X.A.in1) (I.ok.hd hc) i1 a na its.toArray) (Draws.list (A := X.A.in1) (I.ok.hd hc) i2 b nb its2.toArray) sz sI sO ⟨t1, p⟩ ⟨t2, p2.isList⟩ lt1 lt2 fun v1 v2 g tk h1 h2 sz' sO' n1 n2 hT hsz hk => ?_
    obtain rfl : v1 = u := by
      have e1 : its.toArray[i]? = some u := by simpa using hu
      exact Option.some.inj (Eq.trans (Eq.symm h1) e1)
    obtain rfl : v2 = u2 := by
      have e1 : its2.toArray[i]? = some u2 := by simpa using hu2
      exact Option.some.inj (Eq.trans (Eq.symm h2) e1)
    refine ⟨_, rfl, wpAny_letOwnedTupleGo_zip (s := { s with heap := g, toks := tk }) sz' fun g2 sz2 sb => ?_⟩
    have hT2 : g2.get? s.heap.objs.size = some { cls := .type "tuple", data := .seq #[v1, v2] } := (sb.2 _ (Nat.ne_of_gt zl)).trans hT
    have new : ObjOk X.prog X.w (upd H s.heap.objs.size (.tup [x, y])) g2 s.heap.objs.size (.tup [x, y]) :=
      ⟨by show 2 ≤ sizeLine; decide, [v1, v2], .cons ru (.cons ru2 .nil), ⟨_, hT2, rfl, _, rfl⟩⟩
    have I1 : L2.Inv X pins σ (upd H s.heap.objs.size (.tup [x, y])) { s with heap := g2, toks := tk } :=
      I.turnedNew (ch := [z, TI, TO, i1, i2]) (fun c o cb q => (sb.2 c (fun e => cb (by simp [e]))).trans (hk c o (fun e => cb (by simp [e])) (fun e => cb (by simp [e])) (fun e => cb (by simp [e])) (fun e => cb (by simp [e])) q)) hf (Nat.le_refl _) new
    have i1z : i1 ≠ z := fun e => D.zf1 (by rw [← e]; exact List.mem_cons_self)
    have i2z : i2 ≠ z := fun e => D.zf2 (by rw [← e]; exact List.mem_cons_self)
    refine ⟨.ref s.heap.objs.size, _, I1, rfl, ⟨_, x, y, rfl, I.hok.fresh (Nat.le_refl _), rfl, fun l hl => by rw [I.tuple_inj hl qx]; exact hx, fun l hl => by rw [I.list_inj hl qy]; exact hy⟩, ⟨sz2, ?_, ⟨v1, v2, ?_⟩, ?_, ?_⟩, fun c cm => ?_⟩
    · exact (sb.2 _ D.TIz).trans (hk _ _ D.TIz D.TITO D.TIi1 D.TIi2 sI)
    · exact (sb.2 _ D.TOz).trans sO'
    · exact n1.1.at fun o q => (sb.2 _ i1z).trans q
    · exact n2.1.at fun o q => (sb.2 _ i2z).trans q
    · have lt : c < s.heap.objs.size := by
        obtain ⟨_, e1, _⟩ := t1
        obtain ⟨_, e2, _⟩ := t2
        simp only [List.mem_cons, List.not_mem_nil, or_false] at cm
        rcases cm with rfl | rfl | rfl | rfl | rfl
        · exact zl
        · exact Heap.lt_size sI
        · exact Heap.lt_size sO
        · exact Heap.lt_size e1
        · exact Heap.lt_size e2
      rw [upd_ne (Nat.ne_of_lt lt)]
      exact (hf c cm).1
  done := by
    intro X hP hw hK hc i pins s σ H E I hf st hg
    subst hP hw hK
    obtain ⟨sz, sI, ⟨x0, y0, sO⟩, t1, t2⟩ := st
    obtain ⟨xs, ys, qx, qy, l1, l2⟩ := hg
    obtain ⟨its, rv, p, _⟩ := I.tuple qx
    obtain ⟨its2, rv2, p2, _⟩ := I.list qy
    have r1 := rv.length
    have r2 := rv2.length
    have e1 : i = its.toArray.size := by simp; omega
    have e2 : i = its2.toArray.size := by simp; omega
    exact wpAny_pyNext_zipD2_end D (Draws.tuple (A := X.A.in1) (I.ok.hd hc) i1 a na its.toArray) (Draws.list (A := X.A.in1) (I.ok.hd hc) i2 b nb its2.toArray) sz sI sO ⟨t1, p⟩ ⟨t2, p2.isList⟩ (Nat.le_of_eq e1) (Nat.le_of_eq e2) (.inl e1) fun g tk hk => ⟨rfl, I.turnedL (t' := tk) (ch := [z, TI, TO, i1, i2]) (fun c o cb q =>
      hk c o (fun e => cb (by simp [e])) (fun e => cb (by simp [e])) (fun e => cb (by simp [e])) (fun e => cb (by simp [e])) q) hf⟩
  self := fun A i s Q E st h => wpAny_pyIter_zip st.1 h
def iZipM (K : PySem.W.Frag) (ta : TA) : TI := fun σ H R => ta σ H fun vs H1 => ∃ a b xs ys, vs = [.ref a, .ref b] ∧ SqT K H1 a xs ∧ SqL K H1 b ys ∧ R (IzM K a b) H1
theorem pi_zipM {X : Cx} {K : PySem.W.Frag} {e e2 : Expr} {ta : TA} {p pos tpos : Pos} {elts : List Expr} {kk : Nat} (hg : Gl X "zip") (hm : X.mg "zip" = none) (ha : PA X [e, e2] ta)
    (hs : starEach [e, e2] X.env = (false, eval e X.env) :: starEach [e2] X.env := by rfl) (hpl : (backTo pos (starEach [e2] X.env)).any (·.1) = false := by rfl) (hK : X.K = K := by rfl) :
    PI X (.Tuple elts kk tpos) (.Call (.Name "zip" p) [e, e2] [] pos) (iZipM K ta) := by
  subst hK
  refine ⟨fun pins s σ H R I h => Call_ (ld_blt I hg hm PyProof.Rows.boot_zip (PyProof.Rows.callWith_type1 (thn (ha.run pos pins s σ H _ I h) fun us s1 ⟨vs, H1, I1, rs, q1⟩ => ?_) hs hpl))⟩
  obtain ⟨a, b, xs, ys, rfl, qx, qy, q⟩ := q1
  rcases rs with _ | ⟨ra, rs⟩
  rcases rs with _ | ⟨rb, rs⟩
  cases rs
  cases ra
  cases rb
  obtain ⟨its, rv, pa, _⟩ := I1.tuple qx
  obtain ⟨its2, rv2, pb, _⟩ := I1.list qy
  have la : a < s1.heap.objs.size := by
    obtain ⟨o, ho, _⟩ := id pa
    exact Heap.lt_size ho
  have lb : b < s1.heap.objs.size := pb.lt
  refine zip_begins2 (begins_tuple a its.toArray) (begins_list b its2.toArray) pa pb.isList fun g sz sI sO g1 g2 size k => wpAny_pyIter_zip sz ?_
  have I2 : L2.Inv X pins σ H1 { s1 with heap := g } := I1.kept (t' := s1.toks) k
  have S := zip_sep2 (N := s1.heap.objs.size) (fp1 := [a]) (fp2 := [b]) (fun c hc => by rw [List.mem_singleton.mp hc]; exact la) (fun c hc => by rw [List.mem_singleton.mp hc]; exact lb)
  refine ⟨s1.heap.objs.size + 4, [s1.heap.objs.size + 4, s1.heap.objs.size + 2, s1.heap.objs.size + 3, s1.heap.objs.size, s1.heap.objs.size + 1], _, _, H1, rfl, I2, turn_zipM S (Nat.ne_of_lt la) (Nat.ne_of_lt (Nat.lt_succ_of_lt lb)), ⟨sz, sI, ⟨_, _, sO⟩, ⟨_, g1, rfl, rfl⟩, ⟨_, g2, rfl, rfl⟩⟩, fun c cm => ?_, q⟩
  have le : s1.heap.objs.size ≤ c := by
    simp only [List.mem_cons, List.not_mem_nil, or_false] at cm
    generalize s1.heap.objs.size = N at cm ⊢
    rcases cm with e | e | e | e | e <;> subst e <;> first | exact Nat.le_refl _ | exact Nat.le_add_right _ _
  exact I1.fpOk le (I1.hok.fresh le)
section
variable {K : PySem.W.Frag} {σ : L2.St} {H : Hp} {Q : VK} {nx bk ct : L2.St → Hp → Prop} {rt : VK} {g : TG} {tb : TS}
theorem q_iZipM {ta : TA} {P : It → Hp → Prop} (q : ta σ H fun vs H1 => ∃ a b xs ys, vs = [.ref a, .ref b] ∧ SqT K H1 a xs ∧ SqL K H1 b ys ∧ P (IzM K a b) H1) : iZipM K ta σ H P := q
theorem q_zipM {a b : Addr} {xs ys : List V} {P : Addr → Addr → Prop} (h : H a = some (.tup xs)) (h' : H b = some (.lst ys)) (q : P a b) : ∃ c d xs ys, [V.ref a, .ref b] = [.ref c, .ref d] ∧ SqT K H c xs ∧ SqL K H d ys ∧ P c d := ⟨a, b, xs, ys, rfl, SqT.of h, SqL.of h', q⟩
theorem loop_zipM {a b : Addr} {xs ys : List V} (hn : xs.length = ys.length) (Pv : Nat → L2.St → Hp → Prop) (h0 : Pv 0 σ H) (hl : ∀ i σ H, Pv i σ H → H a = some (.tup xs) ∧ H b = some (.lst ys))
    (hs : ∀ i x y σ H T, xs[i]? = some x → ys[i]? = some y → Pv i σ H → H T = none → g (.ref T) σ (upd H T (.tup [x, y])) fun σ2 H2 => tb ⟨Pv (i + 1), rt, nx, Pv (i + 1)⟩ σ2 H2) (hd : ∀ σ H, Pv xs.length σ H → nx σ H) : Loop (IzM K a b) g tb nx rt σ H := by
  refine ⟨fun i m σ H => m = xs.length - i ∧ i ≤ xs.length ∧ Pv i σ H, ⟨xs.length, by simp, Nat.zero_le _, h0⟩, ?_⟩
  rintro i m σ H ⟨rfl, hi, p⟩
  have q1 : SqT K H a xs := SqT.of (hl i σ H p).1
  have q2 : SqL K H b ys := SqL.of (hl i σ H p).2
  by_cases hlt : i < xs.length
  · have l2 : i < ys.length := by omega
    refine .inr ⟨⟨xs, ys, xs[i], ys[i], q1, q2, by simp [hlt], by simp [l2]⟩, Pv (i + 1), fun σ' H' p' => ⟨xs.length - (i + 1), by omega, rfl, hlt, p'⟩, fun x H' y => ?_⟩
    obtain ⟨T, y1, y2, e1, e2, e3, e4, e5⟩ := y
    subst e1 e3
    exact hs i y1 y2 σ H T (e4 xs q1) (e5 ys q2) p e2
  · have e : i = xs.length := by omega
    subst e
    exact .inl ⟨⟨xs, ys, q1, q2, rfl, hn.symm⟩, hd σ H p⟩
end
end Bs

namespace Bs
open PySem PySem.Spec PyProof.Rows L2
open Evl (Ex)
/-- tuple(xs) of a list, the tuple known by its object -/
def rTupleF (K : PySem.W.Frag) : List V → Hp → VK → Prop := fun xs H Q => ∃ p ys, xs = [.ref p] ∧ SqL K H p ys ∧ ∀ (l : Addr) (o : Obj), H l = none → o.dict = none → Q (.ref l) (upd H l (.frz o (.tup ys)))
theorem cr_tupleF {X : Cx} {K : PySem.W.Frag} (hK : X.K = K := by rfl) : CallR X (.type "tuple") (rTupleF K) := by
  subst hK
  intro pins s σ H vs us Q I r h
  obtain ⟨p, ys, rfl, hs, q⟩ := h
  obtain ⟨its, rv, hl, hz⟩ := I.list hs
  rw [Vals.ref1 r]
  refine call_tuple_list hl.isList (fun h' keep => ?_) (by rw [List.size_toArray, ← rv.length]; exact hz)
  have I1 := I.kept (t' := s.toks) keep
  have g : (h'.push { cls := Value.type "tuple", data := Data.seq its.toArray }).get? h'.objs.size = some { cls := Value.type "tuple", data := Data.seq its.toArray } := Heap.get?_push_size h' rfl
  exact ⟨.ref _, upd H h'.objs.size (.frz { cls := Value.type "tuple", data := Data.seq its.toArray } (.tup ys)), I1.laid (t' := s.toks) (fun b o e => Heap.get?_push_of_some _ e) (Nat.le_refl _) ⟨g, hz, its, rv, IsTup.new h' its.toArray⟩, rfl, q _ _ (I1.hok.fresh (Nat.le_refl _)) rfl⟩
/-- dict(t), t a tuple, known by its object, of pairs -/
def rDictF (K : PySem.W.Frag) : List V → Hp → VK → Prop := fun xs H Q => ∃ (a : Addr) (o : Obj) (ps : List Addr) (kvs : List (Key × V)), xs = [V.ref a] ∧ o.dict = none ∧ H a = some (.frz o (.tup (ps.map V.ref))) ∧
  Paired (fun p kv => SqT K H p [kV kv.1, kv.2]) ps kvs ∧ ∀ (p : Addr), H p = none → Q (V.ref p) (upd H p (.dK (mergeK [] kvs)))
theorem cr_dictF {X : Cx} {K : PySem.W.Frag} (hc : X.calm = true) (hK : X.K = K := by rfl) : CallR X (.type "dict") (rDictF K) := by
  subst hK
  intro pins s σ H vs us Q I r h
  obtain ⟨a, o, ps, kvs, rfl, od, ha, hp, q⟩ := h
  obtain ⟨ho, hz, its, rv, o2, ho2, cls, n, dat⟩ := I.hok a _ ha
  have eo : o2 = o := Option.some.inj (ho2.symm.trans ho)
  subst eo
  have ei := refs_at rv
  subst ei
  rw [Vals.ref1 r]
  obtain ⟨prs, rel, hl, hpr⟩ := pairs_of I hp
  have ch : ∀ j : Nat, ∃ u : Value, ∀ q : Key × Value, prs[j]? = some q → ∃ b, ps[j]? = some b ∧ IsTup s.heap b #[u, q.2] ∧ keyIs q.1 u = true := fun j => by
    cases e : prs[j]? with
    | none => exact ⟨.none, fun q z => by cases z⟩
    | some q =>
      obtain ⟨b, u, h1, h2, h3⟩ := hpr j q e
      exact ⟨u, fun q' z => by
        have := Option.some.inj z
        subst this
        exact ⟨b, h1, h2, h3⟩⟩
  let f := fun j => Classical.choose (ch j)
  have hf : ∀ (j : Nat) (q : Key × Value), prs[j]? = some q → ∃ b, ps[j]? = some b ∧ IsTup s.heap b #[f j, q.2] ∧ keyIs q.1 (f j) = true := fun j => Classical.choose_spec (ch j)
  let p2 : List (Value × Value) := prs.mapIdx fun j q => (f j, q.2)
  have l2 : p2.length = prs.length := List.length_mapIdx
  have g2 : ∀ j k v, p2[j]? = some (k, v) → ∃ q, prs[j]? = some q ∧ k = f j ∧ v = q.2 := fun j k v e => by
    rw [show p2[j]? = _ from List.getElem?_mapIdx] at e
    cases z : prs[j]? with
    | none =>
      rw [z] at e
      cases e
    | some q =>
      rw [z] at e
      have := Option.some.inj e
      exact ⟨q, rfl, (Prod.mk.inj this).1.symm, (Prod.mk.inj this).2.symm⟩
  have lps : ps.length ≤ sizeLine := by
    rw [List.length_map] at hz
    exact hz
  refine PySem.call_dict_pairs (knd := mixKind X.prog X.w) (kvs := prs) (PairArg.tuple a (ps.map Value.ref).toArray (fun j => ps.getD j 0) p2) (I.ok.hd hc) ⟨⟨o2, n, ho, cls, od, dat⟩, ?_, fun j k v e => ?_⟩ ⟨l2.symm, fun i key v e => ?_⟩ (by rw [l2, hl]; exact lps) (fun h' tk hd keep => ?_)
  · rw [List.size_toArray, List.length_map, l2, hl]
  · obtain ⟨q', hq, rfl, rfl⟩ := g2 j k v e
    obtain ⟨b, hb, ht, _⟩ := hf j q' hq
    refine ⟨?_, .inl ?_⟩
    · rw [List.getElem?_toArray, List.getElem?_map]
      show Option.map Value.ref ps[j]? = some (Value.ref (ps.getD j 0))
      rw [List.getD_eq_getElem?_getD, hb]
      rfl
    · show s.heap.IsTuple (ps.getD j 0) _
      rw [List.getD_eq_getElem?_getD, hb]
      exact ht
  · obtain ⟨q', hq, rfl, rfl⟩ := g2 i key v e
    obtain ⟨b, _, _, hk⟩ := hf i q' hq
    exact ⟨q'.1, hq, hk⟩
  · have keep' : ∀ (b : Addr) (ob : Obj), s.heap.get? b = some ob → h'.get? b = some ob := fun b ob e => keep b ob (fun z => nomatch z) e
    refine ⟨.ref _, upd H s.heap.objs.size (.dK (mergeK [] kvs)), I.laid (t' := tk) keep' (Nat.le_refl _) (dk_new ?_ ?_ (KV.merge rel .nil) hd), rfl, q _ (I.hok.fresh (Nat.le_refl _))⟩
    · have := length_mergeK kvs []
      have h3 := Paired.length rel
      simp only [List.length_nil] at this
      omega
    · have := I.big
      rw [beq_eq_false_iff_ne]
      intro z
      rw [z] at this
      exact Nat.lt_irrefl _ this
theorem pe_orTK {X : Cx} {K : PySem.W.Frag} {a b : Expr} {ta tb : TE} {rest : List Expr} {pos : Pos} (ha : PE X a ta) (hb : PE X (Expr.BoolOp BoolOp.Or (b :: rest) pos) tb) (hK : X.K = K := by rfl) :
    PE X (Expr.BoolOp BoolOp.Or (a :: b :: rest) pos) (tOrT K ta tb) := hK ▸ pe_orT ha hb
end Bs

namespace Bs
open PySem PySem.Spec PyProof.Rows L2
open Evl (Ex)
/-! ### zip whose pairs go to a name: the pair given last may live on -/
section
variable {prog : Program} {w : World} {A : Around} {E : Value → Shared → Prop} {s : Shared}
/-- the zip's record: what it gave last, and whether that was seen alive -/
abbrev ZRec (g : Heap) (z TI TO : Addr) (own : Value) (f : Bool) : Prop :=
  some { cls := .type "zip", dict := none, data := .fields #[own, .bool f, .bool false, .ref TI, .ref TO], slots := #[] } = g.get? z
theorem zn_free {z TI TO T : Addr} {f : Bool} {Q : Bool → Shared → Prop} (rz : ZRec s.heap z TI TO (rawInt T) f) (dead : s.heap.get? T = none) (q : Q true s) :
    wpAny (model prog w) A (Builtin.SmallTypes.ownedTupleIsFree (.ref z)) Q E s := by
  unfold Builtin.SmallTypes.ownedTupleIsFree
  refine wpAny_bind (wpAny_field rz.symm rfl (x := rawInt T) rfl ?_)
  show wpAny _ _ (loadIfAlive (Int.toNat (Int.ofNat T)) >>= _) _ _ s
  have e : Int.toNat (Int.ofNat T) = T := rfl
  rw [e]
  refine wpAny_bind ?_
  have key : (fun (r : Option Obj) t => wpAny (model prog w) A (if r.isNone then pure true else (do
    if (← field (.ref z) 1) != .bool true then setField (.ref z) 1 (.bool true)
    return false)) Q E t) (s.heap.get? T) s := by
    rw [dead]
    exact wpAny_pure q
  exact fun _ _ _ => key
theorem zn_item {z TI TO T i1 i2 l1 l2 : Addr} {f : Bool} {k1 k2 : Nat} {xs ys : Array Value} {x y a b : Value} {Q : Value → Shared → Prop} (D : ZipApart z TI TO i1 i2 l1 l2)
    (rz : ZRec s.heap z TI TO (rawInt T) f) (dead : s.heap.get? T = none) (rI : IsPair s.heap TI (.ref i1) (.ref i2)) (rO : IsPair s.heap TO a b)
    (r1 : s.heap.IsListIter i1 l1 k1) (r2 : s.heap.IsListIter i2 l2 k2) (c1 : s.heap.IsList l1 xs) (c2 : s.heap.IsList l2 ys) (gx : xs[k1]? = some x) (gy : ys[k2]? = some y)
    (done : ∀ g, ZRec g z TI TO (rawInt s.heap.objs.size) false → IsPair g TO x y → g.IsListIter i1 l1 (k1 + 1) → g.IsListIter i2 l2 (k2 + 1) → IsPair g s.heap.objs.size x y → g.objs.size = s.heap.objs.size + 1 →
      (∀ c o, c ≠ z → c ≠ TO → c ≠ i1 → c ≠ i2 → s.heap.get? c = some o → g.get? c = some o) → Q (.ref s.heap.objs.size) { s with heap := g }) :
    wpAny (model prog w) A (Builtin.«zip.__next__» ⟨[.ref z], []⟩) (fun r t => ∃ v, r = .done (.ret v) ∧ Q v t) E s := by
  show wpAny _ _ (field (.ref z) 2 >>= _) _ E s
  refine wpAny_bind (wpAny_field rz.symm rfl (x := .bool false) rfl ?_)
  show wpAny _ _ (field (.ref z) 3 >>= _) _ E s
  refine wpAny_bind (wpAny_field rz.symm rfl (x := .ref TI) rfl (wpAny_bind (wpAny_seqItems rI rfl ?_)))
  show wpAny _ _ (Builtin.SmallTypes.ownedTupleIsFree (.ref z) >>= _) _ E s
  refine wpAny_bind (zn_free rz dead ?_)
  simp only [if_true]
  refine wpAny_bind (wpAny_rule (wpAny_bind (wpAny_field rz.symm rfl (x := .ref TO) rfl (wpAny_bind (wpAny_setField_rec rz.symm (by simp) fun g1 z1 b1 => ?_)))))
  have z1 : ZRec g1 z TI TO .ellipsis f := z1.symm
  refine wpAny_bind ?_
  simp only [List.zipIdx_cons, List.zipIdx_nil, List.forIn_cons, List.forIn_nil]
  refine wpAny_bind (wpAny_bind (wpAny_onRaise ?_))
  show wpAny _ _ (Builtin.SmallTypes.nextOf (.ref i1) >>= _) _ _ { s with heap := g1 }
  refine wpAny_bind (wpAny_nextOf_list_item (r1.extBut b1.extBut D.i1z) (c1.extBut b1.extBut D.l1z) gx fun g2 n1 b2 => wpAny_pure ?_)
  have o2 : IsPair g2 TO a b := b2.extBut _ _ D.TOi1 (b1.extBut _ _ D.TOz rO)
  refine wpAny_bind (wpAny_seqItems o2 rfl (wpAny_bind (wpAny_updateSeq_pair o2 fun g3 o3 b3 => wpAny_bind (wpAny_letGo (wpAny_pure ?_)))))
  have o3 : IsPair g3 TO x b := o3
  refine wpAny_bind (wpAny_bind (wpAny_onRaise ?_))
  show wpAny _ _ (Builtin.SmallTypes.nextOf (.ref i2) >>= _) _ _ { s with heap := g3 }
  refine wpAny_bind (wpAny_nextOf_list_item (((r2.extBut b1.extBut D.i2z).extBut b2.extBut D.i12.symm).extBut b3.extBut D.TOi2.symm) (((c2.extBut b1.extBut D.l2z).extBut b2.extBut D.l2i1).extBut b3.extBut D.l2TO) gy fun g4 n2 b4 => wpAny_pure ?_)
  have o4 : IsPair g4 TO x b := b4.extBut _ _ D.TOi2 o3
  refine wpAny_bind (wpAny_seqItems o4 rfl (wpAny_bind (wpAny_updateSeq_pair o4 fun g5 o5 b5 => wpAny_bind (wpAny_letGo (wpAny_pure (wpAny_pure ?_))))))
  have o5 : IsPair g5 TO x y := o5
  have size5 : g5.objs.size = s.heap.objs.size := by rw [b5.1, b4.1, b3.1, b2.1, b1.1]
  have z5 : ZRec g5 z TI TO .ellipsis f := (b5.extBut _ _ D.TOz.symm (b4.extBut _ _ D.i2z.symm (b3.extBut _ _ D.TOz.symm (b2.extBut _ _ D.i1z.symm z1.symm)))).symm
  have keep5 : ∀ c o, c ≠ z → c ≠ TO → c ≠ i1 → c ≠ i2 → s.heap.get? c = some o → g5.get? c = some o := fun c o p1 p2 p3 p4 e => b5.extBut _ _ p2 (b4.extBut _ _ p4 (b3.extBut _ _ p2 (b2.extBut _ _ p3 (b1.extBut _ _ p1 e))))
  have m1 : g5.IsListIter i1 l1 (k1 + 1) := ((n1.extBut b3.extBut D.TOi1.symm).extBut b4.extBut D.i12).extBut b5.extBut D.TOi1.symm
  have m2 : g5.IsListIter i2 l2 (k2 + 1) := n2.extBut b5.extBut D.TOi2.symm
  have zlt : z < g5.objs.size := Heap.lt_size z5.symm
  refine wpAny_bind (wpAny_seqItems o5 rfl (wpAny_bind (wpAny_newTuple ?_)))
  show wpAny _ _ (Builtin.SmallTypes.ownedTupleHandOut (.ref z) (.ref g5.objs.size) >>= _) _ E _
  refine wpAny_bind ?_
  unfold Builtin.SmallTypes.ownedTupleHandOut
  have z6 : ZRec (g5.push { cls := .type "tuple", data := .seq #[x, y] }) z TI TO .ellipsis f := (Heap.get?_push_of_some _ z5.symm).symm
  refine wpAny_bind (wpAny_setField_rec z6.symm (by simp) fun g7 z7 b7 => wpAny_setField_rec z7 (by simp) fun g8 z8 b8 => ?_)
  have z8 : ZRec g8 z TI TO (rawInt g5.objs.size) false := z8.symm
  have up : ∀ c o, c ≠ z → g5.get? c = some o → g8.get? c = some o := fun c o p1 e => b8.extBut _ _ p1 (b7.extBut _ _ p1 (Heap.get?_push_of_some _ e))
  have t8 : IsPair g8 g5.objs.size x y := b8.extBut _ _ (Nat.ne_of_gt zlt) (b7.extBut _ _ (Nat.ne_of_gt zlt) (Heap.get?_push_size _ rfl))
  have size8 : g8.objs.size = g5.objs.size + 1 := by rw [b8.1, b7.1, Heap.size_push]
  rw [size5] at z8 t8 size8
  refine wpAny_pure ⟨_, rfl, ?_⟩
  show Q (.ref g5.objs.size) _
  rw [size5]
  exact done g8 z8 (up _ _ D.TOz o5) (m1.at fun o e => up _ o D.i1z e) (m2.at fun o e => up _ o D.i2z e) t8 size8 fun c o p1 p2 p3 p4 e => up c o p1 (keep5 c o p1 p2 p3 p4 e)
theorem zn_end {z TI TO T i1 i2 l1 l2 : Addr} {f : Bool} {k1 k2 : Nat} {xs ys : Array Value} {a b : Value} {Q : Fin → Shared → Prop} (calm : A.handled = none) (D : ZipApart z TI TO i1 i2 l1 l2)
    (rz : ZRec s.heap z TI TO (rawInt T) f) (dead : s.heap.get? T = none) (rI : IsPair s.heap TI (.ref i1) (.ref i2)) (rO : IsPair s.heap TO a b)
    (r1 : s.heap.IsListIter i1 l1 k1) (r2 : s.heap.IsListIter i2 l2 k2) (c1 : s.heap.IsList l1 xs) (c2 : s.heap.IsList l2 ys) (over : xs[k1]? = none ∨ ys[k2]? = none)
    (stop : ∀ g e, (∀ c o, c ≠ z → c ≠ TO → c ≠ i1 → c ≠ i2 → s.heap.get? c = some o → g.get? c = some o) → (∃ o, g.get? e = some o ∧ o.cls = .type "StopIteration") → E (.ref e) { s with heap := g }) :
    wpAny (model prog w) A (Builtin.«zip.__next__» ⟨[.ref z], []⟩) Q E s := by
  show wpAny _ _ (field (.ref z) 2 >>= _) _ E s
  refine wpAny_bind (wpAny_field rz.symm rfl (x := .bool false) rfl ?_)
  show wpAny _ _ (field (.ref z) 3 >>= _) _ E s
  refine wpAny_bind (wpAny_field rz.symm rfl (x := .ref TI) rfl (wpAny_bind (wpAny_seqItems rI rfl ?_)))
  show wpAny _ _ (Builtin.SmallTypes.ownedTupleIsFree (.ref z) >>= _) _ E s
  refine wpAny_bind (zn_free rz dead ?_)
  simp only [if_true]
  refine wpAny_bind (wpAny_rule (wpAny_bind (wpAny_field rz.symm rfl (x := .ref TO) rfl (wpAny_bind (wpAny_setField_rec rz.symm (by simp) fun g1 z1 b1 => ?_)))))
  have z1 : ZRec g1 z TI TO .ellipsis f := z1.symm
  refine wpAny_bind ?_
  simp only [List.zipIdx_cons, List.zipIdx_nil, List.forIn_cons, List.forIn_nil]
  refine wpAny_bind (wpAny_bind (wpAny_onRaise ?_))
  show wpAny _ _ (Builtin.SmallTypes.nextOf (.ref i1) >>= _) _ _ { s with heap := g1 }
  cases gx : xs[k1]? with
  | none =>
    refine wpAny_bind (wpAny_nextOf_list_end calm (r1.extBut b1.extBut D.i1z) (c1.extBut b1.extBut D.l1z) gx fun g2 e b2 ⟨oe, ge, ce⟩ => ?_)
    have z2 : ZRec g2 z TI TO .ellipsis f := (b2 _ _ D.i1z.symm z1.symm).symm
    have ez : e ≠ z := by
      rintro rfl
      rw [← z2] at ge
      cases ge
      simp at ce
    exact wpAny_setField_rec z2.symm (by simp) fun g3 _ b3 => stop g3 e (fun c o p1 _ p3 _ q => b3.extBut _ _ p1 (b2 _ _ p3 (b1.extBut _ _ p1 q))) ⟨oe, b3.extBut _ _ ez ge, ce⟩
  | some x =>
    have gy : ys[k2]? = none := over.resolve_left fun q => by
      rw [gx] at q
      cases q
    refine wpAny_bind (wpAny_nextOf_list_item (r1.extBut b1.extBut D.i1z) (c1.extBut b1.extBut D.l1z) gx fun g2 n1 b2 => wpAny_pure ?_)
    have o2 : IsPair g2 TO a b := b2.extBut _ _ D.TOi1 (b1.extBut _ _ D.TOz rO)
    refine wpAny_bind (wpAny_seqItems o2 rfl (wpAny_bind (wpAny_updateSeq_pair o2 fun g3 o3 b3 => wpAny_bind (wpAny_letGo (wpAny_pure ?_)))))
    refine wpAny_bind (wpAny_bind (wpAny_onRaise ?_))
    show wpAny _ _ (Builtin.SmallTypes.nextOf (.ref i2) >>= _) _ _ { s with heap := g3 }
    refine wpAny_bind (wpAny_nextOf_list_end calm (((r2.extBut b1.extBut D.i2z).extBut b2.extBut D.i12.symm).extBut b3.extBut D.TOi2.symm) (((c2.extBut b1.extBut D.l2z).extBut b2.extBut D.l2i1).extBut b3.extBut D.l2TO) gy fun g4 e b4 ⟨oe, ge, ce⟩ => ?_)
    have z4 : ZRec g4 z TI TO .ellipsis f := (b4 _ _ D.i2z.symm (b3.extBut _ _ D.TOz.symm (b2.extBut _ _ D.i1z.symm z1.symm))).symm
    have ez : e ≠ z := by
      rintro rfl
      rw [← z4] at ge
      cases ge
      simp at ce
    exact wpAny_setField_rec z4.symm (by simp) fun g5 _ b5 => stop g5 e (fun c o p1 p2 p3 p4 q => b5.extBut _ _ p1 (b4 _ _ p4 (b3.extBut _ _ p2 (b2.extBut _ _ p3 (b1.extBut _ _ p1 q))))) ⟨oe, b5.extBut _ _ ez ge, ce⟩
/-- a zip between two turns: nothing given yet, or a pair that may be alive -/
def ZGv (g : Heap) (z TI TO : Addr) : Prop := ZRec g z TI TO .none false ∨ ∃ (T : Addr) (f : Bool), ZRec g z TI TO (rawInt T) f
theorem ZGv.ty {z TI TO : Addr} (h : ZGv s.heap z TI TO) : s.TypeIs (.ref z) "zip" := by
  rcases h with h | ⟨_, _, h⟩
  · exact ⟨_, h.symm, rfl⟩
  · exact ⟨_, h.symm, rfl⟩
theorem zn_next {z TI TO i1 i2 l1 l2 : Addr} {k1 k2 : Nat} {xs ys : Array Value} {x y a b : Value} {Q : Option Value → Shared → Prop} (D : ZipApart z TI TO i1 i2 l1 l2)
    (gv : ZGv s.heap z TI TO) (rI : IsPair s.heap TI (.ref i1) (.ref i2)) (rO : IsPair s.heap TO a b)
    (r1 : s.heap.IsListIter i1 l1 k1) (r2 : s.heap.IsListIter i2 l2 k2) (c1 : s.heap.IsList l1 xs) (c2 : s.heap.IsList l2 ys) (gx : xs[k1]? = some x) (gy : ys[k2]? = some y)
    (done : ∀ g, ZGv g z TI TO → (∃ a b, IsPair g TO a b) → g.IsListIter i1 l1 (k1 + 1) → g.IsListIter i2 l2 (k2 + 1) → IsPair g s.heap.objs.size x y → g.objs.size = s.heap.objs.size + 1 →
      (∀ c o, c ≠ z → c ≠ TO → c ≠ i1 → c ≠ i2 → s.heap.get? c = some o → g.get? c = some o) → Q (some (.ref s.heap.objs.size)) { s with heap := g }) :
    wpAny (model prog w) A (pyNext (.ref z)) Q E s := by
  have ty := gv.ty
  rcases gv with rz | ⟨T, f, rz⟩
  · exact wpAny_pyNext_zip_item D rz.symm rI rO r1 r2 c1 c2 gx gy fun g q1 q2 q3 q4 q5 q6 q7 => done g (.inr ⟨_, _, q1.symm⟩) ⟨_, _, q2⟩ q3 q4 q5 q6 q7
  · cases dead : s.heap.get? T with
    | some oT => exact wpAny_pyNext_zip_item_held D rz.symm dead rI r1 r2 c1 c2 gx gy fun g q1 q3 q4 q5 q6 q7 => done g (.inr ⟨_, _, q1.symm⟩) ⟨a, b, q7 _ _ D.TOz D.TOi1 D.TOi2 rO⟩ q3 q4 q5 q6 fun c o p1 _ p3 p4 e => q7 c o p1 p3 p4 e
    | none =>
      unfold pyNext
      exact wpAny_bind (wpAny_attempt (wpAny_callSpecial?_slot (name := Str.ofString "__next__") ty F.slot_zip_next (wpAny_call_entry F.slot_zip_next ty F.entry_zip_next
        (zn_item D rz dead rI rO r1 r2 c1 c2 gx gy fun g q1 q2 q3 q4 q5 q6 q7 => wpAny_pure (done g (.inr ⟨_, _, q1⟩) ⟨_, _, q2⟩ q3 q4 q5 q6 q7)) (F.args_zip_next_1 _))))
theorem zn_over {z TI TO i1 i2 l1 l2 : Addr} {k1 k2 : Nat} {xs ys : Array Value} {a b : Value} {Q : Option Value → Shared → Prop} (calm : A.handled = none) (D : ZipApart z TI TO i1 i2 l1 l2)
    (gv : ZGv s.heap z TI TO) (rI : IsPair s.heap TI (.ref i1) (.ref i2)) (rO : IsPair s.heap TO a b)
    (r1 : s.heap.IsListIter i1 l1 k1) (r2 : s.heap.IsListIter i2 l2 k2) (c1 : s.heap.IsList l1 xs) (c2 : s.heap.IsList l2 ys) (over : xs[k1]? = none ∨ ys[k2]? = none)
    (stop : ∀ g, (∀ c o, c ≠ z → c ≠ TO → c ≠ i1 → c ≠ i2 → s.heap.get? c = some o → g.get? c = some o) → Q none { s with heap := g }) : wpAny (model prog w) A (pyNext (.ref z)) Q E s := by
  have ty := gv.ty
  rcases gv with rz | ⟨T, f, rz⟩
  · exact wpAny_pyNext_zip_end calm D rz.symm rI rO r1 r2 c1 c2 over stop
  · cases dead : s.heap.get? T with
    | some oT => exact wpAny_pyNext_zip_end_held calm D rz.symm dead rI r1 r2 c1 c2 over fun g q => stop g fun c o p1 _ p3 p4 e => q c o p1 p3 p4 e
    | none =>
      unfold pyNext
      refine wpAny_bind (wpAny_attempt (wpAny_callSpecial?_slot (name := Str.ofString "__next__") ty F.slot_zip_next (wpAny_call_entry F.slot_zip_next ty F.entry_zip_next (zn_end calm D rz dead rI rO r1 r2 c1 c2 over fun g e q ⟨o, ge, ce⟩ => ?_) (F.args_zip_next_1 _))))
      exact wpAny_bind (wpAny_isInstance (T := "StopIteration") (b := true) ⟨o, ge, ce⟩ isSubtype_stop (wpAny_pure (stop _ q)))
end
section
/-- the turns of such a zip -/
theorem turn_zipN {P : Program} {w : World} {K : PySem.W.Frag} {nm : Str} {tpos : Pos} {a b z TI TO i1 i2 : Addr} (D : ZipApart z TI TO i1 i2 a b) :
    Turn P w K (.Name nm tpos) (Itz K a b) [z, TI, TO, i1, i2] z (fun i g => ZGv g z TI TO ∧ IsPair g TI (.ref i1) (.ref i2) ∧ (∃ x y, IsPair g TO x y) ∧ g.IsListIter i1 a i ∧ g.IsListIter i2 b i) where
  mem := List.mem_cons_self
  obj := fun i g st c hc => by
    obtain ⟨gv, rI, ⟨x, y, rO⟩, ⟨o1, e1, _, d1⟩, ⟨o2, e2, _, d2⟩⟩ := st
    have cs : c = z ∨ c = TI ∨ c = TO ∨ c = i1 ∨ c = i2 := by simpa using hc
    rcases cs with rfl | rfl | rfl | rfl | rfl
    · rcases gv with rz | ⟨_, _, rz⟩
      · exact ⟨_, rz.symm, fun v q => nomatch q⟩
      · exact ⟨_, rz.symm, fun v q => nomatch q⟩
    · exact ⟨_, rI, fun v q => nomatch q⟩
    · exact ⟨_, rO, fun v q => nomatch q⟩
    · exact ⟨o1, e1, fun v q => by rw [d1] at q; cases q⟩
    · exact ⟨o2, e2, fun v q => by rw [d2] at q; cases q⟩
  keep := fun i g g' st k => by
    obtain ⟨gv, rI, ⟨x, y, rO⟩, r1, r2⟩ := st
    refine ⟨?_, k TI (by simp) _ rI, ⟨x, y, k TO (by simp) _ rO⟩, r1.at fun o q => k i1 (by simp) o q, r2.at fun o q => k i2 (by simp) o q⟩
    rcases gv with rz | ⟨T, f, rz⟩
    · exact .inl (k z (by simp) _ rz.symm).symm
    · exact .inr ⟨T, f, (k z (by simp) _ rz.symm).symm⟩
  item := by
    intro X eP ew eK calm i pins s σ H E I fo st go
    subst eP ew eK
    obtain ⟨gv, rI, ⟨x0, y0, rO⟩, r1, r2⟩ := st
    obtain ⟨xs, ys, x, y, qx, qy, hx, hy⟩ := go
    obtain ⟨its, rv, p, _⟩ := I.list qx
    obtain ⟨its2, rv2, p2, _⟩ := I.list qy
    obtain ⟨u, hu, ru⟩ := rv.get hx
    obtain ⟨u2, hu2, ru2⟩ := rv2.get hy
    refine zn_next D gv rI rO r1 r2 p.isList p2.isList (x := u) (y := u2) (by simpa using hu) (by simpa using hu2) fun g gv' o' n1 n2 t size k => ?_
    refine ⟨_, rfl, ?_⟩
    unfold letOwnedTupleGo
    refine wpAny_pure ?_
    have new : ObjOk X.prog X.w (upd H s.heap.objs.size (.tup [x, y])) g s.heap.objs.size (.tup [x, y]) :=
      ⟨show 2 ≤ sizeLine by decide, [u, u2], .cons ru (.cons ru2 .nil), ⟨_, t, rfl, _, rfl⟩⟩
    have I1 : Inv X pins σ (upd H s.heap.objs.size (.tup [x, y])) { s with heap := g } :=
      I.turnedNew (t' := s.toks) (ch := [z, TI, TO, i1, i2]) (fun c o hb q => k c o (fun e => hb (by simp [e])) (fun e => hb (by simp [e])) (fun e => hb (by simp [e])) (fun e => hb (by simp [e])) q) fo (Nat.le_refl _) new
    refine ⟨.ref s.heap.objs.size, _, I1, rfl, ⟨_, x, y, rfl, I.hok.fresh (Nat.le_refl _), rfl, fun l hl => by rw [I.list_inj hl qx]; exact hx, fun l hl => by rw [I.list_inj hl qy]; exact hy⟩, ⟨gv', k _ _ D.TIz D.TITO D.TIi1 D.TIi2 rI, o', n1, n2⟩, fun c cm => ?_⟩
    have lt : c < s.heap.objs.size := by
      have cs : c = z ∨ c = TI ∨ c = TO ∨ c = i1 ∨ c = i2 := by simpa using cm
      rcases cs with rfl | rfl | rfl | rfl | rfl
      · rcases gv with rz | ⟨_, _, rz⟩
        · exact Heap.lt_size rz.symm
        · exact Heap.lt_size rz.symm
      · exact Heap.lt_size rI
      · exact Heap.lt_size rO
      · obtain ⟨_, e1, _⟩ := r1
        exact Heap.lt_size e1
      · obtain ⟨_, e2, _⟩ := r2
        exact Heap.lt_size e2
    rw [upd_ne (Nat.ne_of_lt lt)]
    exact (fo c cm).1
  done := by
    intro X eP ew eK calm i pins s σ H E I fo st sp
    subst eP ew eK
    obtain ⟨gv, rI, ⟨x0, y0, rO⟩, r1, r2⟩ := st
    obtain ⟨xs, ys, qx, qy, en⟩ := sp
    obtain ⟨its, rv, p, _⟩ := I.list qx
    obtain ⟨its2, rv2, p2, _⟩ := I.list qy
    have l1 := rv.length
    have l2 := rv2.length
    have over : its.toArray[i]? = none ∨ its2.toArray[i]? = none := en.imp (fun q => by simp; omega) fun q => by simp; omega
    exact zn_over (I.ok.hd calm) D gv rI rO r1 r2 p.isList p2.isList over fun g k => ⟨rfl, I.turnedL (t' := s.toks) (ch := [z, TI, TO, i1, i2]) (fun c o hb q => k c o (fun e => hb (by simp [e])) (fun e => hb (by simp [e])) (fun e => hb (by simp [e])) (fun e => hb (by simp [e])) q) fo⟩
  self := fun A i s Q E st h => by
    rcases st.1 with rz | ⟨T, f, rz⟩
    · exact wpAny_pyIter_zip rz.symm h
    · have ty : s.TypeIs (.ref z) "zip" := ⟨_, rz.symm, rfl⟩
      refine wpAny_pyIter_slot ty F.slot_zip_iter (wpAny_call_entry F.slot_zip_iter ty F.entry_zip_iter ?_ (F.args_zip_iter_1 _))
      show wpAny _ _ (ret (.ref z)) _ E s
      exact wpAny_pure ⟨_, rfl, "zip", _, ty, F.slot_zip_next.lookup, h⟩
theorem pi_zipN {X : Cx} {K : PySem.W.Frag} {e e2 : Expr} {ta : TA} {p pos tpos : Pos} {nm : Str} (hg : Gl X "zip") (hm : X.mg "zip" = none) (ha : PA X [e, e2] ta)
    (hs : starEach [e, e2] X.env = (false, eval e X.env) :: starEach [e2] X.env := by rfl) (hpl : (backTo pos (starEach [e2] X.env)).any (·.1) = false := by rfl) (hK : X.K = K := by rfl) :
    PI X (.Name nm tpos) (.Call (.Name "zip" p) [e, e2] [] pos) (iZip K ta) := by
  subst hK
  refine ⟨fun pins s σ H R I h => Call_ (ld_blt I hg hm PyProof.Rows.boot_zip (PyProof.Rows.callWith_type1 (thn (ha.run pos pins s σ H _ I h) fun us s1 ⟨vs, H1, I1, rs, q1⟩ => ?_) hs hpl))⟩
  obtain ⟨a, b, xs, ys, rfl, qx, qy, q⟩ := q1
  rcases rs with _ | ⟨ra, rs⟩
  rcases rs with _ | ⟨rb, rs⟩
  cases rs
  cases ra
  cases rb
  obtain ⟨its, rv, pa, _⟩ := I1.list qx
  obtain ⟨its2, rv2, pb, _⟩ := I1.list qy
  refine call_zip_2 pa.isList pb.isList fun g hz rI rO r1 r2 size k => wpAny_pyIter_zip hz ?_
  have I2 : Inv X pins σ H1 { s1 with heap := g } := I1.kept (t' := s1.toks) k
  refine ⟨s1.heap.objs.size + 4, [s1.heap.objs.size + 4, s1.heap.objs.size + 2, s1.heap.objs.size + 3, s1.heap.objs.size, s1.heap.objs.size + 1], _, _, H1, rfl, I2, turn_zipN (PySem.W.ktu_apart s1.heap.objs.size a b pa.lt pb.lt), ⟨.inl hz.symm, rI, ⟨_, _, rO⟩, r1, r2⟩, fun c cm => ?_, q⟩
  have le : s1.heap.objs.size ≤ c := by
    have cs : c = s1.heap.objs.size + 4 ∨ c = s1.heap.objs.size + 2 ∨ c = s1.heap.objs.size + 3 ∨ c = s1.heap.objs.size ∨ c = s1.heap.objs.size + 1 := by simpa using cm
    generalize s1.heap.objs.size = N at cs ⊢
    show (N : Nat) ≤ c
    rcases cs with q | q | q | q | q <;> subst q <;> first | exact Nat.le_refl _ | exact Nat.le_add_right _ _
  exact I1.fpOk le (I1.hok.fresh le)
end
end Bs

namespace Bs
open PySem PySem.Spec PyProof.Rows L2
open Evl (Ex)
/-! ### things of any kind: lists with odd things in them, and what is no list -/
inductive Odd (H : Hp) : V → Prop
  | int (i : Int) : Odd H (.int i)
  | bl (b : Bool) : Odd H (.bl b)
  | non : Odd H .non
  | str (x : Str) (c : PyData.canLay0 (.str x) = true) : Odd H (.str x)
  | lst {q : Addr} (h : H q = some (.lst [.int 0])) : Odd H (.ref q)
theorem Odd.ex {H H' : Hp} (e : Ex H H') {x : V} (h : Odd H x) : Odd H' x := by
  cases h with
  | int i => exact .int i
  | bl b => exact .bl b
  | non => exact .non
  | str x c => exact .str x c
  | lst h => exact .lst (e _ _ h)
theorem Odd.kd {K : PySem.W.Frag} {H : Hp} {x : V} (h : Odd H x) : ∃ n, Kd K H x n := by
  cases h with
  | int i => exact ⟨_, .int i⟩
  | bl b => exact ⟨_, .bl b⟩
  | non => exact ⟨_, .non⟩
  | str x c => exact ⟨_, .str x⟩
  | lst h => exact ⟨_, .lst (.base (.lst h))⟩
theorem Odd.dp {K : PySem.W.Frag} {H : Hp} {x : V} (h : Odd H x) : ∃ d, Dp K H x d ∧ PyData.canLay0 d = true ∧ PyData.depth d ≤ 10 := by
  cases h with
  | int i => exact ⟨_, .int i, rfl, by show (0 : Nat) ≤ 10; decide⟩
  | bl b => exact ⟨_, .bl b, rfl, by show (0 : Nat) ≤ 10; decide⟩
  | non => exact ⟨_, .non, rfl, by show (0 : Nat) ≤ 10; decide⟩
  | str x c => exact ⟨_, .str x, c, by show (0 : Nat) ≤ 10; decide⟩
  | lst h => exact ⟨.list [.int 0], .lst (SqL.of h) (.cons (.int 0) .nil), rfl, by show (1 : Nat) ≤ 10; decide⟩
theorem odds_dp {K : PySem.W.Frag} {H : Hp} : ∀ {xs : List V}, (∀ x ∈ xs, Odd H x) → ∃ ds, DpAll K H xs ds ∧ PyData.canLayAll0 ds = true ∧ PyData.depthAll ds ≤ 10 ∧ ds.isEmpty = xs.isEmpty
  | [], _ => ⟨[], .nil, rfl, Nat.zero_le _, rfl⟩
  | x :: r, h => by
    obtain ⟨d, h1, h2, h3⟩ := (h x List.mem_cons_self).dp (K := K)
    obtain ⟨ds, g1, g2, g3, _⟩ := odds_dp (xs := r) fun y hy => h y (List.mem_cons_of_mem _ hy)
    exact ⟨d :: ds, .cons h1 g1, (Bool.and_eq_true _ _).mpr ⟨h2, g2⟩, Nat.max_le.mpr ⟨h3, g3⟩, rfl⟩
theorem odds_shaped {ds : List PyData} (h : PyData.canLayAll0 ds = true) (h2 : PyData.depthAll ds ≤ 10) : SeqAt.shaped (.list ds) = true := by
  unfold SeqAt.shaped
  rw [show PyData.canLay0 (.list ds) = PyData.canLayAll0 ds from rfl, h]
  exact decide_eq_true (show PyData.depthAll ds + 1 ≤ 64 by omega)
inductive Thg (H : Hp) : V → Option (List V) → Prop
  | lst {p : Addr} {xs : List V} : H p = some (.lst xs) → (∀ x ∈ xs, Odd H x) → xs.length ≤ 100 → Thg H (.ref p) (some xs)
  | non : Thg H .non none
  | str (x : Str) (c : PyData.canLay0 (.str x) = true) : Thg H (.str x) none
  | int (i : Int) : Thg H (.int i) none
  | tup {p : Addr} {ns : List Int} : H p = some (.tup (ns.map V.int)) → Thg H (.ref p) none
  | dic {p : Addr} : H p = some (.dK []) → Thg H (.ref p) none
theorem Thg.ex {H H' : Hp} (e : Ex H H') {x : V} {T : Option (List V)} (h : Thg H x T) : Thg H' x T := by
  cases h with
  | lst h o l => exact .lst (e _ _ h) (fun x m => (o x m).ex e) l
  | non => exact .non
  | str x c => exact .str x c
  | int i => exact .int i
  | tup h => exact .tup (e _ _ h)
  | dic h => exact .dic (e _ _ h)
section
variable {X : Cx} {K : PySem.W.Frag}
theorem q_isiThg {H : Hp} {x : V} {T : Option (List V)} {Q : VK} (h : Thg H x T) (q : Q (.bl T.isSome) H) : rIsi K [x, .ty "list"] H Q := by
  cases h with
  | lst h o l => exact q_isiL h q
  | non => exact ⟨_, _, _, _, _, rfl, .ty _, .base .non, kit_ty (r := false) (by decide +kernel), q⟩
  | str x c => exact ⟨_, _, _, _, _, rfl, .ty _, .base (.str x), kit_ty (r := false) (by decide +kernel), q⟩
  | int i => exact ⟨_, _, _, _, _, rfl, .ty _, .base (.int i), kit_ty (r := false) (by decide +kernel), q⟩
  | tup h => exact ⟨_, _, _, _, _, rfl, .ty _, .base (.tup h), kit_ty (r := false) (by decide +kernel), q⟩
  | dic h => exact ⟨_, _, _, _, _, rfl, .ty _, .base (.dK h), kit_ty (r := false) (by decide +kernel), q⟩
def rNeO (K : PySem.W.Frag) : R2 := fun x y H Q => rNeD K x y H Q ∨ ∃ a, x = .ref a ∧ y = .ref a ∧ H a = some (.dK []) ∧ Q (.bl false) H
theorem neO (hu : X.A.units + 64 < cLine) (hK : X.K = K := by rfl) : OpR X (compareOp .NotEq) (rNeO K) := by
  subst hK
  intro pins s σ H x y v u Q I rx ry h
  rcases h with h | ⟨a, rfl, rfl, ha, q⟩
  · exact op_neD hu pins s σ H x y v u Q I rx ry h
  · cases rx
    cases ry
    obtain ⟨_, low, vs, kv, dic⟩ := dk_of I.hok ha
    cases kv
    exact PySem.W.keq_ne low low dic dic (by omega) (fun _ => .nil) ⟨.bl false, H, I, rfl, q⟩
/-- a thing is what it was -/
theorem q_neO {H : Hp} {x y : V} {T : Option (List V)} {Q : VK} (h : Thg H x T) (k : (T = none ∧ y = x) ∨ ∃ p xs, T = some xs ∧ y = .ref p ∧ H p = some (.lst xs)) (q : Q (.bl false) H) : rNeO K x y H Q := by
  have same : ∀ {d : PyData}, SeqAt.shaped d = true → Q (.bl (!PyData.eqv d d)) H := fun {d} sh => by
    rw [eqv_same sh]
    exact q
  cases h with
  | lst h o l =>
    rcases k with ⟨z, _⟩ | ⟨p, xs, z, rfl, hp⟩
    · cases z
    · have := Option.some.inj z
      subst this
      obtain ⟨ds, h1, h2, h3, _⟩ := odds_dp (K := K) o
      exact .inl ⟨_, _, .lst (SqL.of h) h1, .lst (SqL.of hp) h1, odds_shaped h2 h3, odds_shaped h2 h3, same (odds_shaped h2 h3)⟩
  | non =>
    rcases k with ⟨_, rfl⟩ | ⟨p, xs, z, _⟩
    · exact .inl ⟨_, _, .non, .non, rfl, rfl, same rfl⟩
    · cases z
  | str x c =>
    rcases k with ⟨_, rfl⟩ | ⟨p, xs, z, _⟩
    · have sh : SeqAt.shaped (.str x) = true := by
        unfold SeqAt.shaped
        rw [c]
        rfl
      exact .inl ⟨_, _, .str x, .str x, sh, sh, same sh⟩
    · cases z
  | int i =>
    rcases k with ⟨_, rfl⟩ | ⟨p, xs, z, _⟩
    · exact .inl ⟨_, _, .int i, .int i, rfl, rfl, same rfl⟩
    · cases z
  | @tup p ns h =>
    rcases k with ⟨_, rfl⟩ | ⟨p, xs, z, _⟩
    · have sh : SeqAt.shaped (.tuple (ns.map PyData.int)) = true := by
        have := shaped_ints (ns := ns)
        unfold SeqAt.shaped at this ⊢
        exact this
      exact .inl ⟨_, _, .tup (SqT.of h) dpa_ints, .tup (SqT.of h) dpa_ints, sh, sh, same sh⟩
    · cases z
  | dic h =>
    rcases k with ⟨_, rfl⟩ | ⟨p, xs, z, _⟩
    · exact .inr ⟨_, rfl, rfl, h, q⟩
    · cases z
end
/-! ### tasks of a book -/
def tskV (n : Nat) : V → Bool
  | .int i => decide (0 ≤ i) && decide (i ≤ (n : Int) - 1)
  | _ => false
def areB (n : Nat) : Option (List V) → Bool
  | some xs => !xs.isEmpty && xs.all (tskV n)
  | none => false
def toI : V → Int
  | .int i => i
  | _ => 0
theorem tsk_int {n : Nat} {x : V} (h : tskV n x = true) : x = .int (toI x) ∧ 0 ≤ toI x ∧ toI x < n := by
  cases x with
  | int i =>
    have h' : (decide (0 ≤ i) && decide (i ≤ (n : Int) - 1)) = true := h
    rw [Bool.and_eq_true, decide_eq_true_eq, decide_eq_true_eq] at h'
    exact ⟨rfl, h'.1, show i < n by omega⟩
  | _ => cases h
theorem all_tsk {n : Nat} : ∀ {xs : List V}, xs.all (tskV n) = true → xs = (xs.map toI).map V.int ∧ ∀ t ∈ xs.map toI, 0 ≤ t ∧ t < n
  | [], _ => ⟨rfl, fun _ h => nomatch h⟩
  | x :: r, h => by
    rw [List.all_cons, Bool.and_eq_true] at h
    obtain ⟨h1, h2⟩ := all_tsk h.2
    obtain ⟨e, b⟩ := tsk_int h.1
    refine ⟨?_, fun t m => ?_⟩
    · rw [List.map_cons, List.map_cons, ← h1, ← e]
    · rw [List.map_cons] at m
      rcases List.mem_cons.mp m with z | z
      · rw [z]
        exact b
      · exact h2 t z
theorem eqv_nil26 (l : List PyData) : PyData.eqv (.list l) (.list []) = l.isEmpty := by
  cases l <;> rfl
section
variable {K : PySem.W.Frag} {H : Hp} {σ : L2.St} {Q : VK} {g : TG} {te : TE} {vs : List Nat} {τ : L2.St} {D : Addr} {Qd : Hp → Prop}
theorem lcp_mapV {a : Addr} {xs : List V} (g2 : V → V) (nD : H D = none) (ha : H a = some (.lst xs)) (small : xs.length ≤ 10000000)
    (turn : ∀ (i : Nat) (x : V) (H1 : Hp), xs[i]? = some x → Ex H H1 → ∀ R : VK, (∀ H2, Ex H1 H2 → R (g2 x) H2) → TurnE g tYes te τ vs x R H1)
    (q : ∀ H', Ex H H' → H' D = some (.lst (xs.map g2)) → Qd H') : LoopC (Itl K a) g tYes te τ vs D Qd (upd H D (.lst [])) := by
  refine lcp_mapF (xs := xs) (fun i => g2 (xs.getD i .non)) nD ha small (fun i x H1 hx e R r => turn i x H1 hx e R fun H2 e2 => ?_) fun H' e h => q H' e ?_
  · have := r H2 e2
    rw [List.getD_eq_getElem?_getD, hx] at this
    exact this
  · rw [h]
    refine congrArg (fun z => some (HO.lst z)) (List.ext_getElem? fun j => ?_)
    rw [List.getElem?_map, List.getElem?_map]
    by_cases c : j < xs.length
    · rw [List.getElem?_range c, List.getElem?_eq_getElem c]
      show some (g2 (xs.getD j .non)) = _
      rw [List.getD_eq_getElem?_getD, List.getElem?_eq_getElem c]
      rfl
    · rw [List.getElem?_eq_none (by rw [List.length_range]; omega), List.getElem?_eq_none (by omega)]
      rfl
/-- a map over zip(xs, ys) -/
theorem lcp_mapZ {a b : Addr} {xs ys : List V} (g2 : V → V → V) (nD : H D = none) (ha : H a = some (.lst xs)) (hb : H b = some (.lst ys)) (small : xs.length ≤ 10000)
    (turn : ∀ (i : Nat) (x y : V) (H1 : Hp) (T : Addr), xs[i]? = some x → ys[i]? = some y → Ex H H1 → H1 T = none → ∀ R : VK, (∀ H2, Ex (upd H1 T (.tup [x, y])) H2 → R (g2 x y) H2) → TurnE g tYes te τ vs (.ref T) R (upd H1 T (.tup [x, y])))
    (q : ∀ H', Ex H H' → H' D = some (.lst ((xs.zip ys).map fun p => g2 p.1 p.2)) → Qd H') : LoopC (Itz K a b) g tYes te τ vs D Qd (upd H D (.lst [])) := by
  refine lcp_zip (xs := xs) (ys := ys) rfl (fun i H' => Ex H H' ∧ H' D = some (.lst (((xs.zip ys).take i).map fun p => g2 p.1 p.2))) ⟨Ex.new nD, by rw [upd_same, List.take_zero]; rfl⟩ (fun i H' h => ⟨h.1 _ _ ha, h.1 _ _ hb⟩) (fun i x y H1 T hx hy h nT => ?_) (fun H' h => ?_)
  · obtain ⟨e, hD⟩ := h
    have et := Ex.new (o := .tup [x, y]) nT
    have li : i < xs.length := (List.getElem?_eq_some_iff.mp hx).1
    have hz : (xs.zip ys)[i]? = some (x, y) := by
      rw [List.getElem?_zip_eq_some]
      exact ⟨hx, hy⟩
    exact turn i x y H1 T hx hy e nT (fun z H4 => ∃ acc, H4 D = some (.lst acc) ∧ acc.length < sizeLine ∧ Ex H (upd H4 D (.lst (acc ++ [z]))) ∧ (upd H4 D (.lst (acc ++ [z]))) D = some (.lst (((xs.zip ys).take (i + 1)).map fun p => g2 p.1 p.2))) fun H2 e2 => by
      have hD2 := e2 _ _ (et _ _ hD)
      refine ⟨_, hD2, by rw [List.length_map, List.length_take, List.length_zip, sizeLine_eq]; omega, ((e.trans et).trans e2).mut nD, ?_⟩
      rw [upd_same, take_snoc hz, List.map_append]
      rfl
  · refine q H' h.1 ?_
    rw [h.2, List.take_of_length_le (by rw [List.length_zip]; exact Nat.le_refl _)]
end
theorem q_din {ty td : TE} {σ : L2.St} {H : Hp} {Q : VK} (q : ty σ H fun y H1 => td σ H1 fun x H2 => ∃ a o, x = .ref a ∧ DGet H2 a y o ∧ Q (.bl o.isSome) H2) : tDIn ty td σ H Q := q
theorem q_dget2m {td ty tx : TE} {σ : L2.St} {H : Hp} {Q : VK} (q : td σ H fun x H1 => ∃ a, x = .ref a ∧ IsD H1 a ∧ ty σ H1 fun y H2 => tx σ H2 fun z H3 => ∃ o, DGet H3 a y o ∧ Q (o.getD z) H3) : tDGet2 td ty tx σ H Q := q
theorem bool_iff {a b : Bool} (h : a = true ↔ b = true) : a = b := by
  cases a <;> cases b <;> simp_all
/-! ### repr of two small whole numbers -/
theorem small_int26 {i : Int} (h0 : 0 ≤ i) (h1 : i < 10 ^ 6) : i.natAbs.log2 < 1000 ∧ (PyData.shown (.int i)).length ≤ 13 := by
  refine ⟨?_, PyData.shown_int_le (by omega)⟩
  by_cases z : i.natAbs = 0
  · rw [z]
    decide
  · have : i.natAbs.log2 < 20 := (Nat.log2_lt z).mpr (Nat.lt_trans (show i.natAbs < 10 ^ 6 by omega) (by decide))
    omega
theorem two_ints {a b : Int} (a0 : 0 ≤ a) (a1 : a < 10 ^ 6) (b0 : 0 ≤ b) (b1 : b < 10 ^ 6) : (PyData.list [.int a, .int b]).showable = true ∧ (PyData.list [.int a, .int b]).hasDict = false ∧ (PyData.list [.int a, .int b]).depth ≤ 50 ∧ (PyData.list [.int a, .int b]).shown.length ≤ sizeLine := by
  obtain ⟨p1, p2⟩ := small_int26 a0 a1
  obtain ⟨q1, q2⟩ := small_int26 b0 b1
  have ly : PyData.layable0 (.list [.int a, .int b]) = true := by
    unfold PyData.layable0
    rw [show PyData.canLay0 (.list [.int a, .int b]) = true from rfl]
    simp only [PyData.depth, PyData.depthAll, PyData.weight, PyData.weightAll, Bool.true_and, Bool.and_true, Bool.and_eq_true, decide_eq_true_eq]
    refine ⟨decide_eq_true (by show max 0 (max 0 0) + 1 ≤ 64; omega), decide_eq_true ?_⟩
    have e20 : 2 ^ 20 = 1048576 := by decide
    rw [e20]
    split <;> split <;> omega
  refine ⟨?_, rfl, by show 1 ≤ 50; decide, showable_of ly ?_⟩
  · show (decide _ && (decide _ && true)) = true
    rw [decide_eq_true (show a.natAbs.log2 < 1920 by omega), decide_eq_true (show b.natAbs.log2 < 1920 by omega)]
    rfl
  · show (decide _ && (decide _ && true)) = true
    rw [decide_eq_true p2, decide_eq_true q2]
    rfl
theorem q_repr26 {K : PySem.W.Frag} {H : Hp} {Q : VK} {x : V} {d : PyData} (h : Dp K H x d) (o : okInt d) (a : d.showable = true) (b : d.hasDict = false) (c : d.depth ≤ 50) (e : d.shown.length ≤ sizeLine) (q : Q (.str d.shown) H) : rReprD K [x] H Q := ⟨x, d, rfl, h, o, a, b, c, e, q⟩
end Bs

namespace PySem
open Sem (wp)
section
variable {prog : Program} {w : World} {A : Around} {E : Value → Shared → Prop} {s : Shared}
/-! ### list(reversed(list)) -/
theorem call_list_rev {it l : Addr} {items : Array Value} {Q : Value → Shared → Prop} (hh : A.handled = none) (hit : s.heap.IsRevIter it l ((items.size : Int) - 1)) (hl : s.heap.IsList l items) (hne : l ≠ it) (hn : items.size ≤ sizeLine)
    (hQ : ∀ (h' : Heap) (tk : Nat) (acc : Array Value) (c' : Nat), (∀ b o, b ≠ it → s.heap.get? b = some o → h'.get? b = some o) → h'.get? s.heap.objs.size = some { cls := .type "list", dict := none, data := .seq acc c', slots := #[] } →
      ItemsOf (fun i v => items[items.size - 1 - i]? = some v) acc items.size → Q (.ref s.heap.objs.size) { s with heap := h', toks := tk }) :
    wpAny (model prog w) A (call (.type "list") [.ref it]) Q E s := by
  refine callType_codes (Q₁ := fun obj s₁ => obj = .ref s.heap.objs.size ∧ s₁ = { s with heap := s.heap.push { cls := .type "list", data := .seq #[] } }) F.called_list (F.typeCall_list_1 _) F.entry_list_init
    (code_list_new _ ⟨rfl, rfl⟩) fun obj s₁ h₁ => ?_
  obtain ⟨rfl, rfl⟩ := h₁
  have hS : (s.heap.push { cls := .type "list", data := .seq #[] }).get? s.heap.objs.size = some { cls := .type "list", data := .seq #[] } := Heap.get?_push_size _ rfl
  refine ⟨⟨_, hS, rfl⟩, F.args_list_init_2 _ _, ?_⟩
  obtain ⟨oi, hoi, _⟩ := id hit
  obtain ⟨ol, hol, _⟩ := id hl
  have hSi : s.heap.objs.size ≠ it := Nat.ne_of_gt (Heap.lt_size hoi)
  have hSl : s.heap.objs.size ≠ l := Nat.ne_of_gt (Heap.lt_size hol)
  have hSf : s.heap.objs.size ∉ [it, l] := by simp only [List.mem_cons, List.not_mem_nil, or_false, not_or]; exact ⟨hSi, hSl⟩
  have hh1 : A.in1.handled = none := hh
  have W := (Walks.listRev (prog := prog) (w := w) (A := A.in1.in1) hh it l hne items).toS
  show wpAny _ A.in1.in1 (do let old ← Builtin.List.listItems (.ref s.heap.objs.size); Builtin.List.listUpdate (.ref s.heap.objs.size) (fun _ => #[]); letGo old.toList.reverse; Builtin.List.listExtendWith (.ref s.heap.objs.size) (.ref it) .none) _ _ _
  refine wpAny_bind ?_
  unfold Builtin.List.listItems
  refine wpAny_bind (wpAny_seqItems hS rfl (wpAny_pure ?_))
  show wpAny _ A.in1.in1 (updateSeq s.heap.objs.size (fun _ => #[]) >>= fun _ => letGo (#[] : Array Value).toList.reverse >>= fun _ => Builtin.List.listExtendWith (.ref s.heap.objs.size) (.ref it) .none) _ _ _
  refine wpAny_bind (wpAny_updateSeq hS rfl ?_)
  have hS₂ := Heap.get?_update_self (Obj.mapSeq (fun _ => (#[] : Array Value))) hS rfl
  have oth : ∀ b o, b ≠ s.heap.objs.size → s.heap.get? b = some o → ((s.heap.push { cls := .type "list", data := .seq #[] }).update s.heap.objs.size (Obj.mapSeq (fun _ => (#[] : Array Value)))).get? b = some o :=
    fun b o hb e => (Heap.get?_update_other _ _ (Ne.symm hb)).trans (Heap.get?_push_of_some _ e)
  refine wpAny_bind (wpAny_letGo ?_)
  generalize hH2 : (s.heap.push { cls := .type "list", data := .seq #[] }).update s.heap.objs.size (Obj.mapSeq (fun _ => (#[] : Array Value))) = H2 at hS₂ oth ⊢
  have hit1 : H2.IsRevIter it l ((items.size : Int) - 1) := hit.at fun o e => oth it o (Ne.symm hSi) e
  have hl1 : H2.IsList l items := hl.at fun o e => oth l o (Ne.symm hSl) e
  have hT : ({ s with heap := H2 } : Shared).TypeIs (.ref it) "list_reverseiterator" := Heap.IsRevIter.typeIs (s := { s with heap := H2 }) hit1
  have h1 : Builtin.List.listSameRef (.ref s.heap.objs.size) (.ref it) = false := by simp [Builtin.List.listSameRef, hSi]
  show wpAny _ A.in1.in1 (Builtin.List.listExtendWith (.ref s.heap.objs.size) (.ref it) .none) _ _ _
  unfold Builtin.List.listExtendWith
  refine wpAny_bind (wpAny_typeOf hT ?_)
  rw [if_neg (by rw [h1]; decide)]
  refine wpAny_bind (wpAny_pyIter_revIter (s := { s with heap := H2 }) hit1 ?_)
  refine wpAny_bind (wpAny_holding ?_)
  unfold Builtin.List.listLengthHint
  refine wpAny_bind (wpAny_specialOf hT RT.nolen_lri ?_)
  show wpAny _ A.in1.in1 (specialOf (Value.ref it) (Str.ofString "__length_hint__") >>= _) _ _ _
  refine wpAny_bind (wpAny_specialOf hT RT.hint_lri ?_)
  generalize hid : ("list_reverseiterator.__length_hint__" : String) = id0
  wp_delta
  rw [show splitId id0 = some ("list_reverseiterator", "__length_hint__") from by subst hid; decide +kernel]
  subst hid
  refine wpAny_bind (wpAny_isInstance (b := true) hT (by rw [isSubtype_type]; kernel_rfl) ?_)
  refine wpAny_pure ?_
  rw [if_neg (by decide)]
  have e0 : ((items.size : Nat) : Int) - 1 - ((0 : Nat) : Int) = (items.size : Int) - 1 := by omega
  refine wpAny_pure ⟨plainId_quiet F.plain_extend_loop _, codeAny_extend_loopS W hn _ hSf _ items.size 0 _ _ _ rfl (Nat.zero_le _) ⟨Nat.zero_le _, by rw [e0]; exact hit1, hl1⟩ hS₂ (ItemsOf.nil _) fun s' acc' c' hm hS' hacc => ?_⟩
  refine ⟨rfl, ?_⟩
  rw [Moved.eq_with hm]
  refine hQ s'.heap s'.toks acc' c' (fun b o hb e => hm.heap b o (fun hmem => ?_) (oth b o (Nat.ne_of_lt (Heap.lt_size e)) e)) hS' hacc
  rcases List.mem_cons.mp hmem with e' | hmem
  · exact absurd (Heap.lt_size e) (by rw [e']; exact Nat.lt_irrefl _)
  · exact hb (List.mem_singleton.mp hmem)
end
end PySem
namespace Bs
open PySem PySem.Spec PyProof.Rows L2
open Evl (Ex)
def tListRev (K : PySem.W.Frag) (te : TE) : TE := fun σ H Q => te σ H fun v H1 => ∃ (a : Addr) (xs : List V), v = .ref a ∧ SqL K H1 a xs ∧ ∀ q, H1 q = none → Q (.ref q) (upd H1 q (.lst xs.reverse))
theorem pe_listRev {X : Cx} {K : PySem.W.Frag} {e : Expr} {te : TE} {p p2 pos pos2 : Pos} (hc : X.calm = true) (hg : Gl X "list") (hm : X.mg "list" = none) (hg2 : Gl X "reversed") (hm2 : X.mg "reversed" = none) (he : PE X e te) (hK : X.K = K := by rfl)
    (hs : starEach [e] X.env = (false, eval e X.env) :: starEach [] X.env := by rfl)
    (hs2 : starEach [.Call (.Name "reversed" p2) [e] [] pos2] X.env = (false, eval (.Call (.Name "reversed" p2) [e] [] pos2) X.env) :: starEach [] X.env := by rfl) :
    PE X (.Call (.Name "list" p) [.Call (.Name "reversed" p2) [e] [] pos2] [] pos) (tListRev K te) := by
  subst hK
  refine ⟨fun pins s σ H Q I h => ?_⟩
  refine Call_ (ld_blt I hg hm boot_list (PyProof.Rows.callWith_type1 (args_cons (Call_ (ld_blt I hg2 hm2 PyProof.Rows.boot_reversed (PyProof.Rows.callWith_type1 (args_cons (thn (he.run pins s σ H _ I h) fun u s1 ⟨v, H1, I1, r1, q1⟩ => args_nil ?_) hs) hs rfl))) hs2) hs2 rfl))
  obtain ⟨a, xs, ev, hq, q⟩ := q1
  subst ev
  obtain rfl : u = Value.ref a := r1
  obtain ⟨its, rv, p', hz⟩ := I1.list hq
  refine call_reversed_list p'.isList (args_nil ?_)
  have k0 : ∀ b o, s1.heap.get? b = some o → (s1.heap.push (revObj a ((its.toArray.size : Int) - 1))).get? b = some o := fun b o e => Heap.get?_push_of_some _ e
  have I2 : Inv X pins σ H1 { s1 with heap := s1.heap.push (revObj a ((its.toArray.size : Int) - 1)) } := I1.kept (t' := s1.toks) k0
  obtain ⟨f0, f1, f2, f3, f4, f5⟩ := I1.fpOk (H' := H1) (b := s1.heap.objs.size) (Nat.le_refl _) (I1.hok.fresh (Nat.le_refl _))
  have hl := p'.isList
  obtain ⟨ol, hol, _⟩ := id hl
  have hne : a ≠ s1.heap.objs.size := Nat.ne_of_lt (Heap.lt_size hol)
  have hn : its.toArray.size ≤ sizeLine := by rw [List.size_toArray, ← rv.length]; exact hz
  have hsz : (s1.heap.push (revObj a ((its.toArray.size : Int) - 1))).objs.size = s1.heap.objs.size + 1 := Heap.size_push ..
  refine PySem.call_list_rev (s := { s1 with heap := s1.heap.push (revObj a ((its.toArray.size : Int) - 1)) }) (I1.ok.hd hc) ⟨_, Heap.get?_push_size _ rfl, rfl, rfl⟩ (hl.push _) hne hn fun h' tk acc c' hk hS hi => ?_
  have rr := RT.vals_rev rv hi
  have le : s1.heap.objs.size ≤ (s1.heap.push (revObj a ((its.toArray.size : Int) - 1))).objs.size := by omega
  exact ⟨.ref _, upd H1 _ (.lst xs.reverse), I1.laid (t' := tk) (o := .lst xs.reverse) (fun b o e => hk b o (Nat.ne_of_lt (Heap.lt_size e)) (k0 b o e)) le ⟨by rw [List.length_reverse]; exact hz, acc.toList, c', rr, by rw [Array.toArray_toList]; exact hS⟩, rfl, q _ (I1.hok.fresh le)⟩
def rlD (r : List Int) : PyData := .tuple [.int r.length, .list (r.map .int)]
theorem rl_lt {r s : List Int} : (PySem.W.dataLt (rlD r) (rlD s) = true → r.length ≤ s.length) ∧ (PySem.W.dataLt (rlD r) (rlD s) = false → s.length ≤ r.length) := by
  unfold rlD
  rw [PySem.W.dataLt_tuple, PySem.W.dataLt_cons (x := .int r.length) (y := .int s.length) rfl, PySem.W.dataLt_int]
  show ((if ((r.length : Int) == (s.length : Int)) = true then _ else _) = true → _) ∧ ((if ((r.length : Int) == (s.length : Int)) = true then _ else _) = false → _)
  by_cases e : (r.length : Int) = s.length
  · rw [if_pos (beq_iff_eq.mpr e)]
    exact ⟨fun _ => by omega, fun _ => by omega⟩
  · rw [if_neg (by rw [beq_iff_eq]; exact e)]
    exact ⟨fun h => by have := of_decide_eq_true h; omega, fun h => by have := of_decide_eq_false h; omega⟩
/-- the place of the least of lists by how long they are, and then by what is in them -/
def bestL (rows : List (List Int)) : Nat := argBest (fun i j => PySem.W.dataLt (rlD (rows.getD i [])) (rlD (rows.getD j []))) (rows.length - 1)
theorem bestL_ok (rows : List (List Int)) : ∀ n, argBest (fun i j => PySem.W.dataLt (rlD (rows.getD i [])) (rlD (rows.getD j []))) n ≤ n ∧ ∀ k, k ≤ n → (rows.getD (argBest (fun i j => PySem.W.dataLt (rlD (rows.getD i [])) (rlD (rows.getD j []))) n) []).length ≤ (rows.getD k []).length
  | 0 => ⟨Nat.le_refl _, fun k hk => by
    obtain rfl : k = 0 := by omega
    exact Nat.le_refl _⟩
  | n + 1 => by
    obtain ⟨a, b⟩ := bestL_ok rows n
    let f := fun i j => PySem.W.dataLt (rlD (rows.getD i [])) (rlD (rows.getD j []))
    by_cases h : f (n + 1) (argBest f n) = true
    · have e : argBest f (n + 1) = n + 1 := if_pos h
      show argBest f (n + 1) ≤ n + 1 ∧ ∀ k, k ≤ n + 1 → (rows.getD (argBest f (n + 1)) []).length ≤ _
      rw [e]
      refine ⟨Nat.le_refl _, fun k hk => ?_⟩
      have h1 := rl_lt.1 h
      by_cases kn : k = n + 1
      · rw [kn]
        exact Nat.le_refl _
      · exact Nat.le_trans h1 (b k (by omega))
    · have e : argBest f (n + 1) = argBest f n := if_neg h
      show argBest f (n + 1) ≤ n + 1 ∧ ∀ k, k ≤ n + 1 → (rows.getD (argBest f (n + 1)) []).length ≤ _
      rw [e]
      refine ⟨Nat.le_succ_of_le a, fun k hk => ?_⟩
      by_cases kn : k = n + 1
      · rw [kn]
        exact rl_lt.2 (Bool.eq_false_iff.mpr h)
      · exact b k (by omega)
/-- tuples of how long a list is, and the list -/
def RlAt (H : Hp) (xs : List V) (rows : List (List Int)) : Prop := xs.length = rows.length ∧ ∀ (i : Nat) (v : V), xs[i]? = some v → ∃ (t l : Addr) (r : List Int), v = .ref t ∧ rows[i]? = some r ∧ H t = some (.tup [.int r.length, .ref l]) ∧ H l = some (.lst (r.map V.int))
theorem RlAt.dp {K : PySem.W.Frag} {H : Hp} : ∀ {xs : List V} {rows : List (List Int)}, RlAt H xs rows → DpAll K H xs (rows.map rlD)
  | [], [], _ => .nil
  | [], _ :: _, h => by have := h.1; simp at this
  | _ :: _, [], h => by have := h.1; simp at this
  | x :: xs, r :: rows, h => by
    obtain ⟨t, l, r', rfl, hr, ht, hl⟩ := h.2 0 x rfl
    obtain rfl : r = r' := Option.some.inj hr
    refine .cons (.tup (SqT.of ht) (.cons (.int _) (.cons (.lst (SqL.of hl) dpa_ints) .nil))) (RlAt.dp ⟨Nat.succ.inj h.1, fun i v e => h.2 (i + 1) v e⟩)
def rMinRl (K : PySem.W.Frag) : List V → Hp → VK → Prop := fun vs H Q => ∃ (a : Addr) (xs : List V) (rows : List (List Int)), vs = [.ref a] ∧ SqL K H a xs ∧ RlAt H xs rows ∧ rows ≠ [] ∧
  ∀ (t l : Addr) (r : List Int), xs[bestL rows]? = some (.ref t) → rows[bestL rows]? = some r → H t = some (.tup [.int r.length, .ref l]) → H l = some (.lst (r.map V.int)) → Q (.ref t) H
theorem dpRl : ∀ rows : List (List Int), PyData.depthAll (rows.map rlD) ≤ 3
  | [] => Nat.zero_le _
  | r :: rs => by
    show max (max 0 (max (PyData.depthAll (r.map .int) + 1) 0) + 1) (PyData.depthAll (rs.map rlD)) ≤ 3
    have := dpRl rs
    rw [dp_ints]
    omega
theorem cr_minRl {X : Cx} {K : PySem.W.Frag} (hc : X.calm = true) (hu : X.A.units + 64 < cLine) (hK : X.K = K := by rfl) : CallR X (.builtin "min") (rMinRl K) := by
  subst hK
  intro pins s σ H vs us Q I r h
  obtain ⟨a, xs, rows, rfl, hs, ts, ne, q⟩ := h
  obtain ⟨u, rfl, ru⟩ := vals1 r
  obtain rfl : u = Value.ref a := ru
  obtain ⟨its, rv, hl, _⟩ := I.list hs
  obtain ⟨as, rd⟩ := Dp.readsAll I (rows.map rlD) _ _ ts.dp rv
  have rd' : ReadsAll s.heap its.toArray.toList (rows.map rlD) as := by simpa using rd
  have al : PySem.W.AlikeAll (rows.map rlD) := ⟨fun x hx y hy => by
    obtain ⟨i, _, rfl⟩ := List.mem_map.mp hx
    obtain ⟨j, _, rfl⟩ := List.mem_map.mp hy
    show (true && (PySem.W.alikeAll (i.map PyData.int) (j.map PyData.int) && true)) = true
    rw [alike_ints]
    rfl, fun x hx => by
    obtain ⟨i, _, rfl⟩ := List.mem_map.mp hx
    intro z
    cases z⟩
  have hn : its.toArray.size = rows.length := by
    have := PySem.W.readsAll_len rd'
    rw [this, List.length_map]
  have pos : 0 < rows.length := List.length_pos_iff.mpr ne
  have dp := dpRl rows
  refine PySem.call_min_walkH (PySem.W.iter_listW (A := X.A.in1) (I.ok.hd hc) hl.isList fun s₂ e W st hfp hw hk => ?_)
  refine ⟨_, _, _, _, _, _, _, s.heap, _, rfl, W, st, hfp, by omega, hw, hk, PySem.W.cmpIn_lt (A := X.A.in1) rd' al (by show X.A.units + 1 + _ < _; omega), fun v s' hP m => ?_⟩
  obtain ⟨h', tk, rfl, hk'⟩ := PySem.W.moved_old e rfl m
  have eb : ∀ n, n < rows.length → argBest (fun i j => PySem.W.dataLt ((rows.map rlD).getD i .none) ((rows.map rlD).getD j .none)) n = argBest (fun i j => PySem.W.dataLt (rlD (rows.getD i [])) (rlD (rows.getD j []))) n := by
    have at_ : ∀ i, i < rows.length → (rows.map rlD).getD i .none = rlD (rows.getD i []) := fun i hi => by
      rw [List.getD_eq_getElem?_getD, List.getElem?_map, List.getElem?_eq_getElem hi, List.getD_eq_getElem?_getD, List.getElem?_eq_getElem hi]
      rfl
    intro n hn
    refine (argBest_congr n fun i j hi hj => ?_).1
    show PySem.W.dataLt _ _ = _
    rw [at_ i (by omega), at_ j (by omega)]
  rw [hn, eb _ (by omega)] at hP
  have hP' : its.toArray[bestL rows]? = some v := hP
  obtain ⟨b1, _⟩ := bestL_ok rows (rows.length - 1)
  have bl : bestL rows < rows.length := by
    have : bestL rows ≤ rows.length - 1 := b1
    omega
  obtain ⟨t, l, r, ex, er, ht, hl2⟩ := ts.2 (bestL rows) (xs[bestL rows]'(by rw [ts.1]; exact bl)) (List.getElem?_eq_getElem (by rw [ts.1]; exact bl))
  have hv : its[bestL rows]? = some v := by simpa using hP'
  have rel : RelV (.ref t) v := by
    obtain ⟨w', hw1, hw2⟩ := rv.get (List.getElem?_eq_getElem (show bestL rows < xs.length by rw [ts.1]; exact bl))
    rw [hv] at hw1
    obtain rfl := Option.some.inj hw1
    rw [ex] at hw2
    exact hw2
  obtain rfl : v = Value.ref t := rel
  exact ⟨.ref t, H, I.call' (ch := []) rfl (Un.kept hk') (I.hok.kept hk') I.bare (fun _ z => nomatch z), rfl, q t l r (by rw [List.getElem?_eq_getElem (show bestL rows < xs.length by rw [ts.1]; exact bl), ex]) er ht hl2⟩
theorem bestL_len {rows : List (List Int)} {r u : List Int} (h : rows[bestL rows]? = some r) (m : u ∈ rows) : r.length ≤ u.length := by
  obtain ⟨k, hk⟩ := List.mem_iff_getElem?.mp m
  have hkl := (List.getElem?_eq_some_iff.mp hk).1
  have := (bestL_ok rows (rows.length - 1)).2 k (by omega)
  have h' : rows.getD (argBest (fun i j => PySem.W.dataLt (rlD (rows.getD i [])) (rlD (rows.getD j []))) (rows.length - 1)) [] = r := by
    show rows.getD (bestL rows) [] = r
    rw [List.getD_eq_getElem?_getD, h]
    rfl
  rw [h', List.getD_eq_getElem?_getD, hk] at this
  exact this
end Bs

namespace Bs
open PySem PySem.Spec PyProof.Rows L2
section
variable {P : Program} {w : World} {A : Around} {E : Value → Shared → Prop} {s : Shared}
/-! ### len(set(xs)) of texts -/
def UqS (xs ks : List Str) : Prop := ks.Nodup ∧ ∀ k, k ∈ ks ↔ k ∈ xs
theorem set_update_strs {I : Addr} {fp wr : List Addr} {G : Array GenState → Array GenState → Prop} {n : Nat} {Pv : Nat → Value → Prop} {St : Nat → Shared → Prop} {R : Result → Shared → Prop}
    (W : WalksS P w A.in1 I fp wr G n Pv St) (S : Addr) (hSf : S ∉ fp) (xs : List Str) (hn : n = xs.length) (hb : xs.length + 1 < scanBound) (hval : ∀ i v, Pv i v → ∃ k t, xs[i]? = some k ∧ v = .str k t) :
    ∀ (k i : Nat) (s : Shared), n - i = k → i ≤ n → St i s → (∃ ks, ks.length ≤ i ∧ UqS (xs.take i) ks ∧ s.heap.SetOf (PySem.strKind P w) S (fun j => decide (j ∈ xs.take i)) ks.length) →
      (∀ s' ks, Moved (S :: wr) G s s' → ks.length ≤ n → UqS xs ks → s'.heap.SetOf (PySem.strKind P w) S (fun j => decide (j ∈ xs)) ks.length → R (.ok (.ret .none)) s') →
      codeAny (model P w) A (.builtin "set.update.loop" ⟨[.ref S, .ref I], []⟩) R s := by
  have hSw : S ∉ wr := fun h => hSf (W.sub _ h)
  have hsub : ∀ b ∈ wr, b ∈ S :: wr := fun b hb => List.mem_cons_of_mem _ hb
  have at_ : ∀ {h h' : Heap} {T : Str → Bool} {c : Nat}, h.SetOf (PySem.strKind P w) S T c → (∀ o, h.get? S = some o → h'.get? S = some o) → h'.SetOf (PySem.strKind P w) S T c := fun ⟨o, es, ep, t, ho, r⟩ k => ⟨o, es, ep, t, k o ho, r⟩
  intro k
  induction k with
  | zero =>
    intro i s hk' hi hst ⟨ks, hc, hu, hS⟩ hR
    have hin : i = n := by omega
    subst hin
    refine codeAny_builtin PyProof.Rows.F.entry_set_update_loop ?_
    rw [Around.under_plainId PyProof.Rows.F.plain_set_update_loop _]
    show wpAny _ A.in1 (pyNext (.ref I) >>= _) _ _ s
    refine wpAny_bind (W.done s _ _ hst fun s' hm => ?_)
    show wpAny _ A.in1 (ret Value.none) _ _ s'
    have e : xs.take i = xs := List.take_of_length_le (by omega)
    rw [e] at hS hu
    exact wpAny_pure (hR s' ks (hm.mono hsub) hc hu (at_ hS fun o e => hm.heap S o hSw e))
  | succ k ih =>
    intro i s hk' hi hst ⟨ks, hc, hu, hS⟩ hR
    have hlt : i < n := by omega
    refine codeAny_builtin PyProof.Rows.F.entry_set_update_loop ?_
    rw [Around.under_plainId PyProof.Rows.F.plain_set_update_loop _]
    show wpAny _ A.in1 (pyNext (.ref I) >>= _) _ _ s
    refine wpAny_bind (W.item i s _ _ hlt hst fun v s' hP hst' hm => ?_)
    obtain ⟨z, t, hz, rfl⟩ := hval i v hP
    have hS' : s'.heap.SetOf (PySem.strKind P w) S (fun j => decide (j ∈ xs.take i)) ks.length := at_ hS fun o e => hm.heap S o hSw e
    show wpAny _ A.in1 (holding [Value.str z t] (setAdd S (.str z t)) >>= _) _ _ s'
    refine wpAny_bind (wpAny_holding ?_)
    unfold setAdd
    refine wpAny_holding ?_
    refine wpAny_bind ((PySem.strKind P w).pyHash (k := z) (strKind_is _ _ _ _) ?_)
    refine wpAny_setAddHashed_of (knd := PySem.strKind P w) (s := { s' with toks := s'.toks + 1 }) (strKind_is _ _ _ _) rfl hS' (by omega) fun h' hsb hS2 => ?_
    have tk : xs.take (i + 1) = xs.take i ++ [z] := by rw [List.take_add_one, hz]; rfl
    obtain ⟨ks2, hc2, hu2, hS3⟩ : ∃ ks2 : List Str, ks2.length ≤ i + 1 ∧ UqS (xs.take (i + 1)) ks2 ∧ h'.SetOf (PySem.strKind P w) S (fun j => decide (j ∈ xs.take (i + 1))) ks2.length := by
      have ef : (fun k' : Str => decide (k' ∈ xs.take i) || decide (k' = z)) = fun j => decide (j ∈ xs.take (i + 1)) := by
        funext j
        rw [tk]
        simp [List.mem_append]
      by_cases c : z ∈ xs.take i
      · refine ⟨ks, by omega, ⟨hu.1, fun k => ?_⟩, ?_⟩
        · rw [hu.2, tk, List.mem_append, List.mem_singleton]
          exact ⟨fun h => .inl h, fun h => h.elim id fun e => e ▸ c⟩
        · rw [← ef]
          have := hS2
          rw [if_pos (decide_eq_true c)] at this
          exact this
      · refine ⟨z :: ks, by rw [List.length_cons]; omega, ⟨List.nodup_cons.mpr ⟨fun m => c ((hu.2 z).mp m), hu.1⟩, fun k => ?_⟩, ?_⟩
        · rw [List.mem_cons, hu.2, tk, List.mem_append, List.mem_singleton]
          exact ⟨fun h => h.elim .inr .inl, fun h => h.elim .inr .inl⟩
        · rw [← ef, List.length_cons]
          have := hS2
          rw [if_neg (by rw [decide_eq_true_eq]; exact c)] at this
          exact this
    refine wpAny_pure ⟨plainId_quiet PyProof.Rows.F.plain_set_update_loop _, ih (i + 1) _ (by omega) hlt (W.frame _ s' _ _ hst' (Nat.le_succ _) fun b hb o e => ?_) ⟨ks2, hc2, hu2, hS3⟩ fun s'' c2 hm'' hc'' hu'' hS'' => ?_⟩
    · rw [hsb.2 b (fun h : b = S => hSf (by rw [← h]; exact hb))]; exact e
    · refine hR s'' c2 (Moved.trans W.gtrans ((hm.mono hsub).then_heap (Nat.le_succ _) fun b o hb e => ?_) hm'') hc'' hu'' hS''
      rw [hsb.2 b (fun h : b = S => hb (by rw [h]; exact List.mem_cons_self))]; exact e
abbrev SetSD (P : Program) (w : World) (s : Shared) (xs : List Str) (h' : Heap) (ks : List Str) : Prop :=
  h'.SetOf (PySem.strKind P w) s.heap.objs.size (fun j => decide (j ∈ xs)) ks.length ∧ UqS xs ks ∧ ks.length ≤ xs.length ∧ ∀ b o, s.heap.get? b = some o → h'.get? b = some o
open RZ in
set_option maxHeartbeats 3200000 in
theorem call_setS {l : Addr} {its : Array Value} (xs : List Str) {Q : Value → Shared → Prop} (hh : A.handled = none)
    (hl : s.heap.IsList l its) (hi : StrsAre its.toList xs) (room : xs.length + 1 < scanBound)
    (h : ∀ h' tk c, SetSD P w s xs h' c → Q (.ref s.heap.objs.size) { s with heap := h', toks := tk }) :
    wpAny (model P w) A (call (.type "set") [.ref l]) Q E s := by
  have many : its.size = xs.length := by
    have q := StrsAre.len_eq hi
    rwa [Array.length_toList] at q
  obtain ⟨cx, tx, mro⟩ := F.called_set.mro
  have made := F.called_set.made
  have sub := F.called_set.sub
  refine wpAny_call (codeAny_of_tree ?_)
  show wpAny _ _ (callAny (.type "set") _) _ _ s
  refine wpAny_pure ⟨Code.quiet_builtin _ (by decide +kernel), ?_⟩
  refine codeAny_builtin F.entry_type_call ?_
  rw [Around.under_plain (weight_type_call_type "set" [.ref l] []) rfl]
  have noType := F.called_set.notType
  have creates := F.called_set.canCreate
  have typed := F.typeCall_set_1 (.ref l)
  repeat any_goals first | assumption | wp_step
  refine codeAny_mono (code_set_led1 (.ref l) (E := E) (Q₁ := fun v t => v = .ref s.heap.objs.size ∧ t = withE w s) ⟨rfl, rfl⟩) ?_
  intro fl t got
  match fl, got with
  | .ok (.ret v), got =>
    obtain ⟨ev, et⟩ := got
    subst ev et
    have at0 : (withE w s).heap.get? s.heap.objs.size = some (empO w) := Heap.get?_push_size _ rfl
    have isSet : Shared.TypeIs (withE w s) (.ref s.heap.objs.size) "set" := ⟨_, at0, rfl⟩
    have look := F.called_set.init.lookup
    have bnd := F.called_set.init.bind (.ref s.heap.objs.size)
    repeat any_goals first | assumption | wp_step
    refine codeAny_mono (codeAny_call_builtin (R := wants (fun v t => v = .none ∧ ∃ h' tk c, t = { s with heap := h', toks := tk } ∧ SetSD P w s xs h' c) E)
      F.called_set.init.plain F.entry_set_init (check_set_init_1 isSet ?_)) ?_
    · obtain ⟨ol, ho, hc, nl, hd⟩ := hl
      obtain ⟨ocl, odi, oda, osl⟩ := ol
      simp only at hc hd
      subst hc hd
      have ho' : (withE w s).heap.get? l = some _ := Heap.get?_push_of_some _ ho
      have no1 := F.sub_list_set
      have no2 := F.sub_list_frozenset
      have no3 : (Value.type "list" == Value.type "dict") = false := by decide
      have still : (withE w s).heap.IsList l its := ⟨_, ho', rfl, nl, rfl⟩
      unfold Builtin.«set.__init__»
      unfold noKeywords Builtin.Frozenset.updateFrom
      generalize eIt : pyIter = itr
      wp_walk
      subst eIt
      refine wpAny_pyIter_list still (wpAny_bind (wpAny_runValue ?_))
      have below : l < s.heap.objs.size := Heap.lt_size ho
      have calm3 : A.in1.in1.in1.handled = none := by simp [hh]
      have sz : (withE w s).heap.objs.size = s.heap.objs.size + 1 := Heap.size_push ..
      have apart : l ≠ (withE w s).heap.objs.size := by
        rw [sz]
        exact Nat.ne_of_lt (Nat.lt_succ_of_lt below)
      have out : s.heap.objs.size ∉ [(withE w s).heap.objs.size, l] := by
        simp only [List.mem_cons, List.not_mem_nil, or_false, not_or]
        exact ⟨by rw [sz]; exact Nat.ne_of_lt (Nat.lt_succ_self _), Nat.ne_of_gt below⟩
      have vals : ∀ (i : Nat) (v : Value), its[i]? = some v → ∃ k t, xs[i]? = some k ∧ v = .str k t := by
        intro i v hv
        have lt : i < xs.length := by
          have := (Array.getElem?_eq_some_iff.mp hv).1
          omega
        obtain ⟨t, e⟩ := SS.strs_at hi i v (by rw [Array.getElem?_toList]; exact hv)
        exact ⟨xs[i], t, List.getElem?_eq_getElem lt, by rw [e, List.getD_eq_getElem?_getD, List.getElem?_eq_getElem lt]; rfl⟩
      refine set_update_strs ((Walks.list calm3 _ l apart its).toS) s.heap.objs.size out xs many room vals
        (its.size - 0) 0 _ (by omega) (Nat.zero_le _) ⟨⟨_, Heap.get?_push_size _ rfl, rfl, rfl⟩, still.push _⟩ ?_ ?_
      · exact ⟨[], Nat.le_refl 0, ⟨List.nodup_nil, fun k => by simp⟩, SetOf_congr ((setObjOf_fresh (knd := PySem.strKind P w) (ledOf w)).setOf (Heap.get?_push_of_some _ at0) (by unfold scanBound; omega)) (fun k => by simp) rfl⟩
      · intro t ks mv hc hu hS
        obtain ⟨h', g', d', tk, os'⟩ := t
        obtain rfl : g' = s.gens := mv.gens
        obtain rfl : d' = s.drawn := mv.drawn
        obtain rfl : os' = s.os := mv.os
        show wpAny _ _ _ _ _ _
        refine wpAny_pure ?_
        show wpAny _ _ (ret Value.none) _ _ _
        refine wpAny_pure ⟨rfl, h', tk, ks, rfl, hS, hu, by omega, fun b o e => ?_⟩
        have lt : b < s.heap.objs.size := Heap.lt_size e
        refine mv.heap b o ?_ (Heap.get?_push_of_some _ (Heap.get?_push_of_some _ e))
        simp only [List.mem_cons, List.not_mem_nil, or_false, not_or]
        exact ⟨Nat.ne_of_lt lt, by rw [sz]; exact Nat.ne_of_lt (Nat.lt_succ_of_lt lt)⟩
    · intro fl2 t2 got2
      match fl2, got2 with
      | .ok (.ret v), got2 =>
        obtain ⟨ev, h', tk, c, et, sd⟩ := got2
        subst ev et
        repeat any_goals first | assumption | wp_step
        exact h _ _ _ sd
      | .error e, got2 => exact got2
  | .error e, got => exact got
end

def tLenSetS (K : PySem.W.Frag) (ta : TE) : TE := fun σ H Q => ta σ H fun x H1 => ∃ (l : Addr) (xs : List Str), x = .ref l ∧ SqL K H1 l (xs.map V.str) ∧ xs.length < 60 ∧ ∀ ks : List Str, UqS xs ks → Q (.int ks.length) H1
theorem pe_lenSetS {X : Cx} {K : PySem.W.Frag} {a : Expr} {ta : TE} {p p2 q pos : Pos} (hc : X.calm = true) (hg : Gl X "len") (hm : X.mg "len" = none) (hg2 : Gl X "set") (hm2 : X.mg "set" = none) (ha : PE X a ta) (hK : X.K = K := by rfl)
    (na : starEach [a] X.env = (false, eval a X.env) :: starEach [] X.env := by rfl) : PE X (.Call (.Name "len" p) [.Call (.Name "set" p2) [a] [] q] [] pos) (tLenSetS K ta) := by
  subst hK
  refine ⟨fun pins s σ H Q I h => ?_⟩
  refine Call_ (ld_blt I hg hm boot_len ?_)
  refine PyProof.Rows.callWith_builtin1 (PyProof.Rows.args_cons ?_ rfl) rfl rfl
  refine Call_ (ld_blt I hg2 hm2 boot_set ?_)
  refine PyProof.Rows.callWith_type1 (PyProof.Rows.args_cons (thn (ha.run pins s σ H _ I h) fun v s1 ⟨x, H1, I1, r1, q1⟩ => PyProof.Rows.args_nil ?_) na) na rfl
  obtain ⟨l, xs, rfl, hq, h1, q1⟩ := q1
  cases r1
  obtain ⟨its, r, pl, hz⟩ := I1.list hq
  refine call_setS xs (I1.ok.hd hc) pl.isList (by simpa using strsAre_of r) (by unfold scanBound; omega) fun h' tk ks hS => ?_
  obtain ⟨hS, hu, lk, hk⟩ := hS
  refine PyProof.Rows.args_nil ?_
  obtain ⟨o, es, ep, t, ho, hex, hd, _, _, _, hf, hn⟩ := hS
  have I2 : Inv X pins σ H1 { s1 with heap := h', toks := tk } := I1.kept fun b o e => hk b o e
  exact call_len_set ho hex hd hf (by rw [hn]; omega) ⟨.int ks.length, H1, I2.tok _, ⟨_, by rw [hn]⟩, q1 ks hu⟩
end Bs

namespace Bs
open PySem PySem.Spec PyProof.Rows L2
open Evl (Ex)
/-- len(s), s a set of whole numbers -/
def rLenSetO (w : World) : List V → Hp → VK → Prop := fun vs H Q => ∃ (a : Addr) (S : Int → Bool) (n : Nat), vs = [V.ref a] ∧ H a = some (SetO w a S n) ∧
  ∀ ks : List Int, ks.Nodup → (∀ k, S k = true ↔ k ∈ ks) → ks.length = n → Q (.int (n : Nat)) H
theorem cr_lenSetO {X : Cx} {w : World} (hW : X.w = w := by rfl) : CallR X (.builtin "len") (rLenSetO w) := by
  subst hW
  intro pins s σ H vs us Q I r h
  obtain ⟨a, S, n, rfl, ha, q⟩ := h
  rw [Vals.ref1 r]
  obtain ⟨o, es, ep, t, ho, ex, dat, _, nd, mem, lt, fits, rfl, _⟩ := setO_get I ha
  have sb : es.size < 2 ^ 63 := Nat.lt_of_lt_of_le lt (by unfold scanBound; decide)
  refine call_len_set ho ex dat fits (by omega) ⟨.int (es.size : Nat), H, I.kept (t' := s.toks + 1 + 1) (fun _ _ e => e), ⟨_, rfl⟩, q (es.toList.map keyOf) nd mem (by rw [List.length_map, Array.length_toList])⟩
theorem pe_revLK {X : Cx} {K : PySem.W.Frag} {e : Expr} {te : TE} {k : Nat} {p1 p2 p3 pos : Pos} (h : PE X e te) (hK : X.K = K := by rfl) :
    PE X (e.Subscript (Expr.Slice none none (some (Expr.UnaryOp UnaryOp.USub (Expr.Constant (Const.int 1) k p1) p2)) p3) pos) (tRevL K te) := hK ▸ pe_revL h
/-- how many there are tells whether they are unlike -/
theorem card_nodup {ns ks : List Int} (nd : ks.Nodup) (mem : ∀ k, k ∈ ns ↔ k ∈ ks) : ks.length ≤ ns.length ∧ (ks.length = ns.length ↔ ns.Nodup) := by
  have sub : ks ⊆ ns := fun k h => (mem k).mpr h
  have le := nd.length_le_of_subset sub
  refine ⟨le, fun e => ?_, fun h => Nat.le_antisymm le (h.length_le_of_subset fun k m => (mem k).mp m)⟩
  refine Classical.byContradiction fun h => ?_
  have key : ∀ {ns : List Int}, ¬ ns.Nodup → ∀ {ks : List Int}, ks.Nodup → ks ⊆ ns → ks.length < ns.length := by
    intro ns
    induction ns with
    | nil => intro h; exact absurd List.nodup_nil h
    | cons x r ih =>
      intro h ks kn sub
      by_cases m : x ∈ r
      · have : ks ⊆ r := fun k mk => by
          rcases List.mem_cons.mp (sub mk) with e | e
          · rw [e]; exact m
          · exact e
        have := kn.length_le_of_subset this
        rw [List.length_cons]
        omega
      · have hr : ¬ r.Nodup := fun z => h (List.nodup_cons.mpr ⟨m, z⟩)
        have kn2 : (ks.erase x).Nodup := kn.erase x
        have sub2 : ks.erase x ⊆ r := fun k mk => by
          have h1 := List.mem_of_mem_erase mk
          have h2 : k ≠ x := fun z => by
            rw [z] at mk
            exact (kn.not_mem_erase) mk
          rcases List.mem_cons.mp (sub h1) with e | e
          · exact absurd e h2
          · exact e
        have := ih hr kn2 sub2
        have le2 : ks.length ≤ (ks.erase x).length + 1 := by
          rw [List.length_erase]
          split <;> omega
        rw [List.length_cons]
        omega
  have := key h nd sub
  omega
end Bs

set_option maxHeartbeats 4000000
set_option hygiene false
local macro_rules | `(tactic| walk_at "ne") => `(tactic| first
  | assumption
  | (refine Ne.symm ?_; assumption)
  | (refine' ne_fresh (by assumption) ?_; walk_at "hp")
  | (refine' ne_fresh' (by assumption) ?_; walk_at "hp")
  | exact ne_of (by assumption) (by assumption) (by intro z; cases z))
local macro_rules | `(tactic| walk_at "hp") => `(tactic| first
  | assumption
  | exact upd_same
  | (refine' fresh_at (by assumption) ?_; walk_at "hp")
  | (refine' upd_at ?ne ?_; (case ne => walk_at "ne"); walk_at "hp")
  | (refine' ex_at (by assumption) ?_; walk_at "hp")
  | (refine' but_at (by assumption) ?ne ?_; (case ne => walk_at "ne"); walk_at "hp"))
local macro_rules | `(tactic| walk_at "ex") => `(tactic| first
  | assumption
  | exact Ex.refl _
  | (refine' ex_new ?_ (by assumption); walk_at "ex")
  | (refine' ex_tr (by assumption) ?_; walk_at "ex")
  | (refine' ex_mut ?_ ?n; (case n => assumption); walk_at "ex"))
local macro_rules | `(tactic| walk_at "ts") => `(tactic| first
  | assumption
  | (refine' ts_new (by assumption) ?_; walk_at "ts")
  | (refine' ts_ex (by assumption) ?_; walk_at "ts"))
local macro_rules | `(tactic| walk_at "sq") => `(tactic| first
  | assumption
  | exact ex_s (by walk_at "ex") (by assumption))
local macro_rules | `(tactic| walk_at "side") => `(tactic| first
  | exact mulBd (by omega) (by omega) (by omega) (by omega)
  | exact divBd (by omega) (by omega)
  | exact ⟨by decide, by decide, by decide⟩
  | (show (0 : Int) < _; omega))
local macro_rules | `(tactic| walk_at "s") => `(tactic| first
  | (with_reducible refine' q_seq ?_)
  | (with_reducible refine' q_asg ?_)
  | ((with_reducible refine' q_g ?e ?_); (case e => (simp only [List.set_cons_zero, List.set_cons_succ]; rfl)))
  | ((with_reducible refine' q_var ?e ?_); (case e => exact rfl))
  | (with_reducible refine' q_c ?_)
  | (with_reducible refine' q_op ?_)
  | (with_reducible refine' q_i0 ?_)
  | ((with_reducible refine' q_ii ?c ?_); (case c => walk_at "side"))
  | (with_reducible refine' q_add ?_)
  | (with_reducible refine' q_sub ?_)
  | (with_reducible refine' q_cons ?_)
  | (with_reducible refine' q_nil ?_)
  | (with_reducible refine' q_cb ?_)
  | (with_reducible refine' q_call ?_)
  | (with_reducible refine' q_ex ?_)
  | (with_reducible refine' q_exi ?_)
  | (with_reducible refine' q_tst ?_)
  | (with_reducible refine' q_tB ?_)
  | (with_reducible refine' q_ifS ?_)
  | (with_reducible refine' q_if ?_)
  | (with_reducible refine' q_ifT ?_)
  | (with_reducible refine' q_ifF ?_)
  | (with_reducible refine' q_ifNT ?_)
  | (with_reducible refine' q_ifNF ?_)
  | (with_reducible refine' q_ifNN ?_)
  | ((with_reducible refine' q_ifDT ?c ?_); (case c => first | rfl | omega))
  | ((with_reducible refine' q_ifDF ?c ?_); (case c => omega))
  | ((with_reducible refine' q_ifNDT ?c ?_); (case c => omega))
  | ((with_reducible refine' q_ifNDF ?c ?_); (case c => first | rfl | omega))
  | ((with_reducible refine' q_ixL ?h ?e ?_); (case h => walk_at "hp"); (case e => exact rfl))
  | ((with_reducible refine' q_ixT ?h ?e ?_); (case h => walk_at "hp"); (case e => exact rfl))
  | ((with_reducible refine' q_lenL ?h ?_); (case h => walk_at "hp"))
  | ((with_reducible refine' q_lenT ?h ?_); (case h => walk_at "hp"))
  | ((with_reducible refine' q_lenS ?h ?_); (case h => first | assumption | exact ex_s (by assumption) (by assumption)))
  | ((with_reducible refine' q_setL ?h ?e ?_); (case h => walk_at "hp"); (case e => exact rfl))
  | (with_reducible refine' q_gsub ?_)
  | (with_reducible refine' q_ret ?_)
  | (with_reducible refine' q_retN ?_)
  | (with_reducible refine' q_drop ?_)
  | (with_reducible refine' q_next ?_)
  | (with_reducible refine' q_cont ?_)
  | (with_reducible refine' q_break ?_)
  | ((with_reducible refine' q_aug ?e ?_); (case e => exact rfl))
  | ((with_reducible refine' q_set ?e ?_); (case e => (simp only [List.set_cons_zero, List.set_cons_succ]; rfl)))
  | (with_reducible refine' q_ipI ?_)
  | (with_reducible refine' q_chain ?_)
  | (with_reducible refine' q_chain3 ?_)
  | (with_reducible refine' q_and ?_)
  | (with_reducible refine' q_or ?_)
  | (with_reducible refine' q_not ?_)
  | (with_reducible refine' q_andV ?_)
  | (with_reducible refine' q_orV ?_)
  | (with_reducible refine' q_notV ?_)
  | (with_reducible refine' q_yes ?_)
  | (with_reducible refine' q_eqI ?_)
  | (with_reducible refine' q_neI ?_)
  | (with_reducible refine' q_eqS ?_)
  | (with_reducible refine' q_neS ?_)
  | (with_reducible refine' q_isN ?_)
  | (with_reducible refine' q_notN ?_)
  | (with_reducible refine' q_max2 ?_)
  | (with_reducible refine' q_min2 ?_)
  | (with_reducible refine' q_un ?_)
  | (with_reducible refine' q_u ?_)
  | (with_reducible refine' q_tup ?_)
  | (with_reducible refine' q_lst ?_)
  | ((with_reducible refine' q_made ?s ?_); (case s => simp); intro _ _)
  | ((with_reducible refine' q_callL ?e ?_); (case e => exact rfl))
  | (with_reducible refine' q_turnE ?_)
  | (with_reducible refine' q_bm ?_)
  | (with_reducible refine' q_bm0 ?_)
  | ((with_reducible refine' q_tyL ?h ?_); (case h => walk_at "hp"))
  | ((with_reducible refine' q_append ?h ?s ?_); (case h => walk_at "hp"); (case s => first | omega | (simp; done) | (simp; omega)))
  | ((with_reducible refine' q_listL ?h ?_); (case h => walk_at "hp"); intro _ _)
  | ((with_reducible refine' q_listT ?h ?_); (case h => walk_at "hp"); intro _ _)
  | ((with_reducible refine' q_sum ?h ?_); (case h => walk_at "hp"))
  | (with_reducible refine' q_sl ?_)
  | (with_reducible refine' q_noPart ?_)
  | (with_reducible refine' q_part ?_)
  | ((with_reducible refine' q_slL ?h ?_); (case h => walk_at "hp"); intro _ _)
  | (with_reducible refine' q_gcons ?_)
  | (with_reducible refine' q_gnil ?_)
  | ((with_reducible refine' q_gtup ?h ?l ?_); (case h => walk_at "hp"); (case l => rfl))
  | (with_reducible refine' q_for ?_)
  | (with_reducible refine' q_iList ?_)
  | (with_reducible refine' q_iTup ?_)
  | (with_reducible refine' q_iRng ?_)
  | ((with_reducible refine' q_rng ?h ?_); (case h => exact ⟨by omega, by omega⟩))
  | (with_reducible refine' q_iEnum ?_)
  | ((with_reducible refine' q_enum ?h ?_); (case h => walk_at "hp"))
  | (with_reducible refine' q_iZip ?_)
  | ((with_reducible refine' q_zip ?h ?h2 ?_); (case h => walk_at "hp"); (case h2 => walk_at "hp"))
  | ((with_reducible refine' q_isL ?h ?_); (case h => walk_at "hp"))
  | ((with_reducible refine' q_isT ?h ?_); (case h => walk_at "hp"))
  | ((with_reducible refine' q_lc ?e ?_); (case e => (simp only [wipe, List.map_cons, List.map_nil, List.set_cons_zero, List.set_cons_succ]; rfl)))
  | (with_reducible refine' q_turn ?_)
  | ((with_reducible refine' q_wiped ?e ?_); (case e => exact rfl))
  | ((with_reducible refine' q_push ?h ?s ?_); (case h => walk_at "hp"); (case s => first | omega | (simp; done) | (simp; omega)))
  | (with_reducible refine' q_isiI ?_)
  | (with_reducible refine' q_isiB ?_)
  | ((with_reducible refine' q_isiL ?h ?_); (case h => walk_at "hp"))
  | ((with_reducible refine' q_isiT ?h ?_); (case h => walk_at "hp"))
  | ((with_reducible refine' q_tupleL ?h ?_); (case h => walk_at "hp"); intro _ _)
  | ((with_reducible refine' q_catL ?h ?h2 ?s ?_); (case h => walk_at "hp"); (case h2 => walk_at "hp"); (case s => first | omega | (simp; done) | (simp; omega)); intro _ _)
  | ((with_reducible refine' q_inI ?h ?_); (case h => walk_at "hp"))
  | ((with_reducible refine' q_niI ?h ?_); (case h => walk_at "hp"))
  | ((with_reducible refine' q_niIT ?h ?_); (case h => walk_at "hp"))
  | ((with_reducible refine' q_dnew ?_); intro _ _)
  | (with_reducible refine' q_dget ?_)
  | (with_reducible refine' q_dput ?_)
  | ((with_reducible refine' q_dputI ?h ?s ?_); (case h => walk_at "hp"); (case s => omega))
  | ((with_reducible refine' q_range1 ?_); intro _ _)
  | ((with_reducible refine' q_listRng ?h ?s ?_); (case h => walk_at "hp"); (case s => omega); intro _ _)
  | ((with_reducible refine' q_minT2 ?h ?_); (case h => walk_at "hp"))
  | (with_reducible refine' q_int1b ?_)
  | (with_reducible refine' q_int1i ?_)
  | (with_reducible refine' q_orT ?_)
  | ((with_reducible refine' q_truT ?h ?_); (case h => walk_at "hp"))
  | ((with_reducible refine' q_truL ?h ?_); (case h => walk_at "hp"))
  | ((with_reducible refine' q_niS ?h ?_); (case h => walk_at "hp"))
  | (with_reducible refine' q_iZipA ?_)
  | ((with_reducible refine' q_zipT ?h ?h2 ?_); (case h => walk_at "hp"); (case h2 => walk_at "hp"))
  | fail "no step")
local macro_rules | `(tactic| walk_at "go") => `(tactic| repeat walk_at "s")

namespace Bk24
open PySem PySem.Spec PyProof.Rows L2 Bs
open Evl (Ex)
def topS (i : Nat) : Stmt := PySem.Challenge.pw_boundsmith_k24_whole_hour_by_hour.main.body.getD i (.Pass ⟨0, 0, 0, 0⟩)
abbrev s_is_whole : Stmt := topS 12
abbrev N_is_whole : List Str := ["thing"]
theorem sc_is_whole : FnScope N_is_whole ["thing"] (defScope s_is_whole) := ⟨rfl, rfl, rfl, by decide +kernel, rfl, by decide +kernel, by decide +kernel⟩
abbrev s_is_among : Stmt := topS 13
abbrev N_is_among : List Str := ["thing", "least", "most"]
theorem sc_is_among : FnScope N_is_among ["thing", "least", "most"] (defScope s_is_among) := ⟨rfl, rfl, rfl, by decide +kernel, rfl, by decide +kernel, by decide +kernel⟩
abbrev s_end_of : Stmt := topS 15
abbrev N_end_of : List Str := ["book", "begins", "task"]
theorem sc_end_of : FnScope N_end_of ["book", "begins", "task"] (defScope s_end_of) := ⟨rfl, rfl, rfl, by decide +kernel, rfl, by decide +kernel, by decide +kernel⟩
abbrev s_uses_of_good : Stmt := topS 16
abbrev N_uses_of_good : List Str := ["book", "begins", "good", "needed", "task"]
theorem sc_uses_of_good : FnScope N_uses_of_good ["book", "begins", "good"] (defScope s_uses_of_good) := ⟨rfl, rfl, rfl, by decide +kernel, rfl, by decide +kernel, by decide +kernel⟩
abbrev s_used_at : Stmt := topS 17
abbrev N_used_at : List Str := ["uses", "hour", "begin", "end", "many"]
theorem sc_used_at : FnScope N_used_at ["uses", "hour"] (defScope s_used_at) := ⟨rfl, rfl, rfl, by decide +kernel, rfl, by decide +kernel, by decide +kernel⟩
abbrev s_need_plan : Stmt := topS 20
abbrev N_need_plan : List Str := ["book", "thing", "hour"]
theorem sc_need_plan : FnScope N_need_plan ["book", "thing"] (defScope s_need_plan) := ⟨rfl, rfl, rfl, by decide +kernel, rfl, by decide +kernel, by decide +kernel⟩
abbrev s_from_fault : Stmt := topS 21
abbrev N_from_fault : List Str := ["book", "plan", "early", "row", "task"]
theorem sc_from_fault : FnScope N_from_fault ["book", "plan"] (defScope s_from_fault) := ⟨rfl, rfl, rfl, by decide +kernel, rfl, by decide +kernel, by decide +kernel⟩
abbrev s_fixed_fault : Stmt := topS 22
abbrev N_fixed_fault : List Str := ["book", "plan", "moved", "begin", "task"]
theorem sc_fixed_fault : FnScope N_fixed_fault ["book", "plan"] (defScope s_fixed_fault) := ⟨rfl, rfl, rfl, by decide +kernel, rfl, by decide +kernel, by decide +kernel⟩
abbrev s_wait_fault : Stmt := topS 23
abbrev N_wait_fault : List Str := ["book", "plan", "place", "first", "second", "gap"]
theorem sc_wait_fault : FnScope N_wait_fault ["book", "plan"] (defScope s_wait_fault) := ⟨rfl, rfl, rfl, by decide +kernel, rfl, by decide +kernel, by decide +kernel⟩
abbrev s_machine_fault : Stmt := topS 24
abbrev N_machine_fault : List Str := ["book", "plan", "many", "one", "machine", "mates", "other"]
theorem sc_machine_fault : FnScope N_machine_fault ["book", "plan"] (defScope s_machine_fault) := ⟨rfl, rfl, rfl, by decide +kernel, rfl, by decide +kernel, by decide +kernel⟩
abbrev s_good_fault : Stmt := topS 25
abbrev N_good_fault : List Str := ["book", "plan", "begins", "uses", "hour", "place", "_", "many", "good"]
theorem sc_good_fault : FnScope N_good_fault ["book", "plan"] (defScope s_good_fault) := ⟨rfl, rfl, rfl, by decide +kernel, rfl, by decide +kernel, by decide +kernel⟩
abbrev s_fault_of : Stmt := topS 27
abbrev N_fault_of : List Str := ["book", "plan", "look", "fault"]
theorem sc_fault_of : FnScope N_fault_of ["book", "plan"] (defScope s_fault_of) := ⟨rfl, rfl, rfl, by decide +kernel, rfl, by decide +kernel, by decide +kernel⟩
abbrev s__law_started : Stmt := topS 29
abbrev N__law_started : List Str := ["script", "is_odd", "cell"]
theorem sc__law_started : FnScope N__law_started ["script"] (defScope s__law_started) := ⟨rfl, rfl, rfl, by decide +kernel, rfl, by decide +kernel, by decide +kernel⟩
abbrev s__law_draw : Stmt := topS 30
abbrev N__law_draw : List Str := ["m", "many", "k", "cells", "left", "cell", "number"]
theorem sc__law_draw : FnScope N__law_draw ["m", "many"] (defScope s__law_draw) := ⟨rfl, rfl, rfl, by decide +kernel, rfl, by decide +kernel, by decide +kernel⟩
abbrev s__law_of : Stmt := topS 31
abbrev N__law_of : List Str := ["m", "some"]
theorem sc__law_of : FnScope N__law_of ["m", "some"] (defScope s__law_of) := ⟨rfl, rfl, rfl, by decide +kernel, rfl, by decide +kernel, by decide +kernel⟩
abbrev s__law_names : Stmt := topS 32
abbrev N__law_names : List Str := ["m", "many", "letters", "first", "tail", "spot", "signs", "k", "sign"]
theorem sc__law_names : FnScope N__law_names ["m", "many"] (defScope s__law_names) := ⟨rfl, rfl, rfl, by decide +kernel, rfl, by decide +kernel, by decide +kernel⟩
abbrev s__law_order : Stmt := topS 33
abbrev N__law_order : List Str := ["m", "many", "left", "found"]
theorem sc__law_order : FnScope N__law_order ["m", "many"] (defScope s__law_order) := ⟨rfl, rfl, rfl, by decide +kernel, rfl, by decide +kernel, by decide +kernel⟩
abbrev s__law_task : Stmt := topS 34
abbrev N__law_task : List Str := ["m", "name", "machines", "goods", "long", "needs", "good", "many", "first", "due", "machine"]
theorem sc__law_task : FnScope N__law_task ["m", "name", "machines", "goods", "long"] (defScope s__law_task) := ⟨rfl, rfl, rfl, by decide +kernel, rfl, by decide +kernel, by decide +kernel⟩
abbrev s__law_waits : Stmt := topS 35
abbrev N__law_waits : List Str := ["m", "order", "most", "found", "k", "spots", "gap"]
theorem sc__law_waits : FnScope N__law_waits ["m", "order", "most"] (defScope s__law_waits) := ⟨rfl, rfl, rfl, by decide +kernel, rfl, by decide +kernel, by decide +kernel⟩
abbrev s__law_book : Stmt := topS 36
abbrev N__law_book : List Str := ["m", "most", "long", "held", "machines", "goods", "many", "tasks", "waits", "fixed", "name", "task"]
theorem sc__law_book : FnScope N__law_book ["m", "most", "long", "held"] (defScope s__law_book) := ⟨rfl, rfl, rfl, by decide +kernel, rfl, by decide +kernel, by decide +kernel⟩
abbrev s__law_met : Stmt := topS 37
abbrev N__law_met : List Str := ["book", "begins", "task", "hour", "behind", "some", "other"]
theorem sc__law_met : FnScope N__law_met ["book", "begins", "task", "hour"] (defScope s__law_met) := ⟨rfl, rfl, rfl, by decide +kernel, rfl, by decide +kernel, by decide +kernel⟩
abbrev s__law_is_free : Stmt := topS 38
abbrev N__law_is_free : List Str := ["book", "begins", "task", "hour", "met", "own", "good", "many", "at", "some", "other"]
theorem sc__law_is_free : FnScope N__law_is_free ["book", "begins", "task", "hour"] (defScope s__law_is_free) := ⟨rfl, rfl, rfl, by decide +kernel, rfl, by decide +kernel, by decide +kernel⟩
abbrev s__law_first : Stmt := topS 39
abbrev N__law_first : List Str := ["book", "begins", "task", "some", "a", "b", "gap"]
theorem sc__law_first : FnScope N__law_first ["book", "begins", "task"] (defScope s__law_first) := ⟨rfl, rfl, rfl, by decide +kernel, rfl, by decide +kernel, by decide +kernel⟩
abbrev s__law_listed : Stmt := topS 40
abbrev N__law_listed : List Str := ["book", "row", "begins", "left", "held", "task", "first", "hours", "wait", "one", "other", "hour"]
theorem sc__law_listed : FnScope N__law_listed ["book", "row"] (defScope s__law_listed) := ⟨rfl, rfl, rfl, by decide +kernel, rfl, by decide +kernel, by decide +kernel⟩
abbrev s__law_bent : Stmt := topS 41
abbrev N__law_bent : List Str := ["m", "book", "plan", "way", "found", "turn", "at", "near", "some", "task"]
theorem sc__law_bent : FnScope N__law_bent ["m", "book", "plan"] (defScope s__law_bent) := ⟨rfl, rfl, rfl, by decide +kernel, rfl, by decide +kernel, by decide +kernel⟩
abbrev s__law_running : Stmt := topS 42
abbrev N__law_running : List Str := ["book", "plan", "hour", "task"]
theorem sc__law_running : FnScope N__law_running ["book", "plan", "hour"] (defScope s__law_running) := ⟨rfl, rfl, rfl, by decide +kernel, rfl, by decide +kernel, by decide +kernel⟩
abbrev s__law_crowded : Stmt := topS 43
abbrev N__law_crowded : List Str := ["book", "plan", "hour", "some", "found", "one", "task", "other"]
theorem sc__law_crowded : FnScope N__law_crowded ["book", "plan", "hour"] (defScope s__law_crowded) := ⟨rfl, rfl, rfl, by decide +kernel, rfl, by decide +kernel, by decide +kernel⟩
abbrev s__law_lacking : Stmt := topS 44
abbrev N__law_lacking : List Str := ["book", "plan", "hour", "used", "task", "good", "many", "k"]
theorem sc__law_lacking : FnScope N__law_lacking ["book", "plan", "hour"] (defScope s__law_lacking) := ⟨rfl, rfl, rfl, by decide +kernel, rfl, by decide +kernel, by decide +kernel⟩
abbrev s__law_faults : Stmt := topS 45
abbrev N__law_faults : List Str := ["book", "plan", "found", "k", "wait", "pairs", "goods", "hour", "row", "task", "begin", "pair"]
theorem sc__law_faults : FnScope N__law_faults ["book", "plan"] (defScope s__law_faults) := ⟨rfl, rfl, rfl, by decide +kernel, rfl, by decide +kernel, by decide +kernel⟩
abbrev s_law : Stmt := topS 46
abbrev N_law : List Str := ["script", "m", "k", "book", "waits", "plan", "turn", "bent", "due", "a", "b", "gap", "begin"]
theorem sc_law : FnScope N_law ["script"] (defScope s_law) := ⟨rfl, rfl, rfl, by decide +kernel, rfl, by decide +kernel, by decide +kernel⟩
/-- what the top has left -/
structure Tx (K : PySem.W.Frag) (mg : Str → Option Value) : Prop where
  c_GOODS : ∃ u, mg "GOODS" = some u ∧ RelV (.int 1) u
  c_TASKS : ∃ u, mg "TASKS" = some u ∧ RelV (.int 2) u
  c_WAITS : ∃ u, mg "WAITS" = some u ∧ RelV (.int 3) u
  c_FIXED : ∃ u, mg "FIXED" = some u ∧ RelV (.int 4) u
  c_LENGTH : ∃ u, mg "LENGTH" = some u ∧ RelV (.int 1) u
  c_MACHINE : ∃ u, mg "MACHINE" = some u ∧ RelV (.int 2) u
  c_NEEDS : ∃ u, mg "NEEDS" = some u ∧ RelV (.int 3) u
  c_FROM : ∃ u, mg "FROM" = some u ∧ RelV (.int 4) u
  c_LAST_BEGIN : ∃ u, mg "LAST_BEGIN" = some u ∧ RelV (.int 1000000000) u
  c_FAULTS : ∃ a g0 g1 g2 g3 g4, mg "FAULTS" = some (.ref a) ∧ (∀ H : Hp, SqT K H a [.ref g0, .ref g1, .ref g2, .ref g3, .ref g4]) ∧ mg "from_fault" = some (.ref g0) ∧ mg "fixed_fault" = some (.ref g1) ∧ mg "wait_fault" = some (.ref g2) ∧ mg "machine_fault" = some (.ref g3) ∧ mg "good_fault" = some (.ref g4)
  b_isinstance : mg "isinstance" = none
  b_int : mg "int" = none
  b_bool : mg "bool" = none
  b_dict : mg "dict" = none
  b_sum : mg "sum" = none
  b_all : mg "all" = none
  b_tuple : mg "tuple" = none
  b_len : mg "len" = none
  b_enumerate : mg "enumerate" = none
  b_min : mg "min" = none
  b_range : mg "range" = none
  b_sorted : mg "sorted" = none
  b_set : mg "set" = none
  b_list : mg "list" = none
  b_max : mg "max" = none
  d_is_whole : Dfn K mg "is_whole" s_is_whole ["thing"]
  d_is_among : Dfn K mg "is_among" s_is_among ["thing", "least", "most"]
  d_end_of : Dfn K mg "end_of" s_end_of ["book", "begins", "task"]
  d_uses_of_good : Dfn K mg "uses_of_good" s_uses_of_good ["book", "begins", "good"]
  d_used_at : Dfn K mg "used_at" s_used_at ["uses", "hour"]
  d_need_plan : Dfn K mg "need_plan" s_need_plan ["book", "thing"]
  d_from_fault : Dfn K mg "from_fault" s_from_fault ["book", "plan"]
  d_fixed_fault : Dfn K mg "fixed_fault" s_fixed_fault ["book", "plan"]
  d_wait_fault : Dfn K mg "wait_fault" s_wait_fault ["book", "plan"]
  d_machine_fault : Dfn K mg "machine_fault" s_machine_fault ["book", "plan"]
  d_good_fault : Dfn K mg "good_fault" s_good_fault ["book", "plan"]
  d_fault_of : Dfn K mg "fault_of" s_fault_of ["book", "plan"]
  d__law_started : Dfn K mg "_law_started" s__law_started ["script"]
  d__law_draw : Dfn K mg "_law_draw" s__law_draw ["m", "many"]
  d__law_of : Dfn K mg "_law_of" s__law_of ["m", "some"]
  d__law_names : Dfn K mg "_law_names" s__law_names ["m", "many"]
  d__law_order : Dfn K mg "_law_order" s__law_order ["m", "many"]
  d__law_task : Dfn K mg "_law_task" s__law_task ["m", "name", "machines", "goods", "long"]
  d__law_waits : Dfn K mg "_law_waits" s__law_waits ["m", "order", "most"]
  d__law_book : Dfn K mg "_law_book" s__law_book ["m", "most", "long", "held"]
  d__law_met : Dfn K mg "_law_met" s__law_met ["book", "begins", "task", "hour"]
  d__law_is_free : Dfn K mg "_law_is_free" s__law_is_free ["book", "begins", "task", "hour"]
  d__law_first : Dfn K mg "_law_first" s__law_first ["book", "begins", "task"]
  d__law_listed : Dfn K mg "_law_listed" s__law_listed ["book", "row"]
  d__law_bent : Dfn K mg "_law_bent" s__law_bent ["m", "book", "plan"]
  d__law_running : Dfn K mg "_law_running" s__law_running ["book", "plan", "hour"]
  d__law_crowded : Dfn K mg "_law_crowded" s__law_crowded ["book", "plan", "hour"]
  d__law_lacking : Dfn K mg "_law_lacking" s__law_lacking ["book", "plan", "hour"]
  d__law_faults : Dfn K mg "_law_faults" s__law_faults ["book", "plan"]
  d_law : Dfn K mg "law" s_law ["script"]

section
variable {P : Program} {w : World} {K : PySem.W.Frag} {mg : Str → Option Value} {base : Heap}
/-! ### the law's draws: a dict with the script, how many were drawn, and what is left of the cells -/
def kS : Key := .inr "script"
def kA : Key := .inr "at"
def kR : Key := .inr "rest"
def mD (a : Addr) (k : Int) (r : Addr) : List (Key × V) := [(kS, .ref a), (kA, .int k), (kR, .ref r)]
theorem mD_s {a r : Addr} {k : Int} : valV (mD a k r) kS = some (.ref a) := valV_pos rfl
theorem mD_a {a r : Addr} {k : Int} : valV (mD a k r) kA = some (.int k) := (valV_neg (show ¬ kS = kA by decide +kernel)).trans (valV_pos rfl)
theorem mD_r {a r : Addr} {k : Int} : valV (mD a k r) kR = some (.ref r) := (valV_neg (show ¬ kS = kR by decide +kernel)).trans ((valV_neg (show ¬ kA = kR by decide +kernel)).trans (valV_pos rfl))
theorem mD_put {a r : Addr} {k k' : Int} : putK (mD a k r) kA (.int k') = mD a k' r := by
  have h1 : ¬ kS = kA := by decide +kernel
  have h2 : ¬ kR = kA := by decide +kernel
  unfold putK mD
  simp [h1, h2]
theorem q_ixS {K : PySem.W.Frag} {H : Hp} {Q : VK} {p : Addr} {xs : List V} {i : Int} {v : V} (h : SqL K H p xs) (e : atI xs i = some v) (q : Q v H) : rIxL K (.ref p) (.int i) H Q := ⟨p, xs, i, v, rfl, rfl, h, e, q⟩
theorem mD_merge {a r : Addr} {k : Int} : mergeK [] (mD a k r) = mD a k r := by
  have h1 : ¬ kS = kA := by decide +kernel
  have h2 : ¬ kS = kR := by decide +kernel
  have h3 : ¬ kA = kR := by decide +kernel
  unfold mergeK mD
  simp [putK, h1, h2, h3]
theorem q_disp {trs : List (TE × TE)} {σ : L2.St} {H : Hp} {Q : VK} (q : ∀ p, H p = none → tPairs trs σ (upd H p (.dK [])) fun ps H2 => H2 p = some (.dK []) ∧ ∃ kvs : List (Key × V), ps = kvs.map (fun kv => (kV kv.1, kv.2)) ∧ kvs.length ≤ 15 ∧ Q (.ref p) (upd H2 p (.dK (mergeK [] kvs)))) : tDisp trs σ H Q := q
theorem q_pc {tk tv : TE} {r : List (TE × TE)} {σ : L2.St} {H : Hp} {P : List (V × V) → Hp → Prop} (q : tk σ H fun x H1 => tv σ H1 fun y H2 => tPairs r σ H2 fun ps H3 => P ((x, y) :: ps) H3) : tPairs ((tk, tv) :: r) σ H P := q
theorem q_pn {σ : L2.St} {H : Hp} {P : List (V × V) → Hp → Prop} (q : P [] H) : tPairs [] σ H P := q
theorem q_slS {K : PySem.W.Frag} {H : Hp} {Q : VK} {a : Addr} {xs : List V} {lo hi : Option Int} (h : SqL K H a xs) (q : ∀ p, H p = none → Q (.ref p) (upd H p (.lst (cutV xs lo hi)))) : rSlL K (.ref a) lo hi H Q := ⟨a, xs, rfl, h, q⟩
structure MAt (K : PySem.W.Frag) (H0 H : Hp) (m r a : Addr) (ns : List Int) (c : Int) : Prop where
  old : SqL K H0 a (ns.map V.int) ∧ Ex H0 H ∧ H0 m = none ∧ H0 r = none
  few : ns.length ≤ 63
  mr : m ≠ r
  at_ : ∃ k, 0 ≤ k ∧ k ≤ c ∧ H m = some (.dK (mD a k r))
  rest : ∃ rs : List Int, H r = some (.lst (rs.map V.int)) ∧ (rs = [] ∨ rs.length = ns.length)
def ButM (m r : Addr) (H H' : Hp) : Prop := ∀ b o, b ≠ m → b ≠ r → H b = some o → H' b = some o
theorem ButM.refl {m r : Addr} (H : Hp) : ButM m r H H := fun _ _ _ _ h => h
theorem ButM.trans {m r : Addr} {H H1 H2 : Hp} (x : ButM m r H H1) (y : ButM m r H1 H2) : ButM m r H H2 := fun b o n1 n2 h => y b o n1 n2 (x b o n1 n2 h)
theorem ButM.of {m r : Addr} {H H1 : Hp} (x : Ex H H1) : ButM m r H H1 := fun b o _ _ h => x b o h
theorem ButM.ex {m r : Addr} {H H1 H2 : Hp} (x : ButM m r H H1) (y : Ex H1 H2) : ButM m r H H2 := x.trans (.of y)
theorem ButM.mut {m r p : Addr} {H H1 : Hp} {o : HO} (x : ButM m r H H1) (h : H p = none) : ButM m r H (upd H1 p o) := fun b u n1 n2 e => by
  rw [upd_ne (ne_of_none e h)]
  exact x b u n1 n2 e
theorem MAt.ex {K : PySem.W.Frag} {H0 H H' : Hp} {m r a : Addr} {ns : List Int} {c : Int} (h : MAt K H0 H m r a ns c) (e : Ex H H') : MAt K H0 H' m r a ns c := by
  obtain ⟨⟨o1, o2, o3, o4⟩, f, mr, ⟨k, k0, k1, hk⟩, ⟨rs, hr, lr⟩⟩ := h
  exact ⟨⟨o1, o2.trans e, o3, o4⟩, f, mr, ⟨k, k0, k1, e _ _ hk⟩, ⟨rs, e _ _ hr, lr⟩⟩
theorem MAt.mono {K : PySem.W.Frag} {H0 H : Hp} {m r a : Addr} {ns : List Int} {c d : Int} (h : MAt K H0 H m r a ns c) (e : c ≤ d) : MAt K H0 H m r a ns d := by
  obtain ⟨o, f, mr, ⟨k, k0, k1, hk⟩, rs⟩ := h
  exact ⟨o, f, mr, ⟨k, k0, by omega, hk⟩, rs⟩
theorem MAt.nem {K : PySem.W.Frag} {H0 H : Hp} {m r a : Addr} {ns : List Int} {c : Int} (h : MAt K H0 H m r a ns c) {p : Addr} (n : H p = none) : p ≠ m ∧ p ≠ r := by
  obtain ⟨_, _, _, ⟨k, _, _, hk⟩, ⟨rs, hr, _⟩⟩ := h
  exact ⟨fun z => ne_of_none hk n z.symm, fun z => ne_of_none hr n z.symm⟩
theorem MAt.new {K : PySem.W.Frag} {H0 H : Hp} {m r a : Addr} {ns : List Int} {c : Int} (h : MAt K H0 H m r a ns c) {p : Addr} (n : H p = none) : H0 p = none := Evl.fresh_back h.old.2.1 n
theorem MAt.upd {K : PySem.W.Frag} {H0 H : Hp} {m r a : Addr} {ns : List Int} {c : Int} (h : MAt K H0 H m r a ns c) {p : Addr} {u : HO} (n1 : p ≠ m) (n2 : p ≠ r) (n3 : H0 p = none) : MAt K H0 (L2.upd H p u) m r a ns c := by
  obtain ⟨⟨o1, o2, o3, o4⟩, f, mr, ⟨k, k0, k1, hk⟩, ⟨rs, hr, lr⟩⟩ := h
  exact ⟨⟨o1, o2.mut n3, o3, o4⟩, f, mr, ⟨k, k0, k1, by rw [upd_ne n1.symm]; exact hk⟩, ⟨rs, by rw [upd_ne n2.symm]; exact hr, lr⟩⟩
theorem MAt.tp {K : PySem.W.Frag} {H0 H H' : Hp} {m r a : Addr} {ns : List Int} {c : Int} (h : MAt K H0 H m r a ns c) (b : ButM m r H H') : Tp H H' := by
  obtain ⟨_, _, _, ⟨k, _, _, hk⟩, ⟨rs, hr, _⟩⟩ := h
  refine Tp.of fun x u t hx => b x u (fun z => ?_) (fun z => ?_) hx
  · rw [z, hk] at hx
    cases hx
    cases t
  · rw [z, hr] at hx
    cases hx
    cases t
theorem ButM.back {K : PySem.W.Frag} {H0 H H' : Hp} {m r a : Addr} {ns : List Int} {c : Int} (b : ButM m r H H') (h : MAt K H0 H' m r a ns c) {p : Addr} (n : H' p = none) : H p = none := by
  cases e : H p with
  | none => rfl
  | some o =>
    obtain ⟨n1, n2⟩ := h.nem n
    have := b _ _ n1 n2 e
    rw [n] at this
    cases this
def spMDraw (K : PySem.W.Frag) : Sp := fun vs H Q _ => ∃ (H0 : Hp) (m r a : Addr) (ns : List Int) (c many : Int), vs = [.ref m, .int many] ∧ MAt K H0 H m r a ns c ∧ c ≤ 10 ^ 9 ∧ 1 ≤ many ∧ many ≤ 10 ^ 18 ∧ ∀ (n : Int) (H' : Hp), 0 ≤ n → n < many → ButM m r H H' → MAt K H0 H' m r a ns (c + 1) → Q (.int n) H'
theorem ok__law_draw (T : Tx K mg) : Cal P w K mg base 1 "_law_draw" ["m", "many"] (spMDraw K) := by
  refine T.d__law_draw.cal sc__law_draw (fun vs H Q E h => ?_) (fun f cdv A outer s H vs Q E hr h => ?_)
  · obtain ⟨_, _, _, _, _, _, _, rfl, _⟩ := h
    rfl
  · obtain ⟨H0, m, r, a, ns, c, many, rfl, hm, c9, m1, m18, q⟩ := h
    obtain ⟨⟨o1, o2, o3, o4⟩, few, mr, ⟨k, k0, k1, hk⟩, ⟨rs, hrr, lr⟩⟩ := hm
    have p9 : (10 : Int) ^ 9 = 1000000000 := by decide
    have p18 : (10 : Int) ^ 18 = 1000000000000000000 := by decide
    have lm : (ns.map V.int).length = ns.length := List.length_map _
    have lrm : (rs.map V.int).length = rs.length := List.length_map _
    have kk0 : 0 ≤ 69621 * k * k := Int.mul_nonneg (by omega) (by omega)
    have kk1 : 69621 * k * k ≤ 69621 * 1000000000 * 1000000000 := Int.mul_le_mul (by omega) (by omega) (by omega) (by omega)
    refine ⟨_, (pss_cons (ps_set (i := 2) sc__law_draw.nd rfl (.inl rfl) (pe_dget (u1 hr.units) (pv 0) pe_str (fun _ _ => rfl)))
    (pss_cons (ps_dput (u1 hr.units) (pv 0) pe_str (pe_op op_add (pv 2) pe_int) (by rfl))
    (pss_cons (ps_set (i := 3) sc__law_draw.nd rfl (.inl rfl) (pe_dget (u1 hr.units) (pv 0) pe_str (fun _ _ => rfl)))
    (pss_cons (ps_if (PW.pt (pw_and (pt_cmpR (neDK (K := K) hr.units) (pe_dget (u1 hr.units) (pv 0) pe_str (fun _ _ => rfl)) (pe_lst pa_nil) (nomark _)) (pw_and1 (pt_cmpR op_lt (pv 2) (pe_op op_mulX pe_int (pe_callB (lenK (K := K)) (by rfl) T.b_len (by decide +kernel) (pa_cons (pv 3) pa_nil))) (nomark _))))) (pss_cons (ps_set (i := 4) sc__law_draw.nd rfl (.inl rfl) (pe_ix (ixL (K := K)) (pe_dget (u1 hr.units) (pv 0) pe_str (fun _ _ => rfl)) (pe_op op_mod (pv 2) (pe_callB (lenK (K := K)) (by rfl) T.b_len (by decide +kernel) (pa_cons (pv 3) pa_nil))) (fun _ _ => rfl)))
    (pss_cons (ps_asg (pe_op op_fdivW (pv 4) (pv 1)) (pg_sub (pe_dget (u1 hr.units) (pv 0) pe_str (fun _ _ => rfl)) (pe_op op_mod (pv 2) (pe_callB (lenK (K := K)) (by rfl) T.b_len (by decide +kernel) (pa_cons (pv 3) pa_nil))) set_list))
    (pss_one (ps_ret (pe_op op_mod (pv 4) (pv 1)))))) pss_nil)
    (pss_cons (ps_set (i := 5) sc__law_draw.nd rfl (.inl rfl) (pe_ifExp (pt_cmpR (neDK (K := K) hr.units) (pv 3) (pe_lst pa_nil) (nomark _)) (pe_ix (ixL (K := K)) (pv 3) (pe_op op_mod (pv 2) (pe_callB (lenK (K := K)) (by rfl) T.b_len (by decide +kernel) (pa_cons (pv 3) pa_nil))) (fun _ _ => rfl)) pe_int))
    (pss_cons (ps_set (i := 6) sc__law_draw.nd rfl (.inl rfl) (pe_op op_mod (pe_op op_add (pe_op op_add (pe_op op_mulX (pe_op op_mod (pv 5) pe_int) pe_int) (pe_op op_mulX (pe_op op_mulX pe_int (pv 2)) (pv 2))) pe_int) pe_int))
    (pss_one (ps_ret (pe_op op_mod (pe_op op_fdivW (pe_op op_mod (pe_op op_mulX (pv 6) (pe_op op_add pe_int (pe_op op_mulX pe_int (pv 2)))) pe_int) pe_int) (pv 1)))))))))), q_start (τ := [some _, some _, none, none, none, none, none]) rfl ?_⟩
    walk_at "go"
    refine ⟨m, _, rfl, mD_a ▸ DGet.k (k := kA) hk, ?_⟩
    walk_at "go"
    refine ⟨m, _, rfl, DPut.k (k := kA) hk (by rw [sizeLine_eq]; show 3 < _; decide), ?_⟩
    rw [mD_put]
    have hm1 : L2.upd H m (.dK (mD a (k + 1) r)) m = some (.dK (mD a (k + 1) r)) := upd_same
    have hr1 : L2.upd H m (.dK (mD a (k + 1) r)) r = some (.lst (rs.map V.int)) := by rw [upd_ne mr.symm]; exact hrr
    have e1 : Ex H0 (L2.upd H m (.dK (mD a (k + 1) r))) := o2.mut o3
    have b1 : ButM m r H (L2.upd H m (.dK (mD a (k + 1) r))) := fun b o n1 _ h => by rw [upd_ne n1]; exact h
    generalize L2.upd H m (.dK (mD a (k + 1) r)) = H1 at hm1 hr1 e1 b1 ⊢
    have hS1 := Evl.ex_l e1 o1
    have getS : DGet H1 m (.str (Str.ofString "script")) (some (.ref a)) := mD_s ▸ DGet.k (k := kS) hm1
    have getR : DGet H1 m (.str (Str.ofString "rest")) (some (.ref r)) := mD_r ▸ DGet.k (k := kR) hm1
    have fin : ∀ (n : Int) (H' : Hp), 0 ≤ n → n < many → Ex H1 H' → Q (.int n) H' := fun n H' a0 a1 e => q n H' a0 a1 (b1.ex e) ⟨⟨o1, e1.trans e, o3, o4⟩, few, mr, ⟨k + 1, by omega, by omega, e _ _ hm1⟩, ⟨rs, e _ _ hr1, lr⟩⟩
    walk_at "go"
    refine ⟨m, _, rfl, getS, ?_⟩
    walk_at "go"
    refine ⟨m, _, rfl, getR, ?_⟩
    walk_at "go"
    rename_i z0 nz0
    have x2 := Ex.new (o := .lst []) nz0
    refine q_neD (.lst (SqL.of (x2 _ _ hr1)) dpa_ints) (.lst (SqL.of upd_same) .nil) shaped_ints rfl ?_
    rw [eqv_nil26]
    have hm2 := x2 _ _ hm1
    have hr2 := x2 _ _ hr1
    have hS2 := Evl.ex_l x2 hS1
    have fin2 : ∀ (n : Int) (H' : Hp), 0 ≤ n → n < many → Ex (L2.upd H1 z0 (.lst [])) H' → Q (.int n) H' := fun n H' a0 a1 e => fin n H' a0 a1 (x2.trans e)
    have b2 := b1.ex x2
    have e2 := e1.trans x2
    have getR2 : DGet (L2.upd H1 z0 (.lst [])) m (.str (Str.ofString "rest")) (some (.ref r)) := mD_r ▸ DGet.k (k := kR) hm2
    clear fin getS getR x2
    generalize L2.upd H1 z0 (.lst []) = H2 at hm2 hr2 hS2 fin2 b2 e2 getR2 ⊢
    by_cases re : rs = []
    · have er : (rs.map PyData.int).isEmpty = true := by rw [re]; rfl
      rw [er]
      refine ⟨_, rfl, ?_⟩
      walk_at "go"
      rename_i z1 nz1
      have x3 := Ex.new (o := .lst []) nz1
      refine q_neD (.lst (Evl.ex_l x3 hS2) dpa_ints) (.lst (SqL.of upd_same) .nil) shaped_ints rfl ?_
      rw [eqv_nil26]
      have hS3 := Evl.ex_l x3 hS2
      generalize L2.upd H2 z1 (.lst []) = H3 at x3 hS3 ⊢
      by_cases ne : ns = []
      · have ee : (ns.map PyData.int).isEmpty = true := by rw [ne]; rfl
        rw [ee]
        walk_at "go"
        exact fin2 _ H3 (Int.emod_nonneg _ (by omega)) (Int.emod_lt_of_pos _ (by omega)) x3
      · have ee : (ns.map PyData.int).isEmpty = false := by
          cases ns with
          | nil => exact absurd rfl ne
          | cons _ _ => rfl
        rw [ee]
        have pos : 0 < ns.length := List.length_pos_iff.mpr ne
        have i0 := Int.emod_nonneg k (show ((ns.map V.int).length : Int) ≠ 0 by omega)
        have i1 := Int.emod_lt_of_pos k (show (0 : Int) < ((ns.map V.int).length : Int) by omega)
        obtain ⟨cv, mcv, hcv⟩ := at_mem (xs := ns.map V.int) i0 i1
        obtain ⟨cell, _, rfl⟩ := List.mem_map.mp mcv
        walk_at "go"
        refine q_ixS hS3 hcv ?_
        walk_at "go"
        exact fin2 _ H3 (Int.emod_nonneg _ (by omega)) (Int.emod_lt_of_pos _ (by omega)) x3
    · have er : (rs.map PyData.int).isEmpty = false := by
        cases rs with
        | nil => exact absurd rfl re
        | cons _ _ => rfl
      rw [er]
      refine ⟨_, rfl, ?_⟩
      have lrs : rs.length = ns.length := lr.resolve_left re
      have rpos : 0 < rs.length := List.length_pos_iff.mpr re
      walk_at "go"
      by_cases c60 : k < 60 * ((ns.map V.int).length : Int)
      · rw [decide_eq_true c60, if_pos rfl]
        have i0 := Int.emod_nonneg k (show ((ns.map V.int).length : Int) ≠ 0 by omega)
        have i1 := Int.emod_lt_of_pos k (show (0 : Int) < ((ns.map V.int).length : Int) by omega)
        obtain ⟨j, hj⟩ : ∃ j : Nat, k % ((ns.map V.int).length : Int) = (j : Int) := ⟨_, (Int.toNat_of_nonneg i0).symm⟩
        have jl : j < rs.length := by omega
        have hat : atI (rs.map V.int) (k % ((ns.map V.int).length : Int)) = some (.int rs[j]) := by
          rw [hj]
          exact atI_nat (by rw [List.getElem?_map, List.getElem?_eq_getElem jl]; rfl)
        walk_at "go"
        refine ⟨m, _, rfl, getR2, ?_⟩
        walk_at "go"
        refine q_ixL hr2 hat ?_
        walk_at "go"
        refine ⟨m, _, rfl, getR2, ?_⟩
        walk_at "go"
        rw [hj]
        refine q_setL hr2 (j := j) (by
          unfold ixN
          rw [if_pos (by omega), if_pos (by omega)]
          rfl) ?_
        have mapset : (rs.map V.int).set j (V.int (rs[j] / many)) = (rs.set j (rs[j] / many)).map V.int := by rw [List.map_set]
        rw [mapset]
        walk_at "go"
        refine q _ _ (Int.emod_nonneg _ (by omega)) (Int.emod_lt_of_pos _ (by omega)) (fun b o n1 n2 h => by rw [upd_ne n2]; exact b2 b o n1 n2 h) ⟨⟨o1, e2.mut o4, o3, o4⟩, few, mr, ⟨k + 1, by omega, by omega, by rw [upd_ne mr]; exact hm2⟩, ⟨_, upd_same, .inr (by rw [List.length_set]; exact lrs)⟩⟩
      · rw [decide_eq_false c60, if_neg Bool.false_ne_true]
        walk_at "go"
        rename_i z1 nz1
        have x3 := Ex.new (o := .lst []) nz1
        refine q_neD (.lst (Evl.ex_l x3 hS2) dpa_ints) (.lst (SqL.of upd_same) .nil) shaped_ints rfl ?_
        rw [eqv_nil26]
        have hS3 := Evl.ex_l x3 hS2
        generalize L2.upd H2 z1 (.lst []) = H3 at x3 hS3 ⊢
        by_cases ne : ns = []
        · have ee : (ns.map PyData.int).isEmpty = true := by rw [ne]; rfl
          rw [ee]
          walk_at "go"
          exact fin2 _ H3 (Int.emod_nonneg _ (by omega)) (Int.emod_lt_of_pos _ (by omega)) x3
        · have ee : (ns.map PyData.int).isEmpty = false := by
            cases ns with
            | nil => exact absurd rfl ne
            | cons _ _ => rfl
          rw [ee]
          have pos : 0 < ns.length := List.length_pos_iff.mpr ne
          have i0 := Int.emod_nonneg k (show ((ns.map V.int).length : Int) ≠ 0 by omega)
          have i1 := Int.emod_lt_of_pos k (show (0 : Int) < ((ns.map V.int).length : Int) by omega)
          obtain ⟨cv, mcv, hcv⟩ := at_mem (xs := ns.map V.int) i0 i1
          obtain ⟨cell, _, rfl⟩ := List.mem_map.mp mcv
          walk_at "go"
          refine q_ixS hS3 hcv ?_
          walk_at "go"
          exact fin2 _ H3 (Int.emod_nonneg _ (by omega)) (Int.emod_lt_of_pos _ (by omega)) x3
/-! ### the draws begin -/
def spMStart (K : PySem.W.Frag) : Sp := fun vs H Q _ => ∃ (a : Addr) (ns : List Int), vs = [.ref a] ∧ SqL K H a (ns.map V.int) ∧ ns.length ≤ 63 ∧ ∀ (m r : Addr) (H' : Hp), Ex H H' → H m = none → H r = none → MAt K H H' m r a ns 0 → Q (.ref m) H'
theorem ok__law_started (T : Tx K mg) : Cal P w K mg base 1 "_law_started" ["script"] (spMStart K) := by
  refine T.d__law_started.cal sc__law_started (fun vs H Q E h => ?_) (fun f cdv A outer s H vs Q E hr h => ?_)
  · obtain ⟨_, _, rfl, _⟩ := h
    rfl
  · obtain ⟨a, ns, rfl, hS, hl, q⟩ := h
    have lm : (ns.map V.int).length = ns.length := List.length_map _
    refine ⟨_, (pss_cons (ps_set (i := 1) sc__law_started.nd rfl (.inl rfl) (pe_and (pe_cmpR (neDK (K := K) hr.units) (pv 0) (pe_lst pa_nil) (nomark _)) (pe_one (pe_cmpR op_eq (pe_op op_mod (pe_ix (ixL (K := K)) (pv 0) pe_int (fun _ _ => rfl)) pe_int) pe_int (nomark _)))))
    (pss_one (ps_ret (pe_disp (pps_cons pe_str (pv 0) (pps_cons pe_str pe_int (pps_cons pe_str (pe_ifExp (pt_val (pv 1)) (pe_op op_cat (pe_lc (own := [("cell", 2)]) rfl sc__law_started.nd (piLK (K := K) (pe_slice (slLK (K := K)) (pv 0) po_none (po_some pe_int))) (blkOk_by (own := [("cell", 2)]) (N := N__law_started) (sc := defScope s__law_started) (by decide +kernel)) (fun _ _ _ _ _ => (pg_name (i := 2) sc__law_started.nd rfl (.inl rfl))) (fun _ _ _ _ _ => pts_nil) (fun _ _ _ _ _ => (pe_op op_fdivW (pv 2) pe_int))) (pe_slice (slLK (K := K)) (pv 0) (po_some pe_int) po_none)) (pe_lst pa_nil)) pps_nil))) rfl rfl (by intro z; cases z) (by decide))))), q_start (τ := [some _, none, none]) rfl ?_⟩
    walk_at "go"
    rename_i z0 nz0
    have x1 := Ex.new (o := .lst []) nz0
    refine q_neD (.lst (Evl.ex_l x1 hS) dpa_ints) (.lst (SqL.of upd_same) .nil) shaped_ints rfl ?_
    rw [eqv_nil26]
    have hS1 := Evl.ex_l x1 hS
    generalize L2.upd H z0 (.lst []) = H1 at x1 hS1 ⊢
    have dn : ∀ (mp rp : Addr) (rs : List Int) (H2 : Hp), Ex H1 H2 → H1 mp = none → H1 rp = none → mp ≠ rp → H2 mp = some (.dK []) → H2 rp = some (.lst (rs.map V.int)) → (rs = [] ∨ rs.length = ns.length) → Q (.ref mp) (L2.upd H2 mp (.dK (mergeK [] (mD a 0 rp)))) := fun mp rp rs H2 e n1 n2 ne hmp hrp lr => by
      have nm0 := Evl.fresh_back x1 n1
      have nr0 := Evl.fresh_back x1 n2
      refine q mp rp _ ((x1.trans e).mut nm0) nm0 nr0 ⟨⟨hS, (x1.trans e).mut nm0, nm0, nr0⟩, hl, ne, ⟨0, Int.le_refl _, Int.le_refl _, by rw [upd_same, mD_merge]⟩, ⟨rs, by rw [upd_ne ne.symm]; exact hrp, lr⟩⟩
    have no : ∀ (σ : L2.St), σ = [some (.ref a), some (.bl false), none] → tDisp [(tC (V.str (Str.ofString "script")), tVar 0), (tC (V.str (Str.ofString "at")), tC (V.int 0)), (tC (V.str (Str.ofString "rest")), tIf (tB (tVar 1)) (tOp rCat (tLc (iList K (tSl (rSlL K) (tVar 0) tNoPart (tPart (tC (V.int 1))))) (gName 2) tYes (tOp (rI CDivW fun i j => V.int (i / j)) (tVar 2) (tC (V.int 2))) (List.map (fun x => x.snd) [(Str.ofString "cell", 2)])) (tSl (rSlL K) (tVar 0) (tPart (tC (V.int 1))) tNoPart)) (tLst tNil))] σ H1 Q := by
      rintro σ rfl
      refine q_disp fun mp nmp => ?_
      have y1 := Ex.new (o := .dK []) nmp
      have hmp : L2.upd H1 mp (.dK []) mp = some (.dK []) := upd_same
      generalize L2.upd H1 mp (.dK []) = H2 at y1 hmp ⊢
      refine q_pc ?_
      walk_at "go"
      refine q_pc ?_
      walk_at "go"
      refine q_pc ?_
      walk_at "go"
      rename_i rp nrp
      have y2 := Ex.new (o := .lst []) nrp
      refine q_pn ⟨y2 _ _ hmp, mD a 0 rp, rfl, (show 3 ≤ 15 by decide), ?_⟩
      exact dn mp rp [] _ (y1.trans y2) nmp (Evl.fresh_back y1 nrp) (ne_of_none hmp nrp) (y2 _ _ hmp) upd_same (.inl rfl)
    by_cases ne : ns = []
    · have ee : (ns.map PyData.int).isEmpty = true := by rw [ne]; rfl
      rw [ee]
      refine ⟨_, rfl, ?_⟩
      rw [if_neg (by decide)]
      walk_at "go"
      exact no _ rfl
    · have ee : (ns.map PyData.int).isEmpty = false := by
        cases ns with
        | nil => exact absurd rfl ne
        | cons _ _ => rfl
      rw [ee]
      refine ⟨_, rfl, ?_⟩
      rw [if_pos (by decide)]
      have pos : 0 < ns.length := List.length_pos_iff.mpr ne
      have hat0 : atI (ns.map V.int) 0 = some (.int (ns[0])) := atI_nat (j := 0) (by rw [List.getElem?_map, List.getElem?_eq_getElem pos]; rfl)
      walk_at "go"
      refine q_ixS hS1 hat0 ?_
      walk_at "go"
      by_cases c : ns[0] % 2 = 1
      · rw [decide_eq_true c]
        refine q_disp fun mp nmp => ?_
        have y1 := Ex.new (o := .dK []) nmp
        have hmp : L2.upd H1 mp (.dK []) mp = some (.dK []) := upd_same
        have hS2 := Evl.ex_l y1 hS1
        generalize L2.upd H1 mp (.dK []) = H2 at y1 hmp hS2 ⊢
        refine q_pc ?_
        walk_at "go"
        refine q_pc ?_
        walk_at "go"
        refine q_pc ?_
        walk_at "go"
        refine q_slS hS2 fun sp nsp => ?_
        rw [show (some (1 : Int)) = some ((1 : Nat) : Int) from rfl, cutV_lo (a := 1) (by omega)]
        have y2 := Ex.new (o := .lst ((ns.map V.int).take 1)) nsp
        have hsp : L2.upd H2 sp (.lst ((ns.map V.int).take 1)) sp = some (.lst ((ns.map V.int).take 1)) := upd_same
        have hmp3 := y2 _ _ hmp
        have hS3 := Evl.ex_l y2 hS2
        generalize L2.upd H2 sp (.lst ((ns.map V.int).take 1)) = H3 at y2 hsp hmp3 hS3 ⊢
        walk_at "go"
        intro D nD
        refine lcp_mapV (fun x => .int (toI x / 2)) nD hsp (by rw [List.length_take]; omega) (fun i x H4 hx e4 R' k => ?_) (fun H4 e4 hD => ?_)
        · obtain ⟨z, _, rfl⟩ := List.mem_map.mp (List.mem_of_mem_take (List.mem_of_getElem? hx))
          walk_at "go"
          exact k _ (Ex.refl _)
        · have ed : ((ns.map V.int).take 1).map (fun x => V.int (toI x / 2)) = ((ns.take 1).map (· / 2)).map V.int := by
            rw [← List.map_take, List.map_map, List.map_map]
            rfl
          rw [ed] at hD
          have hS4 := Evl.ex_l e4 hS3
          have hmp4 := e4 _ _ hmp3
          walk_at "go"
          refine q_slS hS4 fun tp ntp => ?_
          rw [cutV_one, ← List.map_drop]
          have y5 := Ex.new (o := .lst ((ns.drop 1).map V.int)) ntp
          have htp : L2.upd H4 tp (.lst ((ns.drop 1).map V.int)) tp = some (.lst ((ns.drop 1).map V.int)) := upd_same
          have hD5 := y5 _ _ hD
          have hmp5 := y5 _ _ hmp4
          generalize L2.upd H4 tp (.lst ((ns.drop 1).map V.int)) = H5 at y5 htp hD5 hmp5 ⊢
          refine q_catL hD5 htp (by rw [List.length_map, List.length_map, List.length_map, List.length_take, List.length_drop]; omega) fun rp nrp => ?_
          rw [← List.map_append]
          have y6 := Ex.new (o := .lst (((ns.take 1).map (· / 2) ++ ns.drop 1).map V.int)) nrp
          refine q_pn ⟨y6 _ _ hmp5, mD a 0 rp, rfl, (show 3 ≤ 15 by decide), ?_⟩
          have yy := y1.trans (y2.trans (e4.trans y5))
          exact dn mp rp _ _ (yy.trans y6) nmp (Evl.fresh_back yy nrp) (ne_of_none hmp5 nrp) (y6 _ _ hmp5) upd_same (.inr (by rw [List.length_append, List.length_map, List.length_take, List.length_drop]; omega))
      · rw [decide_eq_false c]
        exact no _ rfl
/-! ### one of some -/
def spMOf (K : PySem.W.Frag) : Sp := fun vs H Q _ => ∃ (H0 : Hp) (m r a l : Addr) (ns : List Int) (c : Int) (xs : List V), vs = [.ref m, .ref l] ∧ MAt K H0 H m r a ns c ∧ c ≤ 10 ^ 9 ∧ H l = some (.lst xs) ∧ l ≠ m ∧ l ≠ r ∧ 1 ≤ xs.length ∧ xs.length ≤ 1000 ∧ ∀ (x : V) (H' : Hp), x ∈ xs → ButM m r H H' → MAt K H0 H' m r a ns (c + 1) → Q x H'
theorem ok__law_of (T : Tx K mg) : Cal P w K mg base 2 "_law_of" ["m", "some"] (spMOf K) := by
  have G__law_draw : Cal P w K mg base 1 "_law_draw" ["m", "many"] (spMDraw K) := ok__law_draw T
  refine T.d__law_of.cal sc__law_of (fun vs H Q E h => ?_) (fun f cdv A outer s H vs Q E hr h => ?_)
  · obtain ⟨_, _, _, _, _, _, _, _, rfl, _⟩ := h
    rfl
  · obtain ⟨H0, m, r, a, l, ns, c, xs, rfl, hm, c9, hl, lm, lr, l1, l2, q⟩ := h
    have p18 : (10 : Int) ^ 18 = 1000000000000000000 := by decide
    refine ⟨_, (pss_one (ps_ret (pe_ix (ixL (K := K)) (pv 1) (pe_cal G__law_draw hr (by rfl) (pa_cons (pv 0) (pa_cons (pe_callB (lenK (K := K)) (by rfl) T.b_len (by decide +kernel) (pa_cons (pv 1) pa_nil)) pa_nil))) (fun _ _ => rfl)))), q_start (τ := [some _, some _]) rfl ?_⟩
    walk_at "go"
    refine ⟨H0, m, r, a, ns, c, _, rfl, hm, c9, by omega, by omega, fun n H' n0 n1 b hm' => ?_⟩
    have hl' := b _ _ lm lr hl
    obtain ⟨x, mx, hx⟩ := at_mem n0 n1
    walk_at "go"
    refine q_ixL hl' hx ?_
    exact q x H' mx b hm'

end
end Bk24


namespace Bk24
open PySem PySem.Spec PyProof.Rows L2 Bs
open Evl (Ex)
section
variable {P : Program} {w : World} {K : PySem.W.Frag} {mg : Str → Option Value} {base : Heap}
/-! ### drawn names -/
def L26 : Str := Str.ofString "abcdefghijklmnopqrstuvwxyz"
def lt26 (i : Nat) : Nat := L26.cps.toList.getD i 0
theorem lt26_at {i : Nat} (h : i < 26) : L26.cps.toList[i]? = some (lt26 i) := by
  have l : L26.cps.toList.length = 26 := by decide +kernel
  unfold lt26
  rw [List.getD_eq_getElem?_getD, List.getElem?_eq_getElem (by omega)]
  rfl
theorem lt26_inj : ∀ i j : Fin 26, lt26 i.val = lt26 j.val → i = j := by decide +kernel
def sg26 (f : Int) (k : Nat) : Str := (⟨#[lt26 ((f + 7 * (k : Int)) % 26).toNat]⟩ : Str) ++ cutS (Str.ofString "xy") none (some ((k : Int) / 26))
def nm26 (A B : Str) (f : Int) (n : Nat) : List Str := ((List.range n).map (sg26 f)).map fun s => A ++ s ++ B
theorem app_toList (a b : Str) : (a ++ b).cps.toList = a.cps.toList ++ b.cps.toList := by
  show (a.cps ++ b.cps).toList = _
  rw [Array.toList_append]
theorem nm26_nd {A B : Str} {f : Int} {n : Nat} (f0 : 0 ≤ f) (h : n ≤ 26) : (nm26 A B f n).Nodup := by
  unfold nm26
  rw [List.map_map]
  rw [List.nodup_iff_pairwise_ne, List.pairwise_map]
  refine (List.Pairwise.and_mem.mp (List.nodup_iff_pairwise_ne.mp List.nodup_range)).imp fun {i j} g e => ?_
  have hi := List.mem_range.mp g.1
  have hj := List.mem_range.mp g.2.1
  have ne := g.2.2
  have e' : (A ++ sg26 f i ++ B).cps.toList = (A ++ sg26 f j ++ B).cps.toList := congrArg (fun s : Str => s.cps.toList) e
  unfold sg26 at e'
  simp only [app_toList, List.append_assoc] at e'
  have e2 := List.append_cancel_left e'
  have hd : lt26 ((f + 7 * (i : Int)) % 26).toNat = lt26 ((f + 7 * (j : Int)) % 26).toNat := by
    have := congrArg List.head? e2
    exact Option.some.inj this
  have := lt26_inj ⟨((f + 7 * (i : Int)) % 26).toNat, by omega⟩ ⟨((f + 7 * (j : Int)) % 26).toNat, by omega⟩ hd
  have := congrArg Fin.val this
  dsimp only at this
  omega
theorem join_len : ∀ ys : List Str, (∀ y ∈ ys, y.length = 1) → (Str.join (Str.ofString "") ys).length = ys.length
  | [], _ => rfl
  | [x], h => h x List.mem_cons_self
  | x :: z :: r, h => by
    have ih := join_len (z :: r) fun y m => h y (List.mem_cons_of_mem _ m)
    have hx := h x List.mem_cons_self
    show (x ++ (Str.ofString "") ++ Str.join (Str.ofString "") (z :: r)).length = _
    have la : ∀ a b : Str, (a ++ b).length = a.length + b.length := fun a b => by
      show (a.cps ++ b.cps).size = a.cps.size + b.cps.size
      rw [Array.size_append]
    have l0 : (Str.ofString "").length = 0 := by decide +kernel
    rw [la, la, ih, hx, l0]
    simp only [List.length_cons]
    omega
theorem q_m1 {r : V → List V → Hp → VK → Prop} {to te : TE} {σ : L2.St} {H : Hp} {Q : VK} (q : to σ H fun x H1 => (∃ a, x = .str a) ∧ te σ H1 fun y H2 => r x [y] H2 Q) : tM1 r to te σ H Q := q
def spMNames (K : PySem.W.Frag) : Sp := fun vs H Q _ => ∃ (H0 : Hp) (m r a : Addr) (ns : List Int) (c : Int) (many : Nat), vs = [.ref m, .int many] ∧ MAt K H0 H m r a ns c ∧ c ≤ 10 ^ 8 ∧ many ≤ 30 ∧
  ∀ (p : Addr) (zs : List Str) (H' : Hp), zs.length = many → (many ≤ 26 → zs.Nodup) → (∀ z ∈ zs, z.length ≤ 20) → ButM m r H H' → MAt K H0 H' m r a ns (c + 20) → H p = none → H' p = some (.lst (zs.map V.str)) → Q (.ref p) H'
theorem ok__law_names (T : Tx K mg) : Cal P w K mg base 2 "_law_names" ["m", "many"] (spMNames K) := by
  have G__law_draw : Cal P w K mg base 1 "_law_draw" ["m", "many"] (spMDraw K) := ok__law_draw T
  refine T.d__law_names.cal sc__law_names (fun vs H Q E h => ?_) (fun f cdv A outer s H vs Q E hr h => ?_)
  · obtain ⟨_, _, _, _, _, _, _, rfl, _⟩ := h
    rfl
  · obtain ⟨H0, m, r, a, ns, c, many, rfl, hm, c8, l30, q⟩ := h
    have p8 : (10 : Int) ^ 8 = 100000000 := by decide
    have p9 : (10 : Int) ^ 9 = 1000000000 := by decide
    have p18 : (10 : Int) ^ 18 = 1000000000000000000 := by decide
    have lL : L26.length = 26 := by decide +kernel
    have la : ∀ a b : Str, (a ++ b).length = a.length + b.length := fun a b => by
      show (a.cps ++ b.cps).size = a.cps.size + b.cps.size
      rw [Array.size_append]
    refine ⟨_, (pss_cons (ps_set (i := 2) sc__law_names.nd rfl (.inr rfl) pe_str)
    (pss_cons (ps_set (i := 3) sc__law_names.nd rfl (.inr rfl) (pe_cal G__law_draw hr (by rfl) (pa_cons (pv 0) (pa_cons pe_int pa_nil))))
    (pss_cons (ps_set (i := 4) sc__law_names.nd rfl (.inr rfl) (pe_join pe_str (pe_lc (own := [("k", 7)]) rfl sc__law_names.nd (pi_range1 (by rfl) T.b_range (pa_cons (pe_cal G__law_draw hr (by rfl) (pa_cons (pv 0) (pa_cons pe_int pa_nil))) pa_nil)) (blkOk_by (own := [("k", 7)]) (N := N__law_names) (sc := defScope s__law_names) (by decide +kernel)) (fun _ _ _ _ _ => (pg_name (i := 7) sc__law_names.nd rfl (.inl rfl))) (fun _ _ _ _ _ => pts_nil) (fun _ _ _ _ _ => (pe_ix ix_str (pv 2) (pe_op op_mod (pe_op op_add (pv 3) (pe_op op_mulX pe_int (pv 7))) pe_int) (fun _ _ => rfl))))))
    (pss_cons (ps_set (i := 5) sc__law_names.nd rfl (.inr rfl) (pe_cal G__law_draw hr (by rfl) (pa_cons (pv 0) (pa_cons (pe_op op_add (pe_callB call_len_str (by rfl) T.b_len (by decide +kernel) (pa_cons (pv 4) pa_nil)) pe_int) pa_nil))))
    (pss_cons (ps_setLc (i := 6) (own := [("k", 7)]) rfl sc__law_names.nd rfl rfl (sw_true rfl rfl rfl (by decide +kernel)) (pi_range1 (by rfl) T.b_range (pa_cons (pv 1) pa_nil)) (blkOk_by (own := [("k", 7)]) (N := N__law_names) (sc := defScope s__law_names) (by decide +kernel)) (fun _ _ _ _ _ => (pg_name (i := 7) sc__law_names.nd rfl (.inl rfl))) (fun _ _ _ _ _ => pts_nil) (fun _ _ _ _ _ => (pe_op op_add_str (pe_ix ix_str (pv 2) (pe_op op_mod (pe_op op_add (pv 3) (pe_op op_mulX pe_int (pv 7))) pe_int) (fun _ _ => rfl)) (pe_slice sl_str pe_str po_none (po_some (pe_op op_fdivW (pv 7) pe_int))))))
    (pss_one (ps_ret (pe_lc (own := [("sign", 8)]) rfl sc__law_names.nd (piLK (K := K) (pv 6)) (blkOk_by (own := [("sign", 8)]) (N := N__law_names) (sc := defScope s__law_names) (by decide +kernel)) (fun _ _ _ _ _ => (pg_name (i := 8) sc__law_names.nd rfl (.inl rfl))) (fun _ _ _ _ _ => pts_nil) (fun _ _ _ _ _ => (pe_op op_add_str (pe_op op_add_str (pe_slice sl_str (pv 4) po_none (po_some (pv 5))) (pv 8)) (pe_slice sl_str (pv 4) (po_some (pv 5)) po_none))))))))))), q_start (τ := [some _, some _, none, none, none, none, none, none, none]) rfl ?_⟩
    walk_at "go"
    refine ⟨H0, m, r, a, ns, c, 26, rfl, hm, by omega, by decide, by omega, fun fi H1 f0 f1 b1 hm1 => ?_⟩
    walk_at "go"
    refine q_m1 ?_
    walk_at "go"
    refine ⟨⟨_, rfl⟩, ?_⟩
    walk_at "go"
    refine ⟨H0, m, r, a, ns, c + 1, 7, rfl, hm1, by omega, by decide, by omega, fun n7 H2 a0 a1 b2 hm2 => ?_⟩
    obtain ⟨tn, rfl⟩ : ∃ tn : Nat, n7 = (tn : Int) := ⟨_, (Int.toNat_of_nonneg a0).symm⟩
    walk_at "go"
    intro D nD
    rw [Int.toNat_natCast]
    refine lcp_range (fun i H' => Ex H2 H' ∧ ∃ ys : List Str, H' D = some (.lst (ys.map V.str)) ∧ ys.length = i ∧ ∀ y ∈ ys, y.length = 1) ⟨Ex.new nD, [], upd_same, rfl, fun _ h => nomatch h⟩ ?_ ?_
    · rintro i H3 hi ⟨e3, ys, hD3, ly, l1⟩
      have lf : (ys.map V.str).length < 16000000 := by
        rw [List.length_map]
        omega
      obtain ⟨j, hj, j26⟩ : ∃ j : Nat, (fi + 5 * (i : Int)) % 26 = (j : Int) ∧ j < 26 := ⟨((fi + 5 * (i : Int)) % 26).toNat, by omega, by omega⟩
      walk_at "go"
      rw [hj]
      refine ⟨L26, (j : Int), lt26 j, rfl, rfl, by rw [sizeLine_eq, lL]; decide, atI_nat (lt26_at j26), ?_⟩
      walk_at "go"
      refine ⟨e3.mut nD, ys ++ [_], by rw [upd_same, List.map_append]; rfl, by rw [List.length_append, ly]; rfl, fun y my => ?_⟩
      rcases List.mem_append.mp my with h | h
      · exact l1 y h
      · rw [List.mem_singleton.mp h]
        rfl
    · rintro H3 ⟨e3, ys, hD3, ly, l1⟩
      have sum1 : (ys.map (·.length)).sum = ys.length := by
        have : ∀ zs : List Str, (∀ y ∈ zs, y.length = 1) → (zs.map (·.length)).sum = zs.length := by
          intro zs
          induction zs with
          | nil => intro _; rfl
          | cons x r ih =>
            intro h
            rw [List.map_cons, List.sum_cons, h x List.mem_cons_self, ih fun y m => h y (List.mem_cons_of_mem _ m), List.length_cons]
            omega
        exact this ys l1
      walk_at "go"
      refine ⟨_, D, ys, rfl, rfl, .inl (SqL.of hD3), by rw [sum1]; show ys.length + ys.length * 0 ≤ _; omega, ?_⟩
      rw [TL.join_eq]
      have ltail := join_len ys l1
      obtain ⟨tail, htail⟩ : ∃ t, Str.join (Str.ofString "") ys = t := ⟨_, rfl⟩
      rw [htail] at ltail ⊢
      have hm3 := hm2.ex e3
      walk_at "go"
      refine ⟨tail, rfl, by rw [sizeLine_eq]; omega, ?_⟩
      walk_at "go"
      refine ⟨H0, m, r, a, ns, c + 1 + 1, _, rfl, hm3, by omega, by omega, by omega, fun sp H4 s0 s1 b4 hm4 => ?_⟩
      have B4 : ButM m r H H4 := b1.trans (b2.trans ((ButM.of e3).trans b4))
      walk_at "go"
      intro D2 nD2
      rw [Int.toNat_natCast]
      have cl : ∀ (z : Str) (lo hi : Option Int), (cutS z lo hi).length ≤ z.length := cutS_length
      have lxy : (Str.ofString "xy").length = 2 := by decide +kernel
      have lsg : ∀ k : Nat, (sg26 fi k).length ≤ 3 := fun k => by
        unfold sg26
        rw [la]
        have := cl (Str.ofString "xy") none (some ((k : Int) / 26))
        show 1 + _ ≤ 3
        omega
      refine lcp_range (fun i H' => Ex H4 H' ∧ H' D2 = some (.lst (((List.range i).map (sg26 fi)).map V.str))) ⟨Ex.new nD2, upd_same⟩ ?_ ?_
      · rintro i H5 hi ⟨e5, hD5⟩
        have lf : (((List.range i).map (sg26 fi)).map V.str).length < 16000000 := by
          rw [List.length_map, List.length_map, List.length_range]
          omega
        walk_at "go"
        refine ⟨L26, (fi + 7 * (i : Int)) % 26, lt26 ((fi + 7 * (i : Int)) % 26).toNat, rfl, rfl, by rw [sizeLine_eq, lL]; decide, ?_, ?_⟩
        · obtain ⟨j, hj, j26⟩ : ∃ j : Nat, (fi + 7 * (i : Int)) % 26 = (j : Int) ∧ j < 26 := ⟨((fi + 7 * (i : Int)) % 26).toNat, by omega, by omega⟩
          rw [hj, Int.toNat_natCast]
          exact atI_nat (lt26_at j26)
        walk_at "go"
        refine ⟨_, rfl, by rw [sizeLine_eq, lxy]; decide, ?_⟩
        refine ⟨_, _, rfl, rfl, by
          have := cl (Str.ofString "xy") none (some ((i : Int) / 26))
          rw [sizeLine_eq]
          show 1 + _ ≤ _
          omega, ?_⟩
        walk_at "go"
        refine ⟨e5.mut nD2, ?_⟩
        rw [upd_same, List.range_succ, List.map_append, List.map_append]
        rfl
      · rintro H5 ⟨e5, hD5⟩
        walk_at "go"
        intro D3 nD3
        refine lcp_list (xs := ((List.range many).map (sg26 fi)).map V.str) (fun i H' => Ex H5 H' ∧ H' D3 = some (.lst ((((List.range many).map (sg26 fi)).take i).map (fun s => cutS tail none (some sp) ++ s ++ cutS tail (some sp) none) |>.map V.str))) ⟨Ex.new nD3, upd_same⟩ (fun i H' _ h => h.1 _ _ hD5) ?_ ?_
        · rintro i x H6 hx ⟨e6, hD6⟩
          rw [List.getElem?_map] at hx
          obtain ⟨sg, hsg, rfl⟩ := Option.map_eq_some_iff.mp hx
          have lsg' : sg.length ≤ 3 := by
            obtain ⟨k, _, rfl⟩ := List.mem_map.mp (List.mem_of_getElem? hsg)
            exact lsg k
          have hi := (List.getElem?_eq_some_iff.mp hsg).1
          rw [List.length_map, List.length_range] at hi
          have lf : ((((List.range many).map (sg26 fi)).take i).map (fun s => cutS tail none (some sp) ++ s ++ cutS tail (some sp) none) |>.map V.str).length < 16000000 := by
            rw [List.length_map, List.length_map, List.length_take, List.length_map, List.length_range]
            omega
          have c1 := cl tail none (some sp)
          have c2 := cl tail (some sp) none
          walk_at "go"
          refine ⟨_, rfl, by rw [sizeLine_eq]; omega, ?_⟩
          walk_at "go"
          refine ⟨_, _, rfl, rfl, by rw [sizeLine_eq]; omega, ?_⟩
          walk_at "go"
          refine ⟨_, rfl, by rw [sizeLine_eq]; omega, ?_⟩
          refine ⟨_, _, rfl, rfl, by rw [sizeLine_eq, la]; omega, ?_⟩
          walk_at "go"
          refine ⟨e6.mut nD3, ?_⟩
          rw [upd_same, take_snoc hsg, List.map_append, List.map_append]
          rfl
        · rintro H6 ⟨e6, hD6⟩
          rw [List.length_map, List.take_length] at hD6
          have hm6 := hm4.ex (e5.trans e6)
          have e56 := e5.trans e6
          have nD30 : H D3 = none := by
            cases h : H D3 with
            | none => rfl
            | some o =>
              obtain ⟨n1, n2⟩ := (hm4.ex e5).nem nD3
              have := (B4.ex e5) _ _ n1 n2 h
              rw [nD3] at this
              cases this
          refine q D3 (nm26 (cutS tail none (some sp)) (cutS tail (some sp) none) fi many) H6 ?_ (fun h => nm26_nd f0 h) (fun z mz => ?_) (B4.ex e56) (hm6.mono (by omega)) nD30 hD6
          · unfold nm26
            rw [List.length_map, List.length_map, List.length_range]
          · unfold nm26 at mz
            obtain ⟨sg, msg, rfl⟩ := List.mem_map.mp mz
            obtain ⟨k, _, rfl⟩ := List.mem_map.mp msg
            have c1 := cl tail none (some sp)
            have c2 := cl tail (some sp) none
            have := lsg k
            rw [la, la]
            omega

end
end Bk24


namespace Bk24
open PySem PySem.Spec PyProof.Rows L2 Bs
open Evl (Ex)
section
variable {P : Program} {w : World} {K : PySem.W.Frag} {mg : Str → Option Value} {base : Heap}
/-! ### drawn orders -/
def spMOrder (K : PySem.W.Frag) : Sp := fun vs H Q _ => ∃ (H0 : Hp) (m r a : Addr) (ns : List Int) (c : Int) (n : Nat), vs = [.ref m, .int n] ∧ MAt K H0 H m r a ns c ∧ c ≤ 10 ^ 8 ∧ n ≤ 30 ∧
  ∀ (p : Addr) (os : List Int) (H' : Hp), IsOrder os n → ButM m r H H' → MAt K H0 H' m r a ns (c + 30) → H p = none → H' p = some (.lst (os.map V.int)) → Q (.ref p) H'
theorem ok__law_order (T : Tx K mg) : Cal P w K mg base 2 "_law_order" ["m", "many"] (spMOrder K) := by
  have G__law_draw : Cal P w K mg base 1 "_law_draw" ["m", "many"] (spMDraw K) := ok__law_draw T
  refine T.d__law_order.cal sc__law_order (fun vs H Q E h => ?_) (fun f cdv A outer s H vs Q E hr h => ?_)
  · obtain ⟨_, _, _, _, _, _, _, rfl, _⟩ := h
    rfl
  · obtain ⟨H0, m, r, a, ns, c, n, rfl, hm, c8, n30, q⟩ := h
    have p8 : (10 : Int) ^ 8 = 100000000 := by decide
    have p9 : (10 : Int) ^ 9 = 1000000000 := by decide
    have p18 : (10 : Int) ^ 18 = 1000000000000000000 := by decide
    refine ⟨_, (pss_cons (ps_set (i := 2) sc__law_order.nd rfl (.inl rfl) (pe_callTy (au_listRng rfl) (by rfl) T.b_list (by decide +kernel) (pa_cons (pe_callTy au_range1 (by rfl) T.b_range (by decide +kernel) (pa_cons (pv 1) pa_nil)) pa_nil)))
    (pss_cons (ps_set (i := 3) sc__law_order.nd rfl (.inl rfl) (pe_lst pa_nil))
    (pss_cons (ps_while PassesOwn.never (pt_cmpR (neDK (K := K) hr.units) (pv 2) (pe_lst pa_nil) (nomark _)) (pss_one (ps_expr (pe_bm PySem.F.plainAttrs_list PySem.F.slot_list_append PySem.F.type_list_append mt_append (pv 3) (pa_cons (pe_bm PySem.F.plainAttrs_list PySem.F.slot_list_pop PySem.F.type_list_pop mt_popAt (pv 2) (pa_cons (pe_cal G__law_draw hr (by rfl) (pa_cons (pv 0) (pa_cons (pe_callB (lenK (K := K)) (by rfl) T.b_len (by decide +kernel) (pa_cons (pv 2) pa_nil)) pa_nil))) pa_nil)) pa_nil)))))
    (pss_one (ps_ret (pv 3)))))), q_start (τ := [some _, some _, none, none]) rfl ?_⟩
    walk_at "go"
    rename_i rr nr lf nlf D nD
    have e1 := ex_new (o := .rng 0 n) (Ex.refl H) nr
    have e2 := ex_new (o := .lst ((Bs.upTo n).map V.int)) e1 nlf
    have e3 := ex_new (o := .lst []) e2 nD
    have hlf := fresh_at (u := .lst []) nD (upd_same (H := L2.upd H rr (.rng 0 n)) (a := lf) (o := .lst ((Bs.upTo n).map V.int)))
    have hD := upd_same (H := L2.upd (L2.upd H rr (.rng 0 n)) lf (.lst ((Bs.upTo n).map V.int))) (a := D) (o := .lst [])
    have nlf0 := Evl.fresh_back e1 nlf
    have nD0 := Evl.fresh_back e2 nD
    have hm3 := hm.ex e3
    have lD : lf ≠ D := ne_fresh nD (upd_same (H := L2.upd H rr (.rng 0 n)) (a := lf) (o := .lst ((Bs.upTo n).map V.int)))
    have dlf := hm.nem nlf0
    have dD := hm.nem nD0
    have olf := hm.new nlf0
    have oD := hm.new nD0
    generalize L2.upd (L2.upd (L2.upd H rr (.rng 0 n)) lf (.lst ((Bs.upTo n).map V.int))) D (.lst []) = H3 at e3 hlf hD hm3 ⊢
    refine q_while (fun σ H' => ∃ (l os : List Int) (c' : Int), σ = [some (.ref m), some (.int n), some (.ref lf), some (.ref D)] ∧ H' lf = some (.lst (l.map V.int)) ∧ H' D = some (.lst (os.map V.int)) ∧ IsOrder (os ++ l) n ∧ ButM m r H H' ∧ MAt K H0 H' m r a ns c' ∧ c' ≤ c + os.length)
      (fun σ H' => match H' lf with | some (.lst xs) => xs.length | _ => 0) ⟨Bs.upTo n, [], c, rfl, hlf, hD, List.Perm.refl _, ButM.of e3, hm3, by simp⟩ ?_ ?_
    · rintro σ H4 ⟨l, os, c4, rfl, hl, ho, is, b4, hm4, c44⟩
      have len : os.length + l.length = n := by
        have := is.len
        rw [List.length_append] at this
        exact this
      walk_at "go"
      rename_i e0 ne0
      have hl5 := fresh_at (u := .lst []) ne0 hl
      refine q_neD (.lst (SqL.of hl5) dpa_ints) (.lst (SqL.of upd_same) .nil) shaped_ints rfl ?_
      rw [eqv_nil]
      have e5 := ex_new (o := .lst []) (Ex.refl H4) ne0
      have b5 := b4.ex e5
      have ho5 := fresh_at (u := .lst []) ne0 ho
      have hm5 := hm4.ex e5
      generalize L2.upd H4 e0 (.lst []) = H5 at hl5 e5 b5 ho5 hm5 ⊢
      refine q_ex ?_
      cases hle : l with
      | nil =>
        subst hle
        rw [show (List.map PyData.int ([] : List Int)).isEmpty = true from rfl]
        walk_at "go"
        rw [List.append_nil] at is
        have := is.len
        exact q D os H5 is b5 (hm5.mono (by omega)) nD0 ho5
      | cons z zs =>
        rw [← hle]
        have lpos : 0 < l.length := by rw [hle]; exact Nat.succ_pos _
        have ll : (l.map V.int).length = l.length := List.length_map _
        rw [show (l.map PyData.int).isEmpty = false by rw [hle]; rfl]
        walk_at "go"
        refine ⟨H0, m, r, a, ns, c4, _, rfl, hm5, by omega, by omega, by omega, fun kk H6 k0 k1 b6 hm6 => ?_⟩
        obtain ⟨k, rfl⟩ : ∃ k : Nat, kk = (k : Int) := ⟨_, (Int.toNat_of_nonneg k0).symm⟩
        have hk : k < l.length := by omega
        have hl6 := b6 _ _ dlf.1 dlf.2 hl5
        have ho6 := b6 _ _ dD.1 dD.2 ho5
        obtain ⟨x, hx⟩ : ∃ x, l[k]? = some x := ⟨_, List.getElem?_eq_getElem hk⟩
        walk_at "go"
        refine q_popAt hl6 (by rw [List.getElem?_map, hx]; rfl) (by omega) ?_
        have ho7 : L2.upd H6 lf (.lst ((l.map V.int).eraseIdx k)) D = some (.lst (os.map V.int)) := upd_at lD.symm ho6
        walk_at "go"
        have eer : (l.map V.int).eraseIdx k = (l.eraseIdx k).map V.int := erase_map _ _ _
        refine ⟨⟨l.eraseIdx k, os ++ [x], c4 + 1, rfl, ?_, ?_, IsOrder.pop is hx, ((b5.trans b6).mut nlf0).mut nD0, (hm6.upd dlf.1 dlf.2 olf).upd dD.1 dD.2 oD, ?_⟩, ?_⟩
        · rw [upd_ne lD, upd_same, eer]
        · rw [upd_same, List.map_append]
          rfl
        · rw [List.length_append]
          show _ ≤ _ + ((os.length + 1 : Nat) : Int)
          omega
        · rw [upd_ne lD, upd_same, hl]
          show ((l.map V.int).eraseIdx k).length < (l.map V.int).length
          rw [List.length_eraseIdx, if_pos (by omega)]
          omega
    · rintro σ H Q Q' m h
      obtain ⟨v, e, l1, h⟩ := h
      refine ⟨v, e, l1, fun p np => ?_⟩
      obtain ⟨d1, d2, x1, x2, x3, x4, k, x5, h⟩ := h p np
      exact ⟨d1, d2, x1, x2, x3, x4, k, x5, m _ _ h⟩

end
end Bk24


namespace Bk24
open PySem PySem.Spec PyProof.Rows L2 Bs
open Evl (Ex)
section
variable {P : Program} {w : World} {K : PySem.W.Frag} {mg : Str → Option Value} {base : Heap}
/-! ### tasks whose needs are known by their object -/
theorem good_at {H : Hp} {x : V} {g : Str × Int} (h : TD H x (goodD g)) : ∃ p, x = .ref p ∧ H p = some (.tup [.str g.1, .int g.2]) := by
  cases h with
  | tup h hs =>
    cases hs with
    | cons h1 hs =>
      cases h1
      cases hs with
      | cons h2 hs =>
        cases h2
        cases hs
        exact ⟨_, rfl, h⟩
def taskFD (t : Tk) : PyData := .tuple [.str t.name, .int t.len, .str t.mach, .dict [(.tuple (t.needs.map goodD), .none)], .int t.frm, dueD t.due, .int t.wt]
theorem taskF_parts {H : Hp} {v : V} {t : Tk} (h : TD H v (taskFD t)) : ∃ p q o xs, v = .ref p ∧ H p = some (.tup [.str t.name, .int t.len, .str t.mach, .ref q, .int t.frm, dueV t.due, .int t.wt]) ∧ o.dict = none ∧ H q = some (.frz o (.tup xs)) ∧ RowsAt goodD H xs t.needs := by
  cases h with
  | tup h hs =>
    obtain ⟨nm, len, mc, needs, f, due, wt⟩ := t
    cases hs with
    | cons h1 hs =>
    cases h1
    cases hs with
    | cons h2 hs =>
    cases h2
    cases hs with
    | cons h3 hs =>
    cases h3
    cases hs with
    | cons h4 hs =>
    cases h4 with
    | frz od hq rn =>
    cases hs with
    | cons h5 hs =>
    cases h5
    cases hs with
    | cons h6 hs =>
    cases hs with
    | cons h7 hs =>
    cases h7
    cases hs
    cases due with
    | none =>
      cases h6
      exact ⟨_, _, _, _, rfl, h, od, hq, rn⟩
    | some d =>
      cases h6
      exact ⟨_, _, _, _, rfl, h, od, hq, rn⟩

/-! ### a drawn task -/
structure MTk (goods : List (Str × Int)) (long : Int) (t : Tk) : Prop where
  len : 1 ≤ t.len ∧ t.len ≤ long
  names : (t.needs.map (·.1)).Sublist (goods.map (·.1))
  needs : ∀ n ∈ t.needs, 1 ≤ n.2 ∧ ∃ g ∈ goods, g.1 = n.1 ∧ n.2 ≤ g.2
  frm : 0 ≤ t.frm ∧ t.frm ≤ 40
  due : ∀ d, t.due = some d → 0 ≤ d ∧ d ≤ 200
  wt : 0 ≤ t.wt ∧ t.wt ≤ 1000
def Off (m r p : Addr) : Prop := p ≠ m ∧ p ≠ r
def spMTask (K : PySem.W.Frag) : Sp := fun vs H Q _ => ∃ (H0 : Hp) (m r a : Addr) (ns : List Int) (c : Int) (nm : Str) (ml gl : Addr) (ms : List Str) (gv : List V) (goods : List (Str × Int)) (long : Int), vs = [.ref m, .str nm, .ref ml, .ref gl, .int long] ∧ MAt K H0 H m r a ns c ∧ c ≤ 10 ^ 8 ∧
  H ml = some (.lst (ms.map V.str)) ∧ ms.length ≤ 30 ∧ Off m r ml ∧ H gl = some (.lst gv) ∧ Off m r gl ∧ RowsAt goodD H gv goods ∧ goods.length ≤ 10 ∧ (∀ g ∈ goods, 1 ≤ g.2 ∧ g.2 ≤ 100) ∧ 1 ≤ long ∧ long ≤ 1000 ∧
  ∀ (v : V) (t : Tk) (H' : Hp), TD H' v (taskFD t) → MTk goods long t → ButM m r H H' → MAt K H0 H' m r a ns (c + 40) → Q v H'
theorem ok__law_task (T : Tx K mg) : Cal P w K mg base 3 "_law_task" ["m", "name", "machines", "goods", "long"] (spMTask K) := by
  have G__law_draw : Cal P w K mg base 1 "_law_draw" ["m", "many"] (spMDraw K) := ok__law_draw T
  have G__law_of : Cal P w K mg base 2 "_law_of" ["m", "some"] (spMOf K) := ok__law_of T
  refine T.d__law_task.cal sc__law_task (fun vs H Q E h => ?_) (fun f cdv A outer s H vs Q E hr h => ?_)
  · obtain ⟨_, _, _, _, _, _, _, _, _, _, _, _, _, rfl, _⟩ := h
    rfl
  · obtain ⟨H0, m, r, a, ns, c, nm, ml, gl, ms, gv, goods, long, rfl, hm, c8, hml, lms, oml, hgl, ogl, rg, lg, bg, l1, l1000, q⟩ := h
    have p8 : (10 : Int) ^ 8 = 100000000 := by decide
    have p9 : (10 : Int) ^ 9 = 1000000000 := by decide
    have p18 : (10 : Int) ^ 18 = 1000000000000000000 := by decide
    have lgv := rg.len
    refine ⟨_, (pss_cons (ps_set (i := 5) sc__law_task.nd rfl (.inl rfl) (pe_lst pa_nil))
    (pss_cons (ps_for PassesOwn.never rfl (piLK (K := K) (pv 3)) (pgTK (K := K) (n := 2) (by rfl) (pgs_cons (pg_name (i := 6) sc__law_task.nd rfl (.inl rfl)) (pgs_cons (pg_name (i := 7) sc__law_task.nd rfl (.inl rfl)) pgs_nil))) (pss_one (ps_if (pt_cmpR op_eq (pe_cal G__law_draw (hr.mono (by decide)) (by rfl) (pa_cons (pv 0) (pa_cons pe_int pa_nil))) pe_int (nomark _)) (pss_one (ps_expr (pe_bm PySem.F.plainAttrs_list PySem.F.slot_list_append PySem.F.type_list_append mt_append (pv 5) (pa_cons (pe_tup (pa_cons (pv 6) (pa_cons (pe_op op_add pe_int (pe_cal G__law_draw (hr.mono (by decide)) (by rfl) (pa_cons (pv 0) (pa_cons (pv 7) pa_nil)))) pa_nil))) pa_nil)))) pss_nil)))
    (pss_cons (ps_set (i := 8) sc__law_task.nd rfl (.inl rfl) (pe_cal G__law_of hr (by rfl) (pa_cons (pv 0) (pa_cons (pe_lst (pa_cons pe_int (pa_cons pe_int (pa_cons (pe_cal G__law_draw (hr.mono (by decide)) (by rfl) (pa_cons (pv 0) (pa_cons pe_int pa_nil))) (pa_cons (pe_cal G__law_draw (hr.mono (by decide)) (by rfl) (pa_cons (pv 0) (pa_cons pe_int pa_nil))) pa_nil))))) pa_nil))))
    (pss_cons (ps_set (i := 9) sc__law_task.nd rfl (.inl rfl) (pe_cal G__law_of hr (by rfl) (pa_cons (pv 0) (pa_cons (pe_lst (pa_cons pe_non (pa_cons (pe_cal G__law_draw (hr.mono (by decide)) (by rfl) (pa_cons (pv 0) (pa_cons pe_int pa_nil))) (pa_cons (pe_cal G__law_draw (hr.mono (by decide)) (by rfl) (pa_cons (pv 0) (pa_cons pe_int pa_nil))) pa_nil)))) pa_nil))))
    (pss_cons (ps_set (i := 10) sc__law_task.nd rfl (.inl rfl) (pe_cal G__law_of hr (by rfl) (pa_cons (pv 0) (pa_cons (pe_op op_cat (pe_op op_cat (pe_lst (pa_cons pe_str pa_nil)) (pv 2)) (pv 2)) pa_nil))))
    (pss_one (ps_ret (pe_tup (pa_cons (pv 1) (pa_cons (pe_op op_add pe_int (pe_cal G__law_draw (hr.mono (by decide)) (by rfl) (pa_cons (pv 0) (pa_cons (pv 4) pa_nil)))) (pa_cons (pv 10) (pa_cons (pe_callTy (cr_tupleF (K := K)) (by rfl) T.b_tuple (by decide +kernel) (pa_cons (pv 5) pa_nil)) (pa_cons (pv 8) (pa_cons (pv 9) (pa_cons (pe_cal G__law_of hr (by rfl) (pa_cons (pv 0) (pa_cons (pe_lst (pa_cons pe_int (pa_cons pe_int (pa_cons (pe_cal G__law_draw (hr.mono (by decide)) (by rfl) (pa_cons (pv 0) (pa_cons pe_int pa_nil))) pa_nil)))) pa_nil))) pa_nil))))))))))))))), q_start (τ := [some _, some _, some _, some _, some _, none, none, none, none, none, none]) rfl ?_⟩
    walk_at "go"
    rename_i N nN
    have x1 := Ex.new (o := .lst []) nN
    have hN : L2.upd H N (.lst []) N = some (.lst []) := upd_same
    have oN := hm.nem nN
    have nN0 := hm.new nN
    have hm1 := hm.ex x1
    have hgl1 := x1 _ _ hgl
    have nNg : gl ≠ N := ne_of_none hgl nN
    have nNm : ml ≠ N := ne_of_none hml nN
    have b1 : ButM m r H (L2.upd H N (.lst [])) := ButM.of x1
    generalize L2.upd H N (.lst []) = H1 at x1 hN hm1 hgl1 b1 ⊢
    refine loop_list (xs := gv) (fun i σ H' => ∃ (nv : List V) (needs : List (Str × Int)) (c' : Int) (t6 t7 : Option V), σ = [some (.ref m), some (.str nm), some (.ref ml), some (.ref gl), some (.int long), some (.ref N), t6, t7, none, none, none] ∧ ButM m r H H' ∧ MAt K H0 H' m r a ns c' ∧ c' ≤ c + 2 * i ∧ H' N = some (.lst nv) ∧ RowsAt goodD H' nv needs ∧ (needs.map (·.1)).Sublist ((goods.take i).map (·.1)) ∧ ∀ n ∈ needs, 1 ≤ n.2 ∧ ∃ g ∈ goods, g.1 = n.1 ∧ n.2 ≤ g.2)
      ⟨[], [], c, _, _, rfl, b1, hm1, by omega, hN, .nil, List.Sublist.refl _, fun _ h => nomatch h⟩ (fun i σ H' _ h => by
        obtain ⟨_, _, _, _, _, _, b, _⟩ := h
        exact b _ _ ogl.1 ogl.2 hgl) ?_ ?_
    · rintro i x σ H2 hx ⟨nv, needs, c', t6, t7, rfl, b2, hm2, cc, hN2, rn, sub, pos⟩
      obtain ⟨g, hg, gd⟩ := (RowsAt.tp (hm.tp b2) rg).get hx
      have mg_ := List.mem_of_getElem? hg
      obtain ⟨g1, g2⟩ := bg g mg_
      obtain ⟨pg, rfl, hpg⟩ := good_at gd
      have hi := (List.getElem?_eq_some_iff.mp hg).1
      have lnv := rn.len
      have lsub := sub.length_le
      rw [List.length_map, List.length_map, List.length_take] at lsub
      walk_at "go"
      refine ⟨H0, m, r, a, ns, c', 3, rfl, hm2, by omega, by decide, by omega, fun n1 H3 _ _ b3 hm3 => ?_⟩
      have hN3 := b3 _ _ oN.1 oN.2 hN2
      have rn3 := RowsAt.tp (hm2.tp b3) rn
      walk_at "go"
      by_cases cc0 : n1 = 0
      · rw [decide_eq_true cc0, if_pos rfl]
        walk_at "go"
        refine ⟨H0, m, r, a, ns, c' + 1, g.2, rfl, hm3, by omega, by omega, by omega, fun n2 H4 n20 n21 b4 hm4 => ?_⟩
        have hN4 := b4 _ _ oN.1 oN.2 hN3
        have rn4 := RowsAt.tp (hm3.tp b4) rn3
        walk_at "go"
        rename_i tp ntp
        have z := Ex.new (o := .tup [V.str g.1, V.int (1 + n2)]) ntp
        have hN5 := z _ _ hN4
        refine ⟨nv ++ [.ref tp], needs ++ [(g.1, 1 + n2)], c' + 1 + 1, _, _, rfl, (((b2.trans b3).trans b4).ex z).mut nN, (hm4.ex z).upd oN.1 oN.2 nN0, by omega, upd_same, ?_, ?_, fun y my => ?_⟩
        · refine RowsAt.tp (Tp.upd hN5) ?_
          unfold RowsAt
          rw [List.map_append]
          exact TDs.append (RowsAt.tp (Tp.ex z) rn4) (.cons (.tup upd_same (.cons (.str _) (.cons (.int _) .nil))) .nil)
        · rw [take_snoc hg, List.map_append, List.map_append]
          exact sub.append (List.Sublist.refl _)
        · rcases List.mem_append.mp my with h | h
          · exact pos y h
          · rw [List.mem_singleton.mp h]
            exact ⟨show 1 ≤ 1 + n2 by omega, g, mg_, rfl, show 1 + n2 ≤ g.2 by omega⟩
      · rw [decide_eq_false cc0, if_neg Bool.false_ne_true]
        walk_at "go"
        refine ⟨nv, needs, c' + 1, _, _, rfl, b2.trans b3, hm3, by omega, hN3, rn3, ?_, pos⟩
        rw [take_snoc hg, List.map_append]
        exact sub.trans (List.sublist_append_left _ _)
    · rintro σ H2 ⟨nv, needs, c', t6, t7, rfl, b2, hm2, cc, hN2, rn, sub, pos⟩
      rw [List.take_of_length_le (by omega)] at sub
      walk_at "go"
      refine ⟨H0, m, r, a, ns, c', 9, rfl, hm2, by omega, by decide, by omega, fun n1 H3 n10 n11 b3 hm3 => ?_⟩
      walk_at "go"
      refine ⟨H0, m, r, a, ns, c' + 1, 40, rfl, hm3, by omega, by decide, by omega, fun n2 H4 n20 n21 b4 hm4 => ?_⟩
      walk_at "go"
      rename_i l1 nl1
      have y1 := Ex.new (o := .lst [V.int 0, V.int 0, V.int n1, V.int n2]) nl1
      have hl1 : L2.upd H4 l1 (.lst [V.int 0, V.int 0, V.int n1, V.int n2]) l1 = some (.lst [V.int 0, V.int 0, V.int n1, V.int n2]) := upd_same
      have ol1 := hm4.nem nl1
      have hm5 := hm4.ex y1
      generalize L2.upd H4 l1 (.lst [V.int 0, V.int 0, V.int n1, V.int n2]) = H5 at y1 hl1 hm5 ⊢
      refine ⟨H0, m, r, a, l1, ns, c' + 1 + 1, _, rfl, hm5, by omega, hl1, ol1.1, ol1.2, by simp, by simp, fun fv H6 mfv b6 hm6 => ?_⟩
      obtain ⟨fr, rfl, bfr⟩ : ∃ fr : Int, fv = .int fr ∧ (0 ≤ fr ∧ fr ≤ 40) := by
        simp only [List.mem_cons, List.not_mem_nil, or_false] at mfv
        rcases mfv with e | e | e | e
        · exact ⟨_, e, by omega, by omega⟩
        · exact ⟨_, e, by omega, by omega⟩
        · exact ⟨_, e, by omega, by omega⟩
        · exact ⟨_, e, by omega, by omega⟩
      have B6 : ButM m r H2 H6 := (b3.trans b4).trans ((ButM.of y1).trans b6)
      walk_at "go"
      refine ⟨H0, m, r, a, ns, c' + 1 + 1 + 1, 60, rfl, hm6, by omega, by decide, by omega, fun n3 H7 n30 n31 b7 hm7 => ?_⟩
      walk_at "go"
      refine ⟨H0, m, r, a, ns, c' + 1 + 1 + 1 + 1, 200, rfl, hm7, by omega, by decide, by omega, fun n4 H8 n40 n41 b8 hm8 => ?_⟩
      walk_at "go"
      rename_i l2 nl2
      have y2 := Ex.new (o := .lst [V.non, V.int n3, V.int n4]) nl2
      have hl2 : L2.upd H8 l2 (.lst [V.non, V.int n3, V.int n4]) l2 = some (.lst [V.non, V.int n3, V.int n4]) := upd_same
      have ol2 := hm8.nem nl2
      have hm9 := hm8.ex y2
      generalize L2.upd H8 l2 (.lst [V.non, V.int n3, V.int n4]) = H9 at y2 hl2 hm9 ⊢
      refine ⟨H0, m, r, a, l2, ns, c' + 1 + 1 + 1 + 1 + 1, _, rfl, hm9, by omega, hl2, ol2.1, ol2.2, by simp, by simp, fun dv H10 mdv b10 hm10 => ?_⟩
      obtain ⟨due, rfl, bdue⟩ : ∃ due : Option Int, dv = oiV due ∧ ∀ d, due = some d → 0 ≤ d ∧ d ≤ 200 := by
        simp only [List.mem_cons, List.not_mem_nil, or_false] at mdv
        rcases mdv with e | e | e
        · exact ⟨none, e, fun _ z => nomatch z⟩
        · exact ⟨some n3, e, fun d z => by have := Option.some.inj z; omega⟩
        · exact ⟨some n4, e, fun d z => by have := Option.some.inj z; omega⟩
      have B10 : ButM m r H2 H10 := B6.trans ((b7.trans b8).trans ((ButM.of y2).trans b10))
      have hml10 := (b2.trans B10) _ _ oml.1 oml.2 hml
      have lmm : (ms.map V.str).length = ms.length := List.length_map _
      walk_at "go"
      rename_i k1 nk1 k2 nk2 k3 nk3
      have y3 := (Ex.new (o := .lst [V.str (Str.ofString "")]) nk1).trans ((Ex.new (o := .lst ([V.str (Str.ofString "")] ++ ms.map V.str)) nk2).trans (Ex.new (o := .lst ([V.str (Str.ofString "")] ++ ms.map V.str ++ ms.map V.str)) nk3))
      have hk3 : L2.upd (L2.upd (L2.upd H10 k1 (.lst [V.str (Str.ofString "")])) k2 (.lst ([V.str (Str.ofString "")] ++ ms.map V.str))) k3 (.lst ([V.str (Str.ofString "")] ++ ms.map V.str ++ ms.map V.str)) k3 = some (.lst ([V.str (Str.ofString "")] ++ ms.map V.str ++ ms.map V.str)) := upd_same
      have ok3 := (hm10.ex ((Ex.new (o := .lst [V.str (Str.ofString "")]) nk1).trans (Ex.new (o := .lst ([V.str (Str.ofString "")] ++ ms.map V.str)) nk2))).nem nk3
      have hm11 := hm10.ex y3
      generalize L2.upd (L2.upd (L2.upd H10 k1 (.lst [V.str (Str.ofString "")])) k2 (.lst ([V.str (Str.ofString "")] ++ ms.map V.str))) k3 (.lst ([V.str (Str.ofString "")] ++ ms.map V.str ++ ms.map V.str)) = H11 at y3 hk3 hm11 ⊢
      refine ⟨H0, m, r, a, k3, ns, c' + 1 + 1 + 1 + 1 + 1 + 1, _, rfl, hm11, by omega, hk3, ok3.1, ok3.2, by simp, by rw [List.length_append, List.length_append, lmm]; simp; omega, fun mv H12 mmv b12 hm12 => ?_⟩
      obtain ⟨mc, rfl⟩ : ∃ mc : Str, mv = .str mc := by
        have st : ∀ y ∈ ms.map V.str, ∃ z : Str, y = .str z := fun y my => by
          obtain ⟨z, _, e⟩ := List.mem_map.mp my
          exact ⟨z, e.symm⟩
        rcases List.mem_append.mp mmv with h | h
        · rcases List.mem_append.mp h with h | h
          · exact ⟨_, List.mem_singleton.mp h⟩
          · exact st mv h
        · exact st mv h
      have B12 : ButM m r H2 H12 := B10.trans ((ButM.of y3).trans b12)
      walk_at "go"
      refine ⟨H0, m, r, a, ns, _, long, rfl, hm12, by omega, by omega, by omega, fun n5 H13 n50 n51 b13 hm13 => ?_⟩
      have B13 := B12.trans b13
      have hN13 := B13 _ _ oN.1 oN.2 hN2
      have rn13 := RowsAt.tp (hm2.tp B13) rn
      walk_at "go"
      refine ⟨N, nv, rfl, SqL.of hN13, fun qa oo nq od => ?_⟩
      have y4 := Ex.new (o := .frz oo (.tup nv)) nq
      have hqa : L2.upd H13 qa (.frz oo (.tup nv)) qa = some (.frz oo (.tup nv)) := upd_same
      have rn14 := RowsAt.tp (Tp.ex y4) rn13
      have hm14 := hm13.ex y4
      generalize L2.upd H13 qa (.frz oo (.tup nv)) = H14 at y4 hqa rn14 hm14 ⊢
      walk_at "go"
      refine ⟨H0, m, r, a, ns, _, 1001, rfl, hm14, by omega, by decide, by omega, fun n6 H15 n60 n61 b15 hm15 => ?_⟩
      walk_at "go"
      rename_i l5 nl5
      have y5 := Ex.new (o := .lst [V.int 0, V.int 1, V.int n6]) nl5
      have hl5 : L2.upd H15 l5 (.lst [V.int 0, V.int 1, V.int n6]) l5 = some (.lst [V.int 0, V.int 1, V.int n6]) := upd_same
      have ol5 := hm15.nem nl5
      have hm16 := hm15.ex y5
      generalize L2.upd H15 l5 (.lst [V.int 0, V.int 1, V.int n6]) = H16 at y5 hl5 hm16 ⊢
      refine ⟨H0, m, r, a, l5, ns, _, _, rfl, hm16, by omega, hl5, ol5.1, ol5.2, by simp, by simp, fun wv H17 mwv b17 hm17 => ?_⟩
      obtain ⟨wt, rfl, bwt⟩ : ∃ wt : Int, wv = .int wt ∧ (0 ≤ wt ∧ wt ≤ 1000) := by
        simp only [List.mem_cons, List.not_mem_nil, or_false] at mwv
        rcases mwv with e | e | e
        · exact ⟨_, e, by omega, by omega⟩
        · exact ⟨_, e, by omega, by omega⟩
        · exact ⟨_, e, by omega, by omega⟩
      have B147 : ButM m r H14 H17 := b15.trans ((ButM.of y5).trans b17)
      have oqa := hm13.nem nq
      have tp7 := hm14.tp B147
      have hqa17 := tp7.frz _ _ _ hqa
      have rn17 := RowsAt.tp tp7 rn14
      walk_at "go"
      rename_i tt ntt
      have y6 := Ex.new (o := .tup [V.str nm, V.int (1 + n5), V.str mc, V.ref qa, V.int fr, oiV due, V.int wt]) ntt
      have dd : ∀ {H' : Hp}, TD H' (oiV due) (dueD due) := fun {H'} => by
        cases due with
        | none => exact .non
        | some d => exact .int d
      refine q (.ref tt) ⟨nm, 1 + n5, mc, needs, fr, due, wt⟩ _ ?_ ⟨by constructor <;> (show _ ≤ _; dsimp only; omega), sub, pos, bfr, bdue, bwt⟩ ((b2.trans (B13.trans ((ButM.of y4).trans B147))).ex y6) ((hm17.ex y6).mono (by omega))
      exact .tup upd_same (.cons (.str _) (.cons (.int _) (.cons (.str _) (.cons (.frz od (y6 _ _ hqa17) (RowsAt.tp (Tp.ex y6) rn17)) (.cons (.int _) (.cons dd (.cons (.int _) .nil)))))))

end
end Bk24


namespace Bk24
open PySem PySem.Spec PyProof.Rows L2 Bs
open Evl (Ex)
section
variable {P : Program} {w : World} {K : PySem.W.Frag} {mg : Str → Option Value} {base : Heap}
/-! ### drawn waits -/
structure MWt (os : List Int) (x : Wt) : Prop where
  at_ : ∃ i j : Nat, i < j ∧ os[i]? = some x.a ∧ os[j]? = some x.b
  gap : 0 ≤ x.gap ∧ x.gap ≤ 1000
def spMWaits (K : PySem.W.Frag) : Sp := fun vs H Q _ => ∃ (H0 : Hp) (m r a : Addr) (ns : List Int) (c : Int) (ol : Addr) (os : List Int) (most : Int), vs = [.ref m, .ref ol, .int most] ∧ MAt K H0 H m r a ns c ∧ c ≤ 10 ^ 8 ∧ H ol = some (.lst (os.map V.int)) ∧ Off m r ol ∧ 1 ≤ os.length ∧ os.length ≤ 30 ∧ 0 ≤ most ∧ most ≤ 60 ∧
  ∀ (p : Addr) (wv : List V) (waits : List Wt) (H' : Hp), H' p = some (.tup wv) → RowsAt waitD H' wv waits → waits.length ≤ 60 → (∀ x ∈ waits, MWt os x) → ButM m r H H' → MAt K H0 H' m r a ns (c + 400) → Q (.ref p) H'
theorem ok__law_waits (T : Tx K mg) : Cal P w K mg base 3 "_law_waits" ["m", "order", "most"] (spMWaits K) := by
  have G__law_draw : Cal P w K mg base 1 "_law_draw" ["m", "many"] (spMDraw K) := ok__law_draw T
  have G__law_of : Cal P w K mg base 2 "_law_of" ["m", "some"] (spMOf K) := ok__law_of T
  refine T.d__law_waits.cal sc__law_waits (fun vs H Q E h => ?_) (fun f cdv A outer s H vs Q E hr h => ?_)
  · obtain ⟨_, _, _, _, _, _, _, _, _, rfl, _⟩ := h
    rfl
  · obtain ⟨H0, m, r, a, ns, c, ol, os, most, rfl, hm, c8, hol, ool, l1, l30, m0, m60, q⟩ := h
    have p8 : (10 : Int) ^ 8 = 100000000 := by decide
    have p9 : (10 : Int) ^ 9 = 1000000000 := by decide
    have p18 : (10 : Int) ^ 18 = 1000000000000000000 := by decide
    have lom : (os.map V.int).length = os.length := List.length_map _
    refine ⟨_, (pss_cons (ps_set (i := 3) sc__law_waits.nd rfl (.inl rfl) (pe_lst pa_nil))
    (pss_cons (ps_for PassesOwn.never rfl (pi_range1 (by rfl) T.b_range (pa_cons (pe_op op_mulX (pe_cal G__law_draw (hr.mono (by decide)) (by rfl) (pa_cons (pv 0) (pa_cons (pe_op op_add (pv 2) pe_int) pa_nil))) (pe_callTy au_int1 (by rfl) T.b_int (by decide +kernel) (pa_cons (pe_cmpR op_gt (pe_callB (lenK (K := K)) (by rfl) T.b_len (by decide +kernel) (pa_cons (pv 1) pa_nil)) pe_int (nomark _)) pa_nil))) pa_nil)) (pg_name (i := 4) sc__law_waits.nd rfl (.inl rfl)) (pss_cons (ps_set (i := 5) sc__law_waits.nd rfl (.inl rfl) (pe_callB (au_sortedI (K := K)) (by rfl) T.b_sorted (by decide +kernel) (pa_cons (pe_lst (pa_cons (pe_cal G__law_draw (hr.mono (by decide)) (by rfl) (pa_cons (pv 0) (pa_cons (pe_callB (lenK (K := K)) (by rfl) T.b_len (by decide +kernel) (pa_cons (pv 1) pa_nil)) pa_nil))) (pa_cons (pe_cal G__law_draw (hr.mono (by decide)) (by rfl) (pa_cons (pv 0) (pa_cons (pe_callB (lenK (K := K)) (by rfl) T.b_len (by decide +kernel) (pa_cons (pv 1) pa_nil)) pa_nil))) pa_nil))) pa_nil)))
    (pss_one (ps_if (pt_cmpR op_lt (pe_ix (ixL (K := K)) (pv 5) pe_int (fun _ _ => rfl)) (pe_ix (ixL (K := K)) (pv 5) pe_int (fun _ _ => rfl)) (nomark _)) (pss_cons (ps_set (i := 6) sc__law_waits.nd rfl (.inl rfl) (pe_cal G__law_of hr (by rfl) (pa_cons (pv 0) (pa_cons (pe_lst (pa_cons pe_int (pa_cons pe_int (pa_cons (pe_cal G__law_draw (hr.mono (by decide)) (by rfl) (pa_cons (pv 0) (pa_cons pe_int pa_nil))) (pa_cons (pe_cal G__law_draw (hr.mono (by decide)) (by rfl) (pa_cons (pv 0) (pa_cons pe_int pa_nil))) pa_nil))))) pa_nil))))
    (pss_one (ps_expr (pe_bm PySem.F.plainAttrs_list PySem.F.slot_list_append PySem.F.type_list_append mt_append (pv 3) (pa_cons (pe_tup (pa_cons (pe_ix (ixL (K := K)) (pv 1) (pe_ix (ixL (K := K)) (pv 5) pe_int (fun _ _ => rfl)) (fun _ _ => rfl)) (pa_cons (pe_ix (ixL (K := K)) (pv 1) (pe_ix (ixL (K := K)) (pv 5) pe_int (fun _ _ => rfl)) (fun _ _ => rfl)) (pa_cons (pv 6) pa_nil)))) pa_nil))))) pss_nil))))
    (pss_one (ps_ret (pe_callTy (au_tuple (K := K)) (by rfl) T.b_tuple (by decide +kernel) (pa_cons (pv 3) pa_nil)))))), q_start (τ := [some _, some _, some _, none, none, none, none]) rfl ?_⟩
    walk_at "go"
    rename_i N nN
    have x1 := Ex.new (o := .lst []) nN
    have hN : L2.upd H N (.lst []) N = some (.lst []) := upd_same
    have oN := hm.nem nN
    have nN0 := hm.new nN
    have hm1 := hm.ex x1
    have b1 : ButM m r H (L2.upd H N (.lst [])) := ButM.of x1
    generalize L2.upd H N (.lst []) = H1 at x1 hN hm1 b1 ⊢
    refine ⟨H0, m, r, a, ns, c, _, rfl, hm1, by omega, by omega, by omega, fun n1 H2 n10 n11 b2 hm2 => ?_⟩
    have B2 := b1.trans b2
    have hN2 := b2 _ _ oN.1 oN.2 hN
    have hol2 := B2 _ _ ool.1 ool.2 hol
    walk_at "go"
    obtain ⟨cnt, hcnt, cnt60⟩ : ∃ cnt : Nat, (n1 * if decide ((1 : Int) < ((os.map V.int).length : Int)) = true then 1 else 0) = (cnt : Int) ∧ cnt ≤ 60 := ⟨(n1 * if decide ((1 : Int) < ((os.map V.int).length : Int)) = true then 1 else 0).toNat, by split <;> omega, by split <;> omega⟩
    rw [hcnt]
    refine q_rng ⟨by omega, by omega⟩ ?_
    rw [Int.toNat_natCast]
    refine loop_range (fun i σ H' => ∃ (wv : List V) (waits : List Wt) (c' : Int) (t4 t5 t6 : Option V), σ = [some (.ref m), some (.ref ol), some (.int most), some (.ref N), t4, t5, t6] ∧ ButM m r H H' ∧ MAt K H0 H' m r a ns c' ∧ c' ≤ c + 1 + 5 * i ∧ H' N = some (.lst wv) ∧ RowsAt waitD H' wv waits ∧ waits.length ≤ i ∧ ∀ x ∈ waits, MWt os x)
      ⟨[], [], c + 1, _, _, _, rfl, B2, hm2, by omega, hN2, .nil, Nat.le_refl _, fun _ h => nomatch h⟩ ?_ ?_
    · rintro i σ H3 hi ⟨wv, waits, c', t4, t5, t6, rfl, b3, hm3, cc, hN3, rw3, lw, ok⟩
      have hol3 := b3 _ _ ool.1 ool.2 hol
      walk_at "go"
      refine ⟨H0, m, r, a, ns, c', _, rfl, hm3, by omega, by omega, by omega, fun n2 H4 n20 n21 b4 hm4 => ?_⟩
      have hol4 := b4 _ _ ool.1 ool.2 hol3
      walk_at "go"
      refine ⟨H0, m, r, a, ns, c' + 1, _, rfl, hm4, by omega, by omega, by omega, fun n3 H5 n30 n31 b5 hm5 => ?_⟩
      have B5 := (b3.trans b4).trans b5
      have hN5 := (b4.trans b5) _ _ oN.1 oN.2 hN3
      have rw5 := RowsAt.tp (hm3.tp (b4.trans b5)) rw3
      have hol5 := B5 _ _ ool.1 ool.2 hol
      walk_at "go"
      rename_i k1 nk1
      have y1 := Ex.new (o := .lst [V.int n2, V.int n3]) nk1
      have hk1 : L2.upd H5 k1 (.lst [V.int n2, V.int n3]) k1 = some (.lst ([n2, n3].map V.int)) := upd_same
      have hN6 := y1 _ _ hN5
      have rw6 := RowsAt.tp (Tp.ex y1) rw5
      have hol6 := y1 _ _ hol5
      have hm6 := hm5.ex y1
      have B6 := B5.ex y1
      generalize L2.upd H5 k1 (.lst [V.int n2, V.int n3]) = H6 at y1 hk1 hN6 rw6 hol6 hm6 B6 ⊢
      refine q_sortedI hk1 fun ms pm pr pw npm => ?_
      obtain ⟨x, y, rfl⟩ : ∃ x y, ms = [x, y] := by
        have := pr.length_eq
        match ms, this with
        | [x, y], _ => exact ⟨x, y, rfl⟩
      have bd : ∀ z ∈ [x, y], 0 ≤ z ∧ z < (os.length : Int) := fun z mz => by
        have := pr.mem_iff.mp mz
        simp only [List.mem_cons, List.not_mem_nil, or_false] at this
        rcases this with e | e <;> (rw [e]; omega)
      obtain ⟨bx0, bx1⟩ := bd x List.mem_cons_self
      obtain ⟨by0, by1⟩ := bd y (List.mem_cons_of_mem _ List.mem_cons_self)
      have y2 := Ex.new (o := .lst ([x, y].map V.int)) npm
      have hpm : L2.upd H6 pm (.lst ([x, y].map V.int)) pm = some (.lst [V.int x, V.int y]) := upd_same
      have hN7 := y2 _ _ hN6
      have rw7 := RowsAt.tp (Tp.ex y2) rw6
      have hol7 := y2 _ _ hol6
      have hm7 := hm6.ex y2
      have B7 := B6.ex y2
      have opm := hm6.nem npm
      generalize L2.upd H6 pm (.lst ([x, y].map V.int)) = H7 at y2 hpm hN7 rw7 hol7 hm7 B7 ⊢
      walk_at "go"
      by_cases cxy : x < y
      · rw [decide_eq_true cxy, if_pos rfl]
        walk_at "go"
        refine ⟨H0, m, r, a, ns, _, 9, rfl, hm7, by omega, by decide, by omega, fun n4 H8 n40 n41 b8 hm8 => ?_⟩
        walk_at "go"
        refine ⟨H0, m, r, a, ns, _, 1001, rfl, hm8, by omega, by decide, by omega, fun n5 H9 n50 n51 b9 hm9 => ?_⟩
        walk_at "go"
        rename_i l5 nl5
        have y5 := Ex.new (o := .lst [V.int 0, V.int 0, V.int n4, V.int n5]) nl5
        have hl5 : L2.upd H9 l5 (.lst [V.int 0, V.int 0, V.int n4, V.int n5]) l5 = some (.lst [V.int 0, V.int 0, V.int n4, V.int n5]) := upd_same
        have ol5 := hm9.nem nl5
        have hm10 := hm9.ex y5
        generalize L2.upd H9 l5 (.lst [V.int 0, V.int 0, V.int n4, V.int n5]) = H10 at y5 hl5 hm10 ⊢
        refine ⟨H0, m, r, a, l5, ns, _, _, rfl, hm10, by omega, hl5, ol5.1, ol5.2, by simp, by simp, fun gv H11 mgv b11 hm11 => ?_⟩
        obtain ⟨gp, rfl, bgp⟩ : ∃ gp : Int, gv = .int gp ∧ (0 ≤ gp ∧ gp ≤ 1000) := by
          simp only [List.mem_cons, List.not_mem_nil, or_false] at mgv
          rcases mgv with e | e | e | e
          · exact ⟨_, e, by omega, by omega⟩
          · exact ⟨_, e, by omega, by omega⟩
          · exact ⟨_, e, by omega, by omega⟩
          · exact ⟨_, e, by omega, by omega⟩
        have C := (b8.trans b9).trans ((ButM.of y5).trans b11)
        have hN11 := C _ _ oN.1 oN.2 hN7
        have rw11 := RowsAt.tp (hm7.tp C) rw7
        have hol11 := C _ _ ool.1 ool.2 hol7
        have hpm11 := C _ _ opm.1 opm.2 hpm
        obtain ⟨xn, rfl⟩ : ∃ n : Nat, x = (n : Int) := ⟨_, (Int.toNat_of_nonneg bx0).symm⟩
        obtain ⟨yn, rfl⟩ : ∃ n : Nat, y = (n : Int) := ⟨_, (Int.toNat_of_nonneg by0).symm⟩
        obtain ⟨ox, hox⟩ : ∃ ox, os[xn]? = some ox := ⟨_, List.getElem?_eq_getElem (by omega)⟩
        obtain ⟨oy, hoy⟩ : ∃ oy, os[yn]? = some oy := ⟨_, List.getElem?_eq_getElem (by omega)⟩
        have lwv := rw11.len
        walk_at "go"
        refine q_ixL hol11 (atI_nat (by rw [List.getElem?_map, hox]; rfl)) ?_
        walk_at "go"
        refine q_ixL hol11 (atI_nat (by rw [List.getElem?_map, hoy]; rfl)) ?_
        walk_at "go"
        rename_i tp ntp
        have z := Ex.new (o := .tup [V.int ox, V.int oy, V.int gp]) ntp
        have hN12 := z _ _ hN11
        refine ⟨wv ++ [.ref tp], waits ++ [⟨ox, oy, gp⟩], _, _, _, _, rfl, ((B7.trans C).ex z).mut nN, (hm11.ex z).upd oN.1 oN.2 nN0, by omega, upd_same, ?_, by rw [List.length_append]; show waits.length + 1 ≤ i + 1; omega, fun y my => ?_⟩
        · refine RowsAt.tp (Tp.upd hN12) ?_
          unfold RowsAt
          rw [List.map_append]
          exact TDs.append (RowsAt.tp (Tp.ex z) rw11) (.cons (.tup upd_same (.cons (.int _) (.cons (.int _) (.cons (.int _) .nil)))) .nil)
        · rcases List.mem_append.mp my with h | h
          · exact ok y h
          · rw [List.mem_singleton.mp h]
            exact ⟨⟨xn, yn, by omega, hox, hoy⟩, bgp⟩
      · rw [decide_eq_false cxy, if_neg Bool.false_ne_true]
        walk_at "go"
        exact ⟨wv, waits, _, _, _, _, rfl, B7, hm7, by omega, hN7, rw7, by omega, ok⟩
    · rintro σ H3 ⟨wv, waits, c', t4, t5, t6, rfl, b3, hm3, cc, hN3, rw3, lw, ok⟩
      walk_at "go"
      rename_i tp ntp
      have z := Ex.new (o := .tup wv) ntp
      exact q tp wv waits _ upd_same (RowsAt.tp (Tp.ex z) rw3) (by omega) ok (b3.ex z) ((hm3.ex z).mono (by omega))

end
end Bk24


namespace Bk24
open PySem PySem.Spec PyProof.Rows L2 Bs
open Evl (Ex)
section
variable {P : Program} {w : World} {K : PySem.W.Frag} {mg : Str → Option Value} {base : Heap}
/-! ### a drawn book -/
def bookM (b : Bk) : PyData := .tuple [.tuple (b.machs.map .str), .dict [(.tuple (b.goods.map goodD), .none)], .tuple (b.tasks.map taskFD), .tuple (b.waits.map waitD), .dict [(.tuple (b.fixed.map fixD), .none)]]
theorem bookM_parts {H : Hp} {v : V} {b : Bk} (h : TD H v (bookM b)) : ∃ a m g t w f, v = .ref a ∧ H a = some (.tup [.ref m, .ref g, .ref t, .ref w, .ref f]) ∧
    (∃ xs, H m = some (.tup xs) ∧ RowsAt PyData.str H xs b.machs) ∧ (∃ xs, (∃ o, o.dict = none ∧ H g = some (.frz o (.tup xs))) ∧ RowsAt goodD H xs b.goods) ∧ (∃ xs, H t = some (.tup xs) ∧ RowsAt taskFD H xs b.tasks) ∧
    (∃ xs, H w = some (.tup xs) ∧ RowsAt waitD H xs b.waits) ∧ (∃ xs, (∃ o, o.dict = none ∧ H f = some (.frz o (.tup xs))) ∧ RowsAt fixD H xs b.fixed) := by
  obtain ⟨a, xs, rfl, ha, hs⟩ := h.tupI
  cases hs with
  | cons h1 hs =>
    cases hs with
    | cons h2 hs =>
      cases hs with
      | cons h3 hs =>
        cases hs with
        | cons h4 hs =>
          cases hs with
          | cons h5 hs =>
            cases hs
            obtain ⟨m, x1, rfl, g1, k1⟩ := h1.tupI
            obtain ⟨g, o2, x2, rfl, z2, g2, k2⟩ := h2.frzI
            obtain ⟨t, x3, rfl, g3, k3⟩ := h3.tupI
            obtain ⟨w, x4, rfl, g4, k4⟩ := h4.tupI
            obtain ⟨f, o, x5, rfl, z5, g5, k5⟩ := h5.frzI
            exact ⟨a, m, g, t, w, f, rfl, ha, ⟨x1, g1, k1⟩, ⟨x2, ⟨o2, z2, g2⟩, k2⟩, ⟨x3, g3, k3⟩, ⟨x4, g4, k4⟩, ⟨x5, ⟨o, z5, g5⟩, k5⟩⟩
theorem cutV_loN {xs : List V} {a : Nat} : cutV xs none (some (a : Int)) = xs.take a := by
  unfold cutV
  rw [HT.sIx_nat, HT.sIx_none, List.drop_zero, Nat.sub_zero]
  rcases Nat.le_total a xs.length with h | h
  · rw [Nat.min_eq_left h]
  · rw [Nat.min_eq_right h, List.take_of_length_le (Nat.le_refl _), List.take_of_length_le h]
structure MBk (b : Bk) (most long held : Int) : Prop where
  machs : b.machs.length ≤ 6
  goods : b.goods.length ≤ 4
  names : (b.goods.map (·.1)).Nodup
  good : ∀ g ∈ b.goods, 1 ≤ g.2 ∧ g.2 ≤ 100
  few : 1 ≤ b.tasks.length ∧ (b.tasks.length : Int) ≤ most
  task : ∀ t ∈ b.tasks, MTk b.goods long t
  waits : b.waits.length ≤ 60
  wait : ∃ os, IsOrder os b.tasks.length ∧ ∀ x ∈ b.waits, MWt os x
  fixeds : (b.fixed.length : Int) ≤ held
  once : (b.fixed.map (·.1)).Nodup
  fixed : ∀ x ∈ b.fixed, ∃ (i : Nat) (t : Tk), x.1 = (i : Int) ∧ b.tasks[i]? = some t ∧ t.frm ≤ x.2 ∧ x.2 ≤ t.frm + 30
def spMBook (K : PySem.W.Frag) : Sp := fun vs H Q _ => ∃ (H0 : Hp) (m r a : Addr) (ns : List Int) (c most long held : Int), vs = [.ref m, .int most, .int long, .int held] ∧ MAt K H0 H m r a ns c ∧ c ≤ 10 ^ 7 ∧ 1 ≤ most ∧ most ≤ 30 ∧ 1 ≤ long ∧ long ≤ 1000 ∧ 0 ≤ held ∧ held ≤ 30 ∧
  ∀ (v : V) (b : Bk) (H' : Hp), TD H' v (bookM b) → MBk b most long held → ButM m r H H' → MAt K H0 H' m r a ns (c + 2000) → Q v H'
theorem ok__law_book (T : Tx K mg) : Cal P w K mg base 4 "_law_book" ["m", "most", "long", "held"] (spMBook K) := by
  have G__law_draw : Cal P w K mg base 1 "_law_draw" ["m", "many"] (spMDraw K) := ok__law_draw T
  have G__law_of : Cal P w K mg base 2 "_law_of" ["m", "some"] (spMOf K) := ok__law_of T
  have G__law_names : Cal P w K mg base 2 "_law_names" ["m", "many"] (spMNames K) := ok__law_names T
  have G__law_task : Cal P w K mg base 3 "_law_task" ["m", "name", "machines", "goods", "long"] (spMTask K) := ok__law_task T
  have G__law_waits : Cal P w K mg base 3 "_law_waits" ["m", "order", "most"] (spMWaits K) := ok__law_waits T
  have G__law_order : Cal P w K mg base 2 "_law_order" ["m", "many"] (spMOrder K) := ok__law_order T
  refine T.d__law_book.cal sc__law_book (fun vs H Q E h => ?_) (fun f cdv A outer s H vs Q E hr h => ?_)
  · obtain ⟨_, _, _, _, _, _, _, _, _, rfl, _⟩ := h
    rfl
  · obtain ⟨H0, m, r, a, ns, c, most, long, held, rfl, hm, c8, mo1, mo30, lo1, lo1000, he0, he30, q⟩ := h
    have p7 : (10 : Int) ^ 7 = 10000000 := by decide
    have p8 : (10 : Int) ^ 8 = 100000000 := by decide
    have p9 : (10 : Int) ^ 9 = 1000000000 := by decide
    have p18 : (10 : Int) ^ 18 = 1000000000000000000 := by decide
    refine ⟨_, (pss_cons (ps_set (i := 4) sc__law_book.nd rfl (.inr rfl) (pe_cal G__law_names (hr.mono (by decide)) (by rfl) (pa_cons (pv 0) (pa_cons (pe_cal G__law_draw (hr.mono (by decide)) (by rfl) (pa_cons (pv 0) (pa_cons pe_int pa_nil))) pa_nil))))
    (pss_cons (ps_set (i := 5) sc__law_book.nd rfl (.inr rfl) (pe_lc (own := [("name", 10)]) rfl sc__law_book.nd (piLK (K := K) (pe_cal G__law_names (hr.mono (by decide)) (by rfl) (pa_cons (pv 0) (pa_cons (pe_cal G__law_draw (hr.mono (by decide)) (by rfl) (pa_cons (pv 0) (pa_cons pe_int pa_nil))) pa_nil)))) (blkOk_by (own := [("name", 10)]) (N := N__law_book) (sc := defScope s__law_book) (by decide +kernel)) (fun _ _ _ _ _ => (pg_name (i := 10) sc__law_book.nd rfl (.inl rfl))) (fun _ _ _ _ _ => pts_nil) (fun _ _ _ _ _ => (pe_tup (pa_cons (pv 10) (pa_cons (pe_op op_add pe_int (pe_cal G__law_draw (hr.mono (by decide)) (by rfl) (pa_cons (pv 0) (pa_cons (pe_cal G__law_of (hr.mono (by decide)) (by rfl) (pa_cons (pv 0) (pa_cons (pe_lst (pa_cons pe_int (pa_cons pe_int (pa_cons pe_int pa_nil)))) pa_nil))) pa_nil)))) pa_nil))))))
    (pss_cons (ps_set (i := 6) sc__law_book.nd rfl (.inl rfl) (pe_op op_add pe_int (pe_cal G__law_draw (hr.mono (by decide)) (by rfl) (pa_cons (pv 0) (pa_cons (pv 1) pa_nil)))))
    (pss_cons (ps_set (i := 7) sc__law_book.nd rfl (.inr rfl) (pe_lc (own := [("name", 10)]) rfl sc__law_book.nd (piLK (K := K) (pe_cal G__law_names (hr.mono (by decide)) (by rfl) (pa_cons (pv 0) (pa_cons (pv 6) pa_nil)))) (blkOk_by (own := [("name", 10)]) (N := N__law_book) (sc := defScope s__law_book) (by decide +kernel)) (fun _ _ _ _ _ => (pg_name (i := 10) sc__law_book.nd rfl (.inl rfl))) (fun _ _ _ _ _ => pts_nil) (fun _ _ _ _ _ => (pe_cal G__law_task hr (by rfl) (pa_cons (pv 0) (pa_cons (pv 10) (pa_cons (pv 4) (pa_cons (pv 5) (pa_cons (pv 2) pa_nil)))))))))
    (pss_cons (ps_set (i := 8) sc__law_book.nd rfl (.inl rfl) (pe_cal G__law_waits hr (by rfl) (pa_cons (pv 0) (pa_cons (pe_cal G__law_order (hr.mono (by decide)) (by rfl) (pa_cons (pv 0) (pa_cons (pv 6) pa_nil))) (pa_cons (pe_cal G__law_of (hr.mono (by decide)) (by rfl) (pa_cons (pv 0) (pa_cons (pe_lst (pa_cons pe_int (pa_cons pe_int (pa_cons pe_int pa_nil)))) pa_nil))) pa_nil)))))
    (pss_cons (ps_setLc (i := 9) (own := [("task", 11)]) rfl sc__law_book.nd rfl rfl (sw_true rfl rfl rfl (by decide +kernel)) (piLK (K := K) (pe_slice (slLK (K := K)) (pe_cal G__law_order (hr.mono (by decide)) (by rfl) (pa_cons (pv 0) (pa_cons (pv 6) pa_nil))) po_none (po_some (pe_cal G__law_draw (hr.mono (by decide)) (by rfl) (pa_cons (pv 0) (pa_cons (pe_op op_add (pv 3) pe_int) pa_nil)))))) (blkOk_by (own := [("task", 11)]) (N := N__law_book) (sc := defScope s__law_book) (by decide +kernel)) (fun _ _ _ _ _ => (pg_name (i := 11) sc__law_book.nd rfl (.inl rfl))) (fun _ _ _ _ _ => pts_nil) (fun _ _ _ _ _ => (pe_tup (pa_cons (pv 11) (pa_cons (pe_op op_add (pe_ix (ixT (K := K)) (pe_ix (ixL (K := K)) (pv 7) (pv 11) (fun _ _ => rfl)) pe_int (fun _ _ => rfl)) (pe_cal G__law_draw (hr.mono (by decide)) (by rfl) (pa_cons (pv 0) (pa_cons pe_int pa_nil)))) pa_nil)))))
    (pss_one (ps_ret (pe_tup (pa_cons (pe_callTy (au_tuple (K := K)) (by rfl) T.b_tuple (by decide +kernel) (pa_cons (pv 4) pa_nil)) (pa_cons (pe_callTy (cr_tupleF (K := K)) (by rfl) T.b_tuple (by decide +kernel) (pa_cons (pv 5) pa_nil)) (pa_cons (pe_callTy (au_tuple (K := K)) (by rfl) T.b_tuple (by decide +kernel) (pa_cons (pv 7) pa_nil)) (pa_cons (pv 8) (pa_cons (pe_callTy (cr_tupleF (K := K)) (by rfl) T.b_tuple (by decide +kernel) (pa_cons (pv 9) pa_nil)) pa_nil)))))))))))))), q_start (τ := [some _, some _, some _, some _, none, none, none, none, none, none, none, none]) rfl ?_⟩
    walk_at "go"
    refine ⟨H0, m, r, a, ns, c, 7, rfl, hm, by omega, by decide, by omega, fun n1 H1 n10 n11 b1 hm1 => ?_⟩
    obtain ⟨k1, rfl⟩ : ∃ n : Nat, n1 = (n : Int) := ⟨_, (Int.toNat_of_nonneg n10).symm⟩
    walk_at "go"
    refine ⟨H0, m, r, a, ns, _, k1, rfl, hm1, by omega, by omega, fun ml ms H2 lms nd2 sh2 b2 hm2 nml hml => ?_⟩
    have oml := (hm1.nem nml)
    have B2 := b1.trans b2
    walk_at "go"
    refine ⟨H0, m, r, a, ns, _, 5, rfl, hm2, by omega, by decide, by omega, fun n3 H3 n30 n31 b3 hm3 => ?_⟩
    obtain ⟨k3, rfl⟩ : ∃ n : Nat, n3 = (n : Int) := ⟨_, (Int.toNat_of_nonneg n30).symm⟩
    walk_at "go"
    refine ⟨H0, m, r, a, ns, _, k3, rfl, hm3, by omega, by omega, fun gn zs H4 lzs nd4 sh4 b4 hm4 ngn hgn => ?_⟩
    have ogn := (hm3.nem ngn)
    have hml4 := (b3.trans b4) _ _ oml.1 oml.2 hml
    have B4 := B2.trans (b3.trans b4)
    walk_at "go"
    intro D nD
    have oD := hm4.nem nD
    have nD0 := hm4.new nD
    have xD := Ex.new (o := .lst []) nD
    have hmD := hm4.ex xD
    refine lcp_list (xs := zs.map V.str) (fun i H' => ∃ (gv : List V) (goods : List (Str × Int)) (c' : Int), ButM m r H4 H' ∧ MAt K H0 H' m r a ns c' ∧ c' ≤ c + 42 + 2 * i ∧ H' D = some (.lst gv) ∧ RowsAt goodD H' gv goods ∧ goods.map (·.1) = zs.take i ∧ ∀ g ∈ goods, 1 ≤ g.2 ∧ g.2 ≤ 100)
      ⟨[], [], _, ButM.of xD, hmD, by omega, upd_same, .nil, rfl, fun _ h => nomatch h⟩ (fun i H' _ h => by
        obtain ⟨_, _, _, b, _⟩ := h
        exact b _ _ ogn.1 ogn.2 hgn) ?_ ?_
    · rintro i x H5 hx ⟨gv, goods, c', b5, hm5, cc, hD5, rg, en, bg⟩
      rw [List.getElem?_map] at hx
      obtain ⟨z, hz, rfl⟩ := Option.map_eq_some_iff.mp hx
      have hi := (List.getElem?_eq_some_iff.mp hz).1
      have lgv := rg.len
      have lgo : goods.length = (zs.take i).length := by rw [← en, List.length_map]
      rw [List.length_take] at lgo
      walk_at "go"
      rename_i l5 nl5
      have y5 := Ex.new (o := .lst [V.int 3, V.int 3, V.int 99]) nl5
      have hl5 : L2.upd H5 l5 (.lst [V.int 3, V.int 3, V.int 99]) l5 = some (.lst [V.int 3, V.int 3, V.int 99]) := upd_same
      have ol5 := hm5.nem nl5
      have hm6 := hm5.ex y5
      have b6 := b5.ex y5
      have hD6 := y5 _ _ hD5
      have rg6 := RowsAt.tp (Tp.ex y5) rg
      generalize L2.upd H5 l5 (.lst [V.int 3, V.int 3, V.int 99]) = H6 at y5 hl5 hm6 b6 hD6 rg6 ⊢
      refine ⟨H0, m, r, a, l5, ns, _, _, rfl, hm6, by omega, hl5, ol5.1, ol5.2, by simp, by simp, fun gv2 H7 mgv b7 hm7 => ?_⟩
      obtain ⟨up, rfl, bup⟩ : ∃ up : Int, gv2 = .int up ∧ (1 ≤ up ∧ up ≤ 99) := by
        simp only [List.mem_cons, List.not_mem_nil, or_false] at mgv
        rcases mgv with e | e | e <;> exact ⟨_, e, by omega, by omega⟩
      walk_at "go"
      refine ⟨H0, m, r, a, ns, _, up, rfl, hm7, by omega, by omega, by omega, fun n8 H8 n80 n81 b8 hm8 => ?_⟩
      have B8 := b7.trans b8
      have hD8 := B8 _ _ oD.1 oD.2 hD6
      have rg8 := RowsAt.tp (hm6.tp B8) rg6
      walk_at "go"
      rename_i tp ntp
      have zx := Ex.new (o := .tup [V.str z, V.int (1 + n8)]) ntp
      have hD9 := zx _ _ hD8
      walk_at "go"
      refine ⟨gv ++ [.ref tp], goods ++ [(z, 1 + n8)], _, ((b6.trans B8).ex zx).mut nD, (hm8.ex zx).upd oD.1 oD.2 nD0, by omega, upd_same, ?_, ?_, fun y my => ?_⟩
      · refine RowsAt.tp (Tp.upd hD9) ?_
        unfold RowsAt
        rw [List.map_append]
        exact TDs.append (RowsAt.tp (Tp.ex zx) rg8) (.cons (.tup upd_same (.cons (.str _) (.cons (.int _) .nil))) .nil)
      · rw [take_snoc hz, List.map_append, en]
        rfl
      · rcases List.mem_append.mp my with h | h
        · exact bg y h
        · rw [List.mem_singleton.mp h]
          exact ⟨show 1 ≤ 1 + n8 by omega, show 1 + n8 ≤ 100 by omega⟩
    · rintro H5 ⟨gv, goods, c', b5, hm5, cc, hD5, rg, en, bg⟩
      rw [List.length_map] at cc en
      rw [List.take_length] at en
      have lgv := rg.len
      have lgo : goods.length = zs.length := by rw [← en, List.length_map]
      have hml5 := b5 _ _ oml.1 oml.2 hml4
      have B5 := B4.trans b5
      walk_at "go"
      refine ⟨H0, m, r, a, ns, _, most, rfl, hm5, by omega, by omega, by omega, fun n6 H6 n60 n61 b6 hm6 => ?_⟩
      obtain ⟨mn, hmn, mn1⟩ : ∃ n : Nat, 1 + n6 = (n : Int) ∧ 1 ≤ n := ⟨(1 + n6).toNat, by omega, by omega⟩
      refine ⟨1, n6, rfl, rfl, ?_⟩
      show gName 6 (V.int (1 + n6)) _ _ _
      rw [hmn]
      walk_at "go"
      refine ⟨H0, m, r, a, ns, _, mn, rfl, hm6, by omega, by omega, fun tn ts H7 lts nd7 sh7 b7 hm7 ntn htn => ?_⟩
      have otn := hm6.nem ntn
      have B7 := B5.trans (b6.trans b7)
      have hml7 := (b6.trans b7) _ _ oml.1 oml.2 hml5
      have hD7 := (b6.trans b7) _ _ oD.1 oD.2 hD5
      have rg7 := RowsAt.tp (hm5.tp (b6.trans b7)) rg
      walk_at "go"
      intro D2 nD2
      have oD2 := hm7.nem nD2
      have nD20 := hm7.new nD2
      have xD2 := Ex.new (o := .lst []) nD2
      have hmD2 := hm7.ex xD2
      refine lcp_list (xs := ts.map V.str) (fun i H' => ∃ (tv : List V) (tasks : List Tk) (c' : Int), ButM m r H7 H' ∧ MAt K H0 H' m r a ns c' ∧ c' ≤ c + 100 + 40 * i ∧ H' D2 = some (.lst tv) ∧ RowsAt taskFD H' tv tasks ∧ tasks.length = i ∧ ∀ t ∈ tasks, MTk goods long t)
        ⟨[], [], _, ButM.of xD2, hmD2, by omega, upd_same, .nil, rfl, fun _ h => nomatch h⟩ (fun i H' _ h => by
          obtain ⟨_, _, _, b, _⟩ := h
          exact b _ _ otn.1 otn.2 htn) ?_ ?_
      · rintro i x H8 hx ⟨tv, tasks, c8', b8, hm8, cc8, hD8, rt, lt, ok⟩
        rw [List.getElem?_map] at hx
        obtain ⟨z, hz, rfl⟩ := Option.map_eq_some_iff.mp hx
        have hi := (List.getElem?_eq_some_iff.mp hz).1
        have ltv := rt.len
        walk_at "go"
        refine ⟨H0, m, r, a, ns, _, z, ml, D, ms, gv, goods, long, rfl, hm8, by omega, b8 _ _ oml.1 oml.2 hml7, by omega, oml, b8 _ _ oD.1 oD.2 hD7, oD, RowsAt.tp (hm7.tp b8) rg7, by omega, bg, lo1, lo1000, fun v t H9 tdt mt b9 hm9 => ?_⟩
        have hD9 := b9 _ _ oD2.1 oD2.2 hD8
        walk_at "go"
        refine ⟨tv ++ [v], tasks ++ [t], _, (b8.trans b9).mut nD2, hm9.upd oD2.1 oD2.2 nD20, by omega, upd_same, ?_, by rw [List.length_append, lt]; rfl, fun y my => ?_⟩
        · refine RowsAt.tp (Tp.upd hD9) ?_
          unfold RowsAt
          rw [List.map_append]
          exact TDs.append (RowsAt.tp (hm8.tp b9) rt) (.cons tdt .nil)
        · rcases List.mem_append.mp my with h | h
          · exact ok y h
          · rw [List.mem_singleton.mp h]
            exact mt
      · rintro H8 ⟨tv, tasks, c8', b8, hm8, cc8, hD8, rt, lt, ok⟩
        rw [List.length_map] at cc8 lt
        have ltv := rt.len
        walk_at "go"
        refine ⟨H0, m, r, a, ns, _, mn, rfl, hm8, by omega, by omega, fun ol os H9 io b9 hm9 nol hol => ?_⟩
        have ool := hm8.nem nol
        walk_at "go"
        rename_i l9 nl9
        have y9 := Ex.new (o := .lst [V.int 3, V.int 12, V.int 60]) nl9
        have hl9 : L2.upd H9 l9 (.lst [V.int 3, V.int 12, V.int 60]) l9 = some (.lst [V.int 3, V.int 12, V.int 60]) := upd_same
        have ol9 := hm9.nem nl9
        have hm10 := hm9.ex y9
        have b10 := b9.ex y9
        have hol10 := y9 _ _ hol
        generalize L2.upd H9 l9 (.lst [V.int 3, V.int 12, V.int 60]) = H10 at y9 hl9 hm10 b10 hol10 ⊢
        refine ⟨H0, m, r, a, l9, ns, _, _, rfl, hm10, by omega, hl9, ol9.1, ol9.2, by simp, by simp, fun mv H11 mmv b11 hm11 => ?_⟩
        obtain ⟨mo, rfl, bmo⟩ : ∃ mo : Int, mv = .int mo ∧ (0 ≤ mo ∧ mo ≤ 60) := by
          simp only [List.mem_cons, List.not_mem_nil, or_false] at mmv
          rcases mmv with e | e | e <;> exact ⟨_, e, by omega, by omega⟩
        have lio := io.len
        walk_at "go"
        refine ⟨H0, m, r, a, ns, _, ol, os, mo, rfl, hm11, by omega, b11 _ _ ool.1 ool.2 hol10, ool, by omega, by omega, bmo.1, bmo.2, fun wp wv waits H12 hwp rw12 lw okw b12 hm12 => ?_⟩
        have B12 := (b10.trans b11).trans b12
        have hD12 := B12 _ _ oD2.1 oD2.2 hD8
        have rt12 := RowsAt.tp (hm8.tp B12) rt
        walk_at "go"
        refine ⟨H0, m, r, a, ns, _, mn, rfl, hm12, by omega, by omega, fun ol2 os2 H13 io2 b13 hm13 nol2 hol2 => ?_⟩
        have ool2 := hm12.nem nol2
        walk_at "go"
        refine ⟨H0, m, r, a, ns, _, held + 1, rfl, hm13, by omega, by omega, by omega, fun n14 H14 n140 n141 b14 hm14 => ?_⟩
        obtain ⟨hn, rfl⟩ : ∃ n : Nat, n14 = (n : Int) := ⟨_, (Int.toNat_of_nonneg n140).symm⟩
        have hol14 := b14 _ _ ool2.1 ool2.2 hol2
        walk_at "go"
        rename_i lp nlp
        rw [cutV_loN, ← List.map_take] at *
        obtain ⟨fo, hfo, ffo, fnd, lfo⟩ : ∃ fo : List Int, os2.take hn = fo ∧ (∀ o ∈ fo, 0 ≤ o ∧ o < mn) ∧ fo.Nodup ∧ fo.length ≤ hn := ⟨_, rfl, fun o mo => io2.bd (List.mem_of_mem_take mo), io2.nodup.sublist (List.take_sublist _ _), by rw [List.length_take]; omega⟩
        rw [hfo]
        have y15 := Ex.new (o := .lst (fo.map V.int)) nlp
        have hlp : L2.upd H14 lp (.lst (fo.map V.int)) lp = some (.lst (fo.map V.int)) := upd_same
        have olp := hm14.nem nlp
        have hm15 := hm14.ex y15
        have B15 : ButM m r H12 (L2.upd H14 lp (.lst (fo.map V.int))) := (b13.trans b14).ex y15
        generalize L2.upd H14 lp (.lst (fo.map V.int)) = H15 at y15 hlp hm15 B15 ⊢
        intro D3 nD3
        have oD3 := hm15.nem nD3
        have nD30 := hm15.new nD3
        have xD3 := Ex.new (o := .lst []) nD3
        have hmD3 := hm15.ex xD3
        refine lcp_list (xs := fo.map V.int) (fun i H' => ∃ (fv : List V) (fx : List (Int × Int)) (c' : Int), ButM m r H15 H' ∧ MAt K H0 H' m r a ns c' ∧ c' ≤ c + 1820 + i ∧ H' D3 = some (.lst fv) ∧ RowsAt fixD H' fv fx ∧ fx.map (·.1) = fo.take i ∧ ∀ x ∈ fx, ∃ (j : Nat) (t : Tk), x.1 = (j : Int) ∧ tasks[j]? = some t ∧ t.frm ≤ x.2 ∧ x.2 ≤ t.frm + 30)
          ⟨[], [], _, ButM.of xD3, hmD3, by omega, upd_same, .nil, rfl, fun _ h => nomatch h⟩ (fun i H' _ h => by
            obtain ⟨_, _, _, b, _⟩ := h
            exact b _ _ olp.1 olp.2 hlp) ?_ ?_
        · rintro i x H16 hx ⟨fv, fx, c16, b16, hm16, cc16, hD16, rf, ef, okf⟩
          rw [List.getElem?_map] at hx
          obtain ⟨o, ho, rfl⟩ := Option.map_eq_some_iff.mp hx
          have hi := (List.getElem?_eq_some_iff.mp ho).1
          obtain ⟨o0, o1⟩ := ffo o (List.mem_of_getElem? ho)
          obtain ⟨j, rfl⟩ : ∃ j : Nat, o = (j : Int) := ⟨_, (Int.toNat_of_nonneg o0).symm⟩
          have lfv := rf.len
          have lfx : fx.length = (fo.take i).length := by rw [← ef, List.length_map]
          rw [List.length_take] at lfx
          obtain ⟨t, ht⟩ : ∃ t, tasks[j]? = some t := ⟨_, List.getElem?_eq_getElem (by omega)⟩
          obtain ⟨v, hv⟩ : ∃ v, tv[j]? = some v := ⟨_, List.getElem?_eq_getElem (by omega)⟩
          have B16 := B15.trans b16
          have hD216 := B16 _ _ oD2.1 oD2.2 hD12
          obtain ⟨t', ht', tdt⟩ := (RowsAt.tp (hm12.tp B16) rt12).get hv
          obtain rfl : t = t' := Option.some.inj (ht.symm.trans ht')
          obtain ⟨tp, qa, oo, xs, rfl, htp, _⟩ := taskF_parts tdt
          obtain ⟨fr0, fr1⟩ := (ok t (List.mem_of_getElem? ht)).frm
          walk_at "go"
          refine q_ixL hD216 (atI_nat hv) ?_
          walk_at "go"
          refine ⟨H0, m, r, a, ns, _, 30, rfl, hm16, by omega, by decide, by omega, fun n17 H17 n170 n171 b17 hm17 => ?_⟩
          have hD17 := b17 _ _ oD3.1 oD3.2 hD16
          have rf17 := RowsAt.tp (hm16.tp b17) rf
          refine ⟨t.frm, n17, rfl, rfl, ?_⟩
          walk_at "go"
          rename_i up nup
          have zx := Ex.new (o := .tup [V.int j, V.int (t.frm + n17)]) nup
          have hD18 := zx _ _ hD17
          walk_at "go"
          refine ⟨fv ++ [.ref up], fx ++ [((j : Int), t.frm + n17)], _, ((b16.trans b17).ex zx).mut nD3, (hm17.ex zx).upd oD3.1 oD3.2 nD30, by omega, upd_same, ?_, ?_, fun y my => ?_⟩
          · refine RowsAt.tp (Tp.upd hD18) ?_
            unfold RowsAt
            rw [List.map_append]
            exact TDs.append (RowsAt.tp (Tp.ex zx) rf17) (.cons (.tup upd_same (.cons (.int _) (.cons (.int _) .nil))) .nil)
          · rw [take_snoc ho, List.map_append, ef]
            rfl
          · rcases List.mem_append.mp my with h | h
            · exact okf y h
            · rw [List.mem_singleton.mp h]
              exact ⟨j, t, rfl, ht, show t.frm ≤ t.frm + n17 by omega, show t.frm + n17 ≤ t.frm + 30 by omega⟩
        · rintro H16 ⟨fv, fx, c16, b16, hm16, cc16, hD16, rf, ef, okf⟩
          rw [List.length_map] at cc16 ef
          rw [List.take_length] at ef
          have lfv := rf.len
          have lfx : fx.length = fo.length := by rw [← ef, List.length_map]
          have B16 := B15.trans b16
          have C816 := B12.trans B16
          have C716 := b8.trans C816
          have hml16 := C716 _ _ oml.1 oml.2 hml7
          have hg16 := C716 _ _ oD.1 oD.2 hD7
          have rg16 := RowsAt.tp (hm7.tp C716) rg7
          have ht16 := B16 _ _ oD2.1 oD2.2 hD12
          have rt16 := RowsAt.tp (hm12.tp B16) rt12
          have tp1216 := hm12.tp B16
          walk_at "go"
          rename_i u1 nu1
          have z1 := Ex.new (o := .tup (ms.map V.str)) nu1
          refine ⟨D, gv, rfl, SqL.of (z1 _ _ hg16), fun u2 o2 nu2 od2 => ?_⟩
          have z2 := Ex.new (o := .frz o2 (.tup gv)) nu2
          have ht18 := (z1.trans z2) _ _ ht16
          have hf18 := (z1.trans z2) _ _ hD16
          walk_at "go"
          rename_i u3 nu3
          have z3 := Ex.new (o := .tup tv) nu3
          refine ⟨D3, fv, rfl, SqL.of (z3 _ _ hf18), fun u4 o4 nu4 od4 => ?_⟩
          have z4 := Ex.new (o := .frz o4 (.tup fv)) nu4
          walk_at "go"
          rename_i u5 nu5
          have z5 := Ex.new (o := .tup [V.ref u1, V.ref u2, V.ref u3, V.ref wp, V.ref u4]) nu5
          have w4 := z4.trans z5
          have w3 := z3.trans w4
          have w2 := z2.trans w3
          have w1 := z1.trans w2
          have BB : ButM m r H (L2.upd _ u5 (.tup [V.ref u1, V.ref u2, V.ref u3, V.ref wp, V.ref u4])) := (B7.trans C716).ex w1
          refine q (.ref u5) ⟨ms, goods, tasks, waits, fx⟩ _ ?_ ⟨by dsimp only; omega, by dsimp only; omega, by dsimp only; rw [en]; exact nd4 (by omega), bg, by dsimp only; omega, ok, lw, ⟨os, by dsimp only; rw [lt, lts]; exact io, okw⟩, by dsimp only; omega, by dsimp only; rw [ef]; exact fnd, okf⟩ BB ((hm16.ex w1).mono (by omega))
          refine .tup upd_same (.cons (.tup (w2 _ _ upd_same) (TDs.strs ms)) (.cons (.frz od2 (w3 _ _ upd_same) ?_) (.cons (.tup (w4 _ _ upd_same) ?_) (.cons (.tup (w1 _ _ (tp1216.tup _ _ hwp)) ?_) (.cons (.frz od4 (z5 _ _ upd_same) ?_) .nil)))))
          · exact RowsAt.tp (Tp.ex w1) rg16
          · exact RowsAt.tp (Tp.ex w1) rt16
          · exact RowsAt.tp (Tp.ex w1) (RowsAt.tp tp1216 rw12)
          · exact RowsAt.tp (Tp.ex w1) rf

end
end Bk24


namespace Bk24
open PySem PySem.Spec PyProof.Rows L2 Bs
open Evl (Ex)
section
variable {P : Program} {w : World} {K : PySem.W.Frag} {mg : Str → Option Value} {base : Heap}
/-! ### tasks met, the first hour -/
def lenOf (b : Bk) (t : Int) : Int := match b.tasks[t.toNat]? with
  | some k => k.len
  | none => 0
theorem taskM_at {H : Hp} {b : Bk} {txs : List V} {t : Int} (r : RowsAt taskFD H txs b.tasks) (t0 : 0 ≤ t) (t1 : t < b.tasks.length) : ∃ (p q : Addr) (o : Obj) (xs : List V) (k : Tk), atI txs t = some (.ref p) ∧ b.tasks[t.toNat]? = some k ∧ H p = some (.tup [.str k.name, .int k.len, .str k.mach, .ref q, .int k.frm, dueV k.due, .int k.wt]) ∧ o.dict = none ∧ H q = some (.frz o (.tup xs)) ∧ RowsAt goodD H xs k.needs ∧ lenOf b t = k.len := by
  obtain ⟨n, rfl⟩ : ∃ n : Nat, t = (n : Int) := ⟨_, (Int.toNat_of_nonneg t0).symm⟩
  have lt := r.len
  obtain ⟨tv, htv⟩ : ∃ tv, txs[n]? = some tv := ⟨_, List.getElem?_eq_getElem (by omega)⟩
  obtain ⟨k, hk, kd⟩ := r.get htv
  obtain ⟨p, q, o, xs, rfl, hp, od, hq, rn⟩ := taskF_parts kd
  exact ⟨p, q, o, xs, k, atI_nat htv, hk, hp, od, hq, rn, by unfold lenOf; rw [Int.toNat_natCast, hk]⟩
theorem filt_snoc {α : Type} {f : α → Bool} {xs : List α} {x : α} : (xs ++ [x]).filter f = if f x then xs.filter f ++ [x] else xs.filter f := by
  rw [List.filter_append, List.filter_cons]
  by_cases c : f x = true
  · rw [if_pos c, if_pos c]
    rfl
  · rw [if_neg c, if_neg c, List.filter_nil, List.append_nil]
/-- begins of some tasks -/
structure Beg (b : Bk) (H : Hp) (d : Addr) (kvs : List (Int × Int)) : Prop where
  at_ : H d = some (.dK (kvs.map kI))
  nd : (kvs.map (·.1)).Nodup
  in_ : ∀ p ∈ kvs, 0 ≤ p.1 ∧ p.1 < b.tasks.length
  few : kvs.length ≤ 30
def metB (b : Bk) (task hour : Int) (p : Int × Int) : Bool := decide (p.2 < hour + lenOf b task) && decide (hour < p.2 + lenOf b p.1)
def metK (b : Bk) (kvs : List (Int × Int)) (task hour : Int) : List (Int × Int) := (kvs.filter fun p => !decide (p.1 = task)).filter (metB b task hour)
def spMet (K : PySem.W.Frag) : Sp := fun vs H Q _ => ∃ (v : V) (b : Bk) (d : Addr) (kvs : List (Int × Int)) (task hour : Int), vs = [v, .ref d, .int task, .int hour] ∧ TD H v (bookM b) ∧ Beg b H d kvs ∧ 0 ≤ task ∧ task < b.tasks.length ∧
  ∀ (D : Addr) (H' : Hp), Ex H H' → H D = none → H' D = some (.lst (((metK b kvs task hour).map (·.1)).map V.int)) → Q (.ref D) H'
theorem ok__law_met (T : Tx K mg) : Cal P w K mg base 1 "_law_met" ["book", "begins", "task", "hour"] (spMet K) := by
  refine T.d__law_met.cal sc__law_met (fun vs H Q E h => ?_) (fun f cdv A outer s H vs Q E hr h => ?_)
  · obtain ⟨_, _, _, _, _, _, rfl, _⟩ := h
    rfl
  · obtain ⟨v, b, d, kvs, task, hour, rfl, td, bg, t0, t1, q⟩ := h
    obtain ⟨ba, mm, g, ta, wt, fx, rfl, hab, _, _, ⟨txs, ht, rt⟩, _, _⟩ := bookM_parts td
    obtain ⟨p, _, _, _, k, hat, hk, hp, _, _, _, ek⟩ := taskM_at rt t0 t1
    have nd := bg.nd
    have few := bg.few
    have hd := bg.at_
    refine ⟨_, (pss_cons (ps_set (i := 4) sc__law_met.nd rfl (.inr rfl) (pe_op op_add (pv 3) (pe_ix (ixT (K := K)) (pe_ix (ixT (K := K)) (pe_ix (ixT (K := K)) (pv 0) pe_int (fun _ _ => rfl)) (pv 2) (fun _ _ => rfl)) pe_int (fun _ _ => rfl))))
    (pss_cons (ps_lock (ps_setLc (i := 5) (own := [("other", 6)]) rfl sc__law_met.nd rfl rfl (sw_true rfl rfl rfl (by decide +kernel)) (pi_keys (pv 1)) (blkOk_by (own := [("other", 6)]) (N := N__law_met) (sc := defScope s__law_met) (by decide +kernel)) (fun _ _ _ _ _ => (pg_name (i := 6) sc__law_met.nd rfl (.inl rfl))) (fun _ _ _ _ _ => pts_one (pt_cmpR op_ne (pv 6) (pv 2) (nomark _))) (fun _ _ _ _ _ => (pv 6))))
    (pss_one (ps_ret (pe_lc (own := [("other", 6)]) rfl sc__law_met.nd (piLK (K := K) (pv 5)) (blkOk_by (own := [("other", 6)]) (N := N__law_met) (sc := defScope s__law_met) (by decide +kernel)) (fun _ _ _ _ _ => (pg_name (i := 6) sc__law_met.nd rfl (.inl rfl))) (fun _ _ _ _ _ => pts_one (PW.pt (pw_and (pt_cmpR op_lt (pe_dget (u1 hr.units) (pv 1) (pv 6) (fun _ _ => rfl)) (pv 4) (nomark _)) (pw_and1 (pt_cmpR op_lt (pv 3) (pe_op op_add (pe_dget (u1 hr.units) (pv 1) (pv 6) (fun _ _ => rfl)) (pe_ix (ixT (K := K)) (pe_ix (ixT (K := K)) (pe_ix (ixT (K := K)) (pv 0) pe_int (fun _ _ => rfl)) (pv 6) (fun _ _ => rfl)) pe_int (fun _ _ => rfl))) (nomark _)))))) (fun _ _ _ _ _ => (pv 6))))))), q_start (τ := [some _, some _, some _, some _, none, none, none]) rfl ?_⟩
    walk_at "go"
    refine q_ixT ht hat ?_
    walk_at "go"
    refine q_lock hd True.intro fun od => ?_
    have hdf : L2.upd H d (.frz od (.dK (kvs.map kI))) d = some (.frz od (.dK (kvs.map kI))) := upd_same
    have b4 : But d H (L2.upd H d (.frz od (.dK (kvs.map kI)))) := But.self
    generalize L2.upd H d (.frz od (.dK (kvs.map kI))) = H1 at hdf b4 ⊢
    walk_at "go"
    refine q_iKeys ?_
    walk_at "go"
    refine ⟨d, od, rfl, .inl ⟨_, hdf, fun M nM => ?_⟩⟩
    refine lcp_keysI (fun i H' => Ex H1 H' ∧ H' M = some (.lst ((((kvs.take i).filter fun p => !decide (p.1 = task)).map (·.1)).map V.int))) ⟨Ex.new nM, upd_same⟩ (fun i H' h => h.1 _ _ hdf) ?_ ?_
    · rintro i p H5 hp ⟨e5, hM5⟩
      have lf : (((kvs.take i).filter fun p => !decide (p.1 = task)).map (·.1)).length ≤ 1000 := by
        rw [List.length_map]
        refine Nat.le_trans (List.length_filter_le _ _) ?_
        rw [List.length_take]
        omega
      walk_at "go"
      by_cases c1 : p.1 = task
      · rw [decide_eq_true c1]
        refine ⟨e5, ?_⟩
        rw [take_snoc hp, filt_snoc, if_neg (by rw [decide_eq_true c1]; exact Bool.false_ne_true)]
        exact hM5
      · rw [decide_eq_false c1]
        walk_at "go"
        refine q_push hM5 (by rw [List.length_map]; omega) ?_
        refine ⟨e5.mut nM, ?_⟩
        rw [upd_same, take_snoc hp, filt_snoc, if_pos (by rw [decide_eq_false c1]; rfl)]
        simp only [List.map_append]
        rfl
    · rintro H5 ⟨e5, hM5⟩
      rw [List.take_length] at hM5
      refine ⟨e5 _ _ hdf, ?_⟩
      have e6 := (b4.ex e5).relock hd
      have hd6 : L2.upd H5 d (.dK (kvs.map kI)) d = some (.dK (kvs.map kI)) := upd_same
      have nMd : M ≠ d := (ne_of_none hdf nM).symm
      have hM6 : L2.upd H5 d (.dK (kvs.map kI)) M = some (.lst (((kvs.filter fun p => !decide (p.1 = task)).map (·.1)).map V.int)) := by rw [upd_ne nMd]; exact hM5
      generalize L2.upd H5 d (.dK (kvs.map kI)) = H6 at e6 hd6 hM6 ⊢
      obtain ⟨L, eL, mL⟩ : ∃ L, (kvs.filter fun p => !decide (p.1 = task)) = L ∧ ∀ p ∈ L, p ∈ kvs := ⟨_, rfl, fun p m => (List.mem_filter.mp m).1⟩
      have lL : L.length ≤ 30 := by
        have := List.length_filter_le (fun p : Int × Int => !decide (p.1 = task)) kvs
        rw [eL] at this
        omega
      rw [eL] at hM6
      walk_at "go"
      intro D nD
      refine lcp_list (xs := (L.map (·.1)).map V.int) (fun i H' => Ex H6 H' ∧ H' D = some (.lst ((((L.take i).filter (metB b task hour)).map (·.1)).map V.int))) ⟨Ex.new nD, upd_same⟩ (fun i H' _ h => h.1 _ _ hM6) ?_ ?_
      · rintro i x H7 hx ⟨e7, hD7⟩
        rw [List.map_map, List.getElem?_map] at hx
        obtain ⟨p, hp, rfl⟩ := Option.map_eq_some_iff.mp hx
        have mp := mL p (List.mem_of_getElem? hp)
        obtain ⟨p0, p1⟩ := bg.in_ p mp
        obtain ⟨pa, _, _, _, k2, hat2, hk2, hpa, _, _, _, ek2⟩ := taskM_at rt p0 p1
        have E7 := e6.trans e7
        have hd7 := e7 _ _ hd6
        have hab7 := E7 _ _ hab
        have ht7 := E7 _ _ ht
        have hpa7 := E7 _ _ hpa
        have lf : (((L.take i).filter (metB b task hour)).map (·.1)).length ≤ 1000 := by
          rw [List.length_map]
          refine Nat.le_trans (List.length_filter_le _ _) ?_
          rw [List.length_take]
          omega
        show TurnC _ _ _ _ _ D (.int p.1) _ H7
        walk_at "go"
        refine q_getI (.inl hd7) nd (v := p.2) mp ?_
        walk_at "go"
        refine q_ifD (fun c1 => ?_) (fun c1 => ?_)
        · walk_at "go"
          refine q_getI (.inl hd7) nd (v := p.2) mp ?_
          walk_at "go"
          refine q_ixT ht7 hat2 ?_
          walk_at "go"
          refine q_ifD (fun c2 => ?_) (fun c2 => ?_)
          · walk_at "go"
            refine q_push hD7 (by rw [List.length_map]; omega) ?_
            refine ⟨e7.mut nD, ?_⟩
            rw [upd_same, take_snoc hp, filt_snoc, if_pos (by unfold metB; rw [ek, ek2, decide_eq_true c1, decide_eq_true c2]; rfl)]
            simp only [List.map_append]
            rfl
          · refine ⟨e7, ?_⟩
            rw [take_snoc hp, filt_snoc, if_neg (by unfold metB; rw [ek, ek2, decide_eq_true c1, decide_eq_false c2]; exact Bool.false_ne_true)]
            exact hD7
        · refine ⟨e7, ?_⟩
          rw [take_snoc hp, filt_snoc, if_neg (by unfold metB; rw [ek, decide_eq_false c1, Bool.false_and]; exact Bool.false_ne_true)]
          exact hD7
      · rintro H7 ⟨e7, hD7⟩
        rw [List.length_map, List.length_map, List.take_length] at hD7
        walk_at "go"
        exact q D H7 (e6.trans e7) (Evl.fresh_back e6 nD) (by unfold metK; rw [eL]; exact hD7)

end
end Bk24


namespace Bk24
open PySem PySem.Spec PyProof.Rows L2 Bs
open Evl (Ex)
section
variable {P : Program} {w : World} {K : PySem.W.Frag} {mg : Str → Option Value} {base : Heap}
/-! ### the first hour -/
def bgOf (kvs : List (Int × Int)) (t : Int) : Int := match kvs.find? fun p => decide (p.1 = t) with
  | some p => p.2
  | none => 0
theorem bgOf_mem {t : Int} : ∀ {kvs : List (Int × Int)}, t ∈ kvs.map (·.1) → (t, bgOf kvs t) ∈ kvs
  | p :: r, h => by
    unfold bgOf
    rw [List.find?_cons]
    by_cases c : p.1 = t
    · rw [decide_eq_true c]
      rw [← c]
      exact List.mem_cons_self
    · rw [decide_eq_false c]
      refine List.mem_cons_of_mem _ (bgOf_mem (kvs := r) ?_)
      rcases List.mem_cons.mp h with e | e
      · exact absurd e.symm c
      · exact e
def frmOf (b : Bk) (t : Int) : Int := match b.tasks[t.toNat]? with
  | some k => k.frm
  | none => 0
theorem frmOf_eq {b : Bk} {t : Int} {k : Tk} (h : b.tasks[t.toNat]? = some k) : frmOf b t = k.frm := by
  unfold frmOf
  rw [h]
def aheadK (b : Bk) (kvs : List (Int × Int)) (task : Int) : List Int := (b.waits.filter fun x => decide (x.b = task)).map fun x => bgOf kvs x.a + lenOf b x.a + x.gap
def spFirst (K : PySem.W.Frag) : Sp := fun vs H Q _ => ∃ (v : V) (b : Bk) (d : Addr) (kvs : List (Int × Int)) (task : Int), vs = [v, .ref d, .int task] ∧ TD H v (bookM b) ∧ Beg b H d kvs ∧ 0 ≤ task ∧ task < b.tasks.length ∧ b.waits.length ≤ 60 ∧ (∀ x ∈ b.waits, x.b = task → x.a ∈ kvs.map (·.1)) ∧
  ∀ (n : Int) (H' : Hp), Ex H H' → n ∈ frmOf b task :: aheadK b kvs task → (∀ y ∈ frmOf b task :: aheadK b kvs task, y ≤ n) → Q (.int n) H'
theorem ok__law_first (T : Tx K mg) : Cal P w K mg base 1 "_law_first" ["book", "begins", "task"] (spFirst K) := by
  refine T.d__law_first.cal sc__law_first (fun vs H Q E h => ?_) (fun f cdv A outer s H vs Q E hr h => ?_)
  · obtain ⟨_, _, _, _, _, rfl, _⟩ := h
    rfl
  · obtain ⟨v, b, d, kvs, task, rfl, td, bg, t0, t1, w60, ah, q⟩ := h
    obtain ⟨ba, mm, g, ta, wt, fx, rfl, hab, _, _, ⟨txs, ht, rt⟩, ⟨wxs, hw, rw_⟩, _⟩ := bookM_parts td
    obtain ⟨p, _, _, _, k, hat, hk, hp, _⟩ := taskM_at rt t0 t1
    have nd := bg.nd
    have few := bg.few
    have hd := bg.at_
    have lw := rw_.len
    refine ⟨_, (pss_cons (ps_setLc (i := 3) (own := [("a", 4), ("b", 5), ("gap", 6)]) rfl sc__law_first.nd rfl rfl (sw_true rfl rfl rfl (by decide +kernel)) (piTK (K := K) (pe_ix (ixT (K := K)) (pv 0) pe_int (fun _ _ => rfl))) (blkOk_by (own := [("a", 4), ("b", 5), ("gap", 6)]) (N := N__law_first) (sc := defScope s__law_first) (by decide +kernel)) (fun _ _ _ _ _ => (pgTK (K := K) (n := 3) (by rfl) (pgs_cons (pg_name (i := 4) sc__law_first.nd rfl (.inl rfl)) (pgs_cons (pg_name (i := 5) sc__law_first.nd rfl (.inl rfl)) (pgs_cons (pg_name (i := 6) sc__law_first.nd rfl (.inl rfl)) pgs_nil))))) (fun _ _ _ _ _ => pts_one (pt_cmpR op_eq (pv 5) (pv 2) (nomark _))) (fun _ _ _ _ _ => (pe_op op_add (pe_op op_add (pe_dget (u1 hr.units) (pv 1) (pv 4) (fun _ _ => rfl)) (pe_ix (ixT (K := K)) (pe_ix (ixT (K := K)) (pe_ix (ixT (K := K)) (pv 0) pe_int (fun _ _ => rfl)) (pv 4) (fun _ _ => rfl)) pe_int (fun _ _ => rfl))) (pv 6))))
    (pss_one (ps_ret (pe_callB (au_max (K := K) rfl) (by rfl) T.b_max (by decide +kernel) (pa_cons (pe_op op_cat (pe_lst (pa_cons (pe_ix (ixT (K := K)) (pe_ix (ixT (K := K)) (pe_ix (ixT (K := K)) (pv 0) pe_int (fun _ _ => rfl)) (pv 2) (fun _ _ => rfl)) pe_int (fun _ _ => rfl)) pa_nil)) (pv 3)) pa_nil))))), q_start (τ := [some _, some _, some _, none, none, none, none]) rfl ?_⟩
    walk_at "go"
    intro D nD
    refine lcp_tup (xs := wxs) (fun i H' => Ex H H' ∧ H' D = some (.lst ((((b.waits.take i).filter fun x => decide (x.b = task)).map fun x => bgOf kvs x.a + lenOf b x.a + x.gap).map V.int))) ⟨Ex.new nD, upd_same⟩ (fun i H' _ h => h.1 _ _ hw) ?_ ?_
    · rintro i x H1 hx ⟨e1, hD1⟩
      obtain ⟨wa, hwa, wd⟩ := (RowsAt.tp (Tp.ex e1) rw_).get hx
      obtain ⟨wp, rfl, hwp⟩ := wait_parts wd
      have hi := (List.getElem?_eq_some_iff.mp hwa).1
      have lf : (((b.waits.take i).filter fun x => decide (x.b = task)).map fun x => bgOf kvs x.a + lenOf b x.a + x.gap).length ≤ 1000 := by
        rw [List.length_map]
        refine Nat.le_trans (List.length_filter_le _ _) ?_
        rw [List.length_take]
        omega
      walk_at "go"
      refine q_ifD (fun c1 => ?_) (fun c1 => ?_)
      · have ma := bgOf_mem (ah wa (List.mem_of_getElem? hwa) c1)
        obtain ⟨a0, a1⟩ := bg.in_ _ ma
        obtain ⟨pa, _, _, _, k2, hat2, hk2, hpa, _, _, _, ek2⟩ := taskM_at rt a0 a1
        have hd1 := e1 _ _ hd
        have hab1 := e1 _ _ hab
        have ht1 := e1 _ _ ht
        have hpa1 := e1 _ _ hpa
        walk_at "go"
        refine q_getI (.inl hd1) nd ma ?_
        walk_at "go"
        refine q_ixT ht1 hat2 ?_
        walk_at "go"
        refine q_push hD1 (by rw [List.length_map]; omega) ?_
        refine ⟨e1.mut nD, ?_⟩
        rw [upd_same, take_snoc hwa, filt_snoc, if_pos (by exact decide_eq_true c1), ← ek2]
        simp only [List.map_append]
        rfl
      · refine ⟨e1, ?_⟩
        rw [take_snoc hwa, filt_snoc, if_neg (by exact fun z => c1 (of_decide_eq_true z))]
        exact hD1
    · rintro H1 ⟨e1, hD1⟩
      rw [show wxs.length = b.waits.length by omega, List.take_length] at hD1
      have hab1 := e1 _ _ hab
      have ht1 := e1 _ _ ht
      have hp1 := e1 _ _ hp
      walk_at "go"
      refine q_ixT ht1 hat ?_
      walk_at "go"
      rename_i p1 np1
      have y1 := Ex.new (o := .lst [V.int k.frm]) np1
      have hp11 : L2.upd H1 p1 (.lst [V.int k.frm]) p1 = some (.lst [V.int k.frm]) := upd_same
      have hD2 := y1 _ _ hD1
      generalize L2.upd H1 p1 (.lst [V.int k.frm]) = H2 at y1 hp11 hD2 ⊢
      have la : (aheadK b kvs task).length ≤ 60 := by
        unfold aheadK
        rw [List.length_map]
        exact Nat.le_trans (List.length_filter_le _ _) w60
      have hD3 : H2 D = some (.lst ((aheadK b kvs task).map V.int)) := hD2
      refine q_catL hp11 hD3 (by rw [List.length_map]; simp; omega) fun p2 np2 => ?_
      have y2 := Ex.new (o := .lst ([V.int k.frm] ++ (aheadK b kvs task).map V.int)) np2
      walk_at "go"
      refine q_maxL (ns := frmOf b task :: aheadK b kvs task) (by rw [upd_same, frmOf_eq hk]; rfl) (Nat.succ_pos _) fun n mn le => ?_
      exact q n _ (e1.trans (y1.trans y2)) mn le

end
end Bk24


namespace Bk24
open PySem PySem.Spec PyProof.Rows L2 Bs
open Evl (Ex)
section
variable {P : Program} {w : World} {K : PySem.W.Frag} {mg : Str → Option Value} {base : Heap}
/-! ### whether a task may begin -/
def mergG (g : Str) : List (Str × Int) → Int
  | [] => 0
  | n :: r => (if n.1 = g then n.2 else 0) + mergG g r
def kvN (ns : List (Str × Int)) : List (Key × V) := ns.map fun n => (.inr n.1, .int n.2)
theorem mergG_off {g : Str} : ∀ {ns : List (Str × Int)}, g ∉ ns.map (·.1) → mergG g ns = 0
  | [], _ => rfl
  | n :: r, h => by
    rw [List.map_cons, List.mem_cons, not_or] at h
    unfold mergG
    rw [if_neg (fun e => h.1 e.symm), mergG_off h.2]
    rfl
theorem merge_keep {g : Str} {x : V} : ∀ {ns : List (Str × Int)} {acc : List (Key × V)}, g ∉ ns.map (·.1) → valV acc (.inr g) = some x → valV (mergeK acc (kvN ns)) (.inr g) = some x
  | [], _, _, h => h
  | n :: r, acc, hn, h => by
    rw [List.map_cons, List.mem_cons, not_or] at hn
    refine merge_keep (ns := r) (acc := putK acc (.inr n.1) (.int n.2)) hn.2 ?_
    rw [valV_put, if_neg (fun e => hn.1 (Sum.inr.inj e))]
    exact h
theorem merge_get {g : Str} : ∀ {ns : List (Str × Int)} {acc : List (Key × V)}, (ns.map (·.1)).Nodup → valV acc (.inr g) = none → (valV (mergeK acc (kvN ns)) (.inr g)).getD (.int 0) = .int (mergG g ns)
  | [], acc, _, h => by
    show (valV acc (.inr g)).getD (.int 0) = _
    rw [h]
    rfl
  | n :: r, acc, nd, h => by
    obtain ⟨n1, n2⟩ := List.nodup_cons.mp nd
    show (valV (mergeK (putK acc (.inr n.1) (.int n.2)) (kvN r)) (.inr g)).getD (.int 0) = _
    unfold mergG
    by_cases e : n.1 = g
    · have k : valV (putK acc (.inr n.1) (.int n.2)) (.inr g) = some (.int n.2) := by
        rw [valV_put, if_pos (by rw [e])]
      rw [merge_keep (by rw [← e]; exact n1) k, if_pos e, mergG_off (by rw [← e]; exact n1), Int.add_zero]
      rfl
    · have k : valV (putK acc (.inr n.1) (.int n.2)) (.inr g) = none := by
        rw [valV_put, if_neg (fun z => e (Sum.inr.inj z).symm)]
        exact h
      rw [merge_get n2 k, if_neg e, Int.zero_add]
theorem pairs_good {K : PySem.W.Frag} {H : Hp} : ∀ {ns : List (Str × Int)} {xs : List V}, RowsAt goodD H xs ns → ∃ ps : List Addr, xs = ps.map V.ref ∧ Paired (fun (p : Addr) (kv : Key × V) => SqT K H p [kV kv.1, kv.2]) ps (kvN ns)
  | [], xs, h => by
    cases h
    exact ⟨[], rfl, .nil⟩
  | n :: ns, xs, h => by
    cases h with
    | cons h1 h2 =>
      obtain ⟨p, rfl, hp⟩ := good_at h1
      obtain ⟨ps, rfl, r⟩ := pairs_good (K := K) h2
      exact ⟨p :: ps, rfl, .cons (SqT.of hp) r⟩
theorem merge_some {g : Str × Int} : ∀ {ns : List (Str × Int)} {acc : List (Key × V)}, (ns.map (·.1)).Nodup → g ∈ ns → valV (mergeK acc (kvN ns)) (.inr g.1) = some (.int g.2)
  | n :: r, acc, nd, h => by
    obtain ⟨n1, n2⟩ := List.nodup_cons.mp nd
    show valV (mergeK (putK acc (.inr n.1) (.int n.2)) (kvN r)) (.inr g.1) = _
    rcases List.mem_cons.mp h with e | e
    · subst e
      exact merge_keep n1 (by rw [valV_put, if_pos rfl])
    · exact merge_some n2 e
theorem loop_tupF {K : PySem.W.Frag} {H : Hp} {σ : L2.St} {g : TG} {tb : TS} {nx : L2.St → Hp → Prop} {rt : VK} {a : Addr} {xs : List V} (Pv : Nat → L2.St → Hp → Prop) (h0 : Pv 0 σ H) (hl : ∀ i σ H, i ≤ xs.length → Pv i σ H → SqT K H a xs)
    (hs : ∀ i x σ H, xs[i]? = some x → Pv i σ H → g x σ H fun σ2 H2 => tb ⟨Pv (i + 1), rt, nx, Pv (i + 1)⟩ σ2 H2) (hd : ∀ σ H, Pv xs.length σ H → nx σ H) : Loop (Itt K a) g tb nx rt σ H :=
  for_tup (D := ⟨nx, rt, fun _ _ => False, fun _ _ => False⟩) Pv h0 hl hs hd
def Clear (b : Bk) (kvs : List (Int × Int)) (task hour : Int) : Prop := metK b kvs task hour = []
def spFree (K : PySem.W.Frag) : Sp := fun vs H Q _ => ∃ (v : V) (b : Bk) (d : Addr) (kvs : List (Int × Int)) (task hour most long held : Int), vs = [v, .ref d, .int task, .int hour] ∧ TD H v (bookM b) ∧ MBk b most long held ∧ Beg b H d kvs ∧ 0 ≤ task ∧ task < b.tasks.length ∧
  ∀ (c : Bool) (H' : Hp), Ex H H' → (Clear b kvs task hour → c = true) → Q (.bl c) H'
theorem ok__law_is_free (T : Tx K mg) : Cal P w K mg base 2 "_law_is_free" ["book", "begins", "task", "hour"] (spFree K) := by
  have G__law_met : Cal P w K mg base 1 "_law_met" ["book", "begins", "task", "hour"] (spMet K) := ok__law_met T
  refine T.d__law_is_free.cal sc__law_is_free (fun vs H Q E h => ?_) (fun f cdv A outer s H vs Q E hr h => ?_)
  · obtain ⟨_, _, _, _, _, _, _, _, _, rfl, _⟩ := h
    rfl
  · obtain ⟨v, b, d, kvs, task, hour, most, long, held, rfl, td, mb, bg, t0, t1, q⟩ := h
    obtain ⟨ba, mm, g, ta, wt, fx, rfl, hab, _, ⟨gxs, ⟨go, god, hg⟩, rg⟩, ⟨txs, ht, rt⟩, _, _⟩ := bookM_parts td
    obtain ⟨p, nq, no, nxs, k, hat, hk, hp, nod, hnq, rn, _⟩ := taskM_at rt t0 t1
    have nd := bg.nd
    have few := bg.few
    have hd := bg.at_
    have mk := mb.task k (List.mem_of_getElem? hk)
    refine ⟨_, (pss_cons (ps_set (i := 4) sc__law_is_free.nd rfl (.inl rfl) (pe_cal G__law_met hr (by rfl) (pa_cons (pv 0) (pa_cons (pv 1) (pa_cons (pv 2) (pa_cons (pv 3) pa_nil))))))
    (pss_cons (ps_set (i := 5) sc__law_is_free.nd rfl (.inl rfl) (pe_ix (ixT (K := K)) (pe_ix (ixT (K := K)) (pv 0) pe_int (fun _ _ => rfl)) (pv 2) (fun _ _ => rfl)))
    (pss_cons (ps_if (PW.pt (pw_and (pt_cmpR op_ne (pe_ix (ixT (K := K)) (pv 5) pe_int (fun _ _ => rfl)) pe_str (nomark _)) (pw_and1 (pt_cmpR (inSK (K := K)) (pe_ix (ixT (K := K)) (pv 5) pe_int (fun _ _ => rfl)) (pe_lc (own := [("other", 10)]) rfl sc__law_is_free.nd (piLK (K := K) (pv 4)) (blkOk_by (own := [("other", 10)]) (N := N__law_is_free) (sc := defScope s__law_is_free) (by decide +kernel)) (fun _ _ _ _ _ => (pg_name (i := 10) sc__law_is_free.nd rfl (.inl rfl))) (fun _ _ _ _ _ => pts_nil) (fun _ _ _ _ _ => (pe_ix (ixT (K := K)) (pe_ix (ixT (K := K)) (pe_ix (ixT (K := K)) (pv 0) pe_int (fun _ _ => rfl)) (pv 10) (fun _ _ => rfl)) pe_int (fun _ _ => rfl)))) (by rfl))))) (pss_one (ps_ret pe_bl)) pss_nil)
    (pss_cons (ps_for PassesOwn.never rfl (piTK (K := K) (pe_ix (ixT (K := K)) (pv 5) pe_int (fun _ _ => rfl))) (pgTK (K := K) (n := 2) (by rfl) (pgs_cons (pg_name (i := 6) sc__law_is_free.nd rfl (.inr rfl)) (pgs_cons (pg_name (i := 7) sc__law_is_free.nd rfl (.inl rfl)) pgs_nil))) (pss_one (ps_for PassesOwn.never rfl (piLK (K := K) (pe_op op_cat (pe_lst (pa_cons (pv 3) pa_nil)) (pe_lc (own := [("other", 10)]) rfl sc__law_is_free.nd (piLK (K := K) (pv 4)) (blkOk_by (own := [("other", 10)]) (N := N__law_is_free) (sc := defScope s__law_is_free) (by decide +kernel)) (fun _ _ _ _ _ => (pg_name (i := 10) sc__law_is_free.nd rfl (.inl rfl))) (fun _ _ _ _ _ => pts_one (pt_cmpR op_gt (pe_dget (u1 hr.units) (pv 1) (pv 10) (fun _ _ => rfl)) (pv 3) (nomark _))) (fun _ _ _ _ _ => (pe_dget (u1 hr.units) (pv 1) (pv 10) (fun _ _ => rfl)))))) (pg_name (i := 8) sc__law_is_free.nd rfl (.inr rfl)) (pss_cons (ps_setLc (i := 9) (own := [("other", 10)]) rfl sc__law_is_free.nd rfl rfl (sw_true rfl rfl rfl (by decide +kernel)) (piLK (K := K) (pv 4)) (blkOk_by (own := [("other", 10)]) (N := N__law_is_free) (sc := defScope s__law_is_free) (by decide +kernel)) (fun _ _ _ _ _ => (pg_name (i := 10) sc__law_is_free.nd rfl (.inl rfl))) (fun _ _ _ _ _ => pts_one (pt_chain op_le op_lt (pe_dget (u1 hr.units) (pv 1) (pv 10) (fun _ _ => rfl)) (pv 8) (pe_op op_add (pe_dget (u1 hr.units) (pv 1) (pv 10) (fun _ _ => rfl)) (pe_ix (ixT (K := K)) (pe_ix (ixT (K := K)) (pe_ix (ixT (K := K)) (pv 0) pe_int (fun _ _ => rfl)) (pv 10) (fun _ _ => rfl)) pe_int (fun _ _ => rfl))))) (fun _ _ _ _ _ => (pv 10)))
    (pss_one (ps_if (pt_cmpR op_gt (pe_op op_add (pv 7) (pe_callB (au_sum (K := K) rfl) (by rfl) T.b_sum (by decide +kernel) (pa_cons (pe_lc (own := [("other", 10)]) rfl sc__law_is_free.nd (piLK (K := K) (pv 9)) (blkOk_by (own := [("other", 10)]) (N := N__law_is_free) (sc := defScope s__law_is_free) (by decide +kernel)) (fun _ _ _ _ _ => (pg_name (i := 10) sc__law_is_free.nd rfl (.inl rfl))) (fun _ _ _ _ _ => pts_nil) (fun _ _ _ _ _ => (pe_dget2 (u1 hr.units) (pe_callTy (cr_dictF (K := K) rfl) (by rfl) T.b_dict (by decide +kernel) (pa_cons (pe_ix (ixT (K := K)) (pe_ix (ixT (K := K)) (pe_ix (ixT (K := K)) (pv 0) pe_int (fun _ _ => rfl)) (pv 10) (fun _ _ => rfl)) pe_int (fun _ _ => rfl)) pa_nil)) (pv 6) pe_int ⟨rfl, rfl, rfl, rfl⟩))) pa_nil))) (pe_dget (u1 hr.units) (pe_callTy (cr_dictF (K := K) rfl) (by rfl) T.b_dict (by decide +kernel) (pa_cons (pe_ix (ixT (K := K)) (pv 0) pe_int (fun _ _ => rfl)) pa_nil)) (pv 6) (fun _ _ => rfl)) (nomark _)) (pss_one (ps_ret pe_bl)) pss_nil))))))
    (pss_one (ps_ret pe_bl)))))), q_start (τ := [some _, some _, some _, some _, none, none, none, none, none, none, none]) rfl ?_⟩
    walk_at "go"
    refine ⟨_, b, d, kvs, task, hour, rfl, td, bg, t0, t1, fun M H1 e1 nM hM1 => ?_⟩
    obtain ⟨ms, ems, ims, lms⟩ : ∃ ms : List Int, (metK b kvs task hour).map (·.1) = ms ∧ (∀ o ∈ ms, o ∈ kvs.map (·.1)) ∧ ms.length ≤ 30 := ⟨_, rfl, fun o mo => by
      obtain ⟨p, mp, rfl⟩ := List.mem_map.mp mo
      exact List.mem_map_of_mem (List.mem_filter.mp (List.mem_filter.mp mp).1).1, by
      rw [List.length_map]
      have h1 := List.length_filter_le (metB b task hour) (kvs.filter fun p => !decide (p.1 = task))
      have h2 := List.length_filter_le (fun p : Int × Int => !decide (p.1 = task)) kvs
      unfold metK
      omega⟩
    have ecl : Clear b kvs task hour → ms = [] := fun c => by
      rw [← ems, show metK b kvs task hour = [] from c]
      rfl
    rw [ems] at hM1
    have hab1 := e1 _ _ hab
    have ht1 := e1 _ _ ht
    have hp1 := e1 _ _ hp
    walk_at "go"
    refine q_ixT ht1 hat ?_
    walk_at "go"
    have hkeys : ∀ o ∈ ms, 0 ≤ o ∧ o < b.tasks.length := fun o mo => by
      obtain ⟨p, mp, rfl⟩ := List.mem_map.mp (ims o mo)
      exact bg.in_ p mp
    by_cases c0 : k.mach = Str.ofString ""
    case' pos =>
      rw [decide_eq_true c0, if_neg (by decide)]
      have e2 := e1
      have hM2 := hM1
      generalize H1 = H2 at e2 hM2 ⊢
    case' neg =>
      rw [decide_eq_false c0, if_pos (by decide)]
      walk_at "go"
      intro C nC
      refine lcp_list (xs := ms.map V.int) (fun i H' => Ex H1 H' ∧ ∃ ss : List Str, H' C = some (.lst (ss.map V.str)) ∧ ss.length = i) ⟨Ex.new nC, [], upd_same, rfl⟩ (fun i H' _ h => h.1 _ _ hM1) ?_ ?_
      · rintro i x H3 hx ⟨e3, ss, hC3, ls⟩
        obtain ⟨o, ho, rfl⟩ := map_get hx
        obtain ⟨o0, o1⟩ := hkeys o (List.mem_of_getElem? ho)
        obtain ⟨pa, _, _, _, k2, hat2, hk2, hpa, _⟩ := taskM_at rt o0 o1
        have hi := (List.getElem?_eq_some_iff.mp ho).1
        have E3 := e1.trans e3
        have hab3 := E3 _ _ hab
        have ht3 := E3 _ _ ht
        have hpa3 := E3 _ _ hpa
        walk_at "go"
        refine q_ixT ht3 hat2 ?_
        walk_at "go"
        exact ⟨e3.mut nC, ss ++ [k2.mach], by rw [upd_same, List.map_append]; rfl, by rw [List.length_append, ls]; rfl⟩
      rintro H2 ⟨e12, ss, hC2, ls⟩
      rw [List.length_map] at ls
      have e2 := e1.trans e12
      have hM2 := e12 _ _ hM1
      refine ⟨C, _, rfl, .inl (SqL.of hC2), rfl, Bs.flat_strs ss, ?_⟩
      obtain ⟨cc, hcc, ecc⟩ : ∃ cc, inV (V.str k.mach) (ss.map V.str) = cc ∧ (ms = [] → cc = false) := ⟨_, rfl, fun e => by
        rw [e] at ls
        rw [List.eq_nil_of_length_eq_zero ls]
        rfl⟩
      rw [if_neg Bool.false_ne_true, hcc]
      by_cases cx : cc = true
      · rw [cx]
        walk_at "go"
        exact q false H2 e2 fun z => by
          have := ecc (ecl z)
          rw [cx] at this
          cases this
      rw [Bool.eq_false_iff.mpr cx]
      clear cx hcc ecc hC2 ls e12 nC
    all_goals (have hp2 := e2 _ _ hp)
    all_goals (have hab2 := e2 _ _ hab)
    all_goals (have ht2 := e2 _ _ ht)
    all_goals (have hnq2 := e2 _ _ hnq)
    all_goals (have rn2 := RowsAt.tp (Tp.ex e2) rn)
    all_goals (walk_at "go")
    all_goals (refine ⟨nq, rfl, ⟨nxs, SqT.fz ⟨no, nod, hnq2⟩⟩, ?_⟩)
    all_goals (refine loop_tupF (xs := nxs) (fun i σ H' => ∃ t6 t7 t8 t9 : Option V, σ = [some (.ref ba), some (.ref d), some (.int task), some (.int hour), some (.ref M), some (.ref p), t6, t7, t8, t9, none] ∧ Ex H2 H') ⟨_, _, _, _, rfl, Ex.refl _⟩ (fun i σ H' _ h => by
      obtain ⟨_, _, _, _, _, e⟩ := h
      exact SqT.fz ⟨no, nod, e _ _ hnq2⟩) ?_ (by
        rintro σ H3 ⟨t6, t7, t8, t9, rfl, e3⟩
        walk_at "go"
        exact q true H3 (e2.trans e3) fun _ => rfl))
    all_goals (rintro i x σ H3 hx ⟨t6, t7, t8, t9, rfl, e3⟩)
    all_goals (obtain ⟨n, hn, gd⟩ := (RowsAt.tp (Tp.ex e3) rn2).get hx)
    all_goals (obtain ⟨pg, rfl, hpg⟩ := good_at gd)
    all_goals (obtain ⟨n1, gg, mgg, egn, nle⟩ := mk.needs n (List.mem_of_getElem? hn))
    all_goals (have E3 := e2.trans e3)
    all_goals (have hM3 := e3 _ _ hM2)
    all_goals (have hd3 := E3 _ _ hd)
    all_goals (walk_at "go")
    all_goals (rename_i l1 nl1)
    all_goals (have y1 := Ex.new (o := .lst [V.int hour]) nl1)
    all_goals (have hl1 : L2.upd H3 l1 (.lst [V.int hour]) l1 = some (.lst [V.int hour]) := upd_same)
    all_goals (generalize L2.upd H3 l1 (.lst [V.int hour]) = H4 at y1 hl1 ⊢)
    all_goals (intro D nD)
    all_goals (refine lcp_list (xs := ms.map V.int) (fun i H' => Ex H4 H' ∧ ∃ hs : List Int, H' D = some (.lst (hs.map V.int)) ∧ hs.length ≤ i) ⟨Ex.new nD, [], upd_same, Nat.le_refl _⟩ (fun i H' _ h => h.1 _ _ (y1 _ _ hM3)) (by
      rintro i x H5 hx ⟨e5, hs, hD5, ls⟩
      obtain ⟨o, ho, rfl⟩ := map_get hx
      have ma := bgOf_mem (ims o (List.mem_of_getElem? ho))
      have hi := (List.getElem?_eq_some_iff.mp ho).1
      have hd5 := e5 _ _ (y1 _ _ hd3)
      walk_at "go"
      refine q_getI (.inl hd5) nd ma ?_
      walk_at "go"
      refine q_ifD (fun c1 => ?_) (fun c1 => ?_)
      · walk_at "go"
        refine q_getI (.inl hd5) nd ma ?_
        walk_at "go"
        exact ⟨e5.mut nD, hs ++ [bgOf kvs o], by rw [upd_same, List.map_append]; rfl, by rw [List.length_append]; show hs.length + 1 ≤ i + 1; omega⟩
      · exact ⟨e5, hs, hD5, by omega⟩) ?_)
    all_goals (rintro H5 ⟨e5, hs, hD5, ls⟩)
    all_goals (rw [List.length_map] at ls)
    all_goals (refine q_catL (e5 _ _ hl1) hD5 (by rw [List.length_map]; simp; omega) fun p2 np2 => ?_)
    all_goals (have y2 := Ex.new (o := .lst ([V.int hour] ++ hs.map V.int)) np2)
    all_goals (have hp2' : L2.upd H5 p2 (.lst ([V.int hour] ++ hs.map V.int)) p2 = some (.lst ((hour :: hs).map V.int)) := upd_same)
    all_goals (have E6 := ((E3.trans y1).trans e5).trans y2)
    all_goals (have e6 := ((e3.trans y1).trans e5).trans y2)
    all_goals (have hM6 := (y1.trans (e5.trans y2)) _ _ hM3)
    all_goals (generalize L2.upd H5 p2 (.lst ([V.int hour] ++ hs.map V.int)) = H6 at y2 hp2' E6 e6 hM6 ⊢)
    all_goals (walk_at "go")
    all_goals (refine loop_list (xs := (hour :: hs).map V.int) (fun i σ H' => ∃ t8 t9 : Option V, σ = [some (.ref ba), some (.ref d), some (.int task), some (.int hour), some (.ref M), some (.ref p), some (.str n.1), some (.int n.2), t8, t9, none] ∧ Ex H6 H') ⟨_, _, rfl, Ex.refl _⟩ (fun i σ H' _ h => by
      obtain ⟨_, _, _, e⟩ := h
      exact e _ _ hp2') ?_ (by
        rintro σ H7 ⟨t8, t9, rfl, e7⟩
        walk_at "go"
        exact ⟨_, _, _, _, rfl, e6.trans e7⟩))
    all_goals (rintro i x σ H7 hx ⟨t8, t9, rfl, e7⟩)
    all_goals (obtain ⟨at_, _, rfl⟩ := map_get hx)
    all_goals (have E7 := E6.trans e7)
    all_goals (have e67 := e6.trans e7)
    all_goals (have hM7 := e7 _ _ hM6)
    all_goals (walk_at "go")
    all_goals (intro S nS)
    all_goals (refine lcp_list (xs := ms.map V.int) (fun i H' => Ex H7 H' ∧ ∃ so : List Int, H' S = some (.lst (so.map V.int)) ∧ so.length ≤ i ∧ ∀ o ∈ so, o ∈ ms) ⟨Ex.new nS, [], upd_same, Nat.le_refl _, fun _ h => nomatch h⟩ (fun i H' _ h => h.1 _ _ hM7) (by
      rintro i x H8 hx ⟨e8, so, hS8, ls, mso⟩
      obtain ⟨o, ho, rfl⟩ := map_get hx
      have ma := bgOf_mem (ims o (List.mem_of_getElem? ho))
      have hi := (List.getElem?_eq_some_iff.mp ho).1
      have E8 := E7.trans e8
      have hd8 := E8 _ _ hd
      have hab8 := E8 _ _ hab
      have ht8 := E8 _ _ ht
      obtain ⟨o0, o1⟩ := hkeys o (List.mem_of_getElem? ho)
      obtain ⟨pa, _, _, _, k2, hat2, hk2, hpa, _⟩ := taskM_at rt o0 o1
      have hpa8 := E8 _ _ hpa
      walk_at "go"
      refine q_getI (.inl hd8) nd ma ?_
      walk_at "go"
      have hno : Ex H7 H8 ∧ ∃ so : List Int, H8 S = some (.lst (so.map V.int)) ∧ so.length ≤ i + 1 ∧ ∀ o ∈ so, o ∈ ms := ⟨e8, so, hS8, by omega, mso⟩
      refine q_ifD (fun c1 => ?_) (fun c1 => ?_)
      · walk_at "go"
        refine q_getI (.inl hd8) nd ma ?_
        walk_at "go"
        refine q_ixT ht8 hat2 ?_
        walk_at "go"
        refine q_ifD (fun c2 => ?_) (fun c2 => ?_)
        · walk_at "go"
          exact ⟨e8.mut nS, so ++ [o], by rw [upd_same, List.map_append]; rfl, by rw [List.length_append]; show so.length + 1 ≤ i + 1; omega, fun y my => by
            rcases List.mem_append.mp my with h | h
            · exact mso y h
            · rw [List.mem_singleton.mp h]
              exact List.mem_of_getElem? ho⟩
        · exact hno
      · refine ⟨false, rfl, ?_⟩
        exact hno) ?_)
    all_goals (rintro H8 ⟨e8, so, hS8, ls, mso⟩)
    all_goals (rw [List.length_map] at ls)
    all_goals (walk_at "go")
    all_goals (intro Z nZ)
    all_goals (have E8 := E7.trans e8)
    all_goals (refine lcp_list (xs := so.map V.int) (fun i H' => Ex H8 H' ∧ ∃ zs : List Int, H' Z = some (.lst (zs.map V.int)) ∧ zs.length ≤ i) ⟨Ex.new nZ, [], upd_same, Nat.le_refl _⟩ (fun i H' _ h => h.1 _ _ hS8) (by
      rintro i x H9 hx ⟨e9, zs, hZ9, ls9⟩
      obtain ⟨o, ho, rfl⟩ := map_get hx
      have mo := mso o (List.mem_of_getElem? ho)
      have hi := (List.getElem?_eq_some_iff.mp ho).1
      have E9 := E8.trans e9
      have hab9 := E9 _ _ hab
      have ht9 := E9 _ _ ht
      obtain ⟨o0, o1⟩ := hkeys o mo
      obtain ⟨pa, qa, oa, xa, k2, hat2, hk2, hpa, oad, hqa, rna, _⟩ := taskM_at (RowsAt.tp (Tp.ex E9) rt) o0 o1
      walk_at "go"
      refine q_dget2m ?_
      walk_at "go"
      refine q_ixT ht9 hat2 ?_
      walk_at "go"
      obtain ⟨ps, rfl, hps⟩ := pairs_good (K := K) rna
      have mk2 := mb.task k2 (List.mem_of_getElem? hk2)
      refine ⟨qa, oa, ps, kvN k2.needs, rfl, oad, hqa, hps, fun dp ndp => ?_⟩
      have z := Ex.new (o := .dK (mergeK [] (kvN k2.needs))) ndp
      have hdp : L2.upd H9 dp (.dK (mergeK [] (kvN k2.needs))) dp = some (.dK (mergeK [] (kvN k2.needs))) := upd_same
      have hZ10 := z _ _ hZ9
      generalize L2.upd H9 dp (.dK (mergeK [] (kvN k2.needs))) = H10 at z hdp hZ10 ⊢
      refine ⟨dp, rfl, .inl ⟨_, .inl hdp⟩, ?_⟩
      walk_at "go"
      refine ⟨_, DGet.k (k := .inr n.1) hdp, ?_⟩
      rw [merge_get (mb.names.sublist mk2.names) rfl]
      walk_at "go"
      exact ⟨(e9.trans z).mut nZ, zs ++ [mergG n.1 k2.needs], by rw [upd_same, List.map_append]; rfl, by rw [List.length_append]; show zs.length + 1 ≤ i + 1; omega⟩) ?_)
    all_goals (rintro H9 ⟨e9, zs, hZ9, lz⟩)
    all_goals (rw [List.length_map] at lz)
    all_goals (have E9 := E8.trans e9)
    all_goals (have hab9 := E9 _ _ hab)
    all_goals (walk_at "go")
    all_goals (obtain ⟨gs, eg, hgs⟩ := pairs_good (K := K) (RowsAt.tp (Tp.ex E9) rg))
    all_goals (refine ⟨g, go, gs, kvN b.goods, rfl, god, by rw [← eg]; exact E9 _ _ hg, hgs, fun dp ndp => ?_⟩)
    all_goals (have zz := Ex.new (o := .dK (mergeK [] (kvN b.goods))) ndp)
    all_goals (have hdp : L2.upd H9 dp (.dK (mergeK [] (kvN b.goods))) dp = some (.dK (mergeK [] (kvN b.goods))) := upd_same)
    all_goals (have E10 := E9.trans zz)
    all_goals (have e610 := ((e7.trans e8).trans e9).trans zz)
    all_goals (generalize L2.upd H9 dp (.dK (mergeK [] (kvN b.goods))) = H10 at zz hdp E10 e610 ⊢)
    all_goals (have hget : DGet H10 dp (.str n.1) (some (.int gg.2)) := (by
      rw [← merge_some (acc := []) mb.names mgg, egn]
      exact DGet.k (k := .inr n.1) hdp))
    all_goals (walk_at "go")
    all_goals (refine ⟨dp, .int gg.2, rfl, hget, ?_⟩)
    all_goals (walk_at "go")
    all_goals (refine q_ifD (fun c9 => ?_) (fun c9 => ?_))
    all_goals first
      | (walk_at "go"
         refine q false H10 E10 fun z => ?_
         have e0 := ecl z
         subst e0
         have z0 : zs = [] := List.eq_nil_of_length_eq_zero (by
           have : ([] : List Int).length = 0 := rfl
           omega)
         subst z0
         have : ([] : List Int).sum = 0 := rfl
         omega)
      | (walk_at "go"
         exact ⟨_, _, rfl, e610⟩)

end
end Bk24


namespace Bk24
open PySem PySem.Spec PyProof.Rows L2 Bs
open Evl (Ex)
section
variable {P : Program} {w : World} {K : PySem.W.Frag} {mg : Str → Option Value} {base : Heap}
/-! ### begins by a row of tasks -/
theorem merge_kI : ∀ {r acc : List (Int × Int)}, ((acc ++ r).map (·.1)).Nodup → mergeK (acc.map kI) (r.map kI) = (acc ++ r).map kI
  | [], acc, _ => by
    rw [List.append_nil]
    rfl
  | p :: r, acc, nd => by
    have e : (acc ++ p :: r) = (acc ++ [p]) ++ r := by rw [List.append_assoc]; rfl
    show mergeK (putK (acc.map kI) (Sum.inl p.1) (.int p.2)) (r.map kI) = _
    rw [kI_put (fun h => by
      rw [List.map_append, List.map_cons] at nd
      exact (List.nodup_append.mp nd).2.2 _ h _ List.mem_cons_self rfl), e]
    rw [e] at nd
    exact merge_kI nd
theorem pairs_fix {K : PySem.W.Frag} {H : Hp} : ∀ {ns : List (Int × Int)} {xs : List V}, RowsAt fixD H xs ns → ∃ ps : List Addr, xs = ps.map V.ref ∧ Paired (fun (p : Addr) (kv : Key × V) => SqT K H p [kV kv.1, kv.2]) ps (ns.map kI)
  | [], xs, h => by
    cases h
    exact ⟨[], rfl, .nil⟩
  | n :: ns, xs, h => by
    cases h with
    | cons h1 h2 =>
      obtain ⟨p, rfl, hp⟩ := fix_parts h1
      obtain ⟨ps, rfl, r⟩ := pairs_fix (K := K) h2
      exact ⟨p :: ps, rfl, .cons (SqT.of hp) r⟩
/-- one of those left waits for none that is left -/
theorem free_one {os left : List Int} {n : Nat} {ks : List Int} {ws : List Wt} (io : IsOrder os n) (ne : left ≠ []) (inl : ∀ t ∈ left, 0 ≤ t ∧ t < n) (all : ∀ t : Int, 0 ≤ t → t < (n : Int) → t ∉ ks → t ∈ left) (ok : ∀ x ∈ ws, MWt os x) : ∃ t ∈ left, ∀ x ∈ ws, x.b = t → x.a ∈ ks := by
  have key : ∀ (m i : Nat), i ≤ m → ∀ t, os[i]? = some t → t ∈ left → ∃ t ∈ left, ∀ x ∈ ws, x.b = t → x.a ∈ ks := by
    intro m
    induction m with
    | zero =>
      intro i hi t ht mt
      refine ⟨t, mt, fun x mx e => ?_⟩
      obtain ⟨i', j', hij, h1, h2⟩ := (ok x mx).at_
      have hj := (List.getElem?_inj (List.getElem?_eq_some_iff.mp h2).1 io.nodup).mp (h2.trans (by rw [e, ht]))
      omega
    | succ m ih =>
      intro i hi t ht mt
      by_cases c : ∀ x ∈ ws, x.b = t → x.a ∈ ks
      · exact ⟨t, mt, c⟩
      · have ⟨x, c⟩ := Classical.not_forall.mp c
        have ⟨mx, c⟩ := Classical.not_forall.mp c
        have ⟨e, c⟩ := Classical.not_forall.mp c
        obtain ⟨i', j', hij, h1, h2⟩ := (ok x mx).at_
        have hj := (List.getElem?_inj (List.getElem?_eq_some_iff.mp h2).1 io.nodup).mp (h2.trans (by rw [e, ht]))
        obtain ⟨a0, a1⟩ := io.bd (List.mem_of_getElem? h1)
        exact ih i' (by omega) x.a h1 (all _ a0 a1 c)
  cases left with
  | nil => exact absurd rfl ne
  | cons t r =>
    obtain ⟨t0, t1⟩ := inl t List.mem_cons_self
    obtain ⟨i, hi⟩ := List.getElem?_of_mem (io.all t0 t1)
    exact key i i (Nat.le_refl _) t hi List.mem_cons_self
theorem clear_max {b : Bk} {kvs : List (Int × Int)} {t h : Int} (le : ∀ p ∈ kvs, p.2 + lenOf b p.1 ≤ h) : Clear b kvs t h := by
  unfold Clear metK
  rw [List.filter_eq_nil_iff]
  intro p mp c
  have := le p (List.mem_filter.mp mp).1
  unfold metB at c
  rw [Bool.and_eq_true, decide_eq_true_eq, decide_eq_true_eq] at c
  omega
theorem q_dnotin {ty td : TE} {σ : L2.St} {H : Hp} {Q : VK} (q : ty σ H fun y H1 => td σ H1 fun x H2 => ∃ a o, x = .ref a ∧ DGet H2 a y o ∧ Q (.bl (!o.isSome)) H2) : tDNotIn ty td σ H Q := q
theorem kI_off {t : Int} : ∀ {kvs : List (Int × Int)}, t ∉ kvs.map (·.1) → valV (kvs.map kI) (Sum.inl t) = none
  | [], _ => rfl
  | p :: r, h => by
    rw [List.map_cons, List.mem_cons, not_or] at h
    unfold valV
    rw [List.map_cons, List.find?_cons, show decide ((kI p).1 = Sum.inl t) = false from decide_eq_false fun z => h.1 (Sum.inl.inj z).symm]
    have := kI_off (kvs := r) h.2
    unfold valV at this
    exact this
theorem q_notI {a : Addr} {H : Hp} {kvs : List (Int × Int)} {k : Int} {R : Bool → Prop} (h : H a = some (.dK (kvs.map kI))) (nd : (kvs.map (·.1)).Nodup) (q : R (!decide (k ∈ kvs.map (·.1)))) : ∃ b o, V.ref a = .ref b ∧ DGet H b (.int k) o ∧ ∃ z, (V.bl (!o.isSome)) = V.bl z ∧ R z := by
  refine ⟨a, _, rfl, DGet.k (k := .inl k) h, _, rfl, ?_⟩
  by_cases c : k ∈ kvs.map (·.1)
  · obtain ⟨p, mp, rfl⟩ := List.mem_map.mp c
    rw [kI_val nd mp]
    rw [decide_eq_true c] at q
    exact q
  · rw [kI_off c]
    rw [decide_eq_false c] at q
    exact q
theorem max_ex : ∀ {l : List Int}, l ≠ [] → ∃ G ∈ l, ∀ y ∈ l, y ≤ G
  | [x], _ => ⟨x, List.mem_cons_self, fun y m => by rw [List.mem_singleton.mp m]; exact Int.le_refl _⟩
  | x :: z :: r, _ => by
    obtain ⟨G, mG, h⟩ := max_ex (l := z :: r) (List.cons_ne_nil _ _)
    by_cases c : x ≤ G
    · refine ⟨G, List.mem_cons_of_mem _ mG, fun y m => ?_⟩
      rcases List.mem_cons.mp m with e | e
      · rw [e]; exact c
      · exact h y e
    · refine ⟨x, List.mem_cons_self, fun y m => ?_⟩
      rcases List.mem_cons.mp m with e | e
      · rw [e]; exact Int.le_refl _
      · have := h y e
        omega
theorem filt_len {t : Int} : ∀ {l : List Int}, l.Nodup → t ∈ l → (l.filter fun o => !decide (o = t)).length + 1 = l.length
  | x :: r, nd, m => by
    obtain ⟨n1, n2⟩ := List.nodup_cons.mp nd
    rw [List.filter_cons]
    by_cases c : x = t
    · rw [decide_eq_true c, if_neg (by decide)]
      rw [List.filter_eq_self.mpr (fun o mo => by
        rw [decide_eq_false (fun e => n1 (by rw [c, ← e]; exact mo))]
        rfl)]
      rfl
    · rw [decide_eq_false c, if_pos (by decide)]
      have := filt_len n2 (by
        rcases List.mem_cons.mp m with e | e
        · exact absurd e.symm c
        · exact e)
      rw [List.length_cons, List.length_cons]
      omega
def spListed (K : PySem.W.Frag) : Sp := fun vs H Q _ => ∃ (v : V) (b : Bk) (rl : Addr) (row : List Int) (most long held : Int), vs = [v, .ref rl] ∧ TD H v (bookM b) ∧ MBk b most long held ∧ most ≤ 30 ∧ long ≤ 1000 ∧ held ≤ 30 ∧ H rl = some (.lst (row.map V.int)) ∧ IsOrder row b.tasks.length ∧
  ∀ (p : Addr) (pn : List Int) (H' : Hp), Ex H H' → H' p = some (.tup (pn.map V.int)) → pn.length = b.tasks.length → (∀ x ∈ pn, 0 ≤ x ∧ x ≤ 100000) → Q (.ref p) H'
structure LInv (b : Bk) (kvs : List (Int × Int)) (left : List Int) : Prop where
  nd : (kvs.map (·.1)).Nodup
  in_ : ∀ p ∈ kvs, 0 ≤ p.1 ∧ p.1 < b.tasks.length
  ndl : left.Nodup
  inl : ∀ t ∈ left, 0 ≤ t ∧ t < b.tasks.length
  off : ∀ t ∈ left, t ∉ kvs.map (·.1)
  all : ∀ t : Int, 0 ≤ t → t < (b.tasks.length : Int) → t ∉ kvs.map (·.1) → t ∈ left
  few : kvs.length + left.length = b.tasks.length
  val : ∀ p ∈ kvs, 0 ≤ p.2 ∧ p.2 ≤ 100 + 2000 * kvs.length
theorem LInv.put {b : Bk} {kvs : List (Int × Int)} {left : List Int} {t ff : Int} (inv : LInv b kvs left) (mt : t ∈ left) (bff : 0 ≤ ff ∧ ff ≤ 100 + 2000 * kvs.length + 2000) : LInv b (kvs ++ [(t, ff)]) (left.filter fun o => !decide (o = t)) := by
  have ne : ∀ o, o ∈ (left.filter fun o => !decide (o = t)) → o ∈ left ∧ o ≠ t := fun o mo => by
    obtain ⟨m1, m2⟩ := List.mem_filter.mp mo
    refine ⟨m1, fun e => ?_⟩
    rw [decide_eq_true e] at m2
    cases m2
  have ek : (kvs ++ [(t, ff)]).map (·.1) = kvs.map (·.1) ++ [t] := by rw [List.map_append]; rfl
  have el : (kvs ++ [(t, ff)]).length = kvs.length + 1 := by rw [List.length_append]; rfl
  refine ⟨?_, fun p mp => ?_, inv.ndl.filter _, fun o mo => inv.inl o (ne o mo).1, fun o mo c => ?_, fun o o0 o1 c => ?_, ?_, fun p mp => ?_⟩
  · rw [ek]
    refine List.nodup_append.mpr ⟨inv.nd, List.pairwise_singleton _ _, fun a ma c mc e => ?_⟩
    rw [List.mem_singleton.mp mc] at e
    exact inv.off t mt (by rw [← e]; exact ma)
  · rcases List.mem_append.mp mp with m | m
    · exact inv.in_ p m
    · rw [List.mem_singleton.mp m]
      exact inv.inl t mt
  · rw [ek] at c
    rcases List.mem_append.mp c with m | m
    · exact inv.off o (ne o mo).1 m
    · exact (ne o mo).2 (List.mem_singleton.mp m)
  · rw [ek, List.mem_append, not_or] at c
    exact List.mem_filter.mpr ⟨inv.all o o0 o1 c.1, by rw [decide_eq_false (fun e => c.2 (List.mem_singleton.mpr e))]; rfl⟩
  · have := filt_len inv.ndl mt
    have := inv.few
    omega
  · rw [el]
    rcases List.mem_append.mp mp with m | m
    · have := inv.val p m
      omega
    · rw [List.mem_singleton.mp m]
      dsimp only
      omega
theorem ok__law_listed (T : Tx K mg) : Cal P w K mg base 3 "_law_listed" ["book", "row"] (spListed K) := by
  have G__law_first : Cal P w K mg base 1 "_law_first" ["book", "begins", "task"] (spFirst K) := ok__law_first T
  have G__law_is_free : Cal P w K mg base 2 "_law_is_free" ["book", "begins", "task", "hour"] (spFree K) := ok__law_is_free T
  refine T.d__law_listed.cal sc__law_listed (fun vs H Q E h => ?_) (fun f cdv A outer s H vs Q E hr h => ?_)
  · obtain ⟨_, _, _, _, _, _, _, rfl, _⟩ := h
    rfl
  · obtain ⟨v, b, rl, row, most, long, held, rfl, td, mb, m30, l1000, h30, hrl, io, q⟩ := h
    obtain ⟨ba, mm, g, ta, wt, fx, rfl, hab, _, _, ⟨txs, ht, rt⟩, ⟨wxs, hw, rw_⟩, ⟨fxs, ⟨fo, fod, hf⟩, rf⟩⟩ := bookM_parts td
    obtain ⟨n1, nm⟩ := mb.few
    have lw := rw_.len
    have w60 := mb.waits
    have lro := io.len
    obtain ⟨ws, iow, okw⟩ := mb.wait
    refine ⟨_, (pss_cons (ps_set (i := 2) sc__law_listed.nd rfl (.inr rfl) (pe_callTy (cr_dictF (K := K) rfl) (by rfl) T.b_dict (by decide +kernel) (pa_cons (pe_ix (ixT (K := K)) (pv 0) pe_int (fun _ _ => rfl)) pa_nil)))
    (pss_cons (ps_setLc (i := 3) (own := [("task", 5)]) rfl sc__law_listed.nd rfl rfl (sw_true rfl rfl rfl (by decide +kernel)) (piLK (K := K) (pv 1)) (blkOk_by (own := [("task", 5)]) (N := N__law_listed) (sc := defScope s__law_listed) (by decide +kernel)) (fun _ _ _ _ _ => (pg_name (i := 5) sc__law_listed.nd rfl (.inl rfl))) (fun _ _ _ _ _ => pts_one (pt_cmp (pc_dnotin (u1 hr.units) (pv 5) (pv 2)) (by rfl))) (fun _ _ _ _ _ => (pv 5)))
    (pss_cons (ps_while PassesOwn.never (pt_cmpR (neDK (K := K) hr.units) (pv 3) (pe_lst pa_nil) (nomark _)) (pss_cons (ps_set (i := 4) sc__law_listed.nd rfl (.inr rfl) (pe_lc (own := [("wait", 8)]) rfl sc__law_listed.nd (piTK (K := K) (pe_ix (ixT (K := K)) (pv 0) pe_int (fun _ _ => rfl))) (blkOk_by (own := [("wait", 8)]) (N := N__law_listed) (sc := defScope s__law_listed) (by decide +kernel)) (fun _ _ _ _ _ => (pg_name (i := 8) sc__law_listed.nd rfl (.inl rfl))) (fun _ _ _ _ _ => pts_one (pt_cmp (pc_dnotin (u1 hr.units) (pe_ix (ixT (K := K)) (pv 8) pe_int (fun _ _ => rfl)) (pv 2)) (by rfl))) (fun _ _ _ _ _ => (pe_ix (ixT (K := K)) (pv 8) pe_int (fun _ _ => rfl)))))
    (pss_cons (ps_set (i := 5) sc__law_listed.nd rfl (.inr rfl) (pe_ix (ixL (K := K)) (pe_lc (own := [("one", 9)]) rfl sc__law_listed.nd (piLK (K := K) (pv 3)) (blkOk_by (own := [("one", 9)]) (N := N__law_listed) (sc := defScope s__law_listed) (by decide +kernel)) (fun _ _ _ _ _ => (pg_name (i := 9) sc__law_listed.nd rfl (.inl rfl))) (fun _ _ _ _ _ => pts_one (pt_cmpR (niSK (K := K)) (pv 9) (pv 4) (by rfl))) (fun _ _ _ _ _ => (pv 9))) pe_int (fun _ _ => rfl)))
    (pss_cons (ps_set (i := 6) sc__law_listed.nd rfl (.inr rfl) (pe_cal G__law_first (hr.mono (by decide)) (by rfl) (pa_cons (pv 0) (pa_cons (pv 2) (pa_cons (pv 5) pa_nil)))))
    (pss_cons (ps_lock (ps_set (i := 7) sc__law_listed.nd rfl (.inl rfl) (pe_op op_cat (pe_lst (pa_cons (pv 6) pa_nil)) (pe_callB (au_sortedI (K := K)) (by rfl) T.b_sorted (by decide +kernel) (pa_cons (pe_lc (own := [("other", 10)]) rfl sc__law_listed.nd (pi_keys (pv 2)) (blkOk_by (own := [("other", 10)]) (N := N__law_listed) (sc := defScope s__law_listed) (by decide +kernel)) (fun _ _ _ _ _ => (pg_name (i := 10) sc__law_listed.nd rfl (.inl rfl))) (fun _ _ _ _ _ => pts_nil) (fun _ _ _ _ _ => (pe_op op_add (pe_dget (u1 hr.units) (pv 2) (pv 10) (fun _ _ => rfl)) (pe_ix (ixT (K := K)) (pe_ix (ixT (K := K)) (pe_ix (ixT (K := K)) (pv 0) pe_int (fun _ _ => rfl)) (pv 10) (fun _ _ => rfl)) pe_int (fun _ _ => rfl))))) pa_nil)))))
    (pss_cons (ps_dput (u1 hr.units) (pv 2) (pv 5) (pe_ix (ixL (K := K)) (pe_lc (own := [("hour", 11)]) rfl sc__law_listed.nd (piLK (K := K) (pv 7)) (blkOk_by (own := [("hour", 11)]) (N := N__law_listed) (sc := defScope s__law_listed) (by decide +kernel)) (fun _ _ _ _ _ => (pg_name (i := 11) sc__law_listed.nd rfl (.inl rfl))) (fun _ _ _ _ _ => pts_one (PW.pt (pw_and (pt_cmpR op_ge (pv 11) (pv 6) (nomark _)) (pw_and1 (pt_val (pe_cal G__law_is_free hr (by rfl) (pa_cons (pv 0) (pa_cons (pv 2) (pa_cons (pv 5) (pa_cons (pv 11) pa_nil)))))))))) (fun _ _ _ _ _ => (pv 11))) pe_int (fun _ _ => rfl)) (by rfl))
    (pss_one (ps_setLc (i := 3) (own := [("one", 9)]) rfl sc__law_listed.nd rfl rfl (sw_true rfl rfl rfl (by decide +kernel)) (piLK (K := K) (pv 3)) (blkOk_by (own := [("one", 9)]) (N := N__law_listed) (sc := defScope s__law_listed) (by decide +kernel)) (fun _ _ _ _ _ => (pg_name (i := 9) sc__law_listed.nd rfl (.inl rfl))) (fun _ _ _ _ _ => pts_one (pt_cmpR op_ne (pv 9) (pv 5) (nomark _))) (fun _ _ _ _ _ => (pv 9))))))))))
    (pss_one (ps_ret (pe_callTy (au_tuple (K := K)) (by rfl) T.b_tuple (by decide +kernel) (pa_cons (pe_lc (own := [("task", 5)]) rfl sc__law_listed.nd (pi_range1 (by rfl) T.b_range (pa_cons (pe_callB (lenK (K := K)) (by rfl) T.b_len (by decide +kernel) (pa_cons (pe_ix (ixT (K := K)) (pv 0) pe_int (fun _ _ => rfl)) pa_nil)) pa_nil)) (blkOk_by (own := [("task", 5)]) (N := N__law_listed) (sc := defScope s__law_listed) (by decide +kernel)) (fun _ _ _ _ _ => (pg_name (i := 5) sc__law_listed.nd rfl (.inl rfl))) (fun _ _ _ _ _ => pts_nil) (fun _ _ _ _ _ => (pe_dget (u1 hr.units) (pv 2) (pv 5) (fun _ _ => rfl)))) pa_nil))))))), q_start (τ := [some _, some _, none, none, none, none, none, none, none, none, none, none]) rfl ?_⟩
    walk_at "go"
    obtain ⟨ps, efx, hps⟩ := pairs_fix (K := K) rf
    subst efx
    refine ⟨fx, fo, ps, b.fixed.map kI, rfl, fod, hf, hps, fun d nd0 => ?_⟩
    rw [show mergeK [] (b.fixed.map kI) = b.fixed.map kI from merge_kI (acc := []) mb.once]
    have x1 := Ex.new (o := .dK (b.fixed.map kI)) nd0
    have hd1 : L2.upd H d (.dK (b.fixed.map kI)) d = some (.dK (b.fixed.map kI)) := upd_same
    have hrl1 := x1 _ _ hrl
    generalize L2.upd H d (.dK (b.fixed.map kI)) = H1 at x1 hd1 hrl1 ⊢
    walk_at "go"
    intro L nL
    have nLd : L ≠ d := (ne_of_none hd1 nL).symm
    refine lcp_list (xs := row.map V.int) (fun i H' => Ex H1 H' ∧ H' L = some (.lst (((row.take i).filter fun t => !decide (t ∈ b.fixed.map (·.1))).map V.int))) ⟨Ex.new nL, upd_same⟩ (fun i H' _ h => h.1 _ _ hrl1) ?_ ?_
    · rintro i x H2 hx ⟨e2, hL2⟩
      obtain ⟨t, ht', rfl⟩ := map_get hx
      have hi := (List.getElem?_eq_some_iff.mp ht').1
      have lf : ((row.take i).filter fun t => !decide (t ∈ b.fixed.map (·.1))).length ≤ 1000 := by
        refine Nat.le_trans (List.length_filter_le _ _) ?_
        rw [List.length_take]
        omega
      walk_at "go"
      refine q_dnotin ?_
      walk_at "go"
      refine q_notI (e2 _ _ hd1) mb.once ?_
      by_cases c1 : t ∈ b.fixed.map (·.1)
      · rw [decide_eq_true c1]
        walk_at "go"
        refine ⟨e2, ?_⟩
        rw [take_snoc ht', filt_snoc, if_neg (by rw [decide_eq_true c1]; exact Bool.false_ne_true)]
        exact hL2
      · rw [decide_eq_false c1]
        walk_at "go"
        refine ⟨e2.mut nL, ?_⟩
        rw [upd_same, take_snoc ht', filt_snoc, if_pos (by rw [decide_eq_false c1]; rfl), List.map_append]
        rfl
    · rintro H2 ⟨e2, hL2⟩
      rw [List.length_map, List.take_length] at hL2
      have hd2 := e2 _ _ hd1
      have E2 := x1.trans e2
      have inv0 : LInv b b.fixed (row.filter fun t => !decide (t ∈ b.fixed.map (·.1))) := by
        have fx0 : ∀ p ∈ b.fixed, 0 ≤ p.1 ∧ p.1 < b.tasks.length ∧ 0 ≤ p.2 ∧ p.2 ≤ 70 := fun p mp => by
          obtain ⟨j, t, e, hj, f1, f2⟩ := mb.fixed p mp
          have hi := (List.getElem?_eq_some_iff.mp hj).1
          have := (mb.task t (List.mem_of_getElem? hj)).frm
          omega
        refine ⟨mb.once, fun p mp => ⟨(fx0 p mp).1, (fx0 p mp).2.1⟩, io.nodup.filter _, fun t mt => io.bd (List.mem_filter.mp mt).1, fun t mt c => ?_, fun t t0 t1 c => List.mem_filter.mpr ⟨io.all t0 t1, by rw [decide_eq_false c]; rfl⟩, ?_, fun p mp => ?_⟩
        · have := (List.mem_filter.mp mt).2
          rw [decide_eq_true c] at this
          cases this
        · have pm : (b.fixed.map (·.1) ++ row.filter fun t => !decide (t ∈ b.fixed.map (·.1))).Perm row := (List.perm_ext_iff_of_nodup (List.nodup_append.mpr ⟨mb.once, io.nodup.filter _, fun a ma c mc e => by
            have := (List.mem_filter.mp mc).2
            rw [decide_eq_true (by rw [← e]; exact ma)] at this
            cases this⟩) io.nodup).mpr fun t => by
            rw [List.mem_append, List.mem_filter]
            constructor
            · rintro (h | h)
              · obtain ⟨p, mp, rfl⟩ := List.mem_map.mp h
                exact io.all (fx0 p mp).1 (fx0 p mp).2.1
              · exact h.1
            · intro h
              by_cases c : t ∈ b.fixed.map (·.1)
              · exact .inl c
              · exact .inr ⟨h, by rw [decide_eq_false c]; rfl⟩
          have := pm.length_eq
          rw [List.length_append, List.length_map] at this
          omega
        · have := fx0 p mp
          omega
      walk_at "go"
      refine q_while (fun σ H' => ∃ (La : Addr) (kvs : List (Int × Int)) (left : List Int) (t4 t5 t6 t7 : Option V), σ = [some (.ref ba), some (.ref rl), some (.ref d), some (.ref La), t4, t5, t6, t7, none, none, none, none] ∧ Ex H H' ∧ H' d = some (.dK (kvs.map kI)) ∧ H' La = some (.lst (left.map V.int)) ∧ La ≠ d ∧ LInv b kvs left)
        (fun (σ : L2.St) (H' : Hp) => match σ[3]? with | some (some (V.ref l)) => (match H' l with | some (.lst xs) => xs.length | _ => 0) | _ => 0) ⟨L, b.fixed, _, _, _, _, _, rfl, E2, hd2, hL2, nLd, inv0⟩ ?_ ?_
      · rintro σ H3 ⟨La, kvs, left, t4, t5, t6, t7, rfl, e3, hd3, hl3, nLa, inv⟩
        have fw := inv.few
        walk_at "go"
        rename_i e0 ne0
        have hl4 := fresh_at (u := .lst []) ne0 hl3
        refine q_neD (.lst (SqL.of hl4) dpa_ints) (.lst (SqL.of upd_same) .nil) shaped_ints rfl ?_
        rw [eqv_nil]
        have y4 := Ex.new (o := .lst []) ne0
        have hd4 := y4 _ _ hd3
        have e4 := e3.trans y4
        generalize L2.upd H3 e0 (.lst []) = H4 at hl4 y4 hd4 e4 ⊢
        refine q_ex ?_
        have hab4 := e4 _ _ hab
        have ht4 := e4 _ _ ht
        have hw4 := e4 _ _ hw
        cases hle : left with
        | nil =>
          subst hle
          rw [show (List.map PyData.int ([] : List Int)).isEmpty = true from rfl]
          walk_at "go"
          have lt := rt.len
          refine ⟨_, rfl, by omega, by omega, fun D nD => ?_⟩
          rw [Int.toNat_natCast]
          have allk : ∀ i : Nat, i < txs.length → (i : Int) ∈ kvs.map (·.1) := fun i hi => Classical.byContradiction fun c => by
            have := inv.all (i : Int) (by omega) (by omega) c
            cases this
          refine lcp_range (fun i H' => Ex H4 H' ∧ H' D = some (.lst (((List.range i).map fun i : Nat => bgOf kvs (i : Int)).map V.int))) ⟨Ex.new nD, upd_same⟩ ?_ ?_
          · rintro i H5 hi ⟨e5, hD5⟩
            have lf : (((List.range i).map fun i : Nat => bgOf kvs (i : Int)).map V.int).length ≤ 1000 := by
              rw [List.length_map, List.length_map, List.length_range]
              omega
            walk_at "go"
            refine q_getI (.inl (e5 _ _ hd4)) inv.nd (bgOf_mem (allk i hi)) ?_
            walk_at "go"
            refine ⟨e5.mut nD, ?_⟩
            rw [upd_same, List.range_succ, List.map_append, List.map_append]
            rfl
          · rintro H5 ⟨e5, hD5⟩
            walk_at "go"
            rename_i tp ntp
            refine q tp ((List.range txs.length).map fun i : Nat => bgOf kvs (i : Int)) _ ((e4.trans e5).trans (Ex.new ntp)) upd_same (by rw [List.length_map, List.length_range]; exact lt) fun x mx => ?_
            obtain ⟨i, mi, rfl⟩ := List.mem_map.mp mx
            have := inv.val _ (bgOf_mem (allk i (List.mem_range.mp mi)))
            dsimp only at this
            omega
        | cons z zs =>
          rw [← hle]
          have lne : left ≠ [] := by rw [hle]; exact List.cons_ne_nil _ _
          rw [show (left.map PyData.int).isEmpty = false by rw [hle]; rfl]
          walk_at "go"
          intro W nW
          refine lcp_tup (xs := wxs) (fun i H' => Ex H4 H' ∧ H' W = some (.lst ((((b.waits.take i).filter fun x => !decide (x.a ∈ kvs.map (·.1))).map (·.b)).map V.int))) ⟨Ex.new nW, upd_same⟩ (fun i H' _ h => h.1 _ _ hw4) ?_ ?_
          · rintro i x H5 hx ⟨e5, hW5⟩
            obtain ⟨wa, hwa, wd⟩ := (RowsAt.tp (Tp.ex (e4.trans e5)) rw_).get hx
            obtain ⟨wp, rfl, hwp⟩ := wait_parts wd
            have lf : (((b.waits.take i).filter fun x => !decide (x.a ∈ kvs.map (·.1))).map (·.b)).length ≤ 1000 := by
              rw [List.length_map]
              refine Nat.le_trans (List.length_filter_le _ _) ?_
              rw [List.length_take]
              omega
            walk_at "go"
            refine q_dnotin ?_
            walk_at "go"
            refine q_notI (e5 _ _ hd4) inv.nd ?_
            by_cases c1 : wa.a ∈ kvs.map (·.1)
            · rw [decide_eq_true c1]
              walk_at "go"
              refine ⟨e5, ?_⟩
              rw [take_snoc hwa, filt_snoc, if_neg (by rw [decide_eq_true c1]; exact Bool.false_ne_true)]
              exact hW5
            · rw [decide_eq_false c1]
              walk_at "go"
              refine q_push hW5 (by rw [List.length_map]; omega) ?_
              refine ⟨e5.mut nW, ?_⟩
              rw [upd_same, take_snoc hwa, filt_snoc, if_pos (by rw [decide_eq_false c1]; rfl), List.map_append, List.map_append]
              rfl
          rintro H5 ⟨e5, hW5⟩
          rw [lw, List.take_length] at hW5
          have hl5 := e5 _ _ hl4
          have hd5 := e5 _ _ hd4
          obtain ⟨hs, ehs, mhs⟩ : ∃ hs : List Int, (b.waits.filter fun x => !decide (x.a ∈ kvs.map (·.1))).map (·.b) = hs ∧ ∀ t, t ∉ hs → ∀ x ∈ b.waits, x.b = t → x.a ∈ kvs.map (·.1) := ⟨_, rfl, fun t nt x mx e => Classical.byContradiction fun c => nt (List.mem_map.mpr ⟨x, List.mem_filter.mpr ⟨mx, by rw [decide_eq_false c]; rfl⟩, e⟩)⟩
          have hback : ∀ t, (∀ x ∈ b.waits, x.b = t → x.a ∈ kvs.map (·.1)) → t ∉ hs := fun t h m => by
            rw [← ehs] at m
            obtain ⟨x, mx, e⟩ := List.mem_map.mp m
            obtain ⟨m1, m2⟩ := List.mem_filter.mp mx
            rw [decide_eq_true (h x m1 e)] at m2
            cases m2
          rw [ehs] at hW5
          obtain ⟨tf, mtf, ftf⟩ := free_one iow lne inv.inl inv.all okw
          walk_at "go"
          intro O nO
          refine lcp_list (xs := left.map V.int) (fun i H' => Ex H5 H' ∧ H' O = some (.lst (((left.take i).filter fun t => !decide (t ∈ hs)).map V.int))) ⟨Ex.new nO, upd_same⟩ (fun i H' _ h => h.1 _ _ hl5) ?_ ?_
          · rintro i x H6 hx ⟨e6, hO6⟩
            obtain ⟨t, ht', rfl⟩ := map_get hx
            have lf : ((left.take i).filter fun t => !decide (t ∈ hs)).length ≤ 1000 := by
              refine Nat.le_trans (List.length_filter_le _ _) ?_
              rw [List.length_take]
              omega
            have hW6 := e6 _ _ hW5
            walk_at "go"
            by_cases c1 : t ∈ hs
            · rw [decide_eq_true c1]
              walk_at "go"
              refine ⟨e6, ?_⟩
              rw [take_snoc ht', filt_snoc, if_neg (by rw [decide_eq_true c1]; exact Bool.false_ne_true)]
              exact hO6
            · rw [decide_eq_false c1]
              walk_at "go"
              refine ⟨e6.mut nO, ?_⟩
              rw [upd_same, take_snoc ht', filt_snoc, if_pos (by rw [decide_eq_false c1]; rfl), List.map_append]
              rfl
          rintro H6 ⟨e6, hO6⟩
          rw [List.length_map, List.take_length] at hO6
          obtain ⟨t, r, etr⟩ : ∃ t r, (left.filter fun t => !decide (t ∈ hs)) = t :: r := by
            have m : tf ∈ left.filter fun t => !decide (t ∈ hs) := List.mem_filter.mpr ⟨mtf, by rw [decide_eq_false (hback tf ftf)]; rfl⟩
            cases e : left.filter fun t => !decide (t ∈ hs) with
            | nil =>
              rw [e] at m
              cases m
            | cons t r => exact ⟨t, r, rfl⟩
          have mt : t ∈ left ∧ t ∉ hs := by
            have m : t ∈ left.filter fun t => !decide (t ∈ hs) := by rw [etr]; exact List.mem_cons_self
            obtain ⟨m1, m2⟩ := List.mem_filter.mp m
            refine ⟨m1, fun c => ?_⟩
            rw [decide_eq_true c] at m2
            cases m2
          rw [etr] at hO6
          obtain ⟨t0, t1⟩ := inv.inl t mt.1
          have E6 := e4.trans (e5.trans e6)
          have hd6 := e6 _ _ hd5
          have hl6 := e6 _ _ hl5
          have bg6 : Beg b H6 d kvs := ⟨hd6, inv.nd, inv.in_, by omega⟩
          refine q_ixL hO6 (atI_nat (j := 0) (v := .int t) rfl) ?_
          walk_at "go"
          refine ⟨_, b, d, kvs, t, rfl, TD.tp (Tp.ex E6) td, bg6, t0, t1, w60, mhs t mt.2, fun fi H7 e7 mfi lfi => ?_⟩
          have hd7 := e7 _ _ hd6
          have hl7 := e7 _ _ hl6
          walk_at "go"
          have E7 := E6.trans e7
          have nba : ba ≠ d := ne_of_none hab nd0
          have nta : ta ≠ d := ne_of_none ht nd0
          have hab7 := E7 _ _ hab
          have ht7 := E7 _ _ ht
          refine q_lock hd7 True.intro fun od => ?_
          have hdf : L2.upd H7 d (.frz od (.dK (kvs.map kI))) d = some (.frz od (.dK (kvs.map kI))) := upd_same
          have b8 : But d H7 (L2.upd H7 d (.frz od (.dK (kvs.map kI)))) := But.self
          have hab8 := b8 _ _ nba hab7
          have ht8 := b8 _ _ nta ht7
          generalize L2.upd H7 d (.frz od (.dK (kvs.map kI))) = H8 at hdf b8 hab8 ht8 ⊢
          walk_at "go"
          rename_i p0 np0
          have y9 := Ex.new (o := .lst [V.int fi]) np0
          have hp09 : L2.upd H8 p0 (.lst [V.int fi]) p0 = some (.lst [V.int fi]) := upd_same
          have b9 := b8.ex y9
          have hdf9 := y9 _ _ hdf
          have hab9 := y9 _ _ hab8
          have ht9 := y9 _ _ ht8
          generalize L2.upd H8 p0 (.lst [V.int fi]) = H9 at y9 hp09 b9 hdf9 hab9 ht9 ⊢
          refine q_iKeys ?_
          walk_at "go"
          refine ⟨d, od, rfl, .inl ⟨_, hdf9, fun M nM => ?_⟩⟩
          refine lcp_keysI (fun i H' => Ex H9 H' ∧ H' M = some (.lst (((kvs.take i).map fun p => p.2 + lenOf b p.1).map V.int))) ⟨Ex.new nM, upd_same⟩ (fun i H' h => h.1 _ _ hdf9) ?_ ?_
          · rintro i p H10 hp ⟨e10, hM10⟩
            have mp := List.mem_of_getElem? hp
            obtain ⟨p0', p1'⟩ := inv.in_ p mp
            obtain ⟨pa, _, _, _, k2, hat2, hk2, hpa, _, _, _, ek2⟩ := taskM_at rt p0' p1'
            have hpa10 := (b9.ex e10) _ _ (ne_of_none hpa nd0) (E7 _ _ hpa)
            have hab10 := e10 _ _ hab9
            have ht10 := e10 _ _ ht9
            have lf : (((kvs.take i).map fun p => p.2 + lenOf b p.1).map V.int).length ≤ 1000 := by
              rw [List.length_map, List.length_map, List.length_take]
              omega
            walk_at "go"
            refine q_getI (.inr ⟨od, e10 _ _ hdf9⟩) inv.nd (v := p.2) mp ?_
            walk_at "go"
            refine q_ixT ht10 hat2 ?_
            walk_at "go"
            refine ⟨e10.mut nM, ?_⟩
            rw [upd_same, take_snoc hp, ← ek2, List.map_append, List.map_append]
            rfl
          rintro H10 ⟨e10, hM10⟩
          rw [List.take_length] at hM10
          walk_at "go"
          refine q_sortedI hM10 fun ms pm pr _ npm => ?_
          have lms : ms.length = kvs.length := by rw [pr.length_eq, List.length_map]
          have y11 := Ex.new (o := .lst (ms.map V.int)) npm
          have hp011 := y11 _ _ (e10 _ _ hp09)
          refine q_catL hp011 upd_same (by rw [List.length_map]; simp; omega) fun ph nph => ?_
          have y12 := Ex.new (o := .lst ([V.int fi] ++ ms.map V.int)) nph
          have hph : L2.upd (L2.upd H10 pm (.lst (ms.map V.int))) ph (.lst ([V.int fi] ++ ms.map V.int)) ph = some (.lst ((fi :: ms).map V.int)) := upd_same
          have nphd : ph ≠ d := (ne_of_none (y11 _ _ (e10 _ _ hdf9)) nph).symm
          have b12 := b9.ex (e10.trans (y11.trans y12))
          have hdf12 := (y11.trans y12) _ _ (e10 _ _ hdf9)
          generalize L2.upd (L2.upd H10 pm (.lst (ms.map V.int))) ph (.lst ([V.int fi] ++ ms.map V.int)) = H12 at y12 hph b12 hdf12 ⊢
          walk_at "go"
          refine ⟨hdf12, ?_⟩
          have e13 := b12.relock hd7
          have hd13 : L2.upd H12 d (.dK (kvs.map kI)) d = some (.dK (kvs.map kI)) := upd_same
          have hph13 : L2.upd H12 d (.dK (kvs.map kI)) ph = some (.lst ((fi :: ms).map V.int)) := by rw [upd_ne nphd]; exact hph
          have hl13 := e13 _ _ hl7
          generalize L2.upd H12 d (.dK (kvs.map kI)) = H13 at e13 hd13 hph13 hl13 ⊢
          have E13 := E7.trans e13
          have blen : ∀ t, 0 ≤ t → t < (b.tasks.length : Int) → 1 ≤ lenOf b t ∧ lenOf b t ≤ 1000 := fun t a0 a1 => by
            obtain ⟨_, _, _, _, k2, _, hk2, _, _, _, _, ek2⟩ := taskM_at rt a0 a1
            have := (mb.task k2 (List.mem_of_getElem? hk2)).len
            omega
          have bms : ∀ h ∈ ms, 0 ≤ h ∧ h ≤ 100 + 2000 * kvs.length + 2000 := fun h mh => by
            obtain ⟨p, mp, rfl⟩ := List.mem_map.mp (pr.mem_iff.mp mh)
            have h1 := inv.val p mp
            have h2 := blen p.1 (inv.in_ p mp).1 (inv.in_ p mp).2
            omega
          have bfi : 0 ≤ fi ∧ fi ≤ 100 + 2000 * kvs.length + 2000 := by
            obtain ⟨_, _, _, _, k2, _, hk2, _⟩ := taskM_at rt t0 t1
            have h0 := (mb.task k2 (List.mem_of_getElem? hk2)).frm
            have h1 := lfi (frmOf b t) List.mem_cons_self
            rw [frmOf_eq hk2] at h1 mfi
            refine ⟨by omega, ?_⟩
            rcases List.mem_cons.mp mfi with e | e
            · omega
            · obtain ⟨x, mx, rfl⟩ := List.mem_map.mp e
              obtain ⟨m1, m2⟩ := List.mem_filter.mp mx
              have ma := bgOf_mem (mhs t mt.2 x m1 (of_decide_eq_true m2))
              have h3 := inv.val _ ma
              have h4 := blen x.a (inv.in_ _ ma).1 (inv.in_ _ ma).2
              have h5 := (okw x m1).gap
              dsimp only at h3
              omega
          walk_at "go"
          intro F nF
          refine lcp_list (xs := (fi :: ms).map V.int) (fun i H' => Ex H13 H' ∧ ∃ fs : List Int, H' F = some (.lst (fs.map V.int)) ∧ fs.length ≤ i ∧ (∀ h ∈ fs, h ∈ fi :: ms) ∧ ∀ h ∈ (fi :: ms).take i, fi ≤ h → Clear b kvs t h → h ∈ fs) ⟨Ex.new nF, [], upd_same, Nat.le_refl _, fun _ h => (nomatch h), fun _ h => (nomatch h)⟩ (fun i H' _ h => h.1 _ _ hph13) ?_ ?_
          · rintro i x H14 hx ⟨e14, fs, hF14, lfs, sub, all⟩
            obtain ⟨h, hh, rfl⟩ := map_get hx
            have hi := (List.getElem?_eq_some_iff.mp hh).1
            have lcs : (fi :: ms).length = ms.length + 1 := rfl
            walk_at "go"
            refine q_ifD (fun c1 => ?_) (fun c1 => ?_)
            · walk_at "go"
              have hd14 := e14 _ _ hd13
              refine ⟨_, b, d, kvs, t, h, most, long, held, rfl, TD.tp (Tp.ex (E13.trans e14)) td, mb, ⟨hd14, inv.nd, inv.in_, by omega⟩, t0, t1, fun c H15 e15 cl => ?_⟩
              have hF15 := e15 _ _ hF14
              refine ⟨c, rfl, ?_⟩
              cases c with
              | true =>
                walk_at "go"
                refine ⟨(e14.trans e15).mut nF, fs ++ [h], by rw [upd_same, List.map_append]; rfl, by rw [List.length_append]; show fs.length + 1 ≤ i + 1; omega, fun y my => ?_, fun y my le cl' => ?_⟩
                · rcases List.mem_append.mp my with m | m
                  · exact sub y m
                  · rw [List.mem_singleton.mp m]
                    exact List.mem_of_getElem? hh
                · rw [take_snoc hh] at my
                  rcases List.mem_append.mp my with m | m
                  · exact List.mem_append_left _ (all y m le cl')
                  · exact List.mem_append_right _ m
              | false =>
                walk_at "go"
                refine ⟨e14.trans e15, fs, hF15, by omega, sub, fun y my le cl' => ?_⟩
                rw [take_snoc hh] at my
                rcases List.mem_append.mp my with m | m
                · exact all y m le cl'
                · rw [List.mem_singleton.mp m] at cl'
                  cases cl cl'
            · refine ⟨e14, fs, hF14, by omega, sub, fun y my le cl => ?_⟩
              rw [take_snoc hh] at my
              rcases List.mem_append.mp my with m | m
              · exact all y m le cl
              · rw [List.mem_singleton.mp m] at le
                exact absurd le c1
          rintro H14 ⟨e14, fs, hF14, lfs, sub, all⟩
          rw [List.length_map, List.take_length] at all
          obtain ⟨G, mG, leG⟩ := max_ex (l := fi :: ms) (List.cons_ne_nil _ _)
          have inG : G ∈ fs := all G mG (leG fi List.mem_cons_self) (clear_max fun p mp => leG _ (List.mem_cons_of_mem _ (pr.mem_iff.mpr (List.mem_map.mpr ⟨p, mp, rfl⟩))))
          obtain ⟨ff, fr, efs⟩ : ∃ ff fr, fs = ff :: fr := by
            cases fs with
            | nil => cases inG
            | cons x r => exact ⟨x, r, rfl⟩
          have bff : 0 ≤ ff ∧ ff ≤ 100 + 2000 * kvs.length + 2000 := by
            rcases List.mem_cons.mp (sub ff (by rw [efs]; exact List.mem_cons_self)) with e | e
            · rw [e]; exact bfi
            · exact bms ff e
          rw [efs] at hF14
          have hd14 := e14 _ _ hd13
          have hl14 := e14 _ _ hl13
          have E14 := E13.trans e14
          have off := inv.off t mt.1
          walk_at "go"
          refine q_ixL hF14 (atI_nat (j := 0) (v := .int ff) rfl) ?_
          walk_at "go"
          refine q_dputI hd14 (by rw [List.length_map]; omega) ?_
          rw [kI_put off]
          have E15 : Ex H (L2.upd H14 d (.dK ((kvs ++ [(t, ff)]).map kI))) := E14.mut nd0
          have hd15 : L2.upd H14 d (.dK ((kvs ++ [(t, ff)]).map kI)) d = some (.dK ((kvs ++ [(t, ff)]).map kI)) := upd_same
          have hl15 : L2.upd H14 d (.dK ((kvs ++ [(t, ff)]).map kI)) La = some (.lst (left.map V.int)) := by rw [upd_ne nLa]; exact hl14
          generalize L2.upd H14 d (.dK ((kvs ++ [(t, ff)]).map kI)) = H15 at E15 hd15 hl15 ⊢
          walk_at "go"
          intro Z nZ
          have nZd : Z ≠ d := (ne_of_none hd15 nZ).symm
          refine lcp_list (xs := left.map V.int) (fun i H' => Ex H15 H' ∧ H' Z = some (.lst (((left.take i).filter fun o => !decide (o = t)).map V.int))) ⟨Ex.new nZ, upd_same⟩ (fun i H' _ h => h.1 _ _ hl15) ?_ ?_
          · rintro i x H16 hx ⟨e16, hZ16⟩
            obtain ⟨o, ho, rfl⟩ := map_get hx
            have lf : ((left.take i).filter fun o => !decide (o = t)).length ≤ 1000 := by
              refine Nat.le_trans (List.length_filter_le _ _) ?_
              rw [List.length_take]
              omega
            walk_at "go"
            by_cases c1 : o = t
            · rw [decide_eq_true c1]
              walk_at "go"
              refine ⟨e16, ?_⟩
              rw [take_snoc ho, filt_snoc, if_neg (by rw [decide_eq_true c1]; exact Bool.false_ne_true)]
              exact hZ16
            · rw [decide_eq_false c1]
              walk_at "go"
              refine ⟨e16.mut nZ, ?_⟩
              rw [upd_same, take_snoc ho, filt_snoc, if_pos (by rw [decide_eq_false c1]; rfl), List.map_append]
              rfl
          rintro H16 ⟨e16, hZ16⟩
          rw [List.length_map, List.take_length] at hZ16
          walk_at "go"
          refine ⟨⟨Z, kvs ++ [(t, ff)], left.filter fun o => !decide (o = t), _, _, _, _, rfl, E15.trans e16, e16 _ _ hd15, hZ16, nZd, inv.put mt.1 bff⟩, ?_⟩
          show (match H16 Z with | some (.lst xs) => xs.length | _ => 0) < (match H3 La with | some (.lst xs) => xs.length | _ => 0)
          rw [hZ16, hl3]
          show ((left.filter fun o => !decide (o = t)).map V.int).length < (left.map V.int).length
          rw [List.length_map, List.length_map]
          have := filt_len inv.ndl mt.1
          omega
      · rintro σ H Q Q' m h
        obtain ⟨v, e, l1, h⟩ := h
        refine ⟨v, e, l1, fun p np => ?_⟩
        obtain ⟨d1, d2, x1, x2, x3, x4, k, x5, h⟩ := h p np
        exact ⟨d1, d2, x1, x2, x3, x4, k, x5, m _ _ h⟩

end
end Bk24


namespace Bk24
open PySem PySem.Spec PyProof.Rows L2 Bs
open Evl (Ex)
section
variable {P : Program} {w : World} {K : PySem.W.Frag} {mg : Str → Option Value} {base : Heap}
/-! ### a plan bent -/
def spMBent (K : PySem.W.Frag) : Sp := fun vs H Q _ => ∃ (H0 : Hp) (m r a : Addr) (ns : List Int) (c : Int) (bv : V) (pp : Addr) (pn : List Int), vs = [.ref m, bv, .ref pp] ∧ MAt K H0 H m r a ns c ∧ c ≤ 10 ^ 7 ∧ H pp = some (.tup (pn.map V.int)) ∧ 1 ≤ pn.length ∧ pn.length ≤ 30 ∧ (∀ x ∈ pn, 0 ≤ x ∧ x ≤ 1000000000) ∧
  ∀ (p : Addr) (qn : List Int) (H' : Hp), H' p = some (.tup (qn.map V.int)) → qn.length = pn.length → (∀ x ∈ qn, 0 ≤ x ∧ x ≤ 1000000000) → ButM m r H H' → MAt K H0 H' m r a ns (c + 60) → Q (.ref p) H'
theorem ok__law_bent (T : Tx K mg) : Cal P w K mg base 3 "_law_bent" ["m", "book", "plan"] (spMBent K) := by
  have G__law_draw : Cal P w K mg base 1 "_law_draw" ["m", "many"] (spMDraw K) := ok__law_draw T
  have G__law_of : Cal P w K mg base 2 "_law_of" ["m", "some"] (spMOf K) := ok__law_of T
  refine T.d__law_bent.cal sc__law_bent (fun vs H Q E h => ?_) (fun f cdv A outer s H vs Q E hr h => ?_)
  · obtain ⟨_, _, _, _, _, _, _, _, _, rfl, _⟩ := h
    rfl
  · obtain ⟨H0, m, r, a, ns, c, bv, pp, pn, rfl, hm, c8, hpp, l1, l30, bd, q⟩ := h
    have p7 : (10 : Int) ^ 7 = 10000000 := by decide
    have p9 : (10 : Int) ^ 9 = 1000000000 := by decide
    have p18 : (10 : Int) ^ 18 = 1000000000000000000 := by decide
    have lpn : (pn.map V.int).length = pn.length := List.length_map _
    refine ⟨_, (pss_cons (ps_set (i := 3) sc__law_bent.nd rfl (.inl rfl) (pe_cal G__law_draw (hr.mono (by decide)) (by rfl) (pa_cons (pv 0) (pa_cons pe_int pa_nil))))
    (pss_cons (ps_if (pt_cmpR op_eq (pv 3) pe_int (nomark _)) (pss_one (ps_ret (pv 2))) pss_nil)
    (pss_cons (ps_if (pt_cmpR op_eq (pv 3) pe_int (nomark _)) (pss_one (ps_ret (pe_callTy (au_tuple (K := K)) (by rfl) T.b_tuple (by decide +kernel) (pa_cons (pe_lc (own := [("task", 9)]) rfl sc__law_bent.nd (piTK (K := K) (pv 2)) (blkOk_by (own := [("task", 9)]) (N := N__law_bent) (sc := defScope s__law_bent) (by decide +kernel)) (fun _ _ _ _ _ => (pg_name (i := 9) sc__law_bent.nd rfl (.inl rfl))) (fun _ _ _ _ _ => pts_nil) (fun _ _ _ _ _ => (pe_cal G__law_draw (hr.mono (by decide)) (by rfl) (pa_cons (pv 0) (pa_cons pe_int pa_nil))))) pa_nil)))) pss_nil)
    (pss_cons (ps_set (i := 4) sc__law_bent.nd rfl (.inl rfl) (pe_callTy (au_list (K := K)) (by rfl) T.b_list (by decide +kernel) (pa_cons (pv 2) pa_nil)))
    (pss_cons (ps_for PassesOwn.never rfl (pi_range1 (by rfl) T.b_range (pa_cons (pe_op op_add pe_int (pe_cal G__law_draw (hr.mono (by decide)) (by rfl) (pa_cons (pv 0) (pa_cons pe_int pa_nil)))) pa_nil)) (pg_name (i := 5) sc__law_bent.nd rfl (.inl rfl)) (pss_cons (ps_set (i := 6) sc__law_bent.nd rfl (.inl rfl) (pe_cal G__law_draw (hr.mono (by decide)) (by rfl) (pa_cons (pv 0) (pa_cons (pe_callB (lenK (K := K)) (by rfl) T.b_len (by decide +kernel) (pa_cons (pv 2) pa_nil)) pa_nil))))
    (pss_cons (ps_set (i := 7) sc__law_bent.nd rfl (.inl rfl) (pe_ix (ixT (K := K)) (pv 2) (pe_cal G__law_draw (hr.mono (by decide)) (by rfl) (pa_cons (pv 0) (pa_cons (pe_callB (lenK (K := K)) (by rfl) T.b_len (by decide +kernel) (pa_cons (pv 2) pa_nil)) pa_nil))) (fun _ _ => rfl)))
    (pss_cons (ps_set (i := 8) sc__law_bent.nd rfl (.inl rfl) (pe_lst (pa_cons (pe_op op_add (pe_ix (ixL (K := K)) (pv 4) (pv 6) (fun _ _ => rfl)) pe_int) (pa_cons (pe_op op_sub (pe_ix (ixL (K := K)) (pv 4) (pv 6) (fun _ _ => rfl)) pe_int) (pa_cons (pv 7) (pa_cons (pe_op op_add (pv 7) pe_int) (pa_cons (pe_op op_add (pe_ix (ixL (K := K)) (pv 4) (pv 6) (fun _ _ => rfl)) (pe_cal G__law_draw (hr.mono (by decide)) (by rfl) (pa_cons (pv 0) (pa_cons pe_int pa_nil)))) (pa_cons (pe_cal G__law_draw (hr.mono (by decide)) (by rfl) (pa_cons (pv 0) (pa_cons pe_int pa_nil))) (pa_cons (pe_op op_pow pe_int pe_int) pa_nil)))))))))
    (pss_one (ps_asg (pe_callB (au_max2 rfl) (by rfl) T.b_max (by decide +kernel) (pa_cons pe_int (pa_cons (pe_callB (au_min2 rfl) (by rfl) T.b_min (by decide +kernel) (pa_cons (pe_op op_pow pe_int pe_int) (pa_cons (pe_cal G__law_of hr (by rfl) (pa_cons (pv 0) (pa_cons (pv 8) pa_nil))) pa_nil))) pa_nil))) (pg_sub (pv 4) (pv 6) set_list)))))))
    (pss_one (ps_ret (pe_callTy (au_tuple (K := K)) (by rfl) T.b_tuple (by decide +kernel) (pa_cons (pv 4) pa_nil))))))))), q_start (τ := [some _, some _, some _, none, none, none, none, none, none, none]) rfl ?_⟩
    walk_at "go"
    refine ⟨H0, m, r, a, ns, c, 6, rfl, hm, by omega, by decide, by omega, fun wy H1 w0 w1 b1 hm1 => ?_⟩
    have tp1 := hm.tp b1
    have hpp1 := tp1.tup _ _ hpp
    walk_at "go"
    by_cases cw0 : wy = 0
    · rw [decide_eq_true cw0, if_pos rfl]
      walk_at "go"
      exact q pp pn H1 hpp1 rfl bd b1 (hm1.mono (by omega))
    rw [decide_eq_false cw0, if_neg Bool.false_ne_true]
    walk_at "go"
    by_cases cw1 : wy = 1
    · rw [decide_eq_true cw1, if_pos rfl]
      walk_at "go"
      intro D nD
      have oD := hm1.nem nD
      have nD0 := hm1.new nD
      have xD := Ex.new (o := .lst []) nD
      refine lcp_tup (xs := pn.map V.int) (fun i H' => ∃ (qn : List Int), ButM m r H1 H' ∧ MAt K H0 H' m r a ns (c + 1 + i) ∧ H' D = some (.lst (qn.map V.int)) ∧ qn.length = i ∧ ∀ x ∈ qn, 0 ≤ x ∧ x ≤ 1000000000)
        ⟨[], ButM.of xD, (hm1.ex xD).mono (by omega), upd_same, rfl, fun _ h => nomatch h⟩ (fun i H' _ h => by
          obtain ⟨_, b, _⟩ := h
          exact (hm1.tp b).tup _ _ hpp1) ?_ ?_
      · rintro i x H2 hx ⟨qn, b2, hm2, hD2, lq, bq⟩
        have hi := (List.getElem?_eq_some_iff.mp hx).1
        walk_at "go"
        refine ⟨H0, m, r, a, ns, _, 60, rfl, hm2, by omega, by decide, by omega, fun n3 H3 n30 n31 b3 hm3 => ?_⟩
        have hD3 := b3 _ _ oD.1 oD.2 hD2
        have lqm : (qn.map V.int).length = qn.length := List.length_map _
        walk_at "go"
        refine ⟨qn ++ [n3], (b2.trans b3).mut nD, (hm3.upd oD.1 oD.2 nD0).mono (by omega), by rw [upd_same, List.map_append]; rfl, by rw [List.length_append, lq]; rfl, fun y my => ?_⟩
        rcases List.mem_append.mp my with h | h
        · exact bq y h
        · rw [List.mem_singleton.mp h]
          omega
      · rintro H2 ⟨qn, b2, hm2, hD2, lq, bq⟩
        rw [lpn] at lq hm2
        walk_at "go"
        rename_i tp ntp
        have z := Ex.new (o := .tup (qn.map V.int)) ntp
        exact q tp qn _ upd_same lq bq ((b1.trans b2).ex z) ((hm2.ex z).mono (by omega))
    rw [decide_eq_false cw1, if_neg Bool.false_ne_true]
    walk_at "go"
    rename_i F nF
    have xF := Ex.new (o := .lst (pn.map V.int)) nF
    have hF : L2.upd H1 F (.lst (pn.map V.int)) F = some (.lst (pn.map V.int)) := upd_same
    have oF := hm1.nem nF
    have nF0 := hm1.new nF
    have hm2 := hm1.ex xF
    have b2 := b1.ex xF
    have hpp2 := xF _ _ hpp1
    generalize L2.upd H1 F (.lst (pn.map V.int)) = H2 at xF hF hm2 b2 hpp2 ⊢
    refine ⟨H0, m, r, a, ns, _, 3, rfl, hm2, by omega, by decide, by omega, fun n3 H3 n30 n31 b3 hm3 => ?_⟩
    have hF3 := b3 _ _ oF.1 oF.2 hF
    have B3 := b2.trans b3
    have hpp3 := (hm2.tp b3).tup _ _ hpp2
    refine ⟨1, n3, rfl, rfl, ?_⟩
    walk_at "go"
    obtain ⟨cnt, hcnt, cnt3⟩ : ∃ cnt : Nat, 1 + n3 = (cnt : Int) ∧ cnt ≤ 3 := ⟨(1 + n3).toNat, by omega, by omega⟩
    rw [show (1 + n3).toNat = cnt by omega]
    refine loop_range (fun i σ H' => ∃ (qn : List Int) (t5 t6 t7 t8 : Option V), σ = [some (.ref m), some bv, some (.ref pp), some (.int wy), some (.ref F), t5, t6, t7, t8, none] ∧ ButM m r H1 H' ∧ MAt K H0 H' m r a ns (c + 2 + 5 * i) ∧ H' F = some (.lst (qn.map V.int)) ∧ qn.length = pn.length ∧ ∀ x ∈ qn, 0 ≤ x ∧ x ≤ 1000000000)
      ⟨pn, _, _, _, _, rfl, (ButM.of xF).trans b3, hm3.mono (by omega), hF3, rfl, bd⟩ ?_ ?_
    · rintro i σ H4 hi ⟨qn, t5, t6, t7, t8, rfl, b4, hm4, hF4, lq, bq⟩
      have hpp4 := (hm1.tp b4).tup _ _ hpp1
      have lqm : (qn.map V.int).length = qn.length := List.length_map _
      walk_at "go"
      refine ⟨H0, m, r, a, ns, _, _, rfl, hm4, by omega, by omega, by omega, fun at_ H5 a0 a1 b5 hm5 => ?_⟩
      obtain ⟨ka, rfl⟩ : ∃ n : Nat, at_ = (n : Int) := ⟨_, (Int.toNat_of_nonneg a0).symm⟩
      have hF5 := b5 _ _ oF.1 oF.2 hF4
      have hpp5 := (hm4.tp b5).tup _ _ hpp4
      walk_at "go"
      refine ⟨H0, m, r, a, ns, _, _, rfl, hm5, by omega, by omega, by omega, fun nr H6 r0 r1 b6 hm6 => ?_⟩
      obtain ⟨kn, rfl⟩ : ∃ n : Nat, nr = (n : Int) := ⟨_, (Int.toNat_of_nonneg r0).symm⟩
      have hF6 := b6 _ _ oF.1 oF.2 hF5
      have hpp6 := (hm5.tp b6).tup _ _ hpp5
      obtain ⟨va, hva⟩ : ∃ v, qn[ka]? = some v := ⟨_, List.getElem?_eq_getElem (by omega)⟩
      obtain ⟨vn, hvn⟩ : ∃ v, pn[kn]? = some v := ⟨_, List.getElem?_eq_getElem (by omega)⟩
      have bva := bq va (List.mem_of_getElem? hva)
      have bvn := bd vn (List.mem_of_getElem? hvn)
      refine q_ixT hpp6 (atI_nat (by rw [List.getElem?_map, hvn]; rfl)) ?_
      walk_at "go"
      refine q_ixL hF6 (atI_nat (by rw [List.getElem?_map, hva]; rfl)) ?_
      walk_at "go"
      refine q_ixL hF6 (atI_nat (by rw [List.getElem?_map, hva]; rfl)) ?_
      walk_at "go"
      refine q_ixL hF6 (atI_nat (by rw [List.getElem?_map, hva]; rfl)) ?_
      walk_at "go"
      refine ⟨H0, m, r, a, ns, _, 40, rfl, hm6, by omega, by decide, by omega, fun n7 H7 n70 n71 b7 hm7 => ?_⟩
      walk_at "go"
      refine ⟨H0, m, r, a, ns, _, 40, rfl, hm7, by omega, by decide, by omega, fun n8 H8 n80 n81 b8 hm8 => ?_⟩
      walk_at "go"
      rw [show (10 : Int) ^ Int.toNat 9 = 1000000000 by decide]
      rename_i l9 nl9
      have y9 := Ex.new (o := .lst [V.int (va + 1), V.int (va - 1), V.int vn, V.int (vn + 1), V.int (va + n7), V.int n8, V.int 1000000000]) nl9
      have hl9 : L2.upd H8 l9 (.lst [V.int (va + 1), V.int (va - 1), V.int vn, V.int (vn + 1), V.int (va + n7), V.int n8, V.int 1000000000]) l9 = some (.lst [V.int (va + 1), V.int (va - 1), V.int vn, V.int (vn + 1), V.int (va + n7), V.int n8, V.int 1000000000]) := upd_same
      have ol9 := hm8.nem nl9
      have hm9 := hm8.ex y9
      have hF8 := (b7.trans b8) _ _ oF.1 oF.2 hF6
      have hF9 := y9 _ _ hF8
      generalize L2.upd H8 l9 (.lst [V.int (va + 1), V.int (va - 1), V.int vn, V.int (vn + 1), V.int (va + n7), V.int n8, V.int 1000000000]) = H9 at y9 hl9 hm9 hF9 ⊢
      refine ⟨H0, m, r, a, l9, ns, _, _, rfl, hm9, by omega, hl9, ol9.1, ol9.2, by simp, by simp, fun gv H10 mgv b10 hm10 => ?_⟩
      obtain ⟨z, rfl⟩ : ∃ z : Int, gv = .int z := by
        simp only [List.mem_cons, List.not_mem_nil, or_false] at mgv
        rcases mgv with e | e | e | e | e | e | e <;> exact ⟨_, e⟩
      have hF10 := b10 _ _ oF.1 oF.2 hF9
      walk_at "go"
      refine q_setL hF10 (j := ka) (by unfold ixN; rw [if_pos (by omega), if_pos (by rw [lqm]; omega)]; rfl) ?_
      refine ⟨qn.set ka (max 0 (min 1000000000 z)), _, _, _, _, rfl, ((((((b4.trans b5).trans b6).trans b7).trans b8).ex y9).trans b10).mut nF, (hm10.upd oF.1 oF.2 nF0).mono (by omega), by rw [upd_same, List.map_set], by rw [List.length_set]; exact lq, fun y my => ?_⟩
      rcases List.mem_or_eq_of_mem_set my with h | h
      · exact bq y h
      · rw [h]
        omega
    · rintro σ H4 ⟨qn, t5, t6, t7, t8, rfl, b4, hm4, hF4, lq, bq⟩
      walk_at "go"
      rename_i tp ntp
      have z := Ex.new (o := .tup (qn.map V.int)) ntp
      exact q tp qn _ upd_same lq bq ((b1.trans b4).ex z) ((hm4.ex z).mono (by omega))

end
end Bk24


namespace Bk24
open PySem PySem.Spec PyProof.Rows L2 Bs
open Evl (Ex)
section
variable {P : Program} {w : World} {K : PySem.W.Frag} {mg : Str → Option Value} {base : Heap}
/-! whole numbers -/
def spWhole : Sp := fun vs H Q _ => ∃ i : Int, vs = [.int i] ∧ Q (.bl true) H
theorem ok_is_whole (T : Tx K mg) : Cal P w K mg base 1 "is_whole" ["thing"] spWhole := by
  refine T.d_is_whole.cal sc_is_whole (fun vs H Q E h => ?_) (fun f cdv A outer s H vs Q E hr h => ?_)
  · obtain ⟨_, rfl, _⟩ := h
    rfl
  · obtain ⟨i, rfl, q⟩ := h
    refine ⟨_, (pss_one (ps_ret (pe_and (pe_callB (isiK (K := K)) (by rfl) T.b_isinstance (by decide +kernel) (pa_cons (pv 0) (pa_cons (pe_bltn (v := .ty "int") rfl T.b_int (by decide +kernel) rfl) pa_nil))) (pe_one (pe_not (pe_callB (isiK (K := K)) (by rfl) T.b_isinstance (by decide +kernel) (pa_cons (pv 0) (pa_cons (pe_bltn (v := .ty "bool") rfl T.b_bool (by decide +kernel) rfl) pa_nil)))))))), q_start (τ := [some _]) rfl ?_⟩
    walk_at "go"
    exact q
def spAmong : Sp := fun vs H Q _ => ∃ i l m : Int, vs = [.int i, .int l, .int m] ∧ Q (.bl (decide (l ≤ i ∧ i ≤ m))) H
theorem ok_is_among (T : Tx K mg) : Cal P w K mg base 2 "is_among" ["thing", "least", "most"] spAmong := by
  have G_is_whole : Cal P w K mg base 1 "is_whole" ["thing"] spWhole := ok_is_whole T
  refine T.d_is_among.cal sc_is_among (fun vs H Q E h => ?_) (fun f cdv A outer s H vs Q E hr h => ?_)
  · obtain ⟨_, _, _, rfl, _⟩ := h
    rfl
  · obtain ⟨i, l, m, rfl, q⟩ := h
    refine ⟨_, (pss_one (ps_ret (pe_and (pe_cal G_is_whole hr (by rfl) (pa_cons (pv 0) pa_nil)) (pe_and (pe_cal G_is_whole hr (by rfl) (pa_cons (pv 1) pa_nil)) (pe_and (pe_cal G_is_whole hr (by rfl) (pa_cons (pv 2) pa_nil)) (pe_one (pe_chain op_le op_le (pv 1) (pv 0) (pv 2)))))))), q_start (τ := [some _, some _, some _]) rfl ?_⟩
    walk_at "go"
    refine ⟨_, rfl, ?_⟩
    walk_at "go"
    refine ⟨_, rfl, ?_⟩
    walk_at "go"
    refine ⟨_, rfl, ?_⟩
    walk_at "go"
    refine q_ifD (fun h1 => ?_) (fun h1 => ?_)
    · walk_at "go"
      rw [show decide (i ≤ m) = decide (l ≤ i ∧ i ≤ m) by simp [h1]]
      exact q
    · rw [show decide (l ≤ i ∧ i ≤ m) = false by simp [h1]] at q
      exact q

end
end Bk24


namespace Bk24
open PySem PySem.Spec PyProof.Rows L2 Bs
open Evl (Ex)
section
variable {P : Program} {w : World} {K : PySem.W.Frag} {mg : Str → Option Value} {base : Heap}
/-! ### what is a plan -/
def spMNeed : Sp := fun vs H Q _ => ∃ (v : V) (b : Bk) (pp : Addr) (pn : List Int), vs = [v, .ref pp] ∧ TD H v (bookM b) ∧ H pp = some (.tup (pn.map V.int)) ∧ pn.length = b.tasks.length ∧ pn.length ≤ 30 ∧ (∀ x ∈ pn, 0 ≤ x ∧ x ≤ 1000000000) ∧ ∀ H', Ex H H' → Q .non H'
theorem ok_need_plan (T : Tx K mg) : Cal P w K mg base 3 "need_plan" ["book", "thing"] spMNeed := by
  have G_is_among : Cal P w K mg base 2 "is_among" ["thing", "least", "most"] spAmong := ok_is_among T
  refine T.d_need_plan.cal sc_need_plan (fun vs H Q E h => ?_) (fun f cdv A outer s H vs Q E hr h => ?_)
  · obtain ⟨_, _, _, _, rfl, _⟩ := h
    rfl
  · obtain ⟨v, b, pp, pn, rfl, td, hpp, lp, l30, bd, q⟩ := h
    obtain ⟨ba, mm, g, ta, wt, fx, rfl, hab, _, _, ⟨txs, ht, rt⟩, _, _⟩ := bookM_parts td
    have lt := rt.len
    have lpm : (pn.map V.int).length = pn.length := List.length_map _
    refine ⟨_, (pss_cons (ps_if (PW.pt (pw_or (pt_not (pt_val (pe_callB (isiK (K := K)) (by rfl) T.b_isinstance (by decide +kernel) (pa_cons (pv 1) (pa_cons (pe_bltn (v := .ty "tuple") rfl T.b_tuple (by decide +kernel) rfl) pa_nil))))) (pw_or1 (pt_cmpR op_ne (pe_callB (lenK (K := K)) (by rfl) T.b_len (by decide +kernel) (pa_cons (pv 1) pa_nil)) (pe_callB (lenK (K := K)) (by rfl) T.b_len (by decide +kernel) (pa_cons (pe_ix (ixT (K := K)) (pv 0) (pe_globE rfl T.c_TASKS) (fun _ _ => rfl)) pa_nil)) (nomark _))))) (pss_one ps_off) pss_nil)
    (pss_one (ps_if (pt_not (pt_val (pe_callB (au_all (K := K) rfl) (by rfl) T.b_all (by decide +kernel) (pa_cons (pe_lc (own := [("hour", 2)]) rfl sc_need_plan.nd (piTK (K := K) (pv 1)) (blkOk_by (own := [("hour", 2)]) (N := N_need_plan) (sc := defScope s_need_plan) (by decide +kernel)) (fun _ _ _ _ _ => (pg_name (i := 2) sc_need_plan.nd rfl (.inl rfl))) (fun _ _ _ _ _ => pts_nil) (fun _ _ _ _ _ => (pe_cal G_is_among hr (by rfl) (pa_cons (pv 2) (pa_cons pe_int (pa_cons (pe_globE rfl T.c_LAST_BEGIN) pa_nil)))))) pa_nil)))) (pss_one ps_off) pss_nil))), q_start (τ := [some _, some _, none]) rfl ?_⟩
    walk_at "go"
    intro D nD
    refine lcp_tup (xs := pn.map V.int) (fun i H' => Ex H H' ∧ H' D = some (.lst ((List.replicate i true).map V.bl))) ⟨Ex.new nD, upd_same⟩ (fun i H' _ h => h.1 _ _ hpp) ?_ ?_
    · rintro i x H1 hx ⟨e1, hD1⟩
      obtain ⟨y, hy, rfl⟩ := map_get hx
      have hi := (List.getElem?_eq_some_iff.mp hy).1
      have by_ := bd y (List.mem_of_getElem? hy)
      have lf : ((List.replicate i true).map V.bl).length ≤ 1000 := by
        rw [List.length_map, List.length_replicate]
        omega
      walk_at "go"
      refine ⟨y, 0, 1000000000, rfl, ?_⟩
      rw [decide_eq_true by_]
      walk_at "go"
      refine ⟨e1.mut nD, ?_⟩
      rw [upd_same, List.replicate_succ', List.map_append]
      rfl
    · rintro H1 ⟨e1, hD1⟩
      walk_at "go"
      refine q_all hD1 ?_
      rw [List.all_replicate]
      refine ⟨_, rfl, ?_⟩
      have : (!(if (pn.map V.int).length = 0 then true else id true)) = false := by split <;> rfl
      rw [this, if_neg Bool.false_ne_true]
      walk_at "go"
      exact q H1 e1

end
end Bk24

namespace PySem
open Sem (wp)
section
variable {prog : Program} {w : World} {A : Around} {E : Value → Shared → Prop} {s : Shared}
/-- one more turn of enumerate over anything that draws, its pair of before still held -/
theorem held_turn {e it T : Addr} {fp : List Addr} {n i : Nat} {Pd : Nat → Value → Prop} {St : Nat → Heap → Prop} {old : Value} {f : Bool} {oT : Obj} {Q : Option Value → Shared → Prop}
    (D : Draws prog w A.in1 it fp n Pd St) (he : IsEnumHeld s.heap e it i old T f) (hT : s.heap.get? T = some oT) (nTe : T ≠ e) (nTi : T ≠ it) (st : St i s.heap) (hi : i < n) (ne : e ≠ it) (ef : e ∉ fp)
    (q : ∀ x h' tk, Pd i x → IsEnumHeld h' e it ((i : Int) + 1) old T true → St (i + 1) h' → h'.get? s.heap.objs.size = some { cls := .type "tuple", data := .seq #[.int i tk, x] } →
      (∀ b o, b ≠ e → b ≠ it → s.heap.get? b = some o → h'.get? b = some o) → Q (some (.ref s.heap.objs.size)) { s with heap := h', toks := tk + 1 }) : wpAny (model prog w) A (pyNext (.ref e)) Q E s := by
  have ty : s.TypeIs (.ref e) "enumerate" := ⟨_, he, rfl⟩
  unfold pyNext
  refine wpAny_bind (wpAny_attempt (wpAny_callSpecial?_slot (name := Str.ofString "__next__") ty F.slot_enumerate_next (wpAny_call_entry F.slot_enumerate_next ty F.entry_enumerate_next ?_ (F.args_enumerate_next_1 _))))
  obtain ⟨hp, g, d, tk0, os⟩ := s
  have le : e < hp.objs.size := Heap.lt_size he
  change wpAny _ _ (field (Value.ref e) 2 >>= _) _ _ _
  refine wpAny_bind (wpAny_field he rfl (x := .ref it) rfl ?_)
  refine wpAny_bind (D.item i _ _ _ hi st fun x k1 tk hx st1 b1 => ?_)
  replace b1 : Heap.SameBut it hp k1 := b1
  have e1 : IsEnumHeld k1 e it i old T f := (b1.2 e ne).trans he
  change wpAny _ _ (field (Value.ref e) 3 >>= _) _ _ ⟨k1, g, d, tk, os⟩
  refine wpAny_bind (wpAny_field e1 rfl (x := rawInt i) rfl ?_)
  change wpAny _ _ (field (Value.ref e) 4 >>= _) _ _ ⟨k1, g, d, tk, os⟩
  refine wpAny_bind (wpAny_field e1 rfl (x := .none) rfl ?_)
  show wpAny _ _ (mkInt i >>= _) _ _ ⟨k1, g, d, tk, os⟩
  refine wpAny_bind (wpAny_mkInt ?_)
  show wpAny _ _ (setField (.ref e) 3 (rawInt ((i : Int) + 1)) >>= _) _ _ _
  refine wpAny_bind (wpAny_setField_rec e1 (by simp) fun k2 e2 b2 => ?_)
  replace b2 : Heap.SameBut e k1 k2 := b2
  replace e2 : IsEnumHeld k2 e it ((i : Int) + 1) old T f := e2
  change wpAny _ _ (setField (Value.ref e) 4 Value.none >>= _) _ _ ⟨k2, g, d, tk + 1, os⟩
  refine wpAny_bind (wpAny_setField_rec e2 (by simp) fun k3 e3 b3 => ?_)
  replace b3 : Heap.SameBut e k2 k3 := b3
  replace e3 : IsEnumHeld k3 e it ((i : Int) + 1) old T f := e3
  show wpAny _ _ (newTuple [.int i tk, x] >>= _) _ _ ⟨k3, g, d, tk + 1, os⟩
  refine wpAny_bind (wpAny_newTuple ?_)
  have z3 : k3.objs.size = hp.objs.size := by rw [b3.1, b2.1, b1.1]
  have off : ∀ b o, b ≠ e → b ≠ it → hp.get? b = some o → k3.get? b = some o := fun b o h1 h2 h => b3.extBut b o h1 (b2.extBut b o h1 (b1.extBut b o h2 h))
  have st3 : St (i + 1) k3 := D.frame _ _ _ st1 fun b hb o y => by
    have hbe : b ≠ e := fun q => ef (q ▸ hb)
    exact b3.extBut b o hbe (b2.extBut b o hbe y)
  generalize hk : k3.push { cls := .type "tuple", data := .seq #[.int i tk, x] } = k4
  have up : ∀ b o, k3.get? b = some o → k4.get? b = some o := fun b o h => by
    rw [← hk]
    exact Heap.get?_push_of_some _ h
  have t4 : k4.get? hp.objs.size = some { cls := .type "tuple", data := .seq #[.int i tk, x] } := by
    rw [← hk, ← z3]
    exact Heap.get?_push_size _ rfl
  have e4 : IsEnumHeld k4 e it ((i : Int) + 1) old T f := up _ _ e3
  have st4 : St (i + 1) k4 := D.frame _ _ _ st3 fun b _ o y => up b o y
  have off4 : ∀ b o, b ≠ e → b ≠ it → hp.get? b = some o → k4.get? b = some o := fun b o h1 h2 h => up _ _ (off b o h1 h2 h)
  show wpAny _ _ (Builtin.SmallTypes.ownedTupleIsFree (.ref e) >>= _) _ _ ⟨k4, g, d, tk + 1, os⟩
  rw [z3]
  clear up off st3 e3 b3 e2 b2 e1 b1 hk
  refine wpAny_bind (wpAny_tupleHeld_enum (s := ⟨k4, g, d, tk + 1, os⟩) e4 (off4 T oT nTe nTi hT) fun k5 e5 b5 => ?_)
  replace b5 : Heap.SameBut e k4 k5 := b5
  simp only [Bool.false_eq_true, if_false]
  refine wpAny_pure ⟨_, rfl, wpAny_pure (q x k5 tk hx e5 (D.frame _ _ _ st4 fun b hb o y => b5.extBut b o (fun q => ef (q ▸ hb)) y) (b5.extBut _ _ (Nat.ne_of_gt le) t4) fun b o h1 h2 h => b5.extBut b o h1 (off4 b o h1 h2 h))⟩
theorem held_stop {e it T : Addr} {fp : List Addr} {n : Nat} {Pd : Nat → Value → Prop} {St : Nat → Heap → Prop} {i : Int} {old : Value} {f : Bool} {Q : Option Value → Shared → Prop}
    (D : Draws prog w A.in1 it fp n Pd St) (he : IsEnumHeld s.heap e it i old T f) (st : St n s.heap) (q : ∀ h', Heap.ExtBut it s.heap h' → Q none { s with heap := h' }) : wpAny (model prog w) A (pyNext (.ref e)) Q E s := by
  have ty : s.TypeIs (.ref e) "enumerate" := ⟨_, he, rfl⟩
  unfold pyNext
  refine wpAny_bind (wpAny_attempt (wpAny_callSpecial?_slot (name := Str.ofString "__next__") ty F.slot_enumerate_next (wpAny_call_entry F.slot_enumerate_next ty F.entry_enumerate_next ?_ (F.args_enumerate_next_1 _))))
  change wpAny _ _ (field (Value.ref e) 2 >>= _) _ _ _
  refine wpAny_bind (wpAny_field he rfl (x := .ref it) rfl ?_)
  refine wpAny_bind (D.done _ _ _ st fun h' x b hx => ?_)
  obtain ⟨o, ho, hc⟩ := hx
  exact wpAny_bind (wpAny_isInstance (T := "StopIteration") (b := true) ⟨o, ho, hc⟩ isSubtype_stop (wpAny_pure (q _ b)))
end
/-- enumerate(t), t a tuple, handed to dict -/
theorem pairs_enumT {prog : Program} {w : World} (e it l : Addr) (nei : e ≠ it) (nle : l ≠ e) (nli : l ≠ it) (items : Array Value) :
    PairArg prog w "enumerate" e [e, it, l] [e, it] items.size (fun i k v => (∃ t, k = .int i t) ∧ items[i]? = some v) (fun h => (∃ old, IsEnum h e it 0 old) ∧ h.IsTupleIter it l 0 ∧ h.IsTuple l items) where
  type := fun s ⟨⟨_, x⟩, _⟩ => ⟨_, x, rfl⟩
  notDict := by decide
  keep := fun h h' ⟨⟨old, x⟩, y, z⟩ k => ⟨⟨old, k _ _ x⟩, y.at fun o q => k _ o q, z.at fun o q => k _ o q⟩
  there := fun h ⟨⟨_, x⟩, ⟨o1, y, _⟩, ⟨o2, z, _⟩⟩ b hb => by
    rcases List.mem_cons.mp hb with rfl | hb
    · exact ⟨_, x⟩
    rcases List.mem_cons.mp hb with rfl | hb
    · exact ⟨_, y⟩
    rw [List.mem_singleton.mp hb]
    exact ⟨_, z⟩
  sub := fun b hb => by
    rcases List.mem_cons.mp hb with rfl | hb
    · exact List.mem_cons_self
    · rw [List.mem_singleton.mp hb]
      exact List.mem_cons_of_mem _ List.mem_cons_self
  noKeys := fun A s Q E hA ⟨⟨_, x⟩, _⟩ h => getAttrOr_miss_enumerate x rfl rfl rfl enumerate_no_keys (by decide +kernel) hA h
  iter := fun A s d Q E hA ⟨⟨old, x⟩, y, z⟩ hd hdf h => by
    have de : d ≠ e := fun q => hdf (q ▸ List.mem_cons_self)
    have di : d ≠ it := fun q => hdf (q ▸ List.mem_cons_of_mem _ List.mem_cons_self)
    have dl : d ≠ l := fun q => hdf (q ▸ List.mem_cons_of_mem _ (List.mem_cons_of_mem _ List.mem_cons_self))
    have Dr := Draws.tuple (prog := prog) (w := w) (A := A.in1) hA it l nli items
    have ef : e ∉ [it, l] := fun hm => by
      rcases List.mem_cons.mp hm with q | q
      · exact nei q
      · exact nle (List.mem_singleton.mp q).symm
    refine wpAny_pyIter_enum x (h e [e, it] (fun i h => (h.IsTupleIter it l i ∧ h.IsTuple l items) ∧ ((∃ old, IsEnum h e it i old) ∨ ∃ old T f oT, IsEnumHeld h e it i old T f ∧ h.get? T = some oT ∧ T ≠ e ∧ T ≠ it ∧ T ≠ d)) s.heap s.toks ?_ ⟨⟨y, z⟩, .inl ⟨old, x⟩⟩ (fun _ _ e => e) fun b hb => .inl hb)
    have out : ∀ b, b ∉ [e, it] → b ≠ e ∧ b ≠ it := fun b hb => ⟨fun q => hb (q ▸ List.mem_cons_self), fun q => hb (q ▸ List.mem_cons_of_mem _ List.mem_cons_self)⟩
    exact {
      off := fun hm => by
        rcases List.mem_cons.mp hm with q | q
        · exact de q
        · exact di (List.mem_singleton.mp q)
      frame := fun i h1 h2 ⟨⟨u, v⟩, st⟩ k => by
        refine ⟨⟨u.at fun o q => k _ o di.symm q, v.at fun o q => k _ o dl.symm q⟩, ?_⟩
        rcases st with ⟨old, x⟩ | ⟨old, T, f, oT, x, hT, r1, r2, r3⟩
        · exact .inl ⟨old, k _ _ de.symm x⟩
        · exact .inr ⟨old, T, f, oT, k _ _ de.symm x, k _ _ r3 hT, r1, r2, r3⟩
      item := fun i s1 Q1 E1 hi ⟨uv, st⟩ hds hQ => by
        have ec : ((i + 1 : Nat) : Int) = (i : Int) + 1 := by omega
        have nit : s1.heap.objs.size ≠ it := let ⟨_, q, _⟩ := uv.1; Nat.ne_of_gt (Heap.lt_size q)
        rcases st with ⟨old, x⟩ | ⟨old, T, f, oT, x, hT, r1, r2, r3⟩
        · refine wpAny_pyNext_enum_itemD Dr x uv hi nei ef fun y h' tk hy ho st' hT _ hk => ?_
          exact hQ s1.heap.objs.size _ _ h' (tk + 1) ⟨⟨_, rfl⟩, hy⟩ (.inl ⟨_, hT, rfl, _, rfl⟩)
            ⟨st', .inr ⟨_, s1.heap.objs.size, false, _, (by rw [ec]; exact ho), hT, Nat.ne_of_gt (Heap.lt_size x), nit, Nat.ne_of_gt hds⟩⟩ fun b o hb q => hk b o (out b hb).1 (out b hb).2 q
        · refine held_turn Dr x hT r1 r2 uv hi nei ef fun y h' tk hy ho st' hT' hk => ?_
          exact hQ s1.heap.objs.size _ _ h' (tk + 1) ⟨⟨_, rfl⟩, hy⟩ (.inl ⟨_, hT', rfl, _, rfl⟩)
            ⟨st', .inr ⟨old, T, true, oT, (by rw [ec]; exact ho), hk _ _ r1 r2 hT, r1, r2, r3⟩⟩ fun b o hb q => hk b o (out b hb).1 (out b hb).2 q
      done := fun s1 Q1 E1 ⟨uv, st⟩ hQ => by
        rcases st with ⟨old, x⟩ | ⟨old, T, f, oT, x, _⟩
        · exact wpAny_pyNext_enum_endD Dr x uv fun h' hk => hQ h' s1.toks fun b o hb q => hk b o (out b hb).2 q
        · exact held_stop Dr x uv fun h' hk => hQ h' s1.toks fun b o hb q => hk b o (out b hb).2 q }
end PySem

namespace Bs
open PySem PySem.Spec PyProof.Rows L2
open Evl (Ex)
/-- the pairs (0, x), (1, y) .. with whole keys -/
def enumK {α : Type} : Nat → List α → List (Key × α)
  | _, [] => []
  | k, x :: r => (.inl (k : Int), x) :: enumK (k + 1) r
theorem enumK_len {α : Type} : ∀ {xs : List α} {k : Nat}, (enumK k xs).length = xs.length
  | [], _ => rfl
  | _ :: r, k => by
    rw [enumK, List.length_cons, List.length_cons, enumK_len]
theorem enumK_get {α : Type} : ∀ {xs : List α} {k i : Nat} {x : α}, xs[i]? = some x → (enumK k xs)[i]? = some (.inl ((k + i : Nat) : Int), x)
  | [], _, _, _, h => by simp at h
  | y :: r, k, 0, x, h => by
    simp at h
    rw [enumK, h]
    rfl
  | y :: r, k, i + 1, x, h => by
    rw [enumK, List.getElem?_cons_succ, enumK_get (by simpa using h)]
    congr 4
    omega
theorem enumK_kv : ∀ {xs : List V} {us : List Value} {k : Nat}, Vals xs us → KV (enumK k xs) (enumK k us)
  | _, _, _, .nil => .nil
  | _, _, _, .cons r t => .cons ⟨rfl, r⟩ (enumK_kv t)
theorem enumK_ints : ∀ {ns : List Int} {k : Nat}, enumK k (ns.map V.int) = ((ns.mapIdx fun i n => (((k + i : Nat) : Int), n)).map fun p => (Sum.inl p.1, V.int p.2))
  | [], _ => rfl
  | n :: r, k => by
    rw [List.map_cons, enumK, enumK_ints, List.mapIdx_cons, List.map_cons]
    congr 1
    congr 2
    funext i n
    congr 2
    omega
def tDictEnum (K : PySem.W.Frag) (te : TE) : TE := fun σ H Q => te σ H fun v H1 => ∃ (a : Addr) (xs : List V), v = .ref a ∧ SqT K H1 a xs ∧ ∀ d, H1 d = none → Q (.ref d) (upd H1 d (.dK (mergeK [] (enumK 0 xs))))
theorem pe_dictEnum {X : Cx} {K : PySem.W.Frag} {e : Expr} {te : TE} {p p2 pos pos2 : Pos} (hc : X.calm = true) (hg : Gl X "dict") (hm : X.mg "dict" = none) (hg2 : Gl X "enumerate") (hm2 : X.mg "enumerate" = none) (he : PE X e te) (hK : X.K = K := by rfl)
    (hs : starEach [e] X.env = (false, eval e X.env) :: starEach [] X.env := by rfl)
    (hs2 : starEach [.Call (.Name "enumerate" p2) [e] [] pos2] X.env = (false, eval (.Call (.Name "enumerate" p2) [e] [] pos2) X.env) :: starEach [] X.env := by rfl) :
    PE X (.Call (.Name "dict" p) [.Call (.Name "enumerate" p2) [e] [] pos2] [] pos) (tDictEnum K te) := by
  subst hK
  refine ⟨fun pins s σ H Q I h => ?_⟩
  refine Call_ (ld_blt I hg hm PyProof.Rows.boot_dict (PyProof.Rows.callWith_type1 (args_cons (Call_ (ld_blt I hg2 hm2 PyProof.Rows.boot_enumerate (PyProof.Rows.callWith_type1 (args_cons (thn (he.run pins s σ H _ I h) fun u s1 ⟨v, H1, I1, r1, q1⟩ => args_nil ?_) hs) hs rfl))) hs2) hs2 rfl))
  obtain ⟨a, xs, ev, hq, q⟩ := q1
  subst ev
  obtain rfl : u = Value.ref a := r1
  obtain ⟨its, rv, p', hz⟩ := I1.tuple hq
  refine q_call_enumerateT (show s1.heap.IsTuple a its.toArray from p') fun h' en hit hsz hk => args_nil ?_
  have I2 : L2.Inv X pins σ H1 { s1 with heap := h' } := I1.kept (t' := s1.toks) hk
  have la : a < s1.heap.objs.size := by
    obtain ⟨o, ho, _⟩ := p'
    exact Heap.lt_size ho
  have ht : h'.IsTuple a its.toArray := by
    obtain ⟨o, ho, r⟩ := p'
    exact ⟨o, hk _ _ ho, r⟩
  refine PySem.call_dict_pairs (knd := mixKind X.prog X.w) (kvs := enumK 0 its) (pairs_enumT (s1.heap.objs.size + 1) s1.heap.objs.size a (Nat.succ_ne_self _) (Nat.ne_of_lt (Nat.lt_succ_of_lt la)) (Nat.ne_of_lt la) its.toArray) (I1.ok.hd hc) ⟨⟨_, en⟩, hit, ht⟩ ⟨by rw [enumK_len, List.size_toArray], fun i key v r => ?_⟩ (by rw [List.size_toArray, ← rv.length]; exact hz) fun h2 tk hd keep => ?_
  · obtain ⟨⟨t, rfl⟩, hv⟩ := r
    have hv' : its[i]? = some v := by simpa using hv
    exact ⟨_, enumK_get hv', by rw [Nat.zero_add]; show PySem.Value.isInt (i : Int) (.int i t) = true; simp [PySem.Value.isInt]⟩
  · have le : s1.heap.objs.size ≤ h'.objs.size := by rw [hsz]; exact Nat.le_add_right _ _
    have keep' : ∀ (b : Addr) (ob : Obj), s1.heap.get? b = some ob → h2.get? b = some ob := fun b ob e => keep b ob (fun z => by
      have lb := Heap.lt_size e
      rcases List.mem_cons.mp z with z | z
      · rw [z] at lb
        exact absurd lb (Nat.not_lt_of_le (Nat.le_succ _))
      · rw [List.mem_singleton.mp z] at lb
        exact Nat.lt_irrefl _ lb) (hk b ob e)
    refine ⟨.ref _, upd H1 h'.objs.size (.dK (mergeK [] (enumK 0 xs))), I1.laid (t' := tk) keep' le (dk_new ?_ ?_ (KV.merge (enumK_kv rv) .nil) hd), rfl, q _ (I1.hok.fresh le)⟩
    · have := length_mergeK (enumK 0 xs) []
      rw [enumK_len] at this
      simp only [List.length_nil] at this
      omega
    · have := I1.big
      rw [beq_eq_false_iff_ne]
      intro z
      rw [z] at le
      exact absurd this (Nat.not_lt_of_le le)
theorem q_dictEnum {K : PySem.W.Frag} {te : TE} {σ : L2.St} {H : Hp} {Q : VK} (q : te σ H fun v H1 => ∃ (a : Addr) (xs : List V), v = .ref a ∧ SqT K H1 a xs ∧ ∀ d, H1 d = none → Q (.ref d) (upd H1 d (.dK (mergeK [] (enumK 0 xs))))) : tDictEnum K te σ H Q := q
end Bs


namespace Bk24
open PySem PySem.Spec PyProof.Rows L2 Bs
open Evl (Ex)
section
variable {P : Program} {w : World} {K : PySem.W.Frag} {mg : Str → Option Value} {base : Heap}
/-! ### faults of plans: what is read of a book and a plan -/
def tk0 : Tk := ⟨"", 0, "", [], 0, none, 0⟩
def tkA (b : Bk) (i : Nat) : Tk := b.tasks.getD i tk0
theorem tkA_of {b : Bk} {i : Nat} {t : Tk} (h : b.tasks[i]? = some t) : tkA b i = t := by
  unfold tkA
  rw [List.getD_eq_getElem?_getD, h]
  rfl
def pA (pn : List Int) (i : Nat) : Int := pn.getD i 0
theorem pA_of {pn : List Int} {i : Nat} {x : Int} (h : pn[i]? = some x) : pA pn i = x := by
  unfold pA
  rw [List.getD_eq_getElem?_getD, h]
  rfl
def endP (b : Bk) (pn : List Int) (i : Nat) : Int := pA pn i + (tkA b i).len
def plK (pn : List Int) : List (Int × Int) := pn.mapIdx fun i n => ((i : Int), n)
theorem plK_get {pn : List Int} {i : Nat} {p : Int × Int} (h : (plK pn)[i]? = some p) : i < pn.length ∧ p = ((i : Int), pA pn i) := by
  unfold plK at h
  rw [List.getElem?_mapIdx] at h
  obtain ⟨x, hx, rfl⟩ := Option.map_eq_some_iff.mp h
  exact ⟨(List.getElem?_eq_some_iff.mp hx).1, by rw [pA_of hx]⟩
theorem plK_at {pn : List Int} {i : Nat} (h : i < pn.length) : (plK pn)[i]? = some ((i : Int), pA pn i) := by
  unfold plK
  rw [List.getElem?_mapIdx, List.getElem?_eq_getElem h]
  show some (_, _) = _
  rw [pA_of (List.getElem?_eq_getElem h)]
theorem plK_mem {pn : List Int} {i : Nat} (h : i < pn.length) : ((i : Int), pA pn i) ∈ plK pn := List.mem_of_getElem? (plK_at h)
theorem plK_len {pn : List Int} : (plK pn).length = pn.length := List.length_mapIdx
theorem plK_keys {pn : List Int} : (plK pn).map (·.1) = (List.range pn.length).map fun i : Nat => (i : Int) := by
  refine List.ext_getElem? fun i => ?_
  rw [List.getElem?_map, List.getElem?_map]
  by_cases h : i < pn.length
  · rw [plK_at h, List.getElem?_range h]
    rfl
  · rw [List.getElem?_eq_none (by rw [plK_len]; omega), List.getElem?_eq_none (by rw [List.length_range]; omega)]
    rfl
theorem plK_nd {pn : List Int} : ((plK pn).map (·.1)).Nodup := by
  rw [plK_keys]
  exact List.pairwise_map.mpr (List.nodup_range.imp fun {a c} h e => h (Int.ofNat.inj e))
theorem plK_all {pn : List Int} : mergeK [] (enumK 0 (pn.map V.int)) = (plK pn).map kI := by
  rw [enumK_ints, show (List.map (fun p : Int × Int => ((Sum.inl p.1, V.int p.2) : Key × V)) (pn.mapIdx fun i n => (((0 + i : Nat) : Int), n))) = (plK pn).map kI from ?_]
  · exact merge_kI (acc := []) plK_nd
  · unfold plK
    congr 2
    funext i n
    rw [Nat.zero_add]
structure BkOk (b : Bk) : Prop where
  n : b.tasks.length ≤ 30
  task : ∀ t ∈ b.tasks, 1 ≤ t.len ∧ t.len ≤ 1000 ∧ 0 ≤ t.frm ∧ t.frm ≤ 1000
  needs : ∀ t ∈ b.tasks, (t.needs.map (·.1)).Nodup ∧ ∀ n ∈ t.needs, 1 ≤ n.2 ∧ n.2 ≤ 100
  goods : b.goods.length ≤ 10
  waits : b.waits.length ≤ 60
  wait : ∀ x ∈ b.waits, 0 ≤ x.a ∧ x.a < b.tasks.length ∧ 0 ≤ x.b ∧ x.b < b.tasks.length ∧ 0 ≤ x.gap ∧ x.gap ≤ 1000
  fixeds : b.fixed.length ≤ 30
  once : (b.fixed.map (·.1)).Nodup
  fixed : ∀ x ∈ b.fixed, 0 ≤ x.1 ∧ x.1 < b.tasks.length
theorem mergG_bd {g : Str} : ∀ {ns : List (Str × Int)}, (ns.map (·.1)).Nodup → (∀ n ∈ ns, 1 ≤ n.2 ∧ n.2 ≤ 100) → 0 ≤ mergG g ns ∧ mergG g ns ≤ 100
  | [], _, _ => ⟨Int.le_refl 0, (by decide : (0 : Int) ≤ 100)⟩
  | n :: r, nd, h => by
    obtain ⟨n1, n2⟩ := List.nodup_cons.mp nd
    have ih := mergG_bd (g := g) n2 fun x m => h x (List.mem_cons_of_mem _ m)
    have h0 := h n List.mem_cons_self
    unfold mergG
    by_cases e : n.1 = g
    · rw [if_pos e, mergG_off (by rw [← e]; exact n1)]
      omega
    · rw [if_neg e]
      omega
structure PlOk (b : Bk) (pn : List Int) : Prop where
  len : pn.length = b.tasks.length
  bd : ∀ x ∈ pn, 0 ≤ x ∧ x ≤ 1000000000
theorem PlOk.at_ {b : Bk} {pn : List Int} (h : PlOk b pn) {i : Nat} (hi : i < b.tasks.length) : pn[i]? = some (pA pn i) ∧ 0 ≤ pA pn i ∧ pA pn i ≤ 1000000000 := by
  have l := h.len
  have e : pn[i]? = some pn[i] := List.getElem?_eq_getElem (by omega)
  rw [pA_of e]
  exact ⟨e, h.bd _ (List.mem_of_getElem? e)⟩
theorem BkOk.tk {b : Bk} (h : BkOk b) {i : Nat} (hi : i < b.tasks.length) : b.tasks[i]? = some (tkA b i) ∧ 1 ≤ (tkA b i).len ∧ (tkA b i).len ≤ 1000 ∧ 0 ≤ (tkA b i).frm ∧ (tkA b i).frm ≤ 1000 ∧ ((tkA b i).needs.map (·.1)).Nodup ∧ ∀ n ∈ (tkA b i).needs, 1 ≤ n.2 ∧ n.2 ≤ 100 := by
  have e : b.tasks[i]? = some b.tasks[i] := List.getElem?_eq_getElem hi
  rw [tkA_of e]
  have m := List.mem_of_getElem? e
  obtain ⟨a1, a2, a3, a4⟩ := h.task _ m
  exact ⟨e, a1, a2, a3, a4, h.needs _ m⟩
def tkV (t : Tk) (nv : V) : List V := [.str t.name, .int t.len, .str t.mach, nv, .int t.frm, dueV t.due, .int t.wt]
def NdAt (H : Hp) (nv : V) (ns : List (Str × Int)) : Prop := ∃ q o xs, nv = .ref q ∧ o.dict = none ∧ H q = some (.frz o (.tup xs)) ∧ RowsAt goodD H xs ns
/-- a book as it stands, made by drawing or by hand -/
structure FB (K : PySem.W.Frag) (H : Hp) (v : V) (b : Bk) : Prop where
  ex : ∃ a m g t w f txs gxs wxs fxs, v = .ref a ∧ H a = some (.tup [.ref m, .ref g, .ref t, .ref w, .ref f]) ∧ H t = some (.tup txs) ∧ txs.length = b.tasks.length ∧
    (∀ i : Nat, i < b.tasks.length → ∃ p nv, txs[i]? = some (.ref p) ∧ H p = some (.tup (tkV (tkA b i) nv)) ∧ (b.goods ≠ [] → NdAt H nv (tkA b i).needs)) ∧
    SqT K H g gxs ∧ RowsAt goodD H gxs b.goods ∧ H w = some (.tup wxs) ∧ RowsAt waitD H wxs b.waits ∧ SqT K H f fxs ∧ RowsAt fixD H fxs b.fixed
theorem NdAt.ex {H H' : Hp} {nv : V} {ns : List (Str × Int)} (e : Ex H H') (h : NdAt H nv ns) : NdAt H' nv ns := by
  obtain ⟨q, o, xs, e1, e2, e3, e4⟩ := h
  exact ⟨q, o, xs, e1, e2, e _ _ e3, RowsAt.tp (Tp.ex e) e4⟩
theorem FB.up {K : PySem.W.Frag} {H H' : Hp} {v : V} {b : Bk} (e : Ex H H') (h : FB K H v b) : FB K H' v b := by
  obtain ⟨a, m, g, t, w, f, txs, gxs, wxs, fxs, rfl, h1, h2, h3, h4, h5, h6, h7, h8, h9, h10⟩ := h.ex
  refine ⟨a, m, g, t, w, f, txs, gxs, wxs, fxs, rfl, e _ _ h1, e _ _ h2, h3, fun i hi => ?_, Evl.ex_t e h5, RowsAt.tp (Tp.ex e) h6, e _ _ h7, RowsAt.tp (Tp.ex e) h8, Evl.ex_t e h9, RowsAt.tp (Tp.ex e) h10⟩
  obtain ⟨p, nv, a1, a2, a3⟩ := h4 i hi
  exact ⟨p, nv, a1, e _ _ a2, fun z => (a3 z).ex e⟩
theorem FB.of {K : PySem.W.Frag} {H : Hp} {v : V} {b : Bk} (td : TD H v (bookM b)) : FB K H v b := by
  obtain ⟨a, m, g, t, w, f, rfl, h1, _, ⟨gxs, g1, g2⟩, ⟨txs, t1, t2⟩, ⟨wxs, w1, w2⟩, ⟨fxs, f1, f2⟩⟩ := bookM_parts td
  have lt := t2.len
  refine ⟨a, m, g, t, w, f, txs, gxs, wxs, fxs, rfl, h1, t1, lt, fun i hi => ?_, SqT.fz g1, g2, w1, w2, SqT.fz f1, f2⟩
  obtain ⟨tv, htv⟩ : ∃ tv, txs[i]? = some tv := ⟨_, List.getElem?_eq_getElem (by omega)⟩
  obtain ⟨k, hk, kd⟩ := t2.get htv
  obtain ⟨p, q, o, xs, rfl, hp, od, hq, rn⟩ := taskF_parts kd
  rw [tkA_of hk]
  exact ⟨p, .ref q, htv, hp, fun _ => ⟨q, o, xs, rfl, od, hq, rn⟩⟩
/-- a dict that is locked or not takes nothing of a book away -/
theorem FB.but {K : PySem.W.Frag} {H H' : Hp} {v : V} {b : Bk} {d : Addr} {l : List (Key × V)} (h : FB K H v b) (e : But d H H') (hd : H d = some (.dK l)) : FB K H' v b := by
  have tp : Tp H H' := Tp.of fun x u t hx => e x u (fun z => by rw [z, hd] at hx; cases hx; cases t) hx
  have tt : ∀ {p : Addr} {xs : List V}, H p = some (.tup xs) → H' p = some (.tup xs) := fun {p xs} hp => e _ _ (fun z => by rw [z, hd] at hp; cases hp) hp
  have sq : ∀ {p : Addr} {xs : List V}, SqT K H p xs → SqT K H' p xs := fun {p xs} hp => by
    rcases hp with (hp | ⟨o, hp⟩) | hp
    · exact .inl (.inl (tt hp))
    · exact .inl (.inr ⟨o, e _ _ (fun z => by rw [z, hd] at hp; cases hp) hp⟩)
    · exact .inr hp
  obtain ⟨a, m, g, t, w, f, txs, gxs, wxs, fxs, rfl, h1, h2, h3, h4, h5, h6, h7, h8, h9, h10⟩ := h.ex
  refine ⟨a, m, g, t, w, f, txs, gxs, wxs, fxs, rfl, tt h1, tt h2, h3, fun i hi => ?_, sq h5, RowsAt.tp tp h6, tt h7, RowsAt.tp tp h8, sq h9, RowsAt.tp tp h10⟩
  obtain ⟨p, nv, a1, a2, a3⟩ := h4 i hi
  refine ⟨p, nv, a1, tt a2, fun z => ?_⟩
  obtain ⟨q, o, xs, e1, e2, e3, e4⟩ := a3 z
  exact ⟨q, o, xs, e1, e2, e _ _ (fun z => by rw [z, hd] at e3; cases e3) e3, RowsAt.tp tp e4⟩
def tEi (t1 t2 : TE) : TE := fun σ H Q => t1 σ H Q ∨ t2 σ H Q
theorem pe_either {X : Cx} {e : Expr} {t1 t2 : TE} (h1 : PE X e t1) (h2 : PE X e t2) : PE X e (tEi t1 t2) := ⟨fun pins s σ H Q I h => h.elim (fun z => h1.run pins s σ H Q I z) fun z => h2.run pins s σ H Q I z⟩
theorem q_eiL {t1 t2 : TE} {σ : L2.St} {H : Hp} {Q : VK} (q : t1 σ H Q) : tEi t1 t2 σ H Q := .inl q
theorem q_eiR {t1 t2 : TE} {σ : L2.St} {H : Hp} {Q : VK} (q : t2 σ H Q) : tEi t1 t2 σ H Q := .inr q
def BgAt (H : Hp) (bg : V) (pn : List Int) : Prop := ∃ p, bg = .ref p ∧ (H p = some (.tup (pn.map V.int)) ∨ H p = some (.dK ((plK pn).map kI)) ∨ ∃ o, H p = some (.frz o (.dK ((plK pn).map kI))))
/-! ### where a task ends -/
def spEnd (K : PySem.W.Frag) : Sp := fun vs H Q _ => ∃ (v : V) (b : Bk) (bg : V) (pn : List Int) (t : Nat), vs = [v, bg, .int t] ∧ FB K H v b ∧ BkOk b ∧ PlOk b pn ∧ BgAt H bg pn ∧ t < b.tasks.length ∧ Q (.int (endP b pn t)) H
theorem ok_end_of (T : Tx K mg) : Cal P w K mg base 1 "end_of" ["book", "begins", "task"] (spEnd K) := by
  refine T.d_end_of.cal sc_end_of (fun vs H Q E h => ?_) (fun f cdv A outer s H vs Q E hr h => ?_)
  · obtain ⟨_, _, _, _, _, rfl, _⟩ := h
    rfl
  · obtain ⟨v, b, bg, pn, t, rfl, fb, bo, po, ⟨p, rfl, hb⟩, ht, q⟩ := h
    obtain ⟨a, m, g, ta, w, f, txs, gxs, wxs, fxs, rfl, h1, h2, h3, h4, _⟩ := fb.ex
    obtain ⟨hpn, p0, p1⟩ := po.at_ ht
    obtain ⟨htk, l0, l1, _⟩ := bo.tk ht
    obtain ⟨tp, nv, e1, e2, _⟩ := h4 t ht
    have hat : atI txs t = some (.ref tp) := atI_nat e1
    have e2' : H tp = some (.tup [.str (tkA b t).name, .int (tkA b t).len, .str (tkA b t).mach, nv, .int (tkA b t).frm, dueV (tkA b t).due, .int (tkA b t).wt]) := e2
    have lp := po.len
    refine ⟨_, (pss_one (ps_ret (pe_op op_add (pe_either (pe_ix (ixT (K := K)) (pv 1) (pv 2) (fun _ _ => rfl)) (pe_dget (u1 hr.units) (pv 1) (pv 2) (fun _ _ => rfl))) (pe_ix (ixT (K := K)) (pe_ix (ixT (K := K)) (pe_ix (ixT (K := K)) (pv 0) (pe_globE rfl T.c_TASKS) (fun _ _ => rfl)) (pv 2) (fun _ _ => rfl)) (pe_globE rfl T.c_LENGTH) (fun _ _ => rfl))))), q_start (τ := [some _, some _, some _]) rfl ?_⟩
    walk_at "go"
    rcases hb with hb | hb
    · refine q_eiL ?_
      walk_at "go"
      refine q_ixT hb (atI_nat (by rw [List.getElem?_map, hpn]; rfl)) ?_
      walk_at "go"
      refine q_ixT h2 hat ?_
      walk_at "go"
      exact q
    · refine q_eiR ?_
      walk_at "go"
      refine q_getI hb plK_nd (plK_mem (by omega)) ?_
      walk_at "go"
      refine q_ixT h2 hat ?_
      walk_at "go"
      exact q

end
end Bk24



namespace Bk24
open PySem PySem.Spec PyProof.Rows L2 Bs
open Evl (Ex)
section
variable {P : Program} {w : World} {K : PySem.W.Frag} {mg : Str → Option Value} {base : Heap}
/-! ### what is used of a good -/
theorem dcp_keysI {τ : L2.St} {H : Hp} {g : TG} {tt : TT} {tk te : TE} {vs : List Nat} {D : Addr} {Qd : Hp → Prop} {kvs : List (Int × Int)} {d : Addr} {o : Obj} (Pv : Nat → Hp → Prop) (h0 : Pv 0 H) (hl : ∀ i H, Pv i H → H d = some (.frz o (.dK (kvs.map kI))))
    (hs : ∀ (i : Nat) (p : Int × Int) H, kvs[i]? = some p → Pv i H → TurnD g tt tk te τ vs D (.int p.1) (Pv (i + 1)) H) (hd : ∀ H, Pv kvs.length H → Qd H) : LoopD (Itk d o (kvs.map kI)) g tt tk te τ vs D Qd H := by
  refine ⟨fun i m H => m = kvs.length - i ∧ i ≤ kvs.length ∧ Pv i H, ⟨kvs.length, by simp, Nat.zero_le _, h0⟩, ?_⟩
  rintro i m H ⟨rfl, hi, p⟩
  have q := hl i H p
  by_cases hlt : i < kvs.length
  · refine .inr ⟨⟨q, by rw [List.length_map]; exact hlt⟩, Pv (i + 1), fun H' p' => ⟨kvs.length - (i + 1), by omega, rfl, hlt, p'⟩, fun x H' y => ?_⟩
    obtain ⟨rfl, k, kv, hk, rfl⟩ := y
    rw [List.getElem?_map, List.getElem?_eq_getElem hlt] at hk
    have e1 : Sum.inl (kvs[i]).1 = k := congrArg Prod.fst (Option.some.inj hk)
    rw [← e1]
    exact hs i _ _ (List.getElem?_eq_getElem hlt) p
  · have e : i = kvs.length := by omega
    subst e
    exact .inl ⟨⟨q, by rw [List.length_map]; exact Nat.le_refl _⟩, hd H p⟩
def needAt (b : Bk) (i : Nat) (g : Str) : Int := mergG g (tkA b i).needs
def ndK (b : Bk) (g : Str) (n : Nat) : List (Int × Int) := (List.range n).map fun i : Nat => ((i : Int), needAt b i g)
theorem ndK_nd {b : Bk} {g : Str} {n : Nat} : ((ndK b g n).map (·.1)).Nodup := by
  unfold ndK
  rw [List.map_map]
  exact List.pairwise_map.mpr (List.nodup_range.imp fun {a c} h e => h (Int.ofNat.inj e))
theorem ndK_mem {b : Bk} {g : Str} {n i : Nat} (h : i < n) : ((i : Int), needAt b i g) ∈ ndK b g n := List.mem_map.mpr ⟨i, List.mem_range.mpr h, rfl⟩
abbrev Use := Int × Int × Int
def useD (u : Use) : PyData := .tuple [.int u.1, .int u.2.1, .int u.2.2]
def usesN (b : Bk) (pn : List Int) (g : Str) (n : Nat) : List Use := ((List.range n).filter fun i => decide (0 < needAt b i g)).map fun i => (pA pn i, endP b pn i, needAt b i g)
theorem usesN_succ {b : Bk} {pn : List Int} {g : Str} {n : Nat} : usesN b pn g (n + 1) = usesN b pn g n ++ (if 0 < needAt b n g then [(pA pn n, endP b pn n, needAt b n g)] else []) := by
  unfold usesN
  rw [List.range_succ, filt_snoc]
  by_cases c : 0 < needAt b n g
  · rw [if_pos (decide_eq_true c), if_pos c, List.map_append]
    rfl
  · rw [if_neg (by rw [decide_eq_false c]; exact Bool.false_ne_true), if_neg c, List.append_nil]
theorem usesN_len {b : Bk} {pn : List Int} {g : Str} {n : Nat} : (usesN b pn g n).length ≤ n := by
  unfold usesN
  rw [List.length_map]
  refine Nat.le_trans (List.length_filter_le _ _) ?_
  rw [List.length_range]
  exact Nat.le_refl _
def spUses (K : PySem.W.Frag) : Sp := fun vs H Q _ => ∃ (v : V) (b : Bk) (d : Addr) (pn : List Int) (g : Str), vs = [v, .ref d, .str g] ∧ FB K H v b ∧ BkOk b ∧ PlOk b pn ∧ H d = some (.dK ((plK pn).map kI)) ∧ b.goods ≠ [] ∧
  ∀ (U : Addr) (uv : List V) (H' : Hp), Ex H H' → H U = none → H' U = some (.lst uv) → RowsAt useD H' uv (usesN b pn g b.tasks.length) → Q (.ref U) H'
theorem ok_uses_of_good (T : Tx K mg) : Cal P w K mg base 2 "uses_of_good" ["book", "begins", "good"] (spUses K) := by
  have G_end_of : Cal P w K mg base 1 "end_of" ["book", "begins", "task"] (spEnd K) := ok_end_of T
  refine T.d_uses_of_good.cal sc_uses_of_good (fun vs H Q E h => ?_) (fun f cdv A outer s H vs Q E hr h => ?_)
  · obtain ⟨_, _, _, _, _, rfl, _⟩ := h
    rfl
  · obtain ⟨v, b, d, pn, g, rfl, fb, bo, po, hd, gne, q⟩ := h
    obtain ⟨a, m, gg, ta, w_, f_, txs, gxs, wxs, fxs, rfl, h1, h2, h3, h4, _⟩ := fb.ex
    have lp := po.len
    have n30 := bo.n
    have lpl := plK_len (pn := pn)
    refine ⟨_, (pss_cons (ps_lock (ps_set (i := 3) sc_uses_of_good.nd rfl (.inr rfl) (pe_dc (own := [("task", 4)]) rfl sc_uses_of_good.nd (pi_keys (pv 1)) (blkOk_by (own := [("task", 4)]) (N := N_uses_of_good) (sc := defScope s_uses_of_good) (by decide +kernel)) (fun _ _ _ _ _ => (pg_name (i := 4) sc_uses_of_good.nd rfl (.inl rfl))) (fun _ _ _ _ _ => pts_nil) (fun _ _ _ _ _ => (pv 4)) (fun _ _ _ _ _ => (pe_dget2 (u1 hr.units) (pe_callTy (cr_dictF (K := K) rfl) (by rfl) T.b_dict (by decide +kernel) (pa_cons (pe_ix (ixT (K := K)) (pe_ix (ixT (K := K)) (pe_ix (ixT (K := K)) (pv 0) (pe_globE rfl T.c_TASKS) (fun _ _ => rfl)) (pv 4) (fun _ _ => rfl)) (pe_globE rfl T.c_NEEDS) (fun _ _ => rfl)) pa_nil)) (pv 2) pe_int ⟨rfl, rfl, rfl, rfl⟩)))))
    (pss_one (ps_lock (ps_ret (pe_lc (own := [("task", 4)]) rfl sc_uses_of_good.nd (pi_keys (pv 1)) (blkOk_by (own := [("task", 4)]) (N := N_uses_of_good) (sc := defScope s_uses_of_good) (by decide +kernel)) (fun _ _ _ _ _ => (pg_name (i := 4) sc_uses_of_good.nd rfl (.inl rfl))) (fun _ _ _ _ _ => pts_one (pt_cmpR op_gt (pe_dget (u1 hr.units) (pv 3) (pv 4) (fun _ _ => rfl)) pe_int (nomark _))) (fun _ _ _ _ _ => (pe_tup (pa_cons (pe_dget (u1 hr.units) (pv 1) (pv 4) (fun _ _ => rfl)) (pa_cons (pe_cal G_end_of hr (by rfl) (pa_cons (pv 0) (pa_cons (pv 1) (pa_cons (pv 4) pa_nil)))) (pa_cons (pe_dget (u1 hr.units) (pv 3) (pv 4) (fun _ _ => rfl)) pa_nil)))))))))), q_start (τ := [some _, some _, some _, none, none]) rfl ?_⟩
    walk_at "go"
    refine q_lock hd True.intro fun od => ?_
    have hdf : L2.upd H d (.frz od (.dK ((plK pn).map kI))) d = some (.frz od (.dK ((plK pn).map kI))) := upd_same
    have b1 : But d H (L2.upd H d (.frz od (.dK ((plK pn).map kI)))) := But.self
    have nad : a ≠ d := fun z => by rw [z, hd] at h1; cases h1
    have ntd : ta ≠ d := fun z => by rw [z, hd] at h2; cases h2
    have h1f := b1 _ _ nad h1
    have h2f := b1 _ _ ntd h2
    generalize L2.upd H d (.frz od (.dK ((plK pn).map kI))) = H1 at hdf b1 h1f h2f ⊢
    walk_at "go"
    refine q_dc (by simp only [wipe, List.map_cons, List.map_nil, List.set_cons_zero, List.set_cons_succ]; rfl) ?_
    refine q_iKeys ?_
    walk_at "go"
    refine ⟨d, od, rfl, .inl ⟨_, hdf, fun M nM => ?_⟩⟩
    have nMd : M ≠ d := (ne_of_none hdf nM).symm
    refine dcp_keysI (fun i H' => Ex H1 H' ∧ H' M = some (.dK ((ndK b g i).map kI))) ⟨Ex.new nM, upd_same⟩ (fun i H' h => h.1 _ _ hdf) ?_ ?_
    · rintro i p H2 hp ⟨e2, hM2⟩
      obtain ⟨hi, rfl⟩ := plK_get hp
      obtain ⟨tp, nv, x1, x2, x3⟩ := h4 i (by omega)
      obtain ⟨nq, no, nxs, rfl, nod, x4, x5⟩ := x3 gne
      obtain ⟨_, _, _, _, _, nnd, _⟩ := bo.tk (i := i) (by omega)
      have ntp : tp ≠ d := fun z => by rw [z, hd] at x2; cases x2
      have nnq : nq ≠ d := fun z => by rw [z, hd] at x4; cases x4
      have x2' : H2 tp = some (.tup [.str (tkA b i).name, .int (tkA b i).len, .str (tkA b i).mach, .ref nq, .int (tkA b i).frm, dueV (tkA b i).due, .int (tkA b i).wt]) := e2 _ _ (b1 _ _ ntp x2)
      have x4' := e2 _ _ (b1 _ _ nnq x4)
      have tpx : Tp H H2 := Tp.of fun x u t hx => (b1.ex e2) x u (fun z => by rw [z, hd] at hx; cases hx; cases t) hx
      have x5' := RowsAt.tp tpx x5
      have hat : atI txs i = some (.ref tp) := atI_nat x1
      have h1' := e2 _ _ h1f
      have h2' := e2 _ _ h2f
      show TurnD _ _ _ _ _ _ M (.int (i : Int)) _ H2
      refine q_turnD ?_
      walk_at "go"
      refine q_dget2m ?_
      walk_at "go"
      refine q_ixT h2' hat ?_
      walk_at "go"
      obtain ⟨ps, rfl, hps⟩ := pairs_good (K := K) x5'
      refine ⟨nq, no, ps, kvN (tkA b i).needs, rfl, nod, x4', hps, fun dp ndp => ?_⟩
      have z := Ex.new (o := .dK (mergeK [] (kvN (tkA b i).needs))) ndp
      have hdp : L2.upd H2 dp (.dK (mergeK [] (kvN (tkA b i).needs))) dp = some (.dK (mergeK [] (kvN (tkA b i).needs))) := upd_same
      have hM3 := z _ _ hM2
      have e3 := e2.trans z
      generalize L2.upd H2 dp (.dK (mergeK [] (kvN (tkA b i).needs))) = H3 at z hdp hM3 e3 ⊢
      refine ⟨dp, rfl, .inl ⟨_, .inl hdp⟩, ?_⟩
      walk_at "go"
      refine ⟨_, DGet.k (k := .inr g) hdp, ?_⟩
      rw [merge_get nnd rfl]
      have fr : (i : Int) ∉ (ndK b g i).map (·.1) := fun z => by
        unfold ndK at z
        rw [List.map_map] at z
        obtain ⟨j, mj, ej⟩ := List.mem_map.mp z
        have := List.mem_range.mp mj
        have ej' : (j : Int) = i := ej
        omega
      refine ⟨(ndK b g i).map kI, .inl (i : Int), rfl, hM3, (by unfold ndK; rw [sizeLine_eq, List.length_map, List.length_map, List.length_range]; omega), e3.mut nM, ?_⟩
      rw [upd_same, kI_put fr]
      unfold ndK
      rw [List.range_succ]
      simp only [List.map_append]
      rfl
    · rintro H2 ⟨e2, hM2⟩
      rw [plK_len, lp] at hM2
      walk_at "go"
      refine ⟨e2 _ _ hdf, ?_⟩
      have e6 := (b1.ex e2).relock hd
      have hd6 : L2.upd H2 d (.dK ((plK pn).map kI)) d = some (.dK ((plK pn).map kI)) := upd_same
      have hM6 : L2.upd H2 d (.dK ((plK pn).map kI)) M = some (.dK ((ndK b g b.tasks.length).map kI)) := by rw [upd_ne nMd]; exact hM2
      generalize L2.upd H2 d (.dK ((plK pn).map kI)) = H6 at e6 hd6 hM6 ⊢
      refine q_lock hd6 True.intro fun od2 => ?_
      have hdg : L2.upd H6 d (.frz od2 (.dK ((plK pn).map kI))) d = some (.frz od2 (.dK ((plK pn).map kI))) := upd_same
      have b7 : But d H6 (L2.upd H6 d (.frz od2 (.dK ((plK pn).map kI)))) := But.self
      have hM7 := b7 _ _ nMd hM6
      have fbK : ∀ {H' : Hp}, But d H H' → FB K H' (.ref a) b := fun {H'} bb => fb.but bb hd
      have bb7 : But d H (L2.upd H6 d (.frz od2 (.dK ((plK pn).map kI)))) := (But.of e6).trans b7
      generalize L2.upd H6 d (.frz od2 (.dK ((plK pn).map kI))) = H7 at hdg b7 hM7 bb7 ⊢
      walk_at "go"
      refine q_iKeys ?_
      walk_at "go"
      refine ⟨d, od2, rfl, .inl ⟨_, hdg, fun U nU => ?_⟩⟩
      have nUd : U ≠ d := (ne_of_none hdg nU).symm
      refine lcp_keysI (fun i H' => Ex H7 H' ∧ ∃ uv, H' U = some (.lst uv) ∧ RowsAt useD H' uv (usesN b pn g i)) ⟨Ex.new nU, [], upd_same, .nil⟩ (fun i H' h => h.1 _ _ hdg) ?_ ?_
      · rintro i p H8 hp ⟨e8, uv, hU8, ru⟩
        obtain ⟨hi, rfl⟩ := plK_get hp
        obtain ⟨_, l0, l1, _, _, nnd, nbd⟩ := bo.tk (i := i) (by omega)
        obtain ⟨_, p0, p1⟩ := po.at_ (i := i) (by omega)
        have hM8 := e8 _ _ hM7
        have hd8 := e8 _ _ hdg
        have luv := ru.len
        have lu := usesN_len (b := b) (pn := pn) (g := g) (n := i)
        have mb := mergG_bd (g := g) nnd nbd
        show TurnC _ _ _ _ _ U (.int (i : Int)) _ H8
        walk_at "go"
        refine q_getI (.inl hM8) ndK_nd (ndK_mem (by omega)) ?_
        walk_at "go"
        refine q_ifD (fun c1 => ?_) (fun c1 => ?_)
        · walk_at "go"
          refine q_getI (.inr ⟨_, hd8⟩) plK_nd (plK_mem hi) ?_
          walk_at "go"
          refine ⟨_, b, .ref d, pn, i, rfl, fbK (bb7.ex e8), bo, po, ⟨d, rfl, .inr (.inr ⟨_, hd8⟩)⟩, by omega, ?_⟩
          walk_at "go"
          refine q_getI (.inl hM8) ndK_nd (ndK_mem (by omega)) ?_
          walk_at "go"
          rename_i tq ntq
          have yq := Ex.new (o := .tup [V.int (pA pn i), .int (endP b pn i), .int (needAt b i g)]) ntq
          have hU9 := yq _ _ hU8
          refine ⟨(e8.trans yq).mut nU, uv ++ [.ref tq], upd_same, RowsAt.tp (Tp.upd hU9) ?_⟩
          rw [usesN_succ, if_pos c1]
          unfold RowsAt
          rw [List.map_append]
          exact TDs.append (RowsAt.tp (Tp.ex yq) ru) (.cons (.tup upd_same (.cons (.int _) (.cons (.int _) (.cons (.int _) .nil)))) .nil)
        · refine ⟨e8, uv, hU8, ?_⟩
          rw [usesN_succ, if_neg c1, List.append_nil]
          exact ru
      · rintro H8 ⟨e8, uv, hU8, ru⟩
        rw [plK_len, lp] at ru
        walk_at "go"
        refine ⟨e8 _ _ hdg, ?_⟩
        have e9 := (bb7.ex e8).relock hd
        refine q U uv _ e9 ?_ (by rw [upd_ne nUd]; exact hU8) ?_
        · cases z : H U with
          | none => rfl
          | some o =>
            have := bb7 _ _ nUd z
            rw [nU] at this
            cases this
        · have hd8 := e8 _ _ hdg
          refine RowsAt.tp (Tp.of fun x u t hx => ?_) ru
          have nx : x ≠ d := fun z => by
            rw [z, hd8] at hx
            cases hx
            cases t
          rw [upd_ne nx]
          exact hx

end
end Bk24



namespace Bk24
open PySem PySem.Spec PyProof.Rows L2 Bs
open Evl (Ex)
section
variable {P : Program} {w : World} {K : PySem.W.Frag} {mg : Str → Option Value} {base : Heap}
/-! ### the first of some -/
theorem fs_filter {α β : Type} {p : α → Bool} {f : α → β} : ∀ {l : List α}, l.findSome? (fun i => if p i = true then some (f i) else none) = (l.filter p).head?.map f
  | [] => rfl
  | x :: r => by
    rw [List.findSome?_cons, List.filter_cons]
    by_cases c : p x = true
    · rw [if_pos c, if_pos c]
      rfl
    · rw [if_neg c, if_neg c, fs_filter]
theorem fs_some {α β : Type} {f : α → Option β} : ∀ {l : List α} {i : Nat} {y : α} {a : β}, (l.take i).findSome? f = none → l[i]? = some y → f y = some a → l.findSome? f = some a
  | [], _, _, _, _, h, _ => by simp at h
  | x :: r, 0, y, a, _, h, e => by
    have : x = y := by simpa using h
    subst this
    rw [List.findSome?_cons, e]
  | x :: r, i + 1, y, a, h0, h, e => by
    rw [List.take_succ_cons, List.findSome?_cons] at h0
    rw [List.findSome?_cons]
    cases c : f x with
    | some z =>
      rw [c] at h0
      cases h0
    | none =>
      rw [c] at h0
      exact fs_some h0 (by simpa using h) e
theorem fs_next {α β : Type} {f : α → Option β} {l : List α} {i : Nat} {y : α} (h0 : (l.take i).findSome? f = none) (h : l[i]? = some y) (e : f y = none) : (l.take (i + 1)).findSome? f = none := by
  rw [take_snoc h, List.findSome?_append, h0, List.findSome?_cons, e]
  rfl
theorem rng_at {n i : Nat} (h : i < n) : (List.range n)[i]? = some i := List.getElem?_range h
theorem rng_take {n i : Nat} (h : i ≤ n) : (List.range n).take i = List.range i := by
  rw [List.take_range, Nat.min_eq_left h]
abbrev Flt := Option (Str × List Int)
def FltAt (H : Hp) (v : V) : Flt → Prop
  | none => v = .non
  | some (s, l) => ∃ p, v = .ref p ∧ H p = some (.tup (.str s :: l.map .int))
theorem FltAt.ex {H H' : Hp} {v : V} {o : Flt} (e : Ex H H') (h : FltAt H v o) : FltAt H' v o := by
  cases o with
  | none => exact h
  | some x =>
    obtain ⟨p, e1, e2⟩ := h
    exact ⟨p, e1, e _ _ e2⟩
/-- a look at a book and a plan: what fault it tells -/
def spLook (K : PySem.W.Frag) (fo : Bk → List Int → Flt) : Sp := fun vs H Q _ => ∃ (v : V) (b : Bk) (pp : Addr) (pn : List Int), vs = [v, .ref pp] ∧ FB K H v b ∧ BkOk b ∧ PlOk b pn ∧ H pp = some (.tup (pn.map V.int)) ∧ ∀ (x : V) (H' : Hp), Ex H H' → FltAt H' x (fo b pn) → Q x H'
def fromO (b : Bk) (pn : List Int) : Flt := (List.range b.tasks.length).findSome? fun i => if decide (pA pn i < (tkA b i).frm) = true then some ("from", [(i : Int)]) else none
def mvB (b : Bk) (pn : List Int) (i : Nat) : Bool := b.fixed.any fun p => decide (p.1 = (i : Int)) && !decide (pA pn i = p.2)
def fixedO (b : Bk) (pn : List Int) : Flt := (List.range b.tasks.length).findSome? fun i => if mvB b pn i = true then some ("fixed", [(i : Int)]) else none
def wtA (b : Bk) (k : Nat) : Wt := b.waits.getD k ⟨0, 0, 0⟩
theorem wtA_of {b : Bk} {k : Nat} {x : Wt} (h : b.waits[k]? = some x) : wtA b k = x := by
  unfold wtA
  rw [List.getD_eq_getElem?_getD, h]
  rfl
def waitB (b : Bk) (pn : List Int) (x : Wt) : Bool := decide (pA pn x.b.toNat < endP b pn x.a.toNat + x.gap)
def waitO (b : Bk) (pn : List Int) : Flt := (List.range b.waits.length).findSome? fun k => if waitB b pn (wtA b k) = true then some ("wait", [(k : Int)]) else none
/-! ### what is used at an hour -/
def usedS (us : List Use) (h : Int) : Int := ((us.filter fun u => decide (u.1 ≤ h) && decide (h < u.2.1)).map (·.2.2)).sum
def spUsed (K : PySem.W.Frag) : Sp := fun vs H Q _ => ∃ (U : Addr) (uv : List V) (us : List Use) (h : Int), vs = [.ref U, .int h] ∧ H U = some (.lst uv) ∧ RowsAt useD H uv us ∧ us.length ≤ 100 ∧ ∀ H', Ex H H' → Q (.int (usedS us h)) H'
theorem ok_used_at (T : Tx K mg) : Cal P w K mg base 1 "used_at" ["uses", "hour"] (spUsed K) := by
  refine T.d_used_at.cal sc_used_at (fun vs H Q E h => ?_) (fun f cdv A outer s H vs Q E hr h => ?_)
  · obtain ⟨_, _, _, _, rfl, _⟩ := h
    rfl
  · obtain ⟨U, uv, us, h, rfl, hU, ru, l100, q⟩ := h
    have luv := ru.len
    refine ⟨_, (pss_one (ps_ret (pe_callB (au_sum (K := K) rfl) (by rfl) T.b_sum (by decide +kernel) (pa_cons (pe_lc (own := [("begin", 2), ("end", 3), ("many", 4)]) rfl sc_used_at.nd (piLK (K := K) (pv 0)) (blkOk_by (own := [("begin", 2), ("end", 3), ("many", 4)]) (N := N_used_at) (sc := defScope s_used_at) (by decide +kernel)) (fun _ _ _ _ _ => (pgTK (K := K) (n := 3) (by rfl) (pgs_cons (pg_name (i := 2) sc_used_at.nd rfl (.inl rfl)) (pgs_cons (pg_name (i := 3) sc_used_at.nd rfl (.inl rfl)) (pgs_cons (pg_name (i := 4) sc_used_at.nd rfl (.inl rfl)) pgs_nil))))) (fun _ _ _ _ _ => pts_one (pt_chain op_le op_lt (pv 2) (pv 1) (pv 3))) (fun _ _ _ _ _ => (pv 4))) pa_nil)))), q_start (τ := [some _, some _, none, none, none]) rfl ?_⟩
    walk_at "go"
    intro M nM
    refine lcp_list (xs := uv) (fun i H' => Ex H H' ∧ H' M = some (.lst ((((us.take i).filter fun u => decide (u.1 ≤ h) && decide (h < u.2.1)).map (·.2.2)).map V.int))) ⟨Ex.new nM, upd_same⟩ (fun i H' _ h => h.1 _ _ hU) ?_ ?_
    · rintro i x H1 hx ⟨e1, hM1⟩
      obtain ⟨u, hu, tdu⟩ := (RowsAt.tp (Tp.ex e1) ru).get hx
      obtain ⟨p, xs, rfl, hp, hs⟩ := tdu.tupI
      cases hs with
      | cons x1 hs =>
      cases hs with
      | cons x2 hs =>
      cases hs with
      | cons x3 hs =>
      cases hs
      rw [x1.intI, x2.intI, x3.intI] at hp
      have lf : (((us.take i).filter fun u => decide (u.1 ≤ h) && decide (h < u.2.1)).map (·.2.2)).length ≤ 1000 := by
        rw [List.length_map]
        refine Nat.le_trans (List.length_filter_le _ _) ?_
        rw [List.length_take]
        omega
      have no : ¬ (u.1 ≤ h ∧ h < u.2.1) → Ex H H1 ∧ H1 M = some (.lst ((((us.take (i + 1)).filter fun u => decide (u.1 ≤ h) && decide (h < u.2.1)).map (·.2.2)).map V.int)) := fun c => ⟨e1, by
        rw [take_snoc hu, filt_snoc, if_neg (by
          rw [Bool.and_eq_true, decide_eq_true_eq, decide_eq_true_eq]
          exact c)]
        exact hM1⟩
      walk_at "go"
      refine q_ifD (fun c1 => ?_) (fun c1 => ?_)
      · walk_at "go"
        refine q_ifD (fun c2 => ?_) (fun c2 => ?_)
        · walk_at "go"
          refine q_push hM1 (by rw [List.length_map]; omega) ?_
          refine ⟨e1.mut nM, ?_⟩
          rw [upd_same, take_snoc hu, filt_snoc, if_pos (by rw [decide_eq_true c1, decide_eq_true c2]; rfl), List.map_append, List.map_append]
          rfl
        · exact no fun z => c2 z.2
      · refine ⟨_, rfl, ?_⟩
        rw [if_neg Bool.false_ne_true]
        exact no fun z => c1 z.1
    · rintro H1 ⟨e1, hM1⟩
      rw [luv, List.take_length] at hM1
      walk_at "go"
      exact q H1 e1
theorem lcp_tupS {K : PySem.W.Frag} {H : Hp} {g : TG} {tt : TT} {te : TE} {vs : List Nat} {τ : L2.St} {D : Addr} {Qd : Hp → Prop} {a : Addr} {xs : List V} (Pv : Nat → Hp → Prop) (h0 : Pv 0 H) (hl : ∀ i H, i ≤ xs.length → Pv i H → SqT K H a xs) (hs : ∀ i x H, xs[i]? = some x → Pv i H → TurnC g tt te τ vs D x (Pv (i + 1)) H) (hd : ∀ H, Pv xs.length H → Qd H) : LoopC (Itt K a) g tt te τ vs D Qd H := by
  refine ⟨fun i m H => m = xs.length - i ∧ i ≤ xs.length ∧ Pv i H, ⟨xs.length, by simp, Nat.zero_le _, h0⟩, ?_⟩
  rintro i m H ⟨rfl, hi, p⟩
  have q : SqT K H a xs := hl i H hi p
  by_cases hlt : i < xs.length
  · refine .inr ⟨⟨xs, xs[i], q, by simp [hlt]⟩, Pv (i + 1), fun H' p' => ⟨xs.length - (i + 1), by omega, rfl, hlt, p'⟩, fun x H' y => ?_⟩
    obtain ⟨ey, y⟩ := y
    subst ey
    exact hs i x H' (y xs q) p
  · have e : i = xs.length := by omega
    subst e
    exact .inl ⟨⟨xs, q, Nat.le_refl _⟩, hd H p⟩
/-! ### a task ahead of its FROM -/
theorem ok_from_fault (T : Tx K mg) : Cal P w K mg base 1 "from_fault" ["book", "plan"] (spLook K fromO) := by
  refine T.d_from_fault.cal sc_from_fault (fun vs H Q E h => ?_) (fun f cdv A outer s H vs Q E hr h => ?_)
  · obtain ⟨_, _, _, _, rfl, _⟩ := h
    rfl
  · obtain ⟨v, b, pp, pn, rfl, fb, bo, po, hpp, q⟩ := h
    obtain ⟨a, m, gg, ta, w_, f_, txs, gxs, wxs, fxs, rfl, h1, h2, h3, h4, _⟩ := fb.ex
    have n30 := bo.n
    have lp := po.len
    refine ⟨_, (pss_cons (ps_setLc (i := 2) (own := [("row", 3), ("task", 4)]) rfl sc_from_fault.nd rfl rfl (sw_true rfl rfl rfl (by decide +kernel)) (piETK (K := K) (by rfl) T.b_enumerate (pa_cons (pe_ix (ixT (K := K)) (pv 0) (pe_globE rfl T.c_TASKS) (fun _ _ => rfl)) pa_nil)) (blkOk_by (own := [("row", 3), ("task", 4)]) (N := N_from_fault) (sc := defScope s_from_fault) (by decide +kernel)) (fun _ _ _ _ _ => (pgTK (K := K) (n := 2) (by rfl) (pgs_cons (pg_name (i := 4) sc_from_fault.nd rfl (.inl rfl)) (pgs_cons (pg_name (i := 3) sc_from_fault.nd rfl (.inl rfl)) pgs_nil)))) (fun _ _ _ _ _ => pts_one (pt_cmpR op_lt (pe_ix (ixT (K := K)) (pv 1) (pv 4) (fun _ _ => rfl)) (pe_ix (ixT (K := K)) (pv 3) (pe_globE rfl T.c_FROM) (fun _ _ => rfl)) (nomark _))) (fun _ _ _ _ _ => (pv 4)))
    (pss_one (ps_ret (pe_ifExp (pt_truth (pv 2) (fun _ => rfl)) (pe_tup (pa_cons pe_str (pa_cons (pe_ix (ixL (K := K)) (pv 2) pe_int (fun _ _ => rfl)) pa_nil))) pe_non)))), q_start (τ := [some _, some _, none, none, none]) rfl ?_⟩
    walk_at "go"
    refine q_iEnumT ?_
    walk_at "go"
    refine q_enumT h2 ?_
    intro M nM
    refine lcp_enumT (xs := txs) (fun i H' => Ex H H' ∧ H' M = some (.lst ((((List.range i).filter fun j => decide (pA pn j < (tkA b j).frm)).map fun j : Nat => (j : Int)).map V.int))) ⟨Ex.new nM, upd_same⟩ (fun i H' _ h => h.1 _ _ h2) ?_ ?_
    · rintro i x H1 t hx ⟨e1, hM1⟩ nt
      have hi := (List.getElem?_eq_some_iff.mp hx).1
      obtain ⟨tp, nv, x1, x2, _⟩ := h4 i (by omega)
      rw [hx] at x1
      obtain rfl := Option.some.inj x1
      obtain ⟨hpi, _⟩ := po.at_ (i := i) (by omega)
      have y1 := Ex.new (o := .tup [V.int i, .ref tp]) nt
      have ht : L2.upd H1 t (.tup [V.int i, .ref tp]) t = some (.tup [V.int i, .ref tp]) := upd_same
      have hM2 := y1 _ _ hM1
      have e2 := e1.trans y1
      generalize L2.upd H1 t (.tup [V.int i, .ref tp]) = H2 at y1 ht hM2 e2 ⊢
      have x2' : H2 tp = some (.tup [.str (tkA b i).name, .int (tkA b i).len, .str (tkA b i).mach, nv, .int (tkA b i).frm, dueV (tkA b i).due, .int (tkA b i).wt]) := e2 _ _ x2
      have hpp2 := e2 _ _ hpp
      have lf : ((List.range i).filter fun j => decide (pA pn j < (tkA b j).frm)).length ≤ 1000 := by
        refine Nat.le_trans (List.length_filter_le _ _) ?_
        rw [List.length_range]
        omega
      walk_at "go"
      refine q_ixT hpp2 (atI_nat (by rw [List.getElem?_map, hpi]; rfl)) ?_
      walk_at "go"
      refine q_ifD (fun c1 => ?_) (fun c1 => ?_)
      · walk_at "go"
        refine ⟨e2.mut nM, ?_⟩
        rw [upd_same, List.range_succ, filt_snoc, if_pos (decide_eq_true c1)]
        simp only [List.map_append]
        rfl
      · refine ⟨e2, ?_⟩
        rw [List.range_succ, filt_snoc, if_neg (by rw [decide_eq_false c1]; exact Bool.false_ne_true)]
        exact hM2
    · rintro H1 ⟨e1, hM1⟩
      rw [h3] at hM1
      have ef : fromO b pn = ((List.range b.tasks.length).filter fun j => decide (pA pn j < (tkA b j).frm)).head?.map fun i : Nat => (("from", [(i : Int)]) : Str × List Int) := fs_filter
      walk_at "go"
      cases hl : (List.range b.tasks.length).filter fun j => decide (pA pn j < (tkA b j).frm) with
      | nil =>
        rw [hl] at hM1 ef
        refine q .non H1 e1 ?_
        rw [ef]
        rfl
      | cons j r =>
        rw [hl] at hM1 ef
        rw [if_pos (by rfl)]
        walk_at "go"
        refine q_ixL hM1 (atI_nat (j := 0) rfl) ?_
        walk_at "go"
        rename_i tp ntp
        refine q (.ref tp) _ (e1.trans (Ex.new ntp)) ?_
        rw [ef]
        exact ⟨tp, rfl, upd_same⟩
theorem fix_at {H : Hp} {v : V} {x : Int × Int} (h : TD H v (fixD x)) : ∃ p, v = .ref p ∧ H p = some (.tup [.int x.1, .int x.2]) := by
  obtain ⟨p, xs, rfl, hp, hs⟩ := TD.tupI h
  cases hs with
  | cons x1 hs =>
  cases hs with
  | cons x2 hs =>
  cases hs
  rw [x1.intI, x2.intI] at hp
  exact ⟨p, rfl, hp⟩
/-! ### a task that is not where it is fixed -/
theorem ok_fixed_fault (T : Tx K mg) : Cal P w K mg base 1 "fixed_fault" ["book", "plan"] (spLook K fixedO) := by
  refine T.d_fixed_fault.cal sc_fixed_fault (fun vs H Q E h => ?_) (fun f cdv A outer s H vs Q E hr h => ?_)
  · obtain ⟨_, _, _, _, rfl, _⟩ := h
    rfl
  · obtain ⟨v, b, pp, pn, rfl, fb, bo, po, hpp, q⟩ := h
    obtain ⟨a, m, gg, ta, w_, f_, txs, gxs, wxs, fxs, rfl, h1, h2, h3, h4, h5, h6, h7, h8, h9, h10⟩ := fb.ex
    have n30 := bo.n
    have f30 := bo.fixeds
    have lp := po.len
    have lfx := h10.len
    refine ⟨_, (pss_cons (ps_setLc (i := 2) (own := [("begin", 3), ("task", 4)]) rfl sc_fixed_fault.nd rfl rfl (sw_true rfl rfl rfl (by decide +kernel)) (piTK (K := K) (pe_ix (ixT (K := K)) (pv 0) (pe_globE rfl T.c_FIXED) (fun _ _ => rfl))) (blkOk_by (own := [("begin", 3), ("task", 4)]) (N := N_fixed_fault) (sc := defScope s_fixed_fault) (by decide +kernel)) (fun _ _ _ _ _ => (pgTK (K := K) (n := 2) (by rfl) (pgs_cons (pg_name (i := 4) sc_fixed_fault.nd rfl (.inl rfl)) (pgs_cons (pg_name (i := 3) sc_fixed_fault.nd rfl (.inl rfl)) pgs_nil)))) (fun _ _ _ _ _ => pts_one (pt_cmpR op_ne (pe_ix (ixT (K := K)) (pv 1) (pv 4) (fun _ _ => rfl)) (pv 3) (nomark _))) (fun _ _ _ _ _ => (pv 4)))
    (pss_one (ps_ret (pe_ifExp (pt_truth (pv 2) (fun _ => rfl)) (pe_tup (pa_cons pe_str (pa_cons (pe_callB (au_min (K := K) rfl) (by rfl) T.b_min (by decide +kernel) (pa_cons (pv 2) pa_nil)) pa_nil))) pe_non)))), q_start (τ := [some _, some _, none, none, none]) rfl ?_⟩
    walk_at "go"
    refine ⟨f_, rfl, ⟨_, h9⟩, fun M nM => ?_⟩
    refine lcp_tupS (xs := fxs) (fun i H' => Ex H H' ∧ H' M = some (.lst ((((b.fixed.take i).filter fun p => !decide (pA pn p.1.toNat = p.2)).map (·.1)).map V.int))) ⟨Ex.new nM, upd_same⟩ (fun i H' _ h => Evl.ex_t h.1 h9) ?_ ?_
    · rintro i x H1 hx ⟨e1, hM1⟩
      obtain ⟨p, hp, tdp⟩ := (RowsAt.tp (Tp.ex e1) h10).get hx
      obtain ⟨p0, p1⟩ := bo.fixed p (List.mem_of_getElem? hp)
      have hi := (List.getElem?_eq_some_iff.mp hx).1
      obtain ⟨fp, rfl, hfp⟩ := fix_at tdp
      obtain ⟨hpi, _⟩ := po.at_ (i := p.1.toNat) (by omega)
      have ep : ((p.1.toNat : Nat) : Int) = p.1 := Int.toNat_of_nonneg p0
      have hat : atI (pn.map V.int) p.1 = some (.int (pA pn p.1.toNat)) := by
        rw [← ep]
        exact atI_nat (by rw [List.getElem?_map, hpi]; rfl)
      have hpp1 := e1 _ _ hpp
      walk_at "go"
      refine q_ixT hpp1 hat ?_
      walk_at "go"
      refine q_ifN (fun c1 => ?_) (fun c1 => ?_)
      · walk_at "go"
        refine q_push hM1 (by
          rw [List.length_map, List.length_map]
          have := List.length_filter_le (fun p : Int × Int => !decide (pA pn p.1.toNat = p.2)) (b.fixed.take i)
          rw [List.length_take] at this
          omega) ?_
        refine ⟨e1.mut nM, ?_⟩
        rw [upd_same, take_snoc hp, filt_snoc, if_pos (by rw [decide_eq_false c1]; rfl)]
        simp only [List.map_append]
        rfl
      · refine ⟨e1, ?_⟩
        rw [take_snoc hp, filt_snoc, if_neg (by rw [decide_eq_true c1]; exact Bool.false_ne_true)]
        exact hM1
    · rintro H1 ⟨e1, hM1⟩
      rw [lfx, List.take_length] at hM1
      obtain ⟨l, hl⟩ : ∃ l, (b.fixed.filter fun p => !decide (pA pn p.1.toNat = p.2)).map (·.1) = l := ⟨_, rfl⟩
      have hmv : ∀ i : Nat, mvB b pn i = true ↔ (i : Int) ∈ l := fun i => by
        rw [← hl, List.mem_map]
        unfold mvB
        rw [List.any_eq_true]
        constructor
        · rintro ⟨p, mp, h⟩
          rw [Bool.and_eq_true, decide_eq_true_eq] at h
          refine ⟨p, List.mem_filter.mpr ⟨mp, ?_⟩, h.1⟩
          rw [h.1, Int.toNat_natCast]
          exact h.2
        · rintro ⟨p, mp, e⟩
          obtain ⟨m1, m2⟩ := List.mem_filter.mp mp
          refine ⟨p, m1, ?_⟩
          rw [e, Int.toNat_natCast] at m2
          rw [decide_eq_true e, m2]
          rfl
      have hlb : ∀ y ∈ l, 0 ≤ y ∧ y < b.tasks.length := fun y my => by
        rw [← hl] at my
        obtain ⟨p, mp, rfl⟩ := List.mem_map.mp my
        exact bo.fixed p (List.mem_filter.mp mp).1
      rw [hl] at hM1
      walk_at "go"
      cases l with
      | nil =>
        refine q .non H1 e1 ?_
        have : fixedO b pn = none := by
          unfold fixedO
          rw [List.findSome?_eq_none_iff]
          intro i _
          rw [if_neg (fun z => by have := (hmv i).mp z; cases this)]
        rw [this]
        rfl
      | cons j r =>
        rw [if_pos (by rfl)]
        walk_at "go"
        refine q_minL hM1 (by simp) fun mn mm lm => ?_
        obtain ⟨m0, m1⟩ := hlb mn mm
        obtain ⟨k, rfl⟩ : ∃ k : Nat, mn = (k : Int) := ⟨_, (Int.toNat_of_nonneg m0).symm⟩
        have : fixedO b pn = some (("fixed", [(k : Int)]) : Str × List Int) := by
          unfold fixedO
          refine fs_some (i := k) (y := k) ?_ (rng_at (by omega)) (if_pos ((hmv k).mpr mm))
          rw [rng_take (by omega), List.findSome?_eq_none_iff]
          intro i mi
          rw [if_neg (fun z => by
            have h1 := lm _ ((hmv i).mp z)
            have h2 := List.mem_range.mp mi
            omega)]
        walk_at "go"
        rename_i tp ntp
        refine q (.ref tp) _ (e1.trans (Ex.new ntp)) ?_
        rw [this]
        exact ⟨tp, rfl, upd_same⟩
/-! ### a wait that is not kept -/
theorem ok_wait_fault (T : Tx K mg) : Cal P w K mg base 2 "wait_fault" ["book", "plan"] (spLook K waitO) := by
  have G_end_of : Cal P w K mg base 1 "end_of" ["book", "begins", "task"] (spEnd K) := ok_end_of T
  refine T.d_wait_fault.cal sc_wait_fault (fun vs H Q E h => ?_) (fun f cdv A outer s H vs Q E hr h => ?_)
  · obtain ⟨_, _, _, _, rfl, _⟩ := h
    rfl
  · obtain ⟨v, b, pp, pn, rfl, fb, bo, po, hpp, q⟩ := h
    obtain ⟨a, m, gg, ta, w_, f_, txs, gxs, wxs, fxs, rfl, h1, h2, h3, h4, h5, h6, h7, h8, h9, h10⟩ := fb.ex
    have n30 := bo.n
    have w60 := bo.waits
    have lp := po.len
    have lw := h8.len
    refine ⟨_, (pss_cons (ps_for PassesOwn.never rfl (piETK (K := K) (by rfl) T.b_enumerate (pa_cons (pe_ix (ixT (K := K)) (pv 0) (pe_globE rfl T.c_WAITS) (fun _ _ => rfl)) pa_nil)) (pgTK (K := K) (n := 2) (by rfl) (pgs_cons (pg_name (i := 2) sc_wait_fault.nd rfl (.inl rfl)) (pgs_cons (pgTK (K := K) (n := 3) (by rfl) (pgs_cons (pg_name (i := 3) sc_wait_fault.nd rfl (.inl rfl)) (pgs_cons (pg_name (i := 4) sc_wait_fault.nd rfl (.inl rfl)) (pgs_cons (pg_name (i := 5) sc_wait_fault.nd rfl (.inl rfl)) pgs_nil)))) pgs_nil))) (pss_one (ps_if (pt_cmpR op_lt (pe_ix (ixT (K := K)) (pv 1) (pv 4) (fun _ _ => rfl)) (pe_op op_add (pe_cal G_end_of hr (by rfl) (pa_cons (pv 0) (pa_cons (pv 1) (pa_cons (pv 3) pa_nil)))) (pv 5)) (nomark _)) (pss_one (ps_ret (pe_tup (pa_cons pe_str (pa_cons (pv 2) pa_nil))))) pss_nil)))
    (pss_one (ps_ret pe_non))), q_start (τ := [some _, some _, none, none, none, none]) rfl ?_⟩
    walk_at "go"
    refine q_iEnumT ?_
    walk_at "go"
    refine q_enumT h7 ?_
    refine loop_enumT (xs := wxs) (fun i σ H' => Ex H H' ∧ ((List.range i).findSome? fun k => if waitB b pn (wtA b k) = true then some (("wait", [(k : Int)]) : Str × List Int) else none) = none ∧ ∃ t2 t3 t4 t5, σ = [some (.ref a), some (.ref pp), t2, t3, t4, t5]) ⟨Ex.refl _, rfl, _, _, _, _, rfl⟩ (fun i σ H' _ h => h.1 _ _ h7) ?_ ?_
    · rintro i x σ H1 t hx ⟨e1, no, t2, t3, t4, t5, rfl⟩ nt
      have hi := (List.getElem?_eq_some_iff.mp hx).1
      have y1 := Ex.new (o := .tup [V.int i, x]) nt
      have ht : L2.upd H1 t (.tup [V.int i, x]) t = some (.tup [V.int i, x]) := upd_same
      have e2 := e1.trans y1
      generalize L2.upd H1 t (.tup [V.int i, x]) = H2 at y1 ht e2 ⊢
      obtain ⟨wa, hwa, wd⟩ := (RowsAt.tp (Tp.ex e2) h8).get hx
      obtain ⟨wp, rfl, hwp⟩ := wait_parts wd
      obtain ⟨a0, a1, b0, b1, g0, g1⟩ := bo.wait wa (List.mem_of_getElem? hwa)
      have hpp2 := e2 _ _ hpp
      obtain ⟨hpb, pb0, pb1⟩ := po.at_ (i := wa.b.toNat) (by omega)
      obtain ⟨hpa, pa0, pa1⟩ := po.at_ (i := wa.a.toNat) (by omega)
      obtain ⟨_, l0, l1, _⟩ := bo.tk (i := wa.a.toNat) (by omega)
      have eb : ((wa.b.toNat : Nat) : Int) = wa.b := Int.toNat_of_nonneg b0
      have ea : ((wa.a.toNat : Nat) : Int) = wa.a := Int.toNat_of_nonneg a0
      have be : endP b pn wa.a.toNat = pA pn wa.a.toNat + (tkA b wa.a.toNat).len := rfl
      have hatb : atI (pn.map V.int) wa.b = some (.int (pA pn wa.b.toNat)) := by
        rw [← eb]
        exact atI_nat (by rw [List.getElem?_map, hpb]; rfl)
      walk_at "go"
      refine q_ixT hpp2 hatb ?_
      walk_at "go"
      refine ⟨_, b, .ref pp, pn, wa.a.toNat, by rw [ea], fb.up e2, bo, po, ⟨pp, rfl, .inl hpp2⟩, by omega, ?_⟩
      walk_at "go"
      refine q_ifD (fun c1 => ?_) (fun c1 => ?_)
      · walk_at "go"
        rename_i tp ntp
        refine q (.ref tp) _ (e2.trans (Ex.new ntp)) ?_
        have : waitO b pn = some (("wait", [(i : Int)]) : Str × List Int) := by
          unfold waitO
          refine fs_some (i := i) (y := i) (by rw [rng_take (by omega)]; exact no) (rng_at (by omega)) (if_pos ?_)
          rw [wtA_of hwa]
          exact decide_eq_true c1
        rw [this]
        exact ⟨tp, rfl, upd_same⟩
      · refine ⟨e2, ?_, _, _, _, _, rfl⟩
        rw [List.range_succ, List.findSome?_append, no, List.findSome?_cons, wtA_of hwa, if_neg (by unfold waitB; rw [decide_eq_false c1]; exact Bool.false_ne_true)]
        rfl
    · rintro σ H1 ⟨e1, no, t2, t3, t4, t5, rfl⟩
      walk_at "go"
      refine q .non H1 e1 ?_
      unfold waitO
      rw [← lw, no]
      rfl

end
end Bk24



namespace Bk24
open PySem PySem.Spec PyProof.Rows L2 Bs
open Evl (Ex)
section
variable {P : Program} {w : World} {K : PySem.W.Frag} {mg : Str → Option Value} {base : Heap}
/-! ### two tasks on one machine -/
def hitB (b : Bk) (pn : List Int) (x y : Nat) : Bool := decide (pA pn x < endP b pn y) && decide (pA pn y < endP b pn x)
def mateB (b : Bk) (x y : Nat) : Bool := !decide ((tkA b x).mach = "") && decide ((tkA b y).mach = (tkA b x).mach)
def matesL (b : Bk) (x : Nat) (n : Nat) : List Nat := ((List.range n).map fun j => x + 1 + j).filter (mateB b x)
def hitO (b : Bk) (pn : List Int) (x y : Nat) : Flt := if hitB b pn x y = true then some ("machine", [(x : Int), (y : Int)]) else none
def machO (b : Bk) (pn : List Int) : Flt := (List.range b.tasks.length).findSome? fun x => (matesL b x (b.tasks.length - (x + 1))).findSome? (hitO b pn x)
theorem matesL_mem {b : Bk} {x n y : Nat} (h : y ∈ matesL b x n) : x < y ∧ y ≤ x + n := by
  obtain ⟨m, _⟩ := List.mem_filter.mp h
  obtain ⟨j, mj, rfl⟩ := List.mem_map.mp m
  have := List.mem_range.mp mj
  omega
theorem ok_machine_fault (T : Tx K mg) : Cal P w K mg base 2 "machine_fault" ["book", "plan"] (spLook K machO) := by
  have G_end_of : Cal P w K mg base 1 "end_of" ["book", "begins", "task"] (spEnd K) := ok_end_of T
  refine T.d_machine_fault.cal sc_machine_fault (fun vs H Q E h => ?_) (fun f cdv A outer s H vs Q E hr h => ?_)
  · obtain ⟨_, _, _, _, rfl, _⟩ := h
    rfl
  · obtain ⟨v, b, pp, pn, rfl, fb, bo, po, hpp, q⟩ := h
    obtain ⟨a, m, gg, ta, w_, f_, txs, gxs, wxs, fxs, rfl, h1, h2, h3, h4, h5, h6, h7, h8, h9, h10⟩ := fb.ex
    have n30 := bo.n
    have lp := po.len
    refine ⟨_, (pss_cons (ps_set (i := 2) sc_machine_fault.nd rfl (.inl rfl) (pe_callB (lenK (K := K)) (by rfl) T.b_len (by decide +kernel) (pa_cons (pe_ix (ixT (K := K)) (pv 0) (pe_globE rfl T.c_TASKS) (fun _ _ => rfl)) pa_nil)))
    (pss_cons (ps_for PassesOwn.never rfl (pi_range1 (by rfl) T.b_range (pa_cons (pv 2) pa_nil)) (pg_name (i := 3) sc_machine_fault.nd rfl (.inl rfl)) (pss_cons (ps_set (i := 4) sc_machine_fault.nd rfl (.inr rfl) (pe_ix (ixT (K := K)) (pe_ix (ixT (K := K)) (pe_ix (ixT (K := K)) (pv 0) (pe_globE rfl T.c_TASKS) (fun _ _ => rfl)) (pv 3) (fun _ _ => rfl)) (pe_globE rfl T.c_MACHINE) (fun _ _ => rfl)))
    (pss_cons (ps_setLc (i := 5) (own := [("other", 6)]) rfl sc_machine_fault.nd rfl rfl (sw_true rfl rfl rfl (by decide +kernel)) (pi_range2 (by rfl) T.b_range (pa_cons (pe_op op_add (pv 3) pe_int) (pa_cons (pv 2) pa_nil))) (blkOk_by (own := [("other", 6)]) (N := N_machine_fault) (sc := defScope s_machine_fault) (by decide +kernel)) (fun _ _ _ _ _ => (pg_name (i := 6) sc_machine_fault.nd rfl (.inl rfl))) (fun _ _ _ _ _ => pts_one (PW.pt (pw_and (pt_cmpR op_ne (pv 4) pe_str (nomark _)) (pw_and1 (pt_cmpR op_eq (pe_ix (ixT (K := K)) (pe_ix (ixT (K := K)) (pe_ix (ixT (K := K)) (pv 0) (pe_globE rfl T.c_TASKS) (fun _ _ => rfl)) (pv 6) (fun _ _ => rfl)) (pe_globE rfl T.c_MACHINE) (fun _ _ => rfl)) (pv 4) (nomark _)))))) (fun _ _ _ _ _ => (pv 6)))
    (pss_one (ps_for PassesOwn.never rfl (piLK (K := K) (pv 5)) (pg_name (i := 6) sc_machine_fault.nd rfl (.inl rfl)) (pss_one (ps_if (PW.pt (pw_and (pt_cmpR op_lt (pe_ix (ixT (K := K)) (pv 1) (pv 3) (fun _ _ => rfl)) (pe_cal G_end_of hr (by rfl) (pa_cons (pv 0) (pa_cons (pv 1) (pa_cons (pv 6) pa_nil)))) (nomark _)) (pw_and1 (pt_cmpR op_lt (pe_ix (ixT (K := K)) (pv 1) (pv 6) (fun _ _ => rfl)) (pe_cal G_end_of hr (by rfl) (pa_cons (pv 0) (pa_cons (pv 1) (pa_cons (pv 3) pa_nil)))) (nomark _))))) (pss_one (ps_ret (pe_tup (pa_cons pe_str (pa_cons (pv 3) (pa_cons (pv 6) pa_nil)))))) pss_nil)))))))
    (pss_one (ps_ret pe_non)))), q_start (τ := [some _, some _, none, none, none, none, none]) rfl ?_⟩
    walk_at "go"
    refine loop_range (fun i σ H' => Ex H H' ∧ ((List.range i).findSome? fun x => (matesL b x (b.tasks.length - (x + 1))).findSome? (hitO b pn x)) = none ∧ ∃ t3 t4 t5 t6, σ = [some (.ref a), some (.ref pp), some (.int txs.length), t3, t4, t5, t6]) ⟨Ex.refl _, rfl, _, _, _, _, rfl⟩ ?_ ?_
    · rintro x σ H1 hx ⟨e1, no, t3, t4, t5, t6, rfl⟩
      obtain ⟨tp, nv, x1, x2, _⟩ := h4 x (by omega)
      have hat : atI txs x = some (.ref tp) := atI_nat x1
      have x2' : H1 tp = some (.tup [.str (tkA b x).name, .int (tkA b x).len, .str (tkA b x).mach, nv, .int (tkA b x).frm, dueV (tkA b x).due, .int (tkA b x).wt]) := e1 _ _ x2
      have h11 := e1 _ _ h1
      have h21 := e1 _ _ h2
      have hpp1 := e1 _ _ hpp
      obtain ⟨hpx, px0, px1⟩ := po.at_ (i := x) (by omega)
      obtain ⟨_, lx0, lx1, _⟩ := bo.tk (i := x) (by omega)
      walk_at "go"
      refine q_ixT h21 hat ?_
      walk_at "go"
      refine q_rng2i ?_
      walk_at "go"
      refine ⟨(x : Int) + 1, txs.length, rfl, ⟨by omega, by omega, by omega, by omega⟩, fun M nM => ?_⟩
      have en : ((txs.length : Int) - ((x : Int) + 1)).toNat = b.tasks.length - (x + 1) := by omega
      rw [en]
      generalize hn : b.tasks.length - (x + 1) = n
      refine lcp_range2 (fun i H' => Ex H1 H' ∧ H' M = some (.lst (((matesL b x i).map fun y : Nat => (y : Int)).map V.int))) ⟨Ex.new nM, upd_same⟩ ?_ ?_
      · rintro i H2 hi ⟨e2, hM2⟩
        have ey : (x : Int) + 1 + (i : Nat) = ((x + 1 + i : Nat) : Int) := by omega
        rw [ey]
        generalize hy : x + 1 + i = y
        obtain ⟨tq, nw, y1, y2, _⟩ := h4 y (by omega)
        have hat2 : atI txs y = some (.ref tq) := atI_nat y1
        have E2 := e1.trans e2
        have y2' : H2 tq = some (.tup [.str (tkA b y).name, .int (tkA b y).len, .str (tkA b y).mach, nw, .int (tkA b y).frm, dueV (tkA b y).due, .int (tkA b y).wt]) := E2 _ _ y2
        have h12 := E2 _ _ h1
        have h22 := E2 _ _ h2
        have lm : (matesL b x i).length ≤ i := by
          unfold matesL
          refine Nat.le_trans (List.length_filter_le _ _) ?_
          rw [List.length_map, List.length_range]
          exact Nat.le_refl _
        have ml : matesL b x (i + 1) = if mateB b x y then matesL b x i ++ [y] else matesL b x i := by
          unfold matesL
          rw [List.range_succ, List.map_append, ← hy]
          exact filt_snoc
        walk_at "go"
        by_cases c0 : (tkA b x).mach = Str.ofString ""
        · rw [decide_eq_true c0]
          walk_at "go"
          refine ⟨e2, ?_⟩
          rw [ml, if_neg (by unfold mateB; rw [decide_eq_true c0]; exact Bool.false_ne_true)]
          exact hM2
        · rw [decide_eq_false c0]
          walk_at "go"
          refine q_ixT h22 hat2 ?_
          walk_at "go"
          by_cases c1 : (tkA b y).mach = (tkA b x).mach
          · rw [decide_eq_true c1]
            walk_at "go"
            refine ⟨e2.mut nM, ?_⟩
            rw [upd_same, ml, if_pos (by unfold mateB; rw [decide_eq_false c0, decide_eq_true c1]; rfl)]
            simp only [List.map_append]
            rfl
          · rw [decide_eq_false c1]
            walk_at "go"
            refine ⟨e2, ?_⟩
            rw [ml, if_neg (by unfold mateB; rw [decide_eq_false c1, Bool.and_false]; exact Bool.false_ne_true)]
            exact hM2
      · rintro H2 ⟨e2, hM2⟩
        obtain ⟨ms, hms, bms⟩ : ∃ ms, matesL b x n = ms ∧ ∀ y ∈ ms, x < y ∧ y < b.tasks.length := ⟨_, rfl, fun y my => by
          have := matesL_mem my
          omega⟩
        rw [hms] at hM2
        have hms' : matesL b x (b.tasks.length - (x + 1)) = ms := by rw [hn]; exact hms
        walk_at "go"
        refine loop_list (xs := (ms.map fun y : Nat => (y : Int)).map V.int) (fun i σ H' => Ex H2 H' ∧ (ms.take i).findSome? (hitO b pn x) = none ∧ ∃ t6, σ = [some (.ref a), some (.ref pp), some (.int txs.length), some (.int x), some (.str (tkA b x).mach), some (.ref M), t6]) ⟨Ex.refl _, rfl, _, rfl⟩ (fun i σ H' _ h => h.1 _ _ hM2) ?_ ?_
        · rintro i z σ H3 hz ⟨e3, no2, t6, rfl⟩
          obtain ⟨yz, hyz, rfl⟩ := map_get hz
          rw [List.getElem?_map] at hyz
          obtain ⟨y, hy, rfl⟩ := Option.map_eq_some_iff.mp hyz
          obtain ⟨y0, y1⟩ := bms y (List.mem_of_getElem? hy)
          obtain ⟨hpy, py0, py1⟩ := po.at_ (i := y) y1
          obtain ⟨_, ly0, ly1, _⟩ := bo.tk (i := y) y1
          have E3 := (e1.trans e2).trans e3
          have hpp3 := E3 _ _ hpp
          have go_on : hitB b pn x y = false → Ex H2 H3 ∧ (ms.take (i + 1)).findSome? (hitO b pn x) = none ∧ ∃ t6, [some (V.ref a), some (.ref pp), some (.int txs.length), some (.int x), some (.str (tkA b x).mach), some (.ref M), some (.int y)] = [some (.ref a), some (.ref pp), some (.int txs.length), some (.int x), some (.str (tkA b x).mach), some (.ref M), t6] := fun c => ⟨e3, fs_next no2 hy (by unfold hitO; rw [if_neg (by rw [c]; exact Bool.false_ne_true)]), _, rfl⟩
          walk_at "go"
          refine q_ixT hpp3 (atI_nat (by rw [List.getElem?_map, hpx]; rfl)) ?_
          walk_at "go"
          refine ⟨_, b, .ref pp, pn, y, rfl, fb.up E3, bo, po, ⟨pp, rfl, .inl hpp3⟩, y1, ?_⟩
          walk_at "go"
          refine q_ifD (fun c1 => ?_) (fun c1 => ?_)
          · walk_at "go"
            refine q_ixT hpp3 (atI_nat (by rw [List.getElem?_map, hpy]; rfl)) ?_
            walk_at "go"
            refine ⟨_, b, .ref pp, pn, x, rfl, fb.up E3, bo, po, ⟨pp, rfl, .inl hpp3⟩, by omega, ?_⟩
            walk_at "go"
            refine q_ifD (fun c2 => ?_) (fun c2 => ?_)
            · walk_at "go"
              rename_i tp5 ntp5
              refine q (.ref tp5) _ (E3.trans (Ex.new ntp5)) ?_
              have hit : hitO b pn x y = some (("machine", [(x : Int), (y : Int)]) : Str × List Int) := if_pos (by unfold hitB; rw [decide_eq_true c1, decide_eq_true c2]; rfl)
              have : machO b pn = some (("machine", [(x : Int), (y : Int)]) : Str × List Int) := by
                unfold machO
                refine fs_some (i := x) (y := x) (by rw [rng_take (by omega)]; exact no) (rng_at (by omega)) ?_
                rw [hms']
                exact fs_some no2 hy hit
              rw [this]
              exact ⟨tp5, rfl, upd_same⟩
            · exact go_on (by unfold hitB; rw [decide_eq_false c2, Bool.and_false])
          · exact go_on (by unfold hitB; rw [decide_eq_false c1, Bool.false_and])
        · rintro σ H3 ⟨e3, no2, t6, rfl⟩
          rw [List.length_map, List.length_map, List.take_length] at no2
          refine ⟨(e1.trans e2).trans e3, ?_, _, _, _, _, rfl⟩
          rw [List.range_succ, List.findSome?_append, no, List.findSome?_cons, hms', no2]
          rfl
    · rintro σ H1 ⟨e1, no, t3, t4, t5, t6, rfl⟩
      walk_at "go"
      refine q .non H1 e1 ?_
      have : machO b pn = none := by
        unfold machO
        rw [← no]
        congr 1
        rw [← h3]
        congr 1
      rw [this]
      rfl

end
end Bk24



namespace Bk24
open PySem PySem.Spec PyProof.Rows L2 Bs
open Evl (Ex)
section
variable {P : Program} {w : World} {K : PySem.W.Frag} {mg : Str → Option Value} {base : Heap}
/-! ### a good that is lacking -/
noncomputable def hoursOf (pn : List Int) : List Int := open Classical in if h : ∃ S : List Int, S.Pairwise (· < ·) ∧ ∀ k, k ∈ S ↔ k ∈ pn then Classical.choose h else []
theorem hoursOf_is {pn S : List Int} (r : S.Pairwise (· < ·)) (m : ∀ k, k ∈ S ↔ k ∈ pn) : hoursOf pn = S := by
  have h : ∃ S : List Int, S.Pairwise (· < ·) ∧ ∀ k, k ∈ S ↔ k ∈ pn := ⟨S, r, m⟩
  unfold hoursOf
  rw [dif_pos h]
  obtain ⟨r2, m2⟩ := Classical.choose_spec h
  exact RZ.rising_uniq r2 r fun k => (m2 k).trans (m k).symm
def gdA (b : Bk) (k : Nat) : Str × Int := b.goods.getD k ("", 0)
theorem gdA_of {b : Bk} {k : Nat} {g : Str × Int} (h : b.goods[k]? = some g) : gdA b k = g := by
  unfold gdA
  rw [List.getD_eq_getElem?_getD, h]
  rfl
def lackO (b : Bk) (pn : List Int) (h : Int) (k : Nat) : Flt := if decide ((gdA b k).2 < usedS (usesN b pn (gdA b k).1 b.tasks.length) h) = true then some ("good", [(k : Int), h]) else none
noncomputable def goodO (b : Bk) (pn : List Int) : Flt := (hoursOf pn).findSome? fun h => (List.range b.goods.length).findSome? (lackO b pn h)
section
variable {σ : L2.St} {H : Hp} {Q : VK} {nx bk ct : L2.St → Hp → Prop} {rt : VK} {g : TG} {tb : TS}
theorem loop_enumTS {a : Addr} {xs : List V} (Pv : Nat → L2.St → Hp → Prop) (h0 : Pv 0 σ H) (hl : ∀ i σ H, i ≤ xs.length → Pv i σ H → SqT K H a xs)
    (hs : ∀ i x σ H T, xs[i]? = some x → Pv i σ H → H T = none → g (.ref T) σ (upd H T (.tup [.int (i : Nat), x])) fun σ2 H2 => tb ⟨Pv (i + 1), rt, nx, Pv (i + 1)⟩ σ2 H2) (hd : ∀ σ H, Pv xs.length σ H → nx σ H) : Loop (IteT K a) g tb nx rt σ H := by
  refine ⟨fun i m σ H => m = xs.length - i ∧ i ≤ xs.length ∧ Pv i σ H, ⟨xs.length, by simp, Nat.zero_le _, h0⟩, ?_⟩
  rintro i m σ H ⟨rfl, hi, p⟩
  have q := hl i σ H hi p
  by_cases hlt : i < xs.length
  · refine .inr ⟨⟨xs, xs[i], q, by simp [hlt]⟩, Pv (i + 1), fun σ' H' p' => ⟨xs.length - (i + 1), by omega, rfl, hlt, p'⟩, fun x H' y => ?_⟩
    obtain ⟨T, y1, e1, e2, e3, e4⟩ := y
    subst e1 e3
    exact hs i y1 σ H T (e4 xs q) p e2
  · have e : i = xs.length := by omega
    subst e
    exact .inl ⟨⟨xs, q, rfl⟩, hd σ H p⟩
end
theorem ok_good_fault (T : Tx K mg) : Cal P w K mg base 3 "good_fault" ["book", "plan"] (spLook K goodO) := by
  have G_uses_of_good : Cal P w K mg base 2 "uses_of_good" ["book", "begins", "good"] (spUses K) := ok_uses_of_good T
  have G_used_at : Cal P w K mg base 1 "used_at" ["uses", "hour"] (spUsed K) := ok_used_at T
  refine T.d_good_fault.cal sc_good_fault (fun vs H Q E h => ?_) (fun f cdv A outer s H vs Q E hr h => ?_)
  · obtain ⟨_, _, _, _, rfl, _⟩ := h
    rfl
  · obtain ⟨v, b, pp, pn, rfl, fb, bo, po, hpp, q⟩ := h
    obtain ⟨a, m, gg, ta, w_, f_, txs, gxs, wxs, fxs, rfl, h1, h2, h3, h4, h5, h6, h7, h8, h9, h10⟩ := fb.ex
    have n30 := bo.n
    have g10 := bo.goods
    have lp := po.len
    have lg := h6.len
    refine ⟨_, (pss_cons (ps_set (i := 2) sc_good_fault.nd rfl (.inr rfl) (pe_dictEnum (by rfl) (by rfl) T.b_dict (by rfl) T.b_enumerate (pv 1)))
    (pss_cons (ps_setLc (i := 3) (own := [("_", 6), ("good", 8)]) rfl sc_good_fault.nd rfl rfl (sw_true rfl rfl rfl (by decide +kernel)) (piTK (K := K) (pe_ix (ixT (K := K)) (pv 0) (pe_globE rfl T.c_GOODS) (fun _ _ => rfl))) (blkOk_by (own := [("_", 6), ("good", 8)]) (N := N_good_fault) (sc := defScope s_good_fault) (by decide +kernel)) (fun _ _ _ _ _ => (pgTK (K := K) (n := 2) (by rfl) (pgs_cons (pg_name (i := 8) sc_good_fault.nd rfl (.inl rfl)) (pgs_cons (pg_name (i := 6) sc_good_fault.nd rfl (.inl rfl)) pgs_nil)))) (fun _ _ _ _ _ => pts_nil) (fun _ _ _ _ _ => (pe_cal G_uses_of_good hr (by rfl) (pa_cons (pv 0) (pa_cons (pv 2) (pa_cons (pv 8) pa_nil))))))
    (pss_cons (ps_for PassesOwn.never rfl (piLK (K := K) (pe_callB (RZ.au_sortedSet (w := w) rfl) (by rfl) T.b_sorted (by decide +kernel) (pa_cons (pe_callTy (RZ.cr_setTI (K := K) (w := w) rfl) (by rfl) T.b_set (by decide +kernel) (pa_cons (pv 1) pa_nil)) pa_nil))) (pg_name (i := 4) sc_good_fault.nd rfl (.inl rfl)) (pss_one (ps_for PassesOwn.never rfl (piETK (K := K) (by rfl) T.b_enumerate (pa_cons (pe_ix (ixT (K := K)) (pv 0) (pe_globE rfl T.c_GOODS) (fun _ _ => rfl)) pa_nil)) (pgTK (K := K) (n := 2) (by rfl) (pgs_cons (pg_name (i := 5) sc_good_fault.nd rfl (.inl rfl)) (pgs_cons (pgTK (K := K) (n := 2) (by rfl) (pgs_cons (pg_name (i := 6) sc_good_fault.nd rfl (.inl rfl)) (pgs_cons (pg_name (i := 7) sc_good_fault.nd rfl (.inl rfl)) pgs_nil))) pgs_nil))) (pss_one (ps_if (pt_cmpR op_gt (pe_cal G_used_at (hr.mono (by decide)) (by rfl) (pa_cons (pe_ix (ixL (K := K)) (pv 3) (pv 5) (fun _ _ => rfl)) (pa_cons (pv 4) pa_nil))) (pv 7) (nomark _)) (pss_one (ps_ret (pe_tup (pa_cons pe_str (pa_cons (pv 5) (pa_cons (pv 4) pa_nil)))))) pss_nil)))))
    (pss_one (ps_ret pe_non))))), q_start (τ := [some _, some _, none, none, none, none, none, none, none]) rfl ?_⟩
    walk_at "go"
    refine q_dictEnum ?_
    walk_at "go"
    refine ⟨pp, _, rfl, SqT.of hpp, fun d nd => ?_⟩
    rw [plK_all]
    have x1 := Ex.new (o := .dK ((plK pn).map kI)) nd
    have hd : L2.upd H d (.dK ((plK pn).map kI)) d = some (.dK ((plK pn).map kI)) := upd_same
    have h11 := x1 _ _ h1
    have h51 := Evl.ex_t x1 h5
    generalize L2.upd H d (.dK ((plK pn).map kI)) = H1 at x1 hd h11 h51 ⊢
    walk_at "go"
    refine ⟨gg, rfl, ⟨_, h51⟩, fun M nM => ?_⟩
    refine lcp_tupS (xs := gxs) (fun i H' => Ex H1 H' ∧ ∃ uv, H' M = some (.lst uv) ∧ uv.length = i ∧ ∀ j, j < i → ∃ U us, uv[j]? = some (.ref U) ∧ U ≠ M ∧ H' U = some (.lst us) ∧ RowsAt useD H' us (usesN b pn (gdA b j).1 b.tasks.length)) ⟨Ex.new nM, [], upd_same, rfl, fun j h => absurd h (Nat.not_lt_zero j)⟩ (fun i H' _ h => Evl.ex_t h.1 h51) ?_ ?_
    · rintro i x H2 hx ⟨e2, uv, hM2, luv, all⟩
      have hi := (List.getElem?_eq_some_iff.mp hx).1
      have E2 := x1.trans e2
      obtain ⟨go, hgo, tdg⟩ := (RowsAt.tp (Tp.ex E2) h6).get hx
      obtain ⟨gp, rfl, hgp⟩ := good_at tdg
      walk_at "go"
      refine ⟨_, b, d, pn, go.1, rfl, fb.up E2, bo, po, e2 _ _ hd, (fun z => by rw [z] at hgo; simp at hgo), fun U us H3 e3 nU hU ru => ?_⟩
      have hM3 := e3 _ _ hM2
      walk_at "go"
      have nUM : U ≠ M := (ne_of_none hM2 nU).symm
      refine ⟨(e2.trans e3).mut nM, uv ++ [.ref U], upd_same, by rw [List.length_append, luv]; rfl, fun j hj => ?_⟩
      have tpM : Tp H3 (L2.upd H3 M (.lst (uv ++ [.ref U]))) := Tp.upd hM3
      by_cases c : j = i
      · subst c
        refine ⟨U, us, by rw [← luv, List.getElem?_append_right (Nat.le_refl _), Nat.sub_self]; rfl, nUM, by rw [upd_ne nUM]; exact hU, ?_⟩
        rw [gdA_of hgo]
        exact RowsAt.tp tpM ru
      · obtain ⟨U', us', k1, k2, k3, k4⟩ := all j (by omega)
        refine ⟨U', us', by rw [List.getElem?_append_left (by omega)]; exact k1, k2, by rw [upd_ne k2]; exact e3 _ _ k3, RowsAt.tp ((Tp.ex e3).trans tpM) k4⟩
    · rintro H2 ⟨e2, uv, hM2, luv, all⟩
      have E2 := x1.trans e2
      have hpp2 := E2 _ _ hpp
      walk_at "go"
      refine ⟨pp, pn, rfl, SqT.of hpp2, by omega, fun sp c hc nsp => ?_⟩
      have e3 := Ex.new (o := SetO w sp (fun j => decide (j ∈ pn)) c) nsp
      have hsp : L2.upd H2 sp (SetO w sp (fun j => decide (j ∈ pn)) c) sp = some (SetO w sp (fun j => decide (j ∈ pn)) c) := upd_same
      generalize L2.upd H2 sp (SetO w sp (fun j => decide (j ∈ pn)) c) = H3 at e3 hsp ⊢
      walk_at "go"
      refine ⟨sp, _, c, rfl, hsp, by omega, fun hs lp2 up mem ln nlp => ?_⟩
      have ehs : hoursOf pn = hs := hoursOf_is up fun k => by rw [mem k, decide_eq_true_eq]
      have e4 := Ex.new (o := .lst (hs.map V.int)) nlp
      have hl4 : L2.upd H3 lp2 (.lst (hs.map V.int)) lp2 = some (.lst (hs.map V.int)) := upd_same
      have E4 := (E2.trans e3).trans e4
      have e24 := e3.trans e4
      generalize L2.upd H3 lp2 (.lst (hs.map V.int)) = H4 at e4 hl4 E4 e24 ⊢
      walk_at "go"
      refine loop_list (xs := hs.map V.int) (fun i σ H' => Ex H4 H' ∧ ((hs.take i).findSome? fun h => (List.range b.goods.length).findSome? (lackO b pn h)) = none ∧ ∃ t4 t5 t6 t7 t8, σ = [some (.ref a), some (.ref pp), some (.ref d), some (.ref M), t4, t5, t6, t7, t8]) ⟨Ex.refl _, rfl, _, _, _, _, _, rfl⟩ (fun i σ H' _ h => h.1 _ _ hl4) ?_ ?_
      · rintro i x σ H5 hx ⟨e5, no, t4, t5, t6, t7, t8, rfl⟩
        obtain ⟨h, hh, rfl⟩ := map_get hx
        have E5 := E4.trans e5
        have h15 := E5 _ _ h1
        walk_at "go"
        refine q_iEnumT ?_
        walk_at "go"
        have h55 := Evl.ex_t E5 h5
        refine ⟨gg, gxs, rfl, h55, ?_⟩
        refine loop_enumTS (xs := gxs) (fun k σ H' => Ex H5 H' ∧ ((List.range k).findSome? (lackO b pn h)) = none ∧ ∃ t5 t6 t7 t8, σ = [some (.ref a), some (.ref pp), some (.ref d), some (.ref M), some (.int h), t5, t6, t7, t8]) ⟨Ex.refl _, rfl, _, _, _, _, rfl⟩ (fun i σ H' _ h => Evl.ex_t h.1 h55) ?_ ?_
        · rintro k y σ H6 t hy ⟨e6, no2, t5, t6, t7, t8, rfl⟩ nt
          have hk := (List.getElem?_eq_some_iff.mp hy).1
          have y7 := Ex.new (o := .tup [V.int k, y]) nt
          have ht : L2.upd H6 t (.tup [V.int k, y]) t = some (.tup [V.int k, y]) := upd_same
          have e7 := e6.trans y7
          generalize L2.upd H6 t (.tup [V.int k, y]) = H7 at y7 ht e7 ⊢
          have E7 := E5.trans e7
          have e27 := (e24.trans e5).trans e7
          obtain ⟨go, hgo, tdg⟩ := (RowsAt.tp (Tp.ex E7) h6).get hy
          obtain ⟨gp, rfl, hgp⟩ := good_at tdg
          obtain ⟨U, us, k1, k2, k3, k4⟩ := all k (by omega)
          have hM7 := e27 _ _ hM2
          walk_at "go"
          refine q_ixL hM7 (atI_nat k1) ?_
          walk_at "go"
          refine ⟨U, us, _, h, rfl, e27 _ _ k3, RowsAt.tp (Tp.ex e27) k4, Nat.le_trans usesN_len (by omega), fun H8 e8 => ?_⟩
          walk_at "go"
          refine q_ifD (fun c1 => ?_) (fun c1 => ?_)
          · walk_at "go"
            rename_i tp ntp
            refine q (.ref tp) _ ((E7.trans e8).trans (Ex.new ntp)) ?_
            have hl : lackO b pn h k = some (("good", [(k : Int), h]) : Str × List Int) := if_pos (by
              rw [gdA_of hgo] at c1 ⊢
              exact decide_eq_true c1)
            have : goodO b pn = some (("good", [(k : Int), h]) : Str × List Int) := by
              unfold goodO
              rw [ehs]
              exact fs_some no hh (fs_some (i := k) (y := k) (by rw [rng_take (by omega)]; exact no2) (rng_at (by omega)) hl)
            rw [this]
            exact ⟨tp, rfl, upd_same⟩
          · refine ⟨e7.trans e8, ?_, _, _, _, _, rfl⟩
            rw [List.range_succ, List.findSome?_append, no2, List.findSome?_cons]
            unfold lackO
            rw [gdA_of hgo] at c1 ⊢
            rw [if_neg (by rw [decide_eq_false c1]; exact Bool.false_ne_true)]
            rfl
        · rintro σ H6 ⟨e6, no2, t5, t6, t7, t8, rfl⟩
          rw [lg] at no2
          exact ⟨e5.trans e6, fs_next no hh no2, _, _, _, _, _, rfl⟩
      · rintro σ H5 ⟨e5, no, t4, t5, t6, t7, t8, rfl⟩
        rw [List.length_map, List.take_length] at no
        walk_at "go"
        refine q .non H5 (E4.trans e5) ?_
        have : goodO b pn = none := by
          unfold goodO
          rw [ehs]
          exact no
        rw [this]
        rfl

end
end Bk24


namespace Bk24
open PySem PySem.Spec PyProof.Rows L2 Bs
open Evl (Ex)
section
variable {P : Program} {w : World} {K : PySem.W.Frag} {mg : Str → Option Value} {base : Heap}
/-! ### what is a plan, of any book as it stands -/
def spMNeedF (K : PySem.W.Frag) : Sp := fun vs H Q _ => ∃ (v : V) (b : Bk) (pp : Addr) (pn : List Int), vs = [v, .ref pp] ∧ FB K H v b ∧ BkOk b ∧ PlOk b pn ∧ H pp = some (.tup (pn.map V.int)) ∧ ∀ H', Ex H H' → Q .non H'
theorem ok_need_planF (T : Tx K mg) : Cal P w K mg base 3 "need_plan" ["book", "thing"] (spMNeedF K) := by
  have G_is_among : Cal P w K mg base 2 "is_among" ["thing", "least", "most"] spAmong := ok_is_among T
  refine T.d_need_plan.cal sc_need_plan (fun vs H Q E h => ?_) (fun f cdv A outer s H vs Q E hr h => ?_)
  · obtain ⟨_, _, _, _, rfl, _⟩ := h
    rfl
  · obtain ⟨v, b, pp, pn, rfl, fb, bo, po, hpp, q⟩ := h
    obtain ⟨a, m, gg, ta, w_, f_, txs, gxs, wxs, fxs, rfl, hab, ht, lt, _⟩ := fb.ex
    have lp := po.len
    have l30 := bo.n
    have bd := po.bd
    have lpm : (pn.map V.int).length = pn.length := List.length_map _
    refine ⟨_, (pss_cons (ps_if (PW.pt (pw_or (pt_not (pt_val (pe_callB (isiK (K := K)) (by rfl) T.b_isinstance (by decide +kernel) (pa_cons (pv 1) (pa_cons (pe_bltn (v := .ty "tuple") rfl T.b_tuple (by decide +kernel) rfl) pa_nil))))) (pw_or1 (pt_cmpR op_ne (pe_callB (lenK (K := K)) (by rfl) T.b_len (by decide +kernel) (pa_cons (pv 1) pa_nil)) (pe_callB (lenK (K := K)) (by rfl) T.b_len (by decide +kernel) (pa_cons (pe_ix (ixT (K := K)) (pv 0) (pe_globE rfl T.c_TASKS) (fun _ _ => rfl)) pa_nil)) (nomark _))))) (pss_one ps_off) pss_nil)
    (pss_one (ps_if (pt_not (pt_val (pe_callB (au_all (K := K) rfl) (by rfl) T.b_all (by decide +kernel) (pa_cons (pe_lc (own := [("hour", 2)]) rfl sc_need_plan.nd (piTK (K := K) (pv 1)) (blkOk_by (own := [("hour", 2)]) (N := N_need_plan) (sc := defScope s_need_plan) (by decide +kernel)) (fun _ _ _ _ _ => (pg_name (i := 2) sc_need_plan.nd rfl (.inl rfl))) (fun _ _ _ _ _ => pts_nil) (fun _ _ _ _ _ => (pe_cal G_is_among hr (by rfl) (pa_cons (pv 2) (pa_cons pe_int (pa_cons (pe_globE rfl T.c_LAST_BEGIN) pa_nil)))))) pa_nil)))) (pss_one ps_off) pss_nil))), q_start (τ := [some _, some _, none]) rfl ?_⟩
    walk_at "go"
    intro D nD
    refine lcp_tup (xs := pn.map V.int) (fun i H' => Ex H H' ∧ H' D = some (.lst ((List.replicate i true).map V.bl))) ⟨Ex.new nD, upd_same⟩ (fun i H' _ h => h.1 _ _ hpp) ?_ ?_
    · rintro i x H1 hx ⟨e1, hD1⟩
      obtain ⟨y, hy, rfl⟩ := map_get hx
      have hi := (List.getElem?_eq_some_iff.mp hy).1
      have by_ := bd y (List.mem_of_getElem? hy)
      have lf : ((List.replicate i true).map V.bl).length ≤ 1000 := by
        rw [List.length_map, List.length_replicate]
        omega
      walk_at "go"
      refine ⟨y, 0, 1000000000, rfl, ?_⟩
      rw [decide_eq_true by_]
      walk_at "go"
      refine ⟨e1.mut nD, ?_⟩
      rw [upd_same, List.replicate_succ', List.map_append]
      rfl
    · rintro H1 ⟨e1, hD1⟩
      walk_at "go"
      refine q_all hD1 ?_
      rw [List.all_replicate]
      refine ⟨_, rfl, ?_⟩
      have : (!(if (pn.map V.int).length = 0 then true else id true)) = false := by split <;> rfl
      rw [this, if_neg Bool.false_ne_true]
      walk_at "go"
      exact q H1 e1

/-! ### the first fault -/
noncomputable def faultO (b : Bk) (pn : List Int) : Flt := [fromO b pn, fixedO b pn, waitO b pn, machO b pn, goodO b pn].findSome? id
theorem dfn_ne {x y : Str} {sx sy : Stmt} {px py : List Str} {f g : Addr} (h : x ≠ y) (Dx : Dfn K mg x sx px) (Dy : Dfn K mg y sy py) (mx : mg x = some (.ref f)) (my : mg y = some (.ref g)) : f ≠ g := by
  intro e
  subst e
  obtain ⟨f1, fd1, F1, m1, _⟩ := Dx.ex
  obtain ⟨f2, fd2, F2, m2, _⟩ := Dy.ex
  rw [mx] at m1
  rw [my] at m2
  cases m1
  cases m2
  obtain ⟨_, _, _, _, _, _, _, _, _, rfl, l1, _⟩ := F1.ex
  obtain ⟨_, _, _, _, _, _, _, _, _, rfl, l2, _⟩ := F2.ex
  rw [l1] at l2
  have e1 := congrArg (fun o : Option Obj => o.map fun o => o.data) l2
  have e2 : (Data.func _) = Data.func _ := Option.some.inj e1
  have e3 := Data.func.inj e2
  exact h (congrArg FuncData.name e3)
theorem cal_held {k j : Nat} {x : Str} {ps : List Str} {sp : Sp} {f : Addr} (G : Cal P w K mg base j x ps sp) (m : mg x = some (.ref f)) (h : j ≤ k) : L2.Held P w K mg base k f sp := by
  obtain ⟨f2, fd, m2, kp, bd, F⟩ := G.ex
  rw [m] at m2
  cases m2
  exact ⟨fd, ps, F.mono h, kp, bd⟩
def spFault (K : PySem.W.Frag) : Sp := spLook K faultO
theorem ok_fault_of (T : Tx K mg) : Cal P w K mg base 4 "fault_of" ["book", "plan"] (spFault K) := by
  have G_need_plan : Cal P w K mg base 3 "need_plan" ["book", "thing"] (spMNeedF K) := ok_need_planF T
  have G1 : Cal P w K mg base 1 "from_fault" ["book", "plan"] (spLook K fromO) := ok_from_fault T
  have G2 : Cal P w K mg base 1 "fixed_fault" ["book", "plan"] (spLook K fixedO) := ok_fixed_fault T
  have G3 : Cal P w K mg base 2 "wait_fault" ["book", "plan"] (spLook K waitO) := ok_wait_fault T
  have G4 : Cal P w K mg base 2 "machine_fault" ["book", "plan"] (spLook K machO) := ok_machine_fault T
  have G5 : Cal P w K mg base 3 "good_fault" ["book", "plan"] (spLook K goodO) := ok_good_fault T
  obtain ⟨af, f1, f2, f3, f4, f5, hmf, haf, m1, m2, m3, m4, m5⟩ := T.c_FAULTS
  have n12 : f1 ≠ f2 := dfn_ne (by decide +kernel) T.d_from_fault T.d_fixed_fault m1 m2
  have n13 : f1 ≠ f3 := dfn_ne (by decide +kernel) T.d_from_fault T.d_wait_fault m1 m3
  have n14 : f1 ≠ f4 := dfn_ne (by decide +kernel) T.d_from_fault T.d_machine_fault m1 m4
  have n15 : f1 ≠ f5 := dfn_ne (by decide +kernel) T.d_from_fault T.d_good_fault m1 m5
  have n23 : f2 ≠ f3 := dfn_ne (by decide +kernel) T.d_fixed_fault T.d_wait_fault m2 m3
  have n24 : f2 ≠ f4 := dfn_ne (by decide +kernel) T.d_fixed_fault T.d_machine_fault m2 m4
  have n25 : f2 ≠ f5 := dfn_ne (by decide +kernel) T.d_fixed_fault T.d_good_fault m2 m5
  have n34 : f3 ≠ f4 := dfn_ne (by decide +kernel) T.d_wait_fault T.d_machine_fault m3 m4
  have n35 : f3 ≠ f5 := dfn_ne (by decide +kernel) T.d_wait_fault T.d_good_fault m3 m5
  have n45 : f4 ≠ f5 := dfn_ne (by decide +kernel) T.d_machine_fault T.d_good_fault m4 m5
  have hA : ∀ f sp, (fun f : Addr => if f = f1 then some (spLook K fromO) else if f = f2 then some (spLook K fixedO) else if f = f3 then some (spLook K waitO) else if f = f4 then some (spLook K machO) else if f = f5 then some (spLook K goodO) else none) f = some sp → L2.Held P w K mg base 3 f sp := fun f sp h => by
    dsimp only at h
    by_cases c1 : f = f1
    · rw [if_pos c1] at h
      cases h
      rw [c1]
      exact cal_held G1 m1 (by decide)
    rw [if_neg c1] at h
    by_cases c2 : f = f2
    · rw [if_pos c2] at h
      cases h
      rw [c2]
      exact cal_held G2 m2 (by decide)
    rw [if_neg c2] at h
    by_cases c3 : f = f3
    · rw [if_pos c3] at h
      cases h
      rw [c3]
      exact cal_held G3 m3 (by decide)
    rw [if_neg c3] at h
    by_cases c4 : f = f4
    · rw [if_pos c4] at h
      cases h
      rw [c4]
      exact cal_held G4 m4 (by decide)
    rw [if_neg c4] at h
    by_cases c5 : f = f5
    · rw [if_pos c5] at h
      cases h
      rw [c5]
      exact cal_held G5 m5 (by decide)
    rw [if_neg c5] at h
    cases h
  generalize hSd : (fun f : Addr => if f = f1 then some (spLook K fromO) else if f = f2 then some (spLook K fixedO) else if f = f3 then some (spLook K waitO) else if f = f4 then some (spLook K machO) else if f = f5 then some (spLook K goodO) else none) = S at hA
  have s1 : S f1 = some (spLook K fromO) := by rw [← hSd]; exact if_pos rfl
  have s2 : S f2 = some (spLook K fixedO) := by rw [← hSd]; dsimp only; rw [if_neg n12.symm, if_pos rfl]
  have s3 : S f3 = some (spLook K waitO) := by rw [← hSd]; dsimp only; rw [if_neg n13.symm, if_neg n23.symm, if_pos rfl]
  have s4 : S f4 = some (spLook K machO) := by rw [← hSd]; dsimp only; rw [if_neg n14.symm, if_neg n24.symm, if_neg n34.symm, if_pos rfl]
  have s5 : S f5 = some (spLook K goodO) := by rw [← hSd]; dsimp only; rw [if_neg n15.symm, if_neg n25.symm, if_neg n35.symm, if_neg n45.symm, if_pos rfl]
  have look : ∀ (i : Nat) (x : V), ([V.ref f1, V.ref f2, V.ref f3, V.ref f4, V.ref f5] : List V)[i]? = some x → ∃ f fo, x = .ref f ∧ S f = some (spLook K fo) ∧ ∀ b pn, [fromO b pn, fixedO b pn, waitO b pn, machO b pn, goodO b pn][i]? = some (fo b pn) := fun i x h => by
    match i with
    | 0 => exact ⟨f1, fromO, (Option.some.inj h).symm, s1, fun _ _ => rfl⟩
    | 1 => exact ⟨f2, fixedO, (Option.some.inj h).symm, s2, fun _ _ => rfl⟩
    | 2 => exact ⟨f3, waitO, (Option.some.inj h).symm, s3, fun _ _ => rfl⟩
    | 3 => exact ⟨f4, machO, (Option.some.inj h).symm, s4, fun _ _ => rfl⟩
    | 4 => exact ⟨f5, goodO, (Option.some.inj h).symm, s5, fun _ _ => rfl⟩
    | n + 5 => simp at h
  refine T.d_fault_of.cal sc_fault_of (fun vs H Q E h => ?_) (fun f cdv A outer s H vs Q E hr h => ?_)
  · obtain ⟨_, _, _, _, rfl, _⟩ := h
    rfl
  · obtain ⟨v, b, pp, pn, rfl, fb, bo, po, hpp, q⟩ := h
    have n30 := bo.n
    have lp := po.len
    refine ⟨_, (pss_cons (ps_expr (pe_cal G_need_plan hr (by rfl) (pa_cons (pv 0) (pa_cons (pv 1) pa_nil))))
    (pss_cons (ps_for PassesOwn.never rfl (piTK (K := K) (pe_glob (v := .ref af) rfl hmf rfl)) (pg_name (i := 2) sc_fault_of.nd rfl (.inl rfl)) (pss_cons (ps_set (i := 3) sc_fault_of.nd rfl (.inl rfl) (pe_callA (i := 2) hA hr rfl (by first | exact Or.inl rfl | exact Or.inr (Or.inl rfl) | exact Or.inr (Or.inr rfl)) (pa_cons (pv 0) (pa_cons (pv 1) pa_nil))))
    (pss_one (ps_if (pt_cmpR au_notN (pv 3) pe_non (nomark _)) (pss_one (ps_ret (pv 3))) pss_nil))))
    (pss_one (ps_ret pe_non)))), q_start (τ := [some _, some _, none, none]) rfl ?_⟩
    walk_at "go"
    refine ⟨v, b, pp, pn, rfl, fb, bo, po, hpp, fun H1 e1 => ?_⟩
    walk_at "go"
    refine ⟨af, rfl, ⟨_, haf _⟩, ?_⟩
    refine loop_tupF (xs := [V.ref f1, V.ref f2, V.ref f3, V.ref f4, V.ref f5]) (fun i σ H' => Ex H1 H' ∧ ([fromO b pn, fixedO b pn, waitO b pn, machO b pn, goodO b pn].take i).findSome? id = none ∧ ∃ t2 t3, σ = [some v, some (.ref pp), t2, t3]) ⟨Ex.refl _, rfl, _, _, rfl⟩ (fun _ _ _ _ _ => haf _) ?_ ?_
    · rintro i x σ H2 hx ⟨e2, no, t2, t3, rfl⟩
      obtain ⟨lf, fo, rfl, sf, hfo⟩ := look i x hx
      have E2 := e1.trans e2
      walk_at "go"
      refine ⟨lf, _, rfl, sf, ?_⟩
      walk_at "go"
      refine ⟨v, b, pp, pn, rfl, fb.up E2, bo, po, E2 _ _ hpp, fun y H3 e3 fl => ?_⟩
      cases ho : fo b pn with
      | none =>
        rw [ho] at fl
        have fl' : y = .non := fl
        subst fl'
        walk_at "go"
        exact ⟨e2.trans e3, fs_next no (hfo b pn) ho, _, _, rfl⟩
      | some z =>
        obtain ⟨zs, zl⟩ := z
        rw [ho] at fl
        obtain ⟨p, rfl, hp⟩ := fl
        walk_at "go"
        rw [decide_eq_false (show ¬ V.ref p = V.non from fun z => nomatch z)]
        walk_at "go"
        refine q (.ref p) H3 (E2.trans e3) ?_
        have : faultO b pn = some (zs, zl) := fs_some no (hfo b pn) ho
        rw [this]
        exact ⟨p, rfl, hp⟩
    · rintro σ H2 ⟨e2, no, t2, t3, rfl⟩
      walk_at "go"
      refine q .non H2 (e1.trans e2) ?_
      have : faultO b pn = none := no
      rw [this]
      rfl

end
end Bk24

namespace PySem
open Sem (wp)
open PyProof.Rows
section
variable {prog : Program} {w : World} {A : Around} {E : Value → Shared → Prop} {s : Shared}
/-- a tuple's items, told as a list of values -/
theorem collect_tupV {l : Addr} {vs : List Value} {Q : List Value → Shared → Prop} (ht : s.heap.IsTuple l vs.toArray)
    (q : Q vs { s with heap := (s.heap.push (seqObj "list" #[] 0)).update s.heap.objs.size (Obj.mapSeq (· ++ vs.toArray)) }) (sz : vs.length ≤ sizeLine) : wpAny (model prog w) A (collect (.ref l)) Q E s := by
  obtain ⟨o, ho, hc, n, hd⟩ := id ht
  unfold collect
  refine wpAny_bind (wpAny_runValue (codeAny_builtin entry_proto_collect' ?_))
  change wpAny _ _ (do again (Code.builtin "list.__iadd__" ⟨[← newList [], Value.ref l], []⟩)) _ _ s
  refine wpAny_bind (wpAny_newList (wpAny_pure ⟨Code.quiet_builtin _ (by decide +kernel), codeAny_builtin entry_list_iadd' ?_⟩))
  change wpAny _ _ (Builtin.List.listExtendWith (Value.ref s.heap.objs.size) (Value.ref l) (Value.ref s.heap.objs.size)) _ _ { s with heap := s.heap.push (seqObj "list" #[] 0) }
  unfold Builtin.List.listExtendWith
  have ho2 : (s.heap.push (seqObj "list" #[] 0)).get? l = some o := Heap.get?_push_of_some _ ho
  refine wpAny_bind (wpAny_typeOf (T := "tuple") ⟨o, ho2, hc⟩ ?_)
  have tt : (Value.type "tuple" == Value.type "tuple") = true := by rfl
  rw [if_pos (by rw [tt]; simp)]
  refine wpAny_bind (listItems_at ho2 hd ?_)
  refine wpAny_bind (listItems_at (xs := #[]) (n := 0) (Heap.get?_push_size _ rfl) rfl ?_)
  rw [if_neg (by simp)]
  have room : (#[] ++ vs.toArray).size ≤ sizeLine + 1 := by
    simp only [Array.size_append, List.size_toArray, List.length_nil]
    omega
  refine wpAny_bind (listUpdate_at (xs := #[]) (n := 0) (Heap.get?_push_size _ rfl) rfl ?_ (Nat.zero_le _) room)
  refine wpAny_pure ?_
  refine wpAny_bind (wpAny_load (get?_update_seq (Heap.get?_push_size _ rfl) _) ?_)
  have ev : ((#[] : Array Value) ++ vs.toArray).toList = vs := by simp
  change wpAny _ _ (pure ((#[] : Array Value) ++ vs.toArray).toList) Q E _
  rw [ev]
  exact wpAny_pure q
end
end PySem
namespace PySem
open Sem (wp)
open PyProof.Rows PySem.Calls SrtO
section
variable {prog : Program} {w : World} {A : Around} {E : Value → Shared → Prop} {s : Shared}
/-- sorted(t), t a tuple -/
theorem sorted_tupO {l : Addr} {vs : List Value} {ltv : Value → Value → Bool} {Q : Value → Shared → Prop} (O : Swo ltv) (ht : s.heap.IsTuple l vs.toArray) (hz : vs.length ≤ sizeLine)
    (hS : 2 ≤ vs.length → ∀ (h₁ : Heap) (a : Addr), h₁.get? a = some (seqObj "list" vs.toArray 0) → (∀ b o, s.heap.get? b = some o → b ≠ a ∧ h₁.get? b = some o) → SortableO prog w A.in1.in1 { s with heap := h₁ } a vs ltv)
    (q : ∀ out : List Value, Srtd ltv out → Stb ltv out vs → Q (.ref (s.heap.objs.size + 1)) { s with heap := sortedAll s.heap vs out.toArray }) : wpAny (model prog w) A (call (.builtin "sorted") [.ref l]) Q E s := by
  refine Calls.call_function_entry kind_sorted plain_sorted entry_sorted (args_sorted1 _) ?_
  unfold Builtin.«sorted»
  refine wpAny_bind (m := checkCount "sorted" 1 1 _) (wpAny_pure ?_)
  refine wpAny_bind (collect_tupV ht ?_ hz)
  refine wpAny_bind (wpAny_newList ?_ hz)
  generalize hG : (s.heap.push (seqObj "list" #[] 0)).update s.heap.objs.size (Obj.mapSeq (· ++ vs.toArray)) = G
  have sz : G.objs.size = s.heap.objs.size + 1 := by rw [← hG, Heap.size_update, size_push']
  have at1 : (G.push (seqObj "list" vs.toArray 0)).get? (s.heap.objs.size + 1) = some (seqObj "list" vs.toArray 0) := by
    rw [← sz]
    exact Heap.get?_push_size _ rfl
  have stay : ∀ b o, s.heap.get? b = some o → b ≠ s.heap.objs.size + 1 ∧ (G.push (seqObj "list" vs.toArray 0)).get? b = some o := fun b o e => by
    have lt : b < s.heap.objs.size := Heap.lt_size e
    refine ⟨Nat.ne_of_lt (Nat.lt_succ_of_lt lt), Heap.get?_push_of_some _ ?_⟩
    rw [← hG, Heap.get?_update_ne _ _ _ _ (Nat.ne_of_lt lt)]
    exact Heap.get?_push_of_some _ e
  change wpAny _ _ _ _ _ { s with heap := G.push (seqObj "list" vs.toArray 0) }
  rw [sz]
  refine wpAny_bind (wpAny_holding (wpAny_call_entry slot_list_sort ⟨_, at1, rfl⟩ entry_list_sort (list_sort_ord O at1 hz (fun h2 => hS h2 _ _ at1 stay) fun out hs hb => ⟨_, rfl, ?_⟩) (args_list_sort _)))
  have fin := q out hs hb
  unfold sortedAll at fin
  rw [hG] at fin
  exact wpAny_pure ⟨_, rfl, fin⟩
end
end PySem
namespace Bs
open PySem PySem.Spec PyProof.Rows L2
open Evl (Ex)
/-! ### sorted(t), t a tuple of tuples of whole numbers -/
def rSortedTs (K : PySem.W.Frag) : List V → Hp → VK → Prop := fun vs H Q => ∃ (a : Addr) (xs : List V), vs = [V.ref a] ∧ SqT K H a xs ∧ (∀ x ∈ xs, ∃ t ns, x = V.ref t ∧ H t = some (.tup (ns.map V.int)) ∧ ns ≠ []) ∧
  ∀ ys p, SrtO.Srtd (lexV H) ys → SrtO.Stb (lexV H) ys xs → H p = none → Q (.ref p) (upd H p (.lst ys))
theorem cr_sortedTs {X : Cx} {K : PySem.W.Frag} (hK : X.K = K := by rfl) : CallR X (.builtin "sorted") (rSortedTs K) := by
  subst hK
  intro pins s σ H vs us Q I r h
  obtain ⟨a, xs, rfl, hs, hx, q⟩ := h
  obtain ⟨its, rv, hT, hz⟩ := I.tuple hs
  obtain ⟨u, rfl, ru⟩ := vals1 r
  obtain rfl : u = Value.ref a := ru
  obtain ⟨e1, e2⟩ := refs_back rv fun x m => by
    obtain ⟨t, _, e, _⟩ := hx x m
    exact ⟨t, e⟩
  have each : ∀ v ∈ its, IsNs s.heap v (nsAt H (backV v)) := fun v hv => by
    obtain ⟨t, rfl⟩ := e2 v hv
    obtain ⟨t2, ns, e, ht, hn⟩ := hx (V.ref t) (by rw [e1]; exact List.mem_map.mpr ⟨_, hv, rfl⟩)
    cases e
    rw [show backV (Value.ref t) = V.ref t from rfl, nsAt_is ht]
    obtain ⟨_, its2, r2, o, ho, hc, n, hd⟩ := I.hok _ _ ht
    exact ⟨t, o, its2, n, rfl, ho, hc, hd, ints_vals r2, hn⟩
  refine PySem.sorted_tupO (NtL.swo_lexL fun u => nsAt H (backV u)) (show s.heap.IsTuple a its.toArray from hT) (by rw [← rv.length]; exact hz) (fun h2 h₁ a' ha kk => ?_) fun out h1 h2 => ?_
  · refine ns_sortable (s := { s with heap := h₁ }) (by omega) (fun v hm => (each v hm).keeps fun b o e _ => (kk b o e).2) fun o e => ?_
    obtain rfl : o = seqObj "list" its.toArray 0 := Option.some.inj (e.symm.trans ha)
    intro c
    exact absurd (Value.type.inj c) (by decide)
  · have h3 : ∀ u ∈ out, ∃ a, u = Value.ref a := fun u hu => e2 u (h2.perm.mem_iff.mp hu)
    have hb : SrtO.Stb (lexV H) (out.map backV) xs := by
      rw [e1]
      exact SrtO.Stb.map (NtL.swo_lexL (nsAt H)) backV h2
    obtain ⟨n, hn⟩ := PyProof.Rows.sortedAll_at s.heap its out.toArray
    refine ⟨.ref (s.heap.objs.size + 1), upd H (s.heap.objs.size + 1) (.lst (out.map backV)), I.laid (t' := s.toks) (fun b o e => PyProof.Rows.sortedAll_old e) (Nat.le_succ _) ⟨by rw [hb.len]; exact hz, out, n, vals_back h3, hn⟩, rfl, q _ _ (SrtO.srtd_map h1) hb (I.hok.fresh (Nat.le_succ _))⟩
theorem q_sortedTs {K : PySem.W.Frag} {H : Hp} {Q : VK} {a : Addr} {xs : List V} {rows : List (List Int)} (h : SqT K H a xs) (ts : Ts H xs rows) (ne : ∀ r ∈ rows, r ≠ [])
    (q : ∀ p ys srt, H p = none → Ts H ys srt → srt.Perm rows → (srt.Pairwise fun p q => HT.lexLt q p = false) → Q (.ref p) (upd H p (.lst ys))) : rSortedTs K [.ref a] H Q := by
  refine ⟨a, xs, rfl, h, fun x hx => ?_, fun ys p s1 s2 np => ?_⟩
  · obtain ⟨t, ns, e, m, ht⟩ := ts.mem hx
    exact ⟨t, ns, e, ht, ne ns m⟩
  · refine q p ys (ys.map (Bs.nsAt H)) np (Ts.of (by rw [List.length_map]) fun i v ns hv hn => ?_) ?_ (List.pairwise_map.mpr s1)
    · obtain ⟨t, ms, e, m, ht⟩ := ts.mem (s2.perm.mem_iff.mp (List.mem_of_getElem? hv))
      subst e
      rw [List.getElem?_map, hv] at hn
      have e2 := Option.some.inj hn
      rw [nsAt_is ht] at e2
      subst e2
      exact ⟨t, rfl, ht⟩
    · have pm := s2.perm.map (Bs.nsAt H)
      rw [ts.nsAt] at pm
      exact pm
/-! ### max of a tuple, slices of a tuple, whole ones too -/
def rMaxT (K : PySem.W.Frag) : List V → Hp → VK → Prop := fun vs H Q => ∃ (a : Addr) (ns : List Int), vs = [V.ref a] ∧ SqT K H a (ns.map V.int) ∧ 0 < ns.length ∧ ∀ m, m ∈ ns → (∀ y, y ∈ ns → y ≤ m) → Q (.int m) H
theorem au_maxT {X : Cx} {K : PySem.W.Frag} (hc : X.calm = true) (hu : X.A.units + 64 < cLine) (hK : X.K = K := by rfl) : CallR X (.builtin "max") (rMaxT K) := by
  subst hK
  intro pins s σ H xs us Q I r1 h
  obtain ⟨a, ns, rfl, hs, l, h1⟩ := h
  obtain ⟨u, rfl, ru⟩ := vals1 r1
  obtain rfl : u = Value.ref a := ru
  obtain ⟨its, rv, hl, _⟩ := I.tuple hs
  cases ns with
  | nil => exact absurd l (Nat.lt_irrefl 0)
  | cons n r =>
    obtain ⟨as, rd⟩ := Dp.readsAll I ((n :: r).map .int) _ _ dpa_ints rv
    have back : ∀ {h' : Heap} {tk : Nat}, (∀ b o, s.heap.get? b = some o → h'.get? b = some o) → L2.Inv X pins σ H { s with heap := h', toks := tk } := fun {h' tk} kept => I.call' (ch := []) rfl (Un.kept kept) (I.hok.kept kept) I.bare (fun _ z => nomatch z)
    have al : PySem.W.AlikeAll ((n :: r).map .int) := ⟨fun x hx y hy => by
      obtain ⟨i, _, rfl⟩ := List.mem_map.mp hx
      obtain ⟨j, _, rfl⟩ := List.mem_map.mp hy
      rfl, fun x hx => by
      obtain ⟨i, _, rfl⟩ := List.mem_map.mp hx
      intro z
      cases z⟩
    refine PySem.W.max_tuple_data (vs := its.toArray) (x := .int n) (xs := r.map .int) (I.ok.hd hc) (show s.heap.IsTuple a its.toArray from hl) (by simpa using rd) al (by
      rw [show (PyData.int n :: r.map PyData.int) = (n :: r).map PyData.int from rfl, dp_ints]
      omega) (fun i v h' tk bs hv hr kept => ?_)
    rw [PySem.W.maxD_ints] at hr
    obtain ⟨t, rfl⟩ : ∃ t, v = .int (r.foldl max n) t := by
      cases hr with
      | int => exact ⟨_, rfl⟩
    obtain ⟨g1, g2⟩ := max_in r n
    exact ⟨.int _, H, back kept, ⟨t, rfl⟩, h1 _ g1 g2⟩
theorem slAK {X : Cx} {K : PySem.W.Frag} (h : X.K = K := by rfl) : SlR X (rSlA K) := h ▸ sl_tupA
theorem q_slA {K : PySem.W.Frag} {H : Hp} {Q : VK} {a : Addr} {xs : List V} {lo hi : Option Int} (h : H a = some (.tup xs)) (q1 : cutV xs lo hi = xs → Q (.ref a) H) (q2 : ∀ p, H p = none → Q (.ref p) (upd H p (.tup (cutV xs lo hi)))) : rSlA K (.ref a) lo hi H Q :=
  ⟨a, xs, rfl, SqT.of h, fun z => q1 (by
    unfold cutV
    rw [z.1, z.2, List.drop_zero, Nat.sub_zero, List.take_of_length_le (Nat.le_refl _)]), fun _ => q2⟩
end Bs


namespace Bk24
open PySem PySem.Spec PyProof.Rows L2 Bs
open Evl (Ex)
section
variable {P : Program} {w : World} {K : PySem.W.Frag} {mg : Str → Option Value} {base : Heap}
/-! ### faults in their order; who runs at an hour -/
theorem fs_filter2 {α β : Type} {p : α → Bool} {f : α → Option β} : ∀ {l : List α}, (l.filter p).findSome? f = l.findSome? fun y => if p y = true then f y else none
  | [] => rfl
  | x :: r => by
    rw [List.filter_cons, List.findSome?_cons]
    by_cases c : p x = true
    · rw [if_pos c, if_pos c, List.findSome?_cons, fs_filter2]
    · rw [if_neg c, if_neg c, fs_filter2]
theorem fault_1 {b : Bk} {pn : List Int} {a : Str × List Int} (h1 : fromO b pn = some a) : faultO b pn = some a := fs_some (i := 0) (y := fromO b pn) rfl rfl h1
theorem fault_2 {b : Bk} {pn : List Int} {a : Str × List Int} (h1 : fromO b pn = none) (h2 : fixedO b pn = some a) : faultO b pn = some a := fs_some (i := 1) (y := fixedO b pn) (by simp [h1]) rfl h2
theorem fault_3 {b : Bk} {pn : List Int} {a : Str × List Int} (h1 : fromO b pn = none) (h2 : fixedO b pn = none) (h3 : waitO b pn = some a) : faultO b pn = some a := fs_some (i := 2) (y := waitO b pn) (by simp [h1, h2]) rfl h3
theorem fault_4 {b : Bk} {pn : List Int} {a : Str × List Int} (h1 : fromO b pn = none) (h2 : fixedO b pn = none) (h3 : waitO b pn = none) (h4 : machO b pn = some a) : faultO b pn = some a := fs_some (i := 3) (y := machO b pn) (by simp [h1, h2, h3]) rfl h4
theorem fault_5 {b : Bk} {pn : List Int} {a : Str × List Int} (h1 : fromO b pn = none) (h2 : fixedO b pn = none) (h3 : waitO b pn = none) (h4 : machO b pn = none) (h5 : goodO b pn = some a) : faultO b pn = some a := fs_some (i := 4) (y := goodO b pn) (by simp [h1, h2, h3, h4]) rfl h5
theorem fault_0 {b : Bk} {pn : List Int} (h1 : fromO b pn = none) (h2 : fixedO b pn = none) (h3 : waitO b pn = none) (h4 : machO b pn = none) (h5 : goodO b pn = none) : faultO b pn = none := by
  unfold faultO
  simp [h1, h2, h3, h4, h5]
theorem usedS_app {a c : List Use} {h : Int} : usedS (a ++ c) h = usedS a h + usedS c h := by
  unfold usedS
  rw [List.filter_append, List.map_append, List.sum_append]
def runB (b : Bk) (pn : List Int) (h : Int) (i : Nat) : Bool := decide (pA pn i ≤ h) && decide (h < endP b pn i)
theorem runs_sum {b : Bk} {pn : List Int} {g : Str} {h : Int} : ∀ {n : Nat}, (∀ i, i < n → 0 ≤ needAt b i g) → (((List.range n).filter (runB b pn h)).map fun i => needAt b i g).sum = usedS (usesN b pn g n) h
  | 0, _ => rfl
  | n + 1, hp => by
    have ih := runs_sum (b := b) (pn := pn) (g := g) (h := h) (n := n) fun i hi => hp i (by omega)
    have h0 := hp n (by omega)
    rw [usesN_succ, usedS_app, ← ih, List.range_succ, filt_snoc]
    by_cases c : runB b pn h n = true
    · rw [if_pos c, List.map_append, List.sum_append]
      congr 1
      by_cases c2 : 0 < needAt b n g
      · rw [if_pos c2]
        unfold usedS
        rw [List.filter_cons, if_pos (by exact c)]
        rfl
      · rw [if_neg c2]
        show (needAt b n g + 0 : Int) = 0
        omega
    · rw [if_neg c]
      by_cases c2 : 0 < needAt b n g
      · rw [if_pos c2]
        unfold usedS
        rw [List.filter_cons, if_neg (by exact c)]
        show _ = _ + (0 : Int)
        rw [Int.add_zero]
      · rw [if_neg c2]
        show _ = _ + (0 : Int)
        rw [Int.add_zero]

/-! ### the law's own: who runs, who meets, what lacks at an hour -/
def runL (b : Bk) (pn : List Int) (h : Int) : List Nat := (List.range b.tasks.length).filter (runB b pn h)
theorem frTo_mem {lo h : Int} {n : Nat} : h ∈ frTo lo n ↔ lo ≤ h ∧ h < lo + n := by
  unfold frTo
  rw [List.mem_map]
  constructor
  · rintro ⟨k, mk, e⟩
    have := List.mem_range.mp mk
    omega
  · rintro ⟨h1, h2⟩
    exact ⟨(h - lo).toNat, List.mem_range.mpr (by omega), by omega⟩
structure PlSm (b : Bk) (pn : List Int) : Prop where
  bo : BkOk b
  po : PlOk b pn
  sm : ∀ x ∈ pn, x ≤ 1000
  ln : ∀ t ∈ b.tasks, t.needs.length ≤ 10
def spRun (K : PySem.W.Frag) : Sp := fun vs H Q _ => ∃ (v : V) (b : Bk) (pp : Addr) (pn : List Int) (h : Int), vs = [v, .ref pp, .int h] ∧ FB K H v b ∧ PlSm b pn ∧ H pp = some (.tup (pn.map V.int)) ∧
  ∀ (R : Addr) (H' : Hp), Ex H H' → H R = none → H' R = some (.lst (((runL b pn h).map fun j : Nat => (j : Int)).map V.int)) → Q (.ref R) H'
theorem ok__law_running (T : Tx K mg) : Cal P w K mg base 1 "_law_running" ["book", "plan", "hour"] (spRun K) := by
  refine T.d__law_running.cal sc__law_running (fun vs H Q E h => ?_) (fun f cdv A outer s H vs Q E hr h => ?_)
  · obtain ⟨_, _, _, _, _, rfl, _⟩ := h
    rfl
  · obtain ⟨v, b, pp, pn, h, rfl, fb, ps, hpp, q⟩ := h
    obtain ⟨a, m, gg, ta, w_, f_, txs, gxs, wxs, fxs, rfl, h1, h2, h3, h4, _⟩ := fb.ex
    have n30 := ps.bo.n
    have lp := ps.po.len
    have lpm : (pn.map V.int).length = pn.length := List.length_map _
    refine ⟨_, (pss_one (ps_ret (pe_lc (own := [("task", 3)]) rfl sc__law_running.nd (pi_range1 (by rfl) T.b_range (pa_cons (pe_callB (lenK (K := K)) (by rfl) T.b_len (by decide +kernel) (pa_cons (pv 1) pa_nil)) pa_nil)) (blkOk_by (own := [("task", 3)]) (N := N__law_running) (sc := defScope s__law_running) (by decide +kernel)) (fun _ _ _ _ _ => (pg_name (i := 3) sc__law_running.nd rfl (.inl rfl))) (fun _ _ _ _ _ => pts_one (pt_cmpR (inSK (K := K)) (pv 2) (pe_callTy (au_listRng2 rfl) (by rfl) T.b_list (by decide +kernel) (pa_cons (pe_callTy au_range2 (by rfl) T.b_range (by decide +kernel) (pa_cons (pe_ix (ixT (K := K)) (pv 1) (pv 3) (fun _ _ => rfl)) (pa_cons (pe_op op_add (pe_ix (ixT (K := K)) (pv 1) (pv 3) (fun _ _ => rfl)) (pe_ix (ixT (K := K)) (pe_ix (ixT (K := K)) (pe_ix (ixT (K := K)) (pv 0) pe_int (fun _ _ => rfl)) (pv 3) (fun _ _ => rfl)) pe_int (fun _ _ => rfl))) pa_nil))) pa_nil)) (by rfl))) (fun _ _ _ _ _ => (pv 3))))), q_start (τ := [some _, some _, some _, none]) rfl ?_⟩
    walk_at "go"
    intro R nR
    refine lcp_range (fun i H' => Ex H H' ∧ H' R = some (.lst ((((List.range i).filter (runB b pn h)).map fun j : Nat => (j : Int)).map V.int))) ⟨Ex.new nR, upd_same⟩ ?_ ?_
    · rintro j H1 hj ⟨e1, hR1⟩
      have hj' : j < b.tasks.length := by omega
      obtain ⟨hpj, p0, p1⟩ := ps.po.at_ hj'
      obtain ⟨_, l0, l1, _⟩ := ps.bo.tk hj'
      have sm := ps.sm _ (List.mem_of_getElem? hpj)
      obtain ⟨tp, nv, x1, x2, _⟩ := h4 j hj'
      have x2' : H1 tp = some (.tup [.str (tkA b j).name, .int (tkA b j).len, .str (tkA b j).mach, nv, .int (tkA b j).frm, dueV (tkA b j).due, .int (tkA b j).wt]) := e1 _ _ x2
      have hpp1 := e1 _ _ hpp
      have h11 := e1 _ _ h1
      have h21 := e1 _ _ h2
      have pat : atI (pn.map V.int) (j : Int) = some (.int (pA pn j)) := atI_nat (by rw [List.getElem?_map, hpj]; rfl)
      have lf : ((List.range j).filter (runB b pn h)).length ≤ 1000 := by
        refine Nat.le_trans (List.length_filter_le _ _) ?_
        rw [List.length_range]
        omega
      walk_at "go"
      refine q_ixT hpp1 pat ?_
      walk_at "go"
      refine q_ixT hpp1 pat ?_
      walk_at "go"
      refine q_ixT h21 (atI_nat x1) ?_
      walk_at "go"
      refine q_range2 fun rp nrp => ?_
      have z1 := Ex.new (o := .rng (pA pn j) (pA pn j + (tkA b j).len)) nrp
      have hrp : L2.upd H1 rp (.rng (pA pn j) (pA pn j + (tkA b j).len)) rp = some (.rng (pA pn j) (pA pn j + (tkA b j).len)) := upd_same
      generalize L2.upd H1 rp (.rng (pA pn j) (pA pn j + (tkA b j).len)) = H2 at z1 hrp ⊢
      walk_at "go"
      refine q_listRng2 hrp p0 (by omega) (by omega) fun lp2 nlp2 => ?_
      have z2 := Ex.new (o := .lst ((frTo (pA pn j) (pA pn j + (tkA b j).len - pA pn j).toNat).map V.int)) nlp2
      have hlp2 : L2.upd H2 lp2 (.lst ((frTo (pA pn j) (pA pn j + (tkA b j).len - pA pn j).toNat).map V.int)) lp2 = some (.lst ((frTo (pA pn j) (pA pn j + (tkA b j).len - pA pn j).toNat).map V.int)) := upd_same
      have e3 := (e1.trans z1).trans z2
      have hR3 := z2 _ _ (z1 _ _ hR1)
      generalize L2.upd H2 lp2 (.lst ((frTo (pA pn j) (pA pn j + (tkA b j).len - pA pn j).toNat).map V.int)) = H3 at z2 hlp2 e3 hR3 ⊢
      walk_at "go"
      have er : decide (h ∈ frTo (pA pn j) (pA pn j + (tkA b j).len - pA pn j).toNat) = runB b pn h j := by
        refine bool_iff ?_
        rw [decide_eq_true_eq, frTo_mem]
        unfold runB endP
        rw [Bool.and_eq_true, decide_eq_true_eq, decide_eq_true_eq]
        omega
      rw [er]
      by_cases c : runB b pn h j = true
      · rw [c]
        walk_at "go"
        refine ⟨e3.mut nR, ?_⟩
        rw [upd_same, List.range_succ, filt_snoc, if_pos c]
        simp only [List.map_append]
        rfl
      · rw [Bool.eq_false_iff.mpr c]
        walk_at "go"
        refine ⟨e3, ?_⟩
        rw [List.range_succ, filt_snoc, if_neg c]
        exact hR3
    · rintro H1 ⟨e1, hR1⟩
      have en : ((pn.map V.int).length : Int).toNat = b.tasks.length := by omega
      rw [en] at hR1
      walk_at "go"
      exact q R H1 e1 nR hR1
def crowL (b : Bk) (ss : List Nat) (x : Nat) : List (List Int) := (ss.filter fun y => decide (x < y) && decide ((tkA b x).mach = (tkA b y).mach)).map fun y : Nat => [(x : Int), (y : Int)]
def someL (b : Bk) (pn : List Int) (h : Int) : List Nat := (runL b pn h).filter fun j => !decide ((tkA b j).mach = "")
def crowdL (b : Bk) (pn : List Int) (h : Int) : List (List Int) := (someL b pn h).flatMap (crowL b (someL b pn h))
def spCrowd (K : PySem.W.Frag) : Sp := fun vs H Q _ => ∃ (v : V) (b : Bk) (pp : Addr) (pn : List Int) (h : Int), vs = [v, .ref pp, .int h] ∧ FB K H v b ∧ PlSm b pn ∧ H pp = some (.tup (pn.map V.int)) ∧
  ∀ (R : Addr) (xs : List V) (H' : Hp), Ex H H' → H R = none → H' R = some (.lst xs) → Ts H' xs (crowdL b pn h) → (crowdL b pn h).length ≤ 900 → Q (.ref R) H'
theorem ok__law_crowded (T : Tx K mg) : Cal P w K mg base 2 "_law_crowded" ["book", "plan", "hour"] (spCrowd K) := by
  have G__law_running : Cal P w K mg base 1 "_law_running" ["book", "plan", "hour"] (spRun K) := ok__law_running T
  refine T.d__law_crowded.cal sc__law_crowded (fun vs H Q E h => ?_) (fun f cdv A outer s H vs Q E hr h => ?_)
  · obtain ⟨_, _, _, _, _, rfl, _⟩ := h
    rfl
  · obtain ⟨v, b, pp, pn, h, rfl, fb, ps, hpp, q⟩ := h
    obtain ⟨a, m, gg, ta, w_, f_, txs, gxs, wxs, fxs, rfl, h1, h2, h3, h4, _⟩ := fb.ex
    have n30 := ps.bo.n
    refine ⟨_, (pss_cons (ps_setLc (i := 3) (own := [("task", 6)]) rfl sc__law_crowded.nd rfl rfl (sw_true rfl rfl rfl (by decide +kernel)) (piLK (K := K) (pe_cal G__law_running hr (by rfl) (pa_cons (pv 0) (pa_cons (pv 1) (pa_cons (pv 2) pa_nil))))) (blkOk_by (own := [("task", 6)]) (N := N__law_crowded) (sc := defScope s__law_crowded) (by decide +kernel)) (fun _ _ _ _ _ => (pg_name (i := 6) sc__law_crowded.nd rfl (.inl rfl))) (fun _ _ _ _ _ => pts_one (pt_cmpR op_ne (pe_ix (ixT (K := K)) (pe_ix (ixT (K := K)) (pe_ix (ixT (K := K)) (pv 0) pe_int (fun _ _ => rfl)) (pv 6) (fun _ _ => rfl)) pe_int (fun _ _ => rfl)) pe_str (nomark _))) (fun _ _ _ _ _ => (pv 6)))
    (pss_cons (ps_set (i := 4) sc__law_crowded.nd rfl (.inl rfl) (pe_lst pa_nil))
    (pss_cons (ps_for PassesOwn.never rfl (piLK (K := K) (pv 3)) (pg_name (i := 5) sc__law_crowded.nd rfl (.inr rfl)) (pss_one (ps_expr (pe_bm PySem.F.plainAttrs_list PySem.F.slot_list_extend PySem.F.type_list_extend mt_extend (pv 4) (pa_cons (pe_lc (own := [("other", 7)]) rfl sc__law_crowded.nd (piLK (K := K) (pv 3)) (blkOk_by (own := [("other", 7)]) (N := N__law_crowded) (sc := defScope s__law_crowded) (by decide +kernel)) (fun _ _ _ _ _ => (pg_name (i := 7) sc__law_crowded.nd rfl (.inl rfl))) (fun _ _ _ _ _ => pts_one (PW.pt (pw_and (pt_cmpR op_lt (pv 5) (pv 7) (nomark _)) (pw_and1 (pt_cmpR op_eq (pe_ix (ixT (K := K)) (pe_ix (ixT (K := K)) (pe_ix (ixT (K := K)) (pv 0) pe_int (fun _ _ => rfl)) (pv 5) (fun _ _ => rfl)) pe_int (fun _ _ => rfl)) (pe_ix (ixT (K := K)) (pe_ix (ixT (K := K)) (pe_ix (ixT (K := K)) (pv 0) pe_int (fun _ _ => rfl)) (pv 7) (fun _ _ => rfl)) pe_int (fun _ _ => rfl)) (nomark _)))))) (fun _ _ _ _ _ => (pe_tup (pa_cons (pv 5) (pa_cons (pv 7) pa_nil))))) pa_nil)))))
    (pss_one (ps_ret (pv 4)))))), q_start (τ := [some _, some _, some _, none, none, none, none, none]) rfl ?_⟩
    walk_at "go"
    refine ⟨_, b, pp, pn, h, rfl, fb, ps, hpp, fun R H1 e1 nR hR1 => ?_⟩
    have rb : ∀ j ∈ runL b pn h, j < b.tasks.length := fun j mj => List.mem_range.mp (List.mem_filter.mp mj).1
    have lr : (runL b pn h).length ≤ 30 := by
      refine Nat.le_trans (List.length_filter_le _ _) ?_
      rw [List.length_range]
      exact n30
    have esm : someL b pn h = (runL b pn h).filter fun j => !decide ((tkA b j).mach = "") := rfl
    have ecl : crowdL b pn h = (someL b pn h).flatMap (crowL b (someL b pn h)) := rfl
    generalize someL b pn h = ss at esm ecl
    generalize crowdL b pn h = cl at ecl q
    generalize runL b pn h = rs at hR1 rb lr esm
    walk_at "go"
    intro S nS
    refine lcp_list (xs := (rs.map fun j : Nat => (j : Int)).map V.int) (fun i H' => Ex H1 H' ∧ H' S = some (.lst ((((rs.take i).filter fun j => !decide ((tkA b j).mach = "")).map fun j : Nat => (j : Int)).map V.int))) ⟨Ex.new nS, upd_same⟩ (fun i H' _ h => h.1 _ _ hR1) ?_ ?_
    · rintro i x H2 hx ⟨e2, hS2⟩
      obtain ⟨z, hz, rfl⟩ := map_get hx
      rw [List.getElem?_map] at hz
      obtain ⟨j, hj, rfl⟩ := Option.map_eq_some_iff.mp hz
      have hjn := rb j (List.mem_of_getElem? hj)
      have hi := (List.getElem?_eq_some_iff.mp hj).1
      obtain ⟨tp, nv, x1, x2, _⟩ := h4 j hjn
      have E2 := e1.trans e2
      have x2' : H2 tp = some (.tup [.str (tkA b j).name, .int (tkA b j).len, .str (tkA b j).mach, nv, .int (tkA b j).frm, dueV (tkA b j).due, .int (tkA b j).wt]) := E2 _ _ x2
      have h12 := E2 _ _ h1
      have h22 := E2 _ _ h2
      have lf : ((rs.take i).filter fun j => !decide ((tkA b j).mach = "")).length ≤ 1000 := by
        refine Nat.le_trans (List.length_filter_le _ _) ?_
        rw [List.length_take]
        omega
      walk_at "go"
      refine q_ixT h22 (atI_nat x1) ?_
      walk_at "go"
      by_cases c0 : (tkA b j).mach = Str.ofString ""
      · rw [decide_eq_true c0]
        walk_at "go"
        refine ⟨e2, ?_⟩
        rw [take_snoc hj, filt_snoc, if_neg (by rw [decide_eq_true c0]; exact Bool.false_ne_true)]
        exact hS2
      · rw [decide_eq_false c0]
        walk_at "go"
        refine ⟨e2.mut nS, ?_⟩
        rw [upd_same, take_snoc hj, filt_snoc, if_pos (by rw [decide_eq_false c0]; rfl)]
        simp only [List.map_append]
        rfl
    rintro H2 ⟨e2, hS2⟩
    rw [List.length_map, List.length_map, List.take_length, ← esm] at hS2
    have sb : ∀ j ∈ ss, j < b.tasks.length := fun j mj => by
      rw [esm] at mj
      exact rb j (List.mem_filter.mp mj).1
    have ls : ss.length ≤ 30 := by
      rw [esm]
      exact Nat.le_trans (List.length_filter_le _ _) lr
    have E2 := e1.trans e2
    walk_at "go"
    rename_i F nF
    have nFS : F ≠ S := (ne_of_none hS2 nF).symm
    have e3 := Ex.new (o := .lst []) nF
    have hF3 : L2.upd H2 F (.lst []) F = some (.lst []) := upd_same
    have hS3 := e3 _ _ hS2
    have nF0 := Evl.fresh_back E2 nF
    have E3 := E2.trans e3
    generalize L2.upd H2 F (.lst []) = H3 at e3 hF3 hS3 E3 ⊢
    have cl_len : ∀ x, (crowL b ss x).length ≤ 30 := fun x => by
      unfold crowL
      rw [List.length_map]
      exact Nat.le_trans (List.length_filter_le _ _) ls
    have fm_len : ∀ l : List Nat, (l.flatMap (crowL b ss)).length ≤ 30 * l.length := fun l => by
      induction l with
      | nil => exact Nat.le_refl _
      | cons x r ih =>
        rw [List.flatMap_cons, List.length_append, List.length_cons]
        have := cl_len x
        omega
    refine loop_list (xs := (ss.map fun j : Nat => (j : Int)).map V.int) (fun i σ H' => Ex H H' ∧ H' S = some (.lst ((ss.map fun j : Nat => (j : Int)).map V.int)) ∧ (∃ xs, H' F = some (.lst xs) ∧ Ts H' xs ((ss.take i).flatMap (crowL b ss))) ∧ ∃ t5 t6 t7, σ = [some (.ref a), some (.ref pp), some (.int h), some (.ref S), some (.ref F), t5, t6, t7]) ⟨E3, hS3, ⟨[], hF3, .nil⟩, _, _, _, rfl⟩ (fun i σ H' _ h => h.2.1) ?_ ?_
    · rintro i x σ H4 hx ⟨E4, hS4, ⟨xs, hF4, tx⟩, t5, t6, t7, rfl⟩
      obtain ⟨z, hz, rfl⟩ := map_get hx
      rw [List.getElem?_map] at hz
      obtain ⟨j, hj, rfl⟩ := Option.map_eq_some_iff.mp hz
      have hjn := sb j (List.mem_of_getElem? hj)
      have hi := (List.getElem?_eq_some_iff.mp hj).1
      obtain ⟨tp, nv, x1, x2, _⟩ := h4 j hjn
      walk_at "go"
      intro C nC
      refine lcp_list (xs := (ss.map fun j : Nat => (j : Int)).map V.int) (fun k H' => Ex H4 H' ∧ ∃ ys, H' C = some (.lst ys) ∧ Ts H' ys (((ss.take k).filter fun y => decide (j < y) && decide ((tkA b j).mach = (tkA b y).mach)).map fun y : Nat => [(j : Int), (y : Int)])) ⟨Ex.new nC, [], upd_same, .nil⟩ (fun k H' _ h => h.1 _ _ hS4) ?_ ?_
      · rintro k y H5 hy ⟨e5, ys, hC5, ty⟩
        obtain ⟨z, hz, rfl⟩ := map_get hy
        rw [List.getElem?_map] at hz
        obtain ⟨j2, hj2, rfl⟩ := Option.map_eq_some_iff.mp hz
        have hj2n := sb j2 (List.mem_of_getElem? hj2)
        have hk := (List.getElem?_eq_some_iff.mp hj2).1
        obtain ⟨tp2, nv2, y1, y2, _⟩ := h4 j2 hj2n
        have E5 := E4.trans e5
        have x2' : H5 tp = some (.tup [.str (tkA b j).name, .int (tkA b j).len, .str (tkA b j).mach, nv, .int (tkA b j).frm, dueV (tkA b j).due, .int (tkA b j).wt]) := E5 _ _ x2
        have y2' : H5 tp2 = some (.tup [.str (tkA b j2).name, .int (tkA b j2).len, .str (tkA b j2).mach, nv2, .int (tkA b j2).frm, dueV (tkA b j2).due, .int (tkA b j2).wt]) := E5 _ _ y2
        have h15 := E5 _ _ h1
        have h25 := E5 _ _ h2
        have lys := ty.len
        have lf : ys.length ≤ 1000 := by
          rw [lys, List.length_map]
          refine Nat.le_trans (List.length_filter_le _ _) ?_
          rw [List.length_take]
          omega
        have off : (decide (j < j2) && decide ((tkA b j).mach = (tkA b j2).mach)) = false → Ex H4 H5 ∧ ∃ ys, H5 C = some (.lst ys) ∧ Ts H5 ys (((ss.take (k + 1)).filter fun y => decide (j < y) && decide ((tkA b j).mach = (tkA b y).mach)).map fun y : Nat => [(j : Int), (y : Int)]) := fun c => ⟨e5, ys, hC5, by
          rw [take_snoc hj2, filt_snoc, if_neg (by rw [c]; exact Bool.false_ne_true)]
          exact ty⟩
        walk_at "go"
        refine q_ifD (fun c1 => ?_) (fun c1 => ?_)
        · walk_at "go"
          refine q_ixT h25 (atI_nat x1) ?_
          walk_at "go"
          refine q_ixT h25 (atI_nat y1) ?_
          walk_at "go"
          by_cases c2 : (tkA b j).mach = (tkA b j2).mach
          · rw [decide_eq_true c2]
            walk_at "go"
            rename_i tq ntq
            have zx := Ex.new (o := .tup [V.int (j : Int), .int (j2 : Int)]) ntq
            have hC6 := zx _ _ hC5
            refine ⟨(e5.trans zx).mut nC, ys ++ [.ref tq], upd_same, ?_⟩
            rw [take_snoc hj2, filt_snoc, if_pos (by rw [decide_eq_true (show j < j2 by omega), decide_eq_true c2]; rfl), List.map_append]
            refine Ts.tp (Tp.upd hC6) ?_
            exact (ty.ex zx).append (.cons (ns := [(j : Int), (j2 : Int)]) upd_same .nil)
          · rw [decide_eq_false c2]
            walk_at "go"
            exact off (by rw [decide_eq_false c2, Bool.and_false])
        · exact off (by rw [decide_eq_false (show ¬ j < j2 by omega), Bool.false_and])
      · rintro H5 ⟨e5, ys, hC5, ty⟩
        rw [List.length_map, List.length_map, List.take_length] at ty
        have hF5 := e5 _ _ hF4
        have lx := tx.len
        have ly := ty.len
        have l1 := fm_len (ss.take i)
        have l2 := cl_len j
        rw [List.length_take] at l1
        have l3 : ys.length ≤ 30 := by rw [ly]; exact l2
        walk_at "go"
        refine q_extend hF5 hC5 (by omega) ?_
        walk_at "go"
        have nSF : S ≠ F := nFS.symm
        refine ⟨(E4.trans e5).mut nF0, by rw [upd_ne nSF]; exact e5 _ _ hS4, ⟨xs ++ ys, upd_same, ?_⟩, _, _, _, rfl⟩
        rw [take_snoc hj, List.flatMap_append, List.flatMap_cons, List.flatMap_nil, List.append_nil]
        exact Ts.tp (Tp.upd hF5) ((tx.ex e5).append ty)
    · rintro σ H4 ⟨E4, hS4, ⟨xs, hF4, tx⟩, t5, t6, t7, rfl⟩
      rw [List.length_map, List.length_map, List.take_length, ← ecl] at tx
      walk_at "go"
      refine q F xs H4 E4 nF0 hF4 tx ?_
      have := fm_len ss
      rw [ecl]
      omega

end
end Bk24


namespace Bk24
open PySem PySem.Spec PyProof.Rows L2 Bs
open Evl (Ex)
section
variable {P : Program} {w : World} {K : PySem.W.Frag} {mg : Str → Option Value} {base : Heap}
/-! ### the goods that lack at an hour -/
def lackB (b : Bk) (pn : List Int) (h : Int) (k : Nat) : Bool := decide ((gdA b k).2 < usedS (usesN b pn (gdA b k).1 b.tasks.length) h)
def lackL (b : Bk) (pn : List Int) (h : Int) : List Nat := (List.range b.goods.length).filter (lackB b pn h)
def UsedIs (kvs : List (Key × V)) (fn : Str → Int) : Prop := ∀ g, (valV kvs (.inr g)).getD (.int 0) = .int (fn g)
theorem mergG_snoc {g : Str} {n : Str × Int} : ∀ {ns : List (Str × Int)}, mergG g (ns ++ [n]) = mergG g ns + (if n.1 = g then n.2 else 0)
  | [] => by
    show (if n.1 = g then n.2 else 0) + 0 = 0 + _
    omega
  | x :: r => by
    show (if x.1 = g then x.2 else 0) + mergG g (r ++ [n]) = (if x.1 = g then x.2 else 0) + mergG g r + _
    rw [mergG_snoc]
    omega
theorem used_put {kvs : List (Key × V)} {fn fn' : Str → Int} {n : Str × Int} (h : UsedIs kvs fn) (e : ∀ g, fn' g = fn g + (if n.1 = g then n.2 else 0)) : UsedIs (putK kvs (.inr n.1) (.int (fn n.1 + n.2))) fn' := fun g => by
  rw [valV_put]
  by_cases c : n.1 = g
  · rw [if_pos (congrArg Sum.inr c.symm), e, if_pos c, c]
    rfl
  · rw [if_neg (fun z => c (Sum.inr.inj z).symm), e, if_neg c, Int.add_zero]
    exact h g
theorem put_len {kvs : List (Key × V)} {k : Key} {v : V} : (putK kvs k v).length ≤ kvs.length + 1 := by
  unfold putK
  split
  · rw [List.length_map]
    omega
  · rw [List.length_append]
    exact Nat.le_refl _
def sumN (b : Bk) (js : List Nat) (g : Str) : Int := (js.map fun j => needAt b j g).sum
theorem sumN_snoc {b : Bk} {js : List Nat} {j : Nat} {g : Str} : sumN b (js ++ [j]) g = sumN b js g + needAt b j g := by
  unfold sumN
  rw [List.map_append, List.sum_append]
  show _ + (needAt b j g + 0) = _
  rw [Int.add_zero]
theorem lcp_enumTS {g : TG} {tt : TT} {te : TE} {vs : List Nat} {τ : L2.St} {H : Hp} {D : Addr} {Qd : Hp → Prop} {a : Addr} {xs : List V} (Pv : Nat → Hp → Prop) (h0 : Pv 0 H) (hl : ∀ i H, i ≤ xs.length → Pv i H → SqT K H a xs) (hs : ∀ i x H T, xs[i]? = some x → Pv i H → H T = none → TurnC g tt te τ vs D (.ref T) (Pv (i + 1)) (upd H T (.tup [.int (i : Nat), x]))) (hd : ∀ H, Pv xs.length H → Qd H) : LoopC (IteT K a) g tt te τ vs D Qd H := by
  refine ⟨fun i m H => m = xs.length - i ∧ i ≤ xs.length ∧ Pv i H, ⟨xs.length, by simp, Nat.zero_le _, h0⟩, ?_⟩
  rintro i m H ⟨rfl, hi, p⟩
  have q := hl i H hi p
  by_cases hlt : i < xs.length
  · refine .inr ⟨⟨xs, xs[i], q, by simp [hlt]⟩, Pv (i + 1), fun H' p' => ⟨xs.length - (i + 1), by omega, rfl, hlt, p'⟩, fun x H' y => ?_⟩
    obtain ⟨T, y1, e1, e2, e3, e4⟩ := y
    subst e1 e3
    exact hs i y1 H T (e4 xs q) p e2
  · have e : i = xs.length := by omega
    subst e
    exact .inl ⟨⟨xs, q, rfl⟩, hd H p⟩
def spLack (K : PySem.W.Frag) : Sp := fun vs H Q _ => ∃ (v : V) (b : Bk) (pp : Addr) (pn : List Int) (h : Int), vs = [v, .ref pp, .int h] ∧ TD H v (bookM b) ∧ PlSm b pn ∧ H pp = some (.tup (pn.map V.int)) ∧
  ∀ (R : Addr) (H' : Hp), Ex H H' → H R = none → H' R = some (.lst (((lackL b pn h).map fun j : Nat => (j : Int)).map V.int)) → Q (.ref R) H'
theorem ok__law_lacking (T : Tx K mg) : Cal P w K mg base 2 "_law_lacking" ["book", "plan", "hour"] (spLack K) := by
  have G__law_running : Cal P w K mg base 1 "_law_running" ["book", "plan", "hour"] (spRun K) := ok__law_running T
  refine T.d__law_lacking.cal sc__law_lacking (fun vs H Q E h => ?_) (fun f cdv A outer s H vs Q E hr h => ?_)
  · obtain ⟨_, _, _, _, _, rfl, _⟩ := h
    rfl
  · obtain ⟨v, b, pp, pn, h, rfl, td, ps, hpp, q⟩ := h
    have fb : FB K H v b := FB.of td
    obtain ⟨a, m, gg, ta, w_, f_, rfl, h1, _, ⟨gxs, ⟨go, god, hgx⟩, h6⟩, ⟨txs, h2, rt⟩, _, _⟩ := bookM_parts td
    have n30 := ps.bo.n
    have g10 := ps.bo.goods
    have lg := h6.len
    have tkx : ∀ i : Nat, i < b.tasks.length → ∃ p q o xs, txs[i]? = some (.ref p) ∧ H p = some (.tup [.str (tkA b i).name, .int (tkA b i).len, .str (tkA b i).mach, .ref q, .int (tkA b i).frm, dueV (tkA b i).due, .int (tkA b i).wt]) ∧ o.dict = none ∧ H q = some (.frz o (.tup xs)) ∧ RowsAt goodD H xs (tkA b i).needs := fun i hi => by
      obtain ⟨tv, htv⟩ : ∃ tv, txs[i]? = some tv := ⟨_, List.getElem?_eq_getElem (by have := rt.len; omega)⟩
      obtain ⟨k, hk, kd⟩ := rt.get htv
      obtain ⟨p, qa, o, xs, rfl, hp, od, hq, rn⟩ := taskF_parts kd
      rw [tkA_of hk]
      exact ⟨p, qa, o, xs, htv, hp, od, hq, rn⟩
    refine ⟨_, (pss_cons (ps_set (i := 3) sc__law_lacking.nd rfl (.inr rfl) pe_dnewK)
    (pss_cons (ps_for PassesOwn.never rfl (piLK (K := K) (pe_cal G__law_running hr (by rfl) (pa_cons (pv 0) (pa_cons (pv 1) (pa_cons (pv 2) pa_nil))))) (pg_name (i := 4) sc__law_lacking.nd rfl (.inl rfl)) (pss_one (ps_for PassesOwn.never rfl (piTK (K := K) (pe_ix (ixT (K := K)) (pe_ix (ixT (K := K)) (pe_ix (ixT (K := K)) (pv 0) pe_int (fun _ _ => rfl)) (pv 4) (fun _ _ => rfl)) pe_int (fun _ _ => rfl))) (pgTK (K := K) (n := 2) (by rfl) (pgs_cons (pg_name (i := 5) sc__law_lacking.nd rfl (.inl rfl)) (pgs_cons (pg_name (i := 6) sc__law_lacking.nd rfl (.inl rfl)) pgs_nil))) (pss_one (ps_dput (u1 hr.units) (pv 3) (pv 5) (pe_op op_add (pe_dget2 (u1 hr.units) (pv 3) (pv 5) pe_int ⟨rfl, rfl, rfl, rfl⟩) (pv 6)) (by rfl))))))
    (pss_one (ps_ret (pe_lc (own := [("good", 5), ("k", 7)]) rfl sc__law_lacking.nd (piETK (K := K) (by rfl) T.b_enumerate (pa_cons (pe_ix (ixT (K := K)) (pv 0) pe_int (fun _ _ => rfl)) pa_nil)) (blkOk_by (own := [("good", 5), ("k", 7)]) (N := N__law_lacking) (sc := defScope s__law_lacking) (by decide +kernel)) (fun _ _ _ _ _ => (pgTK (K := K) (n := 2) (by rfl) (pgs_cons (pg_name (i := 7) sc__law_lacking.nd rfl (.inl rfl)) (pgs_cons (pg_name (i := 5) sc__law_lacking.nd rfl (.inl rfl)) pgs_nil)))) (fun _ _ _ _ _ => pts_one (pt_cmpR op_gt (pe_dget2 (u1 hr.units) (pv 3) (pe_ix (ixT (K := K)) (pv 5) pe_int (fun _ _ => rfl)) pe_int ⟨rfl, rfl, rfl, rfl⟩) (pe_ix (ixT (K := K)) (pv 5) pe_int (fun _ _ => rfl)) (nomark _))) (fun _ _ _ _ _ => (pv 7))))))), q_start (τ := [some _, some _, some _, none, none, none, none, none]) rfl ?_⟩
    walk_at "go"
    rename_i D nD
    have e1 := Ex.new (o := .dK []) nD
    have hD1 : L2.upd H D (.dK []) D = some (.dK []) := upd_same
    generalize L2.upd H D (.dK []) = H1 at e1 hD1 ⊢
    refine ⟨_, b, pp, pn, h, rfl, fb.up e1, ps, e1 _ _ hpp, fun R H2 e2 nR hR2 => ?_⟩
    have nRD : R ≠ D := (ne_of_none hD1 nR).symm
    have hD2 := e2 _ _ hD1
    have E2 := e1.trans e2
    have rb : ∀ j ∈ runL b pn h, j < b.tasks.length := fun j mj => List.mem_range.mp (List.mem_filter.mp mj).1
    have lr : (runL b pn h).length ≤ 30 := by
      refine Nat.le_trans (List.length_filter_le _ _) ?_
      rw [List.length_range]
      exact n30
    have esum : ∀ g, sumN b (runL b pn h) g = usedS (usesN b pn g b.tasks.length) h := fun g => runs_sum fun i hi => by
      obtain ⟨_, _, _, _, _, nnd, nbd⟩ := ps.bo.tk hi
      exact (mergG_bd nnd nbd).1
    have ell : lackL b pn h = (List.range b.goods.length).filter (lackB b pn h) := rfl
    generalize runL b pn h = rs at hR2 rb lr esum
    generalize lackL b pn h = ll at ell q
    walk_at "go"
    refine loop_list (xs := (rs.map fun j : Nat => (j : Int)).map V.int) (fun i σ H' => Ex H H' ∧ H' R = some (.lst ((rs.map fun j : Nat => (j : Int)).map V.int)) ∧ (∃ kvs, H' D = some (.dK kvs) ∧ UsedIs kvs (sumN b (rs.take i)) ∧ kvs.length ≤ 10 * i) ∧ (∀ g, 0 ≤ sumN b (rs.take i) g ∧ sumN b (rs.take i) g ≤ 100 * i) ∧ ∃ t4 t5 t6 t7, σ = [some (.ref a), some (.ref pp), some (.int h), some (.ref D), t4, t5, t6, t7]) ⟨E2, hR2, ⟨[], hD2, fun _ => rfl, Nat.le_refl _⟩, fun g => ⟨Int.le_refl _, Int.le_refl _⟩, _, _, _, _, rfl⟩ (fun i σ H' _ h => h.2.1) ?_ ?_
    · rintro i x σ H3 hx ⟨E3, hR3, ⟨kvs, hD3, us, lk⟩, sb, t4, t5, t6, t7, rfl⟩
      obtain ⟨z, hz, rfl⟩ := map_get hx
      rw [List.getElem?_map] at hz
      obtain ⟨j, hj, rfl⟩ := Option.map_eq_some_iff.mp hz
      have hjn := rb j (List.mem_of_getElem? hj)
      have hi := (List.getElem?_eq_some_iff.mp hj).1
      obtain ⟨tp, tq, to, tn, k1, k2, k3, k4, k5⟩ := tkx j hjn
      obtain ⟨htj, _, _, _, _, nnd, nbd⟩ := ps.bo.tk hjn
      have nl := ps.ln _ (List.mem_of_getElem? htj)
      have ltn := k5.len
      have h13 := E3 _ _ h1
      have h23 := E3 _ _ h2
      have k23 := E3 _ _ k2
      have k43 := E3 _ _ k4
      walk_at "go"
      refine q_ixT h23 (atI_nat k1) ?_
      walk_at "go"
      refine ⟨tq, rfl, ⟨_, SqT.fz ⟨to, k3, k43⟩⟩, ?_⟩
      refine loop_tupF (xs := tn) (fun c σ H' => Ex H H' ∧ H' R = some (.lst ((rs.map fun j : Nat => (j : Int)).map V.int)) ∧ (∃ kvs, H' D = some (.dK kvs) ∧ UsedIs kvs (fun g => sumN b (rs.take i) g + mergG g ((tkA b j).needs.take c)) ∧ kvs.length ≤ 10 * i + c) ∧ ∃ t5 t6 t7, σ = [some (.ref a), some (.ref pp), some (.int h), some (.ref D), some (.int j), t5, t6, t7]) ⟨E3, hR3, ⟨kvs, hD3, fun g => by rw [us g]; show V.int _ = V.int (_ + 0); rw [Int.add_zero], by omega⟩, _, _, _, rfl⟩ (fun c σ H' _ h => SqT.fz ⟨to, k3, h.1 _ _ k4⟩) ?_ ?_
      · rintro c y σ H4 hy ⟨E4, hR4, ⟨kvs, hD4, us4, lk4⟩, t5, t6, t7, rfl⟩
        obtain ⟨n, hn, tdn⟩ := (RowsAt.tp (Tp.ex E4) k5).get hy
        obtain ⟨np, rfl, hnp⟩ := good_at tdn
        have hc := (List.getElem?_eq_some_iff.mp hn).1
        obtain ⟨n1, n2⟩ := nbd n (List.mem_of_getElem? hn)
        have mb : 0 ≤ mergG n.1 ((tkA b j).needs.take c) ∧ mergG n.1 ((tkA b j).needs.take c) ≤ 100 := mergG_bd (List.Sublist.nodup ((List.take_sublist c (tkA b j).needs).map _) nnd) fun x mx => nbd x (List.mem_of_mem_take mx)
        obtain ⟨s0, s1⟩ := sb n.1
        walk_at "go"
        refine q_dget2m ?_
        walk_at "go"
        refine ⟨D, rfl, .inl ⟨_, .inl hD4⟩, ?_⟩
        walk_at "go"
        refine ⟨_, DGet.k (k := .inr n.1) hD4, ?_⟩
        rw [us4 n.1]
        walk_at "go"
        refine ⟨D, _, rfl, DPut.k (k := .inr n.1) hD4 (by rw [sizeLine_eq]; omega), E4.mut nD, by rw [upd_ne nRD]; exact hR4, ⟨_, upd_same, used_put us4 (fun g => ?_), Nat.le_trans put_len (by omega)⟩, _, _, _, rfl⟩
        rw [take_snoc hn, mergG_snoc]
        omega
      · rintro σ H4 ⟨E4, hR4, ⟨kvs, hD4, us4, lk4⟩, t5, t6, t7, rfl⟩
        rw [ltn, List.take_length] at us4
        refine ⟨E4, hR4, ⟨kvs, hD4, fun g => ?_, by omega⟩, fun g => ?_, _, _, _, _, rfl⟩
        · rw [us4 g, take_snoc hj, sumN_snoc]
          rfl
        · rw [take_snoc hj, sumN_snoc]
          have := sb g
          have mb := mergG_bd (g := g) nnd nbd
          have : needAt b j g = mergG g (tkA b j).needs := rfl
          omega
    · rintro σ H3 ⟨E3, hR3, ⟨kvs, hD3, us, lk⟩, sb, t4, t5, t6, t7, rfl⟩
      rw [List.length_map, List.length_map, List.take_length] at us
      have h13 := E3 _ _ h1
      have hg3 := E3 _ _ hgx
      walk_at "go"
      refine q_iEnumT ?_
      walk_at "go"
      refine ⟨gg, gxs, rfl, SqT.fz ⟨go, god, hg3⟩, fun L nL => ?_⟩
      have nLD : L ≠ D := (ne_of_none hD3 nL).symm
      refine lcp_enumTS (xs := gxs) (fun i H' => Ex H3 H' ∧ H' L = some (.lst ((((List.range i).filter (lackB b pn h)).map fun j : Nat => (j : Int)).map V.int))) ⟨Ex.new nL, upd_same⟩ (fun i H' _ h => SqT.fz ⟨go, god, h.1 _ _ hg3⟩) ?_ ?_
      · rintro k y H4 t hy ⟨e4, hL4⟩ nt
        have hk := (List.getElem?_eq_some_iff.mp hy).1
        have y5 := Ex.new (o := .tup [V.int k, y]) nt
        have ht : L2.upd H4 t (.tup [V.int k, y]) t = some (.tup [V.int k, y]) := upd_same
        have e5 := e4.trans y5
        have hL5 := y5 _ _ hL4
        generalize L2.upd H4 t (.tup [V.int k, y]) = H5 at y5 ht e5 hL5 ⊢
        obtain ⟨gd, hgd, tdg⟩ := (RowsAt.tp (Tp.ex (E3.trans e5)) h6).get hy
        obtain ⟨gp, rfl, hgp⟩ := good_at tdg
        have hD5 := e5 _ _ hD3
        have lf : ((List.range k).filter (lackB b pn h)).length ≤ 1000 := by
          refine Nat.le_trans (List.length_filter_le _ _) ?_
          rw [List.length_range]
          omega
        have eb : lackB b pn h k = decide (gd.2 < sumN b rs gd.1) := by
          unfold lackB
          rw [gdA_of hgd, esum]
        walk_at "go"
        refine q_dget2m ?_
        walk_at "go"
        refine ⟨D, rfl, .inl ⟨_, .inl hD5⟩, ?_⟩
        walk_at "go"
        refine ⟨_, DGet.k (k := .inr gd.1) hD5, ?_⟩
        rw [us gd.1]
        walk_at "go"
        refine q_ifD (fun c1 => ?_) (fun c1 => ?_)
        · walk_at "go"
          refine ⟨e5.mut nL, ?_⟩
          rw [upd_same, List.range_succ, filt_snoc, if_pos (by rw [eb]; exact decide_eq_true c1)]
          simp only [List.map_append]
          rfl
        · refine ⟨e5, ?_⟩
          rw [List.range_succ, filt_snoc, if_neg (by rw [eb, decide_eq_false c1]; exact Bool.false_ne_true)]
          exact hL5
      · rintro H4 ⟨e4, hL4⟩
        rw [lg, ← ell] at hL4
        exact q L H4 (E3.trans e4) (Evl.fresh_back E3 nL) hL4

end
end Bk24


namespace Bk24
open PySem PySem.Spec PyProof.Rows L2 Bs
open Evl (Ex)
section
variable {P : Program} {w : World} {K : PySem.W.Frag} {mg : Str → Option Value} {base : Heap}
/-! ### the law's faults in their order: the first of them is the first fault -/
theorem rising_ex : ∀ pn : List Int, ∃ S : List Int, S.Pairwise (· < ·) ∧ ∀ k, k ∈ S ↔ k ∈ pn
  | [] => ⟨[], .nil, fun k => Iff.rfl⟩
  | x :: r => by
    obtain ⟨S, ri, mm⟩ := rising_ex r
    by_cases c : x ∈ S
    · refine ⟨S, ri, fun k => ?_⟩
      rw [List.mem_cons, mm]
      constructor
      · exact .inr
      · rintro (e | h)
        · rw [e]
          exact (mm x).mp c
        · exact h
    · refine ⟨S.filter (fun y => decide (y < x)) ++ x :: S.filter (fun y => decide (x < y)), ?_, fun k => ?_⟩
      · refine List.pairwise_append.mpr ⟨ri.filter _, List.pairwise_cons.mpr ⟨fun y my => of_decide_eq_true (List.mem_filter.mp my).2, ri.filter _⟩, fun a ma d md => ?_⟩
        have ha := of_decide_eq_true (List.mem_filter.mp ma).2
        rcases List.mem_cons.mp md with e | md
        · omega
        · have := of_decide_eq_true (List.mem_filter.mp md).2
          omega
      · rw [List.mem_append, List.mem_cons, List.mem_cons, List.mem_filter, List.mem_filter, ← mm, decide_eq_true_eq, decide_eq_true_eq]
        constructor
        · rintro (h | h | h)
          · exact .inr h.1
          · exact .inl h
          · exact .inr h.1
        · rintro (h | h)
          · exact .inr (.inl h)
          · rcases Int.lt_trichotomy k x with e | e | e
            · exact .inl ⟨h, e⟩
            · exact .inr (.inl e)
            · exact .inr (.inr ⟨h, e⟩)
theorem hoursOf_ok (pn : List Int) : (hoursOf pn).Pairwise (· < ·) ∧ ∀ k, k ∈ hoursOf pn ↔ k ∈ pn := by
  obtain ⟨S, ri, mm⟩ := rising_ex pn
  rw [hoursOf_is ri mm]
  exact ⟨ri, mm⟩
abbrev FRow := Str × List Int
def fromR (b : Bk) (pn : List Int) (n : Nat) : List FRow := ((List.range n).filter fun i => decide (pA pn i < (tkA b i).frm)).map fun i : Nat => ("from", [(i : Int)])
def waitR (b : Bk) (pn : List Int) (n : Nat) : List FRow := ((List.range n).filter fun k => waitB b pn (wtA b k)).map fun k : Nat => ("wait", [(k : Int)])
def goodR (b : Bk) (pn : List Int) (hr : Nat) : List FRow := (lackL b pn hr).map fun k : Nat => ("good", [(k : Int), (hr : Int)])
theorem head_map {α β : Type} {f : α → β} : ∀ {l : List α}, (l.map f).head? = l.head?.map f
  | [] => rfl
  | _ :: _ => rfl
theorem fromR_head {b : Bk} {pn : List Int} : (fromR b pn b.tasks.length).head? = fromO b pn := by
  unfold fromR fromO
  rw [fs_filter, head_map]
theorem waitR_head {b : Bk} {pn : List Int} : (waitR b pn b.waits.length).head? = waitO b pn := by
  unfold waitR waitO
  rw [fs_filter, head_map]
def fixT (b : Bk) (pn : List Int) (r : List Int) : Bool := match r with
  | [t, g] => !decide (pA pn t.toNat = g)
  | _ => false
def fixR (b : Bk) (pn : List Int) (srt : List (List Int)) : List FRow := (srt.filter (fixT b pn)).map fun r => ("fixed", [r.headD 0])
theorem lex_le {x y x' y' : Int} (h : HT.lexLt [x', y'] [x, y] = false) : x < x' ∨ (x = x' ∧ y ≤ y') := by
  rw [HT.lexLt_cons] at h
  by_cases e : x' = x
  · rw [if_pos e, HT.lexLt_cons] at h
    by_cases e2 : y' = y
    · exact .inr ⟨e.symm, by omega⟩
    · rw [if_neg e2] at h
      have := of_decide_eq_false h
      exact .inr ⟨e.symm, by omega⟩
  · rw [if_neg e] at h
    have := of_decide_eq_false h
    exact .inl (by omega)
theorem fixR_head {b : Bk} {pn : List Int} (bo : BkOk b) {srt : List (List Int)} (pm : srt.Perm (b.fixed.map fun p => [p.1, p.2])) (so : srt.Pairwise fun p q => HT.lexLt q p = false) : (fixR b pn srt).head? = fixedO b pn := by
  have form : ∀ r ∈ srt, ∃ p ∈ b.fixed, r = [p.1, p.2] := fun r mr => by
    obtain ⟨p, mp, e⟩ := List.mem_map.mp (pm.mem_iff.mp mr)
    exact ⟨p, mp, e.symm⟩
  have mvI : ∀ i : Nat, mvB b pn i = true → ∃ r ∈ srt, r.headD 0 = (i : Int) ∧ fixT b pn r = true := fun i h => by
    unfold mvB at h
    rw [List.any_eq_true] at h
    obtain ⟨p, mp, hp⟩ := h
    rw [Bool.and_eq_true, decide_eq_true_eq] at hp
    refine ⟨[p.1, p.2], pm.mem_iff.mpr (List.mem_map.mpr ⟨p, mp, rfl⟩), hp.1, ?_⟩
    rw [hp.1]
    show (!decide (pA pn ((i : Int)).toNat = p.2)) = true
    rw [Int.toNat_natCast]
    exact hp.2
  have mvJ : ∀ r ∈ srt, fixT b pn r = true → ∃ i : Nat, r.headD 0 = (i : Int) ∧ i < b.tasks.length ∧ mvB b pn i = true := fun r mr h => by
    obtain ⟨p, mp, rfl⟩ := form r mr
    obtain ⟨p0, p1⟩ := bo.fixed p mp
    have ep : ((p.1.toNat : Nat) : Int) = p.1 := Int.toNat_of_nonneg p0
    refine ⟨p.1.toNat, ep.symm, by omega, ?_⟩
    unfold mvB
    rw [List.any_eq_true]
    refine ⟨p, mp, ?_⟩
    rw [decide_eq_true ep.symm, Bool.true_and]
    exact h
  unfold fixR
  rw [head_map]
  cases hl : srt.filter (fixT b pn) with
  | nil =>
    have hn : fixedO b pn = none := by
      unfold fixedO
      rw [List.findSome?_eq_none_iff]
      intro i mi
      rw [if_neg (fun z => by
        obtain ⟨r, mr, _, ft⟩ := mvI i z
        have := List.mem_filter.mpr ⟨mr, ft⟩
        rw [hl] at this
        cases this)]
    rw [hn]
    rfl
  | cons r rest =>
    have mr : r ∈ srt.filter (fixT b pn) := by rw [hl]; exact List.mem_cons_self
    obtain ⟨mr1, mr2⟩ := List.mem_filter.mp mr
    obtain ⟨i, ei, hi, mi⟩ := mvJ r mr1 mr2
    have least : ∀ j : Nat, mvB b pn j = true → i ≤ j := fun j hj => by
      obtain ⟨r2, m2, e2, f2⟩ := mvI j hj
      have m3 := List.mem_filter.mpr ⟨m2, f2⟩
      have pw := so.filter (fixT b pn)
      rw [hl] at m3 pw
      rcases List.mem_cons.mp m3 with e | m3
      · rw [e, ei] at e2
        omega
      · have lx := (List.pairwise_cons.mp pw).1 r2 m3
        obtain ⟨p, _, rfl⟩ := form r mr1
        obtain ⟨p2, _, rfl⟩ := form r2 m2
        have e3 : p.1 = (i : Int) := ei
        have e4 : p2.1 = (j : Int) := e2
        rcases lex_le lx with h | h <;> omega
    have hn : fixedO b pn = some (("fixed", [(i : Int)]) : FRow) := by
      unfold fixedO
      refine fs_some (i := i) (y := i) ?_ (rng_at hi) (if_pos mi)
      rw [rng_take (by omega), List.findSome?_eq_none_iff]
      intro j mj
      have := List.mem_range.mp mj
      rw [if_neg (fun z => by
        have := least j z
        omega)]
    rw [hn, ← ei]
    rfl
theorem crowd_mem {b : Bk} {pn : List Int} {h : Int} {r : List Int} : r ∈ crowdL b pn h ↔ ∃ x y : Nat, r = [(x : Int), (y : Int)] ∧ x < b.tasks.length ∧ y < b.tasks.length ∧ x < y ∧ mateB b x y = true ∧ runB b pn h x = true ∧ runB b pn h y = true := by
  have sm : ∀ j, j ∈ someL b pn h ↔ j < b.tasks.length ∧ runB b pn h j = true ∧ ¬ (tkA b j).mach = "" := fun j => by
    unfold someL runL
    rw [List.mem_filter, List.mem_filter, List.mem_range]
    constructor
    · rintro ⟨⟨a, c⟩, d⟩
      exact ⟨a, c, fun z => by rw [decide_eq_true z] at d; cases d⟩
    · rintro ⟨a, c, d⟩
      exact ⟨⟨a, c⟩, by rw [decide_eq_false d]; rfl⟩
  unfold crowdL
  rw [List.mem_flatMap]
  constructor
  · rintro ⟨x, mx, mr⟩
    unfold crowL at mr
    obtain ⟨y, my, rfl⟩ := List.mem_map.mp mr
    obtain ⟨my1, my2⟩ := List.mem_filter.mp my
    rw [Bool.and_eq_true, decide_eq_true_eq, decide_eq_true_eq] at my2
    obtain ⟨x1, x2, x3⟩ := (sm x).mp mx
    obtain ⟨y1, y2, y3⟩ := (sm y).mp my1
    refine ⟨x, y, rfl, x1, y1, my2.1, ?_, x2, y2⟩
    unfold mateB
    rw [decide_eq_false x3, decide_eq_true my2.2.symm]
    rfl
  · rintro ⟨x, y, rfl, x1, y1, xy, mt, rx, ry⟩
    unfold mateB at mt
    rw [Bool.and_eq_true, decide_eq_true_eq] at mt
    have nx : ¬ (tkA b x).mach = "" := fun z => by
      rw [decide_eq_true z] at mt
      cases mt.1
    refine ⟨x, (sm x).mpr ⟨x1, rx, nx⟩, ?_⟩
    unfold crowL
    refine List.mem_map.mpr ⟨y, List.mem_filter.mpr ⟨(sm y).mpr ⟨y1, ry, by rw [mt.2]; exact nx⟩, ?_⟩, rfl⟩
    rw [decide_eq_true xy, decide_eq_true mt.2.symm]
    rfl
def pairsL (b : Bk) (pn : List Int) (N : Nat) : List (List Int) := (List.range N).flatMap fun hr : Nat => crowdL b pn (hr : Int)
theorem pairs_mem {b : Bk} {pn : List Int} (bo : BkOk b) (po : PlOk b pn) {N : Nat} (hN : ∀ x ∈ pn, x < N) {r : List Int} : r ∈ pairsL b pn N ↔ ∃ x y : Nat, r = [(x : Int), (y : Int)] ∧ x < b.tasks.length ∧ y < b.tasks.length ∧ x < y ∧ mateB b x y = true ∧ hitB b pn x y = true := by
  unfold pairsL
  rw [List.mem_flatMap]
  constructor
  · rintro ⟨hr, mh, mr⟩
    obtain ⟨x, y, e, x1, y1, xy, mt, rx, ry⟩ := crowd_mem.mp mr
    refine ⟨x, y, e, x1, y1, xy, mt, ?_⟩
    unfold runB at rx ry
    rw [Bool.and_eq_true, decide_eq_true_eq, decide_eq_true_eq] at rx ry
    unfold hitB
    rw [decide_eq_true (show pA pn x < endP b pn y by omega), decide_eq_true (show pA pn y < endP b pn x by omega)]
    rfl
  · rintro ⟨x, y, e, x1, y1, xy, mt, ht⟩
    unfold hitB at ht
    rw [Bool.and_eq_true, decide_eq_true_eq, decide_eq_true_eq] at ht
    obtain ⟨hx, px0, _⟩ := po.at_ x1
    obtain ⟨hy, py0, _⟩ := po.at_ y1
    have nx := hN _ (List.mem_of_getElem? hx)
    have ny := hN _ (List.mem_of_getElem? hy)
    obtain ⟨_, lx, _⟩ := bo.tk x1
    obtain ⟨_, ly, _⟩ := bo.tk y1
    have ex : endP b pn x = pA pn x + (tkA b x).len := rfl
    have ey : endP b pn y = pA pn y + (tkA b y).len := rfl
    have em : (((max (pA pn x) (pA pn y)).toNat : Nat) : Int) = max (pA pn x) (pA pn y) := Int.toNat_of_nonneg (by omega)
    refine ⟨(max (pA pn x) (pA pn y)).toNat, List.mem_range.mpr (by omega), crowd_mem.mpr ⟨x, y, e, x1, y1, xy, mt, ?_, ?_⟩⟩
    · unfold runB
      rw [em, decide_eq_true (show pA pn x ≤ max (pA pn x) (pA pn y) by omega), decide_eq_true (show max (pA pn x) (pA pn y) < endP b pn x by omega)]
      rfl
    · unfold runB
      rw [em, decide_eq_true (show pA pn y ≤ max (pA pn x) (pA pn y) by omega), decide_eq_true (show max (pA pn x) (pA pn y) < endP b pn y by omega)]
      rfl
def machR (srt : List (List Int)) : List FRow := srt.map fun r => ("machine", r)
theorem machR_head {b : Bk} {pn : List Int} (bo : BkOk b) (po : PlOk b pn) {N : Nat} (hN : ∀ x ∈ pn, x < N) {srt : List (List Int)} (pm : srt.Perm (pairsL b pn N)) (so : srt.Pairwise fun p q => HT.lexLt q p = false) : (machR srt).head? = machO b pn := by
  have hitn : ∀ x y : Nat, x < y → y < b.tasks.length → mateB b x y = true → hitB b pn x y = true → [(x : Int), (y : Int)] ∈ srt := fun x y xy yn mt ht => pm.mem_iff.mpr ((pairs_mem bo po hN).mpr ⟨x, y, rfl, by omega, yn, xy, mt, ht⟩)
  unfold machR
  rw [head_map]
  have ef : ∀ x n, (matesL b x n).findSome? (hitO b pn x) = ((List.range n).map fun j => x + 1 + j).findSome? fun y => if mateB b x y = true then hitO b pn x y else none := fun x n => fs_filter2
  cases srt with
  | nil =>
    have hn : machO b pn = none := by
      unfold machO
      rw [List.findSome?_eq_none_iff]
      intro x mx
      rw [List.findSome?_eq_none_iff]
      intro y my
      have h1 := List.mem_range.mp mx
      have h2 := matesL_mem my
      have mt := (List.mem_filter.mp my).2
      unfold hitO
      rw [if_neg (fun z => by
        have := hitn x y h2.1 (by omega) mt z
        cases this)]
    rw [hn]
    rfl
  | cons r rest =>
    obtain ⟨x, y, rfl, x1, y1, xy, mt, ht⟩ := (pairs_mem bo po hN).mp (pm.mem_iff.mp (List.mem_cons_self))
    have least : ∀ x' y' : Nat, x' < y' → y' < b.tasks.length → mateB b x' y' = true → hitB b pn x' y' = true → x < x' ∨ (x = x' ∧ y ≤ y') := fun x' y' a c d e => by
      have m := hitn x' y' a c d e
      rcases List.mem_cons.mp m with e2 | m
      · have e3 := List.cons.inj e2
        have e4 := (List.cons.inj e3.2).1
        have e5 := e3.1
        right
        omega
      · have := lex_le ((List.pairwise_cons.mp so).1 _ m)
        omega
    have hn : machO b pn = some (("machine", [(x : Int), (y : Int)]) : FRow) := by
      unfold machO
      refine fs_some (i := x) (y := x) ?_ (rng_at x1) ?_
      · rw [rng_take (by omega), List.findSome?_eq_none_iff]
        intro x' mx'
        rw [List.findSome?_eq_none_iff]
        intro y' my'
        have h1 := List.mem_range.mp mx'
        have h2 := matesL_mem my'
        have mt' := (List.mem_filter.mp my').2
        unfold hitO
        rw [if_neg (fun z => by
          have := least x' y' h2.1 (by omega) mt' z
          omega)]
      · rw [ef]
        refine fs_some (i := y - (x + 1)) (y := y) ?_ ?_ ?_
        · rw [← List.map_take, rng_take (by omega), List.findSome?_eq_none_iff]
          intro y' my'
          obtain ⟨j, mj, rfl⟩ := List.mem_map.mp my'
          have hj := List.mem_range.mp mj
          by_cases c : mateB b x (x + 1 + j) = true
          · rw [if_pos c]
            unfold hitO
            rw [if_neg (fun z => by
              have := least x (x + 1 + j) (by omega) (by omega) c z
              omega)]
          · rw [if_neg c]
        · rw [List.getElem?_map, List.getElem?_range (by omega)]
          show some (x + 1 + (y - (x + 1))) = some y
          congr 1
          omega
        · rw [if_pos mt]
          exact if_pos ht
    rw [hn]
    rfl
theorem used_less {b : Bk} {pn : List Int} {g : Str} {h p : Int} (nn : ∀ i, i < b.tasks.length → 0 ≤ needAt b i g) (all : ∀ i, i < b.tasks.length → runB b pn h i = true → runB b pn p i = true) : usedS (usesN b pn g b.tasks.length) h ≤ usedS (usesN b pn g b.tasks.length) p := by
  rw [← runs_sum nn, ← runs_sum nn]
  have key : ∀ n, n ≤ b.tasks.length → (((List.range n).filter (runB b pn h)).map fun i => needAt b i g).sum ≤ (((List.range n).filter (runB b pn p)).map fun i => needAt b i g).sum := fun n => by
    induction n with
    | zero => exact fun _ => Int.le_refl _
    | succ n ih =>
      intro hn
      have i1 := ih (by omega)
      have n1 := nn n (by omega)
      rw [List.range_succ, filt_snoc, filt_snoc]
      by_cases c : runB b pn h n = true
      · rw [if_pos c, if_pos (all n (by omega) c), List.map_append, List.map_append, List.sum_append, List.sum_append]
        omega
      · rw [if_neg c]
        by_cases c2 : runB b pn p n = true
        · rw [if_pos c2, List.map_append, List.sum_append]
          have : (List.map (fun i => needAt b i g) [n]).sum = needAt b n g := by
            show needAt b n g + 0 = _
            omega
          omega
        · rw [if_neg c2]
          exact i1
  exact key _ (Nat.le_refl _)
/-- where a good lacks it lacked when the last of those that run began -/
theorem lack_begin {b : Bk} {pn : List Int} (bo : BkOk b) (po : PlOk b pn) {h : Int} {k : Nat} (h0 : 0 ≤ h) (kl : k ∈ lackL b pn h) (good0 : 0 ≤ (gdA b k).2) : ∃ p ∈ pn, p ≤ h ∧ k ∈ lackL b pn p := by
  obtain ⟨kn, kl2⟩ := List.mem_filter.mp kl
  have kl3 := of_decide_eq_true kl2
  have nn : ∀ i, i < b.tasks.length → 0 ≤ needAt b i (gdA b k).1 := fun i hi => by
    obtain ⟨_, _, _, _, _, nnd, nbd⟩ := bo.tk hi
    exact (mergG_bd nnd nbd).1
  have ne : runL b pn h ≠ [] := fun z => by
    have := runs_sum (b := b) (pn := pn) (g := (gdA b k).1) (h := h) (n := b.tasks.length) nn
    rw [show (List.range b.tasks.length).filter (runB b pn h) = [] from z] at this
    have e0 : (List.map (fun i => needAt b i (gdA b k).1) []).sum = 0 := rfl
    rw [e0] at this
    omega
  obtain ⟨G, mG, lG⟩ := max_ex (l := (runL b pn h).map (pA pn)) (fun z => ne (List.map_eq_nil_iff.mp z))
  obtain ⟨i, mi, rfl⟩ := List.mem_map.mp mG
  obtain ⟨mi1, mi2⟩ := List.mem_filter.mp mi
  have hi := List.mem_range.mp mi1
  unfold runB at mi2
  rw [Bool.and_eq_true, decide_eq_true_eq, decide_eq_true_eq] at mi2
  obtain ⟨hpi, _⟩ := po.at_ hi
  refine ⟨pA pn i, List.mem_of_getElem? hpi, mi2.1, List.mem_filter.mpr ⟨kn, decide_eq_true ?_⟩⟩
  refine Int.lt_of_lt_of_le kl3 (used_less nn fun j hj rj => ?_)
  have mj : j ∈ runL b pn h := List.mem_filter.mpr ⟨List.mem_range.mpr hj, rj⟩
  have := lG _ (List.mem_map.mpr ⟨j, mj, rfl⟩)
  unfold runB at rj ⊢
  rw [Bool.and_eq_true, decide_eq_true_eq, decide_eq_true_eq] at rj
  rw [decide_eq_true this, decide_eq_true (show pA pn i < endP b pn j by omega)]
  rfl
def goodsL (b : Bk) (pn : List Int) (N : Nat) : List FRow := (List.range N).flatMap (goodR b pn)
theorem lackO_first {b : Bk} {pn : List Int} {hr : Nat} : (List.range b.goods.length).findSome? (lackO b pn (hr : Int)) = (goodR b pn hr).head? := by
  unfold goodR
  rw [head_map]
  exact fs_filter
theorem goodsL_head {b : Bk} {pn : List Int} (bo : BkOk b) (po : PlOk b pn) {N : Nat} (hN : ∀ x ∈ pn, x < N) (gp : ∀ k, k < b.goods.length → 0 ≤ (gdA b k).2) : (goodsL b pn N).head? = goodO b pn := by
  obtain ⟨ri, mm⟩ := hoursOf_ok pn
  have p0 : ∀ x ∈ pn, 0 ≤ x := fun x mx => (po.bd x mx).1
  have nat : ∀ h ∈ hoursOf pn, ∃ n : Nat, h = (n : Int) ∧ n < N ∧ (n : Int) ∈ pn := fun h mh => by
    have m := (mm h).mp mh
    obtain ⟨n, rfl⟩ : ∃ n : Nat, h = (n : Int) := ⟨_, (Int.toNat_of_nonneg (p0 h m)).symm⟩
    exact ⟨n, rfl, by have := hN _ m; omega, m⟩
  unfold goodsL
  rw [List.head?_flatMap]
  by_cases c : ∃ hr, hr < N ∧ goodR b pn hr ≠ []
  · obtain ⟨hr, ⟨hN1, ne⟩, mn⟩ : ∃ hr, (hr < N ∧ goodR b pn hr ≠ []) ∧ ∀ j, j < hr → ¬ (j < N ∧ goodR b pn j ≠ []) := by
      obtain ⟨hr, h⟩ := c
      induction hr using Nat.strongRecOn with
      | ind hr ih =>
        by_cases c2 : ∃ j, j < hr ∧ (j < N ∧ goodR b pn j ≠ [])
        · obtain ⟨j, jh, jj⟩ := c2
          exact ih j jh jj
        · exact ⟨hr, h, fun j jh jj => c2 ⟨j, jh, jj⟩⟩
    cases hg : goodR b pn hr with
    | nil => exact absurd hg ne
    | cons x r =>
      have hx : (goodR b pn hr).head? = some x := by rw [hg]; rfl
      have before : ∀ j, j < hr → (goodR b pn j).head? = none := fun j jh => by
        have := mn j jh
        cases hj : goodR b pn j with
        | nil => rfl
        | cons y s => exact absurd ⟨by omega, by rw [hj]; exact List.cons_ne_nil _ _⟩ this
      have e1 : (List.range N).findSome? (fun a => (goodR b pn a).head?) = some x := by
        refine fs_some (i := hr) (y := hr) ?_ (rng_at hN1) hx
        rw [rng_take (by omega), List.findSome?_eq_none_iff]
        intro j mj
        exact before j (List.mem_range.mp mj)
      have mhr : (hr : Int) ∈ pn := by
        have mx : x ∈ goodR b pn hr := by rw [hg]; exact List.mem_cons_self
        unfold goodR at mx
        obtain ⟨k, mk, _⟩ := List.mem_map.mp mx
        obtain ⟨p, mp, ple, kp⟩ := lack_begin bo po (by omega) mk (gp k (List.mem_range.mp (List.mem_filter.mp mk).1))
        obtain ⟨n, rfl⟩ : ∃ n : Nat, p = (n : Int) := ⟨_, (Int.toNat_of_nonneg (p0 p mp)).symm⟩
        by_cases e : n = hr
        · rw [← e]
          exact mp
        · have := before n (by omega)
          unfold goodR at this
          rw [head_map] at this
          cases hl : lackL b pn n with
          | nil =>
            rw [hl] at kp
            cases kp
          | cons y s =>
            rw [hl] at this
            cases this
      have e2 : goodO b pn = some x := by
        unfold goodO
        obtain ⟨i, hi⟩ := List.getElem?_of_mem ((mm _).mpr mhr)
        refine fs_some (i := i) ?_ hi (lackO_first.trans hx)
        rw [List.findSome?_eq_none_iff]
        intro h mh
        obtain ⟨n, rfl, _, _⟩ := nat h (List.mem_of_mem_take mh)
        rw [lackO_first]
        refine before n ?_
        have il := (List.getElem?_eq_some_iff.mp hi).1
        have pw := ri
        rw [← List.take_append_drop i (hoursOf pn)] at pw
        have := (List.pairwise_append.mp pw).2.2 _ mh (hr : Int) (by
          rw [List.mem_iff_getElem?]
          exact ⟨0, by rw [List.getElem?_drop, Nat.add_zero]; exact hi⟩)
        omega
      rw [e1, e2]
  · have before : ∀ j, j < N → (goodR b pn j).head? = none := fun j jh => by
      cases hj : goodR b pn j with
      | nil => rfl
      | cons y s => exact absurd ⟨j, jh, by rw [hj]; exact List.cons_ne_nil _ _⟩ c
    have e1 : (List.range N).findSome? (fun a => (goodR b pn a).head?) = none := by
      rw [List.findSome?_eq_none_iff]
      intro j mj
      exact before j (List.mem_range.mp mj)
    have e2 : goodO b pn = none := by
      unfold goodO
      rw [List.findSome?_eq_none_iff]
      intro h mh
      obtain ⟨n, rfl, nN, _⟩ := nat h mh
      rw [lackO_first]
      exact before n nN
    rw [e1, e2]
theorem five_head {a c d e f : List FRow} : ([a.head?, c.head?, d.head?, e.head?, f.head?].findSome? id) = (a ++ c ++ d ++ e ++ f).head? := by
  cases a <;> cases c <;> cases d <;> cases e <;> cases f <;> rfl

end
end Bk24


namespace Bk24
open PySem PySem.Spec PyProof.Rows L2 Bs
open Evl (Ex)
section
variable {P : Program} {w : World} {K : PySem.W.Frag} {mg : Str → Option Value} {base : Heap}
/-! ### the law's faults, all of them -/
inductive FRs (H : Hp) : List V → List FRow → Prop
  | nil : FRs H [] []
  | cons {v : V} {x : FRow} {vs : List V} {xs : List FRow} : FltAt H v (some x) → FRs H vs xs → FRs H (v :: vs) (x :: xs)
theorem FltAt.tp {H H' : Hp} {v : V} {o : Flt} (e : Tp H H') (h : FltAt H v o) : FltAt H' v o := by
  cases o with
  | none => exact h
  | some x =>
    obtain ⟨p, e1, e2⟩ := h
    exact ⟨p, e1, e.tup _ _ e2⟩
theorem FRs.tp {H H' : Hp} (e : Tp H H') : ∀ {vs : List V} {xs : List FRow}, FRs H vs xs → FRs H' vs xs
  | _, _, .nil => .nil
  | _, _, .cons h t => .cons (h.tp e) (t.tp e)
theorem FRs.len {H : Hp} : ∀ {vs : List V} {xs : List FRow}, FRs H vs xs → vs.length = xs.length
  | _, _, .nil => rfl
  | _, _, .cons _ t => by rw [List.length_cons, List.length_cons, t.len]
theorem FRs.append {H : Hp} : ∀ {vs ws : List V} {xs ys : List FRow}, FRs H vs xs → FRs H ws ys → FRs H (vs ++ ws) (xs ++ ys)
  | _, _, _, _, .nil, h => h
  | _, _, _, _, .cons a t, h => .cons a (t.append h)
theorem FRs.one {H : Hp} {p : Addr} {s : Str} {l : List Int} (h : H p = some (.tup (.str s :: l.map .int))) : FRs H [.ref p] [(s, l)] := .cons ⟨p, rfl, h⟩ .nil
theorem FRs.head {H : Hp} {vs : List V} {xs : List FRow} (h : FRs H vs xs) : FltAt H ((vs ++ [V.non]).headD .non) xs.head? := by
  cases h with
  | nil => exact rfl
  | cons a _ => exact a
theorem fixT_ts {H : Hp} {xs : List V} {l : List (Int × Int)} (r : RowsAt fixD H xs l) : Ts H xs (l.map fun p => [p.1, p.2]) := by
  have ll := r.len
  refine Ts.of (by rw [List.length_map]; exact ll) fun i v ns hv hn => ?_
  obtain ⟨p, hp, tdp⟩ := r.get hv
  obtain ⟨q, rfl, hq⟩ := fix_at tdp
  rw [List.getElem?_map, hp] at hn
  have := Option.some.inj hn
  subst this
  exact ⟨q, rfl, hq⟩
theorem new_at24 {H : Hp} {p : Addr} {o : HO} (_ : H p = none) : L2.upd H p o p = some o := upd_same
def spFaults (K : PySem.W.Frag) : Sp := fun vs H Q _ => ∃ (v : V) (b : Bk) (pp : Addr) (pn : List Int), vs = [v, .ref pp] ∧ TD H v (bookM b) ∧ PlSm b pn ∧ 1 ≤ b.tasks.length ∧ (∀ k, k < b.goods.length → 0 ≤ (gdA b k).2) ∧ H pp = some (.tup (pn.map V.int)) ∧
  ∀ (R : Addr) (rv : List V) (rows : List FRow) (H' : Hp), Ex H H' → H' R = some (.lst rv) → FRs H' rv rows → rows.head? = faultO b pn → rv.length ≤ 8000000 → Q (.ref R) H'
theorem ok__law_faults (T : Tx K mg) : Cal P w K mg base 3 "_law_faults" ["book", "plan"] (spFaults K) := by
  have G__law_crowded : Cal P w K mg base 2 "_law_crowded" ["book", "plan", "hour"] (spCrowd K) := ok__law_crowded T
  have G__law_lacking : Cal P w K mg base 2 "_law_lacking" ["book", "plan", "hour"] (spLack K) := ok__law_lacking T
  refine T.d__law_faults.cal sc__law_faults (fun vs H Q E h => ?_) (fun f cdv A outer s H vs Q E hr h => ?_)
  · obtain ⟨_, _, _, _, rfl, _⟩ := h
    rfl
  · obtain ⟨v, b, pp, pn, rfl, td, ps, n1, gp, hpp, q⟩ := h
    have fb : FB K H v b := FB.of td
    obtain ⟨a, m, gg, ta, w_, f_, rfl, h1, _, _, ⟨txs, h2, rt⟩, ⟨wxs, h7, h8⟩, ⟨fxs, ⟨fo, fod, hf⟩, h10⟩⟩ := bookM_parts td
    have h3 := rt.len
    have n30 := ps.bo.n
    have w60 := ps.bo.waits
    have f30 := ps.bo.fixeds
    have g10 := ps.bo.goods
    have lp := ps.po.len
    have lw := h8.len
    have tkx : ∀ i : Nat, i < b.tasks.length → ∃ p q o xs, txs[i]? = some (.ref p) ∧ H p = some (.tup [.str (tkA b i).name, .int (tkA b i).len, .str (tkA b i).mach, .ref q, .int (tkA b i).frm, dueV (tkA b i).due, .int (tkA b i).wt]) ∧ o.dict = none ∧ H q = some (.frz o (.tup xs)) ∧ RowsAt goodD H xs (tkA b i).needs := fun i hi => by
      obtain ⟨tv, htv⟩ : ∃ tv, txs[i]? = some tv := ⟨_, List.getElem?_eq_getElem (by omega)⟩
      obtain ⟨k, hk, kd⟩ := rt.get htv
      obtain ⟨p, qa, o, xs, rfl, hp, od, hq, rn⟩ := taskF_parts kd
      rw [tkA_of hk]
      exact ⟨p, qa, o, xs, htv, hp, od, hq, rn⟩
    have pat : ∀ i : Nat, i < b.tasks.length → atI (pn.map V.int) (i : Int) = some (.int (pA pn i)) := fun i hi => atI_nat (by rw [List.getElem?_map, (ps.po.at_ hi).1]; rfl)
    refine ⟨_, (pss_cons (ps_setLc (i := 2) (own := [("row", 8), ("task", 9)]) rfl sc__law_faults.nd rfl rfl (sw_true rfl rfl rfl (by decide +kernel)) (piETK (K := K) (by rfl) T.b_enumerate (pa_cons (pe_ix (ixT (K := K)) (pv 0) pe_int (fun _ _ => rfl)) pa_nil)) (blkOk_by (own := [("row", 8), ("task", 9)]) (N := N__law_faults) (sc := defScope s__law_faults) (by decide +kernel)) (fun _ _ _ _ _ => (pgTK (K := K) (n := 2) (by rfl) (pgs_cons (pg_name (i := 9) sc__law_faults.nd rfl (.inl rfl)) (pgs_cons (pg_name (i := 8) sc__law_faults.nd rfl (.inl rfl)) pgs_nil)))) (fun _ _ _ _ _ => pts_one (pt_cmpR op_lt (pe_ix (ixT (K := K)) (pv 1) (pv 9) (fun _ _ => rfl)) (pe_ix (ixT (K := K)) (pv 8) pe_int (fun _ _ => rfl)) (nomark _))) (fun _ _ _ _ _ => (pe_tup (pa_cons pe_str (pa_cons (pv 9) pa_nil)))))
    (pss_cons (ps_expr (pe_bm PySem.F.plainAttrs_list PySem.F.slot_list_extend PySem.F.type_list_extend mt_extend (pv 2) (pa_cons (pe_lc (own := [("task", 9), ("begin", 10)]) rfl sc__law_faults.nd (piLK (K := K) (pe_callB (cr_sortedTs (K := K)) (by rfl) T.b_sorted (by decide +kernel) (pa_cons (pe_ix (ixT (K := K)) (pv 0) pe_int (fun _ _ => rfl)) pa_nil))) (blkOk_by (own := [("task", 9), ("begin", 10)]) (N := N__law_faults) (sc := defScope s__law_faults) (by decide +kernel)) (fun _ _ _ _ _ => (pgTK (K := K) (n := 2) (by rfl) (pgs_cons (pg_name (i := 9) sc__law_faults.nd rfl (.inl rfl)) (pgs_cons (pg_name (i := 10) sc__law_faults.nd rfl (.inl rfl)) pgs_nil)))) (fun _ _ _ _ _ => pts_one (pt_cmpR op_ne (pe_ix (ixT (K := K)) (pv 1) (pv 9) (fun _ _ => rfl)) (pv 10) (nomark _))) (fun _ _ _ _ _ => (pe_tup (pa_cons pe_str (pa_cons (pv 9) pa_nil))))) pa_nil)))
    (pss_cons (ps_for PassesOwn.never rfl (piETK (K := K) (by rfl) T.b_enumerate (pa_cons (pe_ix (ixT (K := K)) (pv 0) pe_int (fun _ _ => rfl)) pa_nil)) (pgTK (K := K) (n := 2) (by rfl) (pgs_cons (pg_name (i := 3) sc__law_faults.nd rfl (.inl rfl)) (pgs_cons (pg_name (i := 4) sc__law_faults.nd rfl (.inl rfl)) pgs_nil))) (pss_one (ps_if (pt_cmpR op_lt (pe_op op_sub (pe_ix (ixT (K := K)) (pv 1) (pe_ix (ixT (K := K)) (pv 4) pe_int (fun _ _ => rfl)) (fun _ _ => rfl)) (pe_ix (ixT (K := K)) (pv 1) (pe_ix (ixT (K := K)) (pv 4) pe_int (fun _ _ => rfl)) (fun _ _ => rfl))) (pe_op op_add (pe_ix (ixT (K := K)) (pe_ix (ixT (K := K)) (pe_ix (ixT (K := K)) (pv 0) pe_int (fun _ _ => rfl)) (pe_ix (ixT (K := K)) (pv 4) pe_int (fun _ _ => rfl)) (fun _ _ => rfl)) pe_int (fun _ _ => rfl)) (pe_ix (ixT (K := K)) (pv 4) pe_int (fun _ _ => rfl))) (nomark _)) (pss_one (ps_expr (pe_bm PySem.F.plainAttrs_list PySem.F.slot_list_append PySem.F.type_list_append mt_append (pv 2) (pa_cons (pe_tup (pa_cons pe_str (pa_cons (pv 3) pa_nil))) pa_nil)))) pss_nil)))
    (pss_cons (ps_set (i := 5) sc__law_faults.nd rfl (.inl rfl) (pe_lst pa_nil))
    (pss_cons (ps_set (i := 6) sc__law_faults.nd rfl (.inl rfl) (pe_lst pa_nil))
    (pss_cons (ps_for PassesOwn.never rfl (pi_range1 (by rfl) T.b_range (pa_cons (pe_op op_add (pe_callB (au_maxT (K := K) rfl hr.units) (by rfl) T.b_max (by decide +kernel) (pa_cons (pv 1) pa_nil)) pe_int) pa_nil)) (pg_name (i := 7) sc__law_faults.nd rfl (.inr rfl)) (pss_cons (ps_expr (pe_bm PySem.F.plainAttrs_list PySem.F.slot_list_extend PySem.F.type_list_extend mt_extend (pv 5) (pa_cons (pe_cal G__law_crowded hr (by rfl) (pa_cons (pv 0) (pa_cons (pv 1) (pa_cons (pv 7) pa_nil)))) pa_nil)))
    (pss_one (ps_expr (pe_bm PySem.F.plainAttrs_list PySem.F.slot_list_extend PySem.F.type_list_extend mt_extend (pv 6) (pa_cons (pe_lc (own := [("k", 3)]) rfl sc__law_faults.nd (piLK (K := K) (pe_cal G__law_lacking hr (by rfl) (pa_cons (pv 0) (pa_cons (pv 1) (pa_cons (pv 7) pa_nil))))) (blkOk_by (own := [("k", 3)]) (N := N__law_faults) (sc := defScope s__law_faults) (by decide +kernel)) (fun _ _ _ _ _ => (pg_name (i := 3) sc__law_faults.nd rfl (.inl rfl))) (fun _ _ _ _ _ => pts_nil) (fun _ _ _ _ _ => (pe_tup (pa_cons pe_str (pa_cons (pv 3) (pa_cons (pv 7) pa_nil)))))) pa_nil))))))
    (pss_one (ps_ret (pe_op op_cat (pe_op op_cat (pv 2) (pe_lc (own := [("pair", 11)]) rfl sc__law_faults.nd (piLK (K := K) (pe_callB (cr_sortedNs (K := K)) (by rfl) T.b_sorted (by decide +kernel) (pa_cons (pv 5) pa_nil))) (blkOk_by (own := [("pair", 11)]) (N := N__law_faults) (sc := defScope s__law_faults) (by decide +kernel)) (fun _ _ _ _ _ => (pg_name (i := 11) sc__law_faults.nd rfl (.inl rfl))) (fun _ _ _ _ _ => pts_nil) (fun _ _ _ _ _ => (pe_op (catTK (K := K)) (pe_tup (pa_cons pe_str pa_nil)) (pv 11))))) (pv 6)))))))))), q_start (τ := [some _, some _, none, none, none, none, none, none, none, none, none, none]) rfl ?_⟩
    walk_at "go"
    refine q_iEnumT ?_
    walk_at "go"
    refine q_enumT h2 ?_
    intro F nF
    refine lcp_enumT (xs := txs) (fun i H' => Ex H H' ∧ ∃ fv, H' F = some (.lst fv) ∧ FRs H' fv (fromR b pn i)) ⟨Ex.new nF, [], upd_same, .nil⟩ (fun i H' _ h => h.1 _ _ h2) ?_ ?_
    · rintro i x H1 t hx ⟨e1, fv, hF1, rf⟩ nt
      have hi := (List.getElem?_eq_some_iff.mp hx).1
      have y1 := Ex.new (o := .tup [V.int i, x]) nt
      have ht : L2.upd H1 t (.tup [V.int i, x]) t = some (.tup [V.int i, x]) := upd_same
      have e2 := e1.trans y1
      have hF2 := y1 _ _ hF1
      have rf2 := rf.tp (Tp.ex y1)
      generalize L2.upd H1 t (.tup [V.int i, x]) = H2 at y1 ht e2 hF2 rf2 ⊢
      obtain ⟨tp, tq, to, tn, k1, k2, _⟩ := tkx i (by omega)
      rw [hx] at k1
      obtain rfl := Option.some.inj k1
      have k22 := e2 _ _ k2
      have hpp2 := e2 _ _ hpp
      have lfv := rf.len
      have lf : fv.length ≤ 1000 := by
        rw [lfv]
        unfold fromR
        rw [List.length_map]
        refine Nat.le_trans (List.length_filter_le _ _) ?_
        rw [List.length_range]
        omega
      walk_at "go"
      refine q_ixT hpp2 (pat i (by omega)) ?_
      walk_at "go"
      refine q_ifD (fun c1 => ?_) (fun c1 => ?_)
      · walk_at "go"
        rename_i rp nrp
        have z := Ex.new (o := .tup [V.str "from", .int i]) nrp
        have hF3 := z _ _ hF2
        refine ⟨(e2.trans z).mut nF, fv ++ [.ref rp], upd_same, ?_⟩
        unfold fromR
        rw [List.range_succ, filt_snoc, if_pos (decide_eq_true c1), List.map_append]
        refine FRs.tp (Tp.upd hF3) ?_
        exact (rf2.tp (Tp.ex z)).append (FRs.one upd_same)
      · refine ⟨e2, fv, hF2, ?_⟩
        unfold fromR
        rw [List.range_succ, filt_snoc, if_neg (by rw [decide_eq_false c1]; exact Bool.false_ne_true)]
        exact rf2
    rintro H1 ⟨e1, fv, hF1, rf⟩
    rw [h3] at rf
    have lfv := rf.len
    have lf : fv.length ≤ 30 := by
      rw [lfv]
      unfold fromR
      rw [List.length_map]
      refine Nat.le_trans (List.length_filter_le _ _) ?_
      rw [List.length_range]
      omega
    have h11 := e1 _ _ h1
    have hf1 := e1 _ _ hf
    walk_at "go"
    refine q_sortedTs (SqT.fz ⟨fo, fod, hf1⟩) ((fixT_ts h10).ex e1) (fun r mr => by
      obtain ⟨p, _, rfl⟩ := List.mem_map.mp mr
      exact List.cons_ne_nil _ _) fun sp sv srt nsp tsr pms srtd => ?_
    have z1 := Ex.new (o := .lst sv) nsp
    have hsp : L2.upd H1 sp (.lst sv) sp = some (.lst sv) := upd_same
    have e2 := e1.trans z1
    have hF2 := z1 _ _ hF1
    have rf2 := rf.tp (Tp.ex z1)
    have tsr2 := tsr.ex z1
    generalize L2.upd H1 sp (.lst sv) = H2 at z1 hsp e2 hF2 rf2 tsr2 ⊢
    have lsv := tsr2.len
    have lsr : srt.length = b.fixed.length := by rw [pms.length_eq, List.length_map]
    have sform : ∀ r ∈ srt, ∃ p ∈ b.fixed, r = [p.1, p.2] := fun r mr => by
      obtain ⟨p, mp, e⟩ := List.mem_map.mp (pms.mem_iff.mp mr)
      exact ⟨p, mp, e.symm⟩
    refine ⟨sp, rfl, ⟨_, SqL.of hsp⟩, fun M nM => ?_⟩
    refine lcp_list (xs := sv) (fun i H' => Ex H2 H' ∧ ∃ mv, H' M = some (.lst mv) ∧ FRs H' mv (fixR b pn (srt.take i))) ⟨Ex.new nM, [], upd_same, .nil⟩ (fun i H' _ h => h.1 _ _ hsp) ?_ ?_
    · rintro i x H3 hx ⟨e3, mv, hM3, rm⟩
      obtain ⟨t, r, rfl, hr, ht⟩ := (tsr2.ex e3).get hx
      obtain ⟨p, mp, rfl⟩ := sform r (List.mem_of_getElem? hr)
      obtain ⟨p0, p1⟩ := ps.bo.fixed p mp
      have ep : ((p.1.toNat : Nat) : Int) = p.1 := Int.toNat_of_nonneg p0
      have hat := pat p.1.toNat (by omega)
      rw [ep] at hat
      have E3 := e2.trans e3
      have hpp3 := E3 _ _ hpp
      have ht' : H3 t = some (.tup [.int p.1, .int p.2]) := ht
      have hi := (List.getElem?_eq_some_iff.mp hr).1
      have lmv := rm.len
      have lf : mv.length ≤ 1000 := by
        rw [lmv]
        unfold fixR
        rw [List.length_map]
        refine Nat.le_trans (List.length_filter_le _ _) ?_
        rw [List.length_take]
        omega
      have eft : fixT b pn [p.1, p.2] = !decide (pA pn p.1.toNat = p.2) := rfl
      walk_at "go"
      refine q_ixT hpp3 hat ?_
      walk_at "go"
      refine q_ifN (fun c1 => ?_) (fun c1 => ?_)
      · walk_at "go"
        rename_i rp nrp
        have z := Ex.new (o := .tup [V.str "fixed", .int p.1]) nrp
        have hM4 := z _ _ hM3
        refine ⟨(e3.trans z).mut nM, mv ++ [.ref rp], upd_same, ?_⟩
        unfold fixR
        rw [take_snoc hr, filt_snoc, if_pos (by rw [eft, decide_eq_false c1]; rfl), List.map_append]
        refine FRs.tp (Tp.upd hM4) ?_
        exact (rm.tp (Tp.ex z)).append (FRs.one upd_same)
      · refine ⟨e3, mv, hM3, ?_⟩
        unfold fixR
        rw [take_snoc hr, filt_snoc, if_neg (by rw [eft, decide_eq_true c1]; exact Bool.false_ne_true)]
        exact rm
    rintro H3 ⟨e3, mv, hM3, rm⟩
    rw [lsv, List.take_length] at rm
    have lmv := rm.len
    have lm30 : mv.length ≤ 30 := by
      rw [lmv]
      unfold fixR
      rw [List.length_map]
      refine Nat.le_trans (List.length_filter_le _ _) ?_
      omega
    have hF3 := e3 _ _ hF2
    have E3 := e2.trans e3
    walk_at "go"
    refine q_extend hF3 hM3 (by omega) ?_
    have rf3 : FRs (L2.upd H3 F (.lst (fv ++ mv))) (fv ++ mv) (fromR b pn b.tasks.length ++ fixR b pn srt) := FRs.tp (Tp.upd hF3) ((rf2.tp (Tp.ex e3)).append rm)
    have E4 : Ex H (L2.upd H3 F (.lst (fv ++ mv))) := E3.mut nF
    have hF4 : L2.upd H3 F (.lst (fv ++ mv)) F = some (.lst (fv ++ mv)) := upd_same
    have lfm : (fv ++ mv).length ≤ 60 := by rw [List.length_append]; omega
    generalize L2.upd H3 F (.lst (fv ++ mv)) = H4 at rf3 E4 hF4 ⊢
    generalize fv ++ mv = gv at rf3 hF4 lfm ⊢
    walk_at "go"
    refine q_iEnumT ?_
    walk_at "go"
    have h74 := E4 _ _ h7
    refine q_enumT h74 ?_
    refine loop_enumT (xs := wxs) (fun i σ H' => Ex H H' ∧ (∃ gv, H' F = some (.lst gv) ∧ FRs H' gv (fromR b pn b.tasks.length ++ fixR b pn srt ++ waitR b pn i) ∧ gv.length ≤ 60 + i) ∧ ∃ t3 t4 t5 t6 t7, σ = [some (.ref a), some (.ref pp), some (.ref F), t3, t4, t5, t6, t7, none, none, none, none]) ⟨E4, ⟨gv, hF4, by
      rw [show waitR b pn 0 = [] from rfl, List.append_nil]
      exact rf3, by omega⟩, _, _, _, _, _, rfl⟩ (fun i σ H' _ h => h.1 _ _ h7) ?_ ?_
    · clear rf3 hF4 lfm E4 h74
      rintro i x σ H4 t hx ⟨E4, ⟨gv, hF4, rg, lgv⟩, t3, t4, t5, t6, t7, rfl⟩ nt
      have hi := (List.getElem?_eq_some_iff.mp hx).1
      have y1 := Ex.new (o := .tup [V.int i, x]) nt
      have ht : L2.upd H4 t (.tup [V.int i, x]) t = some (.tup [V.int i, x]) := upd_same
      have E5 := E4.trans y1
      have hF5 := y1 _ _ hF4
      have rg5 := rg.tp (Tp.ex y1)
      generalize L2.upd H4 t (.tup [V.int i, x]) = H5 at y1 ht E5 hF5 rg5 ⊢
      obtain ⟨wa, hwa, wd⟩ := (RowsAt.tp (Tp.ex E5) h8).get hx
      obtain ⟨wp, rfl, hwp⟩ := wait_parts wd
      obtain ⟨a0, a1, b0, b1, g0, g1⟩ := ps.bo.wait wa (List.mem_of_getElem? hwa)
      have hpp5 := E5 _ _ hpp
      have eb : ((wa.b.toNat : Nat) : Int) = wa.b := Int.toNat_of_nonneg b0
      have ea : ((wa.a.toNat : Nat) : Int) = wa.a := Int.toNat_of_nonneg a0
      have hatb := pat wa.b.toNat (by omega)
      rw [eb] at hatb
      have hata := pat wa.a.toNat (by omega)
      rw [ea] at hata
      obtain ⟨tp, tq, to, tn, k1, k2, _⟩ := tkx wa.a.toNat (by omega)
      have hatt : atI txs wa.a = some (.ref tp) := by
        rw [← ea]
        exact atI_nat k1
      have k25 := E5 _ _ k2
      have h15 := E5 _ _ h1
      have h25 := E5 _ _ h2
      obtain ⟨_, pb0, pb1⟩ := ps.po.at_ (i := wa.b.toNat) (by omega)
      obtain ⟨_, pa0, pa1⟩ := ps.po.at_ (i := wa.a.toNat) (by omega)
      obtain ⟨_, l0, l1, _⟩ := ps.bo.tk (i := wa.a.toNat) (by omega)
      have be : endP b pn wa.a.toNat = pA pn wa.a.toNat + (tkA b wa.a.toNat).len := rfl
      have ew : waitB b pn (wtA b i) = decide (pA pn wa.b.toNat < endP b pn wa.a.toNat + wa.gap) := by rw [wtA_of hwa]; rfl
      walk_at "go"
      refine q_ixT hpp5 hatb ?_
      walk_at "go"
      refine q_ixT hpp5 hata ?_
      walk_at "go"
      refine q_ixT h25 hatt ?_
      walk_at "go"
      refine q_ifD (fun c1 => ?_) (fun c1 => ?_)
      · walk_at "go"
        rename_i rp nrp
        have z := Ex.new (o := .tup [V.str "wait", .int i]) nrp
        have hF6 := z _ _ hF5
        refine ⟨(E5.trans z).mut nF, ⟨gv ++ [.ref rp], upd_same, ?_, by rw [List.length_append]; show gv.length + 1 ≤ _; omega⟩, _, _, _, _, _, rfl⟩
        have ee : waitR b pn (i + 1) = waitR b pn i ++ [(("wait", [(i : Int)]) : FRow)] := by
          unfold waitR
          rw [List.range_succ, filt_snoc, if_pos (by rw [ew]; exact decide_eq_true (by omega)), List.map_append]
          rfl
        rw [ee, ← List.append_assoc]
        refine FRs.tp (Tp.upd hF6) ?_
        exact (rg5.tp (Tp.ex z)).append (FRs.one upd_same)
      · have ee : waitR b pn (i + 1) = waitR b pn i := by
          unfold waitR
          rw [List.range_succ, filt_snoc, if_neg (by rw [ew, decide_eq_false (show ¬ pA pn wa.b.toNat < endP b pn wa.a.toNat + wa.gap by omega)]; exact Bool.false_ne_true)]
        refine ⟨E5, ⟨gv, hF5, ?_, by omega⟩, _, _, _, _, _, rfl⟩
        rw [ee]
        exact rg5
    clear rf3 hF4 lfm E4 h74
    rintro σ H4 ⟨E4, ⟨gv, hF4, rg, lgv⟩, t3, t4, t5, t6, t7, rfl⟩
    rw [lw] at rg lgv
    walk_at "go"
    rename_i P5 nP5 G6 nG6
    have z5 := Ex.new (o := .lst []) nP5
    have z6 := Ex.new (o := .lst []) nG6
    have hP6 : L2.upd (L2.upd H4 P5 (.lst [])) G6 (.lst []) P5 = some (.lst []) := z6 _ _ (new_at24 nP5)
    have hG6 : L2.upd (L2.upd H4 P5 (.lst [])) G6 (.lst []) G6 = some (.lst []) := upd_same
    have nPG : P5 ≠ G6 := ne_of_none (new_at24 nP5) nG6
    have nFP : F ≠ P5 := ne_of_none hF4 nP5
    have nFG : F ≠ G6 := ne_of_none (z5 _ _ hF4) nG6
    have nP0 := Evl.fresh_back E4 nP5
    have nG0 := Evl.fresh_back (E4.trans z5) nG6
    have E6 := E4.trans (z5.trans z6)
    have hF6 := (z5.trans z6) _ _ hF4
    have rg6 := rg.tp (Tp.ex (z5.trans z6))
    generalize L2.upd (L2.upd H4 P5 (.lst [])) G6 (.lst []) = H6 at hP6 hG6 E6 hF6 rg6 ⊢
    clear z5 z6
    have hpp6 := E6 _ _ hpp
    refine ⟨pp, pn, rfl, SqT.of hpp6, by omega, fun mx mmx lmx => ?_⟩
    have mx0 := (ps.po.bd mx mmx).1
    have mx1 := ps.sm mx mmx
    walk_at "go"
    generalize hNN : (mx + 6).toNat = N
    have hN : ∀ x ∈ pn, x < N := fun x mxx => by
      have := lmx x mxx
      omega
    have hN2 : N ≤ 1010 := by omega
    have cl900 : ∀ hr, (crowdL b pn hr).length ≤ 900 := fun hr => by
      have sl : (someL b pn hr).length ≤ 30 := by
        unfold someL runL
        refine Nat.le_trans (List.length_filter_le _ _) (Nat.le_trans (List.length_filter_le _ _) ?_)
        rw [List.length_range]
        exact n30
      have each : ∀ x, (crowL b (someL b pn hr) x).length ≤ 30 := fun x => by
        unfold crowL
        rw [List.length_map]
        exact Nat.le_trans (List.length_filter_le _ _) sl
      have fl : ∀ l : List Nat, (l.flatMap (crowL b (someL b pn hr))).length ≤ 30 * l.length := fun l => by
        induction l with
        | nil => exact Nat.le_refl _
        | cons x r ih =>
          rw [List.flatMap_cons, List.length_append, List.length_cons]
          have := each x
          omega
      have := fl (someL b pn hr)
      unfold crowdL
      omega
    have gl10 : ∀ hr, (goodR b pn hr).length ≤ 10 := fun hr => by
      unfold goodR lackL
      rw [List.length_map]
      refine Nat.le_trans (List.length_filter_le _ _) ?_
      rw [List.length_range]
      exact g10
    have pl : ∀ n, (pairsL b pn n).length ≤ 900 * n := fun n => by
      induction n with
      | zero => exact Nat.le_refl _
      | succ n ih =>
        have := cl900 (n : Int)
        have e : pairsL b pn (n + 1) = pairsL b pn n ++ crowdL b pn (n : Int) := by
          unfold pairsL
          rw [List.range_succ, List.flatMap_append, List.flatMap_cons, List.flatMap_nil, List.append_nil]
        rw [e, List.length_append]
        omega
    have gl : ∀ n, (goodsL b pn n).length ≤ 10 * n := fun n => by
      induction n with
      | zero => exact Nat.le_refl _
      | succ n ih =>
        have := gl10 n
        have e : goodsL b pn (n + 1) = goodsL b pn n ++ goodR b pn n := by
          unfold goodsL
          rw [List.range_succ, List.flatMap_append, List.flatMap_cons, List.flatMap_nil, List.append_nil]
        rw [e, List.length_append]
        omega
    refine loop_range (fun i σ H' => Ex H H' ∧ (H' F = some (.lst gv) ∧ FRs H' gv (fromR b pn b.tasks.length ++ fixR b pn srt ++ waitR b pn b.waits.length)) ∧ (∃ pv, H' P5 = some (.lst pv) ∧ Ts H' pv (pairsL b pn i)) ∧ (∃ ov, H' G6 = some (.lst ov) ∧ FRs H' ov (goodsL b pn i)) ∧ ∃ t3 t4 t7, σ = [some (.ref a), some (.ref pp), some (.ref F), t3, t4, some (.ref P5), some (.ref G6), t7, none, none, none, none]) ⟨E6, ⟨hF6, rg6⟩, ⟨[], hP6, .nil⟩, ⟨[], hG6, .nil⟩, _, _, _, rfl⟩ ?_ ?_
    · clear hP6 hG6 hF6 rg6 E6 hpp6 rg hF4 E4
      rintro i σ H6 hi ⟨E6, ⟨hF6, rg6⟩, ⟨pv, hP6, tp6⟩, ⟨ov, hG6, ro6⟩, t3, t4, t7, rfl⟩
      have ltp := tp6.len
      have lpi := pl i
      have lro := ro6.len
      have lgi := gl i
      walk_at "go"
      refine ⟨_, b, pp, pn, i, rfl, fb.up E6, ps, E6 _ _ hpp, fun R xs H7 e7 nR hR7 txs7 l900 => ?_⟩
      have hP7 := e7 _ _ hP6
      have nRP : P5 ≠ R := ne_of_none hP6 nR
      have lxs := txs7.len
      walk_at "go"
      refine q_extend hP7 hR7 (by omega) ?_
      have E8 : Ex H (L2.upd H7 P5 (.lst (pv ++ xs))) := (E6.trans e7).mut nP0
      have tp8 : Ts (L2.upd H7 P5 (.lst (pv ++ xs))) (pv ++ xs) (pairsL b pn (i + 1)) := by
        have e : pairsL b pn (i + 1) = pairsL b pn i ++ crowdL b pn (i : Int) := by
          unfold pairsL
          rw [List.range_succ, List.flatMap_append, List.flatMap_cons, List.flatMap_nil, List.append_nil]
        rw [e]
        exact Ts.tp (Tp.upd hP7) ((tp6.ex e7).append txs7)
      have hP8 : L2.upd H7 P5 (.lst (pv ++ xs)) P5 = some (.lst (pv ++ xs)) := upd_same
      have hF8 : L2.upd H7 P5 (.lst (pv ++ xs)) F = some (.lst gv) := by rw [upd_ne nFP]; exact e7 _ _ hF6
      have hG8 : L2.upd H7 P5 (.lst (pv ++ xs)) G6 = some (.lst ov) := by rw [upd_ne nPG.symm]; exact e7 _ _ hG6
      have rg8 : FRs (L2.upd H7 P5 (.lst (pv ++ xs))) gv _ := (rg6.tp (Tp.ex e7)).tp (Tp.upd hP7)
      have ro8 : FRs (L2.upd H7 P5 (.lst (pv ++ xs))) ov _ := (ro6.tp (Tp.ex e7)).tp (Tp.upd hP7)
      generalize L2.upd H7 P5 (.lst (pv ++ xs)) = H8 at E8 tp8 hP8 hF8 hG8 rg8 ro8 ⊢
      have td8 : TD H8 (.ref a) (bookM b) := TD.tp (Tp.ex E8) td
      walk_at "go"
      refine ⟨_, b, pp, pn, i, rfl, td8, ps, E8 _ _ hpp, fun L H9 e9 nL hL9 => ?_⟩
      have eg : goodR b pn i = (lackL b pn i).map fun k : Nat => (("good", [(k : Int), (i : Int)]) : FRow) := rfl
      have ll10 : (lackL b pn i).length ≤ 10 := by
        have := gl10 i
        rw [eg, List.length_map] at this
        exact this
      generalize lackL b pn i = ls at hL9 eg ll10
      walk_at "go"
      intro C nC
      refine lcp_list (xs := (ls.map fun j : Nat => (j : Int)).map V.int) (fun k H' => Ex H9 H' ∧ ∃ cv, H' C = some (.lst cv) ∧ FRs H' cv ((ls.take k).map fun k : Nat => ("good", [(k : Int), (i : Int)]))) ⟨Ex.new nC, [], upd_same, .nil⟩ (fun k H' _ h => h.1 _ _ hL9) ?_ ?_
      · rintro k y H10 hy ⟨e10, cv, hC10, rc⟩
        obtain ⟨z, hz, rfl⟩ := map_get hy
        rw [List.getElem?_map] at hz
        obtain ⟨j, hj, rfl⟩ := Option.map_eq_some_iff.mp hz
        have hk := (List.getElem?_eq_some_iff.mp hj).1
        have lcv := rc.len
        rw [List.length_map, List.length_take] at lcv
        walk_at "go"
        rename_i rp nrp
        have z := Ex.new (o := .tup [V.str "good", .int j, .int i]) nrp
        have hC11 := z _ _ hC10
        refine ⟨(e10.trans z).mut nC, cv ++ [.ref rp], upd_same, ?_⟩
        rw [take_snoc hj, List.map_append]
        refine FRs.tp (Tp.upd hC11) ?_
        exact (rc.tp (Tp.ex z)).append (FRs.one (l := [(j : Int), (i : Int)]) upd_same)
      · rintro H10 ⟨e10, cv, hC10, rc⟩
        rw [List.length_map, List.length_map, List.take_length, ← eg] at rc
        have e810 := e9.trans e10
        have hG10 := e810 _ _ hG8
        have lcv := rc.len
        have := gl10 i
        walk_at "go"
        refine q_extend hG10 hC10 (by omega) ?_
        walk_at "go"
        refine ⟨(E8.trans e810).mut nG0, ⟨by rw [upd_ne nFG]; exact e810 _ _ hF8, (rg8.tp (Tp.ex e810)).tp (Tp.upd hG10)⟩, ⟨pv ++ xs, by rw [upd_ne nPG]; exact e810 _ _ hP8, Ts.tp (Tp.upd hG10) (tp8.ex e810)⟩, ⟨ov ++ cv, upd_same, ?_⟩, _, _, _, rfl⟩
        have e : goodsL b pn (i + 1) = goodsL b pn i ++ goodR b pn i := by
          unfold goodsL
          rw [List.range_succ, List.flatMap_append, List.flatMap_cons, List.flatMap_nil, List.append_nil]
        rw [e]
        exact FRs.tp (Tp.upd hG10) ((ro8.tp (Tp.ex e810)).append rc)
    · clear hP6 hG6 hF6 rg6 E6 hpp6 rg hF4 E4
      rintro σ H6 ⟨E6, ⟨hF6, rg6⟩, ⟨pv, hP6, tp6⟩, ⟨ov, hG6, ro6⟩, t3, t4, t7, rfl⟩
      have ltp := tp6.len
      have lpi := pl N
      have lro := ro6.len
      have lgi := gl N
      walk_at "go"
      refine q_sortedNs hP6 tp6 (fun r mr => by
        obtain ⟨x, y, e, _⟩ := (pairs_mem ps.bo ps.po hN).mp mr
        rw [e]
        exact List.cons_ne_nil _ _) fun qp qv qs nqp tsq pmq soq => ?_
      have z7 := Ex.new (o := .lst qv) nqp
      have hq7 : L2.upd H6 qp (.lst qv) qp = some (.lst qv) := upd_same
      have E7 := E6.trans z7
      have hF7 := z7 _ _ hF6
      have hG7 := z7 _ _ hG6
      have rg7 := rg6.tp (Tp.ex z7)
      have ro7 := ro6.tp (Tp.ex z7)
      have ts7 := tsq.ex z7
      generalize L2.upd H6 qp (.lst qv) = H7 at z7 hq7 E7 hF7 hG7 rg7 ro7 ts7 ⊢
      have lqv := ts7.len
      have lqs := pmq.length_eq
      walk_at "go"
      intro W nW
      refine lcp_list (xs := qv) (fun i H' => Ex H7 H' ∧ ∃ wv, H' W = some (.lst wv) ∧ FRs H' wv (machR (qs.take i))) ⟨Ex.new nW, [], upd_same, .nil⟩ (fun i H' _ h => h.1 _ _ hq7) ?_ ?_
      · rintro i x H8 hx ⟨e8, wv, hW8, rw_⟩
        obtain ⟨t, r, rfl, hr, ht⟩ := (ts7.ex e8).get hx
        have hi := (List.getElem?_eq_some_iff.mp hr).1
        have lwv := rw_.len
        have lf : wv.length ≤ 2000000 := by
          rw [lwv]
          unfold machR
          rw [List.length_map, List.length_take]
          omega
        obtain ⟨x1, y1, er, _⟩ := (pairs_mem ps.bo ps.po hN).mp (pmq.mem_iff.mp (List.mem_of_getElem? hr))
        have lr : (r.map V.int).length = 2 := by rw [er]; rfl
        walk_at "go"
        rename_i mp nmp
        have z9 := Ex.new (o := .tup [V.str "machine"]) nmp
        refine q_catT (new_at24 nmp) (z9 _ _ ht) (List.cons_ne_nil _ _) (by rw [lr]; show (1 : Nat) + 2 ≤ 16000000; decide) fun p9 H9 e9 h9 => ?_
        have hW9 := e9 _ _ (z9 _ _ hW8)
        have e89 := z9.trans e9
        walk_at "go"
        refine ⟨(e8.trans e89).mut nW, wv ++ [.ref p9], upd_same, ?_⟩
        have ee : machR (qs.take (i + 1)) = machR (qs.take i) ++ [(("machine", r) : FRow)] := by
          unfold machR
          rw [take_snoc hr, List.map_append]
          rfl
        rw [ee]
        refine FRs.tp (Tp.upd hW9) ?_
        exact (rw_.tp (Tp.ex e89)).append (FRs.one h9)
      · rintro H8 ⟨e8, wv, hW8, rw_⟩
        rw [lqv, List.take_length] at rw_
        have hF8 := e8 _ _ hF7
        have lwv := rw_.len
        have lf : wv.length ≤ 2000000 := by
          rw [lwv]
          unfold machR
          rw [List.length_map]
          omega
        refine q_catL hF8 hW8 (by omega) fun c1 nc1 => ?_
        have z9 := Ex.new (o := .lst (gv ++ wv)) nc1
        have hc9 : L2.upd H8 c1 (.lst (gv ++ wv)) c1 = some (.lst (gv ++ wv)) := upd_same
        have e89 := e8.trans z9
        generalize L2.upd H8 c1 (.lst (gv ++ wv)) = H9 at z9 hc9 e89 ⊢
        have hG9 := e89 _ _ hG7
        have lgw : (gv ++ wv).length ≤ 3000000 := by rw [List.length_append]; omega
        walk_at "go"
        rename_i c2 nc2
        have zA := Ex.new (o := .lst ((gv ++ wv) ++ ov)) nc2
        refine q c2 _ (fromR b pn b.tasks.length ++ fixR b pn srt ++ waitR b pn b.waits.length ++ machR qs ++ goodsL b pn N) _ (E7.trans (e89.trans zA)) upd_same ?_ ?_ (by rw [List.length_append]; omega)
        · exact ((((rg7.tp (Tp.ex e8)).append rw_).append (ro7.tp (Tp.ex e8))).tp (Tp.ex (z9.trans zA)))
        · rw [← five_head, fromR_head, fixR_head ps.bo pms srtd, waitR_head, machR_head ps.bo ps.po hN pmq soq, goodsL_head ps.bo ps.po hN gp]
          rfl

end
end Bk24


namespace Bk24
open PySem PySem.Spec PyProof.Rows L2 Bs
open Evl (Ex)
section
variable {P : Program} {w : World} {K : PySem.W.Frag} {mg : Str → Option Value} {base : Heap}
/-! ### faults told as texts -/
def fltD : Flt → PyData
  | none => .none
  | some (s, l) => .tuple (.str s :: l.map .int)
def FWord (s : Str) : Prop := s = "from" ∨ s = "fixed" ∨ s = "wait" ∨ s = "machine" ∨ s = "good"
def FBd (i : Int) : Prop := 0 ≤ i ∧ i ≤ 1000000000
def FlOk (o : Flt) : Prop := ∀ s l, o = some (s, l) → FWord s ∧ ((∃ i, l = [i] ∧ FBd i) ∨ ∃ i j, l = [i, j] ∧ FBd i ∧ FBd j)
theorem flt_dp {K : PySem.W.Frag} {H : Hp} {v : V} {o : Flt} (h : FltAt H v o) (k : FlOk o) : Dp K H v (fltD o) := by
  cases o with
  | none =>
    have h' : v = .non := h
    rw [h']
    exact .non
  | some x =>
    obtain ⟨s, l⟩ := x
    obtain ⟨p, rfl, hp⟩ := h
    obtain ⟨_, ⟨i, rfl, _⟩ | ⟨i, j, rfl, _⟩⟩ := k s l rfl
    · exact .tup (SqT.of hp) (.cons (.str _) (.cons (.int _) .nil))
    · exact .tup (SqT.of hp) (.cons (.str _) (.cons (.int _) (.cons (.int _) .nil)))
theorem fword_ok {s : Str} (h : FWord s) : PyData.strOk s = true ∧ s.cps.size ≤ 10 := by
  rcases h with rfl | rfl | rfl | rfl | rfl <;> exact ⟨by decide +kernel, by decide +kernel⟩
theorem flt_show {o : Flt} (k : FlOk o) : okInt (fltD o) ∧ (fltD o).showable = true ∧ (fltD o).hasDict = false ∧ (fltD o).depth ≤ 50 ∧ (fltD o).shown.length ≤ sizeLine := by
  have sm : ∀ {i : Int}, FBd i → i.natAbs.log2 < 1000 ∧ (PyData.shown (.int i)).length ≤ 13 := fun {i} ⟨h0, h1⟩ => by
    refine ⟨?_, PyData.shown_int_le (by omega)⟩
    by_cases z : i.natAbs = 0
    · rw [z]
      decide
    · have : i.natAbs.log2 < 40 := (Nat.log2_lt z).mpr (Nat.lt_of_le_of_lt (show i.natAbs ≤ 1000000000 by omega) (by decide))
      omega
  cases o with
  | none => exact ⟨True.intro, rfl, rfl, by show 0 ≤ 50; decide, by rw [sizeLine_eq]; decide +kernel⟩
  | some x =>
    obtain ⟨s, l⟩ := x
    obtain ⟨fw, ⟨i, rfl, bi⟩ | ⟨i, j, rfl, bi, bj⟩⟩ := k s l rfl
    · obtain ⟨so, sz⟩ := fword_ok fw
      obtain ⟨a1, a2⟩ := sm bi
      have c0 : PyData.canLay0 (.tuple [.str s, .int i]) = true := by
        show (PyData.strOk s && (true && true)) = true
        rw [so]
        rfl
      have ly : PyData.layable0 (.tuple [.str s, .int i]) = true := by
        unfold PyData.layable0
        rw [c0]
        simp only [PyData.depth, PyData.depthAll, PyData.weight, PyData.weightAll, Bool.true_and, Bool.and_true, Bool.and_eq_true, decide_eq_true_eq]
        refine ⟨decide_eq_true (by show max 0 (max 0 0) + 1 ≤ 64; omega), decide_eq_true ?_⟩
        have e20 : 2 ^ 20 = 1048576 := by decide
        rw [e20]
        split <;> omega
      refine ⟨True.intro, ?_, rfl, by show 1 ≤ 50; decide, showable_of ly ?_⟩
      · show (true && (decide _ && true)) = true
        rw [decide_eq_true (show i.natAbs.log2 < 1920 by omega)]
        rfl
      · show (true && (decide _ && true)) = true
        rw [decide_eq_true a2]
        rfl
    · obtain ⟨so, sz⟩ := fword_ok fw
      obtain ⟨a1, a2⟩ := sm bi
      obtain ⟨b1, b2⟩ := sm bj
      have c0 : PyData.canLay0 (.tuple [.str s, .int i, .int j]) = true := by
        show (PyData.strOk s && (true && (true && true))) = true
        rw [so]
        rfl
      have ly : PyData.layable0 (.tuple [.str s, .int i, .int j]) = true := by
        unfold PyData.layable0
        rw [c0]
        simp only [PyData.depth, PyData.depthAll, PyData.weight, PyData.weightAll, Bool.true_and, Bool.and_true, Bool.and_eq_true, decide_eq_true_eq]
        refine ⟨decide_eq_true (by show max 0 (max 0 (max 0 0)) + 1 ≤ 64; omega), decide_eq_true ?_⟩
        have e20 : 2 ^ 20 = 1048576 := by decide
        rw [e20]
        split <;> split <;> omega
      refine ⟨True.intro, ?_, rfl, by show 1 ≤ 50; decide, showable_of ly ?_⟩
      · show (true && (decide _ && (decide _ && true))) = true
        rw [decide_eq_true (show i.natAbs.log2 < 1920 by omega), decide_eq_true (show j.natAbs.log2 < 1920 by omega)]
        rfl
      · show (true && (decide _ && (decide _ && true))) = true
        rw [decide_eq_true a2, decide_eq_true b2]
        rfl
theorem hoursOf_mem {pn : List Int} {h : Int} (m : h ∈ hoursOf pn) : h ∈ pn := by
  unfold hoursOf at m
  by_cases c : ∃ S : List Int, S.Pairwise (· < ·) ∧ ∀ k, k ∈ S ↔ k ∈ pn
  · rw [dif_pos c] at m
    exact ((Classical.choose_spec c).2 h).mp m
  · rw [dif_neg c] at m
    cases m
theorem fault_ok {b : Bk} {pn : List Int} (bo : BkOk b) (po : PlOk b pn) : FlOk (faultO b pn) := by
  intro s l h
  have n30 := bo.n
  have w60 := bo.waits
  have g10 := bo.goods
  obtain ⟨x, mx, ex⟩ := List.exists_of_findSome?_eq_some h
  have one : ∀ (p : Nat → Bool) (wd : Str) (n : Nat), n ≤ 100 → FWord wd → ((List.range n).findSome? fun i => if p i = true then some ((wd, [(i : Int)]) : Str × List Int) else none) = some (s, l) → FWord s ∧ ((∃ i, l = [i] ∧ FBd i) ∨ ∃ i j, l = [i, j] ∧ FBd i ∧ FBd j) := fun p wd n hn hw e => by
    obtain ⟨i, mi, ei⟩ := List.exists_of_findSome?_eq_some e
    have := List.mem_range.mp mi
    by_cases c : p i = true
    · rw [if_pos c] at ei
      cases ei
      exact ⟨hw, .inl ⟨_, rfl, by constructor <;> omega⟩⟩
    · rw [if_neg c] at ei
      cases ei
  simp only [List.mem_cons, List.not_mem_nil, or_false] at mx
  rcases mx with e | e | e | e | e
  · rw [e] at ex
    exact one _ _ _ (by omega) (.inl rfl) ex
  · rw [e] at ex
    exact one _ _ _ (by omega) (.inr (.inl rfl)) ex
  · rw [e] at ex
    exact one _ _ _ (by omega) (.inr (.inr (.inl rfl))) ex
  · rw [e] at ex
    obtain ⟨i, mi, ei⟩ := List.exists_of_findSome?_eq_some (show machO b pn = some (s, l) from ex)
    obtain ⟨j, mj, ej⟩ := List.exists_of_findSome?_eq_some ei
    have h1 := List.mem_range.mp mi
    have h2 := matesL_mem mj
    unfold hitO at ej
    by_cases c : hitB b pn i j = true
    · rw [if_pos c] at ej
      cases ej
      exact ⟨.inr (.inr (.inr (.inl rfl))), .inr ⟨_, _, rfl, by constructor <;> omega, by constructor <;> omega⟩⟩
    · rw [if_neg c] at ej
      cases ej
  · rw [e] at ex
    obtain ⟨hr, mh, eh⟩ := List.exists_of_findSome?_eq_some (show goodO b pn = some (s, l) from ex)
    obtain ⟨k, mk, ek⟩ := List.exists_of_findSome?_eq_some eh
    have h1 := List.mem_range.mp mk
    have h2 := po.bd hr (hoursOf_mem mh)
    unfold lackO at ek
    by_cases c : decide ((gdA b k).2 < usedS (usesN b pn (gdA b k).1 b.tasks.length) hr) = true
    · rw [if_pos c] at ek
      cases ek
      exact ⟨.inr (.inr (.inr (.inr rfl))), .inr ⟨_, _, rfl, by constructor <;> omega, h2⟩⟩
    · rw [if_neg c] at ek
      cases ek
theorem MBk.ok {b : Bk} {most long held : Int} (mb : MBk b most long held) (m30 : most ≤ 30) (l1000 : long ≤ 1000) (h30 : held ≤ 30) : BkOk b := by
  obtain ⟨f1, f2⟩ := mb.few
  obtain ⟨os, io, okw⟩ := mb.wait
  have hg := mb.goods
  have hh := mb.fixeds
  refine ⟨by omega, fun t mt => ?_, fun t mt => ?_, by omega, mb.waits, fun x mx => ?_, by omega, mb.once, fun x mx => ?_⟩
  · have k := mb.task t mt
    have l := k.len
    have f := k.frm
    omega
  · have k := mb.task t mt
    refine ⟨mb.names.sublist k.names, fun n mn => ?_⟩
    obtain ⟨n1, g, mg_, _, n2⟩ := k.needs n mn
    have := mb.good g mg_
    omega
  · obtain ⟨⟨i, j, _, hi, hj⟩, g0, g1⟩ := okw x mx
    have h1 := io.bd (List.mem_of_getElem? hi)
    have h2 := io.bd (List.mem_of_getElem? hj)
    omega
  · obtain ⟨i, t, e, hi, _⟩ := mb.fixed x mx
    have := (List.getElem?_eq_some_iff.mp hi).1
    omega
theorem q_repF {K : PySem.W.Frag} {H : Hp} {Q : VK} {v : V} {o : Flt} (h : FltAt H v o) (k : FlOk o) (q : Q (.str (fltD o).shown) H) : rReprD K [v] H Q := by
  obtain ⟨a, b, c, d, e⟩ := flt_show k
  exact ⟨v, fltD o, rfl, flt_dp h k, a, b, c, d, e, q⟩
theorem flt_shaped {o : Flt} (k : FlOk o) : SeqAt.shaped (fltD o) = true := by
  cases o with
  | none => rfl
  | some x =>
    obtain ⟨s, l⟩ := x
    obtain ⟨fw, ⟨i, rfl, bi⟩ | ⟨i, j, rfl, bi, bj⟩⟩ := k s l rfl
    · obtain ⟨so, sz⟩ := fword_ok fw
      have c0 : PyData.canLay0 (.tuple [.str s, .int i]) = true := by
        show (PyData.strOk s && (true && true)) = true
        rw [so]
        rfl
      show SeqAt.shaped (.tuple [.str s, .int i]) = true
      unfold SeqAt.shaped
      rw [c0]
      rfl
    · obtain ⟨so, sz⟩ := fword_ok fw
      have c0 : PyData.canLay0 (.tuple [.str s, .int i, .int j]) = true := by
        show (PyData.strOk s && (true && (true && true))) = true
        rw [so]
        rfl
      show SeqAt.shaped (.tuple [.str s, .int i, .int j]) = true
      unfold SeqAt.shaped
      rw [c0]
      rfl

/-! ### the law -/
theorem gd_pos {b : Bk} {most long held : Int} (mb : MBk b most long held) : ∀ k, k < b.goods.length → 0 ≤ (gdA b k).2 := fun k hk => by
  have e : b.goods[k]? = some b.goods[k] := List.getElem?_eq_getElem hk
  rw [gdA_of e]
  have := mb.good _ (List.mem_of_getElem? e)
  omega
theorem q_slU {K : PySem.W.Frag} {H : Hp} {Q : VK} {a : Addr} {xs : List V} {lo hi : Option Int} (h : H a = some (.tup xs)) (q : ∀ p H', Ex H H' → H' p = some (.tup (cutV xs lo hi)) → Q (.ref p) H') : rSlA K (.ref a) lo hi H Q :=
  q_slA h (fun e => q a H (Ex.refl H) (by rw [e]; exact h)) fun p np => q p _ (Ex.new np) upd_same
def cutW (x : Wt) : Wt := ⟨x.a, x.b, x.gap % 9⟩
def spLaw (K : PySem.W.Frag) : Sp := fun vs H Q _ => ∃ (a : Addr) (ns : List Int), vs = [.ref a] ∧ SqL K H a (ns.map V.int) ∧ ns.length ≤ 63 ∧ ∀ H', Q (.bl true) H'
theorem ok_law (T : Tx K mg) {f : Addr} {fd : FuncData} (F : Fun K "law" "law" s_law f fd) : FnOk P w K mg base CX0 5 f fd ["script"] (spLaw K) := by
  have G__law_started : Cal P w K mg base 1 "_law_started" ["script"] (spMStart K) := ok__law_started T
  have G__law_book : Cal P w K mg base 4 "_law_book" ["m", "most", "long", "held"] (spMBook K) := ok__law_book T
  have G__law_order : Cal P w K mg base 2 "_law_order" ["m", "many"] (spMOrder K) := ok__law_order T
  have G__law_listed : Cal P w K mg base 3 "_law_listed" ["book", "row"] (spListed K) := ok__law_listed T
  have G__law_bent : Cal P w K mg base 3 "_law_bent" ["m", "book", "plan"] (spMBent K) := ok__law_bent T
  have G__law_faults : Cal P w K mg base 3 "_law_faults" ["book", "plan"] (spFaults K) := ok__law_faults T
  have G_fault_of : Cal P w K mg base 4 "fault_of" ["book", "plan"] (spFault K) := ok_fault_of T
  refine F.ok sc_law (fun vs H Q E h => ?_) (fun cdv A outer s H vs Q E hr h => ?_)
  · obtain ⟨a, ns, rfl, _⟩ := h
    rfl
  · obtain ⟨a, ns, rfl, hS, hl, q⟩ := h
    have p7 : (10 : Int) ^ 7 = 10000000 := by decide
    have p8 : (10 : Int) ^ 8 = 100000000 := by decide
    have p9 : (10 : Int) ^ 9 = 1000000000 := by decide
    refine ⟨_, (pss_cons (ps_set (i := 1) sc_law.nd rfl (.inl rfl) (pe_cal G__law_started (hr.mono (by decide)) (by rfl) (pa_cons (pv 0) pa_nil)))
    (pss_cons (ps_for PassesOwn.never rfl (pi_range1 (by rfl) T.b_range (pa_cons (pe_callB (au_max2 rfl) (by rfl) T.b_max (by decide +kernel) (pa_cons pe_int (pa_cons (pe_callB (au_min2 rfl) (by rfl) T.b_min (by decide +kernel) (pa_cons pe_int (pa_cons (pe_callB (lenK (K := K)) (by rfl) T.b_len (by decide +kernel) (pa_cons (pv 0) pa_nil)) pa_nil))) pa_nil))) pa_nil)) (pg_name (i := 2) sc_law.nd rfl (.inl rfl)) (pss_cons (ps_set (i := 3) sc_law.nd rfl (.inl rfl) (pe_cal G__law_book hr (by rfl) (pa_cons (pv 1) (pa_cons pe_int (pa_cons pe_int (pa_cons pe_int pa_nil))))))
    (pss_cons (ps_setLc (i := 4) (own := [("a", 9), ("b", 10), ("gap", 11)]) rfl sc_law.nd rfl rfl (sw_true rfl rfl rfl (by decide +kernel)) (piTK (K := K) (pe_slice (slAK (K := K)) (pe_ix (ixT (K := K)) (pv 3) pe_int (fun _ _ => rfl)) po_none (po_some pe_int))) (blkOk_by (own := [("a", 9), ("b", 10), ("gap", 11)]) (N := N_law) (sc := defScope s_law) (by decide +kernel)) (fun _ _ _ _ _ => (pgTK (K := K) (n := 3) (by rfl) (pgs_cons (pg_name (i := 9) sc_law.nd rfl (.inl rfl)) (pgs_cons (pg_name (i := 10) sc_law.nd rfl (.inl rfl)) (pgs_cons (pg_name (i := 11) sc_law.nd rfl (.inl rfl)) pgs_nil))))) (fun _ _ _ _ _ => pts_nil) (fun _ _ _ _ _ => (pe_tup (pa_cons (pv 9) (pa_cons (pv 10) (pa_cons (pe_op op_mod (pv 11) pe_int) pa_nil))))))
    (pss_cons (ps_set (i := 3) sc_law.nd rfl (.inl rfl) (pe_op (catTK (K := K)) (pe_slice (slTK (K := K)) (pv 3) po_none (po_some pe_int)) (pe_tup (pa_cons (pe_callTy (au_tuple (K := K)) (by rfl) T.b_tuple (by decide +kernel) (pa_cons (pv 4) pa_nil)) (pa_cons (pe_ix (ixT (K := K)) (pv 3) pe_int (fun _ _ => rfl)) pa_nil)))))
    (pss_cons (ps_set (i := 5) sc_law.nd rfl (.inl rfl) (pe_cal G__law_listed (hr.mono (by decide)) (by rfl) (pa_cons (pv 3) (pa_cons (pe_cal G__law_order (hr.mono (by decide)) (by rfl) (pa_cons (pv 1) (pa_cons (pe_callB (lenK (K := K)) (by rfl) T.b_len (by decide +kernel) (pa_cons (pe_ix (ixT (K := K)) (pv 3) pe_int (fun _ _ => rfl)) pa_nil)) pa_nil))) pa_nil))))
    (pss_one (ps_for PassesOwn.never rfl (pi_range1 (by rfl) T.b_range (pa_cons pe_int pa_nil)) (pg_name (i := 6) sc_law.nd rfl (.inl rfl)) (pss_cons (ps_set (i := 7) sc_law.nd rfl (.inl rfl) (pe_callTy (au_tuple (K := K)) (by rfl) T.b_tuple (by decide +kernel) (pa_cons (pe_lc (own := [("begin", 12)]) rfl sc_law.nd (piTK (K := K) (pe_cal G__law_bent (hr.mono (by decide)) (by rfl) (pa_cons (pv 1) (pa_cons (pv 3) (pa_cons (pv 5) pa_nil))))) (blkOk_by (own := [("begin", 12)]) (N := N_law) (sc := defScope s_law) (by decide +kernel)) (fun _ _ _ _ _ => (pg_name (i := 12) sc_law.nd rfl (.inl rfl))) (fun _ _ _ _ _ => pts_nil) (fun _ _ _ _ _ => (pe_callB (au_min2 rfl) (by rfl) T.b_min (by decide +kernel) (pa_cons pe_int (pa_cons (pv 12) pa_nil))))) pa_nil)))
    (pss_cons (ps_set (i := 8) sc_law.nd rfl (.inl rfl) (pe_cal G__law_faults (hr.mono (by decide)) (by rfl) (pa_cons (pv 3) (pa_cons (pv 7) pa_nil))))
    (pss_one (ps_if (pt_cmpR (neDK (K := K) hr.units) (pe_cal G_fault_of hr (by rfl) (pa_cons (pv 3) (pa_cons (pv 7) pa_nil))) (pe_ix (ixL (K := K)) (pe_op op_cat (pv 8) (pe_lst (pa_cons pe_non pa_nil))) pe_int (fun _ _ => rfl)) (nomark _)) (pss_one (ps_ret pe_bl)) pss_nil)))))))))))
    (pss_one (ps_ret pe_bl)))), q_start (τ := [some _, none, none, none, none, none, none, none, none, none, none, none, none]) rfl ?_⟩
    have lns : (ns.map V.int).length = ns.length := List.length_map _
    walk_at "go"
    refine ⟨a, ns, rfl, hS, hl, fun m r H1 e1 nm nr hm => ?_⟩
    have hS1 := Evl.ex_l e1 hS
    walk_at "go"
    generalize hz : (max 2 (min 20 ((ns.map V.int).length : Int))).toNat = z
    have hz1 : z ≤ 20 := by omega
    refine loop_range (fun i σ H' => MAt K H H' m r a ns (4000 * i) ∧ ∃ t2 t3 t4 t5 t6 t7 t8, σ = [some (.ref a), some (.ref m), t2, t3, t4, t5, t6, t7, t8, none, none, none, none]) ⟨hm.mono (by omega), _, _, _, _, _, _, _, rfl⟩ ?_ ?_
    · rintro i σ H2 hi ⟨hm2, t2, t3, t4, t5, t6, t7, t8, rfl⟩
      walk_at "go"
      refine ⟨H, m, r, a, ns, _, 7, 5, 2, rfl, hm2, by omega, by omega, by omega, by omega, by omega, by omega, by omega, fun v b H5 td mb b5 hm5 => ?_⟩
      obtain ⟨ba, mm, g, ta, wt, fx, rfl, hab, hmm, hgg, htt, ⟨wxs, hw, rw_⟩, hff⟩ := bookM_parts td
      have w60 := mb.waits
      have lw := rw_.len
      obtain ⟨osw, iow, okw⟩ := mb.wait
      walk_at "go"
      have ec8 : cutV wxs none (some 8) = wxs.take 8 := cutV_loN (a := 8)
      refine q_slU hw fun wp H6 e56 hwp => ?_
      rw [ec8] at hwp
      walk_at "go"
      first | (refine ⟨wp, rfl, ⟨_, SqT.of hwp⟩, ?_⟩) | skip
      intro D nD
      have nD0 := Evl.fresh_back e56 nD
      have nDw : wp ≠ D := ne_of_none hwp nD
      refine lcp_tup (xs := wxs.take 8) (fun j H' => Ex H5 H' ∧ H' wp = some (.tup (wxs.take 8)) ∧ ∃ dv, H' D = some (.lst dv) ∧ RowsAt waitD H' dv (((b.waits.take 8).take j).map cutW)) ⟨e56.trans (Ex.new nD), (Ex.new nD) _ _ hwp, [], upd_same, .nil⟩ (fun j H' _ h => h.2.1) ?_ ?_
      · rintro j x H7 hx ⟨e7, hwp7, dv, hD7, rd⟩
        have hj := (List.getElem?_eq_some_iff.mp hx).1
        rw [List.length_take] at hj
        have hx' : wxs[j]? = some x := by
          rw [List.getElem?_take_of_lt (by omega)] at hx
          exact hx
        obtain ⟨wa, hwa, wd⟩ := (RowsAt.tp (Tp.ex e7) rw_).get hx'
        obtain ⟨wq, rfl, hwq⟩ := wait_parts wd
        have hwa' : (b.waits.take 8)[j]? = some wa := by
          rw [List.getElem?_take_of_lt (by omega)]
          exact hwa
        have ldv := rd.len
        rw [List.length_map, List.length_take, List.length_take] at ldv
        walk_at "go"
        rename_i tp ntp
        have zx := Ex.new (o := .tup [V.int wa.a, V.int wa.b, V.int (wa.gap % 9)]) ntp
        have hD8 := zx _ _ hD7
        refine ⟨(e7.trans zx).mut nD0, by rw [upd_ne nDw]; exact zx _ _ hwp7, dv ++ [.ref tp], upd_same, ?_⟩
        refine RowsAt.tp (Tp.upd hD8) ?_
        unfold RowsAt
        rw [take_snoc hwa', List.map_append, List.map_append]
        exact TDs.append (RowsAt.tp (Tp.ex zx) rd) (.cons (.tup upd_same (.cons (.int _) (.cons (.int _) (.cons (.int _) .nil)))) .nil)
      rintro H7 ⟨e7, hwp7, dv, hD7, rd⟩
      have eW : ((b.waits.take 8).take (wxs.take 8).length).map cutW = (b.waits.take 8).map cutW := by rw [List.take_of_length_le (by rw [List.length_take, List.length_take]; omega)]
      rw [eW] at rd
      have hab7 := e7 _ _ hab
      walk_at "go"
      refine q_slT_lo (k := 3) hab7 (by show 3 < 5; decide) fun p3 np3 => ?_
      have z8 := Ex.new (o := .tup ([V.ref mm, V.ref g, V.ref ta, V.ref wt, V.ref fx].take 3)) np3
      have hp38 : L2.upd H7 p3 (.tup ([V.ref mm, V.ref g, V.ref ta, V.ref wt, V.ref fx].take 3)) p3 = some (.tup [V.ref mm, V.ref g, V.ref ta]) := upd_same
      have hD8 := z8 _ _ hD7
      have e8 := e7.trans z8
      generalize L2.upd H7 p3 (.tup ([V.ref mm, V.ref g, V.ref ta, V.ref wt, V.ref fx].take 3)) = H8 at z8 hp38 hD8 e8 ⊢
      have hab8 := e8 _ _ hab
      walk_at "go"
      rename_i tw ntw p4 np4
      have z9 := Ex.new (o := .tup dv) ntw
      have z10 := Ex.new (o := .tup [V.ref tw, V.ref fx]) np4
      have htw := z10 _ _ (new_at24 (o := .tup dv) ntw)
      have hp4 := new_at24 (o := .tup [V.ref tw, V.ref fx]) np4
      have e810 := z9.trans z10
      have rd8 := RowsAt.tp (Tp.ex (z8.trans e810)) rd
      have hp310 := e810 _ _ hp38
      have e10 := e8.trans e810
      generalize L2.upd (L2.upd H8 tw (.tup dv)) p4 (.tup [V.ref tw, V.ref fx]) = H10 at htw hp4 rd8 hp310 e10 ⊢
      refine q_catT hp310 hp4 (List.cons_ne_nil _ _) (by show (3 : Nat) + 2 ≤ 16000000; decide) fun nb H11 e11 hnb => ?_
      have e511 := e10.trans e11
      have hm11 := hm5.ex e511
      have htw11 := e11 _ _ htw
      have rd11 := RowsAt.tp (Tp.ex e11) rd8
      obtain ⟨b', hb'⟩ : ∃ b' : Bk, b' = ⟨b.machs, b.goods, b.tasks, (b.waits.take 8).map cutW, b.fixed⟩ := ⟨_, rfl⟩
      have td11 : TD H11 (.ref nb) (bookM b') := by
        rw [hb']
        obtain ⟨x1, g1, k1⟩ := hmm
        obtain ⟨x2, ⟨o2, d2, g2⟩, k2⟩ := hgg
        obtain ⟨x3, g3, k3⟩ := htt
        obtain ⟨x5, ⟨o5, d5, g5⟩, k5⟩ := hff
        have tpx := Tp.ex e511
        exact .tup hnb (.cons (.tup (e511 _ _ g1) (RowsAt.tp tpx k1)) (.cons (.frz d2 (e511 _ _ g2) (RowsAt.tp tpx k2)) (.cons (.tup (e511 _ _ g3) (RowsAt.tp tpx k3)) (.cons (.tup htw11 rd11) (.cons (.frz d5 (e511 _ _ g5) (RowsAt.tp tpx k5)) .nil)))))
      have mb' : MBk b' 7 5 2 := by
        rw [hb']
        refine ⟨mb.machs, mb.goods, mb.names, mb.good, mb.few, mb.task, by dsimp only; rw [List.length_map, List.length_take]; omega, ⟨osw, iow, fun x mx => ?_⟩, mb.fixeds, mb.once, mb.fixed⟩
        obtain ⟨y, my, rfl⟩ := List.mem_map.mp mx
        obtain ⟨at_, g0, g1⟩ := okw y (List.mem_of_mem_take my)
        refine ⟨at_, ?_⟩
        show 0 ≤ y.gap % 9 ∧ y.gap % 9 ≤ 1000
        omega
      have gp := gd_pos mb'
      have bo : BkOk b' := mb'.ok (by omega) (by omega) (by omega)
      have ln : ∀ t ∈ b'.tasks, t.needs.length ≤ 10 := fun t mt => by
        have k := (mb'.task t mt).names.length_le
        have := mb'.goods
        rw [List.length_map, List.length_map] at k
        omega
      obtain ⟨f1, f2⟩ := mb'.few
      obtain ⟨_, _, _, ta', _, _, en, hnb', _, _, ⟨txs, ht', rt'⟩, _, _⟩ := bookM_parts td11
      cases en
      have lt' := rt'.len
      clear hmm hgg htt hff hnb hab7 hb' rd11 htw11 rd8 hp310 hp4 htw e810 hab8 hp38 hD8 hD7 hwp7 rd hwp
      walk_at "go"
      refine ⟨H, m, r, a, ns, _, txs.length, rfl, hm11, by omega, by omega, fun ol_ os H12 io b12 hm12 nol hol => ?_⟩
      rw [lt'] at io
      walk_at "go"
      refine ⟨_, b', ol_, os, 7, 5, 2, rfl, TD.tp (hm11.tp b12) td11, mb', by omega, by omega, by omega, hol, io, fun pp pn H13 e13 hpp lp bp => ?_⟩
      have hm13 := hm12.ex e13
      have td13 := TD.tp (Tp.ex e13) (TD.tp (hm11.tp b12) td11)
      walk_at "go"
      obtain ⟨C, hC, hm13'⟩ : ∃ C : Int, C ≤ 4000 * i + 2100 ∧ MAt K H H13 m r a ns C := ⟨_, by omega, hm13⟩
      refine loop_range (fun j σ H' => ButM m r H13 H' ∧ MAt K H H' m r a ns (C + 60 * j) ∧ ∃ t6 t7 t8, σ = [some (.ref a), some (.ref m), some (.int i), some (.ref nb), some (.ref D), some (.ref pp), t6, t7, t8, none, none, none, none]) ⟨ButM.refl _, hm13'.mono (by omega), _, _, _, rfl⟩ ?_ ?_
      · rintro j σ H14 hj ⟨b14, hm14, t6, t7, t8, rfl⟩
        have hj3 : j < 3 := by omega
        have td14 := TD.tp (hm13'.tp b14) td13
        have hpp14 := (hm13'.tp b14).tup _ _ hpp
        walk_at "go"
        refine ⟨H, m, r, a, ns, _, _, pp, pn, rfl, hm14, by omega, hpp14, by omega, by omega, fun x mx => by have := bp x mx; omega, fun p qn H15 hp lq bq b15 hm15 => ?_⟩
        have td15 := TD.tp (hm14.tp b15) td14
        walk_at "go"
        intro B nB
        have oB := hm15.nem nB
        refine lcp_tup (xs := qn.map V.int) (fun k H' => Ex H15 H' ∧ H' B = some (.lst (((qn.take k).map fun x => min 100 x).map V.int))) ⟨Ex.new nB, upd_same⟩ (fun k H' _ h => h.1 _ _ hp) ?_ ?_
        · rintro k x H16 hx ⟨e16, hB16⟩
          obtain ⟨z, hz, rfl⟩ := map_get hx
          have hk := (List.getElem?_eq_some_iff.mp hz).1
          have lf : (((qn.take k).map fun x => min 100 x).map V.int).length ≤ 1000 := by
            rw [List.length_map, List.length_map, List.length_take]
            omega
          walk_at "go"
          refine ⟨e16.mut nB, ?_⟩
          rw [upd_same, take_snoc hz]
          simp only [List.map_append]
          rfl
        rintro H16 ⟨e16, hB16⟩
        rw [List.length_map, List.take_length] at hB16
        have pq : PlOk b' (qn.map fun x => min 100 x) := ⟨by rw [List.length_map]; omega, fun x mx => by
          obtain ⟨y, my, rfl⟩ := List.mem_map.mp mx
          have := bq y my
          omega⟩
        have psm : PlSm b' (qn.map fun x => min 100 x) := ⟨bo, pq, fun x mx => by
          obtain ⟨y, my, rfl⟩ := List.mem_map.mp mx
          omega, ln⟩
        generalize (qn.map fun x => min 100 x) = wn at hB16 pq psm
        have fo := fault_ok bo pq
        walk_at "go"
        rename_i pb npb
        have z17 := Ex.new (o := .tup (wn.map V.int)) npb
        have hpb := new_at24 (o := .tup (wn.map V.int)) npb
        have e17 := e16.trans z17
        generalize L2.upd H16 pb (.tup (wn.map V.int)) = H17 at z17 hpb e17 ⊢
        have td17 := TD.tp (Tp.ex e17) td15
        refine ⟨_, b', pb, wn, rfl, td17, psm, f1, gp, hpb, fun R rv rows H18 e18 hR18 rr hrows lrv => ?_⟩
        have td18 := TD.tp (Tp.ex e18) td17
        have hpb18 := e18 _ _ hpb
        walk_at "go"
        refine ⟨_, b', pb, wn, rfl, FB.of td18, bo, pq, hpb18, fun x H19 e19 flx => ?_⟩
        have hR19 := e19 _ _ hR18
        have rr19 := rr.tp (Tp.ex e19)
        walk_at "go"
        rename_i n0 nn0 n1 nn1
        have z20 := (Ex.new (o := .lst [V.non]) nn0).trans (Ex.new (o := .lst (rv ++ [V.non])) nn1)
        have hn1 := new_at24 (o := .lst (rv ++ [V.non])) nn1
        have fl20 := (rr19.tp (Tp.ex z20)).head
        have flx20 := flx.ex z20
        have eat : atI (rv ++ [V.non]) 0 = some ((rv ++ [V.non]).headD .non) := by
          cases rv <;> exact atI_nat (j := 0) rfl
        have e20 := (e17.trans e18).trans (e19.trans z20)
        generalize L2.upd (L2.upd H19 n0 (.lst [V.non])) n1 (.lst (rv ++ [V.non])) = H20 at hn1 fl20 flx20 e20 ⊢
        rw [hrows] at fl20
        generalize (rv ++ [V.non]).headD .non = hv at eat fl20
        refine q_ixL hn1 eat ?_
        walk_at "go"
        refine q_neD (flt_dp flx20 fo) (flt_dp fl20 fo) (flt_shaped fo) (flt_shaped fo) ?_
        rw [eqv_same (flt_shaped fo)]
        walk_at "go"
        exact ⟨(b14.trans b15).ex e20, (hm15.ex e20).mono (by omega), _, _, _, rfl⟩
      · rintro σ H14 ⟨b14, hm14, t6, t7, t8, rfl⟩
        exact ⟨hm14.mono (by omega), _, _, _, _, _, _, _, rfl⟩
    · rintro σ H2 ⟨hm2, t2, t3, t4, t5, t6, t7, t8, rfl⟩
      walk_at "go"
      exact q _

end
end Bk24

namespace Bk24
open PySem PySem.Spec PyProof.Rows L2 Bs
open Evl (Ex)
section
variable {P : Program} {w : World} {K : PySem.W.Frag} {mg : Str → Option Value} {base : Heap}
theorem law_of (T : Tx K mg) {fa : Addr} (hfa : mg "law" = some (.ref fa)) :
    ∃ fd : FuncData, (∀ (s : Shared) (v : Value), BindsTo s fd ⟨[v], []⟩ [("script", v)]) ∧ ∀ base : Heap, K.In base → base.Ns mainGlobals mg → FnOk P w K mg base CX0 5 fa fd ["script"] (spLaw K) :=
  law_end T.d_law hfa fun _ _ _ F => ok_law T F
end
theorem tx_mk {K : PySem.W.Frag} {h : Heap} {mg : Str → Option Value} (X : K.In h) (G : h.Ns mainGlobals mg)
    {t1 t2 t3 t4 t5 t6 t7 t8 t9 : Tok}
    {f25 f26 f27 f28 f29 f30 f31 f32 f33 f34 f35 f36 f37 f38 f39 f40 f41 f42 f43 f44 f45 f46 f47 f48 f49 f50 f51 f52 f53 f54 : Addr} {od25 an25 od26 an26 od27 an27 od28 an28 od29 an29 od30 an30 od31 an31 od32 an32 od33 an33 od34 an34 od35 an35 od36 an36 od37 an37 od38 an38 od39 an39 od40 an40 od41 an41 od42 an42 od43 an43 od44 an44 od45 an45 od46 an46 od47 an47 od48 an48 od49 an49 od50 an50 od51 an51 od52 an52 od53 an53 od54 an54 : Option Addr} {sl25 sl26 sl27 sl28 sl29 sl30 sl31 sl32 sl33 sl34 sl35 sl36 sl37 sl38 sl39 sl40 sl41 sl42 sl43 sl44 sl45 sl46 sl47 sl48 sl49 sl50 sl51 sl52 sl53 sl54 : Array (Option Value)} {oc25 kV25 dc25 pm25 cd25 ct25 oc26 kV26 dc26 pm26 cd26 ct26 oc27 kV27 dc27 pm27 cd27 ct27 oc28 kV28 dc28 pm28 cd28 ct28 oc29 kV29 dc29 pm29 cd29 ct29 oc30 kV30 dc30 pm30 cd30 ct30 oc31 kV31 dc31 pm31 cd31 ct31 oc32 kV32 dc32 pm32 cd32 ct32 oc33 kV33 dc33 pm33 cd33 ct33 oc34 kV34 dc34 pm34 cd34 ct34 oc35 kV35 dc35 pm35 cd35 ct35 oc36 kV36 dc36 pm36 cd36 ct36 oc37 kV37 dc37 pm37 cd37 ct37 oc38 kV38 dc38 pm38 cd38 ct38 oc39 kV39 dc39 pm39 cd39 ct39 oc40 kV40 dc40 pm40 cd40 ct40 oc41 kV41 dc41 pm41 cd41 ct41 oc42 kV42 dc42 pm42 cd42 ct42 oc43 kV43 dc43 pm43 cd43 ct43 oc44 kV44 dc44 pm44 cd44 ct44 oc45 kV45 dc45 pm45 cd45 ct45 oc46 kV46 dc46 pm46 cd46 ct46 oc47 kV47 dc47 pm47 cd47 ct47 oc48 kV48 dc48 pm48 cd48 ct48 oc49 kV49 dc49 pm49 cd49 ct49 oc50 kV50 dc50 pm50 cd50 ct50 oc51 kV51 dc51 pm51 cd51 ct51 oc52 kV52 dc52 pm52 cd52 ct52 oc53 kV53 dc53 pm53 cd53 ct53 oc54 kV54 dc54 pm54 cd54 ct54 : Value}
    {x55 : Addr} {xo55 : Option Addr} {xn55 : Nat} {xs55 : Array (Option Value)}
    (e1 : PySem.W.nsIn K mainGlobals "GOODS" = some (some (.int 1 t1)))
    (e2 : PySem.W.nsIn K mainGlobals "TASKS" = some (some (.int 2 t2)))
    (e3 : PySem.W.nsIn K mainGlobals "WAITS" = some (some (.int 3 t3)))
    (e4 : PySem.W.nsIn K mainGlobals "FIXED" = some (some (.int 4 t4)))
    (e5 : PySem.W.nsIn K mainGlobals "LENGTH" = some (some (.int 1 t5)))
    (e6 : PySem.W.nsIn K mainGlobals "MACHINE" = some (some (.int 2 t6)))
    (e7 : PySem.W.nsIn K mainGlobals "NEEDS" = some (some (.int 3 t7)))
    (e8 : PySem.W.nsIn K mainGlobals "FROM" = some (some (.int 4 t8)))
    (e9 : PySem.W.nsIn K mainGlobals "LAST_BEGIN" = some (some (.int 1000000000 t9)))
    (e10 : PySem.W.nsIn K mainGlobals "isinstance" = some none)
    (e11 : PySem.W.nsIn K mainGlobals "int" = some none)
    (e12 : PySem.W.nsIn K mainGlobals "bool" = some none)
    (e13 : PySem.W.nsIn K mainGlobals "dict" = some none)
    (e14 : PySem.W.nsIn K mainGlobals "sum" = some none)
    (e15 : PySem.W.nsIn K mainGlobals "all" = some none)
    (e16 : PySem.W.nsIn K mainGlobals "tuple" = some none)
    (e17 : PySem.W.nsIn K mainGlobals "len" = some none)
    (e18 : PySem.W.nsIn K mainGlobals "enumerate" = some none)
    (e19 : PySem.W.nsIn K mainGlobals "min" = some none)
    (e20 : PySem.W.nsIn K mainGlobals "range" = some none)
    (e21 : PySem.W.nsIn K mainGlobals "sorted" = some none)
    (e22 : PySem.W.nsIn K mainGlobals "set" = some none)
    (e23 : PySem.W.nsIn K mainGlobals "list" = some none)
    (e24 : PySem.W.nsIn K mainGlobals "max" = some none)
    (a25 : PySem.W.nsIn K mainGlobals "is_whole" = some (some (.ref f25)))
    (l25 : K.lookup f25 = some ⟨oc25, od25, .func (PySem.W.fnOf "is_whole" "is_whole" (defArgs s_is_whole) (defBody s_is_whole) (defScope s_is_whole) .none kV25 dc25 pm25 an25 cd25 ct25), sl25⟩)
    (c25 : PySem.W.codeIn K cd25 "is_whole" = true)
    (k25 : PySem.W.keepIn K (.ref f25) = true)
    (a26 : PySem.W.nsIn K mainGlobals "is_among" = some (some (.ref f26)))
    (l26 : K.lookup f26 = some ⟨oc26, od26, .func (PySem.W.fnOf "is_among" "is_among" (defArgs s_is_among) (defBody s_is_among) (defScope s_is_among) .none kV26 dc26 pm26 an26 cd26 ct26), sl26⟩)
    (c26 : PySem.W.codeIn K cd26 "is_among" = true)
    (k26 : PySem.W.keepIn K (.ref f26) = true)
    (a27 : PySem.W.nsIn K mainGlobals "end_of" = some (some (.ref f27)))
    (l27 : K.lookup f27 = some ⟨oc27, od27, .func (PySem.W.fnOf "end_of" "end_of" (defArgs s_end_of) (defBody s_end_of) (defScope s_end_of) .none kV27 dc27 pm27 an27 cd27 ct27), sl27⟩)
    (c27 : PySem.W.codeIn K cd27 "end_of" = true)
    (k27 : PySem.W.keepIn K (.ref f27) = true)
    (a28 : PySem.W.nsIn K mainGlobals "uses_of_good" = some (some (.ref f28)))
    (l28 : K.lookup f28 = some ⟨oc28, od28, .func (PySem.W.fnOf "uses_of_good" "uses_of_good" (defArgs s_uses_of_good) (defBody s_uses_of_good) (defScope s_uses_of_good) .none kV28 dc28 pm28 an28 cd28 ct28), sl28⟩)
    (c28 : PySem.W.codeIn K cd28 "uses_of_good" = true)
    (k28 : PySem.W.keepIn K (.ref f28) = true)
    (a29 : PySem.W.nsIn K mainGlobals "used_at" = some (some (.ref f29)))
    (l29 : K.lookup f29 = some ⟨oc29, od29, .func (PySem.W.fnOf "used_at" "used_at" (defArgs s_used_at) (defBody s_used_at) (defScope s_used_at) .none kV29 dc29 pm29 an29 cd29 ct29), sl29⟩)
    (c29 : PySem.W.codeIn K cd29 "used_at" = true)
    (k29 : PySem.W.keepIn K (.ref f29) = true)
    (a30 : PySem.W.nsIn K mainGlobals "need_plan" = some (some (.ref f30)))
    (l30 : K.lookup f30 = some ⟨oc30, od30, .func (PySem.W.fnOf "need_plan" "need_plan" (defArgs s_need_plan) (defBody s_need_plan) (defScope s_need_plan) .none kV30 dc30 pm30 an30 cd30 ct30), sl30⟩)
    (c30 : PySem.W.codeIn K cd30 "need_plan" = true)
    (k30 : PySem.W.keepIn K (.ref f30) = true)
    (a31 : PySem.W.nsIn K mainGlobals "from_fault" = some (some (.ref f31)))
    (l31 : K.lookup f31 = some ⟨oc31, od31, .func (PySem.W.fnOf "from_fault" "from_fault" (defArgs s_from_fault) (defBody s_from_fault) (defScope s_from_fault) .none kV31 dc31 pm31 an31 cd31 ct31), sl31⟩)
    (c31 : PySem.W.codeIn K cd31 "from_fault" = true)
    (k31 : PySem.W.keepIn K (.ref f31) = true)
    (a32 : PySem.W.nsIn K mainGlobals "fixed_fault" = some (some (.ref f32)))
    (l32 : K.lookup f32 = some ⟨oc32, od32, .func (PySem.W.fnOf "fixed_fault" "fixed_fault" (defArgs s_fixed_fault) (defBody s_fixed_fault) (defScope s_fixed_fault) .none kV32 dc32 pm32 an32 cd32 ct32), sl32⟩)
    (c32 : PySem.W.codeIn K cd32 "fixed_fault" = true)
    (k32 : PySem.W.keepIn K (.ref f32) = true)
    (a33 : PySem.W.nsIn K mainGlobals "wait_fault" = some (some (.ref f33)))
    (l33 : K.lookup f33 = some ⟨oc33, od33, .func (PySem.W.fnOf "wait_fault" "wait_fault" (defArgs s_wait_fault) (defBody s_wait_fault) (defScope s_wait_fault) .none kV33 dc33 pm33 an33 cd33 ct33), sl33⟩)
    (c33 : PySem.W.codeIn K cd33 "wait_fault" = true)
    (k33 : PySem.W.keepIn K (.ref f33) = true)
    (a34 : PySem.W.nsIn K mainGlobals "machine_fault" = some (some (.ref f34)))
    (l34 : K.lookup f34 = some ⟨oc34, od34, .func (PySem.W.fnOf "machine_fault" "machine_fault" (defArgs s_machine_fault) (defBody s_machine_fault) (defScope s_machine_fault) .none kV34 dc34 pm34 an34 cd34 ct34), sl34⟩)
    (c34 : PySem.W.codeIn K cd34 "machine_fault" = true)
    (k34 : PySem.W.keepIn K (.ref f34) = true)
    (a35 : PySem.W.nsIn K mainGlobals "good_fault" = some (some (.ref f35)))
    (l35 : K.lookup f35 = some ⟨oc35, od35, .func (PySem.W.fnOf "good_fault" "good_fault" (defArgs s_good_fault) (defBody s_good_fault) (defScope s_good_fault) .none kV35 dc35 pm35 an35 cd35 ct35), sl35⟩)
    (c35 : PySem.W.codeIn K cd35 "good_fault" = true)
    (k35 : PySem.W.keepIn K (.ref f35) = true)
    (a36 : PySem.W.nsIn K mainGlobals "fault_of" = some (some (.ref f36)))
    (l36 : K.lookup f36 = some ⟨oc36, od36, .func (PySem.W.fnOf "fault_of" "fault_of" (defArgs s_fault_of) (defBody s_fault_of) (defScope s_fault_of) .none kV36 dc36 pm36 an36 cd36 ct36), sl36⟩)
    (c36 : PySem.W.codeIn K cd36 "fault_of" = true)
    (k36 : PySem.W.keepIn K (.ref f36) = true)
    (a37 : PySem.W.nsIn K mainGlobals "_law_started" = some (some (.ref f37)))
    (l37 : K.lookup f37 = some ⟨oc37, od37, .func (PySem.W.fnOf "_law_started" "_law_started" (defArgs s__law_started) (defBody s__law_started) (defScope s__law_started) .none kV37 dc37 pm37 an37 cd37 ct37), sl37⟩)
    (c37 : PySem.W.codeIn K cd37 "_law_started" = true)
    (k37 : PySem.W.keepIn K (.ref f37) = true)
    (a38 : PySem.W.nsIn K mainGlobals "_law_draw" = some (some (.ref f38)))
    (l38 : K.lookup f38 = some ⟨oc38, od38, .func (PySem.W.fnOf "_law_draw" "_law_draw" (defArgs s__law_draw) (defBody s__law_draw) (defScope s__law_draw) .none kV38 dc38 pm38 an38 cd38 ct38), sl38⟩)
    (c38 : PySem.W.codeIn K cd38 "_law_draw" = true)
    (k38 : PySem.W.keepIn K (.ref f38) = true)
    (a39 : PySem.W.nsIn K mainGlobals "_law_of" = some (some (.ref f39)))
    (l39 : K.lookup f39 = some ⟨oc39, od39, .func (PySem.W.fnOf "_law_of" "_law_of" (defArgs s__law_of) (defBody s__law_of) (defScope s__law_of) .none kV39 dc39 pm39 an39 cd39 ct39), sl39⟩)
    (c39 : PySem.W.codeIn K cd39 "_law_of" = true)
    (k39 : PySem.W.keepIn K (.ref f39) = true)
    (a40 : PySem.W.nsIn K mainGlobals "_law_names" = some (some (.ref f40)))
    (l40 : K.lookup f40 = some ⟨oc40, od40, .func (PySem.W.fnOf "_law_names" "_law_names" (defArgs s__law_names) (defBody s__law_names) (defScope s__law_names) .none kV40 dc40 pm40 an40 cd40 ct40), sl40⟩)
    (c40 : PySem.W.codeIn K cd40 "_law_names" = true)
    (k40 : PySem.W.keepIn K (.ref f40) = true)
    (a41 : PySem.W.nsIn K mainGlobals "_law_order" = some (some (.ref f41)))
    (l41 : K.lookup f41 = some ⟨oc41, od41, .func (PySem.W.fnOf "_law_order" "_law_order" (defArgs s__law_order) (defBody s__law_order) (defScope s__law_order) .none kV41 dc41 pm41 an41 cd41 ct41), sl41⟩)
    (c41 : PySem.W.codeIn K cd41 "_law_order" = true)
    (k41 : PySem.W.keepIn K (.ref f41) = true)
    (a42 : PySem.W.nsIn K mainGlobals "_law_task" = some (some (.ref f42)))
    (l42 : K.lookup f42 = some ⟨oc42, od42, .func (PySem.W.fnOf "_law_task" "_law_task" (defArgs s__law_task) (defBody s__law_task) (defScope s__law_task) .none kV42 dc42 pm42 an42 cd42 ct42), sl42⟩)
    (c42 : PySem.W.codeIn K cd42 "_law_task" = true)
    (k42 : PySem.W.keepIn K (.ref f42) = true)
    (a43 : PySem.W.nsIn K mainGlobals "_law_waits" = some (some (.ref f43)))
    (l43 : K.lookup f43 = some ⟨oc43, od43, .func (PySem.W.fnOf "_law_waits" "_law_waits" (defArgs s__law_waits) (defBody s__law_waits) (defScope s__law_waits) .none kV43 dc43 pm43 an43 cd43 ct43), sl43⟩)
    (c43 : PySem.W.codeIn K cd43 "_law_waits" = true)
    (k43 : PySem.W.keepIn K (.ref f43) = true)
    (a44 : PySem.W.nsIn K mainGlobals "_law_book" = some (some (.ref f44)))
    (l44 : K.lookup f44 = some ⟨oc44, od44, .func (PySem.W.fnOf "_law_book" "_law_book" (defArgs s__law_book) (defBody s__law_book) (defScope s__law_book) .none kV44 dc44 pm44 an44 cd44 ct44), sl44⟩)
    (c44 : PySem.W.codeIn K cd44 "_law_book" = true)
    (k44 : PySem.W.keepIn K (.ref f44) = true)
    (a45 : PySem.W.nsIn K mainGlobals "_law_met" = some (some (.ref f45)))
    (l45 : K.lookup f45 = some ⟨oc45, od45, .func (PySem.W.fnOf "_law_met" "_law_met" (defArgs s__law_met) (defBody s__law_met) (defScope s__law_met) .none kV45 dc45 pm45 an45 cd45 ct45), sl45⟩)
    (c45 : PySem.W.codeIn K cd45 "_law_met" = true)
    (k45 : PySem.W.keepIn K (.ref f45) = true)
    (a46 : PySem.W.nsIn K mainGlobals "_law_is_free" = some (some (.ref f46)))
    (l46 : K.lookup f46 = some ⟨oc46, od46, .func (PySem.W.fnOf "_law_is_free" "_law_is_free" (defArgs s__law_is_free) (defBody s__law_is_free) (defScope s__law_is_free) .none kV46 dc46 pm46 an46 cd46 ct46), sl46⟩)
    (c46 : PySem.W.codeIn K cd46 "_law_is_free" = true)
    (k46 : PySem.W.keepIn K (.ref f46) = true)
    (a47 : PySem.W.nsIn K mainGlobals "_law_first" = some (some (.ref f47)))
    (l47 : K.lookup f47 = some ⟨oc47, od47, .func (PySem.W.fnOf "_law_first" "_law_first" (defArgs s__law_first) (defBody s__law_first) (defScope s__law_first) .none kV47 dc47 pm47 an47 cd47 ct47), sl47⟩)
    (c47 : PySem.W.codeIn K cd47 "_law_first" = true)
    (k47 : PySem.W.keepIn K (.ref f47) = true)
    (a48 : PySem.W.nsIn K mainGlobals "_law_listed" = some (some (.ref f48)))
    (l48 : K.lookup f48 = some ⟨oc48, od48, .func (PySem.W.fnOf "_law_listed" "_law_listed" (defArgs s__law_listed) (defBody s__law_listed) (defScope s__law_listed) .none kV48 dc48 pm48 an48 cd48 ct48), sl48⟩)
    (c48 : PySem.W.codeIn K cd48 "_law_listed" = true)
    (k48 : PySem.W.keepIn K (.ref f48) = true)
    (a49 : PySem.W.nsIn K mainGlobals "_law_bent" = some (some (.ref f49)))
    (l49 : K.lookup f49 = some ⟨oc49, od49, .func (PySem.W.fnOf "_law_bent" "_law_bent" (defArgs s__law_bent) (defBody s__law_bent) (defScope s__law_bent) .none kV49 dc49 pm49 an49 cd49 ct49), sl49⟩)
    (c49 : PySem.W.codeIn K cd49 "_law_bent" = true)
    (k49 : PySem.W.keepIn K (.ref f49) = true)
    (a50 : PySem.W.nsIn K mainGlobals "_law_running" = some (some (.ref f50)))
    (l50 : K.lookup f50 = some ⟨oc50, od50, .func (PySem.W.fnOf "_law_running" "_law_running" (defArgs s__law_running) (defBody s__law_running) (defScope s__law_running) .none kV50 dc50 pm50 an50 cd50 ct50), sl50⟩)
    (c50 : PySem.W.codeIn K cd50 "_law_running" = true)
    (k50 : PySem.W.keepIn K (.ref f50) = true)
    (a51 : PySem.W.nsIn K mainGlobals "_law_crowded" = some (some (.ref f51)))
    (l51 : K.lookup f51 = some ⟨oc51, od51, .func (PySem.W.fnOf "_law_crowded" "_law_crowded" (defArgs s__law_crowded) (defBody s__law_crowded) (defScope s__law_crowded) .none kV51 dc51 pm51 an51 cd51 ct51), sl51⟩)
    (c51 : PySem.W.codeIn K cd51 "_law_crowded" = true)
    (k51 : PySem.W.keepIn K (.ref f51) = true)
    (a52 : PySem.W.nsIn K mainGlobals "_law_lacking" = some (some (.ref f52)))
    (l52 : K.lookup f52 = some ⟨oc52, od52, .func (PySem.W.fnOf "_law_lacking" "_law_lacking" (defArgs s__law_lacking) (defBody s__law_lacking) (defScope s__law_lacking) .none kV52 dc52 pm52 an52 cd52 ct52), sl52⟩)
    (c52 : PySem.W.codeIn K cd52 "_law_lacking" = true)
    (k52 : PySem.W.keepIn K (.ref f52) = true)
    (a53 : PySem.W.nsIn K mainGlobals "_law_faults" = some (some (.ref f53)))
    (l53 : K.lookup f53 = some ⟨oc53, od53, .func (PySem.W.fnOf "_law_faults" "_law_faults" (defArgs s__law_faults) (defBody s__law_faults) (defScope s__law_faults) .none kV53 dc53 pm53 an53 cd53 ct53), sl53⟩)
    (c53 : PySem.W.codeIn K cd53 "_law_faults" = true)
    (k53 : PySem.W.keepIn K (.ref f53) = true)
    (a54 : PySem.W.nsIn K mainGlobals "law" = some (some (.ref f54)))
    (l54 : K.lookup f54 = some ⟨oc54, od54, .func (PySem.W.fnOf "law" "law" (defArgs s_law) (defBody s_law) (defScope s_law) .none kV54 dc54 pm54 an54 cd54 ct54), sl54⟩)
    (c54 : PySem.W.codeIn K cd54 "law" = true)
    (k54 : PySem.W.keepIn K (.ref f54) = true)
    (e55 : PySem.W.nsIn K mainGlobals "FAULTS" = some (some (.ref x55)))
    (l55 : K.lookup x55 = some ⟨.type "tuple", xo55, .seq #[.ref f31, .ref f32, .ref f33, .ref f34, .ref f35] xn55, xs55⟩)
    : Tx K mg where
  c_GOODS := ⟨_, PySem.W.mg_of X G e1, _, rfl⟩
  c_TASKS := ⟨_, PySem.W.mg_of X G e2, _, rfl⟩
  c_WAITS := ⟨_, PySem.W.mg_of X G e3, _, rfl⟩
  c_FIXED := ⟨_, PySem.W.mg_of X G e4, _, rfl⟩
  c_LENGTH := ⟨_, PySem.W.mg_of X G e5, _, rfl⟩
  c_MACHINE := ⟨_, PySem.W.mg_of X G e6, _, rfl⟩
  c_NEEDS := ⟨_, PySem.W.mg_of X G e7, _, rfl⟩
  c_FROM := ⟨_, PySem.W.mg_of X G e8, _, rfl⟩
  c_LAST_BEGIN := ⟨_, PySem.W.mg_of X G e9, _, rfl⟩
  b_isinstance := PySem.W.mg_none_of X G e10
  b_int := PySem.W.mg_none_of X G e11
  b_bool := PySem.W.mg_none_of X G e12
  b_dict := PySem.W.mg_none_of X G e13
  b_sum := PySem.W.mg_none_of X G e14
  b_all := PySem.W.mg_none_of X G e15
  b_tuple := PySem.W.mg_none_of X G e16
  b_len := PySem.W.mg_none_of X G e17
  b_enumerate := PySem.W.mg_none_of X G e18
  b_min := PySem.W.mg_none_of X G e19
  b_range := PySem.W.mg_none_of X G e20
  b_sorted := PySem.W.mg_none_of X G e21
  b_set := PySem.W.mg_none_of X G e22
  b_list := PySem.W.mg_none_of X G e23
  b_max := PySem.W.mg_none_of X G e24
  d_is_whole := dfn_mk X G a25 l25 c25 k25 fun _ _ _ _ _ _ us hl => match us, hl with | [_], _ => rfl
  d_is_among := dfn_mk X G a26 l26 c26 k26 fun _ _ _ _ _ _ us hl => match us, hl with | [_, _, _], _ => rfl
  d_end_of := dfn_mk X G a27 l27 c27 k27 fun _ _ _ _ _ _ us hl => match us, hl with | [_, _, _], _ => rfl
  d_uses_of_good := dfn_mk X G a28 l28 c28 k28 fun _ _ _ _ _ _ us hl => match us, hl with | [_, _, _], _ => rfl
  d_used_at := dfn_mk X G a29 l29 c29 k29 fun _ _ _ _ _ _ us hl => match us, hl with | [_, _], _ => rfl
  d_need_plan := dfn_mk X G a30 l30 c30 k30 fun _ _ _ _ _ _ us hl => match us, hl with | [_, _], _ => rfl
  d_from_fault := dfn_mk X G a31 l31 c31 k31 fun _ _ _ _ _ _ us hl => match us, hl with | [_, _], _ => rfl
  d_fixed_fault := dfn_mk X G a32 l32 c32 k32 fun _ _ _ _ _ _ us hl => match us, hl with | [_, _], _ => rfl
  d_wait_fault := dfn_mk X G a33 l33 c33 k33 fun _ _ _ _ _ _ us hl => match us, hl with | [_, _], _ => rfl
  d_machine_fault := dfn_mk X G a34 l34 c34 k34 fun _ _ _ _ _ _ us hl => match us, hl with | [_, _], _ => rfl
  d_good_fault := dfn_mk X G a35 l35 c35 k35 fun _ _ _ _ _ _ us hl => match us, hl with | [_, _], _ => rfl
  d_fault_of := dfn_mk X G a36 l36 c36 k36 fun _ _ _ _ _ _ us hl => match us, hl with | [_, _], _ => rfl
  d__law_started := dfn_mk X G a37 l37 c37 k37 fun _ _ _ _ _ _ us hl => match us, hl with | [_], _ => rfl
  d__law_draw := dfn_mk X G a38 l38 c38 k38 fun _ _ _ _ _ _ us hl => match us, hl with | [_, _], _ => rfl
  d__law_of := dfn_mk X G a39 l39 c39 k39 fun _ _ _ _ _ _ us hl => match us, hl with | [_, _], _ => rfl
  d__law_names := dfn_mk X G a40 l40 c40 k40 fun _ _ _ _ _ _ us hl => match us, hl with | [_, _], _ => rfl
  d__law_order := dfn_mk X G a41 l41 c41 k41 fun _ _ _ _ _ _ us hl => match us, hl with | [_, _], _ => rfl
  d__law_task := dfn_mk X G a42 l42 c42 k42 fun _ _ _ _ _ _ us hl => match us, hl with | [_, _, _, _, _], _ => rfl
  d__law_waits := dfn_mk X G a43 l43 c43 k43 fun _ _ _ _ _ _ us hl => match us, hl with | [_, _, _], _ => rfl
  d__law_book := dfn_mk X G a44 l44 c44 k44 fun _ _ _ _ _ _ us hl => match us, hl with | [_, _, _, _], _ => rfl
  d__law_met := dfn_mk X G a45 l45 c45 k45 fun _ _ _ _ _ _ us hl => match us, hl with | [_, _, _, _], _ => rfl
  d__law_is_free := dfn_mk X G a46 l46 c46 k46 fun _ _ _ _ _ _ us hl => match us, hl with | [_, _, _, _], _ => rfl
  d__law_first := dfn_mk X G a47 l47 c47 k47 fun _ _ _ _ _ _ us hl => match us, hl with | [_, _, _], _ => rfl
  d__law_listed := dfn_mk X G a48 l48 c48 k48 fun _ _ _ _ _ _ us hl => match us, hl with | [_, _], _ => rfl
  d__law_bent := dfn_mk X G a49 l49 c49 k49 fun _ _ _ _ _ _ us hl => match us, hl with | [_, _, _], _ => rfl
  d__law_running := dfn_mk X G a50 l50 c50 k50 fun _ _ _ _ _ _ us hl => match us, hl with | [_, _, _], _ => rfl
  d__law_crowded := dfn_mk X G a51 l51 c51 k51 fun _ _ _ _ _ _ us hl => match us, hl with | [_, _, _], _ => rfl
  d__law_lacking := dfn_mk X G a52 l52 c52 k52 fun _ _ _ _ _ _ us hl => match us, hl with | [_, _, _], _ => rfl
  d__law_faults := dfn_mk X G a53 l53 c53 k53 fun _ _ _ _ _ _ us hl => match us, hl with | [_, _], _ => rfl
  d_law := dfn_mk X G a54 l54 c54 k54 fun _ _ _ _ _ _ us hl => match us, hl with | [_], _ => rfl
  c_FAULTS := ⟨x55, f31, f32, f33, f34, f35, PySem.W.mg_of X G e55, (fun _ => .inr ⟨_, _, _, l55, rfl, rfl, (by rw [sizeLine_eq]; show 5 ≤ 16777216; decide), .cons rfl (.cons rfl (.cons rfl (.cons rfl (.cons rfl (.nil)))))⟩), PySem.W.mg_of X G a31, PySem.W.mg_of X G a32, PySem.W.mg_of X G a33, PySem.W.mg_of X G a34, PySem.W.mg_of X G a35⟩
end Bk24
open PySem PySem.W PyProof.Rows
set_option maxHeartbeats 0 in
theorem PySem.Challenge.cw_boundsmith_k24_whole_hour_by_hour_holds : PySem.Challenge.rw_boundsmith_k24_whole_hour_by_hour.Holds := by
  w_on; o_law; k_head; (case hw => w_witness2)
  k_fill
  refine L2.walk_of (l := PySem.Challenge.rw_boundsmith_k24_whole_hour_by_hour) (n := 63) (k := 5) (x := "script") (CX := fun _ => L2.CX0) (sp := fun w => Bk24.spLaw _) rfl (by decide) rfl ⟨rfl, by decide, by decide⟩ (fun w h Y => PySem.W.kIn_of Y) ?F (fun _ _ a ns hl _ hS => ⟨a, ns, rfl, hS, hl, fun _ => rfl⟩) (fun _ _ _ _ _ h => h)
  case F =>
    intro w mg fa h KX G hmg
    refine Bk24.law_of (P := _) ?_ hmg
    refine' Bk24.tx_mk KX G ?e1 ?e2 ?e3 ?e4 ?e5 ?e6 ?e7 ?e8 ?e9 ?e10 ?e11 ?e12 ?e13 ?e14 ?e15 ?e16 ?e17 ?e18 ?e19 ?e20 ?e21 ?e22 ?e23 ?e24 ?a25 ?l25 ?c25 ?k25 ?a26 ?l26 ?c26 ?k26 ?a27 ?l27 ?c27 ?k27 ?a28 ?l28 ?c28 ?k28 ?a29 ?l29 ?c29 ?k29 ?a30 ?l30 ?c30 ?k30 ?a31 ?l31 ?c31 ?k31 ?a32 ?l32 ?c32 ?k32 ?a33 ?l33 ?c33 ?k33 ?a34 ?l34 ?c34 ?k34 ?a35 ?l35 ?c35 ?k35 ?a36 ?l36 ?c36 ?k36 ?a37 ?l37 ?c37 ?k37 ?a38 ?l38 ?c38 ?k38 ?a39 ?l39 ?c39 ?k39 ?a40 ?l40 ?c40 ?k40 ?a41 ?l41 ?c41 ?k41 ?a42 ?l42 ?c42 ?k42 ?a43 ?l43 ?c43 ?k43 ?a44 ?l44 ?c44 ?k44 ?a45 ?l45 ?c45 ?k45 ?a46 ?l46 ?c46 ?k46 ?a47 ?l47 ?c47 ?k47 ?a48 ?l48 ?c48 ?k48 ?a49 ?l49 ?c49 ?k49 ?a50 ?l50 ?c50 ?k50 ?a51 ?l51 ?c51 ?k51 ?a52 ?l52 ?c52 ?k52 ?a53 ?l53 ?c53 ?k53 ?a54 ?l54 ?c54 ?k54 ?e55 ?l55
    (case e1 => k_is); (case e2 => k_is); (case e3 => k_is); (case e4 => k_is); (case e5 => k_is); (case e6 => k_is); (case e7 => k_is); (case e8 => k_is); (case e9 => k_is); (case e10 => k_is); (case e11 => k_is); (case e12 => k_is); (case e13 => k_is); (case e14 => k_is); (case e15 => k_is); (case e16 => k_is); (case e17 => k_is); (case e18 => k_is); (case e19 => k_is); (case e20 => k_is); (case e21 => k_is); (case e22 => k_is); (case e23 => k_is); (case e24 => k_is); (case a25 => k_is); (case l25 => k_is); (case c25 => k_is); (case k25 => k_is); (case a26 => k_is); (case l26 => k_is); (case c26 => k_is); (case k26 => k_is); (case a27 => k_is); (case l27 => k_is); (case c27 => k_is); (case k27 => k_is); (case a28 => k_is); (case l28 => k_is); (case c28 => k_is); (case k28 => k_is); (case a29 => k_is); (case l29 => k_is); (case c29 => k_is); (case k29 => k_is); (case a30 => k_is); (case l30 => k_is); (case c30 => k_is); (case k30 => k_is); (case a31 => k_is); (case l31 => k_is); (case c31 => k_is); (case k31 => k_is); (case a32 => k_is); (case l32 => k_is); (case c32 => k_is); (case k32 => k_is); (case a33 => k_is); (case l33 => k_is); (case c33 => k_is); (case k33 => k_is); (case a34 => k_is); (case l34 => k_is); (case c34 => k_is); (case k34 => k_is); (case a35 => k_is); (case l35 => k_is); (case c35 => k_is); (case k35 => k_is); (case a36 => k_is); (case l36 => k_is); (case c36 => k_is); (case k36 => k_is); (case a37 => k_is); (case l37 => k_is); (case c37 => k_is); (case k37 => k_is); (case a38 => k_is); (case l38 => k_is); (case c38 => k_is); (case k38 => k_is); (case a39 => k_is); (case l39 => k_is); (case c39 => k_is); (case k39 => k_is); (case a40 => k_is); (case l40 => k_is); (case c40 => k_is); (case k40 => k_is); (case a41 => k_is); (case l41 => k_is); (case c41 => k_is); (case k41 => k_is); (case a42 => k_is); (case l42 => k_is); (case c42 => k_is); (case k42 => k_is); (case a43 => k_is); (case l43 => k_is); (case c43 => k_is); (case k43 => k_is); (case a44 => k_is); (case l44 => k_is); (case c44 => k_is); (case k44 => k_is); (case a45 => k_is); (case l45 => k_is); (case c45 => k_is); (case k45 => k_is); (case a46 => k_is); (case l46 => k_is); (case c46 => k_is); (case k46 => k_is); (case a47 => k_is); (case l47 => k_is); (case c47 => k_is); (case k47 => k_is); (case a48 => k_is); (case l48 => k_is); (case c48 => k_is); (case k48 => k_is); (case a49 => k_is); (case l49 => k_is); (case c49 => k_is); (case k49 => k_is); (case a50 => k_is); (case l50 => k_is); (case c50 => k_is); (case k50 => k_is); (case a51 => k_is); (case l51 => k_is); (case c51 => k_is); (case k51 => k_is); (case a52 => k_is); (case l52 => k_is); (case c52 => k_is); (case k52 => k_is); (case a53 => k_is); (case l53 => k_is); (case c53 => k_is); (case k53 => k_is); (case a54 => k_is); (case l54 => k_is); (case c54 => k_is); (case k54 => k_is); (case e55 => k_is); (case l55 => k_is)


