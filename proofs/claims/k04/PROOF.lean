import PyProof.Rows.All
import Wide.All
import OpenK.AllK
import Wide.FinOn
import PySem.Challenge.RW_boundsmith_k04_what_goes_ahead
import HandS.ForMost
import HandS.IsInst
import HandS.Wide
import HandS.WideBits
import HandS.Evl
import HandS.Replace
import HandS.Codes
import HandS.SetBool
import HandS.Strs
import HandS.SortKw
import KE.DataMinMax
import PyProof.ReprRoads
import HandS.Ends
import HandS.EndBits
import HandS.Style
set_option Elab.async false
set_option linter.all false
set_option maxRecDepth 100000
/-! words shared by the proofs of one program's laws -/
namespace Bs
open PySem PySem.Spec PyProof.Rows L2
open Evl (Ex)

/-! ### a def that may be called: its name, its slots' names, its promise -/
structure Cal (P : Program) (w : World) (K : PySem.W.Frag) (mg : Str → Option Value) (base : Heap) (k : Nat) (x : Str) (ps : List Str) (sp : Sp) : Prop where
  ex : ∃ (f : Addr) (fd : FuncData), mg x = some (.ref f) ∧ PySem.W.keepIn K (.ref f) = true ∧ Binds K fd ps [] ∧ FnOk P w K mg base CX0 k f fd ps sp
theorem Cal.mono {P : Program} {w : World} {K : PySem.W.Frag} {mg : Str → Option Value} {base : Heap} {j k : Nat} {x : Str} {ps : List Str} {sp : Sp} (G : Cal P w K mg base j x ps sp) (h : j ≤ k) : Cal P w K mg base k x ps sp := by
  obtain ⟨f, fd, a, b, c, F⟩ := G.ex
  exact ⟨f, fd, a, b, c, F.mono h⟩
theorem pe_cal {X : Cx} {k : Nat} {x : Str} {ps : List Str} {sp : Sp} {p pos : Pos} {e : Expr} {es : List Expr} {t : TA} (G : Cal X.prog X.w X.K X.mg X.base k x ps sp) (hr : Room k X.A) (hg : Gl X x)
    (ha : PA X (e :: es) t) (hdb : (x == ("__debug__" : Str)) = false := by decide) (he : starEach (e :: es) X.env = (false, eval e X.env) :: starEach es X.env := by rfl) (hpl : (backTo pos (starEach es X.env)).any (·.1) = false := by rfl) :
    PE X (.Call (.Name x p) (e :: es) [] pos) (tCall sp [] E0 t) := by
  obtain ⟨f, fd, hm, hk, hb, F⟩ := G.ex
  exact pe_call F hr hg hm hk hb .nil pass0 ha hdb he hpl
/-- what the top holds of a def -/
structure Dfn (K : PySem.W.Frag) (mg : Str → Option Value) (x : Str) (st : Stmt) (ps : List Str) : Prop where
  ex : ∃ (f : Addr) (fd : FuncData), Fun K x x st f fd ∧ mg x = some (.ref f) ∧ ∀ us : List Value, us.length = ps.length → bindArgs fd ⟨us, []⟩ = pure (ps.zip us)
theorem Dfn.cal {P : Program} {w : World} {K : PySem.W.Frag} {mg : Str → Option Value} {base : Heap} {k : Nat} {x : Str} {st : Stmt} {N ps : List Str} {sp : Sp} (D : Dfn K mg x st ps) (S : FnScope N ps (defScope st)) (len : ∀ vs H Q E, sp vs H Q E → vs.length = ps.length)
    (hbody : ∀ (f : Addr) (cdv : Value) (A : Around) (outer : List Env) (s : Shared) (H : Hp) (vs : List V) (Q : VK) (E : XK), Room k (A.deeper (envOfC x (defScope st) s.heap.objs.size f cdv)) → sp vs H Q E →
      ∃ t, PSs (cxOf CX0 P w K mg base N x (defScope st) f cdv A outer s H E).nox (defBody st) t ∧ t { nx := fun _ H' => Q .non H', rt := Q } (start N vs) H) : Cal P w K mg base (k + 1) x ps sp := by
  obtain ⟨f, fd, F, g, b⟩ := D.ex
  exact ⟨f, fd, g, F.kp, .all b, F.ok S len fun cdv A outer s H vs Q E hr h => hbody f cdv A outer s H vs Q E hr h⟩
theorem dfn_mk {K : PySem.W.Frag} {mg : Str → Option Value} {h : Heap} {x : Str} {st : Stmt} {ps : List Str} {f : Addr} {oc : Value} {od an : Option Addr} {osl : Array (Option Value)} {kV doc pm cdv ct : Value} (X : K.In h) (G : h.Ns mainGlobals mg)
    (a : PySem.W.nsIn K mainGlobals x = some (some (.ref f)))
    (l : K.lookup f = some ⟨oc, od, .func (PySem.W.fnOf x x (defArgs st) (defBody st) (defScope st) .none kV doc pm an cdv ct), osl⟩)
    (c : PySem.W.codeIn K cdv x = true) (k : PySem.W.keepIn K (.ref f) = true)
    (hb : ∀ (kV doc pm : Value) (an : Option Addr) (cdv ct : Value) (us : List Value), us.length = ps.length → bindArgs (PySem.W.fnOf x x (defArgs st) (defBody st) (defScope st) .none kV doc pm an cdv ct) ⟨us, []⟩ = pure (ps.zip us)) : Dfn K mg x st ps :=
  ⟨f, _, fun_mk (st := st) l c k, PySem.W.mg_of X G a, hb kV doc pm an cdv ct⟩

theorem pe_globE {X : Cx} {x : Str} {v : V} {pos : Pos} (hg : Gl X x) (h : ∃ u, X.mg x = some u ∧ RelV v u) (hd : (x == ("__debug__" : Str)) = false := by decide) : PE X (.Name x pos) (tC v) := by
  obtain ⟨u, hm, r⟩ := h
  exact pe_glob hg hm r hd
/-- the law's own end -/
theorem law_end {P : Program} {w : World} {K : PySem.W.Frag} {mg : Str → Option Value} {k : Nat} {x : Str} {st : Stmt} {sp : Sp} {fa : Addr} (D : Dfn K mg x st ["script"]) (hfa : mg x = some (.ref fa))
    (ok : ∀ (base : Heap) (f : Addr) (fd : FuncData), Fun K x x st f fd → FnOk P w K mg base CX0 k f fd ["script"] sp) :
    ∃ fd : FuncData, (∀ (s : Shared) (v : Value), BindsTo s fd ⟨[v], []⟩ [("script", v)]) ∧ ∀ base : Heap, K.In base → base.Ns mainGlobals mg → FnOk P w K mg base CX0 k fa fd ["script"] sp := by
  obtain ⟨f, fd, F, g, b⟩ := D.ex
  have e := hfa.symm.trans g
  cases e
  exact ⟨fd, fun s v => .of_eq (b [v] rfl), fun base _ _ => ok base fa fd F⟩
/-! ### loops over a text -/
theorem lc_str {x : Str} {g : TG} {tt : TT} {te : TE} {vs : List Nat} {σ : L2.St} {H1 : Hp} {D : Addr} {Qd : Hp → Prop} (Pv : Nat → Hp → Prop) (h0 : Pv 0 (upd H1 D (.lst [])))
    (hs : ∀ i c H, x.cps[i]? = some c → Pv i H → g (.str ⟨#[c]⟩) (wipe σ vs) H fun σ2 H2 => wipe σ2 vs = wipe σ vs ∧ tt σ2 H2 fun b H3 =>
      if b = true then te σ2 H3 fun y H4 => ∃ acc, H4 D = some (.lst acc) ∧ acc.length < sizeLine ∧ Pv (i + 1) (upd H4 D (.lst (acc ++ [y]))) else Pv (i + 1) H3) (hd : ∀ H, Pv x.cps.size H → Qd H) :
    ∃ W : Nat → Nat → Hp → Prop, (∃ m, W 0 m (upd H1 D (.lst []))) ∧ ∀ i m H, W i m H →
      ((Its x).stop i H ∧ Qd H) ∨ ((Its x).go i H ∧ ∃ Nx : Hp → Prop, (∀ H', Nx H' → ∃ m', m' < m ∧ W (i + 1) m' H') ∧ ∀ x' H', (Its x).yld i H x' H' → g x' (wipe σ vs) H' fun σ2 H2 => wipe σ2 vs = wipe σ vs ∧ tt σ2 H2 fun b H3 =>
        if b = true then te σ2 H3 fun y H4 => ∃ acc, H4 D = some (.lst acc) ∧ acc.length < sizeLine ∧ Nx (upd H4 D (.lst (acc ++ [y]))) else Nx H3) := by
  refine ⟨fun i m H => m = x.cps.size - i ∧ i ≤ x.cps.size ∧ Pv i H, ⟨x.cps.size, by simp, Nat.zero_le _, h0⟩, ?_⟩
  rintro i m H ⟨rfl, hi, p⟩
  by_cases hlt : i < x.cps.size
  · refine .inr ⟨hlt, Pv (i + 1), fun H' p' => ⟨x.cps.size - (i + 1), by omega, rfl, hlt, p'⟩, fun x' H' y => ?_⟩
    obtain ⟨e, c, hc, y⟩ := y
    subst e y
    exact hs i c _ hc p
  · have e : i = x.cps.size := by omega
    subst e
    exact .inl ⟨Nat.le_refl _, hd H p⟩
theorem for_str {x : Str} {g : TG} {tb : TS} {D : Ends} {σ : L2.St} {H : Hp} (Pv : Nat → L2.St → Hp → Prop) (h0 : Pv 0 σ H)
    (hs : ∀ i c σ H, x.cps[i]? = some c → Pv i σ H → g (.str ⟨#[c]⟩) σ H fun σ2 H2 => tb { D with nx := Pv (i + 1), ct := Pv (i + 1), bk := D.nx } σ2 H2) (hd : ∀ σ H, Pv x.cps.size σ H → D.nx σ H) :
    ∃ W : Nat → Nat → L2.St → Hp → Prop, (∃ m, W 0 m σ H) ∧ ∀ i m σ H, W i m σ H → ((Its x).stop i H ∧ D.nx σ H) ∨ ((Its x).go i H ∧ ∃ Nx : L2.St → Hp → Prop, (∀ σ' H', Nx σ' H' → ∃ m', m' < m ∧ W (i + 1) m' σ' H') ∧
      ∀ x' H', (Its x).yld i H x' H' → g x' σ H' fun σ2 H2 => tb { D with nx := Nx, ct := Nx, bk := D.nx } σ2 H2) := by
  refine ⟨fun i m σ H => m = x.cps.size - i ∧ i ≤ x.cps.size ∧ Pv i σ H, ⟨x.cps.size, by simp, Nat.zero_le _, h0⟩, ?_⟩
  rintro i m σ H ⟨rfl, hi, p⟩
  by_cases hlt : i < x.cps.size
  · refine .inr ⟨hlt, Pv (i + 1), fun σ' H' p' => ⟨x.cps.size - (i + 1), by omega, rfl, hlt, p'⟩, fun x' H' y => ?_⟩
    obtain ⟨e, c, hc, y⟩ := y
    subst e y
    exact hs i c _ _ hc p
  · have e : i = x.cps.size := by omega
    subst e
    exact .inl ⟨Nat.le_refl _, hd σ H p⟩

/-! ### kinds of things -/
inductive Kd (K : PySem.W.Frag) (H : Hp) : V → String → Prop
  | non : Kd K H .non "NoneType"
  | bl (b : Bool) : Kd K H (.bl b) "bool"
  | int (i : Int) : Kd K H (.int i) "int"
  | str (x : Str) : Kd K H (.str x) "str"
  | lst {a : Addr} (t : TyX K H (.ref a) (.type "list")) : Kd K H (.ref a) "list"
  | tup {a : Addr} (t : TyX K H (.ref a) (.type "tuple")) : Kd K H (.ref a) "tuple"
  | dic {a : Addr} (t : TyX K H (.ref a) (.type "dict")) : Kd K H (.ref a) "dict"
theorem Kd.ty {K : PySem.W.Frag} {H : Hp} {x : V} {n : String} (h : Kd K H x n) : TyX K H x (.type n) := by
  cases h with
  | non => exact .base .non
  | bl b => exact .base (.bl b)
  | int i => exact .base (.int i)
  | str x => exact .base (.str x)
  | lst t => exact t
  | tup t => exact t
  | dic t => exact t
theorem tyx_ex {K : PySem.W.Frag} {H H' : Hp} (e : Evl.Ex H H') {x : V} {t : Value} (h : TyX K H x t) : TyX K H' x t := by
  cases h with
  | base b =>
    refine .base ?_
    cases b with
    | non => exact .non
    | bl y => exact .bl y
    | int i => exact .int i
    | str y => exact .str y
    | flt y => exact .flt y
    | lst h => exact .lst (e _ _ h)
    | frz h => exact .frz (e _ _ h)
    | tup h => exact .tup (e _ _ h)
    | dK h => exact .dK (e _ _ h)
    | dT h => exact .dT (e _ _ h)
    | ins h cl ha hn htk hm => exact .ins (e _ _ h) cl ha hn htk hm
  | byt b => exact .byt b
  | set h => exact .set (e _ _ h)
  | kList h c => exact .kList h c
  | kTuple h c => exact .kTuple h c
  | kDict h c => exact .kDict h c
  | fTuple h => exact .fTuple (e _ _ h)
  | fDict h => exact .fDict (e _ _ h)
theorem Kd.ex {K : PySem.W.Frag} {H H' : Hp} (e : Evl.Ex H H') {x : V} {n : String} (h : Kd K H x n) : Kd K H' x n := by
  cases h with
  | non => exact .non
  | bl b => exact .bl b
  | int i => exact .int i
  | str x => exact .str x
  | lst t => exact .lst (tyx_ex e t)
  | tup t => exact .tup (tyx_ex e t)
  | dic t => exact .dic (tyx_ex e t)
def isW : V → Bool
  | .int _ => true
  | _ => false
def isB : V → Bool
  | .bl _ => true
  | _ => false
def isS : V → Bool
  | .str _ => true
  | _ => false
def isI (x : V) : Bool := isW x || isB x
theorem Kd.int? {K : PySem.W.Frag} {H : Hp} {x : V} {n : String} (h : Kd K H x n) : PySem.W.kitOne K (.type n) (.type "int") = some (isI x) := by
  cases h <;> first | exact kit_ty (r := true) (by decide +kernel) | exact kit_ty (r := false) (by decide +kernel)
theorem Kd.bool? {K : PySem.W.Frag} {H : Hp} {x : V} {n : String} (h : Kd K H x n) : PySem.W.kitOne K (.type n) (.type "bool") = some (isB x) := by
  cases h <;> first | exact kit_ty (r := true) (by decide +kernel) | exact kit_ty (r := false) (by decide +kernel)
theorem Kd.str? {K : PySem.W.Frag} {H : Hp} {x : V} {n : String} (h : Kd K H x n) : PySem.W.kitOne K (.type n) (.type "str") = some (isS x) := by
  cases h <;> first | exact kit_ty (r := true) (by decide +kernel) | exact kit_ty (r := false) (by decide +kernel)
section
variable {K : PySem.W.Frag} {H : Hp} {x : V} {n : String} {σ : L2.St} {i : Nat} {Q : VK}
theorem rd_int? (e : σ[i]? = some (some x)) (h : Kd K H x n) (q : Q (.bl (isI x)) H) : tCB (rIsi K) (tCons (tVar i) (tCons (tC (.ty "int")) tNil)) σ H Q := ⟨x, e, x, .ty "int", _, _, _, rfl, .ty _, h.ty, h.int?, q⟩
theorem rd_bool? (e : σ[i]? = some (some x)) (h : Kd K H x n) (q : Q (.bl (isB x)) H) : tCB (rIsi K) (tCons (tVar i) (tCons (tC (.ty "bool")) tNil)) σ H Q := ⟨x, e, x, .ty "bool", _, _, _, rfl, .ty _, h.ty, h.bool?, q⟩
theorem rd_str? (e : σ[i]? = some (some x)) (h : Kd K H x n) (q : Q (.bl (isS x)) H) : tCB (rIsi K) (tCons (tVar i) (tCons (tC (.ty "str")) tNil)) σ H Q := ⟨x, e, x, .ty "str", _, _, _, rfl, .ty _, h.ty, h.str?, q⟩
end

/-! ### data that is asked for == -/
abbrev Asc (z : Str) : Prop := ∀ c ∈ z.cps.toList, c < 128
theorem strOk_asc {z : Str} (h : Asc z) : PyData.strOk z = true := by
  unfold PyData.strOk
  rw [Array.all_eq_true_iff_forall_mem]
  intro c hc
  have := h c (Array.mem_toList_iff.mpr hc)
  simp only [decide_eq_true_eq]
  omega
theorem sh_strs : ∀ {zs : List Str}, (∀ z ∈ zs, Asc z) → PyData.canLayAll0 (zs.map PyData.str) = true
  | [], _ => rfl
  | z :: r, h => by
    show (PyData.canLay0 (.str z) && PyData.canLayAll0 (r.map PyData.str)) = true
    rw [show PyData.canLay0 (.str z) = PyData.strOk z from rfl, strOk_asc (h z List.mem_cons_self), sh_strs fun y hy => h y (List.mem_cons_of_mem _ hy)]
    rfl
theorem dp_strs : ∀ {zs : List Str}, PyData.depthAll (zs.map PyData.str) = 0
  | [] => rfl
  | z :: r => by
    show max (PyData.depth (.str z)) (PyData.depthAll (r.map PyData.str)) = 0
    rw [dp_strs]
    rfl
theorem shaped_strs {zs : List Str} (h : ∀ z ∈ zs, Asc z) : SeqAt.shaped (.list (zs.map PyData.str)) = true := by
  unfold SeqAt.shaped
  rw [show PyData.canLay0 (.list (zs.map PyData.str)) = PyData.canLayAll0 (zs.map PyData.str) from rfl, sh_strs h]
  rw [show PyData.depth (.list (zs.map PyData.str)) = PyData.depthAll (zs.map PyData.str) + 1 from rfl, dp_strs]
  rfl
theorem sh_ints : ∀ {ns : List Int}, PyData.canLayAll0 (ns.map PyData.int) = true
  | [] => rfl
  | n :: r => by
    show (PyData.canLay0 (.int n) && PyData.canLayAll0 (r.map PyData.int)) = true
    rw [sh_ints]
    rfl
theorem dp_ints : ∀ {ns : List Int}, PyData.depthAll (ns.map PyData.int) = 0
  | [] => rfl
  | z :: r => by
    show max (PyData.depth (.int z)) (PyData.depthAll (r.map PyData.int)) = 0
    rw [dp_ints]
    rfl
theorem shaped_ints {ns : List Int} : SeqAt.shaped (.list (ns.map PyData.int)) = true := by
  unfold SeqAt.shaped
  rw [show PyData.canLay0 (.list (ns.map PyData.int)) = PyData.canLayAll0 (ns.map PyData.int) from rfl, sh_ints]
  rw [show PyData.depth (.list (ns.map PyData.int)) = PyData.depthAll (ns.map PyData.int) + 1 from rfl, dp_ints]
  rfl
theorem shaped_nil : SeqAt.shaped (.list []) = true := rfl
theorem dpa_strs {K : PySem.W.Frag} {H : Hp} : ∀ {zs : List Str}, DpAll K H (zs.map V.str) (zs.map PyData.str)
  | [] => .nil
  | z :: r => .cons (.str z) dpa_strs
theorem dpa_ints {K : PySem.W.Frag} {H : Hp} : ∀ {ns : List Int}, DpAll K H (ns.map V.int) (ns.map PyData.int)
  | [] => .nil
  | z :: r => .cons (.int z) dpa_ints
theorem eqv_nil (ds : List PyData) : PyData.eqv (.list ds) (.list []) = ds.isEmpty := by
  cases ds <;> rfl
/-! ### a comprehension over a text, its element by itself -/
theorem lcS {z : Str} {g : TG} {tt : TT} {te : TE} {vs : List Nat} {σ : L2.St} {H : Hp} {Qd : Addr → Hp → Prop} (f : Nat → V) (p : Nat → Bool) (hz : z.cps.size ≤ 16000000)
    (turn : ∀ c H', c ∈ z.cps.toList → Ex H H' → ∀ (R : VK) (R0 : Hp → Prop), (p c = true → ∀ H4, Ex H' H4 → R (f c) H4) → (p c = false → ∀ H4, Ex H' H4 → R0 H4) →
      g (.str ⟨#[c]⟩) (wipe σ vs) H' fun σ2 H2 => wipe σ2 vs = wipe σ vs ∧ tt σ2 H2 fun b H3 => if b = true then te σ2 H3 R else R0 H3)
    (q : ∀ D H', H D = none → Ex H H' → H' D = some (.lst ((z.cps.toList.filter p).map f)) → Qd D H') : ∀ D, H D = none →
    ∃ W : Nat → Nat → Hp → Prop, (∃ m, W 0 m (upd H D (.lst []))) ∧ ∀ i m H, W i m H →
      ((Its z).stop i H ∧ Qd D H) ∨ ((Its z).go i H ∧ ∃ Nx : Hp → Prop, (∀ H', Nx H' → ∃ m', m' < m ∧ W (i + 1) m' H') ∧ ∀ x' H', (Its z).yld i H x' H' → g x' (wipe σ vs) H' fun σ2 H2 => wipe σ2 vs = wipe σ vs ∧ tt σ2 H2 fun b H3 =>
        if b = true then te σ2 H3 fun y H4 => ∃ acc, H4 D = some (.lst acc) ∧ acc.length < sizeLine ∧ Nx (upd H4 D (.lst (acc ++ [y]))) else Nx H3) := fun D hD => by
  have small : ∀ i, (((z.cps.toList.take i).filter p).map f).length < sizeLine := fun i => by
    rw [List.length_map]
    have h1 := List.length_filter_le p (z.cps.toList.take i)
    have h2 : (z.cps.toList.take i).length ≤ z.cps.toList.length := by rw [List.length_take]; omega
    have h3 : z.cps.toList.length = z.cps.size := Array.length_toList
    rw [sizeLine_eq]
    omega
  refine lc_str (x := z) (fun i H' => Ex H H' ∧ H' D = some (.lst (((z.cps.toList.take i).filter p).map f))) ⟨Evl.Ex.new hD, by rw [upd_same]; rfl⟩ ?_ ?_
  · rintro i c H' hc ⟨e, hl⟩
    have hcl : z.cps.toList[i]? = some c := by rw [Array.getElem?_toList]; exact hc
    have ht : z.cps.toList.take (i + 1) = z.cps.toList.take i ++ [c] := by rw [List.take_add_one, hcl]; rfl
    refine turn c H' (List.mem_of_getElem? hcl) e _ _ (fun hp H4 e4 => ?_) (fun hp H4 e4 => ?_)
    · refine ⟨_, e4 _ _ hl, small i, ?_, ?_⟩
      · exact (e.trans e4).mut hD
      · rw [upd_same, ht, List.filter_append, List.map_append, List.filter_cons_of_pos hp]
        rfl
    · refine ⟨e.trans e4, ?_⟩
      rw [e4 _ _ hl, ht, List.filter_append, List.filter_cons_of_neg (by simp [hp])]
      simp
  · rintro H' ⟨e, hl⟩
    have h3 : z.cps.toList.take z.cps.size = z.cps.toList := by rw [← Array.length_toList]; exact List.take_length
    rw [h3] at hl
    exact q D H' hD e hl
/-! ### a text some times -/
theorem rep_size (c : Array Nat) : ∀ (k : Nat) (acc : Array Nat), (List.foldl (fun x1 x2 => x1 ++ x2) acc (List.replicate k c)).size = acc.size + c.size * k
  | 0, acc => by simp
  | k + 1, acc => by
    rw [List.replicate_succ, List.foldl_cons, rep_size c k, Array.size_append, Nat.mul_succ]
    omega
def rRepS : R2 := fun x y H Q => ∃ (z : Str) (k : Int), x = .str z ∧ y = .int k ∧ 2 ≤ k ∧ 0 < z.length ∧ z.length * k.toNat ≤ 16000000 ∧ ∀ u : Str, u.length = z.length * k.toNat → u.cps = (List.replicate k.toNat z.cps).foldl (· ++ ·) #[] → Q (.str u) H
theorem op_repS {X : Cx} : OpR X (binaryOp .Mult) rRepS := by
  intro pins s σ H x y v u Q I rx ry h
  obtain ⟨z, k, rfl, rfl, h2, h0, hz, q⟩ := h
  obtain ⟨t, rfl⟩ := rx
  obtain ⟨t', rfl⟩ := ry
  have k1 : k.toNat ≤ z.length * k.toNat := Nat.le_mul_of_pos_left _ h0
  have z1 : z.length ≤ z.length * k.toNat := Nat.le_mul_of_pos_right _ (by omega)
  have zk : (z.length : Int) * k ≤ 16000000 := by
    have : ((z.length * k.toNat : Nat) : Int) ≤ ((16000000 : Nat) : Int) := Int.ofNat_le.mpr hz
    rw [Int.natCast_mul, Int.toNat_of_nonneg (by omega)] at this
    exact this
  refine PySem.P.mul_str ?_ ?_ ?_ ?_
  · rw [decide_eq_false (by omega), decide_eq_false (by omega)]
    rfl
  · intro _ _ hh
    have : (2 ^ 63 - 1) / k * k ≤ 2 ^ 63 - 1 := Int.ediv_mul_le _ (by omega)
    have h5 : ((z.length : Int) - 1) * k ≥ (2 ^ 63 - 1) / k * k := Int.mul_le_mul_of_nonneg_right (by omega) (by omega)
    have h6 : (2 ^ 63 - 1) < (2 ^ 63 - 1) / k * k + k := by
      have := Int.lt_ediv_add_one_mul_self (2 ^ 63 - 1) (show 0 < k by omega)
      rw [Int.add_mul] at this
      omega
    rw [Int.sub_mul] at h5
    omega
  · intro _ _
    unfold Builtin.Str.tooLong
    rw [sizeLine_eq]
    exact decide_eq_false (by omega)
  · rw [if_neg (by omega), if_neg (by
      have e1 : (k == 1) = false := beq_eq_false_iff_ne.mpr fun e => absurd (e ▸ h2 : (2 : Int) ≤ 1) (by decide)
      have e2 : (z.length == 0) = false := beq_eq_false_iff_ne.mpr (Nat.ne_of_gt h0)
      rw [e1, e2]
      exact Bool.false_ne_true)]
    refine ⟨?_, ?_⟩
    · have e := rep_size z.cps k.toNat #[]
      show (List.foldl (fun x1 x2 => x1 ++ x2) #[] (List.replicate k.toNat z.cps)).size ≤ sizeLine
      rw [e, sizeLine_eq]
      have : z.cps.size * k.toNat ≤ 16000000 := hz
      simp only [Array.size_empty]
      omega
    · exact ⟨.str _, H, I.tok _, ⟨_, rfl⟩, q _ (by
        have e := rep_size z.cps k.toNat #[]
        show (List.foldl (fun x1 x2 => x1 ++ x2) #[] (List.replicate k.toNat z.cps)).size = z.length * k.toNat
        rw [e]
        simp only [Array.size_empty, Nat.zero_add]
        rfl) rfl⟩
end Bs

set_option autoImplicit false
namespace Bs
open PySem PySem.Spec PyProof.Rows L2 PpSet
open Evl (Ex)

/-! ### {e for .. in .. if ..}, the members whole numbers -/
section
variable {X : Cx}
/-- one member more of the set at D -/
theorem add_int {pins : List (Addr × Obj)} {σ : L2.St} {H : Hp} {s : Shared} {E : Value → Shared → Prop} {D : Addr} {S : Int → Bool} {n : Nat} {k : Int} {tk : Tok} {Q : Value → Shared → Prop} (J : L2.Inv X pins σ H s) (at_ : H D = some (SetO X.w D S n)) (few : n + 1 < scanBound)
    (next : ∀ s', L2.Inv X pins σ (upd H D (SetO X.w D (fun j => S j || decide (j = k)) (if S k = true then n else n + 1))) s' → Q .none s') : wpAny (model X.prog X.w) X.A (call (.builtin "set.add") [.ref D, .int k tk]) Q E s := by
  refine setR_add (setO_get J at_) few fun h2 same made => ?_
  obtain ⟨ob, hob⟩ : ∃ ob, h2.get? D = some ob := by
    have ⟨ob, _, _, _, hob, _⟩ := made
    exact ⟨ob, hob⟩
  exact next _ (J.write (e := D) (t' := s.toks + 1) (by rw [at_]; trivial) (.inl rfl) (fun b u hb hu => (same.2 b hb).trans hu) ⟨ob, hob⟩ (setO_new made))
def tScI (w : World) (wi : TI) (g : TG) (tt : TT) (te : TE) (vs : List Nat) : TE := fun σ H Q => wi σ H fun J H1 => ∀ D, H1 D = none → ∃ W : Nat → Nat → Hp → Prop, (∃ m, W 0 m (upd H1 D (SetO w D (fun _ => false) 0))) ∧ ∀ i m H, W i m H →
  (J.stop i H ∧ Q (.ref D) H) ∨ (J.go i H ∧ ∃ Nx : Hp → Prop, (∀ H', Nx H' → ∃ m', m' < m ∧ W (i + 1) m' H') ∧ ∀ x H', J.yld i H x H' → g x (wipe σ vs) H' fun σ2 H2 => wipe σ2 vs = wipe σ vs ∧ tt σ2 H2 fun b H3 =>
    if b = true then te σ2 H3 fun y H4 => ∃ (k : Int) (S : Int → Bool) (n : Nat), y = .int k ∧ H4 D = some (SetO w D S n) ∧ n + 1 < scanBound ∧ Nx (upd H4 D (SetO w D (fun j => S j || decide (j = k)) (if S k = true then n else n + 1))) else Nx H3)
/-- the object that a set comprehension begins with -/
abbrev set0 (w : World) : Obj := { cls := .type "set", dict := none, data := .set #[] 0 (.fresh 0 0 (!w.params.followText "set-order")) }
theorem pe_scI {elt tg iter : Expr} {ifs : List Expr} {scope : Scope} {own : List (PySem.Str × Nat)} {pos : Pos} {wi : TI} {g : TG} {tt : TT} {te : TE} (calm : X.calm = true) (nd : X.N.Nodup) (pi : PI X tg iter wi) (blk : BlkOk X.N X.env.scope scope own)
    (pgs : ∀ (s : Shared) (H : Hp) (C : Addr) (cl : List (PySem.Str × Addr)) (fp : List Addr), PG (X.blk s H scope (compEnvC scope cl C X.env) fp) tg g)
    (pts : ∀ (s : Shared) (H : Hp) (C : Addr) (cl : List (PySem.Str × Addr)) (fp : List Addr), PTs (X.blk s H scope (compEnvC scope cl C X.env) fp) ifs tt)
    (pes : ∀ (s : Shared) (H : Hp) (C : Addr) (cl : List (PySem.Str × Addr)) (fp : List Addr), PE (X.blk s H scope (compEnvC scope cl C X.env) fp) elt te) (fold : ∀ x, foldedSetIterable iter X.env x = pure x := by intro _; rfl) :
    PE X (.SetComp elt [⟨tg, iter, ifs, 0⟩] scope pos) (tScI X.w wi g tt te (own.map (·.2))) := by
  refine ⟨fun pins s σ H Q I hyp => ?_⟩
  rw [eval_SetComp]
  have cellsOk : ∀ y ∈ scope.names, y.2 = .free → ∃ c, X.env.cells.lookup y.1 = some c := fun y my fy => (blk.free y my fy).elim (fun k => I.ok.has _ (.inl k)) fun k => I.ok.has _ (.inr k)
  refine wpAny_comprehension_free rfl fold (closure_ok cellsOk) blk.kind (fun y my fy => by rw [blk.uniq y my, fy]) (thn (pi.run pins s σ H _ I hyp) fun _ _ a1 => thn a1 fun _ sA a2 => ?_)
  obtain ⟨it, fp, tn, J, HA, rfl, IA, T, stA, frA, q⟩ := a2
  refine newSet_ok (newEnv_comp ?_)
  -- the new set stands at D
  obtain ⟨D, eD⟩ : ∃ D, sA.heap.objs.size = D := ⟨_, rfl⟩
  have free : HA D = none := IA.hok.fresh (Nat.le_of_eq eD)
  obtain ⟨W, ⟨m0, w0⟩, turn⟩ := q D free
  obtain ⟨sB, eB⟩ : ∃ sB : Shared, ({ sA with heap := sA.heap.push (set0 X.w) } : Shared) = sB := ⟨_, rfl⟩
  obtain ⟨HB, eHB⟩ : ∃ HB : Hp, upd HA D (SetO X.w D (fun _ => false) 0) = HB := ⟨_, rfl⟩
  have hpB : sB.heap = sA.heap.push (set0 X.w) := by rw [← eB]
  have IB : L2.Inv X pins σ HB sB := by
    rw [← eB, ← eHB]
    refine IA.laid (t' := sA.toks) (fun b o e => Heap.get?_push_of_some _ e) (Nat.le_of_eq eD) ?_
    rw [← eD]
    exact setO_new (setR_fresh X.w)
  have below : ∀ b ∈ fp, b < sA.heap.objs.size := fun b mb => (T.obj _ _ stA b mb).elim fun _ e => Heap.lt_size e.1
  have frB : ∀ b ∈ fp, FpOk X pins HB b ∧ b < sB.heap.objs.size := fun b mb => by
    refine ⟨⟨?_, (frA b mb).2⟩, by rw [hpB, Heap.size_push]; exact Nat.lt_succ_of_lt (below b mb)⟩
    rw [← eHB, upd_ne (by rw [← eD]; exact Nat.ne_of_lt (below b mb))]
    exact (frA b mb).1
  have stB : tn 0 sB.heap := T.keep _ _ _ stA fun _ _ _ e => by rw [hpB]; exact Heap.get?_push_of_some _ e
  have IC := block_start IB blk nd frB
  -- the block's own frame
  obtain ⟨cells, ecl⟩ : ∃ cells, cellsFrom (sB.heap.objs.size + 1) scope.names (cloFrom X.env.cells scope.names []) = cells := ⟨_, rfl⟩
  obtain ⟨ce, ece⟩ : ∃ ce, compEnvC scope cells sB.heap.objs.size X.env = ce := ⟨_, rfl⟩
  obtain ⟨sC, eC⟩ : ∃ sC : Shared, ({ sB with heap := pushCells (sB.heap.push { cls := .type "dict", data := .dict #[] }) scope.names } : Shared) = sC := ⟨_, rfl⟩
  have pg := pgs sB HB sB.heap.objs.size cells fp
  have pt := pts sB HB sB.heap.objs.size cells fp
  have pe := pes sB HB sB.heap.objs.size cells fp
  rw [ecl, ece, eC] at IC
  rw [ece] at pg pt pe
  have lo : ce.locals = sB.heap.objs.size := by rw [← ece]; rfl
  have none_ : ∀ b ∈ fp, HB b = none := fun b mb => (frB b mb).1.1
  have stC : tn 0 sC.heap := T.keep _ _ _ stB fun _ _ _ e => by rw [← eC]; exact pushCells_keeps _ _ _ _ (Heap.get?_push_of_some _ e)
  have pinned_ : ∀ {τ : L2.St} {H1 : Hp} {s1 : Shared}, L2.Inv (X.blk sB HB scope ce fp) [] τ H1 s1 → (∀ b ∈ fp, H1 b = none) → ∀ b ∈ fp, FpOk (X.blk sB HB scope ce fp) [] H1 b := fun {τ H1 s1} J1 hn b mb => by
    exact ⟨hn b mb, (J1.ok.exf b mb).1, J1.ok.exfs b mb, .inl mb, fun x c e => (J1.ok.exf b mb).2 x c e, fun p hp => nomatch (show p ∈ ([] : List (Addr × Obj)) from by simpa using hp)⟩
  rw [eB, eD, ecl]
  show codeAny _ _ (.compStart (.SetComp elt [⟨tg, iter, ifs, 0⟩] scope pos) 0 (.ref it) (.ref D) (compEnvC scope cells sB.heap.objs.size X.env)) _ { sB with heap := pushCells (sB.heap.push { cls := .type "dict", data := .dict #[] }) scope.names }
  rw [ece, eC]
  have loop : codeAny (model X.prog X.w) X.A (.compLoop (.SetComp elt [⟨tg, iter, ifs, 0⟩] scope pos) 0 (.ref it) (.ref D) ce) (compPost (model X.prog X.w) X.A X.xe none (EP X pins σ Q) (.ref D) sB.heap.objs.size) sC := by
    refine compLoopS_any (fun n t => ∃ i H1, L2.Inv (X.blk sB HB scope ce fp) [] (wipe σ (own.map (·.2))) H1 t ∧ tn i t.heap ∧ (∀ b ∈ fp, H1 b = none) ∧ W i n H1) ?_ m0 ⟨0, HB, IC, stC, none_, by rw [← eHB]; exact w0⟩
    rintro n t5 ⟨i, H5, I5, st5, n5, w5⟩
    rcases turn i n H5 w5 with ⟨stop, fin_⟩ | ⟨go, Nx, back, step⟩
    · refine thnF (T.done (X.blk sB HB scope ce fp) rfl rfl rfl calm i [] t5 _ H5 (fun _ _ => False) I5 (pinned_ I5 n5) st5 stop) fun r t6 ⟨er, I6⟩ => ?_
      subst er
      have I7 : L2.Inv X pins σ H5 t6 := IB.call' (ch := fp) I6.os I6.base I6.hok I6.bare fun b mb => ⟨(frB b mb).1.2.2.2.1, (frB b mb).1.2.1, (frB b mb).1.2.2.2.2.1, (frB b mb).1.2.2.2.2.2⟩
      have fl : H5 sB.heap.objs.size = none := lo ▸ (show H5 ce.locals = none from I6.free)
      obtain ⟨m, hm, _⟩ := I6.loc
      have hm' : t6.heap.Ns sB.heap.objs.size m := lo ▸ (show t6.heap.Ns ce.locals m from hm)
      refine ⟨m, hm', fun h'' sb => ?_⟩
      obtain ⟨f0, f1, f2, f3, f4, f5⟩ := IB.fpOk (Nat.le_refl _) fl
      exact ⟨.ref D, H5, I7.turned (t' := t6.toks) (fun b o hb e => (sb.2 b hb).trans e) f0 f1 f3 f4 f5, rfl, fin_⟩
    · refine thnF (T.item (X.blk sB HB scope ce fp) rfl rfl rfl calm i [] t5 _ H5 (fun _ _ => False) I5 (pinned_ I5 n5) st5 go) fun r t6 ⟨u, er, h6⟩ => ?_
      subst er
      refine thnF h6 fun _ t7 ⟨x, H7, I7, r7, y7, st7, n7⟩ => ?_
      refine thnF (pg.run _ t7 _ H7 x u _ (I7.pinned (pinned_ I7 n7) (T.obj _ _ st7)) r7 (step x H7 y7)) fun _ t8 ⟨τ, H8, I8, ew, q8⟩ => ?_
      refine thnF (pt.run _ t8 τ H8 _ I8 q8) fun b t9 ⟨H9, I9, q9⟩ => ?_
      have again : ∀ {t : Shared} {H1 : Hp}, L2.Inv (X.blk sB HB scope ce fp) ([] ++ pinsAt fp t7.heap) τ H1 t → Nx H1 → ∃ m, m < n ∧ ∃ i H1, L2.Inv (X.blk sB HB scope ce fp) [] (wipe σ (own.map (·.2))) H1 t ∧ tn i t.heap ∧ (∀ b ∈ fp, H1 b = none) ∧ W i m H1 := fun {t H1} J1 nx => by
        obtain ⟨m', lt, w'⟩ := back H1 nx
        have held : ∀ b ∈ fp, ∀ o, t7.heap.get? b = some o → t.heap.get? b = some o ∧ H1 b = none := fun b mb o e => by
          have z := J1.pin (b, o) (List.mem_append_right _ (List.mem_append_right _ (mem_pinsAt mb e)))
          exact ⟨z.1, z.2.1⟩
        refine ⟨m', lt, i + 1, H1, (J1.unpinned (pins := [])).weak (by rw [← ew, wipe_length]) (fun j v e => (wipe_some (by rw [ew]; exact e)).1), T.keep _ _ _ st7 fun b mb o e => (held b mb o e).1, fun b mb => ?_, w'⟩
        obtain ⟨o, e, _⟩ := T.obj _ _ st7 b mb
        exact (held b mb o e).2
      cases b with
      | false =>
        simp only [Bool.false_eq_true, if_false] at q9 ⊢
        exact again I9 q9
      | true =>
        simp only [if_true] at q9 ⊢
        refine thnF (pe.run _ t9 τ H9 _ I9 q9) fun z t10 ⟨_, H10, I10, r10, k, S0, n0, ek, at10, few, nx⟩ => ?_
        subst ek
        obtain ⟨tk, rfl⟩ := r10
        exact add_int (X := X.blk sB HB scope ce fp) I10 at10 few fun t11 I11 => again I11 nx
  exact codeAny_compStart_set loop (T.self X.A 0 _ _ _ stC loop)
end
end Bs

namespace Bs
open PySem PySem.Spec PyProof.Rows L2
open Evl (Ex)
/-! ### rules by the written part -/
section
variable {X : Cx} {K : PySem.W.Frag}
theorem ixL (h : X.K = K := by rfl) : IxR X (rIxL K) := h ▸ ix_list
theorem ixT (h : X.K = K := by rfl) : IxR X (rIxT K) := h ▸ ix_tup
theorem eqDK (hu : X.A.units + 64 < cLine) (h : X.K = K := by rfl) : OpR X (compareOp .Eq) (rEqD K) := h ▸ op_eqD hu
theorem neDK (hu : X.A.units + 64 < cLine) (h : X.K = K := by rfl) : OpR X (compareOp .NotEq) (rNeD K) := h ▸ op_neD hu
theorem inSK (h : X.K = K := by rfl) : OpR X (compareOp .In) (rIn K false) := h ▸ op_in_seq
theorem niSK (h : X.K = K := by rfl) : OpR X (compareOp .NotIn) (rIn K true) := h ▸ op_notIn_seq
theorem slTK (h : X.K = K := by rfl) : SlR X (rSlT K) := h ▸ sl_tup
theorem slLK (h : X.K = K := by rfl) : SlR X (rSlL K) := h ▸ sl_list
theorem piTK {tg l : Expr} {tl : TE} (hl : PE X l tl) (h : X.K = K := by rfl) : PI X tg l (iTup K tl) := h ▸ pi_tup hl
theorem piLK {tg l : Expr} {tl : TE} (hl : PE X l tl) (h : X.K = K := by rfl) : PI X tg l (iList K tl) := h ▸ pi_list hl
theorem isiK (h : X.K = K := by rfl) : CallR X (.builtin "isinstance") (rIsi K) := h ▸ call_isi
theorem pgTK {es : List Expr} {k : Nat} {pos : Pos} {t : TGs} {n : Nat} (hc : X.calm = true) (h : PGs X es t) (hn : (assignEach es X.env).length = n := by rfl) (hst : (assignEach es X.env).findIdx? (·.1) = none := by rfl) (hK : X.K = K := by rfl) : PG X (.Tuple es k pos) (gTup K n t) := hK ▸ pg_tup hc h hn hst
def rLenK (K : PySem.W.Frag) : List V → Hp → VK → Prop := fun xs H Q => ∃ p ys, xs = [.ref p] ∧ (SqL K H p ys ∨ SqT K H p ys) ∧ Q (.int ys.length) H
theorem lenK (h : X.K = K := by rfl) : CallR X (.builtin "len") (rLenK K) := h ▸ call_len_seq
end
/-! ### data all of tuples -/
mutual
inductive TD (H : Hp) : V → PyData → Prop
  | non : TD H .non .none
  | bl (b : Bool) : TD H (.bl b) (.bool b)
  | int (i : Int) : TD H (.int i) (.int i)
  | str (x : Str) : TD H (.str x) (.str x)
  | tup {a : Addr} {xs : List V} {ds : List PyData} : H a = some (.tup xs) → TDs H xs ds → TD H (.ref a) (.tuple ds)
inductive TDs (H : Hp) : List V → List PyData → Prop
  | nil : TDs H [] []
  | cons {v : V} {vs : List V} {d : PyData} {ds : List PyData} : TD H v d → TDs H vs ds → TDs H (v :: vs) (d :: ds)
end
/-- all tuples stand -/
def Tp (H H' : Hp) : Prop := ∀ b xs, H b = some (.tup xs) → H' b = some (.tup xs)
theorem Tp.refl (H : Hp) : Tp H H := fun _ _ h => h
theorem Tp.trans {H H1 H2 : Hp} (a : Tp H H1) (b : Tp H1 H2) : Tp H H2 := fun x o h => b x o (a x o h)
theorem Tp.ex {H H1 : Hp} (a : Ex H H1) : Tp H H1 := fun x o h => a x _ h
theorem Tp.upd {H : Hp} {p : Addr} {xs : List V} {o : HO} (h : H p = some (.lst xs)) : Tp H (upd H p o) := fun b ys e => by
  rw [upd_ne (ne_of e h (by intro z; cases z))]
  exact e
mutual
theorem TD.tp {H H' : Hp} (e : Tp H H') : ∀ {v : V} {d : PyData}, TD H v d → TD H' v d
  | _, _, .non => .non
  | _, _, .bl b => .bl b
  | _, _, .int i => .int i
  | _, _, .str x => .str x
  | _, _, .tup h hs => .tup (e _ _ h) (TDs.tp e hs)
theorem TDs.tp {H H' : Hp} (e : Tp H H') : ∀ {v : List V} {d : List PyData}, TDs H v d → TDs H' v d
  | _, _, .nil => .nil
  | _, _, .cons h hs => .cons (TD.tp e h) (TDs.tp e hs)
end
mutual
theorem TD.dp {K : PySem.W.Frag} {H : Hp} : ∀ {v : V} {d : PyData}, TD H v d → Dp K H v d
  | _, _, .non => .non
  | _, _, .bl b => .bl b
  | _, _, .int i => .int i
  | _, _, .str x => .str x
  | _, _, .tup h hs => .tup (SqT.of h) (TDs.dp hs)
theorem TDs.dp {K : PySem.W.Frag} {H : Hp} : ∀ {v : List V} {d : List PyData}, TDs H v d → DpAll K H v d
  | _, _, .nil => .nil
  | _, _, .cons h hs => .cons (TD.dp h) (TDs.dp hs)
end
theorem TDs.len {H : Hp} : ∀ {xs : List V} {ds : List PyData}, TDs H xs ds → xs.length = ds.length
  | _, _, .nil => rfl
  | _, _, .cons _ h => by
    rw [List.length_cons, List.length_cons, TDs.len h]
theorem TDs.get {H : Hp} : ∀ {xs : List V} {ds : List PyData} {i : Nat} {d : PyData}, TDs H xs ds → ds[i]? = some d → ∃ v, xs[i]? = some v ∧ TD H v d
  | _, _, _, _, .nil, e => by simp at e
  | _, _, 0, _, .cons h _, e => ⟨_, rfl, by
    have := Option.some.inj e
    subst this
    exact h⟩
  | _, _, i + 1, d, .cons _ h, e => TDs.get (i := i) h e
theorem TDs.get' {H : Hp} : ∀ {xs : List V} {ds : List PyData} {i : Nat} {v : V}, TDs H xs ds → xs[i]? = some v → ∃ d, ds[i]? = some d ∧ TD H v d
  | _, _, _, _, .nil, e => by simp at e
  | _, _, 0, _, .cons h _, e => ⟨_, rfl, by
    have := Option.some.inj e
    subst this
    exact h⟩
  | _, _, i + 1, d, .cons _ h, e => TDs.get' (i := i) h e
theorem TD.tupI {H : Hp} {v : V} {ds : List PyData} (h : TD H v (.tuple ds)) : ∃ a xs, v = .ref a ∧ H a = some (.tup xs) ∧ TDs H xs ds := by
  cases h with
  | tup h hs => exact ⟨_, _, rfl, h, hs⟩
theorem TD.intI {H : Hp} {v : V} {i : Int} (h : TD H v (.int i)) : v = .int i := by
  cases h
  rfl
theorem TD.strI {H : Hp} {v : V} {i : Str} (h : TD H v (.str i)) : v = .str i := by
  cases h
  rfl
theorem TD.noneI {H : Hp} {v : V} (h : TD H v .none) : v = .non := by
  cases h
  rfl
theorem TDs.append {H : Hp} : ∀ {xs ys : List V} {ds es : List PyData}, TDs H xs ds → TDs H ys es → TDs H (xs ++ ys) (ds ++ es)
  | _, _, _, _, .nil, s => s
  | _, _, _, _, .cons r t, s => .cons r (TDs.append t s)
theorem TDs.strs {H : Hp} : ∀ (zs : List Str), TDs H (zs.map V.str) (zs.map PyData.str)
  | [] => .nil
  | z :: r => .cons (.str z) (TDs.strs r)
/-- rows that stand in a list of values, each a datum -/
def RowsAt {β : Type} (D : β → PyData) (H : Hp) (xs : List V) (rows : List β) : Prop := TDs H xs (rows.map D)
theorem RowsAt.get {β : Type} {D : β → PyData} {H : Hp} {xs : List V} {rows : List β} (h : RowsAt D H xs rows) {i : Nat} {v : V} (e : xs[i]? = some v) : ∃ b, rows[i]? = some b ∧ TD H v (D b) := by
  obtain ⟨d, h1, h2⟩ := TDs.get' h e
  rw [List.getElem?_map] at h1
  cases hb : rows[i]? with
  | none =>
    rw [hb] at h1
    cases h1
  | some b =>
    rw [hb] at h1
    have := Option.some.inj h1
    subst this
    exact ⟨b, rfl, h2⟩
theorem RowsAt.len {β : Type} {D : β → PyData} {H : Hp} {xs : List V} {rows : List β} (h : RowsAt D H xs rows) : xs.length = rows.length := by
  have := TDs.len h
  rw [List.length_map] at this
  exact this
theorem RowsAt.tp {β : Type} {D : β → PyData} {H H' : Hp} {xs : List V} {rows : List β} (e : Tp H H') (h : RowsAt D H xs rows) : RowsAt D H' xs rows := TDs.tp e h
/-! ### comprehensions over rows, all that stood standing -/
section
variable {K : PySem.W.Frag} {w : World} {β : Type} {D' : β → PyData} {a : Addr} {xs : List V} {rows : List β} {g : TG} {tt : TT} {te : TE} {vs : List Nat} {σ : L2.St} {H : Hp}
theorem take_snoc {α : Type} {l : List α} {i : Nat} {b : α} (h : l[i]? = some b) : l.take (i + 1) = l.take i ++ [b] := by
  rw [List.take_add_one, h]
  rfl
/-- {e for row in a tuple if ..} -/
theorem scT {Qd : Addr → Hp → Prop} (p : β → Bool) (f : β → Int) (hx : SqT K H a xs) (hr : RowsAt D' H xs rows) (small : rows.length ≤ 1000)
    (turn : ∀ b v H', b ∈ rows → TD H' v (D' b) → Ex H H' → ∀ (R : VK) (R0 : Hp → Prop), (p b = true → ∀ H4, Ex H' H4 → R (.int (f b)) H4) → (p b = false → ∀ H4, Ex H' H4 → R0 H4) →
      g v (wipe σ vs) H' fun σ2 H2 => wipe σ2 vs = wipe σ vs ∧ tt σ2 H2 fun c H3 => if c = true then te σ2 H3 R else R0 H3)
    (q : ∀ D H' S n, H D = none → Ex H H' → H' D = some (SetO w D S n) → (∀ k : Int, S k = true ↔ ∃ b ∈ rows, p b = true ∧ f b = k) → n ≤ rows.length → Qd D H') : ∀ D, H D = none →
    ∃ W : Nat → Nat → Hp → Prop, (∃ m, W 0 m (upd H D (SetO w D (fun _ => false) 0))) ∧ ∀ i m H, W i m H →
      ((Itt K a).stop i H ∧ Qd D H) ∨ ((Itt K a).go i H ∧ ∃ Nx : Hp → Prop, (∀ H', Nx H' → ∃ m', m' < m ∧ W (i + 1) m' H') ∧ ∀ x H', (Itt K a).yld i H x H' → g x (wipe σ vs) H' fun σ2 H2 => wipe σ2 vs = wipe σ vs ∧ tt σ2 H2 fun b H3 =>
        if b = true then te σ2 H3 fun y H4 => ∃ (k : Int) (S : Int → Bool) (n : Nat), y = .int k ∧ H4 D = some (SetO w D S n) ∧ n + 1 < scanBound ∧ Nx (upd H4 D (SetO w D (fun j => S j || decide (j = k)) (if S k = true then n else n + 1))) else Nx H3) := fun D hD => by
  have sb : (2000 : Nat) < scanBound := by decide
  refine ⟨fun i m H1 => m = xs.length - i ∧ i ≤ xs.length ∧ Ex H H1 ∧ ∃ S n, H1 D = some (SetO w D S n) ∧ (∀ k : Int, S k = true ↔ ∃ b ∈ rows.take i, p b = true ∧ f b = k) ∧ n ≤ i, ⟨xs.length, by simp, Nat.zero_le _, Ex.new hD, _, 0, upd_same, fun k => by simp, Nat.le_refl _⟩, ?_⟩
  rintro i m H1 ⟨rfl, hi, e, S, n, hS, hk, hn⟩
  have hx1 : SqT K H1 a xs := Evl.ex_t e hx
  by_cases hlt : i < xs.length
  · refine .inr ⟨⟨xs, xs[i], hx1, by simp [hlt]⟩, fun H2 => Ex H H2 ∧ ∃ S n, H2 D = some (SetO w D S n) ∧ (∀ k : Int, S k = true ↔ ∃ b ∈ rows.take (i + 1), p b = true ∧ f b = k) ∧ n ≤ i + 1, fun H2 h2 => ⟨xs.length - (i + 1), by omega, rfl, hlt, h2⟩, fun x H' y => ?_⟩
    obtain ⟨e1, y⟩ := y
    subst e1
    have ex := y xs hx1
    obtain ⟨b, hb, ht⟩ := hr.get ex
    refine turn b x _ (List.mem_of_getElem? hb) (TD.tp (Tp.ex e) ht) e _ _ (fun hp H4 e4 => ?_) (fun hp H4 e4 => ?_)
    · refine ⟨f b, S, n, rfl, e4 _ _ hS, by rw [hr.len] at hlt; omega, (e.trans e4).mut hD, _, _, upd_same, fun k => ?_, by split <;> omega⟩
      rw [take_snoc hb, Bool.or_eq_true, hk k, decide_eq_true_iff]
      constructor
      · rintro (⟨c, hc, h1, h2⟩ | h)
        · exact ⟨c, List.mem_append_left _ hc, h1, h2⟩
        · exact ⟨b, List.mem_append_right _ (List.mem_singleton.mpr rfl), hp, h.symm⟩
      · rintro ⟨c, hc, h1, h2⟩
        rcases List.mem_append.mp hc with hc | hc
        · exact .inl ⟨c, hc, h1, h2⟩
        · rw [List.mem_singleton.mp hc] at h2
          exact .inr h2.symm
    · refine ⟨e.trans e4, S, n, e4 _ _ hS, fun k => ?_, Nat.le_succ_of_le hn⟩
      rw [take_snoc hb, hk k]
      constructor
      · rintro ⟨c, hc, h1, h2⟩
        exact ⟨c, List.mem_append_left _ hc, h1, h2⟩
      · rintro ⟨c, hc, h1, h2⟩
        rcases List.mem_append.mp hc with hc | hc
        · exact ⟨c, hc, h1, h2⟩
        · rw [List.mem_singleton.mp hc, hp] at h1
          cases h1
  · have e1 : i = xs.length := by omega
    subst e1
    refine .inl ⟨⟨xs, hx1, Nat.le_refl _⟩, q D H1 S n hD e hS (fun k => ?_) (by rw [hr.len] at hn; exact hn)⟩
    rw [hk k, hr.len, List.take_length]
/-- [e for row in a tuple if ..], its items made without another thing's change -/
theorem lcT {Qd : Addr → Hp → Prop} (p : β → Bool) (f : β → V) (hx : SqT K H a xs) (hr : RowsAt D' H xs rows) (small : rows.length ≤ 10000)
    (turn : ∀ b v H', b ∈ rows → TD H' v (D' b) → Ex H H' → ∀ (R : VK) (R0 : Hp → Prop), (p b = true → ∀ H4, Ex H' H4 → R (f b) H4) → (p b = false → ∀ H4, Ex H' H4 → R0 H4) →
      g v (wipe σ vs) H' fun σ2 H2 => wipe σ2 vs = wipe σ vs ∧ tt σ2 H2 fun c H3 => if c = true then te σ2 H3 R else R0 H3)
    (q : ∀ D H', H D = none → Ex H H' → H' D = some (.lst ((rows.filter p).map f)) → Qd D H') : ∀ D, H D = none →
    ∃ W : Nat → Nat → Hp → Prop, (∃ m, W 0 m (upd H D (.lst []))) ∧ ∀ i m H, W i m H →
      ((Itt K a).stop i H ∧ Qd D H) ∨ ((Itt K a).go i H ∧ ∃ Nx : Hp → Prop, (∀ H', Nx H' → ∃ m', m' < m ∧ W (i + 1) m' H') ∧ ∀ x H', (Itt K a).yld i H x H' → g x (wipe σ vs) H' fun σ2 H2 => wipe σ2 vs = wipe σ vs ∧ tt σ2 H2 fun b H3 =>
        if b = true then te σ2 H3 fun y H4 => ∃ acc, H4 D = some (.lst acc) ∧ acc.length < sizeLine ∧ Nx (upd H4 D (.lst (acc ++ [y]))) else Nx H3) := fun D hD => by
  have len : ∀ i, (((rows.take i).filter p).map f).length < sizeLine := fun i => by
    rw [List.length_map]
    have h1 := List.length_filter_le p (rows.take i)
    have h2 : (rows.take i).length ≤ rows.length := by rw [List.length_take]; omega
    rw [sizeLine_eq]
    omega
  refine lc_tup (K := K) (a := a) (xs := xs) (fun i H' => Ex H H' ∧ H' D = some (.lst (((rows.take i).filter p).map f))) ⟨Ex.new hD, by rw [upd_same]; rfl⟩ (fun i H' _ h => Evl.ex_t h.1 hx) ?_ ?_
  · rintro i x H' ex ⟨e, hl⟩
    obtain ⟨b, hb, ht⟩ := hr.get ex
    refine turn b x _ (List.mem_of_getElem? hb) (TD.tp (Tp.ex e) ht) e _ _ (fun hp H4 e4 => ?_) (fun hp H4 e4 => ?_)
    · refine ⟨_, e4 _ _ hl, len i, (e.trans e4).mut hD, ?_⟩
      rw [upd_same, take_snoc hb, List.filter_append, List.map_append, List.filter_cons_of_pos hp]
      rfl
    · refine ⟨e.trans e4, ?_⟩
      rw [e4 _ _ hl, take_snoc hb, List.filter_append, List.filter_cons_of_neg (by simp [hp])]
      simp
  · rintro H' ⟨e, hl⟩
    rw [hr.len, List.take_length] at hl
    exact q D H' hD e hl
end
/-! ### a text that tells a thing -/
def okInt : PyData → Prop
  | .int i => i.natAbs.log2 < 1920
  | .bool _ => False
  | .str _ => False
  | _ => True
def rReprD (K : PySem.W.Frag) : List V → Hp → VK → Prop := fun xs H Q => ∃ x d, xs = [x] ∧ Dp K H x d ∧ okInt d ∧ d.showable = true ∧ d.hasDict = false ∧ d.depth ≤ 50 ∧ d.shown.length ≤ sizeLine ∧ Q (.str d.shown) H
theorem call_reprD {X : Cx} (hg : X.A.guards = some []) (hu : X.A.units + 64 < cLine) : CallR X (.builtin "repr") (rReprD X.K) := by
  intro pins s σ H xs us Q I r h
  obtain ⟨x, d, rfl, hd, h0, h1, h2, h3, h4, q⟩ := h
  obtain ⟨u, rfl, r1⟩ := vals1 r
  have far : ∀ a, x = .ref a → wpAny (model X.prog X.w) X.A (call (.builtin "repr") [u]) (EP X pins σ Q) X.xe s := fun a ea => by
    subst ea
    obtain rfl : u = Value.ref a := r1
    obtain ⟨as, rd⟩ := Dp.reads I d _ _ hd (show L2.RelV (.ref a) (.ref a) from rfl)
    refine repr_of_reads' (h₀ := s.heap) rd h1 (fun z => by rw [h2] at z; cases z) hg (by omega) (fun _ _ e => e) (fun h' v tk kept => ?_) h4
    exact ⟨.str d.shown, H, I.call' (ch := []) rfl (Un.kept kept) (I.hok.kept kept) I.bare (fun _ z => nomatch z), ⟨_, rfl⟩, q⟩
  cases hd with
  | non =>
    obtain rfl : u = Value.none := r1
    exact PySem.P.repr_of_none ⟨.str _, H, I.tok _, ⟨_, rfl⟩, q⟩
  | int i =>
    obtain ⟨t, rfl⟩ := r1
    exact PySem.P.repr_of_int h0 ⟨.str _, H, I.tok _, ⟨_, rfl⟩, q⟩
  | bl b => exact h0.elim
  | str z => exact h0.elim
  | lst _ _ => exact far _ rfl
  | tup _ _ => exact far _ rfl
/-! rows of small numbers, shown -/
theorem shown_le {xs : List PyData} {B : Nat} (h : ∀ x ∈ xs, x.shown.length ≤ B) : (PyData.list xs).shown.length ≤ 2 + xs.length * (B + 2) := by
  have lb : ∀ {ys : List PyData}, (∀ x ∈ ys, x.shown.length ≤ B) → ((PyData.shownAll ys).map (·.length)).sum ≤ ys.length * B := by
    intro ys
    induction ys with
    | nil =>
      intro _
      exact Nat.zero_le _
    | cons y r ih =>
      intro hy
      have h1 := ih fun x hx => hy x (List.mem_cons_of_mem _ hx)
      have h2 := hy y List.mem_cons_self
      rw [PyData.shownAll_cons, List.map_cons, List.sum_cons, List.length_cons, Nat.succ_mul]
      omega
  have ap : ∀ x y : Str, (x ++ y).length = x.length + y.length := fun x y => by
    show (x.cps ++ y.cps).size = _
    rw [Array.size_append]
    rfl
  have l1 : Str.length ("[" : Str) = 1 := by decide +kernel
  have l2 : Str.length ("]" : Str) = 1 := by decide +kernel
  have l3 : Str.length (", " : Str) = 2 := by decide +kernel
  have j := StrLaws.join_length_le ", " (PyData.shownAll xs)
  rw [l3, PyData.shownAll_length] at j
  have s1 := lb h
  rw [PyData.shown_list, ap, ap, l1, l2, Nat.mul_add]
  omega
/-- rows of rows of numbers -/
def nest (ls : List (List Int)) : PyData := .list (ls.map fun l => .list (l.map .int))
def Few (ls : List (List Int)) : Prop := ls.length ≤ 40 ∧ ∀ l ∈ ls, l.length ≤ 40 ∧ ∀ n ∈ l, 0 ≤ n ∧ n < 130
theorem num_short {n : Int} (h0 : 0 ≤ n) (h1 : n < 130) : (PyData.int n).shown.length ≤ 3 := by
  obtain ⟨k, rfl⟩ : ∃ k : Nat, n = (k : Int) := ⟨_, (Int.toNat_of_nonneg h0).symm⟩
  have all : ∀ k : Fin 130, (PyData.int ((k.val : Nat) : Int)).shown.length ≤ 3 := by decide +kernel
  exact all ⟨k, by omega⟩
theorem num_log {n : Int} (h0 : 0 ≤ n) (h1 : n < 130) : n.natAbs.log2 < 1920 := Nat.lt_of_le_of_lt (Nat.log2_le_self _) (by omega)
theorem nest_show {ls : List (List Int)} (h : Few ls) : (nest ls).shown.length ≤ sizeLine := by
  have i : ∀ x ∈ (ls.map fun l => PyData.list (l.map .int)), x.shown.length ≤ 300 := fun x hx => by
    obtain ⟨l, hl, rfl⟩ := List.mem_map.mp hx
    obtain ⟨h1, h2⟩ := h.2 l hl
    have := shown_le (xs := l.map .int) (B := 3) fun y hy => by
      obtain ⟨n, hn, rfl⟩ := List.mem_map.mp hy
      exact num_short (h2 n hn).1 (h2 n hn).2
    rw [List.length_map] at this
    omega
  have := shown_le i
  rw [List.length_map] at this
  have h1 := h.1
  rw [sizeLine_eq]
  unfold nest
  have : ls.length * (300 + 2) ≤ 40 * 302 := Nat.mul_le_mul_right _ h1
  omega
theorem nest_showable {ls : List (List Int)} (h : Few ls) : (nest ls).showable = true := by
  have key : ∀ ms : List (List Int), (∀ l ∈ ms, ∀ n ∈ l, n.natAbs.log2 < 1920) → PyData.showableAll (ms.map fun l => PyData.list (l.map .int)) = true := by
    intro ms
    induction ms with
    | nil => intro _; rfl
    | cons m r ih =>
      intro hm
      show (PyData.showable (.list (m.map .int)) && PyData.showableAll (r.map fun l => PyData.list (l.map .int))) = true
      rw [show PyData.showable (.list (m.map .int)) = PyData.showableAll (m.map .int) from rfl, PyData.showableAll_ints m (hm m List.mem_cons_self), ih fun l hl => hm l (List.mem_cons_of_mem _ hl)]
      rfl
  exact key ls fun l hl n hn => num_log ((h.2 l hl).2 n hn).1 ((h.2 l hl).2 n hn).2
theorem nest_plain : ∀ ls : List (List Int), (nest ls).hasDict = false := by
  have i : ∀ l : List Int, PyData.hasDictAll (l.map .int) = false := by
    intro l
    induction l with
    | nil => rfl
    | cons n r ih =>
      show (PyData.hasDict (.int n) || PyData.hasDictAll (r.map .int)) = false
      rw [ih]
      rfl
  intro ls
  show PyData.hasDictAll (ls.map fun l => PyData.list (l.map .int)) = false
  induction ls with
  | nil => rfl
  | cons l r ih =>
    show (PyData.hasDict (.list (l.map .int)) || PyData.hasDictAll (r.map fun l => PyData.list (l.map .int))) = false
    rw [show PyData.hasDict (.list (l.map .int)) = PyData.hasDictAll (l.map .int) from rfl, i l, ih]
    rfl
theorem nest_depth (ls : List (List Int)) : (nest ls).depth ≤ 50 := by
  have : PyData.depthAll (ls.map fun l => PyData.list (l.map .int)) ≤ 1 := by
    induction ls with
    | nil => exact Nat.zero_le _
    | cons l r ih =>
      show max (PyData.depth (.list (l.map .int))) (PyData.depthAll (r.map fun l => PyData.list (l.map .int))) ≤ 1
      rw [show PyData.depth (.list (l.map .int)) = PyData.depthAll (l.map .int) + 1 from rfl, dp_ints]
      omega
  show PyData.depthAll (ls.map fun l => PyData.list (l.map .int)) + 1 ≤ 50
  omega
/-- a list of lists of numbers stands: their places -/
def NestAt (K : PySem.W.Frag) (H : Hp) : List V → List (List Int) → Prop
  | [], [] => True
  | v :: vs, l :: ls => (∃ a, v = .ref a ∧ SqL K H a (l.map V.int)) ∧ NestAt K H vs ls
  | _, _ => False
theorem NestAt.dp {K : PySem.W.Frag} {H : Hp} : ∀ {vs : List V} {ls : List (List Int)}, NestAt K H vs ls → DpAll K H vs (ls.map fun l => .list (l.map .int))
  | [], [], _ => .nil
  | v :: vs, l :: ls, h => by
    obtain ⟨⟨a, rfl, hs⟩, h2⟩ := h
    exact .cons (.lst hs dpa_ints) (NestAt.dp h2)
  | [], _ :: _, h => h.elim
  | _ :: _, [], h => h.elim
theorem rd_nest {K : PySem.W.Frag} {H : Hp} {a : Addr} {vs : List V} {ls : List (List Int)} {Q : VK} (hs : SqL K H a vs) (h : NestAt K H vs ls) (f : Few ls) (q : Q (.str (nest ls).shown) H) : rReprD K [.ref a] H Q :=
  ⟨.ref a, nest ls, rfl, .lst hs h.dp, True.intro, nest_showable f, nest_plain ls, nest_depth ls, nest_show f, q⟩
/-! ### max(.., default=None) -/
def rMaxD (K : PySem.W.Frag) : List V → List V → Hp → VK → Prop := fun vs zs H Q => ∃ (a : Addr) (ns : List Int), vs = [.ref a] ∧ zs = [.non] ∧ SqL K H a (ns.map V.int) ∧ (ns = [] → Q .non H) ∧ ∀ m ∈ ns, (∀ n ∈ ns, n ≤ m) → Q (.int m) H
theorem max_in : ∀ (ns : List Int) (n : Int), (ns.foldl max n ∈ n :: ns) ∧ ∀ k ∈ n :: ns, k ≤ ns.foldl max n
  | [], n => ⟨List.mem_cons_self, fun k hk => by rw [List.mem_singleton.mp hk]; exact Int.le_refl _⟩
  | m :: r, n => by
    obtain ⟨h1, h2⟩ := max_in r (max n m)
    rw [List.foldl_cons]
    constructor
    · rcases List.mem_cons.mp h1 with e | e
      · rw [e]
        rcases Int.le_total n m with h | h
        · rw [Int.max_eq_right h]
          exact List.mem_cons_of_mem _ List.mem_cons_self
        · rw [Int.max_eq_left h]
          exact List.mem_cons_self
      · exact List.mem_cons_of_mem _ (List.mem_cons_of_mem _ e)
    · intro k hk
      have h3 := h2 _ List.mem_cons_self
      rcases List.mem_cons.mp hk with e | e
      · subst e
        exact Int.le_trans (Int.le_max_left _ _) h3
      · rcases List.mem_cons.mp e with e | e
        · subst e
          exact Int.le_trans (Int.le_max_right _ _) h3
        · exact h2 k (List.mem_cons_of_mem _ e)
theorem cr_maxD {X : Cx} (hc : X.calm = true) (hu : X.A.units + 64 < cLine) : CallRK X (.builtin "max") [Str.ofString "default"] (rMaxD X.K) := by
  intro pins s σ H xs zs us ws Q I r1 r2 h
  obtain ⟨a, ns, rfl, rfl, hs, h0, h1⟩ := h
  obtain ⟨u, rfl, ru⟩ := vals1 r1
  obtain ⟨w', rfl, rw'⟩ := vals1 r2
  obtain rfl : u = Value.ref a := ru
  obtain rfl : w' = Value.none := rw'
  obtain ⟨its, rv, hl, _⟩ := I.list hs
  obtain ⟨as, rd⟩ := Dp.readsAll I (ns.map .int) _ _ dpa_ints rv
  have back : ∀ {h' : Heap} {tk : Nat}, (∀ b o, s.heap.get? b = some o → h'.get? b = some o) → L2.Inv X pins σ H { s with heap := h', toks := tk } := fun {h' tk} kept => I.call' (ch := []) rfl (Un.kept kept) (I.hok.kept kept) I.bare (fun _ z => nomatch z)
  have al : PySem.W.AlikeAll (ns.map .int) := ⟨fun x hx y hy => by
    obtain ⟨i, _, rfl⟩ := List.mem_map.mp hx
    obtain ⟨j, _, rfl⟩ := List.mem_map.mp hy
    rfl, fun x hx => by
    obtain ⟨i, _, rfl⟩ := List.mem_map.mp hx
    intro z
    cases z⟩
  refine PySem.W.max_list_default (vs := its.toArray) (I.ok.hd hc) hl.isList (by simpa using rd) al (by rw [dp_ints]; omega) (fun e h' tk kept => ?_) fun y ys i v h' tk bs e hv hr kept => ?_
  · have : ns = [] := by
      cases ns with
      | nil => rfl
      | cons n r => cases e
    exact ⟨.non, H, back kept, rfl, h0 this⟩
  · cases ns with
    | nil => cases e
    | cons n r =>
      have e1 : PyData.int n = y := (List.cons.inj e).1
      have e2 : r.map PyData.int = ys := (List.cons.inj e).2
      subst e1 e2
      rw [PySem.W.maxD_ints] at hr
      obtain ⟨t, rfl⟩ : ∃ t, v = .int (r.foldl max n) t := by
        cases hr with
        | int => exact ⟨_, rfl⟩
      obtain ⟨g1, g2⟩ := max_in r n
      exact ⟨.int _, H, back kept, ⟨t, rfl⟩, h1 _ g1 g2⟩
end Bs

namespace Bs
open PySem PySem.Spec PyProof.Rows L2
open Evl (Ex)
/-! ### a def that is run at one place, of which more is known than of any -/
section
variable {P : Program} {w : World} {K : PySem.W.Frag} {mg : Str → Option Value} {base : Heap}
def RunAt (P : Program) (w : World) (K : PySem.W.Frag) (mg : Str → Option Value) (base : Heap) (A : Around) (f : Addr) (fd : FuncData) (ps : List Str) (sp : Sp) : Prop :=
  ∀ (outer : List Env) (s : Shared) (H : Hp) (args : Args) (us : List Value) (vs : List V) (Q : VK) (E : XK), Env0 P w K mg base A outer s H → BindsTo s fd args (ps.zip us) → Vals vs us → sp vs H Q E →
    codeAny (model P w) A (.call (.ref f) args) (CR CX0 outer P w H s Q E) s
theorem run_at {x qual : Str} {st : Stmt} {f : Addr} {fd : FuncData} {N ps : List Str} {k : Nat} {sp : Sp} {A : Around} (F : Fun K x qual st f fd) (S : FnScope N ps (defScope st)) (len : ∀ vs H Q E, sp vs H Q E → vs.length = ps.length) (room : Room (k + 1) A)
    (body : ∀ (cdv : Value) (outer : List Env) (s : Shared) (H : Hp) (vs : List V) (Q : VK) (E : XK), Room k (A.deeper (envOfC qual (defScope st) s.heap.objs.size f cdv)) → sp vs H Q E →
      ∃ t, PSs (cxOf CX0 P w K mg base N qual (defScope st) f cdv A outer s H E).nox (defBody st) t ∧ t { nx := fun _ H' => Q .non H', rt := Q } (start N vs) H) : RunAt P w K mg base A f fd ps sp := by
  obtain ⟨oc, od, kV, doc, pm, an, cdv, ct, osl, rfl, lk, hcd⟩ := F.ex
  intro outer s H args us vs Q E e0 hb r hsp
  have keep_ : ∀ b o, base.get? b = some o → s.heap.get? b = some o := fun b o e => (e0.bs b o e).1
  have KX : K.In s.heap := e0.mod.kin.keeps keep_
  have kinds : ∀ y ∈ ps.zip us, (defScope st).names.lookup y.1 = some .local ∨ ((defScope st).names.lookup y.1 = some .cell ∧ ((cellsFrom (s.heap.objs.size + 1) (defScope st).names []).lookup y.1).isSome = true) := fun y hy =>
    (S.par y.1 (List.of_mem_zip (a := y.1) (b := y.2) hy).1).imp id fun q => ⟨q, PySem.W.cellsFrom_some _ _ _ (.inl q)⟩
  refine codeAny_call_function room.depth (KX _ _ lk) rfl S.co S.gen rfl (PySem.W.codeRec_of KX hcd) (hb _ _ _ _ (wpAny_newFunctionEnv_cells S.kind kinds fun env he s1 made => ?_))
  subst he
  refine ⟨(e0.mod.nolimit.keeps keep_).keeps made.toInCall.keep, codeAny_func ?_⟩
  obtain ⟨t, ht, hq⟩ := body cdv outer s H vs Q E (room.deeper _) hsp
  have J := inv_start (CX := CX0) (E := E) (cd := cdv) (f := f) (qual := qual) S room.hd e0 (len _ _ _ _ hsp) r made
  refine wpAny_mono (ht.nox.run [] s1 (start N vs) H _ J hq) (fun fl s2 hs => ?_) fun _ _ hs => hs
  cases fl with
  | ret u => exact hs.elim fun v ⟨_, H2, J2, rv, q2⟩ => ⟨v, H2, J2.os, J2.bare, J2.base, J2.hok, rv, q2⟩
  | next => exact hs.elim fun _ ⟨H2, J2, q2⟩ => ⟨V.non, H2, J2.os, J2.bare, J2.base, J2.hok, rfl, q2⟩
  | brk => exact hs.elim fun _ ⟨_, _, q2⟩ => q2.elim
  | cont => exact hs.elim fun _ ⟨_, _, q2⟩ => q2.elim
/-- the law's call, its def run at the caller's place alone -/
theorem law_callG {mb : Str → Option Value} {fa a : Addr} {fd : FuncData} {x : Str} {sp : Sp} {s₁ : Shared} {vs : List Value} {ns : List Int}
    (KX : K.In s₁.heap) (hns : s₁.heap.Ns mainGlobals mg) (hb : s₁.heap.Ns builtinsNs mb) (hbb : ∀ x : Str, x ≠ "__name__" → mb x = bootBuiltins x) (hlim : s₁.heap.NoLimit) (hg : s₁.gens = #[])
    (ha : s₁.heap.get? a = some { cls := .type "list", data := .seq vs.toArray }) (hi : IntsAre vs ns) (hl : ns.length ≤ sizeLine)
    (F : ∀ base : Heap, K.In base → base.Ns mainGlobals mg → RunAt P w K mg base callerA fa fd [x] sp) (hbind : ∀ (s : Shared) (u : Value), BindsTo s fd ⟨[u], []⟩ [(x, u)])
    (hsp : ∀ H : Hp, Only H → SqL K H a (ns.map V.int) → sp [.ref a] H (fun v _ => v = .bl true) fun _ _ _ => False) :
    codeAny (model P w) callerA (.call (.ref fa) ⟨[.ref a], []⟩) (fun r s' => r = .ok (.ret (.bool true)) ∧ OldK s₁.heap s'.heap ∧ s'.os = s₁.os ∧ AllBare s'.gens) s₁ := by
  have rv := vals_ints hi
  have from_ : ∀ H : Hp, Only H → SqL K H a (ns.map V.int) → HOk P w H s₁.heap → (∀ b u, H b = some u → b = a ∧ K.lookup a = none) →
      codeAny (model P w) callerA (.call (.ref fa) ⟨[.ref a], []⟩) (fun r s' => r = .ok (.ret (.bool true)) ∧ OldK s₁.heap s'.heap ∧ s'.os = s₁.os ∧ AllBare s'.gens) s₁ := by
    intro H hO hS hok hA
    have notA : ∀ {b : Addr}, b ≠ a → H b = none := fun {b} n => by
      cases q : H b with
      | none => rfl
      | some u => exact absurd (hA b u q).1 n
    have space : ∀ {b : Addr} {m : Str → Option Value}, s₁.heap.Ns b m → (hidT s₁.heap H).Ns b m := fun {b m} z => by
      obtain ⟨o, es, ep, e, d, r⟩ := z
      refine ⟨o, es, ep, hidT_get e (notA fun eb => ?_), d, r⟩
      subst eb
      rw [ha] at e
      cases e
      exact absurd (show Data.seq vs.toArray _ = Data.dict es ep from d) (by intro z; cases z)
    have written : K.In (hidT s₁.heap H) := fun b o e => hidT_get (KX b o e) (by
      cases q : H b with
      | none => rfl
      | some u =>
        obtain ⟨eb, none_⟩ := hA b u q
        subst eb
        rw [none_] at e
        cases e)
    obtain ⟨mc, l1, l2⟩ := hlim
    have e0 : Env0 P w K mg (hidT s₁.heap H) callerA [] s₁ H :=
      { frames := rfl, mod := ⟨written, space hns, ⟨mb, space hb, hbb⟩, ⟨mc, space l1, l2⟩⟩, bs := fun _ _ e => of_hidT e, bsz := Nat.le_of_eq (hidT_size _ _), funs := trivial, frf := (fun _ z => nomatch (show _ ∈ ([] : List Addr) from z)), hok := hok, bare := .of_eq hg }
    refine codeAny_mono (F _ written (space hns) [] s₁ H ⟨[.ref a], []⟩ [.ref a] [.ref a] _ _ e0 (hbind s₁ (.ref a)) (.cons rfl .nil) (hsp H hO hS)) fun r s' h => ?_
    cases r with
    | error e => exact h.elim
    | ok fl =>
      cases fl with
      | next => exact h.elim
      | brk => exact h.elim
      | cont => exact h.elim
      | ret u =>
        obtain ⟨v, H', os, bare, un, hok', r', q⟩ := h
        have q' : v = .bl true := q
        subst q'
        obtain rfl : u = Value.bool true := r'
        refine ⟨rfl, OldK.of_keep fun b o e => ?_, os, bare⟩
        rcases hO b with z | ⟨ob, xs, z⟩
        · exact un.keep b o e z (fun z => nomatch (show b ∈ ([] : List Addr) from z)) (fun z => nomatch z)
        · have g1 := (hok b _ z).1
          rw [e] at g1
          cases g1
          exact (hok' b _ (un.frzs b _ _ z)).1
  have len_ := hi.length
  cases hk : K.lookup a with
  | some o =>
    have e := KX a o hk
    rw [ha] at e
    cases e
    exact from_ (fun _ => none) (fun _ => .inl rfl) (.inr ⟨_, vs.toArray, _, hk, rfl, rfl, rfl, by rw [List.size_toArray, len_]; exact hl, by simpa using rv⟩) (fun b u z => nomatch (show (none : Option HO) = some u from z)) fun b u z => nomatch (show (none : Option HO) = some u from z)
  | none =>
    have at_ : ∀ b u, (if b = a then some (HO.frz { cls := .type "list", data := .seq vs.toArray } (.lst (ns.map V.int))) else none) = some u → b = a ∧ u = .frz { cls := .type "list", data := .seq vs.toArray } (.lst (ns.map V.int)) := fun b u z => by
      by_cases eb : b = a
      · rw [if_pos eb] at z
        exact ⟨eb, (Option.some.inj z).symm⟩
      · rw [if_neg eb] at z
        cases z
    refine from_ (fun b => if b = a then some (.frz { cls := .type "list", data := .seq vs.toArray } (.lst (ns.map V.int))) else none) (fun b => ?_) (.inl (.inr ⟨{ cls := .type "list", data := .seq vs.toArray }, if_pos rfl⟩)) (fun b u z => ?_) fun b u z => ⟨(at_ b u z).1, hk⟩
    · by_cases eb : b = a
      · exact .inr ⟨_, _, if_pos eb⟩
      · exact .inl (if_neg eb)
    · obtain ⟨eb, eu⟩ := at_ b u z
      subst eb eu
      exact ⟨ha, by rw [List.length_map]; exact hl, vs, _, rv, ha⟩
end
/-- the end of a law row, its def run at the caller's place -/
theorem walk_ofG {l : PySem.W.OpenLaw} {n : Nat} {q : Program} {loose : List Str} {XP : (Str → Option Value) → Heap → Prop} {YP : World → Heap → Prop} {d : DefRec} {K : Params → PySem.W.Frag} {sp : World → Sp} {x : Str}
    (hn : l.most = some n) (hn2 : n ≤ sizeLine) (hdf : d.params.defaults = []) (hY : ∀ (w : World) (h : Heap), YP w h → (K w.params).In h)
    (F : ∀ (w : World) (mg : Str → Option Value) (fa : Addr) (h : Heap), (K w.params).In h → h.Ns mainGlobals mg → mg d.name = some (.ref fa) →
      ∃ fd : FuncData, (∀ (s : Shared) (u : Value), BindsTo s fd ⟨[u], []⟩ [(x, u)]) ∧ ∀ base : Heap, (K w.params).In base → base.Ns mainGlobals mg → RunAt l.prog w (K w.params) mg base callerA fa fd [x] (sp w))
    (hsp : ∀ (w : World) (H : Hp) (a : Addr) (ns : List Int), ns.length ≤ n → Only H → SqL (K w.params) H a (ns.map V.int) → sp w [.ref a] H (fun v _ => v = .bl true) fun _ _ _ => False) :
    PySem.W.WalkO q loose XP YP l.row.toRowW d [] (fun f vs => PySem.call f vs) := by
  refine Att.attach_call hn hdf fun w s₀ s₁ mg mb fa o pm cd doc a vs ns G Y ho hd hcd hmg hobj hints hlen hg => ?_
  have KX := hY w _ Y
  obtain ⟨fd, hb, hF⟩ := F w mg fa _ KX G.T.g hmg
  exact law_callG KX G.T.g G.T.b G.T.builtins G.T.nolimit hg hobj hints (Nat.le_trans hlen hn2) hF hb fun H hO hS => hsp w H a ns hlen hO hS
theorem law_endG {P : Program} {w : World} {K : PySem.W.Frag} {mg : Str → Option Value} {x : Str} {st : Stmt} {sp : Sp} {fa : Addr} (D : Dfn K mg x st ["script"]) (hfa : mg x = some (.ref fa))
    (ok : ∀ (base : Heap) (f : Addr) (fd : FuncData), Fun K x x st f fd → RunAt P w K mg base callerA f fd ["script"] sp) :
    ∃ fd : FuncData, (∀ (s : Shared) (v : Value), BindsTo s fd ⟨[v], []⟩ [("script", v)]) ∧ ∀ base : Heap, K.In base → base.Ns mainGlobals mg → RunAt P w K mg base callerA fa fd ["script"] sp := by
  obtain ⟨f, fd, F, g, b⟩ := D.ex
  have e := hfa.symm.trans g
  cases e
  exact ⟨fd, fun s v => .of_eq (b [v] rfl), fun base _ _ => ok base fa fd F⟩
end Bs

namespace Bs
open PySem PySem.Spec PyProof.Rows L2
open Evl (Ex)
/-! ### books -/
structure Tk where
  name : Str
  len : Int
  mach : Str
  needs : List (Str × Int)
  frm : Int
  due : Option Int
  wt : Int
structure Wt where
  a : Int
  b : Int
  gap : Int
structure Bk where
  machs : List Str
  goods : List (Str × Int)
  tasks : List Tk
  waits : List Wt
  fixed : List (Int × Int)
def goodD (g : Str × Int) : PyData := .tuple [.str g.1, .int g.2]
def dueD : Option Int → PyData
  | some i => .int i
  | none => .none
def dueV : Option Int → V
  | some i => .int i
  | none => .non
def taskD (t : Tk) : PyData := .tuple [.str t.name, .int t.len, .str t.mach, .tuple (t.needs.map goodD), .int t.frm, dueD t.due, .int t.wt]
def waitD (x : Wt) : PyData := .tuple [.int x.a, .int x.b, .int x.gap]
def fixD (x : Int × Int) : PyData := .tuple [.int x.1, .int x.2]
def bookD (b : Bk) : PyData := .tuple [.tuple (b.machs.map .str), .tuple (b.goods.map goodD), .tuple (b.tasks.map taskD), .tuple (b.waits.map waitD), .tuple (b.fixed.map fixD)]
/-- a task's numbers are in their bounds -/
structure TaskOk (t : Tk) : Prop where
  len : 1 ≤ t.len ∧ t.len ≤ 1000
  frm : 0 ≤ t.frm ∧ t.frm ≤ 1000000
  due : ∀ d, t.due = some d → 0 ≤ d ∧ d ≤ 1000000
  wt : 0 ≤ t.wt ∧ t.wt ≤ 1000
structure BookOk (b : Bk) (most : Int) : Prop where
  few : 1 ≤ b.tasks.length ∧ (b.tasks.length : Int) ≤ most
  task : ∀ t ∈ b.tasks, TaskOk t
  waits : b.waits.length ≤ 60
  wait : ∀ x ∈ b.waits, 0 ≤ x.a ∧ x.a < x.b ∧ x.b < b.tasks.length ∧ 0 ≤ x.gap ∧ x.gap ≤ 1000
  fixeds : b.fixed.length ≤ 30
  fixed : ∀ x ∈ b.fixed, 0 ≤ x.1 ∧ x.1 < b.tasks.length ∧ 0 ≤ x.2 ∧ x.2 ≤ 1000000
/-- the five tuples of a book -/
theorem book_parts {H : Hp} {v : V} {b : Bk} (h : TD H v (bookD b)) : ∃ a m g t w f, v = .ref a ∧ H a = some (.tup [.ref m, .ref g, .ref t, .ref w, .ref f]) ∧
    (∃ xs, H m = some (.tup xs) ∧ RowsAt PyData.str H xs b.machs) ∧ (∃ xs, H g = some (.tup xs) ∧ RowsAt goodD H xs b.goods) ∧ (∃ xs, H t = some (.tup xs) ∧ RowsAt taskD H xs b.tasks) ∧
    (∃ xs, H w = some (.tup xs) ∧ RowsAt waitD H xs b.waits) ∧ (∃ xs, H f = some (.tup xs) ∧ RowsAt fixD H xs b.fixed) := by
  obtain ⟨a, xs, rfl, ha, hs⟩ := h.tupI
  cases hs with
  | cons h1 hs =>
    cases hs with
    | cons h2 hs =>
      cases hs with
      | cons h3 hs =>
        cases hs with
        | cons h4 hs =>
          cases hs with
          | cons h5 hs =>
            cases hs
            obtain ⟨m, x1, rfl, g1, k1⟩ := h1.tupI
            obtain ⟨g, x2, rfl, g2, k2⟩ := h2.tupI
            obtain ⟨t, x3, rfl, g3, k3⟩ := h3.tupI
            obtain ⟨w, x4, rfl, g4, k4⟩ := h4.tupI
            obtain ⟨f, x5, rfl, g5, k5⟩ := h5.tupI
            exact ⟨a, m, g, t, w, f, rfl, ha, ⟨x1, g1, k1⟩, ⟨x2, g2, k2⟩, ⟨x3, g3, k3⟩, ⟨x4, g4, k4⟩, ⟨x5, g5, k5⟩⟩
theorem wait_parts {H : Hp} {v : V} {x : Wt} (h : TD H v (waitD x)) : ∃ p, v = .ref p ∧ H p = some (.tup [.int x.a, .int x.b, .int x.gap]) := by
  obtain ⟨p, xs, rfl, ha, hs⟩ := h.tupI
  cases hs with
  | cons h1 hs =>
    cases hs with
    | cons h2 hs =>
      cases hs with
      | cons h3 hs =>
        cases hs
        rw [h1.intI, h2.intI, h3.intI] at ha
        exact ⟨p, rfl, ha⟩
theorem good_parts {H : Hp} {v : V} {x : Str × Int} (h : TD H v (goodD x)) : ∃ p, v = .ref p ∧ H p = some (.tup [.str x.1, .int x.2]) := by
  obtain ⟨p, xs, rfl, ha, hs⟩ := h.tupI
  cases hs with
  | cons h1 hs =>
    cases hs with
    | cons h2 hs =>
      cases hs
      rw [h1.strI, h2.intI] at ha
      exact ⟨p, rfl, ha⟩
theorem fix_parts {H : Hp} {v : V} {x : Int × Int} (h : TD H v (fixD x)) : ∃ p, v = .ref p ∧ H p = some (.tup [.int x.1, .int x.2]) := by
  obtain ⟨p, xs, rfl, ha, hs⟩ := h.tupI
  cases hs with
  | cons h1 hs =>
    cases hs with
    | cons h2 hs =>
      cases hs
      rw [h1.intI, h2.intI] at ha
      exact ⟨p, rfl, ha⟩
theorem due_parts {H : Hp} {v : V} {o : Option Int} (h : TD H v (dueD o)) : v = dueV o := by
  cases o with
  | none => exact h.noneI
  | some i => exact h.intI
theorem task_parts {H : Hp} {v : V} {t : Tk} (h : TD H v (taskD t)) : ∃ p q xs, v = .ref p ∧ H p = some (.tup [.str t.name, .int t.len, .str t.mach, .ref q, .int t.frm, dueV t.due, .int t.wt]) ∧ H q = some (.tup xs) ∧ RowsAt goodD H xs t.needs := by
  obtain ⟨p, xs, rfl, ha, hs⟩ := h.tupI
  cases hs with
  | cons h1 hs =>
    cases hs with
    | cons h2 hs =>
      cases hs with
      | cons h3 hs =>
        cases hs with
        | cons h4 hs =>
          cases hs with
          | cons h5 hs =>
            cases hs with
            | cons h6 hs =>
              cases hs with
              | cons h7 hs =>
                cases hs
                obtain ⟨q, ys, e4, g4, k4⟩ := h4.tupI
                rw [h1.strI, h2.intI, h3.strI, e4, h5.intI, due_parts h6, h7.intI] at ha
                exact ⟨p, q, ys, rfl, ha, g4, k4⟩
end Bs

namespace Bs
open PySem PySem.Spec PyProof.Rows L2
open Evl (Ex)
section
variable {K : PySem.W.Frag} {w : World} {β : Type} {D' : β → PyData} {a : Addr} {xs : List V} {rows : List β} {g : TG} {tt : TT} {te : TE} {vs : List Nat} {σ : L2.St} {H : Hp}
/-- [row for row in a tuple if ..] -/
theorem lcTD {Qd : Addr → Hp → Prop} (p : β → Bool) (hx : SqT K H a xs) (hr : RowsAt D' H xs rows) (small : rows.length ≤ 10000)
    (turn : ∀ b v H', b ∈ rows → TD H' v (D' b) → Ex H H' → ∀ (R : VK) (R0 : Hp → Prop), (p b = true → ∀ H4, Ex H' H4 → R v H4) → (p b = false → ∀ H4, Ex H' H4 → R0 H4) →
      g v (wipe σ vs) H' fun σ2 H2 => wipe σ2 vs = wipe σ vs ∧ tt σ2 H2 fun c H3 => if c = true then te σ2 H3 R else R0 H3)
    (q : ∀ D H' zs, H D = none → Ex H H' → H' D = some (.lst zs) → RowsAt D' H' zs (rows.filter p) → Qd D H') : ∀ D, H D = none →
    ∃ W : Nat → Nat → Hp → Prop, (∃ m, W 0 m (upd H D (.lst []))) ∧ ∀ i m H, W i m H →
      ((Itt K a).stop i H ∧ Qd D H) ∨ ((Itt K a).go i H ∧ ∃ Nx : Hp → Prop, (∀ H', Nx H' → ∃ m', m' < m ∧ W (i + 1) m' H') ∧ ∀ x H', (Itt K a).yld i H x H' → g x (wipe σ vs) H' fun σ2 H2 => wipe σ2 vs = wipe σ vs ∧ tt σ2 H2 fun b H3 =>
        if b = true then te σ2 H3 fun y H4 => ∃ acc, H4 D = some (.lst acc) ∧ acc.length < sizeLine ∧ Nx (upd H4 D (.lst (acc ++ [y]))) else Nx H3) := fun D hD => by
  refine lc_tup (K := K) (a := a) (xs := xs) (fun i H' => Ex H H' ∧ ∃ zs, H' D = some (.lst zs) ∧ RowsAt D' H' zs ((rows.take i).filter p)) ⟨Ex.new hD, [], upd_same, .nil⟩ (fun i H' _ h => Evl.ex_t h.1 hx) ?_ ?_
  · rintro i x H' ex ⟨e, zs, hl, hz⟩
    obtain ⟨b, hb, ht⟩ := hr.get ex
    refine turn b x _ (List.mem_of_getElem? hb) (TD.tp (Tp.ex e) ht) e _ _ (fun hp H4 e4 => ?_) (fun hp H4 e4 => ?_)
    · have h4 := e4 _ _ hl
      refine ⟨zs, h4, ?_, (e.trans e4).mut hD, zs ++ [x], upd_same, ?_⟩
      · rw [hz.len, sizeLine_eq]
        have h1 := List.length_filter_le p (rows.take i)
        have h2 : (rows.take i).length ≤ rows.length := by rw [List.length_take]; omega
        omega
      · rw [take_snoc hb, List.filter_append, List.filter_cons_of_pos hp]
        have w1 : RowsAt D' H4 (zs ++ [x]) ((rows.take i).filter p ++ [b]) := by
          unfold RowsAt
          rw [List.map_append]
          exact TDs.append (RowsAt.tp (Tp.ex e4) hz) (.cons (TD.tp (Tp.ex (e.trans e4)) ht) .nil)
        exact RowsAt.tp (Tp.upd h4) w1
    · refine ⟨e.trans e4, zs, e4 _ _ hl, ?_⟩
      rw [take_snoc hb, List.filter_append, List.filter_cons_of_neg (by simp [hp])]
      simpa using RowsAt.tp (Tp.ex e4) hz
  · rintro H' ⟨e, zs, hl, hz⟩
    rw [hr.len, List.take_length] at hz
    exact q D H' zs hD e hl hz
/-- [e for k in range(n) if ..] -/
theorem lcR {Qd : Addr → Hp → Prop} {n : Nat} (p : Nat → Bool) (f : Nat → V) (small : n ≤ 10000)
    (turn : ∀ i H', i < n → Ex H H' → ∀ (R : VK) (R0 : Hp → Prop), (p i = true → ∀ H4, Ex H' H4 → R (f i) H4) → (p i = false → ∀ H4, Ex H' H4 → R0 H4) →
      g (.int (0 + i)) (wipe σ vs) H' fun σ2 H2 => wipe σ2 vs = wipe σ vs ∧ tt σ2 H2 fun c H3 => if c = true then te σ2 H3 R else R0 H3)
    (q : ∀ D H', H D = none → Ex H H' → H' D = some (.lst (((List.range n).filter p).map f)) → Qd D H') : ∀ D, H D = none →
    ∃ W : Nat → Nat → Hp → Prop, (∃ m, W 0 m (upd H D (.lst []))) ∧ ∀ i m H, W i m H →
      ((Itr 0 n).stop i H ∧ Qd D H) ∨ ((Itr 0 n).go i H ∧ ∃ Nx : Hp → Prop, (∀ H', Nx H' → ∃ m', m' < m ∧ W (i + 1) m' H') ∧ ∀ x H', (Itr 0 n).yld i H x H' → g x (wipe σ vs) H' fun σ2 H2 => wipe σ2 vs = wipe σ vs ∧ tt σ2 H2 fun b H3 =>
        if b = true then te σ2 H3 fun y H4 => ∃ acc, H4 D = some (.lst acc) ∧ acc.length < sizeLine ∧ Nx (upd H4 D (.lst (acc ++ [y]))) else Nx H3) := fun D hD => by
  refine lc_range (lo := 0) (n := n) (fun i H' => Ex H H' ∧ H' D = some (.lst (((List.range i).filter p).map f))) ⟨Ex.new hD, by rw [upd_same]; rfl⟩ ?_ ?_
  · rintro i H' hi ⟨e, hl⟩
    refine turn i _ hi e _ _ (fun hp H4 e4 => ?_) (fun hp H4 e4 => ?_)
    · refine ⟨_, e4 _ _ hl, ?_, (e.trans e4).mut hD, ?_⟩
      · rw [List.length_map, sizeLine_eq]
        have h1 := List.length_filter_le p (List.range i)
        rw [List.length_range] at h1
        omega
      · rw [upd_same, List.range_succ, List.filter_append, List.map_append, List.filter_cons_of_pos hp]
        rfl
    · refine ⟨e.trans e4, ?_⟩
      rw [e4 _ _ hl, List.range_succ, List.filter_append, List.filter_cons_of_neg (by simp [hp])]
      simp
  · rintro H' ⟨e, hl⟩
    exact q D H' hD e hl
end
/-! ### data of waits, compared -/
theorem shaped_waits (ws : List Wt) : SeqAt.shaped (.list (ws.map waitD)) = true := by
  have h1 : PyData.canLayAll0 (ws.map waitD) = true := by
    induction ws with
    | nil => rfl
    | cons x r ih =>
      show (PyData.canLay0 (waitD x) && PyData.canLayAll0 (r.map waitD)) = true
      rw [ih]
      rfl
  have h2 : PyData.depthAll (ws.map waitD) ≤ 1 := by
    induction ws with
    | nil => exact Nat.zero_le _
    | cons x r ih =>
      have := ih (by
        have h := h1
        rw [show PyData.canLayAll0 ((x :: r).map waitD) = (PyData.canLay0 (waitD x) && PyData.canLayAll0 (r.map waitD)) from rfl, Bool.and_eq_true] at h
        exact h.2)
      show max (PyData.depth (waitD x)) (PyData.depthAll (r.map waitD)) ≤ 1
      have e : PyData.depth (waitD x) = 1 := rfl
      omega
  unfold SeqAt.shaped
  rw [show PyData.canLay0 (.list (ws.map waitD)) = PyData.canLayAll0 (ws.map waitD) from rfl, h1]
  exact decide_eq_true (show PyData.depthAll (ws.map waitD) + 1 ≤ 64 by omega)
theorem cut2 {a b g : V} : cutV [a, b, g] none (some 2) = [a, b] := by
  unfold cutV
  rw [HT.sIx_none, show (some (2 : Int)) = some ((2 : Nat) : Int) from rfl, HT.sIx_nat]
  rfl
/-- a strictly rising list is told by its members -/
theorem rise_ext : ∀ {xs ys : List Int}, xs.Pairwise (· < ·) → ys.Pairwise (· < ·) → (∀ k, k ∈ xs ↔ k ∈ ys) → xs = ys
  | [], [], _, _, _ => rfl
  | [], y :: r, _, _, h => absurd ((h y).mpr List.mem_cons_self) (by simp)
  | x :: r, [], _, _, h => absurd ((h x).mp List.mem_cons_self) (by simp)
  | x :: r, y :: t, hx, hy, h => by
    rw [List.pairwise_cons] at hx hy
    have e : x = y := by
      rcases List.mem_cons.mp ((h x).mp List.mem_cons_self) with e | e
      · exact e
      · rcases List.mem_cons.mp ((h y).mpr List.mem_cons_self) with e2 | e2
        · exact e2.symm
        · have h1 := hy.1 x e
          have h2 := hx.1 y e2
          omega
    subst e
    rw [rise_ext hx.2 hy.2 fun k => ⟨fun hk => by
      rcases List.mem_cons.mp ((h k).mp (List.mem_cons_of_mem _ hk)) with e | e
      · have := hx.1 k hk
        omega
      · exact e, fun hk => by
      rcases List.mem_cons.mp ((h k).mpr (List.mem_cons_of_mem _ hk)) with e | e
      · have := hy.1 k hk
        omega
      · exact e⟩]
/-! ### what goes ahead by waits -/
def isAhead (b : Bk) (t o : Nat) : Bool := b.waits.any fun x => decide (x.a = o) && decide (x.b = t)
def ahd (b : Bk) (t : Nat) : List Int := ((List.range b.tasks.length).filter (isAhead b t)).map fun (o : Nat) => (o : Int)
def ahds (b : Bk) : List (List Int) := (List.range b.tasks.length).map (ahd b)
theorem isAhead_iff {b : Bk} {t o : Nat} : isAhead b t o = true ↔ ∃ x ∈ b.waits, x.a = o ∧ x.b = t := by
  unfold isAhead
  rw [List.any_eq_true]
  constructor
  · rintro ⟨x, hx, h⟩
    rw [Bool.and_eq_true, decide_eq_true_iff, decide_eq_true_iff] at h
    exact ⟨x, hx, h.1, h.2⟩
  · rintro ⟨x, hx, h1, h2⟩
    exact ⟨x, hx, by rw [decide_eq_true h1, decide_eq_true h2]; rfl⟩
theorem ahd_rise (b : Bk) (t : Nat) : (ahd b t).Pairwise (· < ·) := by
  unfold ahd
  rw [List.pairwise_map]
  refine List.Pairwise.imp (R := fun x y : Nat => x < y) (fun h => by omega) ?_
  exact List.Pairwise.filter _ List.pairwise_lt_range
theorem ahd_mem {b : Bk} {most : Int} (ok : BookOk b most) {t : Nat} {k : Int} : k ∈ ahd b t ↔ ∃ x ∈ b.waits, decide (x.b = (t : Int)) = true ∧ x.a = k := by
  unfold ahd
  rw [List.mem_map]
  constructor
  · rintro ⟨o, ho, rfl⟩
    obtain ⟨_, h2⟩ := List.mem_filter.mp ho
    obtain ⟨x, hx, h3, h4⟩ := isAhead_iff.mp h2
    exact ⟨x, hx, decide_eq_true h4, h3⟩
  · rintro ⟨x, hx, h1, h2⟩
    have h3 := ok.wait x hx
    refine ⟨x.a.toNat, List.mem_filter.mpr ⟨List.mem_range.mpr (by omega), isAhead_iff.mpr ⟨x, hx, by omega, of_decide_eq_true h1⟩⟩, by omega⟩
theorem ahds_few {b : Bk} {most : Int} (ok : BookOk b most) (h : most ≤ 30) : Few (ahds b) := by
  have := ok.few
  unfold ahds
  refine ⟨by rw [List.length_map, List.length_range]; omega, fun l hl => ?_⟩
  obtain ⟨t, _, rfl⟩ := List.mem_map.mp hl
  constructor
  · unfold ahd
    rw [List.length_map]
    have h1 := List.length_filter_le (isAhead b t) (List.range b.tasks.length)
    rw [List.length_range] at h1
    omega
  · intro n hn
    unfold ahd at hn
    obtain ⟨o, ho, rfl⟩ := List.mem_map.mp hn
    have := List.mem_range.mp (List.mem_filter.mp ho).1
    omega
/-- the greatest gap that waits tell -/
def GapOf (ws : List Wt) (x y : Int) : Option Int → Prop
  | none => ∀ z ∈ ws, ¬ (z.a = x ∧ z.b = y)
  | some g => (∃ z ∈ ws, (z.a = x ∧ z.b = y) ∧ z.gap = g) ∧ ∀ z ∈ ws, z.a = x ∧ z.b = y → z.gap ≤ g
def GapIs (b : Bk) (x y : Int) : Option Int → Prop := GapOf b.waits x y
theorem GapOf.same {ws : List Wt} {x y : Int} : ∀ {o u : Option Int}, GapOf ws x y o → GapOf ws x y u → o = u
  | none, none, _, _ => rfl
  | none, some g, h, k => by
    obtain ⟨⟨z, hz, h1, _⟩, _⟩ := k
    exact absurd h1 (h z hz)
  | some g, none, k, h => by
    obtain ⟨⟨z, hz, h1, _⟩, _⟩ := k
    exact absurd h1 (h z hz)
  | some g, some g', h, k => by
    obtain ⟨⟨z, hz, h1, h2⟩, h3⟩ := h
    obtain ⟨⟨y', hy, k1, k2⟩, k3⟩ := k
    have e1 := h3 y' hy k1
    have e2 := k3 z hz h1
    have : g = g' := by omega
    rw [this]
theorem GapOf.skip {ws : List Wt} {x y : Int} {o : Option Int} {z : Wt} (h : GapOf ws x y o) (n : (z.a = x ∧ z.b = y) → ∃ g, o = some g ∧ z.gap ≤ g) : GapOf (ws ++ [z]) x y o := by
  cases o with
  | none =>
    intro u hu
    rcases List.mem_append.mp hu with hu | hu
    · exact h u hu
    · rw [List.mem_singleton.mp hu]
      intro hh
      obtain ⟨g, e, _⟩ := n hh
      cases e
  | some g =>
    obtain ⟨⟨u, hu, h1, h2⟩, h3⟩ := h
    refine ⟨⟨u, List.mem_append_left _ hu, h1, h2⟩, fun r hr hh => ?_⟩
    rcases List.mem_append.mp hr with hr | hr
    · exact h3 r hr hh
    · rw [List.mem_singleton.mp hr] at hh ⊢
      obtain ⟨g', e, le⟩ := n hh
      cases e
      exact le
theorem GapOf.take_ {ws : List Wt} {x y : Int} {o : Option Int} {z : Wt} (h : GapOf ws x y o) (e : z.a = x ∧ z.b = y) (n : ∀ g, o = some g → g ≤ z.gap) : GapOf (ws ++ [z]) x y (some z.gap) := by
  refine ⟨⟨z, List.mem_append_right _ (List.mem_singleton.mpr rfl), e, rfl⟩, fun r hr hh => ?_⟩
  rcases List.mem_append.mp hr with hr | hr
  · cases o with
    | none => exact absurd hh (h r hr)
    | some g => exact Int.le_trans (h.2 r hr hh) (n g rfl)
  · rw [List.mem_singleton.mp hr]
    exact Int.le_refl _
theorem gap_short {n : Int} (h0 : 0 ≤ n) (h1 : n ≤ 1000) : (PyData.int n).shown.length ≤ 4 := by
  obtain ⟨k, rfl⟩ : ∃ k : Nat, n = (k : Int) := ⟨_, (Int.toNat_of_nonneg h0).symm⟩
  have all : ∀ k : Fin 1001, (PyData.int ((k.val : Nat) : Int)).shown.length ≤ 4 := by decide +kernel
  exact all ⟨k, by omega⟩
theorem rd_due {K : PySem.W.Frag} {H : Hp} {o : Option Int} {Q : VK} (h : ∀ g, o = some g → 0 ≤ g ∧ g ≤ 1000) (q : Q (.str (dueD o).shown) H) : rReprD K [dueV o] H Q := by
  cases o with
  | none => exact ⟨.non, .none, rfl, .non, True.intro, rfl, rfl, by decide, by decide +kernel, q⟩
  | some g =>
    obtain ⟨g0, g1⟩ := h g rfl
    have lg : g.natAbs.log2 < 1920 := Nat.lt_of_le_of_lt (Nat.log2_le_self _) (by omega)
    refine ⟨.int g, .int g, rfl, .int g, lg, decide_eq_true lg, rfl, Nat.zero_le _, ?_, q⟩
    have := gap_short g0 g1
    rw [sizeLine_eq]
    omega
end Bs

set_option maxHeartbeats 4000000
namespace Bk04
open PySem PySem.Spec PyProof.Rows L2 Bs
open Evl (Ex)
def topS (i : Nat) : Stmt := PySem.Challenge.pw_boundsmith_k04_what_goes_ahead.main.body.getD i (.Pass ⟨0, 0, 0, 0⟩)
abbrev s_ahead_of : Stmt := topS 3
abbrev N_ahead_of : List Str := ["book", "ahead", "task", "_", "first", "second"]
theorem sc_ahead_of : FnScope N_ahead_of ["book"] (defScope s_ahead_of) := ⟨rfl, rfl, rfl, by decide +kernel, rfl, by decide +kernel, by decide +kernel⟩
abbrev s_gap_of : Stmt := topS 4
abbrev N_gap_of : List Str := ["book", "a", "b", "first", "gap", "second"]
theorem sc_gap_of : FnScope N_gap_of ["book", "a", "b"] (defScope s_gap_of) := ⟨rfl, rfl, rfl, by decide +kernel, rfl, by decide +kernel, by decide +kernel⟩
abbrev s__law_mixed : Stmt := topS 6
abbrev N__law_mixed : List Str := ["cell", "k", "number"]
theorem sc__law_mixed : FnScope N__law_mixed ["cell", "k"] (defScope s__law_mixed) := ⟨rfl, rfl, rfl, by decide +kernel, rfl, by decide +kernel, by decide +kernel⟩
abbrev s__law_draw : Stmt := topS 7
abbrev N__law_draw : List Str := ["script", "k", "cell", "own", "turn"]
theorem sc__law_draw : FnScope N__law_draw ["script", "k"] (defScope s__law_draw) := ⟨rfl, rfl, rfl, by decide +kernel, rfl, by decide +kernel, by decide +kernel⟩
abbrev s__law_next : Stmt := topS 8
abbrev N__law_next : List Str := ["draw", "many", "found", "number"]
theorem sc__law_next : FnScope N__law_next ["draw", "many"] (defScope s__law_next) := ⟨rfl, rfl, rfl, by decide +kernel, rfl, by decide +kernel, by decide +kernel⟩
abbrev s__law_some : Stmt := topS 9
abbrev N__law_some : List Str := ["draw", "things", "first"]
theorem sc__law_some : FnScope N__law_some ["draw", "things"] (defScope s__law_some) := ⟨rfl, rfl, rfl, by decide +kernel, rfl, by decide +kernel, by decide +kernel⟩
abbrev s__law_task : Stmt := topS 10
abbrev N__law_task : List Str := ["draw", "name", "machines", "goods", "length", "machine", "needs", "good", "many", "first", "due"]
theorem sc__law_task : FnScope N__law_task ["draw", "name", "machines", "goods"] (defScope s__law_task) := ⟨rfl, rfl, rfl, by decide +kernel, rfl, by decide +kernel, by decide +kernel⟩
abbrev s__law_waits : Stmt := topS 11
abbrev N__law_waits : List Str := ["draw", "many", "most", "found", "k", "a", "b"]
theorem sc__law_waits : FnScope N__law_waits ["draw", "many", "most"] (defScope s__law_waits) := ⟨rfl, rfl, rfl, by decide +kernel, rfl, by decide +kernel, by decide +kernel⟩
abbrev s__law_book : Stmt := topS 12
abbrev N__law_book : List Str := ["script", "most", "draw", "machines", "goods", "many", "names", "tasks", "waits", "fixed", "k", "name"]
theorem sc__law_book : FnScope N__law_book ["script", "most"] (defScope s__law_book) := ⟨rfl, rfl, rfl, by decide +kernel, rfl, by decide +kernel, by decide +kernel⟩
abbrev s__law_ahead : Stmt := topS 13
abbrev N__law_ahead : List Str := ["book", "found", "task", "other", "w"]
theorem sc__law_ahead : FnScope N__law_ahead ["book"] (defScope s__law_ahead) := ⟨rfl, rfl, rfl, by decide +kernel, rfl, by decide +kernel, by decide +kernel⟩
abbrev s__law_gap : Stmt := topS 14
abbrev N__law_gap : List Str := ["book", "a", "b", "found", "one", "other", "gap"]
theorem sc__law_gap : FnScope N__law_gap ["book", "a", "b"] (defScope s__law_gap) := ⟨rfl, rfl, rfl, by decide +kernel, rfl, by decide +kernel, by decide +kernel⟩
abbrev s_law : Stmt := topS 15
abbrev N_law : List Str := ["script", "book", "due", "turn", "found", "at", "a", "b"]
theorem sc_law : FnScope N_law ["script"] (defScope s_law) := ⟨rfl, rfl, rfl, by decide +kernel, rfl, by decide +kernel, by decide +kernel⟩
/-- what the top has left -/
structure Tx (K : PySem.W.Frag) (mg : Str → Option Value) : Prop where
  c_TASKS : ∃ u, mg "TASKS" = some u ∧ RelV (.int 2) u
  c_WAITS : ∃ u, mg "WAITS" = some u ∧ RelV (.int 3) u
  b_range : mg "range" = none
  b_len : mg "len" = none
  b_sorted : mg "sorted" = none
  b_max : mg "max" = none
  b_tuple : mg "tuple" = none
  b_min : mg "min" = none
  b_repr : mg "repr" = none
  b_isinstance : mg "isinstance" = none
  b_list : mg "list" = none
  d_ahead_of : Dfn K mg "ahead_of" s_ahead_of ["book"]
  d_gap_of : Dfn K mg "gap_of" s_gap_of ["book", "a", "b"]
  d__law_mixed : Dfn K mg "_law_mixed" s__law_mixed ["cell", "k"]
  d__law_draw : Dfn K mg "_law_draw" s__law_draw ["script", "k"]
  d__law_next : Dfn K mg "_law_next" s__law_next ["draw", "many"]
  d__law_some : Dfn K mg "_law_some" s__law_some ["draw", "things"]
  d__law_task : Dfn K mg "_law_task" s__law_task ["draw", "name", "machines", "goods"]
  d__law_waits : Dfn K mg "_law_waits" s__law_waits ["draw", "many", "most"]
  d__law_book : Dfn K mg "_law_book" s__law_book ["script", "most"]
  d__law_ahead : Dfn K mg "_law_ahead" s__law_ahead ["book"]
  d__law_gap : Dfn K mg "_law_gap" s__law_gap ["book", "a", "b"]
  d_law : Dfn K mg "law" s_law ["script"]

section
variable {P : Program} {w : World} {K : PySem.W.Frag} {mg : Str → Option Value} {base : Heap}
theorem sz16 {n : Nat} (h : n ≤ 16000000) : n ≤ sizeLine := by
  rw [sizeLine_eq]
  omega
theorem at_mem {xs : List V} {n : Int} (h0 : 0 ≤ n) (h1 : n < xs.length) : ∃ v, v ∈ xs ∧ atI xs n = some v := by
  obtain ⟨j, rfl⟩ : ∃ j : Nat, n = (j : Int) := ⟨_, (Int.toNat_of_nonneg h0).symm⟩
  have hj : j < xs.length := by omega
  exact ⟨xs[j], List.getElem_mem hj, atI_nat (List.getElem?_eq_getElem hj)⟩
/-! ### draws -/
theorem mulBd {i j : Int} (a : -(10 ^ 60) < i) (b : i < 10 ^ 60) (c : -(10 ^ 60) < j) (d : j < 10 ^ 60) : CMulX i j :=
  mulx_ok (a := 200) (b := 200) (by
    have : (10 : Nat) ^ 60 < 2 ^ 200 := by decide
    omega) (by
    have : (10 : Nat) ^ 60 < 2 ^ 200 := by decide
    omega) (by decide)
theorem divBd {i j : Int} (a : 0 < j) (b : j < 10 ^ 60) : CDivW i j := wide_div (b := 200) a (by
    have : (10 : Nat) ^ 60 < 2 ^ 200 := by decide
    omega) (by decide) (by decide)
/-- all but one object stand -/
def But (d : Addr) (H H' : Hp) : Prop := ∀ b o, b ≠ d → H b = some o → H' b = some o
theorem But.refl (d : Addr) (H : Hp) : But d H H := fun _ _ _ h => h
theorem But.trans {d : Addr} {H H1 H2 : Hp} (a : But d H H1) (b : But d H1 H2) : But d H H2 := fun x o n h => b x o n (a x o n h)
theorem But.ex {d : Addr} {H H1 H2 : Hp} (a : But d H H1) (b : Ex H1 H2) : But d H H2 := fun x o n h => b x o (a x o n h)
theorem But.of {d : Addr} {H H1 : Hp} (a : Ex H H1) : But d H H1 := fun x o _ h => a x o h
theorem But.exl {d : Addr} {H H1 H2 : Hp} (a : Ex H H1) (b : But d H1 H2) : But d H H2 := fun x o n h => b x o n (a x o h)
theorem But.mut {d p : Addr} {H H1 : Hp} {o : HO} (a : But d H H1) (h : H p = none) : But d H (upd H1 p o) := fun x u n e => by
  rw [upd_ne (ne_of_none e h)]
  exact a x u n e
theorem But.self {d : Addr} {H : Hp} {o : HO} : But d H (upd H d o) := fun x u n e => by
  rw [upd_ne n]
  exact e
/-- an object that did not stand may change -/
theorem But.toEx {d : Addr} {H0 H H1 : Hp} (e : Ex H0 H) (a : But d H H1) (h : H0 d = none) : Ex H0 H1 := fun x u k => a x u (ne_of_none k h) (e x u k)
/-- a draw at d: its counter c -/
def Drw (H : Hp) (d : Addr) (c : Int) : Prop := ∃ cell own : Int, H d = some (.lst [.int cell, .int c, .int own]) ∧ 0 ≤ own ∧ 0 ≤ c
theorem Drw.some {H : Hp} {d : Addr} {c : Int} (h : Drw H d c) : ∃ o, H d = some o := by
  obtain ⟨_, _, e, _⟩ := h
  exact ⟨_, e⟩
theorem Drw.ex {H H' : Hp} {d : Addr} {c : Int} (h : Drw H d c) (e : Ex H H') : Drw H' d c := by
  obtain ⟨a, b, h1, h2⟩ := h
  exact ⟨a, b, e _ _ h1, h2⟩
theorem Drw.ne {H : Hp} {d p : Addr} {c : Int} (h : Drw H d c) (n : H p = none) : d ≠ p := by
  obtain ⟨a, b, h1, _⟩ := h
  exact ne_of_none h1 n
theorem Drw.upd {H : Hp} {d p : Addr} {c : Int} {o : HO} (h : Drw H d c) (n : d ≠ p) : Drw (upd H p o) d c := by
  obtain ⟨a, b, h1, h2⟩ := h
  exact ⟨a, b, by rw [upd_ne n]; exact h1, h2⟩
theorem Drw.pos {H : Hp} {d : Addr} {c : Int} (h : Drw H d c) : 0 ≤ c := by
  obtain ⟨_, _, _, _, h⟩ := h
  exact h
def spMixed : Sp := fun vs H Q _ => ∃ cell k : Int, vs = [.int cell, .int k] ∧ 0 ≤ k ∧ k ≤ 10 ^ 12 ∧ ∀ r : Int, 0 ≤ r → r < 2147483629 → Q (.int r) H
theorem ok__law_mixed (T : Tx K mg) : Cal P w K mg base 1 "_law_mixed" ["cell", "k"] spMixed := by
  refine T.d__law_mixed.cal sc__law_mixed (fun vs H Q E h => ?_) (fun f cdv A outer s H vs Q E hr h => ?_)
  · obtain ⟨x, n, rfl, _⟩ := h
    rfl
  · obtain ⟨cell, k, rfl, k0, k1, q⟩ := h
    refine ⟨_, (pss_cons (ps_set (i := 2) sc__law_mixed.nd rfl (.inl rfl) (pe_op op_mod (pe_op op_mulX (pe_op op_add (pe_op op_add (pe_op op_mod (pv 0) pe_int) (pe_op op_mulX (pe_op op_mulX pe_int (pv 1)) (pv 1))) pe_int) pe_int) pe_int))
    (pss_one (ps_ret (pe_op op_mod (pe_op op_mulX (pv 2) (pe_op op_add pe_int (pe_op op_mulX pe_int (pv 1)))) pe_int)))), ?_⟩
    have kk : 31 * k * k ≤ 31 * 10 ^ 12 * 10 ^ 12 := Int.mul_le_mul (by omega) k1 k0 (by omega)
    have kk0 : 0 ≤ 31 * k * k := Int.mul_nonneg (by omega) k0
    refine ⟨.int cell, rfl, cell, 1000000007, rfl, rfl, (show (0 : Int) < 1000000007 by decide), .int k, rfl, 31, k, rfl, rfl, mulBd (by decide) (by decide) (by omega) (by omega), .int k, rfl, 31 * k, k, rfl, rfl, mulBd (by omega) (by omega) (by omega) (by omega), _, _, rfl, rfl,
      _, 7, rfl, rfl, _, 48271, rfl, rfl, mulBd (by omega) (by omega) (by decide) (by decide), _, 2147483647, rfl, rfl, (show (0 : Int) < 2147483647 by decide), ?_⟩
    have h1 : 0 ≤ (cell % 1000000007 + 31 * k * k + 7) * 48271 % 2147483647 := Int.emod_nonneg _ (by decide)
    have h2 : (cell % 1000000007 + 31 * k * k + 7) * 48271 % 2147483647 < 2147483647 := Int.emod_lt_of_pos _ (by decide)
    refine ⟨_, rfl, .int k, rfl, 7919, k, rfl, rfl, mulBd (by decide) (by decide) (by omega) (by omega), 16807, _, rfl, rfl, (cell % 1000000007 + 31 * k * k + 7) * 48271 % 2147483647, 16807 + 7919 * k, rfl, rfl, mulBd (by omega) (by omega) (by omega) (by omega), _, 2147483629, rfl, rfl, (show (0 : Int) < 2147483629 by decide), ?_⟩
    exact q _ (Int.emod_nonneg _ (by decide)) (Int.emod_lt_of_pos _ (by decide))
def spNext : Sp := fun vs H Q _ => ∃ (d : Addr) (many c : Int), vs = [.ref d, .int many] ∧ Drw H d c ∧ 0 < many ∧ many ≤ 10 ^ 18 ∧ c ≤ 10 ^ 11 ∧
  ∀ (n c' : Int) (H' : Hp), 0 ≤ n → n < many → c ≤ c' → c' ≤ c + 1 → But d H H' → Drw H' d c' → Q (.int n) H'
theorem ok__law_next (T : Tx K mg) : Cal P w K mg base 2 "_law_next" ["draw", "many"] spNext := by
  have G__law_mixed : Cal P w K mg base 1 "_law_mixed" ["cell", "k"] spMixed := ok__law_mixed T
  refine T.d__law_next.cal sc__law_next (fun vs H Q E h => ?_) (fun f cdv A outer s H vs Q E hr h => ?_)
  · obtain ⟨x, n, c, rfl, _⟩ := h
    rfl
  · obtain ⟨d, many, c, rfl, ⟨cell, own, hd, o0, c0⟩, m0, m1, c1, q⟩ := h
    refine ⟨_, (pss_cons (ps_if (pt_cmpR op_gt (pe_ix ix_list (pv 0) pe_int (fun _ _ => rfl)) pe_int (nomark _)) (pss_cons (ps_set (i := 2) sc__law_next.nd rfl (.inl rfl) (pe_op op_mod (pe_ix ix_list (pv 0) pe_int (fun _ _ => rfl)) (pv 1)))
    (pss_cons (ps_asg (pe_op op_fdivW (pe_ix ix_list (pv 0) pe_int (fun _ _ => rfl)) (pv 1)) (pg_sub (pv 0) pe_int set_list))
    (pss_one (ps_ret (pv 2))))) pss_nil)
    (pss_cons (ps_asg (pe_op op_add (pe_ix ix_list (pv 0) pe_int (fun _ _ => rfl)) pe_int) (pg_sub (pv 0) pe_int set_list))
    (pss_cons (ps_set (i := 3) sc__law_next.nd rfl (.inl rfl) (pe_op op_add (pe_op op_mulX (pe_cal G__law_mixed hr (by rfl) (pa_cons (pe_ix ix_list (pv 0) pe_int (fun _ _ => rfl)) (pa_cons (pe_ix ix_list (pv 0) pe_int (fun _ _ => rfl)) pa_nil))) pe_int) (pe_cal G__law_mixed hr (by rfl) (pa_cons (pe_ix ix_list (pv 0) pe_int (fun _ _ => rfl)) (pa_cons (pe_op op_add (pe_ix ix_list (pv 0) pe_int (fun _ _ => rfl)) pe_int) pa_nil)))))
    (pss_one (ps_ret (pe_op op_mod (pe_op op_fdivW (pv 3) pe_int) (pv 1))))))), ?_⟩
    refine ⟨.ref d, rfl, d, _, 2, .int own, rfl, rfl, SqL.of hd, rfl, own, 0, rfl, rfl, _, rfl, ite2 (fun e => ?_) (fun e => ?_)⟩
    · refine ⟨.ref d, rfl, d, _, 2, .int own, rfl, rfl, SqL.of hd, rfl, .int many, rfl, own, many, rfl, rfl, m0, ?_⟩
      refine ⟨.ref d, rfl, d, _, 2, .int own, rfl, rfl, SqL.of hd, rfl, .int many, rfl, own, many, rfl, rfl, divBd m0 (by omega), .ref d, rfl, d, _, 2, 2, rfl, rfl, hd, rfl, ?_⟩
      refine ⟨_, rfl, ?_⟩
      exact q _ c _ (Int.emod_nonneg _ (by omega)) (Int.emod_lt_of_pos _ m0) (Int.le_refl _) (by omega) But.self ⟨cell, own / many, upd_same, Int.ediv_nonneg o0 (by omega), c0⟩
    · refine ⟨.ref d, rfl, d, _, 1, .int c, rfl, rfl, SqL.of hd, rfl, c, 1, rfl, rfl, .ref d, rfl, d, _, 1, 1, rfl, rfl, hd, rfl, ?_⟩
      have hd1 : (L2.upd H d (.lst [.int cell, .int (c + 1), .int own])) d = some (.lst [.int cell, .int (c + 1), .int own]) := upd_same
      refine ⟨.ref d, rfl, d, _, 0, .int cell, rfl, rfl, SqL.of hd1, rfl, .ref d, rfl, d, _, 1, .int (c + 1), rfl, rfl, SqL.of hd1, rfl, cell, c + 1, rfl, by omega, by omega, fun r r0 r1 => ?_⟩
      refine ⟨r, 2147483629, rfl, rfl, mulBd (by omega) (by omega) (by decide) (by decide), ?_⟩
      refine ⟨.ref d, rfl, d, _, 0, .int cell, rfl, rfl, SqL.of hd1, rfl, .ref d, rfl, d, _, 1, .int (c + 1), rfl, rfl, SqL.of hd1, rfl, c + 1, 9001, rfl, rfl, cell, c + 1 + 9001, rfl, by omega, by omega, fun r' _ _ => ?_⟩
      refine ⟨_, _, rfl, rfl, ?_⟩
      refine ⟨_, rfl, _, 11, rfl, rfl, divBd (by decide) (by decide), .int many, rfl, _, many, rfl, rfl, m0, ?_⟩
      exact q _ (c + 1) _ (Int.emod_nonneg _ (by omega)) (Int.emod_lt_of_pos _ m0) (by omega) (Int.le_refl _) But.self ⟨cell, own, hd1, o0, by omega⟩
theorem le_max1 (j : Int) : 1 ≤ (if j > 1 then j else 1) := by split <;> omega
theorem div_in {k m : Int} (k0 : 0 ≤ k) (k1 : k ≤ 10 ^ 6) (hm : 1 ≤ m) : -(2 ^ 62) ≤ k / m ∧ k / m < 2 ^ 62 := by
  have h1 := Int.ediv_nonneg k0 (show 0 ≤ m by omega)
  have h2 := Int.ediv_le_self m k0
  omega
def spDraw (K : PySem.W.Frag) : Sp := fun vs H Q _ => ∃ (a : Addr) (ns : List Int) (k : Int), vs = [.ref a, .int k] ∧ SqL K H a (ns.map V.int) ∧ ns.length ≤ 63 ∧ 0 ≤ k ∧ k ≤ 10 ^ 6 ∧
  ∀ (d : Addr) (H' : Hp), Ex H H' → H d = none → Drw H' d (64 * k) → Q (.ref d) H'
theorem ok__law_draw (T : Tx K mg) : Cal P w K mg base 1 "_law_draw" ["script", "k"] (spDraw K) := by
  refine T.d__law_draw.cal sc__law_draw (fun vs H Q E h => ?_) (fun f cdv A outer s H vs Q E hr h => ?_)
  · obtain ⟨x, n, c, rfl, _⟩ := h
    rfl
  · obtain ⟨a, ns, k, rfl, hS, hl, k0, k1, q⟩ := h
    refine ⟨_, (pss_cons (ps_set (i := 2) sc__law_draw.nd rfl (.inl rfl) (pe_ifExp (pt_cmpR (neDK (K := K) hr.units) (pv 0) (pe_lst pa_nil) (nomark _)) (pe_ix ix_list (pv 0) (pe_op op_mod (pv 1) (pe_callB call_len_seq (by rfl) T.b_len (by decide +kernel) (pa_cons (pv 0) pa_nil))) (fun _ _ => rfl)) pe_int))
    (pss_cons (ps_set (i := 3) sc__law_draw.nd rfl (.inl rfl) (pe_ifExp (pt_cmpR op_ge (pv 2) (pe_op op_pow pe_int pe_int) (nomark _)) (pv 2) pe_int))
    (pss_cons (ps_for PassesOwn.never rfl (pi_range1 (by rfl) T.b_range (pa_cons (pe_op op_fdivW (pv 1) (pe_callB (call_max2 rfl) (by rfl) T.b_max (by decide +kernel) (pa_cons pe_int (pa_cons (pe_callB call_len_seq (by rfl) T.b_len (by decide +kernel) (pa_cons (pv 0) pa_nil)) pa_nil)))) pa_nil)) (pg_name (i := 4) sc__law_draw.nd rfl (.inl rfl)) (pss_one (ps_set (i := 3) sc__law_draw.nd rfl (.inl rfl) (pe_op op_fdivW (pv 3) (pe_op op_pow pe_int pe_int)))))
    (pss_one (ps_ret (pe_lst (pa_cons (pv 2) (pa_cons (pe_op op_mulX pe_int (pv 1)) (pa_cons (pv 3) pa_nil))))))))), ?_⟩
    refine ⟨.ref a, rfl, Nat.zero_le _, fun p hp => ?_⟩
    have e1 : Ex H (upd H p (.lst [])) := Evl.Ex.new hp
    have hS1 : SqL K (upd H p (.lst [])) a (ns.map V.int) := Evl.ex_l e1 hS
    refine ⟨.list (ns.map PyData.int), .list [], .lst hS1 dpa_ints, .lst (SqL.of upd_same) .nil, shaped_ints, shaped_nil, _, rfl, ?_⟩
    rw [eqv_nil]
    rcases ns with _ | ⟨n, r⟩
    rotate_left
    have hlen : (0 : Int) < (((n :: r).map V.int).length : Int) := by
      rw [List.length_map, List.length_cons]
      omega
    have m0 := Int.emod_nonneg k (show (((n :: r).map V.int).length : Int) ≠ 0 by omega)
    have m1 := Int.emod_lt_of_pos k hlen
    obtain ⟨j, hj⟩ : ∃ j : Nat, k % (((n :: r).map V.int).length : Int) = (j : Int) := ⟨_, (Int.toNat_of_nonneg m0).symm⟩
    have hlt : j < (n :: r).length := by
      rw [hj, List.length_map] at m1
      omega
    have hat : atI ((n :: r).map V.int) (k % (((n :: r).map V.int).length : Int)) = some (.int ((n :: r)[j])) := by
      rw [hj]
      exact atI_nat (by rw [List.getElem?_map, List.getElem?_eq_getElem hlt]; rfl)
    refine iteT ⟨.ref a, rfl, .int k, rfl, .ref a, rfl, a, _, rfl, .inl hS1, k, _, rfl, rfl, hlen, a, _, _, _, rfl, rfl, hS1, hat, ?_⟩
    rotate_left
    refine iteF ?_
    all_goals (refine ⟨_, rfl, 10, 18, rfl, rfl, ⟨by decide, by decide, by decide⟩, _, _, rfl, rfl, _, rfl, ?_⟩)
    all_goals (refine ite2 (fun e => ⟨_, rfl, ?_⟩) (fun e => ?_))
    all_goals (refine ⟨.int k, rfl, .ref a, rfl, a, _, rfl, .inl hS1, 1, _, rfl, k, _, rfl, rfl, ?_, _, rfl, ?_⟩)
    all_goals first
      | (show CDivW _ _
         simp only [List.length_map, List.length_nil, List.length_cons] at hl ⊢
         exact divBd (by split <;> omega) (by split <;> omega))
      | skip
    all_goals (refine ⟨(div_in k0 k1 (le_max1 _)).1, (div_in k0 k1 (le_max1 _)).2, for_range (fun i σ H' => H' = upd H p (.lst []) ∧ ∃ own t, σ = [some (.ref a), some (.int k), some (.int _), some (.int own), t] ∧ 0 ≤ own) ⟨rfl, _, _, rfl, ?_⟩ ?_ ?_⟩)
    all_goals first
      | (rintro i σ H' hi ⟨rfl, own, t, rfl, h0⟩
         refine ⟨_, rfl, 10, 18, rfl, rfl, ⟨by decide, by decide, by decide⟩, own, _, rfl, rfl, divBd (by decide) (by decide), ?_⟩
         exact ⟨rfl, _, _, rfl, Int.ediv_nonneg h0 (by decide)⟩)
      | (rintro σ H' ⟨rfl, own, t, rfl, h0⟩
         refine ⟨_, rfl, .int k, rfl, 64, k, rfl, rfl, mulBd (by decide) (by decide) (by omega) (by omega), _, rfl, sz16 (by show 3 ≤ 16000000; decide), fun d hd => ?_⟩
         exact q d _ (e1.trans (Evl.Ex.new hd)) (Evl.fresh_back e1 hd) ⟨_, own, upd_same, h0, by omega⟩)
      | exact Int.le_trans (show (0 : Int) ≤ 10 ^ Int.toNat 18 by decide) (of_decide_eq_true e)
      | exact Int.le_refl _

/-! ### drawn books -/
def spSome : Sp := fun vs H Q _ => ∃ (d p : Addr) (c : Int) (xs : List V), vs = [.ref d, .ref p] ∧ Drw H d c ∧ c ≤ 10 ^ 10 ∧ H p = some (.lst xs) ∧ d ≠ p ∧ 1 ≤ xs.length ∧ xs.length ≤ 10 ∧
  ∀ (q : Addr) (c' : Int) (ys : List V) (H' : Hp), (∀ y ∈ ys, y ∈ xs) → ys.length ≤ xs.length → c ≤ c' → c' ≤ c + 2 → But d H H' → Drw H' d c' → H q = none → H' q = some (.lst ys) → Q (.ref q) H'
theorem cutV_mem {xs : List V} {a b : Option Int} {y : V} (h : y ∈ cutV xs a b) : y ∈ xs := List.mem_of_mem_drop (List.mem_of_mem_take h)
theorem ok__law_some (T : Tx K mg) : Cal P w K mg base 3 "_law_some" ["draw", "things"] spSome := by
  have G__law_next : Cal P w K mg base 2 "_law_next" ["draw", "many"] spNext := ok__law_next T
  refine T.d__law_some.cal sc__law_some (fun vs H Q E h => ?_) (fun f cdv A outer s H vs Q E hr h => ?_)
  · obtain ⟨_, _, _, _, rfl, _⟩ := h
    rfl
  · obtain ⟨d, p, c, xs, rfl, hd, c1, hp, ne, l1, l2, q⟩ := h
    refine ⟨_, (pss_cons (ps_set (i := 2) sc__law_some.nd rfl (.inl rfl) (pe_cal G__law_next hr (by rfl) (pa_cons (pv 0) (pa_cons (pe_callB call_len_seq (by rfl) T.b_len (by decide +kernel) (pa_cons (pv 1) pa_nil)) pa_nil))))
    (pss_one (ps_ret (pe_slice sl_list (pe_op op_cat (pe_slice sl_list (pv 1) (po_some (pv 2)) po_none) (pe_slice sl_list (pv 1) po_none (po_some (pv 2)))) po_none (po_some (pe_cal G__law_next hr (by rfl) (pa_cons (pv 0) (pa_cons (pe_op op_add (pe_callB call_len_seq (by rfl) T.b_len (by decide +kernel) (pa_cons (pv 1) pa_nil)) pe_int) pa_nil)))))))), ?_⟩
    refine ⟨.ref d, rfl, .ref p, rfl, p, xs, rfl, .inl (SqL.of hp), d, xs.length, c, rfl, hd, by omega, by omega, by omega, fun n c2 H2 n0 n1 k1 k2 b2 d2 => ?_⟩
    have hp2 := b2 p _ ne.symm hp
    refine ⟨.ref p, rfl, .int n, rfl, n, rfl, p, xs, rfl, SqL.of hp2, fun a ha => ?_⟩
    have hp3 := Evl.Ex.new (o := .lst (cutV xs (some n) none)) ha p _ hp2
    refine ⟨.ref p, rfl, .int n, rfl, n, rfl, p, xs, rfl, SqL.of hp3, fun b hb => ?_⟩
    have ha4 := Evl.Ex.new (o := .lst (cutV xs none (some n))) hb a _ (upd_same (H := H2) (o := .lst (cutV xs (some n) none)))
    have t1 := cutV_length xs (some n) none
    have t2 := cutV_length xs none (some n)
    refine ⟨a, b, _, _, rfl, rfl, ha4, upd_same, by rw [sizeLine_eq]; omega, fun g hg => ?_⟩
    have e3 := (Evl.Ex.new (o := .lst (cutV xs (some n) none)) ha).trans ((Evl.Ex.new (o := .lst (cutV xs none (some n))) hb).trans (Evl.Ex.new (o := .lst (cutV xs (some n) none ++ cutV xs none (some n))) hg))
    refine ⟨.ref d, rfl, .ref p, rfl, p, xs, rfl, .inl (SqL.of (e3 p _ hp2)), xs.length, 1, rfl, rfl, d, _, c2, rfl, d2.ex e3, by omega, by omega, by omega, fun m c5 H5 m0 m1 k3 k4 b5 d5 => ?_⟩
    have hg2 : H2 g = none := Evl.fresh_back ((Evl.Ex.new (o := .lst (cutV xs (some n) none)) ha).trans (Evl.Ex.new (o := .lst (cutV xs none (some n))) hb)) hg
    have hg5 := b5 g _ (d2.ne hg2).symm upd_same
    refine ⟨m, rfl, g, _, rfl, SqL.of hg5, fun r hr' => ?_⟩
    have bb : But d H H5 := b2.trans (But.exl e3 b5)
    have hr0 : H r = none := by
      cases z : H r with
      | none => rfl
      | some o =>
        by_cases er : r = d
        · obtain ⟨o', z'⟩ := d5.some
          rw [er, z'] at hr'
          cases hr'
        · rw [bb r o er z] at hr'
          cases hr'
    refine q r c5 _ _ (fun y hy => ?_) ?_ (by omega) (by omega) (bb.ex (Evl.Ex.new hr')) (d5.ex (Evl.Ex.new hr')) hr0 upd_same
    · have := cutV_mem hy
      rcases List.mem_append.mp this with h | h <;> exact cutV_mem h
    · have t3 := cutV_length (cutV xs (some n) none ++ cutV xs none (some n)) none (some m)
      have t4 : (cutV xs (some n) none ++ cutV xs none (some n)).length ≤ xs.length := by
        obtain ⟨j, rfl⟩ : ∃ j : Nat, n = (j : Int) := ⟨_, (Int.toNat_of_nonneg n0).symm⟩
        unfold cutV
        rw [HT.sIx_nat, HT.sIx_nat, HT.sIx_none, HT.sIx_none, List.length_append, List.length_take, List.length_drop, List.length_take, List.length_drop]
        omega
      omega

theorem tp_but {d : Addr} {H H' : Hp} {c : Int} (h : Drw H d c) (b : But d H H') : Tp H H' := fun x xs e => by
  obtain ⟨_, _, hd, _⟩ := h
  exact b x _ (ne_of e hd (by intro z; cases z)) e
theorem fresh_but {d p : Addr} {H H' : Hp} {c : Int} (b : But d H H') (h : Drw H' d c) (n : H' p = none) : H p = none := by
  cases z : H p with
  | none => rfl
  | some o =>
    by_cases e : p = d
    · obtain ⟨o', z'⟩ := h.some
      rw [e, z'] at n
      cases n
    · rw [b p o e z] at n
      cases n
def spTask : Sp := fun vs H Q _ => ∃ (d pm pg : Addr) (c : Int) (name : Str) (ms : List Str) (gxs : List V) (goods : List (Str × Int)), vs = [.ref d, .str name, .ref pm, .ref pg] ∧ Drw H d c ∧ c ≤ 10 ^ 10 ∧
  H pm = some (.lst (ms.map V.str)) ∧ d ≠ pm ∧ ms.length ≤ 10 ∧ H pg = some (.lst gxs) ∧ d ≠ pg ∧ RowsAt goodD H gxs goods ∧ goods.length ≤ 10 ∧ (∀ g ∈ goods, 1 ≤ g.2 ∧ g.2 ≤ 99) ∧
  ∀ (v : V) (c' : Int) (t : Tk) (H' : Hp), t.name = name → TaskOk t → c ≤ c' → c' ≤ c + 100 → But d H H' → Drw H' d c' → TD H' v (taskD t) → Q v H'
theorem ok__law_task (T : Tx K mg) : Cal P w K mg base 3 "_law_task" ["draw", "name", "machines", "goods"] spTask := by
  have G__law_next : Cal P w K mg base 2 "_law_next" ["draw", "many"] spNext := ok__law_next T
  refine T.d__law_task.cal sc__law_task (fun vs H Q E h => ?_) (fun f cdv A outer s H vs Q E hr h => ?_)
  · obtain ⟨_, _, _, _, _, _, _, _, rfl, _⟩ := h
    rfl
  · obtain ⟨d, pm, pg, c, name, ms, gxs, goods, rfl, hd, c1, hpm, nm, lms, hpg, ng, hrows, lg, gok, q⟩ := h
    refine ⟨_, (pss_cons (ps_set (i := 4) sc__law_task.nd rfl (.inl rfl) (pe_op op_add pe_int (pe_ix ix_list (pe_lst (pa_cons (pe_cal G__law_next hr (by rfl) (pa_cons (pv 0) (pa_cons pe_int pa_nil))) (pa_cons (pe_cal G__law_next hr (by rfl) (pa_cons (pv 0) (pa_cons pe_int pa_nil))) pa_nil))) (pe_op op_fdivW (pe_cal G__law_next hr (by rfl) (pa_cons (pv 0) (pa_cons pe_int pa_nil))) pe_int) (fun _ _ => rfl))))
    (pss_cons (ps_set (i := 5) sc__law_task.nd rfl (.inl rfl) (pe_ix ix_list (pe_op op_cat (pv 2) (pe_lst (pa_cons pe_str pa_nil))) (pe_cal G__law_next hr (by rfl) (pa_cons (pv 0) (pa_cons (pe_op op_add (pe_callB call_len_seq (by rfl) T.b_len (by decide +kernel) (pa_cons (pv 2) pa_nil)) pe_int) pa_nil))) (fun _ _ => rfl)))
    (pss_cons (ps_set (i := 6) sc__law_task.nd rfl (.inl rfl) (pe_lst pa_nil))
    (pss_cons (ps_for PassesOwn.never rfl (pi_list (pv 3)) (pg_tup (by rfl) (pgs_cons (pg_name (i := 7) sc__law_task.nd rfl (.inl rfl)) (pgs_cons (pg_name (i := 8) sc__law_task.nd rfl (.inl rfl)) pgs_nil))) (pss_one (ps_if (pt_cmpR op_eq (pe_cal G__law_next hr (by rfl) (pa_cons (pv 0) (pa_cons pe_int pa_nil))) pe_int (nomark _)) (pss_one (ps_expr (pe_bm PySem.F.plainAttrs_list PySem.F.slot_list_append PySem.F.type_list_append mt_append (pv 6) (pa_cons (pe_tup (pa_cons (pv 7) (pa_cons (pe_op op_add pe_int (pe_cal G__law_next hr (by rfl) (pa_cons (pv 0) (pa_cons (pv 8) pa_nil)))) pa_nil))) pa_nil)))) pss_nil)))
    (pss_cons (ps_set (i := 9) sc__law_task.nd rfl (.inl rfl) (pe_ix ix_list (pe_lst (pa_cons pe_int (pa_cons (pe_cal G__law_next hr (by rfl) (pa_cons (pv 0) (pa_cons pe_int pa_nil))) (pa_cons (pe_cal G__law_next hr (by rfl) (pa_cons (pv 0) (pa_cons pe_int pa_nil))) pa_nil)))) (pe_op op_fdivW (pe_cal G__law_next hr (by rfl) (pa_cons (pv 0) (pa_cons pe_int pa_nil))) pe_int) (fun _ _ => rfl)))
    (pss_cons (ps_set (i := 10) sc__law_task.nd rfl (.inl rfl) (pe_ix ix_list (pe_lst (pa_cons pe_non (pa_cons (pe_cal G__law_next hr (by rfl) (pa_cons (pv 0) (pa_cons pe_int pa_nil))) (pa_cons (pe_cal G__law_next hr (by rfl) (pa_cons (pv 0) (pa_cons pe_int pa_nil))) pa_nil)))) (pe_op op_fdivW (pe_cal G__law_next hr (by rfl) (pa_cons (pv 0) (pa_cons pe_int pa_nil))) pe_int) (fun _ _ => rfl)))
    (pss_one (ps_ret (pe_tup (pa_cons (pv 1) (pa_cons (pv 4) (pa_cons (pv 5) (pa_cons (pe_callTy call_tuple_of (by rfl) T.b_tuple (by decide +kernel) (pa_cons (pv 6) pa_nil)) (pa_cons (pv 9) (pa_cons (pv 10) (pa_cons (pe_ix ix_list (pe_lst (pa_cons pe_int (pa_cons pe_int (pa_cons (pe_cal G__law_next hr (by rfl) (pa_cons (pv 0) (pa_cons pe_int pa_nil))) pa_nil)))) (pe_cal G__law_next hr (by rfl) (pa_cons (pv 0) (pa_cons pe_int pa_nil))) (fun _ _ => rfl)) pa_nil)))))))))))))))), ?_⟩
    -- length
    refine ⟨.ref d, rfl, d, 6, c, rfl, hd, by decide, by decide, by omega, fun n1 c2 H1 a1 a2 a3 a4 b1 d1 => ?_⟩
    refine ⟨.ref d, rfl, d, 1000, c2, rfl, d1, by decide, by decide, by omega, fun n2 c3 H2 a5 a6 a7 a8 b2 d2 => ?_⟩
    refine ⟨sz16 (by show 2 ≤ 16000000; decide), fun p hp => ?_⟩
    refine ⟨.ref d, rfl, d, 8, c3, rfl, d2.upd (d2.ne hp), by decide, by decide, by omega, fun n3 c4 H3 a9 a10 a11 a12 b3 d3 => ?_⟩
    obtain ⟨v, hv, hat⟩ := at_mem (xs := [.int n1, .int n2]) (n := n3 / 7) (by omega) (by show n3 / 7 < 2; omega)
    obtain ⟨ln, rfl, ln0, ln1⟩ : ∃ ln : Int, v = .int ln ∧ 0 ≤ ln ∧ ln < 1000 := by
      simp only [List.mem_cons, List.not_mem_nil, or_false] at hv
      rcases hv with e | e <;> subst e
      · exact ⟨_, rfl, by omega, by omega⟩
      · exact ⟨_, rfl, by omega, by omega⟩
    refine ⟨n3, 7, rfl, rfl, divBd (by decide) (by decide), p, _, n3 / 7, _, rfl, rfl, SqL.of (b3 p _ (d2.ne hp).symm upd_same), hat, 1, ln, rfl, rfl, ?_⟩
    have B3 : But d H H3 := (b1.trans b2).trans (But.exl (Ex.new hp) b3)
    -- machine
    refine ⟨.ref pm, rfl, sz16 (by decide), fun p1 hp1 => ?_⟩
    have e1 : Ex H3 (upd H3 p1 (.lst [V.str ""])) := Ex.new hp1
    refine ⟨pm, p1, _, _, rfl, rfl, e1 _ _ (B3 pm _ nm.symm hpm), upd_same, by rw [List.length_map, sizeLine_eq]; show ms.length + 1 ≤ _; omega, fun p2 hp2 => ?_⟩
    have e2 : Ex H3 (upd (upd H3 p1 (.lst [V.str ""])) p2 (.lst (ms.map V.str ++ [V.str ""]))) := e1.trans (Ex.new hp2)
    have lcat : ((ms.map V.str ++ [V.str ""]).length : Int) = ms.length + 1 := by
      rw [List.length_append, List.length_map]
      rfl
    refine ⟨.ref d, rfl, .ref pm, rfl, pm, _, rfl, .inl (SqL.of (e2 _ _ (B3 pm _ nm.symm hpm))), _, 1, rfl, rfl, d, _, c4, rfl, d3.ex e2, by rw [List.length_map]; omega, by rw [List.length_map]; omega, by omega, fun n5 c5 H5 a13 a14 a15 a16 b5 d5 => ?_⟩
    obtain ⟨v, hv, hat5⟩ := at_mem (xs := ms.map V.str ++ [V.str ""]) a13 (by rw [lcat]; rw [List.length_map] at a14; exact a14)
    obtain ⟨mc, rfl⟩ : ∃ mc : Str, v = .str mc := by
      rcases List.mem_append.mp hv with h | h
      · obtain ⟨z, _, rfl⟩ := List.mem_map.mp h
        exact ⟨z, rfl⟩
      · exact ⟨"", List.mem_singleton.mp h⟩
    refine ⟨p2, _, n5, _, rfl, rfl, SqL.of (b5 p2 _ (d3.ne (Evl.fresh_back e1 hp2)).symm upd_same), hat5, ?_⟩
    have B5 : But d H H5 := B3.trans (But.exl e2 b5)
    -- needs
    refine ⟨sz16 (by decide), fun pn hpn => ?_⟩
    have hpn0 : H pn = none := fresh_but B5 d5 hpn
    have npn : d ≠ pn := hd.ne hpn0
    have B6 : But d H (upd H5 pn (.lst [])) := B5.ex (Ex.new hpn)
    have lgx := hrows.len
    refine ⟨.ref pg, rfl, pg, rfl, ⟨_, SqL.of (B6 pg _ ng.symm hpg)⟩, for_list (K := K) (a := pg) (xs := gxs) (fun i σ H' => ∃ (c' : Int) (nv : List V) (needs : List (Str × Int)) (t7 t8 : Option V), σ = [some (.ref d), some (.str name), some (.ref pm), some (.ref pg), some (.int (1 + ln)), some (.str mc), some (.ref pn), t7, t8, none, none] ∧
        c5 ≤ c' ∧ c' ≤ c5 + 2 * i ∧ But d H H' ∧ Drw H' d c' ∧ H' pn = some (.lst nv) ∧ RowsAt goodD H' nv needs ∧ needs.length ≤ i)
      ⟨c5, [], [], none, none, rfl, Int.le_refl _, by omega, B6, d5.upd npn, upd_same, .nil, Nat.le_refl _⟩ (fun i σ H' _ h => ?_) ?_ ?_⟩
    · obtain ⟨c', nv, needs, t7, t8, _, _, _, b, _⟩ := h
      exact SqL.of (b pg _ ng.symm hpg)
    · rintro i x σ H' hx ⟨c', nv, needs, t7, t8, rfl, x1, x2, x3, x4, x5, x6, x7⟩
      obtain ⟨g, hg, ht⟩ := hrows.get hx
      have hi : i < goods.length := by
        rcases Nat.lt_or_ge i goods.length with h | h
        · exact h
        · rw [List.getElem?_eq_none h] at hg
          cases hg
      obtain ⟨gn, gm⟩ := g
      obtain ⟨pt, rfl, hpt⟩ := good_parts (TD.tp (tp_but hd x3) ht)
      obtain ⟨g1, g2⟩ := gok _ (List.mem_of_getElem? hg)
      refine ⟨pt, _, rfl, SqT.of hpt, rfl, _, _, rfl, _, _, rfl, rfl, ?_⟩
      refine ⟨.ref d, rfl, d, 2, c', rfl, x4, by decide, by decide, by omega, fun n6 c6 H6 a17 a18 a19 a20 b6 d6 => ⟨rfl, _, rfl, ite2 (fun e => ?_) (fun e => ?_)⟩⟩
      · refine ⟨.ref pn, rfl, .inl ⟨rfl, _, SqL.of (b6 pn _ npn.symm x5)⟩, .str gn, rfl, .ref d, rfl, .int gm, rfl, d, gm, c6, rfl, d6, by omega, by omega, by omega, fun n7 c7 H7 a21 a22 a23 a24 b7 d7 => ?_⟩
        refine ⟨1, n7, rfl, rfl, sz16 (by show 2 ≤ 16000000; decide), fun t ht7 => ?_⟩
        have h7 := b7 pn _ npn.symm (b6 pn _ npn.symm x5)
        have h8 := Ex.new (o := .tup [.str gn, .int (1 + n7)]) ht7 pn _ h7
        refine ⟨pn, nv, .ref t, rfl, rfl, h8, by rw [x6.len, sizeLine_eq]; omega, ?_⟩
        have ex7 : Ex H7 (upd H7 t (.tup [.str gn, .int (1 + n7)])) := Ex.new ht7
        have tp7 : Tp H' (upd H7 t (.tup [.str gn, .int (1 + n7)])) := (tp_but x4 (b6.trans b7)).trans (Tp.ex ex7)
        refine ⟨c7, nv ++ [.ref t], needs ++ [(gn, 1 + n7)], _, _, rfl, by omega, by omega, (((x3.trans b6).trans b7).ex ex7).mut hpn0, (d7.ex ex7).upd npn, upd_same, ?_, by rw [List.length_append]; show needs.length + 1 ≤ i + 1; omega⟩
        have w1 : RowsAt goodD (upd H7 t (.tup [.str gn, .int (1 + n7)])) (nv ++ [.ref t]) (needs ++ [(gn, 1 + n7)]) := by
          unfold RowsAt
          rw [List.map_append]
          exact TDs.append (RowsAt.tp tp7 x6) (.cons (.tup upd_same (.cons (.str _) (.cons (.int _) .nil))) .nil)
        exact RowsAt.tp (Tp.upd h8) w1
      · refine ⟨c6, nv, needs, _, _, rfl, by omega, by omega, x3.trans b6, d6, b6 pn _ npn.symm x5, RowsAt.tp (tp_but x4 b6) x6, by omega⟩
    · rintro σ H' ⟨c', nv, needs, t7, t8, rfl, x1, x2, x3, x4, x5, x6, x7⟩
      rw [lgx] at x2 x7
      -- first
      refine ⟨.ref d, rfl, d, 20, c', rfl, x4, by decide, by decide, by omega, fun m1 k1 I1 y1 y2 y3 y4 z1 w1 => ?_⟩
      refine ⟨.ref d, rfl, d, 1000001, k1, rfl, w1, by decide, by decide, by omega, fun m2 k2 I2 y5 y6 y7 y8 z2 w2 => ?_⟩
      refine ⟨sz16 (by show 3 ≤ 16000000; decide), fun r1 hr1 => ?_⟩
      refine ⟨.ref d, rfl, d, 12, k2, rfl, w2.upd (w2.ne hr1), by decide, by decide, by omega, fun m3 k3 I3 y9 y10 y11 y12 z3 w3 => ?_⟩
      obtain ⟨v, hv, hat6⟩ := at_mem (xs := [.int 0, .int m1, .int m2]) (n := m3 / 5) (by omega) (by show m3 / 5 < 3; omega)
      obtain ⟨fr, rfl, fr0, fr1⟩ : ∃ fr : Int, v = .int fr ∧ 0 ≤ fr ∧ fr ≤ 1000000 := by
        simp only [List.mem_cons, List.not_mem_nil, or_false] at hv
        rcases hv with e | e | e <;> subst e
        · exact ⟨_, rfl, by decide, by decide⟩
        · exact ⟨_, rfl, by omega, by omega⟩
        · exact ⟨_, rfl, by omega, by omega⟩
      refine ⟨m3, 5, rfl, rfl, divBd (by decide) (by decide), r1, _, m3 / 5, _, rfl, rfl, SqL.of (z3 r1 _ (w2.ne hr1).symm upd_same), hat6, ?_⟩
      have Z3 : But d H' I3 := (z1.trans z2).trans (But.exl (Ex.new hr1) z3)
      -- due
      refine ⟨.ref d, rfl, d, 40, k3, rfl, w3, by decide, by decide, by omega, fun m4 k4 I4 y13 y14 y15 y16 z4 w4 => ?_⟩
      refine ⟨.ref d, rfl, d, 1000001, k4, rfl, w4, by decide, by decide, by omega, fun m5 k5 I5 y17 y18 y19 y20 z5 w5 => ?_⟩
      refine ⟨sz16 (by show 3 ≤ 16000000; decide), fun r2 hr2 => ?_⟩
      refine ⟨.ref d, rfl, d, 12, k5, rfl, w5.upd (w5.ne hr2), by decide, by decide, by omega, fun m6 k6 I6 y21 y22 y23 y24 z6 w6 => ?_⟩
      obtain ⟨v, hv, hat7⟩ := at_mem (xs := [.non, .int m4, .int m5]) (n := m6 / 5) (by omega) (by show m6 / 5 < 3; omega)
      obtain ⟨du, rfl, du0⟩ : ∃ du : Option Int, v = dueV du ∧ ∀ x, du = some x → 0 ≤ x ∧ x ≤ 1000000 := by
        simp only [List.mem_cons, List.not_mem_nil, or_false] at hv
        rcases hv with e | e | e <;> subst e
        · exact ⟨none, rfl, fun x h => nomatch h⟩
        · exact ⟨some m4, rfl, fun x h => by cases h; omega⟩
        · exact ⟨some m5, rfl, fun x h => by cases h; omega⟩
      refine ⟨m6, 5, rfl, rfl, divBd (by decide) (by decide), r2, _, m6 / 5, _, rfl, rfl, SqL.of (z6 r2 _ (w5.ne hr2).symm upd_same), hat7, ?_⟩
      have Z6 : But d H' I6 := Z3.trans ((z4.trans z5).trans (But.exl (Ex.new hr2) z6))
      -- the row
      have hn6 := Z6 pn _ npn.symm x5
      refine ⟨.str name, rfl, .int (1 + ln), rfl, .str mc, rfl, .ref pn, rfl, pn, nv, rfl, .inl ⟨SqL.of hn6, fun qn hqn => ?_⟩⟩
      have eq1 : Ex I6 (upd I6 qn (.tup nv)) := Ex.new hqn
      refine ⟨.int fr, rfl, dueV du, rfl, .ref d, rfl, d, 1001, k6, rfl, w6.ex eq1, by decide, by decide, by omega, fun m7 k7 I7 y25 y26 y27 y28 z7 w7 => ?_⟩
      refine ⟨sz16 (by show 3 ≤ 16000000; decide), fun r3 hr3 => ?_⟩
      refine ⟨.ref d, rfl, d, 3, k7, rfl, w7.upd (w7.ne hr3), by decide, by decide, by omega, fun m8 k8 I8 y29 y30 y31 y32 z8 w8 => ?_⟩
      obtain ⟨v, hv, hat8⟩ := at_mem (xs := [.int 0, .int 1, .int m7]) y29 y30
      obtain ⟨wt, rfl, wt0, wt1⟩ : ∃ wt : Int, v = .int wt ∧ 0 ≤ wt ∧ wt ≤ 1000 := by
        simp only [List.mem_cons, List.not_mem_nil, or_false] at hv
        rcases hv with e | e | e <;> subst e
        · exact ⟨_, rfl, by decide, by decide⟩
        · exact ⟨_, rfl, by decide, by decide⟩
        · exact ⟨_, rfl, by omega, by omega⟩
      refine ⟨r3, _, m8, _, rfl, rfl, SqL.of (z8 r3 _ (w7.ne hr3).symm upd_same), hat8, sz16 (by show 7 ≤ 16000000; decide), fun u hu => ?_⟩
      have Z8 : But d I6 I8 := But.exl eq1 (z7.trans (But.exl (Ex.new hr3) z8))
      have ZZ : But d H' I8 := Z6.trans Z8
      have eu : Ex I8 (upd I8 u (.tup [.str name, .int (1 + ln), .str mc, .ref qn, .int fr, dueV du, .int wt])) := Ex.new hu
      have nq : d ≠ qn := w6.ne hqn
      have hq8 : I8 qn = some (.tup nv) := (z7.trans (But.exl (Ex.new hr3) z8)) qn _ nq.symm upd_same
      refine q (.ref u) k8 ⟨name, 1 + ln, mc, needs, fr, du, wt⟩ _ rfl ⟨by constructor <;> (dsimp only; omega), ⟨fr0, fr1⟩, du0, ⟨wt0, wt1⟩⟩ (by omega) (by omega) ((x3.trans ZZ).ex eu) (w8.ex eu) ?_
      refine .tup upd_same (.cons (.str _) (.cons (.int _) (.cons (.str _) (.cons (.tup (eu _ _ hq8) ?_) (.cons (.int _) (.cons ?_ (.cons (.int _) .nil)))))))
      · exact RowsAt.tp ((tp_but x4 ZZ).trans (Tp.ex eu)) x6
      · cases du with
        | none => exact .non
        | some x => exact .int x

def spWaits : Sp := fun vs H Q _ => ∃ (d : Addr) (many most c : Int), vs = [.ref d, .int many, .int most] ∧ Drw H d c ∧ c ≤ 10 ^ 10 ∧ 1 ≤ many ∧ many ≤ 30 ∧ 0 ≤ most ∧ most ≤ 60 ∧
  ∀ (v : V) (c' : Int) (ws : List Wt) (H' : Hp), (ws.length : Int) ≤ most → (∀ x ∈ ws, 0 ≤ x.a ∧ x.a < x.b ∧ x.b < many ∧ 0 ≤ x.gap ∧ x.gap ≤ 1000) → c ≤ c' → c' ≤ c + 1000 → But d H H' → Drw H' d c' → TD H' v (.tuple (ws.map waitD)) → Q v H'
theorem ok__law_waits (T : Tx K mg) : Cal P w K mg base 3 "_law_waits" ["draw", "many", "most"] spWaits := by
  have G__law_next : Cal P w K mg base 2 "_law_next" ["draw", "many"] spNext := ok__law_next T
  refine T.d__law_waits.cal sc__law_waits (fun vs H Q E h => ?_) (fun f cdv A outer s H vs Q E hr h => ?_)
  · obtain ⟨_, _, _, _, rfl, _⟩ := h
    rfl
  · obtain ⟨d, many, most, c, rfl, hd, c1, l1, l2, l3, l4, q⟩ := h
    refine ⟨_, (pss_cons (ps_set (i := 3) sc__law_waits.nd rfl (.inl rfl) (pe_lst pa_nil))
    (pss_cons (ps_for PassesOwn.never rfl (pi_range1 (by rfl) T.b_range (pa_cons (pe_ifExp (pt_cmpR op_gt (pv 1) pe_int (nomark _)) (pe_cal G__law_next hr (by rfl) (pa_cons (pv 0) (pa_cons (pe_op op_add (pv 2) pe_int) pa_nil))) pe_int) pa_nil)) (pg_name (i := 4) sc__law_waits.nd rfl (.inl rfl)) (pss_cons (ps_set (i := 5) sc__law_waits.nd rfl (.inl rfl) (pe_cal G__law_next hr (by rfl) (pa_cons (pv 0) (pa_cons (pe_op op_sub (pv 1) pe_int) pa_nil))))
    (pss_cons (ps_set (i := 6) sc__law_waits.nd rfl (.inl rfl) (pe_op op_add (pe_op op_add (pv 5) pe_int) (pe_cal G__law_next hr (by rfl) (pa_cons (pv 0) (pa_cons (pe_op op_sub (pe_op op_sub (pv 1) pe_int) (pv 5)) pa_nil)))))
    (pss_one (ps_expr (pe_bm PySem.F.plainAttrs_list PySem.F.slot_list_append PySem.F.type_list_append mt_append (pv 3) (pa_cons (pe_tup (pa_cons (pv 5) (pa_cons (pv 6) (pa_cons (pe_ix ix_list (pe_lst (pa_cons pe_int (pa_cons (pe_cal G__law_next hr (by rfl) (pa_cons (pv 0) (pa_cons pe_int pa_nil))) (pa_cons (pe_cal G__law_next hr (by rfl) (pa_cons (pv 0) (pa_cons pe_int pa_nil))) pa_nil)))) (pe_op op_fdivW (pe_cal G__law_next hr (by rfl) (pa_cons (pv 0) (pa_cons pe_int pa_nil))) pe_int) (fun _ _ => rfl)) pa_nil)))) pa_nil)))))))
    (pss_one (ps_ret (pe_callTy call_tuple_of (by rfl) T.b_tuple (by decide +kernel) (pa_cons (pv 3) pa_nil)))))), ?_⟩
    refine ⟨sz16 (by decide), fun pn hpn => ?_⟩
    have npn : d ≠ pn := hd.ne hpn
    have e0 : Ex H (upd H pn (.lst [])) := Ex.new hpn
    refine ⟨.int many, rfl, many, 1, rfl, rfl, _, rfl, ite2 (fun e => ?_) (fun e => ?_)⟩
    · have hm : (1 : Int) < many := of_decide_eq_true e
      refine ⟨.ref d, rfl, .int most, rfl, most, 1, rfl, rfl, d, most + 1, c, rfl, hd.ex e0, by omega, by omega, by omega, fun n c2 H2 n0 n1 k1 k2 b2 d2 => ?_⟩
      refine ⟨n, rfl, by omega, by omega, for_range (fun i σ H' => ∃ (c' : Int) (nv : List V) (ws : List Wt) (t4 t5 t6 : Option V), σ = [some (.ref d), some (.int many), some (.int most), some (.ref pn), t4, t5, t6] ∧ c2 ≤ c' ∧ c' ≤ c2 + 5 * i ∧
          But d H H' ∧ Drw H' d c' ∧ H' pn = some (.lst nv) ∧ RowsAt waitD H' nv ws ∧ ws.length ≤ i ∧ ∀ x ∈ ws, 0 ≤ x.a ∧ x.a < x.b ∧ x.b < many ∧ 0 ≤ x.gap ∧ x.gap ≤ 1000)
        ⟨c2, [], [], none, none, none, rfl, Int.le_refl _, by omega, But.exl e0 b2, d2, b2 pn _ npn.symm upd_same, .nil, Nat.le_refl _, fun _ h => nomatch h⟩ ?_ ?_⟩
      · rintro i σ H' hi ⟨c', nv, ws, t4, t5, t6, rfl, x1, x2, x3, x4, x5, x6, x7, x8⟩
        have hi61 : (i : Int) < 61 := by omega
        refine ⟨.ref d, rfl, .int many, rfl, many, 1, rfl, rfl, d, many - 1, c', rfl, x4, by omega, by omega, by omega, fun a c3 H3 a0 a1 a2 a3 b3 d3 => ?_⟩
        refine ⟨.int a, rfl, a, 1, rfl, rfl, .ref d, rfl, .int many, rfl, many, 1, rfl, rfl, .int a, rfl, many - 1, a, rfl, rfl, d, many - 1 - a, c3, rfl, d3, by omega, by omega, by omega, fun b c4 H4 a4 a5 a6 a7 b4 d4 => ⟨a + 1, b, rfl, rfl, ?_⟩⟩
        refine ⟨.ref pn, rfl, .inl ⟨rfl, _, SqL.of (b4 pn _ npn.symm (b3 pn _ npn.symm x5))⟩, .int a, rfl, .int (a + 1 + b), rfl, ?_⟩
        refine ⟨.ref d, rfl, d, 4, c4, rfl, d4, by decide, by decide, by omega, fun m1 k1 I1 y1 y2 y3 y4 z1 w1 => ?_⟩
        refine ⟨.ref d, rfl, d, 1001, k1, rfl, w1, by decide, by decide, by omega, fun m2 k2 I2 y5 y6 y7 y8 z2 w2 => ?_⟩
        refine ⟨sz16 (by show 3 ≤ 16000000; decide), fun r1 hr1 => ?_⟩
        refine ⟨.ref d, rfl, d, 8, k2, rfl, w2.upd (w2.ne hr1), by decide, by decide, by omega, fun m3 k3 I3 y9 y10 y11 y12 z3 w3 => ?_⟩
        obtain ⟨v, hv, hat6⟩ := at_mem (xs := [.int 0, .int m1, .int m2]) (n := m3 / 3) (by omega) (by show m3 / 3 < 3; omega)
        obtain ⟨gp, rfl, g0, g1⟩ : ∃ gp : Int, v = .int gp ∧ 0 ≤ gp ∧ gp ≤ 1000 := by
          simp only [List.mem_cons, List.not_mem_nil, or_false] at hv
          rcases hv with e | e | e <;> subst e
          · exact ⟨_, rfl, by decide, by decide⟩
          · exact ⟨_, rfl, by omega, by omega⟩
          · exact ⟨_, rfl, by omega, by omega⟩
        refine ⟨m3, 3, rfl, rfl, divBd (by decide) (by decide), r1, _, m3 / 3, _, rfl, rfl, SqL.of (z3 r1 _ (w2.ne hr1).symm upd_same), hat6, sz16 (by show 3 ≤ 16000000; decide), fun t ht => ?_⟩
        have B : But d H' I3 := (b3.trans b4).trans ((z1.trans z2).trans (But.exl (Ex.new hr1) z3))
        have eu : Ex I3 (upd I3 t (.tup [.int a, .int (a + 1 + b), .int gp])) := Ex.new ht
        have h8 := eu pn _ (B pn _ npn.symm x5)
        refine ⟨pn, nv, .ref t, rfl, rfl, h8, by rw [x6.len, sizeLine_eq]; omega, ?_⟩
        refine ⟨k3, nv ++ [.ref t], ws ++ [⟨a, a + 1 + b, gp⟩], _, _, _, rfl, by omega, by omega, ((x3.trans B).ex eu).mut hpn, (w3.ex eu).upd npn, upd_same, ?_, by rw [List.length_append]; show ws.length + 1 ≤ i + 1; omega, fun x hx => ?_⟩
        · have w1 : RowsAt waitD (upd I3 t (.tup [.int a, .int (a + 1 + b), .int gp])) (nv ++ [.ref t]) (ws ++ [⟨a, a + 1 + b, gp⟩]) := by
            unfold RowsAt
            rw [List.map_append]
            exact TDs.append (RowsAt.tp ((tp_but x4 B).trans (Tp.ex eu)) x6) (.cons (.tup upd_same (.cons (.int _) (.cons (.int _) (.cons (.int _) .nil)))) .nil)
          exact RowsAt.tp (Tp.upd h8) w1
        · rcases List.mem_append.mp hx with h | h
          · exact x8 x h
          · rw [List.mem_singleton.mp h]
            refine ⟨a0, ?_, ?_, g0, g1⟩ <;> (dsimp only; omega)
      · rintro σ H' ⟨c', nv, ws, t4, t5, t6, rfl, x1, x2, x3, x4, x5, x6, x7, x8⟩
        refine ⟨.ref pn, rfl, pn, nv, rfl, .inl ⟨SqL.of x5, fun u hu => ?_⟩⟩
        have eu : Ex H' (upd H' u (.tup nv)) := Ex.new hu
        exact q _ c' ws _ (by omega) x8 (by omega) (by omega) (x3.ex eu) (x4.ex eu) (.tup upd_same (RowsAt.tp (Tp.ex eu) x6))
    · refine ⟨0, rfl, by decide, by decide, for_range (fun i σ H' => H' = upd H pn (.lst []) ∧ σ = [some (.ref d), some (.int many), some (.int most), some (.ref pn), none, none, none]) ⟨rfl, rfl⟩ (fun i σ H' hi _ => absurd hi (Nat.not_lt_zero _)) ?_⟩
      rintro σ H' ⟨rfl, rfl⟩
      refine ⟨.ref pn, rfl, pn, [], rfl, .inl ⟨SqL.of upd_same, fun u hu => ?_⟩⟩
      have eu : Ex (upd H pn (.lst [])) (upd (upd H pn (.lst [])) u (.tup [])) := Ex.new hu
      exact q _ c [] _ (by simpa using l3) (fun _ h => nomatch h) (Int.le_refl _) (by omega) (But.of (e0.trans eu)) (hd.ex (e0.trans eu)) (.tup upd_same .nil)

theorem strs_of {xs ys : List V} (h : ∀ y ∈ ys, y ∈ xs) (hx : ∀ x ∈ xs, ∃ z : Str, x = .str z) : ∃ zs : List Str, ys = zs.map V.str := by
  induction ys with
  | nil => exact ⟨[], rfl⟩
  | cons y r ih =>
    obtain ⟨zs, rfl⟩ := ih fun z hz => h z (List.mem_cons_of_mem _ hz)
    obtain ⟨z, rfl⟩ := hx y (h y List.mem_cons_self)
    exact ⟨z :: zs, rfl⟩
theorem at_nat2 {α : Type} {xs : List α} {j : Nat} {v : α} {n : Int} (e : n = (j : Int)) (h : xs[j]? = some v) : atI xs n = some v := by
  rw [e]
  exact atI_nat h
def spBook (K : PySem.W.Frag) : Sp := fun vs H Q _ => ∃ (a : Addr) (ns : List Int) (most : Int), vs = [.ref a, .int most] ∧ SqL K H a (ns.map V.int) ∧ ns.length ≤ 63 ∧ 1 ≤ most ∧ most ≤ 30 ∧
  ∀ (v : V) (b : Bk) (H' : Hp), BookOk b most → Ex H H' → TD H' v (bookD b) → Q v H'
theorem ok__law_book (T : Tx K mg) : Cal P w K mg base 4 "_law_book" ["script", "most"] (spBook K) := by
  have G__law_next : Cal P w K mg base 2 "_law_next" ["draw", "many"] spNext := ok__law_next T
  have G__law_draw : Cal P w K mg base 1 "_law_draw" ["script", "k"] (spDraw K) := ok__law_draw T
  have G__law_some : Cal P w K mg base 3 "_law_some" ["draw", "things"] spSome := ok__law_some T
  have G__law_task : Cal P w K mg base 3 "_law_task" ["draw", "name", "machines", "goods"] spTask := ok__law_task T
  have G__law_waits : Cal P w K mg base 3 "_law_waits" ["draw", "many", "most"] spWaits := ok__law_waits T
  refine T.d__law_book.cal sc__law_book (fun vs H Q E h => ?_) (fun f cdv A outer s H vs Q E hr h => ?_)
  · obtain ⟨_, _, _, rfl, _⟩ := h
    rfl
  · obtain ⟨a, ns, most, rfl, hS, hl, m0, m1, q⟩ := h
    refine ⟨_, (pss_cons (ps_set (i := 2) sc__law_book.nd rfl (.inr rfl) (pe_cal G__law_draw (hr.mono (by decide)) (by rfl) (pa_cons (pv 0) (pa_cons pe_int pa_nil))))
    (pss_cons (ps_set (i := 3) sc__law_book.nd rfl (.inr rfl) (pe_cal G__law_some hr (by rfl) (pa_cons (pv 2) (pa_cons (pe_lst (pa_cons pe_str (pa_cons pe_str (pa_cons pe_str (pa_cons pe_str (pa_cons pe_str (pa_cons pe_str pa_nil))))))) pa_nil))))
    (pss_cons (ps_set (i := 4) sc__law_book.nd rfl (.inr rfl) (pe_lc (own := [("name", 11)]) rfl sc__law_book.nd (pi_list (pe_cal G__law_some hr (by rfl) (pa_cons (pv 2) (pa_cons (pe_lst (pa_cons pe_str (pa_cons pe_str (pa_cons pe_str (pa_cons pe_str pa_nil))))) pa_nil)))) (blkOk_by (own := [("name", 11)]) (N := N__law_book) (sc := defScope s__law_book) (by decide +kernel)) (fun _ _ _ _ _ => (pg_name (i := 11) sc__law_book.nd rfl (.inl rfl))) (fun _ _ _ _ _ => pts_nil) (fun _ _ _ _ _ => (pe_tup (pa_cons (pv 11) (pa_cons (pe_ix (ixL (K := K)) (pe_lst (pa_cons pe_int (pa_cons pe_int (pa_cons pe_int (pa_cons pe_int pa_nil))))) (pe_cal G__law_next (hr.mono (by decide)) (by rfl) (pa_cons (pv 2) (pa_cons pe_int pa_nil))) (fun _ _ => rfl)) pa_nil))))))
    (pss_cons (ps_set (i := 5) sc__law_book.nd rfl (.inl rfl) (pe_op op_add pe_int (pe_cal G__law_next (hr.mono (by decide)) (by rfl) (pa_cons (pv 2) (pa_cons (pv 1) pa_nil)))))
    (pss_cons (ps_set (i := 6) sc__law_book.nd rfl (.inr rfl) (pe_lc (own := [("k", 10)]) rfl sc__law_book.nd (pi_range1 (by rfl) T.b_range (pa_cons (pv 5) pa_nil)) (blkOk_by (own := [("k", 10)]) (N := N__law_book) (sc := defScope s__law_book) (by decide +kernel)) (fun _ _ _ _ _ => (pg_name (i := 10) sc__law_book.nd rfl (.inl rfl))) (fun _ _ _ _ _ => pts_nil) (fun _ _ _ _ _ => (pe_slice sl_str (pe_op op_add_str pe_str pe_str) (po_some (pv 10)) (po_some (pe_op op_add (pe_op op_add (pv 10) pe_int) (pe_op op_mod (pv 10) pe_int)))))))
    (pss_cons (ps_if (pt_cmpR op_eq (pe_cal G__law_next (hr.mono (by decide)) (by rfl) (pa_cons (pv 2) (pa_cons pe_int pa_nil))) pe_int (nomark _)) (pss_one (ps_set (i := 6) sc__law_book.nd rfl (.inr rfl) (pe_revL (pv 6)))) pss_nil)
    (pss_cons (ps_setLc (i := 7) (own := [("k", 10)]) rfl sc__law_book.nd rfl rfl (sw_true rfl rfl rfl (by decide +kernel)) (pi_range1 (by rfl) T.b_range (pa_cons (pv 5) pa_nil)) (blkOk_by (own := [("k", 10)]) (N := N__law_book) (sc := defScope s__law_book) (by decide +kernel)) (fun _ _ _ _ _ => (pg_name (i := 10) sc__law_book.nd rfl (.inl rfl))) (fun _ _ _ _ _ => pts_nil) (fun _ _ _ _ _ => (pe_cal G__law_task hr (by rfl) (pa_cons (pe_cal G__law_draw (hr.mono (by decide)) (by rfl) (pa_cons (pv 0) (pa_cons (pe_op op_add pe_int (pv 10)) pa_nil))) (pa_cons (pe_ix (ixL (K := K)) (pv 6) (pv 10) (fun _ _ => rfl)) (pa_cons (pv 3) (pa_cons (pv 4) pa_nil)))))))
    (pss_cons (ps_set (i := 2) sc__law_book.nd rfl (.inr rfl) (pe_cal G__law_draw (hr.mono (by decide)) (by rfl) (pa_cons (pv 0) (pa_cons pe_int pa_nil))))
    (pss_cons (ps_set (i := 8) sc__law_book.nd rfl (.inl rfl) (pe_cal G__law_waits hr (by rfl) (pa_cons (pv 2) (pa_cons (pv 5) (pa_cons (pe_op op_mulX pe_int (pv 5)) pa_nil)))))
    (pss_cons (ps_set (i := 9) sc__law_book.nd rfl (.inl rfl) (pe_lst pa_nil))
    (pss_cons (ps_for PassesOwn.never rfl (pi_range1 (by rfl) T.b_range (pa_cons (pv 5) pa_nil)) (pg_name (i := 10) sc__law_book.nd rfl (.inl rfl)) (pss_one (ps_if (pt_cmpR op_eq (pe_cal G__law_next (hr.mono (by decide)) (by rfl) (pa_cons (pv 2) (pa_cons pe_int pa_nil))) pe_int (nomark _)) (pss_one (ps_expr (pe_bm PySem.F.plainAttrs_list PySem.F.slot_list_append PySem.F.type_list_append mt_append (pv 9) (pa_cons (pe_tup (pa_cons (pv 10) (pa_cons (pe_callB (call_min2 rfl) (by rfl) T.b_min (by decide +kernel) (pa_cons pe_int (pa_cons (pe_op op_add (pe_ix ix_tup (pe_ix ix_list (pv 7) (pv 10) (fun _ _ => rfl)) pe_int (fun _ _ => rfl)) (pe_cal G__law_next (hr.mono (by decide)) (by rfl) (pa_cons (pv 2) (pa_cons pe_int pa_nil)))) pa_nil))) pa_nil))) pa_nil)))) pss_nil)))
    (pss_one (ps_ret (pe_tup (pa_cons (pe_callTy call_tuple_of (by rfl) T.b_tuple (by decide +kernel) (pa_cons (pv 3) pa_nil)) (pa_cons (pe_callTy call_tuple_of (by rfl) T.b_tuple (by decide +kernel) (pa_cons (pv 4) pa_nil)) (pa_cons (pe_callTy call_tuple_of (by rfl) T.b_tuple (by decide +kernel) (pa_cons (pv 7) pa_nil)) (pa_cons (pv 8) (pa_cons (pe_callTy call_tuple_of (by rfl) T.b_tuple (by decide +kernel) (pa_cons (pv 9) pa_nil)) pa_nil))))))))))))))))))), ?_⟩
    -- draw, machines
    refine ⟨.ref a, rfl, a, ns, 0, rfl, hS, hl, by decide, by decide, fun d H1 e1 hd d1 => ?_⟩
    refine ⟨.ref d, rfl, sz16 (by decide), fun p hp => ?_⟩
    refine ⟨d, p, _, _, rfl, d1.upd (d1.ne hp), by decide, upd_same, d1.ne hp, by decide, by decide, fun pm c2 ys H2 s1 s2 k1 k2 b2 d2 hpm0 hpm => ?_⟩
    obtain ⟨ms, rfl⟩ := strs_of s1 fun x hx => by
      simp only [List.mem_cons, List.not_mem_nil, or_false] at hx
      rcases hx with e | e | e | e | e | e <;> exact ⟨_, e⟩
    have lms : ms.length ≤ 6 := by
      rw [List.length_map] at s2
      exact s2
    have E2 : Ex H H2 := But.toEx (e1.trans (Ex.new hp)) b2 hd
    have npm : d ≠ pm := (d1.upd (o := .lst _) (d1.ne hp)).ne hpm0
    -- goods
    refine ⟨.ref d, rfl, sz16 (by decide), fun p2 hp2 => ?_⟩
    refine ⟨d, p2, c2, _, rfl, d2.upd (d2.ne hp2), by omega, upd_same, d2.ne hp2, by decide, by decide, fun p3 c3 gs H3 s3 s4 k3 k4 b3 d3 _ hp3 => ?_⟩
    obtain ⟨gns, rfl⟩ := strs_of s3 fun x hx => by
      simp only [List.mem_cons, List.not_mem_nil, or_false] at hx
      rcases hx with e | e | e | e <;> exact ⟨_, e⟩
    have lgn : gns.length ≤ 4 := by
      rw [List.length_map] at s4
      exact s4
    have E3 : Ex H H3 := But.toEx (E2.trans (Ex.new hp2)) b3 hd
    have hpm3 : H3 pm = some (.lst (ms.map V.str)) := b3 pm _ npm.symm (Ex.new hp2 pm _ hpm)
    refine ⟨p3, rfl, ⟨_, SqL.of hp3⟩, fun D hD => ?_⟩
    have np3 : d ≠ p3 := fun e => by
      obtain ⟨_, _, h, _⟩ := d3
      rw [e, hp3] at h
      have := HO.lst.inj (Option.some.inj h)
      cases gns with
      | nil => cases this
      | cons g r => cases (List.cons.inj this).1
    have hD0 : H D = none := Evl.fresh_back E3 hD
    have nD : d ≠ D := d3.ne hD
    refine lc_list (K := K) (a := p3) (xs := gns.map V.str) (fun i H' => ∃ (c' : Int) (nv : List V) (goods : List (Str × Int)), c3 ≤ c' ∧ c' ≤ c3 + i ∧ But d H3 H' ∧ Drw H' d c' ∧ H' D = some (.lst nv) ∧ RowsAt goodD H' nv goods ∧ goods.length = i ∧ ∀ g ∈ goods, 1 ≤ g.2 ∧ g.2 ≤ 99)
      ⟨c3, [], [], Int.le_refl _, by omega, But.of (Ex.new hD), d3.upd nD, upd_same, .nil, rfl, fun _ h => nomatch h⟩ (fun i H' _ h => ?_) ?_ ?_
    · obtain ⟨_, _, _, _, _, b, _⟩ := h
      exact SqL.of (b p3 _ np3.symm hp3)
    · rintro i x H' hx ⟨c', nv, goods, x1, x2, x3, x4, x5, x6, x7, x8⟩
      obtain ⟨gn, rfl⟩ : ∃ gn : Str, x = .str gn := by
        obtain ⟨z, _, e⟩ := List.mem_map.mp (List.mem_of_getElem? hx)
        exact ⟨z, e.symm⟩
      have hi : i < gns.length := by
        rcases Nat.lt_or_ge i gns.length with h | h
        · exact h
        · rw [List.getElem?_eq_none (by rw [List.length_map]; exact h)] at hx
          cases hx
      refine ⟨rfl, .str gn, rfl, sz16 (by decide), fun r hr1 => ?_⟩
      refine ⟨.ref d, rfl, d, 4, c', rfl, x4.upd (x4.ne hr1), by decide, by decide, by omega, fun n c4 H4 n0 n1 y1 y2 b4 d4 => ?_⟩
      obtain ⟨v, hv, hat⟩ := at_mem (xs := [.int 1, .int 2, .int 3, .int 99]) n0 n1
      obtain ⟨gm, rfl, gm0, gm1⟩ : ∃ gm : Int, v = .int gm ∧ 1 ≤ gm ∧ gm ≤ 99 := by
        simp only [List.mem_cons, List.not_mem_nil, or_false] at hv
        rcases hv with e | e | e | e <;> subst e <;> exact ⟨_, rfl, by decide, by decide⟩
      refine ⟨r, _, n, _, rfl, rfl, SqL.of (b4 r _ (x4.ne hr1).symm upd_same), hat, sz16 (by show 2 ≤ 16000000; decide), fun t ht => ?_⟩
      have eu : Ex H4 (upd H4 t (.tup [.str gn, .int gm])) := Ex.new ht
      have B : But d H' H4 := But.exl (Ex.new hr1) b4
      have h8 := eu D _ (B D _ nD.symm x5)
      refine ⟨nv, h8, by rw [x6.len, sizeLine_eq]; omega, c4, nv ++ [.ref t], goods ++ [(gn, gm)], by omega, by omega, ((x3.trans B).ex eu).mut hD, (d4.ex eu).upd nD, upd_same, ?_, by rw [List.length_append, x7]; rfl, fun g hg => ?_⟩
      · have w1 : RowsAt goodD (upd H4 t (.tup [.str gn, .int gm])) (nv ++ [.ref t]) (goods ++ [(gn, gm)]) := by
          unfold RowsAt
          rw [List.map_append]
          exact TDs.append (RowsAt.tp ((tp_but x4 B).trans (Tp.ex eu)) x6) (.cons (.tup upd_same (.cons (.str _) (.cons (.int _) .nil))) .nil)
        exact RowsAt.tp (Tp.upd h8) w1
      · rcases List.mem_append.mp hg with h | h
        · exact x8 g h
        · rw [List.mem_singleton.mp h]
          exact ⟨gm0, gm1⟩
    · rintro H4 ⟨c4, gv, goods, x1, x2, b4, d4, hgo, rgo, lgo, gok⟩
      rw [List.length_map] at x2 lgo
      have E4 : Ex H H4 := But.toEx E3 b4 hd
      have hpm4 := b4 pm _ npm.symm hpm3
      -- many
      refine ⟨.ref d, rfl, .int most, rfl, d, most, c4, rfl, d4, by omega, by omega, by omega, fun n c5 H5 n0 n1 y1 y2 b5 d5 => ⟨1, n, rfl, rfl, ?_⟩⟩
      have E5 : Ex H H5 := But.toEx E4 b5 hd
      obtain ⟨mn, hmn⟩ : ∃ mn : Nat, 1 + n = (mn : Int) := ⟨_, (Int.toNat_of_nonneg (show 0 ≤ 1 + n by omega)).symm⟩
      have mt : (1 + n).toNat = mn := by omega
      -- names
      refine ⟨.int (1 + n), rfl, 1 + n, rfl, by omega, by omega, fun D2 hD2 => ?_⟩
      rw [mt]
      have hD20 : H D2 = none := Evl.fresh_back E5 hD2
      have e26 : Str.length ("abcdefghijklmnopqrstuvwxyz" : Str) = 26 := by decide +kernel
      have e5 : Str.length ("nooon" : Str) = 5 := by decide +kernel
      refine lc_range (fun i H' => ∃ zs : List Str, Ex H5 H' ∧ H' D2 = some (.lst (zs.map V.str)) ∧ zs.length = i) ⟨[], Ex.new hD2, upd_same, rfl⟩ ?_ ?_
      · rintro i H' hi ⟨zs, x3, x4, x5⟩
        refine ⟨rfl, _, _, rfl, rfl, sz16 (by rw [e26, e5]; decide), .int (0 + i), rfl, 0 + i, rfl, .int (0 + i), rfl, 0 + i, 1, rfl, rfl, .int (0 + i), rfl, 0 + i, 3, rfl, rfl, (show (0 : Int) < 3 by decide), _, _, rfl, rfl, _, rfl, ?_⟩
        refine ⟨_, rfl, sz16 ?_, _, x4, by rw [List.length_map, sizeLine_eq]; omega, zs ++ [_], x3.mut hD2, by rw [upd_same, List.map_append]; rfl, by rw [List.length_append, x5]; rfl⟩
        show (("abcdefghijklmnopqrstuvwxyz" : Str) ++ ("nooon" : Str)).cps.size ≤ 16000000
        decide +kernel
      · rintro H6 ⟨zs, e6, hz, lz⟩
        have d6 := d5.ex e6
        have E6 : Ex H H6 := E5.trans e6
        have B6 : But d H4 H6 := b5.ex e6
        refine ⟨.ref d, rfl, d, 2, c5, rfl, d6, by decide, by decide, by omega, fun n7 c7 H7 y3 y4 y5 y6 b7 d7 => ⟨rfl, _, rfl, ite2 (fun e => ⟨.ref D2, rfl, D2, _, rfl, SqL.of (b7 D2 _ (d5.ne hD2).symm hz), fun p7 hp7 => ?g1⟩) (fun e => ?g2)⟩⟩
        case' g1 =>
          have x7 : Ex H7 (upd H7 p7 (.lst (zs.map V.str).reverse)) := Ex.new hp7
          have hz8 : (upd H7 p7 (.lst (zs.map V.str).reverse)) p7 = some (.lst (zs.reverse.map V.str)) := by rw [upd_same, List.map_reverse]
          have lz8 : zs.reverse.length = mn := by rw [List.length_reverse]; exact lz
          generalize zs.reverse = zs2 at hz8 lz8
        case' g2 =>
          have x7 : Ex H7 H7 := Ex.refl _
          have hz8 := b7 D2 _ (d5.ne hD2).symm hz
          have lz8 := lz
        all_goals (have E8 := (But.toEx E6 b7 hd).trans x7)
        all_goals (have B8 : But d H4 _ := (B6.trans b7).ex x7)
        all_goals (have d8 := d7.ex x7)
        all_goals (have hpm8 := B8 pm _ npm.symm hpm4)
        all_goals (have hgo8 := B8 D _ nD.symm hgo)
        all_goals (have rgo8 := RowsAt.tp (tp_but d4 B8) rgo)
        -- tasks
        all_goals (refine ⟨.int (1 + n), rfl, 1 + n, rfl, by omega, by omega, fun D3 hD3 => ?_⟩)
        all_goals (rw [mt])
        all_goals (refine lc_range (fun i H' => ∃ (tv : List V) (tasks : List Tk), Ex _ H' ∧ H' D3 = some (.lst tv) ∧ RowsAt taskD H' tv tasks ∧ tasks.length = i ∧ ∀ t ∈ tasks, TaskOk t) ⟨[], [], Ex.new hD3, upd_same, .nil, rfl, fun _ h => nomatch h⟩ ?_ ?_)
        all_goals first
          | (rintro i H' hi ⟨tv, tasks, x1, x2, x3, x4, x5⟩
             have hi2 : (i : Int) < 30 := by omega
             obtain ⟨nm, hnm⟩ : ∃ nm : Str, atI (List.map V.str _) (0 + (i : Int)) = some (V.str nm) := ⟨_, at_nat2 (j := i) (Int.zero_add _) (by rw [List.getElem?_map, List.getElem?_eq_getElem (by rw [lz8]; exact hi)]; rfl)⟩
             refine ⟨rfl, .ref a, rfl, .int (0 + i), rfl, 2, 0 + i, rfl, rfl, a, ns, 2 + (0 + i), rfl, Evl.ex_l (E8.trans x1) hS, hl, by omega, by omega, fun dk H9 e9 hdk d9 => ?_⟩
             have x9 := x1.trans e9
             refine ⟨.ref _, rfl, .int (0 + i), rfl, _, _, 0 + i, .str nm, rfl, rfl, SqL.of (x9 _ _ hz8), hnm, .ref pm, rfl, .ref D, rfl, ?_⟩
             refine ⟨dk, pm, D, 64 * (2 + (0 + i)), nm, ms, gv, goods, rfl, d9, by omega, x9 _ _ hpm8, fun e => ?_, by omega, x9 _ _ hgo8, fun e => ?_, RowsAt.tp (Tp.ex x9) rgo8, by omega, gok, fun v c10 t H10 _ tok _ _ b10 d10 htd => ?_⟩
             · have := x1 _ _ hpm8
               rw [← e, hdk] at this
               cases this
             · have := x1 _ _ hgo8
               rw [← e, hdk] at this
               cases this
             · have X10 : Ex H' H10 := But.toEx e9 b10 hdk
               have h10 := X10 D3 _ x2
               refine ⟨tv, h10, by rw [x3.len, sizeLine_eq]; omega, tv ++ [v], tasks ++ [t], (x1.trans X10).mut hD3, upd_same, ?_, by rw [List.length_append, x4]; rfl, fun y hy => ?_⟩
               · have w1 : RowsAt taskD H10 (tv ++ [v]) (tasks ++ [t]) := by
                   unfold RowsAt
                   rw [List.map_append]
                   exact TDs.append (RowsAt.tp (Tp.ex X10) x3) (.cons htd .nil)
                 exact RowsAt.tp (Tp.upd h10) w1
               · rcases List.mem_append.mp hy with h | h
                 · exact x5 y h
                 · rw [List.mem_singleton.mp h]
                   exact tok)
          | rintro H11 ⟨tv, tasks, x11, htv, rtv, ltk, tok⟩
        all_goals (have E11 := E8.trans x11)
        all_goals (have ltv := rtv.len)
        -- waits
        all_goals (refine ⟨.ref a, rfl, a, ns, 1, rfl, Evl.ex_l E11 hS, hl, by decide, by decide, fun d2 H12 e12 hd2 dd2 => ?_⟩)
        all_goals (refine ⟨.ref d2, rfl, .int (1 + n), rfl, .int (1 + n), rfl, 2, 1 + n, rfl, rfl, mulBd (by decide) (by decide) (by omega) (by omega), d2, 1 + n, 2 * (1 + n), _, rfl, dd2, by decide, by omega, by omega, by omega, by omega, fun wv c13 ws H13 lws wok y7 y8 b13 d13 htw => ?_⟩)
        all_goals (have X13 : Ex H11 H13 := But.toEx e12 b13 hd2)
        -- fixed
        all_goals (refine ⟨sz16 (by decide), fun pf hpf => ?_⟩)
        all_goals (have npf : d2 ≠ pf := d13.ne hpf)
        all_goals (have hpf11 : H11 pf = none := Evl.fresh_back X13 hpf)
        all_goals (have X14 := X13.trans (Ex.new (o := .lst []) hpf))
        all_goals (refine ⟨.int (1 + n), rfl, 1 + n, rfl, by omega, by omega, ?_⟩)
        all_goals (rw [mt])
        all_goals (refine for_range (fun i σ H' => ∃ (c' : Int) (fv : List V) (fx : List (Int × Int)) (t10 t11 : Option V), σ = [some (.ref a), some (.int most), some (.ref d2), some (.ref pm), some (.ref D), some (.int (1 + n)), some (.ref _), some (.ref D3), some wv, some (.ref pf), t10, t11] ∧ c13 ≤ c' ∧ c' ≤ c13 + 2 * i ∧
          Ex H11 H' ∧ TD H' wv (.tuple (ws.map waitD)) ∧ Drw H' d2 c' ∧ H' pf = some (.lst fv) ∧ RowsAt fixD H' fv fx ∧ fx.length ≤ i ∧ ∀ x ∈ fx, 0 ≤ x.1 ∧ x.1 < i ∧ 0 ≤ x.2 ∧ x.2 ≤ 1000000) ⟨c13, [], [], none, none, rfl, Int.le_refl _, by omega, X14, TD.tp (Tp.ex (Ex.new hpf)) htw, d13.upd npf, upd_same, .nil, Nat.le_refl _, fun _ h => nomatch h⟩ ?_ ?_)
        all_goals first
          | (rintro i σ H' hi ⟨c', fv, fx, t10, t11, rfl, x1, x2, x3, x4, x5, x6, x7, x8, x9⟩
             have hi2 : (i : Int) < 30 := by omega
             refine ⟨.ref d2, rfl, d2, 6, c', rfl, x5, by decide, by decide, by omega, fun n14 c14 H14 y9 y10 y11 y12 b14 d14 => ⟨rfl, _, rfl, ite2 (fun e => ?_) (fun e => ?_)⟩⟩
             · have X14' : Ex H11 H14 := But.toEx x3 b14 hd2
               obtain ⟨tk, htk⟩ : ∃ tk, tv[i]? = some tk := ⟨_, List.getElem?_eq_getElem (by rw [ltv, ltk]; exact hi)⟩
               obtain ⟨t, ht, htd⟩ := rtv.get htk
               obtain ⟨tp, tq, txs, rfl, ht1, _, _⟩ := task_parts (TD.tp (Tp.ex X14') htd)
               have tfr := (tok t (List.mem_of_getElem? ht)).frm
               refine ⟨.ref pf, rfl, .inl ⟨rfl, _, SqL.of (b14 pf _ npf.symm x6)⟩, .int (0 + i), rfl, .ref D3, rfl, .int (0 + i), rfl, D3, tv, 0 + i, .ref tp, rfl, rfl, SqL.of (X14' D3 _ htv), at_nat2 (Int.zero_add _) htk, tp, _, 4, .int t.frm, rfl, rfl, SqT.of ht1, rfl, ?_⟩
               refine ⟨.ref d2, rfl, d2, 30, c14, rfl, d14, by decide, by decide, by omega, fun n15 c15 H15 y13 y14 y15 y16 b15 d15 => ⟨t.frm, n15, rfl, rfl, 1000000, t.frm + n15, rfl, sz16 (by show 2 ≤ 16000000; decide), fun u hu => ?_⟩⟩
               have eu := Ex.new (o := .tup [.int (0 + i), .int (if t.frm + n15 < 1000000 then t.frm + n15 else 1000000)]) hu
               have B := b14.trans b15
               have h8 := eu pf _ (B pf _ npf.symm x6)
               have tp8 := (tp_but x5 B).trans (Tp.ex eu)
               refine ⟨pf, fv, .ref u, rfl, rfl, h8, by rw [x7.len, sizeLine_eq]; omega, ?_⟩
               refine ⟨c15, fv ++ [.ref u], fx ++ [((0 + i : Int), (if t.frm + n15 < 1000000 then t.frm + n15 else 1000000))], _, _, rfl, by omega, by omega, ((But.toEx x3 B hd2).trans eu).mut hpf11, TD.tp (tp8.trans (Tp.upd h8)) x4, (d15.ex eu).upd npf, upd_same, ?_, by rw [List.length_append]; show fx.length + 1 ≤ i + 1; omega, fun x hx => ?_⟩
               · have w1 : RowsAt fixD (upd H15 u (.tup [.int (0 + i), .int (if t.frm + n15 < 1000000 then t.frm + n15 else 1000000)])) (fv ++ [.ref u]) (fx ++ [((0 + i : Int), (if t.frm + n15 < 1000000 then t.frm + n15 else 1000000))]) := by
                   unfold RowsAt
                   rw [List.map_append]
                   exact TDs.append (RowsAt.tp tp8 x7) (.cons (.tup upd_same (.cons (.int _) (.cons (.int _) .nil))) .nil)
                 exact RowsAt.tp (Tp.upd h8) w1
               · rcases List.mem_append.mp hx with h | h
                 · have := x9 x h
                   omega
                 · rw [List.mem_singleton.mp h]
                   dsimp only
                   split <;> omega
             · exact ⟨c14, fv, fx, _, _, rfl, by omega, by omega, But.toEx x3 b14 hd2, TD.tp (tp_but x5 b14) x4, d14, b14 pf _ npf.symm x6, RowsAt.tp (tp_but x5 b14) x7, by omega, fun x hx => by have := x9 x hx; omega⟩)
          | (rintro σ H' ⟨c', fv, fx, t10, t11, rfl, x1, x2, x3, x4, x5, x6, x7, x8, x9⟩
             have hm := x3 _ _ (x11 _ _ hpm8)
             have hg := x3 _ _ (x11 _ _ hgo8)
             have ht := x3 _ _ htv
             refine ⟨.ref pm, rfl, pm, _, rfl, .inl ⟨SqL.of hm, fun u1 hu1 => ?_⟩⟩
             have z1 := Ex.new (o := .tup (ms.map V.str)) hu1
             refine ⟨.ref D, rfl, D, _, rfl, .inl ⟨SqL.of (z1 _ _ hg), fun u2 hu2 => ?_⟩⟩
             have z2 := z1.trans (Ex.new (o := .tup gv) hu2)
             refine ⟨.ref D3, rfl, D3, _, rfl, .inl ⟨SqL.of (z2 _ _ ht), fun u3 hu3 => ?_⟩⟩
             have z3 := z2.trans (Ex.new (o := .tup tv) hu3)
             refine ⟨wv, rfl, .ref pf, rfl, pf, _, rfl, .inl ⟨SqL.of (z3 _ _ x6), fun u4 hu4 => ?_⟩⟩
             have z4 := z3.trans (Ex.new (o := .tup fv) hu4)
             refine ⟨sz16 (by show 5 ≤ 16000000; decide), fun u5 hu5 => ?_⟩
             have w4 := Ex.new (o := .tup [.ref u1, .ref u2, .ref u3, wv, .ref u4]) hu5
             have z5 := z4.trans w4
             have w3 := (Ex.new (o := .tup fv) hu4).trans w4
             have w2 := (Ex.new (o := .tup tv) hu3).trans w3
             have w1 := (Ex.new (o := .tup gv) hu2).trans w2
             have lfx := x7.len
             refine q (.ref u5) ⟨ms, goods, tasks, ws, fx⟩ _ ⟨by dsimp only; omega, tok, by dsimp only; omega, fun x hx => by have := wok x hx; dsimp only; omega, by dsimp only; omega, fun x hx => by have := x9 x hx; dsimp only; omega⟩ (E11.trans (x3.trans z5)) ?_
             refine .tup upd_same (.cons (.tup (w1 _ _ upd_same) (TDs.strs ms)) (.cons (.tup (w2 _ _ upd_same) ?_) (.cons (.tup (w3 _ _ upd_same) ?_) (.cons (TD.tp (Tp.ex z5) x4) (.cons (.tup (w4 _ _ upd_same) ?_) .nil)))))
             · exact RowsAt.tp (Tp.ex (x11.trans (x3.trans z5))) rgo8
             · exact RowsAt.tp (Tp.ex (x3.trans z5)) rtv
             · exact RowsAt.tp (Tp.ex z5) x7)

end
end Bk04

namespace Bk04
open PySem PySem.Spec PyProof.Rows L2 Bs
open Evl (Ex)
section
variable {P : Program} {w : World} {K : PySem.W.Frag} {mg : Str → Option Value} {base : Heap}
/-- new lists of numbers at new places -/
structure NewNest (H H' : Hp) (p : Addr) (as : List Addr) (ls : List (List Int)) : Prop where
  ex : Ex H H'
  free : H p = none
  at_ : H' p = some (.lst (as.map V.ref))
  frees : ∀ x ∈ as, H x = none ∧ x ≠ p
  nd : as.Nodup
  len : as.length = ls.length
  row : ∀ (j : Nat) (x : Addr) (l : List Int), as[j]? = some x → ls[j]? = some l → H' x = some (.lst (l.map V.int))
def spAhead : Sp := fun vs H Q _ => ∃ (v : V) (b : Bk) (most : Int), vs = [v] ∧ TD H v (bookD b) ∧ BookOk b most ∧ most ≤ 30 ∧
  ∀ (p : Addr) (as : List Addr) (H' : Hp), NewNest H H' p as (ahds b) → Q (.ref p) H'
theorem ok_ahead_of (T : Tx K mg) : Cal P w K mg base 1 "ahead_of" ["book"] spAhead := by
  refine T.d_ahead_of.cal sc_ahead_of (fun vs H Q E h => ?_) (fun f cdv A outer s H vs Q E hr h => ?_)
  · obtain ⟨_, _, _, rfl, _⟩ := h
    rfl
  · obtain ⟨v, b, most, rfl, hb, ok, hm, q⟩ := h
    refine ⟨_, (pss_cons (ps_set (i := 1) sc_ahead_of.nd rfl (.inl rfl) (pe_lst pa_nil))
    (pss_cons (ps_for PassesOwn.never rfl (pi_range1 (by rfl) T.b_range (pa_cons (pe_callB call_len_seq (by rfl) T.b_len (by decide +kernel) (pa_cons (pe_ix ix_tup (pv 0) (pe_globE rfl T.c_TASKS) (fun _ _ => rfl)) pa_nil)) pa_nil)) (pg_name (i := 2) sc_ahead_of.nd rfl (.inr rfl)) (pss_one (ps_expr (pe_bm PySem.F.plainAttrs_list PySem.F.slot_list_append PySem.F.type_list_append mt_append (pv 1) (pa_cons (pe_callB (cr_sortedSet rfl) (by rfl) T.b_sorted (by decide +kernel) (pa_cons (pe_scI (own := [("_", 3), ("first", 4), ("second", 5)]) rfl sc_ahead_of.nd (pi_tup (pe_ix ix_tup (pv 0) (pe_globE rfl T.c_WAITS) (fun _ _ => rfl))) (blkOk_by (own := [("_", 3), ("first", 4), ("second", 5)]) (N := N_ahead_of) (sc := defScope s_ahead_of) (by decide +kernel)) (fun _ _ _ _ _ => (pgTK (K := K) (n := 3) (by rfl) (pgs_cons (pg_name (i := 4) sc_ahead_of.nd rfl (.inl rfl)) (pgs_cons (pg_name (i := 5) sc_ahead_of.nd rfl (.inl rfl)) (pgs_cons (pg_name (i := 3) sc_ahead_of.nd rfl (.inl rfl)) pgs_nil))))) (fun _ _ _ _ _ => pts_one (pt_cmpR op_eq (pv 5) (pv 2) (nomark _))) (fun _ _ _ _ _ => (pv 4))) pa_nil)) pa_nil)))))
    (pss_one (ps_ret (pv 1))))), ?_⟩
    obtain ⟨ab, m, g, t, wt, fx, rfl, hab, _, _, ⟨txs, ht, rt⟩, ⟨wxs, hw, rw_⟩, _⟩ := book_parts hb
    have few := ok.few
    refine ⟨sz16 (by decide), fun p hp => ?_⟩
    have e0 : Ex H (upd H p (.lst [])) := Ex.new hp
    have lt := rt.len
    refine ⟨.ref ab, rfl, ab, _, 2, .ref t, rfl, rfl, SqT.of (e0 _ _ hab), rfl, t, txs, rfl, .inr (SqT.of (e0 _ _ ht)), txs.length, rfl, by omega, by omega, ?_⟩
    refine for_range (fun i σ H' => ∃ (as : List Addr) (t2 : Option V), σ = [some (.ref ab), some (.ref p), t2, none, none, none] ∧ Ex H H' ∧ H' p = some (.lst (as.map V.ref)) ∧ as.length = i ∧ as.Nodup ∧ (∀ x ∈ as, H x = none ∧ x ≠ p ∧ H' x ≠ none) ∧ ∀ (j : Nat) (x : Addr), as[j]? = some x → H' x = some (.lst ((ahd b j).map V.int)))
      ⟨[], none, rfl, e0, upd_same, rfl, List.nodup_nil, (fun _ h => nomatch h), fun j x h => by simp at h⟩ ?_ ?_
    · rintro i σ H' hi ⟨as, t2, rfl, x1, x2, x3, x4, x5, x6⟩
      have hi2 : i < b.tasks.length := by omega
      refine ⟨.ref p, rfl, .inl ⟨rfl, _, SqL.of x2⟩, ?_⟩
      refine ⟨.ref ab, rfl, ab, _, 3, .ref wt, rfl, rfl, SqT.of (x1 _ _ hab), rfl, wt, rfl, ⟨_, SqT.of (x1 _ _ hw)⟩, ?_⟩
      refine scT (fun x => decide (x.b = (i : Int))) (fun x => x.a) (SqT.of (x1 _ _ hw)) (RowsAt.tp (Tp.ex x1) rw_) (by have := ok.waits; omega) ?_ ?_
      · intro x v H2 hx htd e2 R R0 hR hR0
        obtain ⟨pt, rfl, hpt⟩ := wait_parts htd
        refine ⟨pt, _, rfl, SqT.of hpt, rfl, _, _, rfl, _, _, rfl, _, _, rfl, rfl, rfl, .int x.b, rfl, .int (0 + i), rfl, rfl, _, rfl, ?_⟩
        by_cases e : x.b = (i : Int)
        · rw [decide_eq_true (show V.int x.b = V.int (0 + i) by rw [e]; simp)]
          exact iteT ⟨_, rfl, hR (decide_eq_true e) _ (Ex.refl _)⟩
        · rw [decide_eq_false (show ¬ V.int x.b = V.int (0 + i) from fun z => e (by have := V.int.inj z; omega))]
          exact iteF (hR0 (decide_eq_false e) _ (Ex.refl _))
      · intro D H2 S n hD e2 hS hk hn
        refine ⟨D, S, n, rfl, hS, by have := ok.waits; omega, fun ns u h1 h2 h3 hu => ?_⟩
        have hns : ns = ahd b i := rise_ext h1 (ahd_rise b i) fun k => by rw [h2 k, hk k, ahd_mem ok]
        subst hns
        have e3 : Ex H2 (upd H2 u (.lst ((ahd b i).map V.int))) := Ex.new hu
        have hp3 := e3 _ _ (e2 _ _ x2)
        have hu' : H' u = none := Evl.fresh_back e2 hu
        have hu0 : H u = none := Evl.fresh_back x1 hu'
        have nup : u ≠ p := (ne_of_none x2 hu').symm
        refine ⟨p, as.map V.ref, .ref u, rfl, rfl, hp3, by rw [List.length_map, sizeLine_eq]; omega, ?_⟩
        refine ⟨as ++ [u], _, rfl, ((x1.trans e2).trans e3).mut hp, by rw [upd_same, List.map_append]; rfl, by rw [List.length_append, x3]; rfl, ?_, fun x hx => ?_, fun j x hj => ?_⟩
        · rw [List.nodup_append]
          refine ⟨x4, by simp, fun x hx y hy e => ?_⟩
          rw [List.mem_singleton.mp hy] at e
          subst e
          exact (x5 _ hx).2.2 hu'
        · rcases List.mem_append.mp hx with h | h
          · obtain ⟨y1, y2, y3⟩ := x5 x h
            refine ⟨y1, y2, ?_⟩
            rw [upd_ne y2]
            cases z : H' x with
            | none => exact absurd z y3
            | some o =>
              rw [(e2.trans e3) x o z]
              intro z'
              cases z'
          · rw [List.mem_singleton.mp h]
            refine ⟨hu0, nup, ?_⟩
            rw [upd_ne nup, upd_same]
            intro z'
            cases z'
        · rcases Nat.lt_or_ge j as.length with h | h
          · rw [List.getElem?_append_left h] at hj
            have hxp : x ≠ p := (x5 x (List.mem_of_getElem? hj)).2.1
            rw [upd_ne hxp]
            exact (e2.trans e3) x _ (x6 j x hj)
          · rw [List.getElem?_append_right h] at hj
            have hj0 : j - as.length = 0 := by
              rcases Nat.eq_zero_or_pos (j - as.length) with z | z
              · exact z
              · rw [List.getElem?_eq_none (by rw [List.length_singleton]; omega)] at hj
                cases hj
            rw [hj0] at hj
            have : u = x := Option.some.inj hj
            subst this
            have : j = i := by omega
            subst this
            rw [upd_ne nup, upd_same]
    · rintro σ H' ⟨as, t2, rfl, x1, x2, x3, x4, x5, x6⟩
      refine ⟨.ref p, rfl, q p as H' ⟨x1, hp, x2, fun x hx => ⟨(x5 x hx).1, (x5 x hx).2.1⟩, x4, ?_, fun j x l hj hl => ?_⟩⟩
      · unfold ahds
        rw [List.length_map, List.length_range]
        omega
      · unfold ahds at hl
        rw [List.getElem?_map] at hl
        have hjn : j < b.tasks.length := by
          rcases Nat.lt_or_ge j as.length with h | h
          · omega
          · rw [List.getElem?_eq_none h] at hj
            cases hj
        rw [List.getElem?_range hjn] at hl
        have : ahd b j = l := Option.some.inj hl
        subst this
        exact x6 j x hj
def spGap : Sp := fun vs H Q _ => ∃ (v : V) (b : Bk) (most x y : Int), vs = [v, .int x, .int y] ∧ TD H v (bookD b) ∧ BookOk b most ∧ ∀ (o : Option Int) (H' : Hp), GapIs b x y o → Ex H H' → Q (dueV o) H'
theorem ok_gap_of (T : Tx K mg) : Cal P w K mg base 1 "gap_of" ["book", "a", "b"] spGap := by
  refine T.d_gap_of.cal sc_gap_of (fun vs H Q E h => ?_) (fun f cdv A outer s H vs Q E hr h => ?_)
  · obtain ⟨_, _, _, _, _, rfl, _⟩ := h
    rfl
  · obtain ⟨v, b, most, x, y, rfl, hb, ok, q⟩ := h
    refine ⟨_, (pss_one (ps_ret (pe_callBK (cr_maxD rfl hr.units) (by rfl) T.b_max (by decide +kernel) (pa_cons (pe_lc (own := [("first", 3), ("gap", 4), ("second", 5)]) rfl sc_gap_of.nd (pi_tup (pe_ix ix_tup (pv 0) (pe_globE rfl T.c_WAITS) (fun _ _ => rfl))) (blkOk_by (own := [("first", 3), ("gap", 4), ("second", 5)]) (N := N_gap_of) (sc := defScope s_gap_of) (by decide +kernel)) (fun _ _ _ _ _ => (pgTK (K := K) (n := 3) (by rfl) (pgs_cons (pg_name (i := 3) sc_gap_of.nd rfl (.inl rfl)) (pgs_cons (pg_name (i := 5) sc_gap_of.nd rfl (.inl rfl)) (pgs_cons (pg_name (i := 4) sc_gap_of.nd rfl (.inl rfl)) pgs_nil))))) (fun _ _ _ _ _ => pts_one (PW.pt (pw_and (pt_cmpR op_eq (pv 3) (pv 1) (nomark _)) (pw_and1 (pt_cmpR op_eq (pv 5) (pv 2) (nomark _)))))) (fun _ _ _ _ _ => (pv 4))) pa_nil) (pk_cons pe_non pk_nil)))), ?_⟩
    obtain ⟨ab, m, g, t, wt, fx, rfl, hab, _, _, _, ⟨wxs, hw, rw_⟩, _⟩ := book_parts hb
    refine ⟨.ref ab, rfl, ab, _, 3, .ref wt, rfl, rfl, SqT.of hab, rfl, wt, rfl, ⟨_, SqT.of hw⟩, ?_⟩
    refine lcT (fun z => decide (z.a = x) && decide (z.b = y)) (fun z => V.int z.gap) (SqT.of hw) rw_ (by have := ok.waits; omega) ?_ ?_
    · intro z v H2 hz htd e2 R R0 hR hR0
      obtain ⟨pt, rfl, hpt⟩ := wait_parts htd
      refine ⟨pt, _, rfl, SqT.of hpt, rfl, _, _, rfl, _, _, rfl, _, _, rfl, rfl, rfl, .int z.a, rfl, .int x, rfl, rfl, _, rfl, ?_⟩
      by_cases e : z.a = x
      · rw [decide_eq_true (show V.int z.a = V.int x by rw [e])]
        refine iteT ⟨.int z.b, rfl, .int y, rfl, rfl, _, rfl, ?_⟩
        by_cases e' : z.b = y
        · rw [decide_eq_true (show V.int z.b = V.int y by rw [e'])]
          exact iteT ⟨_, rfl, hR (by rw [decide_eq_true e, decide_eq_true e']; rfl) _ (Ex.refl _)⟩
        · rw [decide_eq_false (show ¬ V.int z.b = V.int y from fun h => e' (V.int.inj h))]
          exact iteF (hR0 (by rw [decide_eq_false e', Bool.and_false]) _ (Ex.refl _))
      · rw [decide_eq_false (show ¬ V.int z.a = V.int x from fun h => e (V.int.inj h))]
        exact iteF (iteF (hR0 (by rw [decide_eq_false e, Bool.false_and]) _ (Ex.refl _)))
    · intro D H2 hD e2 hl
      have hl' : H2 D = some (.lst (((b.waits.filter fun z => decide (z.a = x) && decide (z.b = y)).map fun z => z.gap).map V.int)) := by
        rw [hl, List.map_map]
        rfl
      have mem : ∀ z : Wt, z ∈ (b.waits.filter fun z => decide (z.a = x) && decide (z.b = y)) ↔ z ∈ b.waits ∧ z.a = x ∧ z.b = y := fun z => by
        rw [List.mem_filter, Bool.and_eq_true, decide_eq_true_iff, decide_eq_true_iff]
      refine ⟨D, _, rfl, rfl, SqL.of hl', fun e => ?_, fun g hg hmax => ?_⟩
      · refine q none H2 (fun z hz hh => ?_) e2
        have : z.gap ∈ ((b.waits.filter fun z => decide (z.a = x) && decide (z.b = y)).map fun z => z.gap) := List.mem_map.mpr ⟨z, (mem z).mpr ⟨hz, hh⟩, rfl⟩
        rw [e] at this
        cases this
      · obtain ⟨z, hz, rfl⟩ := List.mem_map.mp hg
        have hz' := (mem z).mp hz
        exact q (some z.gap) H2 ⟨⟨z, hz'.1, hz'.2, rfl⟩, fun u hu hh => hmax _ (List.mem_map.mpr ⟨u, (mem u).mpr ⟨hu, hh⟩, rfl⟩)⟩ e2

theorem ok__law_ahead (T : Tx K mg) : Cal P w K mg base 1 "_law_ahead" ["book"] spAhead := by
  refine T.d__law_ahead.cal sc__law_ahead (fun vs H Q E h => ?_) (fun f cdv A outer s H vs Q E hr h => ?_)
  · obtain ⟨_, _, _, rfl, _⟩ := h
    rfl
  · obtain ⟨v, b, most, rfl, hb, ok, hm, q⟩ := h
    refine ⟨_, (pss_cons (ps_set (i := 1) sc__law_ahead.nd rfl (.inl rfl) (pe_lst pa_nil))
    (pss_cons (ps_for PassesOwn.never rfl (pi_range1 (by rfl) T.b_range (pa_cons (pe_callB call_len_seq (by rfl) T.b_len (by decide +kernel) (pa_cons (pe_ix ix_tup (pv 0) pe_int (fun _ _ => rfl)) pa_nil)) pa_nil)) (pg_name (i := 2) sc__law_ahead.nd rfl (.inr rfl)) (pss_one (ps_expr (pe_bm PySem.F.plainAttrs_list PySem.F.slot_list_append PySem.F.type_list_append mt_append (pv 1) (pa_cons (pe_lc (own := [("other", 3)]) rfl sc__law_ahead.nd (pi_range1 (by rfl) T.b_range (pa_cons (pe_callB call_len_seq (by rfl) T.b_len (by decide +kernel) (pa_cons (pe_ix ix_tup (pv 0) pe_int (fun _ _ => rfl)) pa_nil)) pa_nil)) (blkOk_by (own := [("other", 3)]) (N := N__law_ahead) (sc := defScope s__law_ahead) (by decide +kernel)) (fun _ _ _ _ _ => (pg_name (i := 3) sc__law_ahead.nd rfl (.inr rfl))) (fun _ _ _ _ _ => pts_one (pt_cmpR (neDK (K := K) hr.units) (pe_lc (own := [("w", 4)]) rfl sc__law_ahead.nd (piTK (K := K) (pe_ix (ixT (K := K)) (pv 0) pe_int (fun _ _ => rfl))) (blkOk_by (own := [("w", 4)]) (N := N__law_ahead) (by rfl)) (fun _ _ _ _ _ => (pg_name (i := 4) sc__law_ahead.nd rfl (.inl rfl))) (fun _ _ _ _ _ => pts_one (pt_cmpR (eqDK (K := K) hr.units) (pe_slice (slTK (K := K)) (pv 4) po_none (po_some pe_int)) (pe_tup (pa_cons (pv 3) (pa_cons (pv 2) pa_nil))) (nomark _))) (fun _ _ _ _ _ => (pv 4))) (pe_lst pa_nil) (nomark _))) (fun _ _ _ _ _ => (pv 3))) pa_nil)))))
    (pss_one (ps_ret (pv 1))))), ?_⟩
    obtain ⟨ab, m, g, t, wt, fx, rfl, hab, _, _, ⟨txs, ht, rt⟩, ⟨wxs, hw, rw_⟩, _⟩ := book_parts hb
    have few := ok.few
    refine ⟨sz16 (by decide), fun p hp => ?_⟩
    have e0 : Ex H (upd H p (.lst [])) := Ex.new hp
    have lt := rt.len
    refine ⟨.ref ab, rfl, ab, _, 2, .ref t, rfl, rfl, SqT.of (e0 _ _ hab), rfl, t, txs, rfl, .inr (SqT.of (e0 _ _ ht)), txs.length, rfl, by omega, by omega, ?_⟩
    refine for_range (fun i σ H' => ∃ (as : List Addr) (t2 : Option V), σ = [some (.ref ab), some (.ref p), t2, none, none] ∧ Ex H H' ∧ H' p = some (.lst (as.map V.ref)) ∧ as.length = i ∧ as.Nodup ∧ (∀ x ∈ as, H x = none ∧ x ≠ p ∧ H' x ≠ none) ∧ ∀ (j : Nat) (x : Addr), as[j]? = some x → H' x = some (.lst ((ahd b j).map V.int)))
      ⟨[], none, rfl, e0, upd_same, rfl, List.nodup_nil, (fun _ h => nomatch h), fun j x h => by simp at h⟩ ?_ ?_
    · rintro i σ H' hi ⟨as, t2, rfl, x1, x2, x3, x4, x5, x6⟩
      have hi2 : i < b.tasks.length := by omega
      refine ⟨.ref p, rfl, .inl ⟨rfl, _, SqL.of x2⟩, ?_⟩
      refine ⟨.ref ab, rfl, ab, _, 2, .ref t, rfl, rfl, SqT.of (x1 _ _ hab), rfl, t, txs, rfl, .inr (SqT.of (x1 _ _ ht)), txs.length, rfl, by omega, by omega, ?_⟩
      refine lcR (n := txs.length) (isAhead b i) (fun o => V.int (0 + (o : Int))) (by omega) ?_ ?_
      · intro o H2 ho e2 R R0 hR hR0
        have x12 := x1.trans e2
        refine ⟨rfl, .ref ab, rfl, ab, _, 3, .ref wt, rfl, rfl, SqT.of (x12 _ _ hab), rfl, wt, rfl, ⟨_, SqT.of (x12 _ _ hw)⟩, ?_⟩
        refine lcTD (fun x => decide (x.a = (o : Int)) && decide (x.b = (i : Int))) (SqT.of (x12 _ _ hw)) (RowsAt.tp (Tp.ex x12) rw_) (by have := ok.waits; omega) ?_ ?_
        · intro x v H3 hx htd e3 S S0 hS hS0
          obtain ⟨pt, rfl, hpt⟩ := wait_parts htd
          refine ⟨rfl, .ref pt, rfl, 2, rfl, pt, _, rfl, SqT.of hpt, fun z => ?_, fun p1 hp1 => ?_⟩
          · have z2 := z.2
            rw [show (some (2 : Int)) = some ((2 : Nat) : Int) from rfl, HT.sIx_nat] at z2
            exact absurd z2 (by show ¬ (min 2 3 = 3); decide)
          · rw [cut2]
            have f1 := Ex.new (o := .tup [V.int x.a, V.int x.b]) hp1
            refine ⟨.int (0 + o), rfl, .int (0 + i), rfl, sz16 (by show 2 ≤ 16000000; decide), fun p2 hp2 => ?_⟩
            have f2 := Ex.new (o := .tup [V.int (0 + (o : Int)), V.int (0 + (i : Int))]) hp2
            refine ⟨.tuple [.int x.a, .int x.b], .tuple [.int (0 + o), .int (0 + i)], .tup (SqT.of (f2 _ _ upd_same)) (.cons (.int _) (.cons (.int _) .nil)), .tup (SqT.of upd_same) (.cons (.int _) (.cons (.int _) .nil)), rfl, rfl, _, rfl, ?_⟩
            have ev : PyData.eqv (.tuple [.int x.a, .int x.b]) (.tuple [.int (0 + (o : Int)), .int (0 + (i : Int))]) = (decide (x.a = (o : Int)) && decide (x.b = (i : Int))) := by
              show ((x.a == 0 + (o : Int)) && ((x.b == 0 + (i : Int)) && true)) = _
              rw [Bool.and_true, Int.zero_add, Int.zero_add]
              rfl
            rw [ev]
            exact ite2 (fun e => ⟨_, rfl, hS e _ (f1.trans f2)⟩) (fun e => hS0 (Bool.eq_false_iff.mpr e) _ (f1.trans f2))
        · intro D H3 zs hD e3 hl hz
          refine ⟨sz16 (by decide), fun p3 hp3 => ?_⟩
          have f3 := Ex.new (o := .lst []) hp3
          refine ⟨.list ((b.waits.filter fun x => decide (x.a = (o : Int)) && decide (x.b = (i : Int))).map waitD), .list [], .lst (Evl.ex_l f3 (SqL.of hl)) (TDs.dp (RowsAt.tp (Tp.ex f3) hz)), .lst (SqL.of upd_same) .nil, shaped_waits _, shaped_nil, _, rfl, ?_⟩
          rw [eqv_nil]
          have em : (!((b.waits.filter fun x => decide (x.a = (o : Int)) && decide (x.b = (i : Int))).map waitD).isEmpty) = isAhead b i o := by
            cases hf : (b.waits.filter fun x => decide (x.a = (o : Int)) && decide (x.b = (i : Int))) with
            | nil =>
              refine Eq.symm (Bool.eq_false_iff.mpr fun h => ?_)
              obtain ⟨x, hx, h1, h2⟩ := isAhead_iff.mp h
              have := List.filter_eq_nil_iff.mp hf x hx
              rw [decide_eq_true h1, decide_eq_true h2] at this
              exact this rfl
            | cons x r =>
              have hx : x ∈ b.waits.filter fun x => decide (x.a = (o : Int)) && decide (x.b = (i : Int)) := by rw [hf]; exact List.mem_cons_self
              obtain ⟨h1, h2⟩ := List.mem_filter.mp hx
              rw [Bool.and_eq_true, decide_eq_true_iff, decide_eq_true_iff] at h2
              exact (isAhead_iff.mpr ⟨x, h1, h2.1, h2.2⟩).symm
          rw [em]
          exact ite2 (fun e => ⟨_, rfl, hR e _ (e3.trans f3)⟩) (fun e => hR0 (Bool.eq_false_iff.mpr e) _ (e3.trans f3))
      · intro u H2 hu' e2 hl
        have hl2 : H2 u = some (.lst ((ahd b i).map V.int)) := by
          rw [hl, lt]
          unfold ahd
          rw [List.map_map]
          refine congrArg (fun z => some (HO.lst z)) (List.map_congr_left fun o _ => ?_)
          show V.int (0 + (o : Int)) = V.int (o : Int)
          rw [Int.zero_add]
        have hp3 := e2 _ _ x2
        have hu0 : H u = none := Evl.fresh_back x1 hu'
        have nup : u ≠ p := (ne_of_none x2 hu').symm
        refine ⟨p, as.map V.ref, .ref u, rfl, rfl, hp3, by rw [List.length_map, sizeLine_eq]; omega, ?_⟩
        refine ⟨as ++ [u], _, rfl, (x1.trans e2).mut hp, by rw [upd_same, List.map_append]; rfl, by rw [List.length_append, x3]; rfl, ?_, fun x hx => ?_, fun j x hj => ?_⟩
        · rw [List.nodup_append]
          refine ⟨x4, by simp, fun x hx y hy e => ?_⟩
          rw [List.mem_singleton.mp hy] at e
          subst e
          exact (x5 _ hx).2.2 hu'
        · rcases List.mem_append.mp hx with h | h
          · obtain ⟨y1, y2, y3⟩ := x5 x h
            refine ⟨y1, y2, ?_⟩
            rw [upd_ne y2]
            cases z : H' x with
            | none => exact absurd z y3
            | some o =>
              rw [e2 x o z]
              intro z'
              cases z'
          · rw [List.mem_singleton.mp h]
            refine ⟨hu0, nup, ?_⟩
            rw [upd_ne nup, hl2]
            intro z'
            cases z'
        · rcases Nat.lt_or_ge j as.length with h | h
          · rw [List.getElem?_append_left h] at hj
            have hxp : x ≠ p := (x5 x (List.mem_of_getElem? hj)).2.1
            rw [upd_ne hxp]
            exact e2 x _ (x6 j x hj)
          · rw [List.getElem?_append_right h] at hj
            have hj0 : j - as.length = 0 := by
              rcases Nat.eq_zero_or_pos (j - as.length) with z | z
              · exact z
              · rw [List.getElem?_eq_none (by rw [List.length_singleton]; omega)] at hj
                cases hj
            rw [hj0] at hj
            have : u = x := Option.some.inj hj
            subst this
            have : j = i := by omega
            subst this
            rw [upd_ne nup]
            exact hl2
    · rintro σ H' ⟨as, t2, rfl, x1, x2, x3, x4, x5, x6⟩
      refine ⟨.ref p, rfl, q p as H' ⟨x1, hp, x2, fun x hx => ⟨(x5 x hx).1, (x5 x hx).2.1⟩, x4, ?_, fun j x l hj hl => ?_⟩⟩
      · unfold ahds
        rw [List.length_map, List.length_range]
        omega
      · unfold ahds at hl
        rw [List.getElem?_map] at hl
        have hjn : j < b.tasks.length := by
          rcases Nat.lt_or_ge j as.length with h | h
          · omega
          · rw [List.getElem?_eq_none h] at hj
            cases hj
        rw [List.getElem?_range hjn] at hl
        have : ahd b j = l := Option.some.inj hl
        subst this
        exact x6 j x hj
theorem ok__law_gap (T : Tx K mg) : Cal P w K mg base 1 "_law_gap" ["book", "a", "b"] spGap := by
  refine T.d__law_gap.cal sc__law_gap (fun vs H Q E h => ?_) (fun f cdv A outer s H vs Q E hr h => ?_)
  · obtain ⟨_, _, _, _, _, rfl, _⟩ := h
    rfl
  · obtain ⟨v, b, most, x, y, rfl, hb, ok, q⟩ := h
    refine ⟨_, (pss_cons (ps_set (i := 3) sc__law_gap.nd rfl (.inl rfl) pe_non)
    (pss_cons (ps_for PassesOwn.never rfl (pi_tup (pe_ix ix_tup (pv 0) pe_int (fun _ _ => rfl))) (pg_tup (by rfl) (pgs_cons (pg_name (i := 4) sc__law_gap.nd rfl (.inl rfl)) (pgs_cons (pg_name (i := 5) sc__law_gap.nd rfl (.inl rfl)) (pgs_cons (pg_name (i := 6) sc__law_gap.nd rfl (.inl rfl)) pgs_nil)))) (pss_one (ps_if (PW.pt (pw_and (pt_cmpR op_eq (pv 4) (pv 1) (nomark _)) (pw_and (pt_cmpR op_eq (pv 5) (pv 2) (nomark _)) (pw_and1 (PW.pt (pw_or (pt_cmpR op_isN (pv 3) pe_non (nomark _)) (pw_or1 (pt_cmpR op_gt (pv 6) (pv 3) (nomark _))))))))) (pss_one (ps_set (i := 3) sc__law_gap.nd rfl (.inl rfl) (pv 6))) pss_nil)))
    (pss_one (ps_ret (pv 3))))), ?_⟩
    obtain ⟨ab, m, g, t, wt, fx, rfl, hab, _, _, _, ⟨wxs, hw, rw_⟩, _⟩ := book_parts hb
    refine ⟨.ref ab, rfl, ab, _, 3, .ref wt, rfl, rfl, SqT.of hab, rfl, wt, rfl, ⟨_, SqT.of hw⟩, ?_⟩
    refine for_tup (K := K) (a := wt) (xs := wxs) (fun i σ H' => H' = H ∧ ∃ o t4 t5 t6, σ = [some (.ref ab), some (.int x), some (.int y), some (dueV o), t4, t5, t6] ∧ GapOf (b.waits.take i) x y o) ⟨rfl, none, none, none, none, rfl, fun z hz => by simp at hz⟩ (fun i σ H' _ h => by rw [h.1]; exact SqT.of hw) ?_ ?_
    · rintro i z σ H' hx ⟨rfl, o, t4, t5, t6, rfl, ho⟩
      obtain ⟨wv, hwv, htd⟩ := rw_.get hx
      obtain ⟨pt, rfl, hpt⟩ := wait_parts htd
      refine ⟨pt, _, rfl, SqT.of hpt, rfl, _, _, rfl, _, _, rfl, _, _, rfl, rfl, .int wv.a, rfl, .int x, rfl, rfl, _, rfl, ?_⟩
      rw [take_snoc hwv]
      by_cases e : wv.a = x
      · rw [decide_eq_true (show V.int wv.a = V.int x by rw [e])]
        refine iteT ⟨.int wv.b, rfl, .int y, rfl, rfl, _, rfl, ?_⟩
        by_cases e' : wv.b = y
        · rw [decide_eq_true (show V.int wv.b = V.int y by rw [e'])]
          refine iteT ⟨dueV o, rfl, rfl, _, rfl, ?_⟩
          cases o with
          | none =>
            rw [decide_eq_true (show dueV none = V.non from rfl)]
            refine iteT (iteT ⟨.int wv.gap, rfl, rfl, some wv.gap, _, _, _, rfl, ho.take_ ⟨e, e'⟩ fun g h => nomatch h⟩)
          | some g0 =>
            rw [decide_eq_false (show ¬ dueV (some g0) = V.non from fun h => nomatch h)]
            refine iteF ⟨.int wv.gap, rfl, .int g0, rfl, wv.gap, g0, rfl, rfl, _, rfl, ite2 (fun e3 => ?_) (fun e3 => ?_)⟩
            · exact ⟨.int wv.gap, rfl, rfl, some wv.gap, _, _, _, rfl, ho.take_ ⟨e, e'⟩ fun g h => by cases h; have := of_decide_eq_true e3; omega⟩
            · refine ⟨rfl, some g0, _, _, _, rfl, ho.skip fun _ => ⟨g0, rfl, ?_⟩⟩
              rcases Int.lt_or_le g0 wv.gap with h | h
              · exact absurd (decide_eq_true h) e3
              · exact h
        · rw [decide_eq_false (show ¬ V.int wv.b = V.int y from fun h => e' (V.int.inj h))]
          exact iteF (iteF ⟨rfl, o, _, _, _, rfl, ho.skip fun h => absurd h.2 e'⟩)
      · rw [decide_eq_false (show ¬ V.int wv.a = V.int x from fun h => e (V.int.inj h))]
        exact iteF (iteF ⟨rfl, o, _, _, _, rfl, ho.skip fun h => absurd h.1 e⟩)
    · rintro σ H' ⟨rfl, o, t4, t5, t6, rfl, ho⟩
      rw [rw_.len, List.take_length] at ho
      exact ⟨dueV o, rfl, q o _ ho (Ex.refl _)⟩

end
end Bk04

namespace Bk04
open PySem PySem.Spec PyProof.Rows L2 Bs
open Evl (Ex)
section
variable {P : Program} {w : World} {K : PySem.W.Frag} {mg : Str → Option Value} {base : Heap}
theorem nestAt_of {H : Hp} : ∀ {as : List Addr} {ls : List (List Int)}, as.length = ls.length → (∀ (j : Nat) (x : Addr) (l : List Int), as[j]? = some x → ls[j]? = some l → SqL K H x (l.map V.int)) → NestAt K H (as.map V.ref) ls
  | [], [], _, _ => True.intro
  | [], _ :: _, h, _ => nomatch h
  | _ :: _, [], h, _ => nomatch h
  | x :: as, l :: ls, h, r => ⟨⟨x, rfl, r 0 x l rfl rfl⟩, nestAt_of (Nat.succ.inj h) fun j y m h1 h2 => r (j + 1) y m h1 h2⟩
theorem nest_cut {H : Hp} : ∀ {as : List Addr} {ls : List (List Int)} (a : Nat), as.length = ls.length → (∀ (j : Nat) (x : Addr) (l : List Int), j ≠ a → as[j]? = some x → ls[j]? = some l → SqL K H x (l.map V.int)) →
    NestAt K H ((as.map V.ref).take a ++ (as.map V.ref).drop (a + 1)) (ls.take a ++ ls.drop (a + 1))
  | [], [], 0, _, _ => True.intro
  | [], [], _ + 1, _, _ => True.intro
  | [], _ :: _, _, h, _ => nomatch h
  | _ :: _, [], _, h, _ => nomatch h
  | x :: as, l :: ls, 0, h, r => nestAt_of (K := K) (as := as) (ls := ls) (Nat.succ.inj h) fun j y m h1 h2 => r (j + 1) y m (Nat.succ_ne_zero j) h1 h2
  | x :: as, l :: ls, a + 1, h, r => ⟨⟨x, rfl, r 0 x l (by omega) rfl rfl⟩, nest_cut a (Nat.succ.inj h) fun j y m e h1 h2 => r (j + 1) y m (by omega) h1 h2⟩
theorem few_cut {ls : List (List Int)} (h : Few ls) (a : Nat) : Few (ls.take a ++ ls.drop (a + 1)) := by
  refine ⟨?_, fun l hl => ?_⟩
  · have := h.1
    rw [List.length_append, List.length_take, List.length_drop]
    omega
  · rcases List.mem_append.mp hl with z | z
    · exact h.2 l (List.mem_of_mem_take z)
    · exact h.2 l (List.mem_of_mem_drop z)
theorem cut_lo {xs : List V} {a : Nat} (h : a ≤ xs.length) : cutV xs none (some (a : Int)) = xs.take a := by
  unfold cutV
  rw [HT.sIx_nat, HT.sIx_none, List.drop_zero, Nat.min_eq_left h, Nat.sub_zero]
theorem cut_hi {xs : List V} {a : Nat} (h : a ≤ xs.length) : cutV xs (some (a : Int)) none = xs.drop a := by
  unfold cutV
  rw [HT.sIx_nat, HT.sIx_none, Nat.min_eq_left h]
  exact List.take_of_length_le (by rw [List.length_drop]; exact Nat.le_refl _)
theorem rd_nestN {H : Hp} {σ : L2.St} {a : Addr} {vs : List V} {ls : List (List Int)} {Q : VK} (hs : SqL K H a vs) (h : NestAt K H vs ls) (f : Few ls) (q : Q (.str (nest ls).shown) H) : tNil σ H (fun xs H1 => rReprD K (.ref a :: xs) H1 Q) := rd_nest hs h f q
theorem rd_dueN {H : Hp} {σ : L2.St} {o : Option Int} {Q : VK} (h : ∀ g, o = some g → 0 ≤ g ∧ g ≤ 1000) (q : Q (.str (dueD o).shown) H) : tNil σ H (fun xs H1 => rReprD K (dueV o :: xs) H1 Q) := rd_due h q
theorem rneS {s : Str} {H : Hp} {Q : VK} (q : Q (.bl false) H) : rNe (.str s) (.str s) H Q := ⟨by rfl, by
  rw [decide_eq_true rfl]
  exact q⟩
theorem nodup_ne {l : List Addr} (h : l.Nodup) {i j : Nat} {x y : Addr} (hi : l[i]? = some x) (hj : l[j]? = some y) (ne : i ≠ j) : x ≠ y := by
  have p := List.pairwise_iff_getElem.mp h
  obtain ⟨i1, i2⟩ := List.getElem?_eq_some_iff.mp hi
  obtain ⟨j1, j2⟩ := List.getElem?_eq_some_iff.mp hj
  subst i2 j2
  rcases Nat.lt_or_gt_of_ne ne with k | k
  · exact p i j i1 j1 k
  · exact (p j i j1 i1 k).symm
theorem rModI {i j k : Int} {H : Hp} {Q : VK} (hj : 0 < j) (e : i % j = k) (q : Q (.int k) H) : rI (fun _ j => 0 < j) (fun i j => .int (i % j)) (.int i) (.int j) H Q := ⟨i, j, rfl, rfl, hj, by
  show Q (.int (i % j)) H
  rw [e]
  exact q⟩

def spLaw (K : PySem.W.Frag) : Sp := fun vs H Q _ => ∃ (a : Addr) (ns : List Int), vs = [.ref a] ∧ SqL K H a (ns.map V.int) ∧ ns.length ≤ 63 ∧ ∀ H', Q (.bl true) H'
theorem ok_law (T : Tx K mg) {f : Addr} {fd : FuncData} (F : Fun K "law" "law" s_law f fd) : RunAt P w K mg base callerA f fd ["script"] (spLaw K) := by
  have G__law_book : Cal P w K mg base 4 "_law_book" ["script", "most"] (spBook K) := ok__law_book T
  have G__law_ahead : Cal P w K mg base 1 "_law_ahead" ["book"] spAhead := ok__law_ahead T
  have G_ahead_of : Cal P w K mg base 1 "ahead_of" ["book"] spAhead := ok_ahead_of T
  have G_gap_of : Cal P w K mg base 1 "gap_of" ["book", "a", "b"] spGap := ok_gap_of T
  have G__law_gap : Cal P w K mg base 1 "_law_gap" ["book", "a", "b"] spGap := ok__law_gap T
  refine run_at (k := 4) F sc_law (fun vs H Q E h => ?_) ⟨rfl, by decide, by decide⟩ (fun cdv outer s H vs Q E hr h => ?_)
  · obtain ⟨a, ns, rfl, _⟩ := h
    rfl
  · obtain ⟨a, ns, rfl, hS, hl, q⟩ := h
    refine ⟨_, (pss_cons (ps_set (i := 1) sc_law.nd rfl (.inl rfl) (pe_cal G__law_book hr (by rfl) (pa_cons (pv 0) (pa_cons pe_int pa_nil))))
    (pss_cons (ps_set (i := 2) sc_law.nd rfl (.inl rfl) (pe_cal G__law_ahead (hr.mono (by decide)) (by rfl) (pa_cons (pv 1) pa_nil)))
    (pss_cons (ps_for PassesOwn.never rfl (pi_range1 (by rfl) T.b_range (pa_cons pe_int pa_nil)) (pg_name (i := 3) sc_law.nd rfl (.inl rfl)) (pss_cons (ps_set (i := 4) sc_law.nd rfl (.inl rfl) (pe_cal G_ahead_of (hr.mono (by decide)) (by rfl) (pa_cons (pv 1) pa_nil)))
    (pss_cons (ps_if (PW.pt (pw_or (pt_not (pt_val (pe_callB call_isi (by rfl) T.b_isinstance (by decide +kernel) (pa_cons (pv 4) (pa_cons (pe_bltn (v := .ty "list") rfl T.b_list (by decide +kernel) rfl) pa_nil))))) (pw_or1 (pt_cmpR op_ne (pe_callB (call_reprD (by rfl) hr.units) (by rfl) T.b_repr (by decide +kernel) (pa_cons (pv 4) pa_nil)) (pe_callB (call_reprD (by rfl) hr.units) (by rfl) T.b_repr (by decide +kernel) (pa_cons (pv 2) pa_nil)) (nomark _))))) (pss_one (ps_ret pe_bl)) pss_nil)
    (pss_cons (ps_set (i := 5) sc_law.nd rfl (.inl rfl) (pe_op op_mod (pv 3) (pe_callB call_len_seq (by rfl) T.b_len (by decide +kernel) (pa_cons (pv 4) pa_nil))))
    (pss_cons (ps_expr (pe_bm PySem.F.plainAttrs_list PySem.F.slot_list_append PySem.F.type_list_append mt_append (pe_ix ix_list (pv 4) (pv 5) (fun _ _ => rfl)) (pa_cons pe_int pa_nil)))
    (pss_cons (ps_if (pt_cmpR op_ne (pe_callB (call_reprD (by rfl) hr.units) (by rfl) T.b_repr (by decide +kernel) (pa_cons (pe_op op_cat (pe_slice sl_list (pv 4) po_none (po_some (pv 5))) (pe_slice sl_list (pv 4) (po_some (pe_op op_add (pv 5) pe_int)) po_none)) pa_nil)) (pe_callB (call_reprD (by rfl) hr.units) (by rfl) T.b_repr (by decide +kernel) (pa_cons (pe_op op_cat (pe_slice sl_list (pv 2) po_none (po_some (pv 5))) (pe_slice sl_list (pv 2) (po_some (pe_op op_add (pv 5) pe_int)) po_none)) pa_nil)) (nomark _)) (pss_one (ps_ret pe_bl)) pss_nil)
    (pss_one (ps_expr (pe_bm PySem.F.plainAttrs_list PySem.F.slot_list_append PySem.F.type_list_append mt_append (pv 4) (pa_cons (pe_lst pa_nil) pa_nil))))))))))
    (pss_cons (ps_for PassesOwn.never rfl (pi_range1 (by rfl) T.b_range (pa_cons (pe_callB call_len_seq (by rfl) T.b_len (by decide +kernel) (pa_cons (pe_ix ix_tup (pv 1) pe_int (fun _ _ => rfl)) pa_nil)) pa_nil)) (pg_name (i := 6) sc_law.nd rfl (.inl rfl)) (pss_one (ps_for PassesOwn.never rfl (pi_range1 (by rfl) T.b_range (pa_cons (pe_callB call_len_seq (by rfl) T.b_len (by decide +kernel) (pa_cons (pe_ix ix_tup (pv 1) pe_int (fun _ _ => rfl)) pa_nil)) pa_nil)) (pg_name (i := 7) sc_law.nd rfl (.inl rfl)) (pss_one (ps_if (PW.pt (pw_and (pt_cmpR op_ne (pv 6) (pv 7) (nomark _)) (pw_and1 (pt_cmpR op_ne (pe_callB (call_reprD (by rfl) hr.units) (by rfl) T.b_repr (by decide +kernel) (pa_cons (pe_cal G_gap_of (hr.mono (by decide)) (by rfl) (pa_cons (pv 1) (pa_cons (pv 6) (pa_cons (pv 7) pa_nil)))) pa_nil)) (pe_callB (call_reprD (by rfl) hr.units) (by rfl) T.b_repr (by decide +kernel) (pa_cons (pe_cal G__law_gap (hr.mono (by decide)) (by rfl) (pa_cons (pv 1) (pa_cons (pv 6) (pa_cons (pv 7) pa_nil)))) pa_nil)) (nomark _))))) (pss_one (ps_ret pe_bl)) pss_nil)))))
    (pss_one (ps_ret pe_bl)))))), ?_⟩
    refine ⟨.ref a, rfl, a, ns, 30, rfl, hS, hl, by decide, by decide, fun v b H1 ok e1 hb => ?_⟩
    have fw := ok.few
    obtain ⟨ab, m_, g_, t_, wt, fx, rfl, hab, _, _, ⟨txs, ht, rt⟩, _, _⟩ := book_parts hb
    refine ⟨.ref ab, rfl, .ref ab, b, 30, rfl, hb, ok, by decide, fun pd ds H2 nd => ?_⟩
    have few := ahds_few ok (by decide)
    have hpd := nd.at_
    have hb2 := TD.tp (Tp.ex nd.ex) hb
    have lds : ds.length = b.tasks.length := by rw [nd.len]; unfold ahds; rw [List.length_map, List.length_range]
    have lt := rt.len
    refine ⟨2, rfl, by decide, by decide, for_range (fun i σ H' => Ex H2 H' ∧ ∃ t3 t4 t5, σ = [some (.ref a), some (.ref ab), some (.ref pd), t3, t4, t5, none, none]) ⟨Ex.refl _, none, none, none, rfl⟩ ?_ ?_⟩
    · rintro i σ H' hi ⟨eH, t3, t4, t5, rfl⟩
      refine ⟨.ref ab, rfl, .ref ab, b, 30, rfl, TD.tp (Tp.ex eH) hb2, ok, by decide, fun pf fs H3 nf => ?_⟩
      have E3 := eH.trans nf.ex
      have lfs : fs.length = b.tasks.length := by rw [nf.len]; unfold ahds; rw [List.length_map, List.length_range]
      refine ⟨.ref pf, rfl, .ref pf, .ty "list", _, _, _, rfl, .ty _, .base (.lst nf.at_), kit_ty (r := true) (by decide +kernel), _, rfl, ?_⟩
      refine ⟨.ref pf, rfl, rd_nestN (SqL.of nf.at_) (nestAt_of nf.len fun j x l h1 h2 => SqL.of (nf.row j x l h1 h2)) few ?_⟩
      refine ⟨.ref pd, rfl, rd_nestN (SqL.of (E3 _ _ hpd)) (nestAt_of nd.len fun j x l h1 h2 => SqL.of (E3 _ _ (nd.row j x l h1 h2))) few ?_⟩
      refine rneS ⟨false, rfl, iteF ?_⟩
      have mlen : (fs.map V.ref).length = fs.length := List.length_map _
      have dlen : (ds.map V.ref).length = ds.length := List.length_map _
      have fpos : 0 < fs.length := by omega
      obtain ⟨k, hk, ek⟩ : ∃ k : Nat, k < fs.length ∧ (0 + (i : Int)) % ((fs.map V.ref).length : Int) = (k : Int) := ⟨i % fs.length, Nat.mod_lt _ fpos, by rw [mlen, Int.zero_add]; rfl⟩
      refine ⟨.int (0 + i), rfl, .ref pf, rfl, pf, _, rfl, .inl (SqL.of nf.at_), rModI (by rw [mlen]; omega) ek ?_⟩
      obtain ⟨x0, hx0⟩ : ∃ x0, fs[k]? = some x0 := ⟨_, List.getElem?_eq_getElem hk⟩
      obtain ⟨l0, hl0⟩ : ∃ l0, (ahds b)[k]? = some l0 := ⟨_, List.getElem?_eq_getElem (by rw [← nf.len]; exact hk)⟩
      have hx3 := nf.row k x0 l0 hx0 hl0
      have fx0 := nf.frees x0 (List.mem_of_getElem? hx0)
      have l0s := (few.2 l0 (List.mem_of_getElem? hl0)).1
      refine ⟨.ref pf, rfl, .int k, rfl, pf, _, k, .ref x0, rfl, rfl, SqL.of nf.at_, atI_nat (by rw [List.getElem?_map, hx0]; rfl), .inl ⟨rfl, _, SqL.of hx3⟩, x0, _, .int 99, rfl, rfl, hx3, by rw [List.length_map, sizeLine_eq]; omega, ?_⟩
      have x4 : Ex H' (upd H3 x0 (.lst (l0.map V.int ++ [V.int 99]))) := nf.ex.mut fx0.1
      have hpf4 : upd H3 x0 (.lst (l0.map V.int ++ [V.int 99])) pf = some (.lst (fs.map V.ref)) := by
        rw [upd_ne fx0.2.symm]
        exact nf.at_
      have rows4 : ∀ (j : Nat) (x : Addr) (l : List Int), j ≠ k → fs[j]? = some x → (ahds b)[j]? = some l → upd H3 x0 (.lst (l0.map V.int ++ [V.int 99])) x = some (.lst (l.map V.int)) := fun j x l ne h1 h2 => by
        rw [upd_ne (nodup_ne nf.nd h1 hx0 ne)]
        exact nf.row j x l h1 h2
      generalize upd H3 x0 (.lst (l0.map V.int ++ [V.int 99])) = H4 at x4 hpf4 rows4 ⊢
      have E4 := eH.trans x4
      -- found without its row
      refine ⟨.ref pf, rfl, .int k, rfl, k, rfl, pf, _, rfl, SqL.of hpf4, fun p1 hp1 => ?_⟩
      rw [cut_lo (by rw [mlen]; omega)]
      have n1 := Ex.new (o := .lst ((fs.map V.ref).take k)) hp1
      refine ⟨.ref pf, rfl, .int k, rfl, k, 1, rfl, rfl, k + 1, rfl, pf, _, rfl, SqL.of (n1 _ _ hpf4), fun p2 hp2 => ?_⟩
      rw [show ((k : Int) + 1) = ((k + 1 : Nat) : Int) from rfl, cut_hi (by rw [mlen]; omega)]
      have n2 := Ex.new (o := .lst ((fs.map V.ref).drop (k + 1))) hp2
      refine ⟨p1, p2, _, _, rfl, rfl, n2 _ _ upd_same, upd_same, by rw [List.length_take, List.length_drop, sizeLine_eq]; omega, fun p3 hp3 => ?_⟩
      have n3 := Ex.new (o := .lst ((fs.map V.ref).take k ++ (fs.map V.ref).drop (k + 1))) hp3
      have N3 := n1.trans (n2.trans n3)
      refine rd_nestN (SqL.of upd_same) (nest_cut k nf.len fun j x l ne h1 h2 => SqL.of (N3 _ _ (rows4 j x l ne h1 h2))) (few_cut few k) ?_
      -- due without its row
      have hpd7 := (E4.trans N3) _ _ hpd
      have rows7 : ∀ (j : Nat) (x : Addr) (l : List Int), ds[j]? = some x → (ahds b)[j]? = some l → _ = some (HO.lst (l.map V.int)) := fun j x l h1 h2 => (E4.trans N3) _ _ (nd.row j x l h1 h2)
      refine ⟨.ref pd, rfl, .int k, rfl, k, rfl, pd, _, rfl, SqL.of hpd7, fun p4 hp4 => ?_⟩
      rw [cut_lo (by rw [dlen]; omega)]
      have n4 := Ex.new (o := .lst ((ds.map V.ref).take k)) hp4
      refine ⟨.ref pd, rfl, .int k, rfl, k, 1, rfl, rfl, k + 1, rfl, pd, _, rfl, SqL.of (n4 _ _ hpd7), fun p5 hp5 => ?_⟩
      rw [show ((k : Int) + 1) = ((k + 1 : Nat) : Int) from rfl, cut_hi (by rw [dlen]; omega)]
      have n5 := Ex.new (o := .lst ((ds.map V.ref).drop (k + 1))) hp5
      refine ⟨p4, p5, _, _, rfl, rfl, n5 _ _ upd_same, upd_same, by rw [List.length_take, List.length_drop, sizeLine_eq]; omega, fun p6 hp6 => ?_⟩
      have n6 := Ex.new (o := .lst ((ds.map V.ref).take k ++ (ds.map V.ref).drop (k + 1))) hp6
      have N6 := n4.trans (n5.trans n6)
      refine rd_nestN (SqL.of upd_same) (nest_cut k nd.len fun j x l ne h1 h2 => SqL.of (N6 _ _ (rows7 j x l h1 h2))) (few_cut few k) ?_
      refine rneS ⟨false, rfl, iteF ?_⟩
      have N := N3.trans N6
      refine ⟨.ref pf, rfl, .inl ⟨rfl, _, SqL.of (N _ _ hpf4)⟩, sz16 (by decide), fun p7 hp7 => ?_⟩
      have N7 := N.trans (Ex.new (o := .lst []) hp7)
      refine ⟨pf, _, .ref p7, rfl, rfl, N7 _ _ hpf4, by rw [mlen, sizeLine_eq]; omega, ?_⟩
      exact ⟨eH.trans ((x4.trans N7).mut nf.free), _, _, _, rfl⟩
    · rintro σ H' ⟨eH, t3, t4, t5, rfl⟩
      have hbL := TD.tp (Tp.ex eH) hb2
      have e12 := nd.ex.trans eH
      refine ⟨.ref ab, rfl, ab, _, 2, .ref t_, rfl, rfl, SqT.of (e12 _ _ hab), rfl, t_, txs, rfl, .inr (SqT.of (e12 _ _ ht)), txs.length, rfl, by omega, by omega, ?_⟩
      refine for_range (fun i σ H3 => Ex H' H3 ∧ ∃ t6 t7, σ = [some (.ref a), some (.ref ab), some (.ref pd), t3, t4, t5, t6, t7]) ⟨Ex.refl _, none, none, rfl⟩ ?_ ?_
      · rintro i σ H3 hi ⟨e3, t6, t7, rfl⟩
        have e13 := e12.trans e3
        refine ⟨.ref ab, rfl, ab, _, 2, .ref t_, rfl, rfl, SqT.of (e13 _ _ hab), rfl, t_, txs, rfl, .inr (SqT.of (e13 _ _ ht)), txs.length, rfl, by omega, by omega, ?_⟩
        refine for_range (fun j σ H4 => Ex H' H4 ∧ ∃ t7, σ = [some (.ref a), some (.ref ab), some (.ref pd), t3, t4, t5, some (.int (0 + (i : Int))), t7]) ⟨e3, _, rfl⟩ ?_ ?_
        · rintro j σ H4 hj ⟨e4, t7, rfl⟩
          refine ⟨.int (0 + i), rfl, .int (0 + j), rfl, rfl, _, rfl, ?_⟩
          by_cases e : V.int (0 + (i : Int)) = V.int (0 + (j : Int))
          · rw [decide_eq_true e]
            exact iteF (iteF ⟨e4, _, rfl⟩)
          · rw [decide_eq_false e]
            refine iteT ?_
            have bd : ∀ o, GapIs b (0 + (i : Int)) (0 + (j : Int)) o → ∀ g, o = some g → 0 ≤ g ∧ g ≤ 1000 := fun o ho g eg => by
              subst eg
              obtain ⟨⟨z, hz, _, h2⟩, _⟩ := ho
              have := ok.wait z hz
              omega
            refine ⟨.ref ab, rfl, .int (0 + i), rfl, .int (0 + j), rfl, .ref ab, b, 30, 0 + i, 0 + j, rfl, TD.tp (Tp.ex e4) hbL, ok, fun o H5 ho e5 => ?_⟩
            refine rd_dueN (bd o ho) ?_
            refine ⟨.ref ab, rfl, .int (0 + i), rfl, .int (0 + j), rfl, .ref ab, b, 30, 0 + i, 0 + j, rfl, TD.tp (Tp.ex (e4.trans e5)) hbL, ok, fun o' H6 ho' e6 => ?_⟩
            refine rd_dueN (bd o' ho') ?_
            rw [GapOf.same ho ho']
            exact rneS ⟨false, rfl, iteF ⟨(e4.trans e5).trans e6, _, rfl⟩⟩
        · rintro σ H4 ⟨e4, t7, rfl⟩
          exact ⟨e4, _, _, rfl⟩
      · rintro σ H3 ⟨e3, t6, t7, rfl⟩
        exact q _

theorem law_of (T : Tx K mg) {fa : Addr} (hfa : mg "law" = some (.ref fa)) :
    ∃ fd : FuncData, (∀ (s : Shared) (v : Value), BindsTo s fd ⟨[v], []⟩ [("script", v)]) ∧ ∀ base : Heap, K.In base → base.Ns mainGlobals mg → RunAt P w K mg base callerA fa fd ["script"] (spLaw K) :=
  law_endG T.d_law hfa fun _ _ _ F => ok_law T F
end
theorem tx_mk {K : PySem.W.Frag} {h : Heap} {mg : Str → Option Value} (X : K.In h) (G : h.Ns mainGlobals mg)
    {t1 t2 : Tok}
    {f12 f13 f14 f15 f16 f17 f18 f19 f20 f21 f22 f23 : Addr} {od12 an12 od13 an13 od14 an14 od15 an15 od16 an16 od17 an17 od18 an18 od19 an19 od20 an20 od21 an21 od22 an22 od23 an23 : Option Addr} {sl12 sl13 sl14 sl15 sl16 sl17 sl18 sl19 sl20 sl21 sl22 sl23 : Array (Option Value)} {oc12 kV12 dc12 pm12 cd12 ct12 oc13 kV13 dc13 pm13 cd13 ct13 oc14 kV14 dc14 pm14 cd14 ct14 oc15 kV15 dc15 pm15 cd15 ct15 oc16 kV16 dc16 pm16 cd16 ct16 oc17 kV17 dc17 pm17 cd17 ct17 oc18 kV18 dc18 pm18 cd18 ct18 oc19 kV19 dc19 pm19 cd19 ct19 oc20 kV20 dc20 pm20 cd20 ct20 oc21 kV21 dc21 pm21 cd21 ct21 oc22 kV22 dc22 pm22 cd22 ct22 oc23 kV23 dc23 pm23 cd23 ct23 : Value}
    (e1 : PySem.W.nsIn K mainGlobals "TASKS" = some (some (.int 2 t1)))
    (e2 : PySem.W.nsIn K mainGlobals "WAITS" = some (some (.int 3 t2)))
    (e3 : PySem.W.nsIn K mainGlobals "range" = some none)
    (e4 : PySem.W.nsIn K mainGlobals "len" = some none)
    (e5 : PySem.W.nsIn K mainGlobals "sorted" = some none)
    (e6 : PySem.W.nsIn K mainGlobals "max" = some none)
    (e7 : PySem.W.nsIn K mainGlobals "tuple" = some none)
    (e8 : PySem.W.nsIn K mainGlobals "min" = some none)
    (e9 : PySem.W.nsIn K mainGlobals "repr" = some none)
    (e10 : PySem.W.nsIn K mainGlobals "isinstance" = some none)
    (e11 : PySem.W.nsIn K mainGlobals "list" = some none)
    (a12 : PySem.W.nsIn K mainGlobals "ahead_of" = some (some (.ref f12)))
    (l12 : K.lookup f12 = some ⟨oc12, od12, .func (PySem.W.fnOf "ahead_of" "ahead_of" (defArgs s_ahead_of) (defBody s_ahead_of) (defScope s_ahead_of) .none kV12 dc12 pm12 an12 cd12 ct12), sl12⟩)
    (c12 : PySem.W.codeIn K cd12 "ahead_of" = true)
    (k12 : PySem.W.keepIn K (.ref f12) = true)
    (a13 : PySem.W.nsIn K mainGlobals "gap_of" = some (some (.ref f13)))
    (l13 : K.lookup f13 = some ⟨oc13, od13, .func (PySem.W.fnOf "gap_of" "gap_of" (defArgs s_gap_of) (defBody s_gap_of) (defScope s_gap_of) .none kV13 dc13 pm13 an13 cd13 ct13), sl13⟩)
    (c13 : PySem.W.codeIn K cd13 "gap_of" = true)
    (k13 : PySem.W.keepIn K (.ref f13) = true)
    (a14 : PySem.W.nsIn K mainGlobals "_law_mixed" = some (some (.ref f14)))
    (l14 : K.lookup f14 = some ⟨oc14, od14, .func (PySem.W.fnOf "_law_mixed" "_law_mixed" (defArgs s__law_mixed) (defBody s__law_mixed) (defScope s__law_mixed) .none kV14 dc14 pm14 an14 cd14 ct14), sl14⟩)
    (c14 : PySem.W.codeIn K cd14 "_law_mixed" = true)
    (k14 : PySem.W.keepIn K (.ref f14) = true)
    (a15 : PySem.W.nsIn K mainGlobals "_law_draw" = some (some (.ref f15)))
    (l15 : K.lookup f15 = some ⟨oc15, od15, .func (PySem.W.fnOf "_law_draw" "_law_draw" (defArgs s__law_draw) (defBody s__law_draw) (defScope s__law_draw) .none kV15 dc15 pm15 an15 cd15 ct15), sl15⟩)
    (c15 : PySem.W.codeIn K cd15 "_law_draw" = true)
    (k15 : PySem.W.keepIn K (.ref f15) = true)
    (a16 : PySem.W.nsIn K mainGlobals "_law_next" = some (some (.ref f16)))
    (l16 : K.lookup f16 = some ⟨oc16, od16, .func (PySem.W.fnOf "_law_next" "_law_next" (defArgs s__law_next) (defBody s__law_next) (defScope s__law_next) .none kV16 dc16 pm16 an16 cd16 ct16), sl16⟩)
    (c16 : PySem.W.codeIn K cd16 "_law_next" = true)
    (k16 : PySem.W.keepIn K (.ref f16) = true)
    (a17 : PySem.W.nsIn K mainGlobals "_law_some" = some (some (.ref f17)))
    (l17 : K.lookup f17 = some ⟨oc17, od17, .func (PySem.W.fnOf "_law_some" "_law_some" (defArgs s__law_some) (defBody s__law_some) (defScope s__law_some) .none kV17 dc17 pm17 an17 cd17 ct17), sl17⟩)
    (c17 : PySem.W.codeIn K cd17 "_law_some" = true)
    (k17 : PySem.W.keepIn K (.ref f17) = true)
    (a18 : PySem.W.nsIn K mainGlobals "_law_task" = some (some (.ref f18)))
    (l18 : K.lookup f18 = some ⟨oc18, od18, .func (PySem.W.fnOf "_law_task" "_law_task" (defArgs s__law_task) (defBody s__law_task) (defScope s__law_task) .none kV18 dc18 pm18 an18 cd18 ct18), sl18⟩)
    (c18 : PySem.W.codeIn K cd18 "_law_task" = true)
    (k18 : PySem.W.keepIn K (.ref f18) = true)
    (a19 : PySem.W.nsIn K mainGlobals "_law_waits" = some (some (.ref f19)))
    (l19 : K.lookup f19 = some ⟨oc19, od19, .func (PySem.W.fnOf "_law_waits" "_law_waits" (defArgs s__law_waits) (defBody s__law_waits) (defScope s__law_waits) .none kV19 dc19 pm19 an19 cd19 ct19), sl19⟩)
    (c19 : PySem.W.codeIn K cd19 "_law_waits" = true)
    (k19 : PySem.W.keepIn K (.ref f19) = true)
    (a20 : PySem.W.nsIn K mainGlobals "_law_book" = some (some (.ref f20)))
    (l20 : K.lookup f20 = some ⟨oc20, od20, .func (PySem.W.fnOf "_law_book" "_law_book" (defArgs s__law_book) (defBody s__law_book) (defScope s__law_book) .none kV20 dc20 pm20 an20 cd20 ct20), sl20⟩)
    (c20 : PySem.W.codeIn K cd20 "_law_book" = true)
    (k20 : PySem.W.keepIn K (.ref f20) = true)
    (a21 : PySem.W.nsIn K mainGlobals "_law_ahead" = some (some (.ref f21)))
    (l21 : K.lookup f21 = some ⟨oc21, od21, .func (PySem.W.fnOf "_law_ahead" "_law_ahead" (defArgs s__law_ahead) (defBody s__law_ahead) (defScope s__law_ahead) .none kV21 dc21 pm21 an21 cd21 ct21), sl21⟩)
    (c21 : PySem.W.codeIn K cd21 "_law_ahead" = true)
    (k21 : PySem.W.keepIn K (.ref f21) = true)
    (a22 : PySem.W.nsIn K mainGlobals "_law_gap" = some (some (.ref f22)))
    (l22 : K.lookup f22 = some ⟨oc22, od22, .func (PySem.W.fnOf "_law_gap" "_law_gap" (defArgs s__law_gap) (defBody s__law_gap) (defScope s__law_gap) .none kV22 dc22 pm22 an22 cd22 ct22), sl22⟩)
    (c22 : PySem.W.codeIn K cd22 "_law_gap" = true)
    (k22 : PySem.W.keepIn K (.ref f22) = true)
    (a23 : PySem.W.nsIn K mainGlobals "law" = some (some (.ref f23)))
    (l23 : K.lookup f23 = some ⟨oc23, od23, .func (PySem.W.fnOf "law" "law" (defArgs s_law) (defBody s_law) (defScope s_law) .none kV23 dc23 pm23 an23 cd23 ct23), sl23⟩)
    (c23 : PySem.W.codeIn K cd23 "law" = true)
    (k23 : PySem.W.keepIn K (.ref f23) = true)
    : Tx K mg where
  c_TASKS := ⟨_, PySem.W.mg_of X G e1, _, rfl⟩
  c_WAITS := ⟨_, PySem.W.mg_of X G e2, _, rfl⟩
  b_range := PySem.W.mg_none_of X G e3
  b_len := PySem.W.mg_none_of X G e4
  b_sorted := PySem.W.mg_none_of X G e5
  b_max := PySem.W.mg_none_of X G e6
  b_tuple := PySem.W.mg_none_of X G e7
  b_min := PySem.W.mg_none_of X G e8
  b_repr := PySem.W.mg_none_of X G e9
  b_isinstance := PySem.W.mg_none_of X G e10
  b_list := PySem.W.mg_none_of X G e11
  d_ahead_of := dfn_mk X G a12 l12 c12 k12 fun _ _ _ _ _ _ us hl => match us, hl with | [_], _ => rfl
  d_gap_of := dfn_mk X G a13 l13 c13 k13 fun _ _ _ _ _ _ us hl => match us, hl with | [_, _, _], _ => rfl
  d__law_mixed := dfn_mk X G a14 l14 c14 k14 fun _ _ _ _ _ _ us hl => match us, hl with | [_, _], _ => rfl
  d__law_draw := dfn_mk X G a15 l15 c15 k15 fun _ _ _ _ _ _ us hl => match us, hl with | [_, _], _ => rfl
  d__law_next := dfn_mk X G a16 l16 c16 k16 fun _ _ _ _ _ _ us hl => match us, hl with | [_, _], _ => rfl
  d__law_some := dfn_mk X G a17 l17 c17 k17 fun _ _ _ _ _ _ us hl => match us, hl with | [_, _], _ => rfl
  d__law_task := dfn_mk X G a18 l18 c18 k18 fun _ _ _ _ _ _ us hl => match us, hl with | [_, _, _, _], _ => rfl
  d__law_waits := dfn_mk X G a19 l19 c19 k19 fun _ _ _ _ _ _ us hl => match us, hl with | [_, _, _], _ => rfl
  d__law_book := dfn_mk X G a20 l20 c20 k20 fun _ _ _ _ _ _ us hl => match us, hl with | [_, _], _ => rfl
  d__law_ahead := dfn_mk X G a21 l21 c21 k21 fun _ _ _ _ _ _ us hl => match us, hl with | [_], _ => rfl
  d__law_gap := dfn_mk X G a22 l22 c22 k22 fun _ _ _ _ _ _ us hl => match us, hl with | [_, _, _], _ => rfl
  d_law := dfn_mk X G a23 l23 c23 k23 fun _ _ _ _ _ _ us hl => match us, hl with | [_], _ => rfl
end Bk04
open PySem PySem.W PyProof.Rows
set_option maxHeartbeats 0 in
theorem PySem.Challenge.cw_boundsmith_k04_what_goes_ahead_holds : PySem.Challenge.rw_boundsmith_k04_what_goes_ahead.Holds := by
  w_on; o_law; k_head; (case hw => w_witness2)
  k_fill
  refine Bs.walk_ofG (l := PySem.Challenge.rw_boundsmith_k04_what_goes_ahead) (n := 63) (x := "script") (sp := fun w => Bk04.spLaw _) rfl (by decide) rfl (fun w h Y => PySem.W.kIn_of Y) ?F (fun _ _ a ns hl _ hS => ⟨a, ns, rfl, hS, hl, fun _ => rfl⟩)
  case F =>
    intro w mg fa h KX G hmg
    refine Bk04.law_of (P := _) ?_ hmg
    refine' Bk04.tx_mk KX G ?e1 ?e2 ?e3 ?e4 ?e5 ?e6 ?e7 ?e8 ?e9 ?e10 ?e11 ?a12 ?l12 ?c12 ?k12 ?a13 ?l13 ?c13 ?k13 ?a14 ?l14 ?c14 ?k14 ?a15 ?l15 ?c15 ?k15 ?a16 ?l16 ?c16 ?k16 ?a17 ?l17 ?c17 ?k17 ?a18 ?l18 ?c18 ?k18 ?a19 ?l19 ?c19 ?k19 ?a20 ?l20 ?c20 ?k20 ?a21 ?l21 ?c21 ?k21 ?a22 ?l22 ?c22 ?k22 ?a23 ?l23 ?c23 ?k23
    (case e1 => k_is); (case e2 => k_is); (case e3 => k_is); (case e4 => k_is); (case e5 => k_is); (case e6 => k_is); (case e7 => k_is); (case e8 => k_is); (case e9 => k_is); (case e10 => k_is); (case e11 => k_is); (case a12 => k_is); (case l12 => k_is); (case c12 => k_is); (case k12 => k_is); (case a13 => k_is); (case l13 => k_is); (case c13 => k_is); (case k13 => k_is); (case a14 => k_is); (case l14 => k_is); (case c14 => k_is); (case k14 => k_is); (case a15 => k_is); (case l15 => k_is); (case c15 => k_is); (case k15 => k_is); (case a16 => k_is); (case l16 => k_is); (case c16 => k_is); (case k16 => k_is); (case a17 => k_is); (case l17 => k_is); (case c17 => k_is); (case k17 => k_is); (case a18 => k_is); (case l18 => k_is); (case c18 => k_is); (case k18 => k_is); (case a19 => k_is); (case l19 => k_is); (case c19 => k_is); (case k19 => k_is); (case a20 => k_is); (case l20 => k_is); (case c20 => k_is); (case k20 => k_is); (case a21 => k_is); (case l21 => k_is); (case c21 => k_is); (case k21 => k_is); (case a22 => k_is); (case l22 => k_is); (case c22 => k_is); (case k22 => k_is); (case a23 => k_is); (case l23 => k_is); (case c23 => k_is); (case k23 => k_is)

