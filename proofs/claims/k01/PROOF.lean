import PyProof.Rows.All
import Wide.All
import OpenK.AllK
import Wide.FinOn
import PySem.Challenge.RW_boundsmith_k01_names_and_numbers
import HandS.ForMost
import HandS.IsInst
import HandS.Wide
import HandS.WideBits
import HandS.Evl
import HandS.Replace
import HandS.Codes
set_option Elab.async false
set_option linter.all false
set_option maxRecDepth 100000
/-! words shared by the proofs of one program's laws -/
namespace Bs
open PySem PySem.Spec PyProof.Rows L2
open Evl (Ex)

/-! ### a def that may be called: its name, its slots' names, its promise -/
structure Cal (P : Program) (w : World) (K : PySem.W.Frag) (mg : Str → Option Value) (base : Heap) (k : Nat) (x : Str) (ps : List Str) (sp : Sp) : Prop where
  ex : ∃ (f : Addr) (fd : FuncData), mg x = some (.ref f) ∧ PySem.W.keepIn K (.ref f) = true ∧ Binds K fd ps [] ∧ FnOk P w K mg base CX0 k f fd ps sp
theorem Cal.mono {P : Program} {w : World} {K : PySem.W.Frag} {mg : Str → Option Value} {base : Heap} {j k : Nat} {x : Str} {ps : List Str} {sp : Sp} (G : Cal P w K mg base j x ps sp) (h : j ≤ k) : Cal P w K mg base k x ps sp := by
  obtain ⟨f, fd, a, b, c, F⟩ := G.ex
  exact ⟨f, fd, a, b, c, F.mono h⟩
theorem pe_cal {X : Cx} {k : Nat} {x : Str} {ps : List Str} {sp : Sp} {p pos : Pos} {e : Expr} {es : List Expr} {t : TA} (G : Cal X.prog X.w X.K X.mg X.base k x ps sp) (hr : Room k X.A) (hg : Gl X x)
    (ha : PA X (e :: es) t) (hdb : (x == ("__debug__" : Str)) = false := by decide) (he : starEach (e :: es) X.env = (false, eval e X.env) :: starEach es X.env := by rfl) (hpl : (backTo pos (starEach es X.env)).any (·.1) = false := by rfl) :
    PE X (.Call (.Name x p) (e :: es) [] pos) (tCall sp [] E0 t) := by
  obtain ⟨f, fd, hm, hk, hb, F⟩ := G.ex
  exact pe_call F hr hg hm hk hb .nil pass0 ha hdb he hpl
/-- what the top holds of a def -/
structure Dfn (K : PySem.W.Frag) (mg : Str → Option Value) (x : Str) (st : Stmt) (ps : List Str) : Prop where
  ex : ∃ (f : Addr) (fd : FuncData), Fun K x x st f fd ∧ mg x = some (.ref f) ∧ ∀ us : List Value, us.length = ps.length → bindArgs fd ⟨us, []⟩ = pure (ps.zip us)
theorem Dfn.cal {P : Program} {w : World} {K : PySem.W.Frag} {mg : Str → Option Value} {base : Heap} {k : Nat} {x : Str} {st : Stmt} {N ps : List Str} {sp : Sp} (D : Dfn K mg x st ps) (S : FnScope N ps (defScope st)) (len : ∀ vs H Q E, sp vs H Q E → vs.length = ps.length)
    (hbody : ∀ (f : Addr) (cdv : Value) (A : Around) (outer : List Env) (s : Shared) (H : Hp) (vs : List V) (Q : VK) (E : XK), Room k (A.deeper (envOfC x (defScope st) s.heap.objs.size f cdv)) → sp vs H Q E →
      ∃ t, PSs (cxOf CX0 P w K mg base N x (defScope st) f cdv A outer s H E).nox (defBody st) t ∧ t { nx := fun _ H' => Q .non H', rt := Q } (start N vs) H) : Cal P w K mg base (k + 1) x ps sp := by
  obtain ⟨f, fd, F, g, b⟩ := D.ex
  exact ⟨f, fd, g, F.kp, .all b, F.ok S len fun cdv A outer s H vs Q E hr h => hbody f cdv A outer s H vs Q E hr h⟩
theorem dfn_mk {K : PySem.W.Frag} {mg : Str → Option Value} {h : Heap} {x : Str} {st : Stmt} {ps : List Str} {f : Addr} {oc : Value} {od an : Option Addr} {osl : Array (Option Value)} {kV doc pm cdv ct : Value} (X : K.In h) (G : h.Ns mainGlobals mg)
    (a : PySem.W.nsIn K mainGlobals x = some (some (.ref f)))
    (l : K.lookup f = some ⟨oc, od, .func (PySem.W.fnOf x x (defArgs st) (defBody st) (defScope st) .none kV doc pm an cdv ct), osl⟩)
    (c : PySem.W.codeIn K cdv x = true) (k : PySem.W.keepIn K (.ref f) = true)
    (hb : ∀ (kV doc pm : Value) (an : Option Addr) (cdv ct : Value) (us : List Value), us.length = ps.length → bindArgs (PySem.W.fnOf x x (defArgs st) (defBody st) (defScope st) .none kV doc pm an cdv ct) ⟨us, []⟩ = pure (ps.zip us)) : Dfn K mg x st ps :=
  ⟨f, _, fun_mk (st := st) l c k, PySem.W.mg_of X G a, hb kV doc pm an cdv ct⟩

theorem pe_globE {X : Cx} {x : Str} {v : V} {pos : Pos} (hg : Gl X x) (h : ∃ u, X.mg x = some u ∧ RelV v u) (hd : (x == ("__debug__" : Str)) = false := by decide) : PE X (.Name x pos) (tC v) := by
  obtain ⟨u, hm, r⟩ := h
  exact pe_glob hg hm r hd
/-- the law's own end -/
theorem law_end {P : Program} {w : World} {K : PySem.W.Frag} {mg : Str → Option Value} {k : Nat} {x : Str} {st : Stmt} {sp : Sp} {fa : Addr} (D : Dfn K mg x st ["script"]) (hfa : mg x = some (.ref fa))
    (ok : ∀ (base : Heap) (f : Addr) (fd : FuncData), Fun K x x st f fd → FnOk P w K mg base CX0 k f fd ["script"] sp) :
    ∃ fd : FuncData, (∀ (s : Shared) (v : Value), BindsTo s fd ⟨[v], []⟩ [("script", v)]) ∧ ∀ base : Heap, K.In base → base.Ns mainGlobals mg → FnOk P w K mg base CX0 k fa fd ["script"] sp := by
  obtain ⟨f, fd, F, g, b⟩ := D.ex
  have e := hfa.symm.trans g
  cases e
  exact ⟨fd, fun s v => .of_eq (b [v] rfl), fun base _ _ => ok base fa fd F⟩
/-! ### loops over a text -/
theorem lc_str {x : Str} {g : TG} {tt : TT} {te : TE} {vs : List Nat} {σ : L2.St} {H1 : Hp} {D : Addr} {Qd : Hp → Prop} (Pv : Nat → Hp → Prop) (h0 : Pv 0 (upd H1 D (.lst [])))
    (hs : ∀ i c H, x.cps[i]? = some c → Pv i H → g (.str ⟨#[c]⟩) (wipe σ vs) H fun σ2 H2 => wipe σ2 vs = wipe σ vs ∧ tt σ2 H2 fun b H3 =>
      if b = true then te σ2 H3 fun y H4 => ∃ acc, H4 D = some (.lst acc) ∧ acc.length < sizeLine ∧ Pv (i + 1) (upd H4 D (.lst (acc ++ [y]))) else Pv (i + 1) H3) (hd : ∀ H, Pv x.cps.size H → Qd H) :
    ∃ W : Nat → Nat → Hp → Prop, (∃ m, W 0 m (upd H1 D (.lst []))) ∧ ∀ i m H, W i m H →
      ((Its x).stop i H ∧ Qd H) ∨ ((Its x).go i H ∧ ∃ Nx : Hp → Prop, (∀ H', Nx H' → ∃ m', m' < m ∧ W (i + 1) m' H') ∧ ∀ x' H', (Its x).yld i H x' H' → g x' (wipe σ vs) H' fun σ2 H2 => wipe σ2 vs = wipe σ vs ∧ tt σ2 H2 fun b H3 =>
        if b = true then te σ2 H3 fun y H4 => ∃ acc, H4 D = some (.lst acc) ∧ acc.length < sizeLine ∧ Nx (upd H4 D (.lst (acc ++ [y]))) else Nx H3) := by
  refine ⟨fun i m H => m = x.cps.size - i ∧ i ≤ x.cps.size ∧ Pv i H, ⟨x.cps.size, by simp, Nat.zero_le _, h0⟩, ?_⟩
  rintro i m H ⟨rfl, hi, p⟩
  by_cases hlt : i < x.cps.size
  · refine .inr ⟨hlt, Pv (i + 1), fun H' p' => ⟨x.cps.size - (i + 1), by omega, rfl, hlt, p'⟩, fun x' H' y => ?_⟩
    obtain ⟨e, c, hc, y⟩ := y
    subst e y
    exact hs i c _ hc p
  · have e : i = x.cps.size := by omega
    subst e
    exact .inl ⟨Nat.le_refl _, hd H p⟩
theorem for_str {x : Str} {g : TG} {tb : TS} {D : Ends} {σ : L2.St} {H : Hp} (Pv : Nat → L2.St → Hp → Prop) (h0 : Pv 0 σ H)
    (hs : ∀ i c σ H, x.cps[i]? = some c → Pv i σ H → g (.str ⟨#[c]⟩) σ H fun σ2 H2 => tb { D with nx := Pv (i + 1), ct := Pv (i + 1), bk := D.nx } σ2 H2) (hd : ∀ σ H, Pv x.cps.size σ H → D.nx σ H) :
    ∃ W : Nat → Nat → L2.St → Hp → Prop, (∃ m, W 0 m σ H) ∧ ∀ i m σ H, W i m σ H → ((Its x).stop i H ∧ D.nx σ H) ∨ ((Its x).go i H ∧ ∃ Nx : L2.St → Hp → Prop, (∀ σ' H', Nx σ' H' → ∃ m', m' < m ∧ W (i + 1) m' σ' H') ∧
      ∀ x' H', (Its x).yld i H x' H' → g x' σ H' fun σ2 H2 => tb { D with nx := Nx, ct := Nx, bk := D.nx } σ2 H2) := by
  refine ⟨fun i m σ H => m = x.cps.size - i ∧ i ≤ x.cps.size ∧ Pv i σ H, ⟨x.cps.size, by simp, Nat.zero_le _, h0⟩, ?_⟩
  rintro i m σ H ⟨rfl, hi, p⟩
  by_cases hlt : i < x.cps.size
  · refine .inr ⟨hlt, Pv (i + 1), fun σ' H' p' => ⟨x.cps.size - (i + 1), by omega, rfl, hlt, p'⟩, fun x' H' y => ?_⟩
    obtain ⟨e, c, hc, y⟩ := y
    subst e y
    exact hs i c _ _ hc p
  · have e : i = x.cps.size := by omega
    subst e
    exact .inl ⟨Nat.le_refl _, hd σ H p⟩

/-! ### kinds of things -/
inductive Kd (K : PySem.W.Frag) (H : Hp) : V → String → Prop
  | non : Kd K H .non "NoneType"
  | bl (b : Bool) : Kd K H (.bl b) "bool"
  | int (i : Int) : Kd K H (.int i) "int"
  | str (x : Str) : Kd K H (.str x) "str"
  | lst {a : Addr} (t : TyX K H (.ref a) (.type "list")) : Kd K H (.ref a) "list"
  | tup {a : Addr} (t : TyX K H (.ref a) (.type "tuple")) : Kd K H (.ref a) "tuple"
  | dic {a : Addr} (t : TyX K H (.ref a) (.type "dict")) : Kd K H (.ref a) "dict"
theorem Kd.ty {K : PySem.W.Frag} {H : Hp} {x : V} {n : String} (h : Kd K H x n) : TyX K H x (.type n) := by
  cases h with
  | non => exact .base .non
  | bl b => exact .base (.bl b)
  | int i => exact .base (.int i)
  | str x => exact .base (.str x)
  | lst t => exact t
  | tup t => exact t
  | dic t => exact t
theorem tyx_ex {K : PySem.W.Frag} {H H' : Hp} (e : Evl.Ex H H') {x : V} {t : Value} (h : TyX K H x t) : TyX K H' x t := by
  cases h with
  | base b =>
    refine .base ?_
    cases b with
    | non => exact .non
    | bl y => exact .bl y
    | int i => exact .int i
    | str y => exact .str y
    | flt y => exact .flt y
    | lst h => exact .lst (e _ _ h)
    | frz h => exact .frz (e _ _ h)
    | tup h => exact .tup (e _ _ h)
    | dK h => exact .dK (e _ _ h)
    | dT h => exact .dT (e _ _ h)
    | ins h cl ha hn htk hm => exact .ins (e _ _ h) cl ha hn htk hm
  | byt b => exact .byt b
  | set h => exact .set (e _ _ h)
  | kList h c => exact .kList h c
  | kTuple h c => exact .kTuple h c
  | kDict h c => exact .kDict h c
  | fTuple h => exact .fTuple (e _ _ h)
  | fDict h => exact .fDict (e _ _ h)
theorem Kd.ex {K : PySem.W.Frag} {H H' : Hp} (e : Evl.Ex H H') {x : V} {n : String} (h : Kd K H x n) : Kd K H' x n := by
  cases h with
  | non => exact .non
  | bl b => exact .bl b
  | int i => exact .int i
  | str x => exact .str x
  | lst t => exact .lst (tyx_ex e t)
  | tup t => exact .tup (tyx_ex e t)
  | dic t => exact .dic (tyx_ex e t)
def isW : V → Bool
  | .int _ => true
  | _ => false
def isB : V → Bool
  | .bl _ => true
  | _ => false
def isS : V → Bool
  | .str _ => true
  | _ => false
def isI (x : V) : Bool := isW x || isB x
theorem Kd.int? {K : PySem.W.Frag} {H : Hp} {x : V} {n : String} (h : Kd K H x n) : PySem.W.kitOne K (.type n) (.type "int") = some (isI x) := by
  cases h <;> first | exact kit_ty (r := true) (by decide +kernel) | exact kit_ty (r := false) (by decide +kernel)
theorem Kd.bool? {K : PySem.W.Frag} {H : Hp} {x : V} {n : String} (h : Kd K H x n) : PySem.W.kitOne K (.type n) (.type "bool") = some (isB x) := by
  cases h <;> first | exact kit_ty (r := true) (by decide +kernel) | exact kit_ty (r := false) (by decide +kernel)
theorem Kd.str? {K : PySem.W.Frag} {H : Hp} {x : V} {n : String} (h : Kd K H x n) : PySem.W.kitOne K (.type n) (.type "str") = some (isS x) := by
  cases h <;> first | exact kit_ty (r := true) (by decide +kernel) | exact kit_ty (r := false) (by decide +kernel)
section
variable {K : PySem.W.Frag} {H : Hp} {x : V} {n : String} {σ : L2.St} {i : Nat} {Q : VK}
theorem rd_int? (e : σ[i]? = some (some x)) (h : Kd K H x n) (q : Q (.bl (isI x)) H) : tCB (rIsi K) (tCons (tVar i) (tCons (tC (.ty "int")) tNil)) σ H Q := ⟨x, e, x, .ty "int", _, _, _, rfl, .ty _, h.ty, h.int?, q⟩
theorem rd_bool? (e : σ[i]? = some (some x)) (h : Kd K H x n) (q : Q (.bl (isB x)) H) : tCB (rIsi K) (tCons (tVar i) (tCons (tC (.ty "bool")) tNil)) σ H Q := ⟨x, e, x, .ty "bool", _, _, _, rfl, .ty _, h.ty, h.bool?, q⟩
theorem rd_str? (e : σ[i]? = some (some x)) (h : Kd K H x n) (q : Q (.bl (isS x)) H) : tCB (rIsi K) (tCons (tVar i) (tCons (tC (.ty "str")) tNil)) σ H Q := ⟨x, e, x, .ty "str", _, _, _, rfl, .ty _, h.ty, h.str?, q⟩
end

/-! ### data that is asked for == -/
abbrev Asc (z : Str) : Prop := ∀ c ∈ z.cps.toList, c < 128
theorem strOk_asc {z : Str} (h : Asc z) : PyData.strOk z = true := by
  unfold PyData.strOk
  rw [Array.all_eq_true_iff_forall_mem]
  intro c hc
  have := h c (Array.mem_toList_iff.mpr hc)
  simp only [decide_eq_true_eq]
  omega
theorem sh_strs : ∀ {zs : List Str}, (∀ z ∈ zs, Asc z) → PyData.canLayAll0 (zs.map PyData.str) = true
  | [], _ => rfl
  | z :: r, h => by
    show (PyData.canLay0 (.str z) && PyData.canLayAll0 (r.map PyData.str)) = true
    rw [show PyData.canLay0 (.str z) = PyData.strOk z from rfl, strOk_asc (h z List.mem_cons_self), sh_strs fun y hy => h y (List.mem_cons_of_mem _ hy)]
    rfl
theorem dp_strs : ∀ {zs : List Str}, PyData.depthAll (zs.map PyData.str) = 0
  | [] => rfl
  | z :: r => by
    show max (PyData.depth (.str z)) (PyData.depthAll (r.map PyData.str)) = 0
    rw [dp_strs]
    rfl
theorem shaped_strs {zs : List Str} (h : ∀ z ∈ zs, Asc z) : SeqAt.shaped (.list (zs.map PyData.str)) = true := by
  unfold SeqAt.shaped
  rw [show PyData.canLay0 (.list (zs.map PyData.str)) = PyData.canLayAll0 (zs.map PyData.str) from rfl, sh_strs h]
  rw [show PyData.depth (.list (zs.map PyData.str)) = PyData.depthAll (zs.map PyData.str) + 1 from rfl, dp_strs]
  rfl
theorem sh_ints : ∀ {ns : List Int}, PyData.canLayAll0 (ns.map PyData.int) = true
  | [] => rfl
  | n :: r => by
    show (PyData.canLay0 (.int n) && PyData.canLayAll0 (r.map PyData.int)) = true
    rw [sh_ints]
    rfl
theorem dp_ints : ∀ {ns : List Int}, PyData.depthAll (ns.map PyData.int) = 0
  | [] => rfl
  | z :: r => by
    show max (PyData.depth (.int z)) (PyData.depthAll (r.map PyData.int)) = 0
    rw [dp_ints]
    rfl
theorem shaped_ints {ns : List Int} : SeqAt.shaped (.list (ns.map PyData.int)) = true := by
  unfold SeqAt.shaped
  rw [show PyData.canLay0 (.list (ns.map PyData.int)) = PyData.canLayAll0 (ns.map PyData.int) from rfl, sh_ints]
  rw [show PyData.depth (.list (ns.map PyData.int)) = PyData.depthAll (ns.map PyData.int) + 1 from rfl, dp_ints]
  rfl
theorem shaped_nil : SeqAt.shaped (.list []) = true := rfl
theorem dpa_strs {K : PySem.W.Frag} {H : Hp} : ∀ {zs : List Str}, DpAll K H (zs.map V.str) (zs.map PyData.str)
  | [] => .nil
  | z :: r => .cons (.str z) dpa_strs
theorem dpa_ints {K : PySem.W.Frag} {H : Hp} : ∀ {ns : List Int}, DpAll K H (ns.map V.int) (ns.map PyData.int)
  | [] => .nil
  | z :: r => .cons (.int z) dpa_ints
theorem eqv_nil (ds : List PyData) : PyData.eqv (.list ds) (.list []) = ds.isEmpty := by
  cases ds <;> rfl
/-! ### a comprehension over a text, its element by itself -/
theorem lcS {z : Str} {g : TG} {tt : TT} {te : TE} {vs : List Nat} {σ : L2.St} {H : Hp} {Qd : Addr → Hp → Prop} (f : Nat → V) (p : Nat → Bool) (hz : z.cps.size ≤ 16000000)
    (turn : ∀ c H', c ∈ z.cps.toList → Ex H H' → ∀ (R : VK) (R0 : Hp → Prop), (p c = true → ∀ H4, Ex H' H4 → R (f c) H4) → (p c = false → ∀ H4, Ex H' H4 → R0 H4) →
      g (.str ⟨#[c]⟩) (wipe σ vs) H' fun σ2 H2 => wipe σ2 vs = wipe σ vs ∧ tt σ2 H2 fun b H3 => if b = true then te σ2 H3 R else R0 H3)
    (q : ∀ D H', H D = none → Ex H H' → H' D = some (.lst ((z.cps.toList.filter p).map f)) → Qd D H') : ∀ D, H D = none →
    ∃ W : Nat → Nat → Hp → Prop, (∃ m, W 0 m (upd H D (.lst []))) ∧ ∀ i m H, W i m H →
      ((Its z).stop i H ∧ Qd D H) ∨ ((Its z).go i H ∧ ∃ Nx : Hp → Prop, (∀ H', Nx H' → ∃ m', m' < m ∧ W (i + 1) m' H') ∧ ∀ x' H', (Its z).yld i H x' H' → g x' (wipe σ vs) H' fun σ2 H2 => wipe σ2 vs = wipe σ vs ∧ tt σ2 H2 fun b H3 =>
        if b = true then te σ2 H3 fun y H4 => ∃ acc, H4 D = some (.lst acc) ∧ acc.length < sizeLine ∧ Nx (upd H4 D (.lst (acc ++ [y]))) else Nx H3) := fun D hD => by
  have small : ∀ i, (((z.cps.toList.take i).filter p).map f).length < sizeLine := fun i => by
    rw [List.length_map]
    have h1 := List.length_filter_le p (z.cps.toList.take i)
    have h2 : (z.cps.toList.take i).length ≤ z.cps.toList.length := by rw [List.length_take]; omega
    have h3 : z.cps.toList.length = z.cps.size := Array.length_toList
    rw [sizeLine_eq]
    omega
  refine lc_str (x := z) (fun i H' => Ex H H' ∧ H' D = some (.lst (((z.cps.toList.take i).filter p).map f))) ⟨Evl.Ex.new hD, by rw [upd_same]; rfl⟩ ?_ ?_
  · rintro i c H' hc ⟨e, hl⟩
    have hcl : z.cps.toList[i]? = some c := by rw [Array.getElem?_toList]; exact hc
    have ht : z.cps.toList.take (i + 1) = z.cps.toList.take i ++ [c] := by rw [List.take_add_one, hcl]; rfl
    refine turn c H' (List.mem_of_getElem? hcl) e _ _ (fun hp H4 e4 => ?_) (fun hp H4 e4 => ?_)
    · refine ⟨_, e4 _ _ hl, small i, ?_, ?_⟩
      · exact (e.trans e4).mut hD
      · rw [upd_same, ht, List.filter_append, List.map_append, List.filter_cons_of_pos hp]
        rfl
    · refine ⟨e.trans e4, ?_⟩
      rw [e4 _ _ hl, ht, List.filter_append, List.filter_cons_of_neg (by simp [hp])]
      simp
  · rintro H' ⟨e, hl⟩
    have h3 : z.cps.toList.take z.cps.size = z.cps.toList := by rw [← Array.length_toList]; exact List.take_length
    rw [h3] at hl
    exact q D H' hD e hl
/-! ### a text some times -/
theorem rep_size (c : Array Nat) : ∀ (k : Nat) (acc : Array Nat), (List.foldl (fun x1 x2 => x1 ++ x2) acc (List.replicate k c)).size = acc.size + c.size * k
  | 0, acc => by simp
  | k + 1, acc => by
    rw [List.replicate_succ, List.foldl_cons, rep_size c k, Array.size_append, Nat.mul_succ]
    omega
def rRepS : R2 := fun x y H Q => ∃ (z : Str) (k : Int), x = .str z ∧ y = .int k ∧ 2 ≤ k ∧ 0 < z.length ∧ z.length * k.toNat ≤ 16000000 ∧ ∀ u : Str, u.length = z.length * k.toNat → u.cps = (List.replicate k.toNat z.cps).foldl (· ++ ·) #[] → Q (.str u) H
theorem op_repS {X : Cx} : OpR X (binaryOp .Mult) rRepS := by
  intro pins s σ H x y v u Q I rx ry h
  obtain ⟨z, k, rfl, rfl, h2, h0, hz, q⟩ := h
  obtain ⟨t, rfl⟩ := rx
  obtain ⟨t', rfl⟩ := ry
  have k1 : k.toNat ≤ z.length * k.toNat := Nat.le_mul_of_pos_left _ h0
  have z1 : z.length ≤ z.length * k.toNat := Nat.le_mul_of_pos_right _ (by omega)
  have zk : (z.length : Int) * k ≤ 16000000 := by
    have : ((z.length * k.toNat : Nat) : Int) ≤ ((16000000 : Nat) : Int) := Int.ofNat_le.mpr hz
    rw [Int.natCast_mul, Int.toNat_of_nonneg (by omega)] at this
    exact this
  refine PySem.P.mul_str ?_ ?_ ?_ ?_
  · rw [decide_eq_false (by omega), decide_eq_false (by omega)]
    rfl
  · intro _ _ hh
    have : (2 ^ 63 - 1) / k * k ≤ 2 ^ 63 - 1 := Int.ediv_mul_le _ (by omega)
    have h5 : ((z.length : Int) - 1) * k ≥ (2 ^ 63 - 1) / k * k := Int.mul_le_mul_of_nonneg_right (by omega) (by omega)
    have h6 : (2 ^ 63 - 1) < (2 ^ 63 - 1) / k * k + k := by
      have := Int.lt_ediv_add_one_mul_self (2 ^ 63 - 1) (show 0 < k by omega)
      rw [Int.add_mul] at this
      omega
    rw [Int.sub_mul] at h5
    omega
  · intro _ _
    unfold Builtin.Str.tooLong
    rw [sizeLine_eq]
    exact decide_eq_false (by omega)
  · rw [if_neg (by omega), if_neg (by
      have e1 : (k == 1) = false := beq_eq_false_iff_ne.mpr fun e => absurd (e ▸ h2 : (2 : Int) ≤ 1) (by decide)
      have e2 : (z.length == 0) = false := beq_eq_false_iff_ne.mpr (Nat.ne_of_gt h0)
      rw [e1, e2]
      exact Bool.false_ne_true)]
    refine ⟨?_, ?_⟩
    · have e := rep_size z.cps k.toNat #[]
      show (List.foldl (fun x1 x2 => x1 ++ x2) #[] (List.replicate k.toNat z.cps)).size ≤ sizeLine
      rw [e, sizeLine_eq]
      have : z.cps.size * k.toNat ≤ 16000000 := hz
      simp only [Array.size_empty]
      omega
    · exact ⟨.str _, H, I.tok _, ⟨_, rfl⟩, q _ (by
        have e := rep_size z.cps k.toNat #[]
        show (List.foldl (fun x1 x2 => x1 ++ x2) #[] (List.replicate k.toNat z.cps)).size = z.length * k.toNat
        rw [e]
        simp only [Array.size_empty, Nat.zero_add]
        rfl) rfl⟩
end Bs

namespace Bk01
open PySem PySem.Spec PyProof.Rows L2 Bs
open Evl (Ex)
def topS (i : Nat) : Stmt := PySem.Challenge.pw_boundsmith_k01_names_and_numbers.main.body.getD i (.Pass ⟨0, 0, 0, 0⟩)
abbrev s_is_whole : Stmt := topS 5
abbrev N_is_whole : List Str := ["thing"]
theorem sc_is_whole : FnScope N_is_whole ["thing"] (defScope s_is_whole) := ⟨rfl, rfl, rfl, by decide +kernel, rfl, by decide +kernel, by decide +kernel⟩
abbrev s_is_among : Stmt := topS 6
abbrev N_is_among : List Str := ["thing", "least", "most"]
theorem sc_is_among : FnScope N_is_among ["thing", "least", "most"] (defScope s_is_among) := ⟨rfl, rfl, rfl, by decide +kernel, rfl, by decide +kernel, by decide +kernel⟩
abbrev s_is_name : Stmt := topS 7
abbrev N_is_name : List Str := ["thing", "sign"]
theorem sc_is_name : FnScope N_is_name ["thing"] (defScope s_is_name) := ⟨rfl, rfl, rfl, by decide +kernel, rfl, by decide +kernel, by decide +kernel⟩
abbrev s_number_of : Stmt := topS 8
abbrev N_number_of : List Str := ["word", "sign"]
theorem sc_number_of : FnScope N_number_of ["word"] (defScope s_number_of) := ⟨rfl, rfl, rfl, by decide +kernel, rfl, by decide +kernel, by decide +kernel⟩
abbrev s__law_mixed : Stmt := topS 10
abbrev N__law_mixed : List Str := ["cell", "k", "number"]
theorem sc__law_mixed : FnScope N__law_mixed ["cell", "k"] (defScope s__law_mixed) := ⟨rfl, rfl, rfl, by decide +kernel, rfl, by decide +kernel, by decide +kernel⟩
abbrev s__law_draw : Stmt := topS 11
abbrev N__law_draw : List Str := ["script", "k", "cell", "own", "turn"]
theorem sc__law_draw : FnScope N__law_draw ["script", "k"] (defScope s__law_draw) := ⟨rfl, rfl, rfl, by decide +kernel, rfl, by decide +kernel, by decide +kernel⟩
abbrev s__law_next : Stmt := topS 12
abbrev N__law_next : List Str := ["draw", "many", "found", "number"]
theorem sc__law_next : FnScope N__law_next ["draw", "many"] (defScope s__law_next) := ⟨rfl, rfl, rfl, by decide +kernel, rfl, by decide +kernel, by decide +kernel⟩
abbrev s__law_text : Stmt := topS 13
abbrev N__law_text : List Str := ["draw", "signs", "many", "place"]
theorem sc__law_text : FnScope N__law_text ["draw"] (defScope s__law_text) := ⟨rfl, rfl, rfl, by decide +kernel, rfl, by decide +kernel, by decide +kernel⟩
abbrev s__law_truth : Stmt := topS 14
abbrev N__law_truth : List Str := ["found", "due"]
theorem sc__law_truth : FnScope N__law_truth ["found", "due"] (defScope s__law_truth) := ⟨rfl, rfl, rfl, by decide +kernel, rfl, by decide +kernel, by decide +kernel⟩
abbrev s__law_number : Stmt := topS 15
abbrev N__law_number : List Str := ["word", "found", "sign"]
theorem sc__law_number : FnScope N__law_number ["word"] (defScope s__law_number) := ⟨rfl, rfl, rfl, by decide +kernel, rfl, by decide +kernel, by decide +kernel⟩
abbrev s__law_thing_right : Stmt := topS 16
abbrev N__law_thing_right : List Str := ["thing", "least", "most", "whole", "letters", "name", "sign"]
theorem sc__law_thing_right : FnScope N__law_thing_right ["thing", "least", "most"] (defScope s__law_thing_right) := ⟨rfl, rfl, rfl, by decide +kernel, rfl, by decide +kernel, by decide +kernel⟩
abbrev s__law_word_right : Stmt := topS 17
abbrev N__law_word_right : List Str := ["word", "found", "due"]
theorem sc__law_word_right : FnScope N__law_word_right ["word"] (defScope s__law_word_right) := ⟨rfl, rfl, rfl, by decide +kernel, rfl, by decide +kernel, by decide +kernel⟩
abbrev s_law : Stmt := topS 18
abbrev N_law : List Str := ["script", "k", "draw", "word", "size", "number", "least", "odd", "far"]
theorem sc_law : FnScope N_law ["script"] (defScope s_law) := ⟨rfl, rfl, rfl, by decide +kernel, rfl, by decide +kernel, by decide +kernel⟩
/-- what the top has left -/
structure Tx (K : PySem.W.Frag) (mg : Str → Option Value) : Prop where
  c_LETTERS : ∃ u, mg "LETTERS" = some u ∧ RelV (.str "abcdefghijklmnopqrstuvwxyz") u
  c_FIGURES : ∃ u, mg "FIGURES" = some u ∧ RelV (.str "0123456789") u
  c_MOST_LETTERS : ∃ u, mg "MOST_LETTERS" = some u ∧ RelV (.int 8) u
  c_MOST_FIGURES : ∃ u, mg "MOST_FIGURES" = some u ∧ RelV (.int 7) u
  b_isinstance : mg "isinstance" = none
  b_int : mg "int" = none
  b_bool : mg "bool" = none
  b_str : mg "str" = none
  b_all : mg "all" = none
  b_len : mg "len" = none
  b_range : mg "range" = none
  b_max : mg "max" = none
  b_min : mg "min" = none
  d_is_whole : Dfn K mg "is_whole" s_is_whole ["thing"]
  d_is_among : Dfn K mg "is_among" s_is_among ["thing", "least", "most"]
  d_is_name : Dfn K mg "is_name" s_is_name ["thing"]
  d_number_of : Dfn K mg "number_of" s_number_of ["word"]
  d__law_mixed : Dfn K mg "_law_mixed" s__law_mixed ["cell", "k"]
  d__law_draw : Dfn K mg "_law_draw" s__law_draw ["script", "k"]
  d__law_next : Dfn K mg "_law_next" s__law_next ["draw", "many"]
  d__law_text : Dfn K mg "_law_text" s__law_text ["draw"]
  d__law_truth : Dfn K mg "_law_truth" s__law_truth ["found", "due"]
  d__law_number : Dfn K mg "_law_number" s__law_number ["word"]
  d__law_thing_right : Dfn K mg "_law_thing_right" s__law_thing_right ["thing", "least", "most"]
  d__law_word_right : Dfn K mg "_law_word_right" s__law_word_right ["word"]
  d_law : Dfn K mg "law" s_law ["script"]

section
variable {P : Program} {w : World} {K : PySem.W.Frag} {mg : Str → Option Value} {base : Heap}
def spWhole (K : PySem.W.Frag) : Sp := fun vs H Q _ => ∃ x n, vs = [x] ∧ Kd K H x n ∧ Q (.bl (isW x)) H
theorem ok_is_whole (T : Tx K mg) : Cal P w K mg base 1 "is_whole" ["thing"] (spWhole K) := by
  refine T.d_is_whole.cal sc_is_whole (fun vs H Q E h => ?_) (fun f cdv A outer s H vs Q E hr h => ?_)
  · obtain ⟨x, n, rfl, _⟩ := h
    rfl
  · obtain ⟨x, n, rfl, hk, q⟩ := h
    refine ⟨_, (pss_one (ps_ret (pe_and (pe_callB call_isi (by rfl) T.b_isinstance (by decide +kernel) (pa_cons (pv 0) (pa_cons (pe_bltn (v := .ty "int") rfl T.b_int (by decide +kernel) rfl) pa_nil))) (pe_one (pe_not (pe_callB call_isi (by rfl) T.b_isinstance (by decide +kernel) (pa_cons (pv 0) (pa_cons (pe_bltn (v := .ty "bool") rfl T.b_bool (by decide +kernel) rfl) pa_nil)))))))), ?_⟩
    refine rd_int? rfl hk ⟨_, rfl, ?_⟩
    cases x <;> first | exact iteF q | exact iteT (rd_bool? rfl hk ⟨_, rfl, q⟩)
def spAmong (K : PySem.W.Frag) : Sp := fun vs H Q _ => ∃ x n a b, vs = [x, .int a, .int b] ∧ Kd K H x n ∧ Q (.bl (match x with | .int i => decide (a ≤ i) && decide (i ≤ b) | _ => false)) H
theorem ok_is_among (T : Tx K mg) : Cal P w K mg base 2 "is_among" ["thing", "least", "most"] (spAmong K) := by
  have G_is_whole : Cal P w K mg base 1 "is_whole" ["thing"] (spWhole K) := ok_is_whole T
  refine T.d_is_among.cal sc_is_among (fun vs H Q E h => ?_) (fun f cdv A outer s H vs Q E hr h => ?_)
  · obtain ⟨x, n, a, b, rfl, _⟩ := h
    rfl
  · obtain ⟨x, n, a, b, rfl, hk, q⟩ := h
    refine ⟨_, (pss_one (ps_ret (pe_and (pe_cal G_is_whole hr (by rfl) (pa_cons (pv 0) pa_nil)) (pe_and (pe_cal G_is_whole hr (by rfl) (pa_cons (pv 1) pa_nil)) (pe_and (pe_cal G_is_whole hr (by rfl) (pa_cons (pv 2) pa_nil)) (pe_one (pe_chain op_le op_le (pv 1) (pv 0) (pv 2)))))))), ?_⟩
    refine ⟨x, rfl, x, n, rfl, hk, _, rfl, ?_⟩
    cases x with
    | int i =>
      refine iteT ⟨.int a, rfl, .int a, _, rfl, .int a, _, rfl, iteT ⟨.int b, rfl, .int b, _, rfl, .int b, _, rfl, iteT ⟨.int a, rfl, .int i, rfl, a, i, rfl, rfl, _, rfl, ite2 (fun e => ?_) (fun e => ?_)⟩⟩⟩
      · refine ⟨.int b, rfl, i, b, rfl, rfl, ?_⟩
        have q' : Q (.bl (decide (a ≤ i) && decide (i ≤ b))) H := q
        rw [e] at q'
        exact q'
      · have q' : Q (.bl (decide (a ≤ i) && decide (i ≤ b))) H := q
        rw [Bool.eq_false_iff.mpr e] at q'
        exact q'
    | _ => exact iteF q
/-! ### names and numbers -/
def letL : List Nat := ("abcdefghijklmnopqrstuvwxyz" : Str).cps.toList
def digL : List Nat := ("0123456789" : Str).cps.toList
def nameV : V → Bool
  | .str z => decide ((1 : Int) ≤ (z.length : Int)) && decide ((z.length : Int) ≤ 8) && z.cps.toList.all (fun c => decide (c ∈ letL))
  | _ => false
/-- a thing whose text is short and plain -/
def Fit : V → Prop
  | .str z => z.length ≤ 16000000 ∧ Asc z
  | _ => True
theorem all_map (l : List Nat) (f : Nat → Bool) : (l.map f).all id = l.all f := by
  induction l with
  | nil => rfl
  | cons a r ih =>
    rw [List.map_cons, List.all_cons, List.all_cons, ih]
    rfl
theorem filter_yes (l : List Nat) : l.filter (fun _ => true) = l := List.filter_eq_self.mpr fun _ _ => rfl
theorem sz16 {n : Nat} (h : n ≤ 16000000) : n ≤ sizeLine := by
  rw [sizeLine_eq]
  omega
def spName (K : PySem.W.Frag) : Sp := fun vs H Q _ => ∃ x n, vs = [x] ∧ Kd K H x n ∧ Fit x ∧ ∀ H', Ex H H' → Q (.bl (nameV x)) H'
theorem ok_is_name (T : Tx K mg) : Cal P w K mg base 1 "is_name" ["thing"] (spName K) := by
  refine T.d_is_name.cal sc_is_name (fun vs H Q E h => ?_) (fun f cdv A outer s H vs Q E hr h => ?_)
  · obtain ⟨x, n, rfl, _⟩ := h
    rfl
  · obtain ⟨x, n, rfl, hk, hf, q⟩ := h
    refine ⟨_, (pss_one (ps_ret (pe_and (pe_callB call_isi (by rfl) T.b_isinstance (by decide +kernel) (pa_cons (pv 0) (pa_cons (pe_bltn (v := .ty "str") rfl T.b_str (by decide +kernel) rfl) pa_nil))) (pe_and (pe_chain op_le op_le pe_int (pe_callB call_len_str (by rfl) T.b_len (by decide +kernel) (pa_cons (pv 0) pa_nil)) (pe_globE rfl T.c_MOST_LETTERS)) (pe_one (pe_callB (cr_all rfl) (by rfl) T.b_all (by decide +kernel) (pa_cons (pe_lc (own := [("sign", 1)]) rfl sc_is_name.nd (pi_str (pv 0)) (blkOk_by (own := [("sign", 1)]) (N := N_is_name) (sc := defScope s_is_name) (by decide +kernel)) (fun _ _ _ _ _ => (pg_name (i := 1) sc_is_name.nd rfl (.inl rfl))) (fun _ _ _ _ _ => pts_nil) (fun _ _ _ _ _ => (pe_cmpR op_in_sign (pv 1) (pe_globE rfl T.c_LETTERS) (by rfl)))) pa_nil))))))), ?_⟩
    refine rd_str? rfl hk ⟨_, rfl, ?_⟩
    cases x with
    | str z =>
      obtain ⟨hz, _⟩ := hf
      have q' : ∀ H', Ex H H' → Q (.bl (decide ((1 : Int) ≤ (z.length : Int)) && decide ((z.length : Int) ≤ 8) && z.cps.toList.all (fun c => decide (c ∈ letL)))) H' := q
      refine iteT ⟨.str z, rfl, z, rfl, sz16 hz, 1, (z.length : Int), rfl, rfl, _, rfl, ite2 (fun e1 => ?_) (fun e1 => ?_)⟩
      · refine ⟨(z.length : Int), 8, rfl, rfl, _, rfl, ite2 (fun e2 => ?_) (fun e2 => ?_)⟩
        · refine ⟨.str z, rfl, z, rfl, lcS (fun c => V.bl (decide (c ∈ letL))) (fun _ => true) hz ?_ ?_⟩
          · intro c H' _ _ R R0 hR _
            exact ⟨rfl, ⟨.str ⟨#[c]⟩, rfl, c, _, rfl, rfl, hR rfl H' (Evl.Ex.refl _)⟩⟩
          · intro D H' _ e hD
            refine ⟨D, z.cps.toList.map (fun c => decide (c ∈ letL)), rfl, SqL.of (by rw [hD, filter_yes, List.map_map]; rfl), ?_⟩
            have := q' H' e
            rw [e1, e2] at this
            rw [all_map]
            exact this
        · have := q' H (Evl.Ex.refl _)
          rw [e1, Bool.eq_false_iff.mpr e2] at this
          exact this
      · have := q' H (Evl.Ex.refl _)
        rw [Bool.eq_false_iff.mpr e1] at this
        exact ⟨_, rfl, iteF this⟩
    | _ => exact iteF (q H (Evl.Ex.refl _))
/-! number_of -/
def isDig (c : Nat) : Bool := decide (c ∈ digL)
theorem digL_eq : digL = [48, 49, 50, 51, 52, 53, 54, 55, 56, 57] := by decide +kernel
theorem isDig_iff {c : Nat} : isDig c = true ↔ 48 ≤ c ∧ c ≤ 57 := by
  unfold isDig
  rw [decide_eq_true_iff, digL_eq]
  simp only [List.mem_cons, List.not_mem_nil, or_false]
  omega
def numV (z : Str) : V :=
  if decide ((1 : Int) ≤ (z.length : Int)) && decide ((z.length : Int) ≤ 7) && z.cps.toList.all isDig then
    (if z.cps.toList.head? = some 48 ∧ z.length ≠ 1 then .non else .int (NumText.digitsVal z.cps.toList : Nat)) else .non
theorem starts0 {z : Str} (h : 1 ≤ z.length) : Txt.startswith z ("0" : Str) = decide (z.cps.toList.head? = some 48) := by
  obtain ⟨⟨l⟩⟩ := z
  cases l with
  | nil => exact absurd h (by decide)
  | cons c r =>
    have e : (Array.extract { toList := c :: r } 0 (0 + Str.length ("0" : Str)) : Array Nat) = #[c] := by
      show Array.extract (c :: r).toArray 0 1 = #[c]
      rw [List.extract_toArray, List.extract_eq_take_drop]
      rfl
    have e0 : (("0" : Str).cps) = #[48] := by decide +kernel
    have e2 : decide (0 + Str.length ("0" : Str) ≤ Str.length ⟨⟨c :: r⟩⟩) = true := decide_eq_true (by
      show 1 ≤ (c :: r).length
      rw [List.length_cons]
      omega)
    show (decide (0 + Str.length ("0" : Str) ≤ Str.length ⟨⟨c :: r⟩⟩) && (Array.extract { toList := c :: r } 0 (0 + Str.length ("0" : Str)) == ("0" : Str).cps)) = decide ((c :: r).head? = some 48)
    rw [e2, e, e0]
    show (#[c] == #[48]) = decide (some c = some 48)
    by_cases hc : c = 48
    · subst hc
      rfl
    · rw [decide_eq_false (fun z => hc (Option.some.inj z))]
      exact beq_eq_false_iff_ne.mpr fun z => hc (by simpa using z)
theorem is0 {z : Str} (h : z.cps.toList.head? = some 48) : z = ("0" : Str) ↔ z.length = 1 := by
  have e0 : ("0" : Str) = ⟨⟨[48]⟩⟩ := by decide +kernel
  rw [e0]
  obtain ⟨⟨l⟩⟩ := z
  cases l with
  | nil => cases h
  | cons c r =>
    have hc : c = 48 := Option.some.inj h
    subst hc
    constructor
    · intro e
      rw [e]
      rfl
    · intro e
      have e' : (48 :: r).length = 1 := e
      cases r with
      | nil => rfl
      | cons d r => simp at e'
def spNum : Sp := fun vs H Q _ => ∃ z : Str, vs = [.str z] ∧ z.length ≤ 16000000 ∧ ∀ H', Ex H H' → Q (numV z) H'
theorem ok_number_of (T : Tx K mg) : Cal P w K mg base 1 "number_of" ["word"] spNum := by
  refine T.d_number_of.cal sc_number_of (fun vs H Q E h => ?_) (fun f cdv A outer s H vs Q E hr h => ?_)
  · obtain ⟨x, rfl, _⟩ := h
    rfl
  · obtain ⟨z, rfl, hz, q⟩ := h
    refine ⟨_, (pss_cons (ps_if (PW.pt (pw_or (pt_not (pt_val (pe_callB call_isi (by rfl) T.b_isinstance (by decide +kernel) (pa_cons (pv 0) (pa_cons (pe_bltn (v := .ty "str") rfl T.b_str (by decide +kernel) rfl) pa_nil))))) (pw_or1 (pt_not (pt_chain op_le op_le pe_int (pe_callB call_len_str (by rfl) T.b_len (by decide +kernel) (pa_cons (pv 0) pa_nil)) (pe_globE rfl T.c_MOST_FIGURES)))))) (pss_one (ps_ret pe_non)) pss_nil)
    (pss_cons (ps_if (pt_not (pt_val (pe_callB (cr_all rfl) (by rfl) T.b_all (by decide +kernel) (pa_cons (pe_lc (own := [("sign", 1)]) rfl sc_number_of.nd (pi_str (pv 0)) (blkOk_by (own := [("sign", 1)]) (N := N_number_of) (sc := defScope s_number_of) (by decide +kernel)) (fun _ _ _ _ _ => (pg_name (i := 1) sc_number_of.nd rfl (.inl rfl))) (fun _ _ _ _ _ => pts_nil) (fun _ _ _ _ _ => (pe_cmpR op_in_sign (pv 1) (pe_globE rfl T.c_FIGURES) (by rfl)))) pa_nil)))) (pss_one (ps_ret pe_non)) pss_nil)
    (pss_cons (ps_if (PW.pt (pw_and (pt_val (pe_m1 PySem.F.slot_str_startswith PySem.F.type_str_startswith mt_startswith (pv 0) pe_str)) (pw_and1 (pt_cmpR op_ne (pv 0) pe_str (nomark _))))) (pss_one (ps_ret pe_non)) pss_nil)
    (pss_one (ps_ret (pe_callTy call_int_str (by rfl) T.b_int (by decide +kernel) (pa_cons (pv 0) pa_nil))))))), ?_⟩
    refine rd_str? rfl (Kd.str z) ⟨_, rfl, ?_⟩
    have hb : ∀ {b : Bool}, (decide ((1 : Int) ≤ (z.length : Int)) && decide ((z.length : Int) ≤ 7) && z.cps.toList.all isDig) = b → b = false → numV z = .non := fun e f => by
      unfold numV
      rw [e, f]
      rfl
    refine iteF ⟨.str z, rfl, z, rfl, sz16 hz, 1, (z.length : Int), rfl, rfl, _, rfl, ite2 (fun e1 => ?_) (fun e1 => ?_)⟩
    · refine ⟨(z.length : Int), 7, rfl, rfl, _, rfl, ?_⟩
      by_cases e2 : (z.length : Int) ≤ 7
      · rw [decide_eq_true e2]
        refine iteF ⟨.str z, rfl, z, rfl, lcS (fun c => V.bl (isDig c)) (fun _ => true) hz ?_ ?_⟩
        · intro c H' _ _ R R0 hR _
          exact ⟨rfl, ⟨.str ⟨#[c]⟩, rfl, c, _, rfl, rfl, hR rfl H' (Evl.Ex.refl _)⟩⟩
        · intro D H' _ e hD
          refine ⟨D, z.cps.toList.map isDig, rfl, SqL.of (by rw [hD, filter_yes, List.map_map]; rfl), _, rfl, ?_⟩
          rw [all_map]
          cases ha : z.cps.toList.all isDig with
          | false =>
            refine iteT ?_
            have e3 := hb (by rw [e1, decide_eq_true e2, ha]; rfl) rfl
            rw [← e3]
            exact q H' e
          | true =>
            have hl : 1 ≤ z.length := by
              have := of_decide_eq_true e1
              omega
            have hne : z.cps.toList ≠ [] := fun z0 => by
              have : z.cps.toList.length = z.length := Array.length_toList
              rw [z0] at this
              simp at this
              omega
            have hn : numV z = if z.cps.toList.head? = some 48 ∧ z.length ≠ 1 then V.non else .int (NumText.digitsVal z.cps.toList : Nat) := by
              unfold numV
              rw [e1, decide_eq_true e2, ha]
              rfl
            have hint : z.length ≤ 7 := by omega
            have fin : ¬ (z.cps.toList.head? = some 48 ∧ z.length ≠ 1) → tRet (tCB (fun xs H Q => ∃ a n, xs = [.str a] ∧ PySem.intText? a = some n ∧ a.length ≤ 640 ∧ Q (.int n) H) (tCons (tVar 0) tNil)) { nx := fun _ H' => Q .non H', rt := Q } (start N_number_of [.str z]) H' := fun hh => by
              rw [if_neg hh] at hn
              refine ⟨.str z, rfl, z, _, rfl, intText_digits (fun c hc => isDig_iff.mp (List.all_eq_true.mp ha c hc)) hne (by omega), by omega, ?_⟩
              rw [← hn]
              exact q H' e
            refine iteF ⟨.str z, rfl, ⟨z, rfl⟩, z, "0", rfl, rfl, _, rfl, ?_⟩
            rw [starts0 hl]
            by_cases h0 : z.cps.toList.head? = some 48
            · rw [decide_eq_true h0]
              refine iteT ⟨.str z, rfl, rfl, _, rfl, ?_⟩
              by_cases h1 : z.length = 1
              · rw [decide_eq_true (show V.str z = V.str "0" by rw [(is0 h0).mpr h1])]
                exact iteF (fin fun hh => hh.2 h1)
              · rw [decide_eq_false (show ¬ V.str z = V.str "0" from fun e => h1 ((is0 h0).mp (V.str.inj e)))]
                refine iteT ?_
                rw [if_pos ⟨h0, h1⟩] at hn
                show Q .non H'
                rw [← hn]
                exact q H' e
            · rw [decide_eq_false h0]
              exact iteF (iteF (fin fun hh => h0 hh.1))
      · rw [decide_eq_false e2]
        refine iteT ?_
        show Q .non H
        rw [← hb (by rw [decide_eq_false e2, Bool.and_false]; rfl) rfl]
        exact q H (Evl.Ex.refl _)
    · refine ⟨_, rfl, iteT ?_⟩
      show Q .non H
      rw [← hb (by rw [Bool.eq_false_iff.mpr e1]; rfl) rfl]
      exact q H (Evl.Ex.refl _)
/-! ### draws -/
theorem mulBd {i j : Int} (a : -(10 ^ 60) < i) (b : i < 10 ^ 60) (c : -(10 ^ 60) < j) (d : j < 10 ^ 60) : CMulX i j :=
  mulx_ok (a := 200) (b := 200) (by
    have : (10 : Nat) ^ 60 < 2 ^ 200 := by decide
    omega) (by
    have : (10 : Nat) ^ 60 < 2 ^ 200 := by decide
    omega) (by decide)
theorem divBd {i j : Int} (a : 0 < j) (b : j < 10 ^ 60) : CDivW i j := wide_div (b := 200) a (by
    have : (10 : Nat) ^ 60 < 2 ^ 200 := by decide
    omega) (by decide) (by decide)
/-- all but one object stand -/
def But (d : Addr) (H H' : Hp) : Prop := ∀ b o, b ≠ d → H b = some o → H' b = some o
theorem But.refl (d : Addr) (H : Hp) : But d H H := fun _ _ _ h => h
theorem But.trans {d : Addr} {H H1 H2 : Hp} (a : But d H H1) (b : But d H1 H2) : But d H H2 := fun x o n h => b x o n (a x o n h)
theorem But.ex {d : Addr} {H H1 H2 : Hp} (a : But d H H1) (b : Ex H1 H2) : But d H H2 := fun x o n h => b x o (a x o n h)
theorem But.of {d : Addr} {H H1 : Hp} (a : Ex H H1) : But d H H1 := fun x o _ h => a x o h
theorem But.exl {d : Addr} {H H1 H2 : Hp} (a : Ex H H1) (b : But d H1 H2) : But d H H2 := fun x o n h => b x o n (a x o h)
theorem But.mut {d p : Addr} {H H1 : Hp} {o : HO} (a : But d H H1) (h : H p = none) : But d H (upd H1 p o) := fun x u n e => by
  rw [upd_ne (ne_of_none e h)]
  exact a x u n e
theorem But.self {d : Addr} {H : Hp} {o : HO} : But d H (upd H d o) := fun x u n e => by
  rw [upd_ne n]
  exact e
/-- an object that did not stand may change -/
theorem But.toEx {d : Addr} {H0 H H1 : Hp} (e : Ex H0 H) (a : But d H H1) (h : H0 d = none) : Ex H0 H1 := fun x u k => a x u (ne_of_none k h) (e x u k)
/-- a draw at d: its counter c -/
def Drw (H : Hp) (d : Addr) (c : Int) : Prop := ∃ cell own : Int, H d = some (.lst [.int cell, .int c, .int own]) ∧ 0 ≤ own ∧ 0 ≤ c
theorem Drw.some {H : Hp} {d : Addr} {c : Int} (h : Drw H d c) : ∃ o, H d = some o := by
  obtain ⟨_, _, e, _⟩ := h
  exact ⟨_, e⟩
theorem Drw.ex {H H' : Hp} {d : Addr} {c : Int} (h : Drw H d c) (e : Ex H H') : Drw H' d c := by
  obtain ⟨a, b, h1, h2⟩ := h
  exact ⟨a, b, e _ _ h1, h2⟩
theorem Drw.ne {H : Hp} {d p : Addr} {c : Int} (h : Drw H d c) (n : H p = none) : d ≠ p := by
  obtain ⟨a, b, h1, _⟩ := h
  exact ne_of_none h1 n
theorem Drw.upd {H : Hp} {d p : Addr} {c : Int} {o : HO} (h : Drw H d c) (n : d ≠ p) : Drw (upd H p o) d c := by
  obtain ⟨a, b, h1, h2⟩ := h
  exact ⟨a, b, by rw [upd_ne n]; exact h1, h2⟩
theorem Drw.pos {H : Hp} {d : Addr} {c : Int} (h : Drw H d c) : 0 ≤ c := by
  obtain ⟨_, _, _, _, h⟩ := h
  exact h
def spMixed : Sp := fun vs H Q _ => ∃ cell k : Int, vs = [.int cell, .int k] ∧ 0 ≤ k ∧ k ≤ 10 ^ 12 ∧ ∀ r : Int, 0 ≤ r → r < 2147483629 → Q (.int r) H
theorem ok__law_mixed (T : Tx K mg) : Cal P w K mg base 1 "_law_mixed" ["cell", "k"] spMixed := by
  refine T.d__law_mixed.cal sc__law_mixed (fun vs H Q E h => ?_) (fun f cdv A outer s H vs Q E hr h => ?_)
  · obtain ⟨x, n, rfl, _⟩ := h
    rfl
  · obtain ⟨cell, k, rfl, k0, k1, q⟩ := h
    refine ⟨_, (pss_cons (ps_set (i := 2) sc__law_mixed.nd rfl (.inl rfl) (pe_op op_mod (pe_op op_mulX (pe_op op_add (pe_op op_add (pe_op op_mod (pv 0) pe_int) (pe_op op_mulX (pe_op op_mulX pe_int (pv 1)) (pv 1))) pe_int) pe_int) pe_int))
    (pss_one (ps_ret (pe_op op_mod (pe_op op_mulX (pv 2) (pe_op op_add pe_int (pe_op op_mulX pe_int (pv 1)))) pe_int)))), ?_⟩
    have kk : 31 * k * k ≤ 31 * 10 ^ 12 * 10 ^ 12 := Int.mul_le_mul (by omega) k1 k0 (by omega)
    have kk0 : 0 ≤ 31 * k * k := Int.mul_nonneg (by omega) k0
    refine ⟨.int cell, rfl, cell, 1000000007, rfl, rfl, (show (0 : Int) < 1000000007 by decide), .int k, rfl, 31, k, rfl, rfl, mulBd (by decide) (by decide) (by omega) (by omega), .int k, rfl, 31 * k, k, rfl, rfl, mulBd (by omega) (by omega) (by omega) (by omega), _, _, rfl, rfl,
      _, 7, rfl, rfl, _, 48271, rfl, rfl, mulBd (by omega) (by omega) (by decide) (by decide), _, 2147483647, rfl, rfl, (show (0 : Int) < 2147483647 by decide), ?_⟩
    have h1 : 0 ≤ (cell % 1000000007 + 31 * k * k + 7) * 48271 % 2147483647 := Int.emod_nonneg _ (by decide)
    have h2 : (cell % 1000000007 + 31 * k * k + 7) * 48271 % 2147483647 < 2147483647 := Int.emod_lt_of_pos _ (by decide)
    refine ⟨_, rfl, .int k, rfl, 7919, k, rfl, rfl, mulBd (by decide) (by decide) (by omega) (by omega), 16807, _, rfl, rfl, (cell % 1000000007 + 31 * k * k + 7) * 48271 % 2147483647, 16807 + 7919 * k, rfl, rfl, mulBd (by omega) (by omega) (by omega) (by omega), _, 2147483629, rfl, rfl, (show (0 : Int) < 2147483629 by decide), ?_⟩
    exact q _ (Int.emod_nonneg _ (by decide)) (Int.emod_lt_of_pos _ (by decide))
def spNext : Sp := fun vs H Q _ => ∃ (d : Addr) (many c : Int), vs = [.ref d, .int many] ∧ Drw H d c ∧ 0 < many ∧ many ≤ 10 ^ 18 ∧ c ≤ 10 ^ 11 ∧
  ∀ (n c' : Int) (H' : Hp), 0 ≤ n → n < many → c ≤ c' → c' ≤ c + 1 → But d H H' → Drw H' d c' → Q (.int n) H'
theorem ok__law_next (T : Tx K mg) : Cal P w K mg base 2 "_law_next" ["draw", "many"] spNext := by
  have G__law_mixed : Cal P w K mg base 1 "_law_mixed" ["cell", "k"] spMixed := ok__law_mixed T
  refine T.d__law_next.cal sc__law_next (fun vs H Q E h => ?_) (fun f cdv A outer s H vs Q E hr h => ?_)
  · obtain ⟨x, n, c, rfl, _⟩ := h
    rfl
  · obtain ⟨d, many, c, rfl, ⟨cell, own, hd, o0, c0⟩, m0, m1, c1, q⟩ := h
    refine ⟨_, (pss_cons (ps_if (pt_cmpR op_gt (pe_ix ix_list (pv 0) pe_int (fun _ _ => rfl)) pe_int (nomark _)) (pss_cons (ps_set (i := 2) sc__law_next.nd rfl (.inl rfl) (pe_op op_mod (pe_ix ix_list (pv 0) pe_int (fun _ _ => rfl)) (pv 1)))
    (pss_cons (ps_asg (pe_op op_fdivW (pe_ix ix_list (pv 0) pe_int (fun _ _ => rfl)) (pv 1)) (pg_sub (pv 0) pe_int set_list))
    (pss_one (ps_ret (pv 2))))) pss_nil)
    (pss_cons (ps_asg (pe_op op_add (pe_ix ix_list (pv 0) pe_int (fun _ _ => rfl)) pe_int) (pg_sub (pv 0) pe_int set_list))
    (pss_cons (ps_set (i := 3) sc__law_next.nd rfl (.inl rfl) (pe_op op_add (pe_op op_mulX (pe_cal G__law_mixed hr (by rfl) (pa_cons (pe_ix ix_list (pv 0) pe_int (fun _ _ => rfl)) (pa_cons (pe_ix ix_list (pv 0) pe_int (fun _ _ => rfl)) pa_nil))) pe_int) (pe_cal G__law_mixed hr (by rfl) (pa_cons (pe_ix ix_list (pv 0) pe_int (fun _ _ => rfl)) (pa_cons (pe_op op_add (pe_ix ix_list (pv 0) pe_int (fun _ _ => rfl)) pe_int) pa_nil)))))
    (pss_one (ps_ret (pe_op op_mod (pe_op op_fdivW (pv 3) pe_int) (pv 1))))))), ?_⟩
    refine ⟨.ref d, rfl, d, _, 2, .int own, rfl, rfl, SqL.of hd, rfl, own, 0, rfl, rfl, _, rfl, ite2 (fun e => ?_) (fun e => ?_)⟩
    · refine ⟨.ref d, rfl, d, _, 2, .int own, rfl, rfl, SqL.of hd, rfl, .int many, rfl, own, many, rfl, rfl, m0, ?_⟩
      refine ⟨.ref d, rfl, d, _, 2, .int own, rfl, rfl, SqL.of hd, rfl, .int many, rfl, own, many, rfl, rfl, divBd m0 (by omega), .ref d, rfl, d, _, 2, 2, rfl, rfl, hd, rfl, ?_⟩
      refine ⟨_, rfl, ?_⟩
      exact q _ c _ (Int.emod_nonneg _ (by omega)) (Int.emod_lt_of_pos _ m0) (Int.le_refl _) (by omega) But.self ⟨cell, own / many, upd_same, Int.ediv_nonneg o0 (by omega), c0⟩
    · refine ⟨.ref d, rfl, d, _, 1, .int c, rfl, rfl, SqL.of hd, rfl, c, 1, rfl, rfl, .ref d, rfl, d, _, 1, 1, rfl, rfl, hd, rfl, ?_⟩
      have hd1 : (L2.upd H d (.lst [.int cell, .int (c + 1), .int own])) d = some (.lst [.int cell, .int (c + 1), .int own]) := upd_same
      refine ⟨.ref d, rfl, d, _, 0, .int cell, rfl, rfl, SqL.of hd1, rfl, .ref d, rfl, d, _, 1, .int (c + 1), rfl, rfl, SqL.of hd1, rfl, cell, c + 1, rfl, by omega, by omega, fun r r0 r1 => ?_⟩
      refine ⟨r, 2147483629, rfl, rfl, mulBd (by omega) (by omega) (by decide) (by decide), ?_⟩
      refine ⟨.ref d, rfl, d, _, 0, .int cell, rfl, rfl, SqL.of hd1, rfl, .ref d, rfl, d, _, 1, .int (c + 1), rfl, rfl, SqL.of hd1, rfl, c + 1, 9001, rfl, rfl, cell, c + 1 + 9001, rfl, by omega, by omega, fun r' _ _ => ?_⟩
      refine ⟨_, _, rfl, rfl, ?_⟩
      refine ⟨_, rfl, _, 11, rfl, rfl, divBd (by decide) (by decide), .int many, rfl, _, many, rfl, rfl, m0, ?_⟩
      exact q _ (c + 1) _ (Int.emod_nonneg _ (by omega)) (Int.emod_lt_of_pos _ m0) (by omega) (Int.le_refl _) But.self ⟨cell, own, hd1, o0, by omega⟩
theorem le_max1 (j : Int) : 1 ≤ (if j > 1 then j else 1) := by split <;> omega
theorem div_in {k m : Int} (k0 : 0 ≤ k) (k1 : k ≤ 10 ^ 6) (hm : 1 ≤ m) : -(2 ^ 62) ≤ k / m ∧ k / m < 2 ^ 62 := by
  have h1 := Int.ediv_nonneg k0 (show 0 ≤ m by omega)
  have h2 := Int.ediv_le_self m k0
  omega
def spDraw (K : PySem.W.Frag) : Sp := fun vs H Q _ => ∃ (a : Addr) (ns : List Int) (k : Int), vs = [.ref a, .int k] ∧ SqL K H a (ns.map V.int) ∧ ns.length ≤ 63 ∧ 0 ≤ k ∧ k ≤ 10 ^ 6 ∧
  ∀ (d : Addr) (H' : Hp), Ex H H' → H d = none → Drw H' d (64 * k) → Q (.ref d) H'
theorem ok__law_draw (T : Tx K mg) : Cal P w K mg base 1 "_law_draw" ["script", "k"] (spDraw K) := by
  refine T.d__law_draw.cal sc__law_draw (fun vs H Q E h => ?_) (fun f cdv A outer s H vs Q E hr h => ?_)
  · obtain ⟨x, n, c, rfl, _⟩ := h
    rfl
  · obtain ⟨a, ns, k, rfl, hS, hl, k0, k1, q⟩ := h
    refine ⟨_, (pss_cons (ps_set (i := 2) sc__law_draw.nd rfl (.inl rfl) (pe_ifExp (pt_cmpR (op_neD hr.units) (pv 0) (pe_lst pa_nil) (nomark _)) (pe_ix ix_list (pv 0) (pe_op op_mod (pv 1) (pe_callB call_len_seq (by rfl) T.b_len (by decide +kernel) (pa_cons (pv 0) pa_nil))) (fun _ _ => rfl)) pe_int))
    (pss_cons (ps_set (i := 3) sc__law_draw.nd rfl (.inl rfl) (pe_ifExp (pt_cmpR op_ge (pv 2) (pe_op op_pow pe_int pe_int) (nomark _)) (pv 2) pe_int))
    (pss_cons (ps_for PassesOwn.never rfl (pi_range1 (by rfl) T.b_range (pa_cons (pe_op op_fdivW (pv 1) (pe_callB (call_max2 rfl) (by rfl) T.b_max (by decide +kernel) (pa_cons pe_int (pa_cons (pe_callB call_len_seq (by rfl) T.b_len (by decide +kernel) (pa_cons (pv 0) pa_nil)) pa_nil)))) pa_nil)) (pg_name (i := 4) sc__law_draw.nd rfl (.inl rfl)) (pss_one (ps_set (i := 3) sc__law_draw.nd rfl (.inl rfl) (pe_op op_fdivW (pv 3) (pe_op op_pow pe_int pe_int)))))
    (pss_one (ps_ret (pe_lst (pa_cons (pv 2) (pa_cons (pe_op op_mulX pe_int (pv 1)) (pa_cons (pv 3) pa_nil))))))))), ?_⟩
    refine ⟨.ref a, rfl, Nat.zero_le _, fun p hp => ?_⟩
    have e1 : Ex H (upd H p (.lst [])) := Evl.Ex.new hp
    have hS1 : SqL K (upd H p (.lst [])) a (ns.map V.int) := Evl.ex_l e1 hS
    refine ⟨.list (ns.map PyData.int), .list [], .lst hS1 dpa_ints, .lst (SqL.of upd_same) .nil, shaped_ints, shaped_nil, _, rfl, ?_⟩
    rw [eqv_nil]
    rcases ns with _ | ⟨n, r⟩
    rotate_left
    have hlen : (0 : Int) < (((n :: r).map V.int).length : Int) := by
      rw [List.length_map, List.length_cons]
      omega
    have m0 := Int.emod_nonneg k (show (((n :: r).map V.int).length : Int) ≠ 0 by omega)
    have m1 := Int.emod_lt_of_pos k hlen
    obtain ⟨j, hj⟩ : ∃ j : Nat, k % (((n :: r).map V.int).length : Int) = (j : Int) := ⟨_, (Int.toNat_of_nonneg m0).symm⟩
    have hlt : j < (n :: r).length := by
      rw [hj, List.length_map] at m1
      omega
    have hat : atI ((n :: r).map V.int) (k % (((n :: r).map V.int).length : Int)) = some (.int ((n :: r)[j])) := by
      rw [hj]
      exact atI_nat (by rw [List.getElem?_map, List.getElem?_eq_getElem hlt]; rfl)
    refine iteT ⟨.ref a, rfl, .int k, rfl, .ref a, rfl, a, _, rfl, .inl hS1, k, _, rfl, rfl, hlen, a, _, _, _, rfl, rfl, hS1, hat, ?_⟩
    rotate_left
    refine iteF ?_
    all_goals (refine ⟨_, rfl, 10, 18, rfl, rfl, ⟨by decide, by decide, by decide⟩, _, _, rfl, rfl, _, rfl, ?_⟩)
    all_goals (refine ite2 (fun e => ⟨_, rfl, ?_⟩) (fun e => ?_))
    all_goals (refine ⟨.int k, rfl, .ref a, rfl, a, _, rfl, .inl hS1, 1, _, rfl, k, _, rfl, rfl, ?_, _, rfl, ?_⟩)
    all_goals first
      | (show CDivW _ _
         simp only [List.length_map, List.length_nil, List.length_cons] at hl ⊢
         exact divBd (by split <;> omega) (by split <;> omega))
      | skip
    all_goals (refine ⟨(div_in k0 k1 (le_max1 _)).1, (div_in k0 k1 (le_max1 _)).2, for_range (fun i σ H' => H' = upd H p (.lst []) ∧ ∃ own t, σ = [some (.ref a), some (.int k), some (.int _), some (.int own), t] ∧ 0 ≤ own) ⟨rfl, _, _, rfl, ?_⟩ ?_ ?_⟩)
    all_goals first
      | (rintro i σ H' hi ⟨rfl, own, t, rfl, h0⟩
         refine ⟨_, rfl, 10, 18, rfl, rfl, ⟨by decide, by decide, by decide⟩, own, _, rfl, rfl, divBd (by decide) (by decide), ?_⟩
         exact ⟨rfl, _, _, rfl, Int.ediv_nonneg h0 (by decide)⟩)
      | (rintro σ H' ⟨rfl, own, t, rfl, h0⟩
         refine ⟨_, rfl, .int k, rfl, 64, k, rfl, rfl, mulBd (by decide) (by decide) (by omega) (by omega), _, rfl, sz16 (by show 3 ≤ 16000000; decide), fun d hd => ?_⟩
         exact q d _ (e1.trans (Evl.Ex.new hd)) (Evl.fresh_back e1 hd) ⟨_, own, upd_same, h0, by omega⟩)
      | exact Int.le_trans (show (0 : Int) ≤ 10 ^ Int.toNat 18 by decide) (of_decide_eq_true e)
      | exact Int.le_refl _

/-! ### a drawn text -/
theorem at_mem {xs : List V} {n : Int} (h0 : 0 ≤ n) (h1 : n < xs.length) : ∃ v, v ∈ xs ∧ atI xs n = some v := by
  obtain ⟨j, rfl⟩ : ∃ j : Nat, n = (j : Int) := ⟨_, (Int.toNat_of_nonneg h0).symm⟩
  have hj : j < xs.length := by omega
  exact ⟨xs[j], List.getElem_mem hj, atI_nat (List.getElem?_eq_getElem hj)⟩
theorem at_memN {xs : List Nat} {n : Int} (h0 : 0 ≤ n) (h1 : n < xs.length) : ∃ v, v ∈ xs ∧ atI xs n = some v := by
  obtain ⟨j, rfl⟩ : ∃ j : Nat, n = (j : Int) := ⟨_, (Int.toNat_of_nonneg h0).symm⟩
  have hj : j < xs.length := by omega
  exact ⟨xs[j], List.getElem_mem hj, atI_nat (List.getElem?_eq_getElem hj)⟩
def ascB (z : Str) : Bool := z.cps.toList.all fun c => decide (c < 128)
theorem asc_of {z : Str} (h : ascB z = true) : Asc z := fun c hc => of_decide_eq_true (List.all_eq_true.mp h c hc)
theorem joinL_nil : ∀ l : List (List Nat), TL.joinL [] l = l.flatten
  | [] => rfl
  | [p] => by
    show p = _
    simp
  | p :: q :: r => by
    show p ++ ([] ++ TL.joinL [] (q :: r)) = _
    rw [joinL_nil (q :: r), List.nil_append]
    rfl
theorem glue_list (zs : List Str) : (Txt.join ("" : Str) zs).cps.toList = (zs.map fun z => z.cps.toList).flatten := by
  rw [TL.join_eq]
  have h := TL.tl_join ("" : Str) zs
  have e : TL.tl ("" : Str) = [] := by decide +kernel
  rw [e, joinL_nil] at h
  exact h
theorem flat_ones : ∀ {zs : List Str}, (∀ z ∈ zs, z.cps.toList.length = 1) → ((zs.map fun z => z.cps.toList).flatten).length = zs.length
  | [], _ => rfl
  | z :: r, h => by
    rw [List.map_cons, List.flatten_cons, List.length_append, h z List.mem_cons_self, flat_ones fun y hy => h y (List.mem_cons_of_mem _ hy), List.length_cons]
    omega
theorem sum_ones : ∀ {zs : List Str}, (∀ z ∈ zs, z.cps.toList.length = 1) → (zs.map fun z => z.length).sum = zs.length
  | [], _ => rfl
  | z :: r, h => by
    have e : z.length = 1 := (Array.length_toList (xs := z.cps)).symm.trans (h z List.mem_cons_self)
    rw [List.map_cons, List.sum_cons, e, sum_ones fun y hy => h y (List.mem_cons_of_mem _ hy), List.length_cons]
    omega
def spText : Sp := fun vs H Q _ => ∃ (d : Addr) (c : Int), vs = [.ref d] ∧ Drw H d c ∧ c ≤ 10 ^ 10 ∧
  ∀ (z : Str) (c' : Int) (H' : Hp), z.length ≤ 9 → Asc z → c ≤ c' → c' ≤ c + 20 → But d H H' → Drw H' d c' → Q (.str z) H'
theorem ok__law_text (T : Tx K mg) : Cal P w K mg base 3 "_law_text" ["draw"] spText := by
  have G__law_next : Cal P w K mg base 2 "_law_next" ["draw", "many"] spNext := ok__law_next T
  refine T.d__law_text.cal sc__law_text (fun vs H Q E h => ?_) (fun f cdv A outer s H vs Q E hr h => ?_)
  · obtain ⟨x, n, rfl, _⟩ := h
    rfl
  · obtain ⟨d, c, rfl, hd, c1, q⟩ := h
    refine ⟨_, (pss_cons (ps_set (i := 1) sc__law_text.nd rfl (.inr rfl) (pe_ix ix_list (pe_lst (pa_cons pe_str (pa_cons pe_str (pa_cons pe_str (pa_cons pe_str (pa_cons pe_str (pa_cons pe_str pa_nil))))))) (pe_cal G__law_next hr (by rfl) (pa_cons (pv 0) (pa_cons pe_int pa_nil))) (fun _ _ => rfl)))
    (pss_cons (ps_set (i := 2) sc__law_text.nd rfl (.inl rfl) (pe_ix ix_list (pe_lst (pa_cons pe_int (pa_cons pe_int (pa_cons pe_int (pa_cons pe_int (pa_cons pe_int (pa_cons pe_int (pa_cons pe_int (pa_cons pe_int pa_nil))))))))) (pe_cal G__law_next hr (by rfl) (pa_cons (pv 0) (pa_cons pe_int pa_nil))) (fun _ _ => rfl)))
    (pss_one (ps_ret (pe_join pe_str (pe_lc (own := [("place", 3)]) rfl sc__law_text.nd (pi_range1 (by rfl) T.b_range (pa_cons (pv 2) pa_nil)) (blkOk_by (own := [("place", 3)]) (N := N__law_text) (sc := defScope s__law_text) (by decide +kernel)) (fun _ _ _ _ _ => (pg_name (i := 3) sc__law_text.nd rfl (.inl rfl))) (fun _ _ _ _ _ => pts_nil) (fun _ _ _ _ _ => (pe_ix ix_str (pv 1) (pe_cal G__law_next hr (by rfl) (pa_cons (pv 0) (pa_cons (pe_callB call_len_str (by rfl) T.b_len (by decide +kernel) (pa_cons (pv 1) pa_nil)) pa_nil))) (fun _ _ => rfl))))))))), ?_⟩
    refine ⟨sz16 (by decide), fun p hp => ?_⟩
    have d1 := hd.upd (o := .lst [.str "abz", .str "0123456789", .str "a0", .str "019", .str "aA- ", .str "+-0.1"]) (hd.ne hp)
    refine ⟨.ref d, rfl, d, 6, c, rfl, d1, by decide, by decide, by omega, fun n c2 H2 n0 n1 k1 k2 b2 d2 => ?_⟩
    have hp2 : H2 p = some (.lst [.str "abz", .str "0123456789", .str "a0", .str "019", .str "aA- ", .str "+-0.1"]) := b2 p _ (hd.ne hp).symm upd_same
    obtain ⟨v, hv, hat⟩ := at_mem (xs := [.str "abz", .str "0123456789", .str "a0", .str "019", .str "aA- ", .str "+-0.1"]) n0 n1
    obtain ⟨sg, rfl, sa, s1, s2⟩ : ∃ sg : Str, v = .str sg ∧ Asc sg ∧ 1 ≤ sg.length ∧ sg.length ≤ 10 := by
      simp only [List.mem_cons, List.not_mem_nil, or_false] at hv
      rcases hv with e | e | e | e | e | e <;> subst e <;> exact ⟨_, rfl, asc_of (by decide +kernel), by decide +kernel, by decide +kernel⟩
    refine ⟨p, _, n, _, rfl, rfl, SqL.of hp2, hat, ?_⟩
    have eb : But d H H2 := But.exl (Evl.Ex.new hp) b2
    refine ⟨sz16 (by decide), fun p3 hp3 => ?_⟩
    have d3 := d2.upd (o := .lst [.int 0, .int 1, .int 2, .int 7, .int 8, .int 9, .int 3, .int 4]) (d2.ne hp3)
    refine ⟨.ref d, rfl, d, 8, c2, rfl, d3, by decide, by decide, by omega, fun n4 c4 H4 m0 m1 k3 k4 b4 d4 => ?_⟩
    have hp4 : H4 p3 = some (.lst [.int 0, .int 1, .int 2, .int 7, .int 8, .int 9, .int 3, .int 4]) := b4 p3 _ (d2.ne hp3).symm upd_same
    obtain ⟨v, hv, hat4⟩ := at_mem (xs := [.int 0, .int 1, .int 2, .int 7, .int 8, .int 9, .int 3, .int 4]) m0 m1
    obtain ⟨m, rfl, r0, r1⟩ : ∃ m : Nat, v = .int m ∧ 0 ≤ m ∧ m ≤ 9 := by
      simp only [List.mem_cons, List.not_mem_nil, or_false] at hv
      rcases hv with e | e | e | e | e | e | e | e <;> subst e <;> first | exact ⟨0, rfl, by decide, by decide⟩ | exact ⟨1, rfl, by decide, by decide⟩ | exact ⟨2, rfl, by decide, by decide⟩ | exact ⟨3, rfl, by decide, by decide⟩ | exact ⟨4, rfl, by decide, by decide⟩ | exact ⟨7, rfl, by decide, by decide⟩ | exact ⟨8, rfl, by decide, by decide⟩ | exact ⟨9, rfl, by decide, by decide⟩
    refine ⟨p3, _, n4, _, rfl, rfl, SqL.of hp4, hat4, ?_⟩
    have eb4 : But d H H4 := eb.trans (But.exl (Evl.Ex.new hp3) b4)
    refine ⟨⟨_, rfl⟩, .int m, rfl, m, rfl, by omega, by omega, fun D hD => ?_⟩
    refine lc_range (fun i H' => ∃ (c' : Int) (zs : List Str), c4 ≤ c' ∧ c' ≤ c4 + i ∧ But d H4 H' ∧ Drw H' d c' ∧ H' D = some (.lst (zs.map V.str)) ∧ zs.length = i ∧ ∀ z ∈ zs, z.cps.toList.length = 1 ∧ Asc z)
      ⟨c4, [], Int.le_refl _, by simp, But.of (Evl.Ex.new hD), d4.upd (d4.ne hD), upd_same, rfl, fun _ h => nomatch h⟩ ?_ ?_
    · rintro i H' hi ⟨c', zs, x1, x2, x3, x4, x5, x6, x7⟩
      refine ⟨rfl, .str sg, rfl, .ref d, rfl, .str sg, rfl, sg, rfl, sz16 (by omega), d, sg.length, c', rfl, x4, by omega, by omega, by omega, fun j c5 H5 j0 j1 y1 y2 b5 d5 => ?_⟩
      have hlen : sg.cps.toList.length = sg.length := Array.length_toList
      obtain ⟨code, hc, hat5⟩ := at_memN (xs := sg.cps.toList) j0 (by omega)
      refine ⟨sg, j, code, rfl, rfl, sz16 (by omega), hat5, _, b5 D _ (d4.ne hD).symm x5, by rw [List.length_map, sizeLine_eq]; omega, ?_⟩
      refine ⟨c5, zs ++ [⟨#[code]⟩], by omega, by omega, (x3.trans b5).mut hD, d5.upd (d4.ne hD), by rw [upd_same, List.map_append]; rfl, by rw [List.length_append, x6]; rfl, fun z hz => ?_⟩
      rcases List.mem_append.mp hz with hz | hz
      · exact x7 z hz
      · rw [List.mem_singleton.mp hz]
        refine ⟨rfl, fun c hcc => ?_⟩
        have : c = code := by simpa using hcc
        rw [this]
        exact sa code hc
    · rintro H' ⟨c', zs, x1, x2, x3, x4, x5, x6, x7⟩
      have o1 : ∀ z ∈ zs, z.cps.toList.length = 1 := fun z hz => (x7 z hz).1
      have e0 : Str.length ("" : Str) = 0 := by decide +kernel
      refine ⟨"", D, zs, rfl, rfl, .inl (SqL.of x5), by rw [sum_ones o1, e0]; omega, ?_⟩
      have hg := glue_list zs
      refine q _ c' H' ?_ ?_ (by omega) (by omega) (eb4.trans x3) x4
      · have := flat_ones o1
        rw [← hg] at this
        have h2 : (Txt.join ("" : Str) zs).cps.toList.length = (Txt.join ("" : Str) zs).length := Array.length_toList
        omega
      · intro c hc
        rw [hg] at hc
        obtain ⟨l, hl, hcl⟩ := List.mem_flatten.mp hc
        obtain ⟨z, hz, rfl⟩ := List.mem_map.mp hl
        exact (x7 z hz).2 c hcl

/-! ### the law's own looks -/
def spTruth : Sp := fun vs H Q _ => ∃ a : Bool, vs = [.bl a, .bl a] ∧ Q (.bl true) H
theorem ok__law_truth (T : Tx K mg) : Cal P w K mg base 1 "_law_truth" ["found", "due"] spTruth := by
  refine T.d__law_truth.cal sc__law_truth (fun vs H Q E h => ?_) (fun f cdv A outer s H vs Q E hr h => ?_)
  · obtain ⟨x, rfl, _⟩ := h
    rfl
  · obtain ⟨a, rfl, q⟩ := h
    refine ⟨_, (pss_one (ps_ret (pe_and (pe_callB call_isi (by rfl) T.b_isinstance (by decide +kernel) (pa_cons (pv 0) (pa_cons (pe_bltn (v := .ty "bool") rfl T.b_bool (by decide +kernel) rfl) pa_nil))) (pe_one (pe_cmpR op_eq (pv 0) (pv 1) (nomark _)))))), ?_⟩
    refine rd_bool? rfl (Kd.bl a) ⟨_, rfl, iteT ⟨.bl a, rfl, .bl a, rfl, rfl, ?_⟩⟩
    rw [decide_eq_true rfl]
    exact q
theorem dig_lt : ∀ {l : List Nat}, l.all isDig = true → NumText.digitsVal l < 10 ^ l.length := by
  have key : ∀ (l : List Nat) (a : Nat), l.all isDig = true → l.foldl (fun acc c => acc * 10 + (c - 48)) a < (a + 1) * 10 ^ l.length := by
    intro l
    induction l with
    | nil =>
      intro a _
      simp
    | cons c r ih =>
      intro a h
      rw [List.all_cons, Bool.and_eq_true] at h
      have hc := isDig_iff.mp h.1
      rw [List.foldl_cons, List.length_cons, Nat.pow_succ]
      refine Nat.lt_of_lt_of_le (ih _ h.2) ?_
      rw [Nat.mul_comm (10 ^ r.length) 10, ← Nat.mul_assoc]
      refine Nat.mul_le_mul_right _ ?_
      omega
  intro l h
  have := key l 0 h
  unfold NumText.digitsVal
  simpa using this
theorem dig_snoc (l : List Nat) (c : Nat) : NumText.digitsVal (l ++ [c]) = NumText.digitsVal l * 10 + (c - 48) := by
  unfold NumText.digitsVal
  rw [List.foldl_append]
  rfl
theorem occ_dig {c : Nat} (h : isDig c = true) : Builtin.Str.occurrences ("0123456789" : Str) ⟨#[c]⟩ 0 (Str.length ("0123456789" : Str)) 1 = [c - 48] := by
  have := isDig_iff.mp h
  have hc : c = 48 ∨ c = 49 ∨ c = 50 ∨ c = 51 ∨ c = 52 ∨ c = 53 ∨ c = 54 ∨ c = 55 ∨ c = 56 ∨ c = 57 := by omega
  rcases hc with e | e | e | e | e | e | e | e | e | e <;> subst e <;> decide +kernel
theorem filt_nil {l : List Nat} : (l.filter fun c => !isDig c) = [] ↔ l.all isDig = true := by
  rw [List.filter_eq_nil_iff, List.all_eq_true]
  constructor
  · intro h x hx
    have := h x hx
    simpa using this
  · intro h x hx
    simp [h x hx]
theorem one48 {c : Nat} : (V.str ⟨#[c]⟩ = V.str "0") ↔ c = 48 := by
  have e0 : ("0" : Str) = ⟨#[48]⟩ := by decide +kernel
  rw [e0]
  constructor
  · intro h
    have := congrArg Str.cps (V.str.inj h)
    simpa using this
  · intro h
    rw [h]
def spLNum : Sp := fun vs H Q _ => ∃ z : Str, vs = [.str z] ∧ z.length ≤ 16000000 ∧ Asc z ∧ ∀ H', Ex H H' → Q (numV z) H'
theorem ok__law_number (T : Tx K mg) : Cal P w K mg base 1 "_law_number" ["word"] spLNum := by
  refine T.d__law_number.cal sc__law_number (fun vs H Q E h => ?_) (fun f cdv A outer s H vs Q E hr h => ?_)
  · obtain ⟨x, rfl, _⟩ := h
    rfl
  · obtain ⟨z, rfl, hz, hasc, q⟩ := h
    refine ⟨_, (pss_cons (ps_if (PW.pt (pw_or (pt_not (pt_chain op_lt op_lt pe_int (pe_callB call_len_str (by rfl) T.b_len (by decide +kernel) (pa_cons (pv 0) pa_nil)) pe_int)) (pw_or1 (pt_cmpR (op_neD hr.units) (pe_lc (own := [("sign", 2)]) rfl sc__law_number.nd (pi_str (pv 0)) (blkOk_by (own := [("sign", 2)]) (N := N__law_number) (sc := defScope s__law_number) (by decide +kernel)) (fun _ _ _ _ _ => (pg_name (i := 2) sc__law_number.nd rfl (.inl rfl))) (fun _ _ _ _ _ => pts_one (pt_cmpR op_notIn_sign (pv 2) pe_str (by rfl))) (fun _ _ _ _ _ => (pv 2))) (pe_lst pa_nil) (nomark _))))) (pss_one (ps_ret pe_non)) pss_nil)
    (pss_cons (ps_set (i := 1) sc__law_number.nd rfl (.inl rfl) pe_int)
    (pss_cons (ps_for PassesOwn.never rfl (pi_str (pv 0)) (pg_name (i := 2) sc__law_number.nd rfl (.inl rfl)) (pss_one (ps_set (i := 1) sc__law_number.nd rfl (.inl rfl) (pe_op op_add (pe_op op_mulX pe_int (pv 1)) (pe_m1 PySem.F.slot_str_index PySem.F.type_str_index mt_sindex pe_str (pv 2))))))
    (pss_one (ps_ret (pe_ifExp (PW.pt (pw_and (pt_cmpR op_eq (pe_ix ix_str (pv 0) pe_int (fun _ _ => rfl)) pe_str (nomark _)) (pw_and1 (pt_cmpR op_gt (pe_callB call_len_str (by rfl) T.b_len (by decide +kernel) (pa_cons (pv 0) pa_nil)) pe_int (nomark _))))) pe_non (pv 1))))))), ?_⟩
    have hb : ∀ {b : Bool}, (decide ((1 : Int) ≤ (z.length : Int)) && decide ((z.length : Int) ≤ 7) && z.cps.toList.all isDig) = b → b = false → numV z = .non := fun e f => by
      unfold numV
      rw [e, f]
      rfl
    have zl : z.cps.toList.length = z.length := Array.length_toList
    refine ⟨.str z, rfl, z, rfl, sz16 hz, 0, (z.length : Int), rfl, rfl, _, rfl, ite2 (fun e1 => ?_) (fun e1 => ?_)⟩
    · have e1' : (0 : Int) < z.length := of_decide_eq_true e1
      refine ⟨(z.length : Int), 8, rfl, rfl, _, rfl, ?_⟩
      by_cases e2 : (z.length : Int) < 8
      · rw [decide_eq_true e2]
        refine iteF ⟨.str z, rfl, z, rfl, lcS (fun c => V.str ⟨#[c]⟩) (fun c => !isDig c) hz ?_ ?_⟩
        · intro c H' _ _ R R0 hR hR0
          refine ⟨rfl, .str ⟨#[c]⟩, rfl, c, _, rfl, rfl, _, rfl, ?_⟩
          cases hc : isDig c with
          | true =>
            have : (!decide (c ∈ (("0123456789" : Str)).cps.toList)) = false := by
              rw [show decide (c ∈ (("0123456789" : Str)).cps.toList) = isDig c from rfl, hc]
              rfl
            rw [this]
            exact iteF (hR0 (by rw [hc]; rfl) H' (Evl.Ex.refl _))
          | false =>
            have : (!decide (c ∈ (("0123456789" : Str)).cps.toList)) = true := by
              rw [show decide (c ∈ (("0123456789" : Str)).cps.toList) = isDig c from rfl, hc]
              rfl
            rw [this]
            exact iteT ⟨_, rfl, hR (by rw [hc]; rfl) H' (Evl.Ex.refl _)⟩
        · intro D H' _ e hD
          have hD' : H' D = some (.lst (((z.cps.toList.filter fun c => !isDig c).map fun c => (⟨#[c]⟩ : Str)).map V.str)) := by
            rw [hD, List.map_map]
            rfl
          refine ⟨sz16 (by decide), fun p hp => ?_⟩
          have hs : ∀ y ∈ ((z.cps.toList.filter fun c => !isDig c).map fun c => (⟨#[c]⟩ : Str)), Asc y := fun y hy => by
            obtain ⟨c, hc, rfl⟩ := List.mem_map.mp hy
            intro c' hc'
            have : c' = c := by simpa using hc'
            rw [this]
            exact hasc c (List.mem_filter.mp hc).1
          refine ⟨.list (((z.cps.toList.filter fun c => !isDig c).map fun c => (⟨#[c]⟩ : Str)).map PyData.str), .list [], .lst (Evl.ex_l (Evl.Ex.new hp) (SqL.of hD')) dpa_strs, .lst (SqL.of upd_same) .nil, shaped_strs hs, shaped_nil, _, rfl, ?_⟩
          rw [eqv_nil]
          have e4 : Ex H (upd H' p (.lst [])) := e.trans (Evl.Ex.new hp)
          by_cases ha : z.cps.toList.all isDig = true
          · rw [filt_nil.mpr ha]
            refine iteF ⟨.str z, rfl, z, rfl, for_str (fun i σ H2 => H2 = upd H' p (.lst []) ∧ ∃ t, σ = [some (.str z), some (.int (NumText.digitsVal (z.cps.toList.take i) : Nat)), t]) ⟨rfl, _, rfl⟩ ?_ ?_⟩
            · rintro i c σ H2 hc ⟨rfl, t, rfl⟩
              have hcl : z.cps.toList[i]? = some c := by rw [Array.getElem?_toList]; exact hc
              have hcd : isDig c = true := List.all_eq_true.mp ha c (List.mem_of_getElem? hcl)
              have ht : z.cps.toList.take (i + 1) = z.cps.toList.take i ++ [c] := by rw [List.take_add_one, hcl]; rfl
              have hat : (z.cps.toList.take i).all isDig = true := List.all_eq_true.mpr fun x hx => List.all_eq_true.mp ha x (List.mem_of_mem_take hx)
              have hlt := dig_lt hat
              have hle : (10 : Nat) ^ (z.cps.toList.take i).length ≤ 10 ^ 7 := Nat.pow_le_pow_right (by decide) (by rw [List.length_take]; omega)
              refine ⟨_, rfl, 10, _, rfl, rfl, mulBd (by decide) (by decide) (by omega) (by omega), ⟨_, rfl⟩, .str ⟨#[c]⟩, rfl, _, _, _, [], rfl, rfl, occ_dig hcd, _, _, rfl, rfl, ?_⟩
              refine ⟨rfl, some (.str ⟨#[c]⟩), ?_⟩
              rw [ht, dig_snoc]
              show [some (V.str z), some (V.int (10 * ((NumText.digitsVal (z.cps.toList.take i) : Nat) : Int) + ((c - 48 : Nat) : Int))), some (V.str ⟨#[c]⟩)] = _
              rw [show (10 * ((NumText.digitsVal (z.cps.toList.take i) : Nat) : Int) + ((c - 48 : Nat) : Int)) = ((NumText.digitsVal (z.cps.toList.take i) * 10 + (c - 48) : Nat) : Int) by omega]
            · rintro σ H2 ⟨rfl, t, rfl⟩
              have htk : z.cps.toList.take z.cps.size = z.cps.toList := by rw [← Array.length_toList]; exact List.take_length
              rw [htk]
              have hn : numV z = if z.cps.toList.head? = some 48 ∧ z.length ≠ 1 then V.non else .int (NumText.digitsVal z.cps.toList : Nat) := by
                unfold numV
                rw [decide_eq_true (show (1 : Int) ≤ z.length by omega), decide_eq_true (show (z.length : Int) ≤ 7 by omega), ha]
                rfl
              obtain ⟨c0, hc0⟩ : ∃ c0, z.cps.toList.head? = some c0 := by
                cases hzl : z.cps.toList with
                | nil =>
                  rw [hzl] at zl
                  simp at zl
                  omega
                | cons c r => exact ⟨c, rfl⟩
              refine ⟨.str z, rfl, z, 0, c0, rfl, rfl, sz16 hz, atI_nat (j := 0) (by rw [← List.head?_eq_getElem?]; exact hc0), rfl, _, rfl, ?_⟩
              rw [hc0] at hn
              by_cases h48 : c0 = 48
              · rw [decide_eq_true (one48.mpr h48)]
                refine iteT ⟨.str z, rfl, z, rfl, sz16 hz, (z.length : Int), 1, rfl, rfl, _, rfl, ite2 (fun e5 => ?_) (fun e5 => ?_)⟩
                · rw [if_pos ⟨by rw [h48], fun h => by have := of_decide_eq_true e5; omega⟩] at hn
                  show Q .non _
                  rw [← hn]
                  exact q _ e4
                · rw [if_neg (fun h => e5 (decide_eq_true (by have := h.2; omega)))] at hn
                  refine ⟨_, rfl, ?_⟩
                  show Q (.int _) _
                  rw [← hn]
                  exact q _ e4
              · rw [decide_eq_false (fun h => h48 (one48.mp h))]
                rw [if_neg (fun h => h48 (Option.some.inj h.1))] at hn
                refine iteF (iteF ⟨_, rfl, ?_⟩)
                show Q (.int _) _
                rw [← hn]
                exact q _ e4
          · have hne : (List.map PyData.str ((z.cps.toList.filter fun c => !isDig c).map fun c => (⟨#[c]⟩ : Str))).isEmpty = false := by
              cases hf : (z.cps.toList.filter fun c => !isDig c) with
              | nil => exact absurd (filt_nil.mp hf) ha
              | cons c r => rfl
            rw [hne]
            refine iteT ?_
            show Q .non _
            rw [← hb (by rw [Bool.eq_false_iff.mpr ha, Bool.and_false]) rfl]
            exact q _ e4
      · rw [decide_eq_false e2]
        refine iteT ?_
        show Q .non H
        rw [← hb (by rw [decide_eq_false (show ¬ (z.length : Int) ≤ 7 by omega), Bool.and_false]; rfl) rfl]
        exact q H (Evl.Ex.refl _)
    · refine ⟨_, rfl, iteT ?_⟩
      show Q .non H
      rw [← hb (by rw [decide_eq_false (show ¬ (1 : Int) ≤ (z.length : Int) from fun h => e1 (decide_eq_true (by omega)))]; rfl) rfl]
      exact q H (Evl.Ex.refl _)

theorem numV_cases (z : Str) : numV z = .non ∨ ∃ n, numV z = .int n := by
  unfold numV
  split
  · split
    · exact .inl rfl
    · exact .inr ⟨_, rfl⟩
  · exact .inl rfl
def spWordR : Sp := fun vs H Q _ => ∃ z : Str, vs = [.str z] ∧ z.length ≤ 16000000 ∧ Asc z ∧ ∀ H', Ex H H' → Q (.bl true) H'
theorem ok__law_word_right (T : Tx K mg) : Cal P w K mg base 2 "_law_word_right" ["word"] spWordR := by
  have G__law_number : Cal P w K mg base 1 "_law_number" ["word"] spLNum := ok__law_number T
  have G_number_of : Cal P w K mg base 1 "number_of" ["word"] spNum := ok_number_of T
  refine T.d__law_word_right.cal sc__law_word_right (fun vs H Q E h => ?_) (fun f cdv A outer s H vs Q E hr h => ?_)
  · obtain ⟨x, rfl, _⟩ := h
    rfl
  · obtain ⟨z, rfl, hz, hasc, q⟩ := h
    refine ⟨_, (pss_cons (ps_par (i := 1) (j := 2) (by rfl) sc__law_word_right.nd rfl rfl (by decide) rfl rfl (pa_cons (pe_cal G_number_of hr (by rfl) (pa_cons (pv 0) pa_nil)) (pa_cons (pe_cal G__law_number hr (by rfl) (pa_cons (pv 0) pa_nil)) pa_nil)) (by rfl))
    (pss_cons (ps_if (pt_cmpR op_isN (pv 2) pe_non (nomark _)) (pss_one (ps_ret (pe_cmpR op_isN (pv 1) pe_non (nomark _)))) pss_nil)
    (pss_one (ps_ret (pe_and (pe_callB call_isi (by rfl) T.b_isinstance (by decide +kernel) (pa_cons (pv 1) (pa_cons (pe_bltn (v := .ty "int") rfl T.b_int (by decide +kernel) rfl) pa_nil))) (pe_and (pe_not (pe_callB call_isi (by rfl) T.b_isinstance (by decide +kernel) (pa_cons (pv 1) (pa_cons (pe_bltn (v := .ty "bool") rfl T.b_bool (by decide +kernel) rfl) pa_nil)))) (pe_one (pe_cmpR op_eq (pv 1) (pv 2) (nomark _))))))))), ?_⟩
    refine ⟨.str z, rfl, z, rfl, hz, fun H1 e1 => ⟨.str z, rfl, z, rfl, hz, hasc, fun H2 e2 => ⟨_, _, rfl, ?_⟩⟩⟩
    refine ⟨numV z, rfl, rfl, _, rfl, ?_⟩
    rcases numV_cases z with e | ⟨n, e⟩ <;> rw [e]
    · rw [decide_eq_true rfl]
      refine iteT ⟨.non, rfl, rfl, ?_⟩
      rw [decide_eq_true rfl]
      exact q H2 (e1.trans e2)
    · rw [decide_eq_false (by intro h; cases h)]
      refine iteF (rd_int? rfl (Kd.int n) ⟨_, rfl, iteT (rd_bool? rfl (Kd.int n) ⟨_, rfl, ⟨_, rfl, iteT ⟨.int n, rfl, .int n, rfl, rfl, ?_⟩⟩⟩)⟩)
      rw [decide_eq_true rfl]
      exact q H2 (e1.trans e2)
def spThingR (K : PySem.W.Frag) : Sp := fun vs H Q _ => ∃ x n a b, vs = [x, .int a, .int b] ∧ Kd K H x n ∧ Fit x ∧ ∀ H', Ex H H' → Q (.bl true) H'
theorem ok__law_thing_right (T : Tx K mg) : Cal P w K mg base 3 "_law_thing_right" ["thing", "least", "most"] (spThingR K) := by
  have G__law_truth : Cal P w K mg base 1 "_law_truth" ["found", "due"] spTruth := ok__law_truth T
  have G_is_whole : Cal P w K mg base 1 "is_whole" ["thing"] (spWhole K) := ok_is_whole T
  have G_is_among : Cal P w K mg base 2 "is_among" ["thing", "least", "most"] (spAmong K) := ok_is_among T
  have G_is_name : Cal P w K mg base 1 "is_name" ["thing"] (spName K) := ok_is_name T
  refine T.d__law_thing_right.cal sc__law_thing_right (fun vs H Q E h => ?_) (fun f cdv A outer s H vs Q E hr h => ?_)
  · obtain ⟨x, n, a, b, rfl, _⟩ := h
    rfl
  · obtain ⟨x, n, a, b, rfl, hk, hf, q⟩ := h
    refine ⟨_, (pss_cons (ps_set (i := 3) sc__law_thing_right.nd rfl (.inl rfl) (pe_and (pe_callB call_isi (by rfl) T.b_isinstance (by decide +kernel) (pa_cons (pv 0) (pa_cons (pe_bltn (v := .ty "int") rfl T.b_int (by decide +kernel) rfl) pa_nil))) (pe_one (pe_not (pe_callB call_isi (by rfl) T.b_isinstance (by decide +kernel) (pa_cons (pv 0) (pa_cons (pe_bltn (v := .ty "bool") rfl T.b_bool (by decide +kernel) rfl) pa_nil)))))))
    (pss_cons (ps_if (pt_not (pt_val (pe_cal G__law_truth (hr.mono (by decide)) (by rfl) (pa_cons (pe_cal G_is_whole (hr.mono (by decide)) (by rfl) (pa_cons (pv 0) pa_nil)) (pa_cons (pv 3) pa_nil))))) (pss_one (ps_ret pe_bl)) pss_nil)
    (pss_cons (ps_if (pt_not (pt_val (pe_cal G__law_truth (hr.mono (by decide)) (by rfl) (pa_cons (pe_cal G_is_among hr (by rfl) (pa_cons (pv 0) (pa_cons (pv 1) (pa_cons (pv 2) pa_nil)))) (pa_cons (pe_and (pv 3) (pe_one (pe_chain op_le op_le (pv 1) (pv 0) (pv 2)))) pa_nil))))) (pss_one (ps_ret pe_bl)) pss_nil)
    (pss_cons (ps_set (i := 4) sc__law_thing_right.nd rfl (.inr rfl) pe_str)
    (pss_cons (ps_set (i := 5) sc__law_thing_right.nd rfl (.inl rfl) (pe_and (pe_callB call_isi (by rfl) T.b_isinstance (by decide +kernel) (pa_cons (pv 0) (pa_cons (pe_bltn (v := .ty "str") rfl T.b_str (by decide +kernel) rfl) pa_nil))) (pe_one (pe_chain op_lt op_lt pe_int (pe_callB call_len_str (by rfl) T.b_len (by decide +kernel) (pa_cons (pv 0) pa_nil)) pe_int))))
    (pss_one (ps_ret (pe_cal G__law_truth (hr.mono (by decide)) (by rfl) (pa_cons (pe_cal G_is_name (hr.mono (by decide)) (by rfl) (pa_cons (pv 0) pa_nil)) (pa_cons (pe_and (pv 5) (pe_one (pe_cmpR (op_eqD hr.units) (pe_lc (own := [("sign", 6)]) rfl sc__law_thing_right.nd (pi_str (pv 0)) (blkOk_by (own := [("sign", 6)]) (N := N__law_thing_right) (sc := defScope s__law_thing_right) (by decide +kernel)) (fun _ _ _ _ _ => (pg_name (i := 6) sc__law_thing_right.nd rfl (.inl rfl))) (fun _ _ _ _ _ => pts_one (pt_cmpR op_notIn_sign (pv 6) (pv 4) (by rfl))) (fun _ _ _ _ _ => (pv 6))) (pe_lst pa_nil) (nomark _)))) pa_nil)))))))))), ?_⟩
    refine rd_int? rfl hk ⟨_, rfl, ?_⟩
    cases x with
    | byt y => cases hk
    | flt y => cases hk
    | ty y => cases hk
    | int i =>
      refine iteT (rd_bool? rfl hk ⟨_, rfl, ?_⟩)
      refine ⟨.int i, rfl, .int i, n, rfl, hk, .bl true, rfl, true, rfl, _, rfl, iteF ?_⟩
      refine ⟨.int i, rfl, .int a, rfl, .int b, rfl, .int i, n, a, b, rfl, hk, .bl true, rfl, true, rfl, iteT ⟨.int a, rfl, .int i, rfl, a, i, rfl, rfl, _, rfl, ite2 (fun e => ⟨.int b, rfl, i, b, rfl, rfl, decide (i ≤ b), congrArg (fun t => [V.bl t, V.bl (decide (i ≤ b))]) (show (decide (a ≤ i) && decide (i ≤ b)) = decide (i ≤ b) by rw [e, Bool.true_and]), _, rfl, iteF ?_⟩)
        (fun e => ⟨false, congrArg (fun t => [V.bl t, V.bl false]) (show (decide (a ≤ i) && decide (i ≤ b)) = false by rw [Bool.eq_false_iff.mpr e, Bool.false_and]), _, rfl, iteF ?_⟩)⟩⟩
      all_goals (refine rd_str? rfl hk ⟨_, rfl, iteF ?_⟩)
      all_goals (refine ⟨_, rfl, _, n, rfl, hk, hf, fun H1 e1 => ⟨.bl false, rfl, false, rfl, iteF ⟨false, rfl, q H1 e1⟩⟩⟩)
    | str z =>
      obtain ⟨hz, hasc⟩ := hf
      refine iteF ?_
      refine ⟨_, rfl, _, n, rfl, hk, .bl false, rfl, false, rfl, _, rfl, iteF ?_⟩
      refine ⟨_, rfl, .int a, rfl, .int b, rfl, _, n, a, b, rfl, hk, .bl false, rfl, false, rfl, iteF ⟨false, rfl, _, rfl, iteF ?_⟩⟩
      have nn : ∀ t : Bool, (decide ((1 : Int) ≤ (z.length : Int)) && decide ((z.length : Int) ≤ 8) && z.cps.toList.all (fun c => decide (c ∈ letL))) = t → nameV (.str z) = t := fun t h => h
      refine rd_str? rfl hk ⟨_, rfl, iteT ⟨.str z, rfl, z, rfl, sz16 hz, 0, (z.length : Int), rfl, rfl, _, rfl, ite2 (fun e1 => ⟨(z.length : Int), 9, rfl, rfl, ?_⟩) (fun e1 => ?_)⟩⟩
      · have e1' : (0 : Int) < z.length := of_decide_eq_true e1
        refine ⟨_, rfl, _, n, rfl, hk, ⟨hz, hasc⟩, fun H1 x1 => ⟨_, rfl, _, rfl, ?_⟩⟩
        by_cases e2 : (z.length : Int) < 9
        · rw [decide_eq_true e2]
          refine iteT ⟨.str z, rfl, z, rfl, lcS (fun c => V.str ⟨#[c]⟩) (fun c => !decide (c ∈ letL)) hz ?_ ?_⟩
          · intro c H' _ _ R R0 hR hR0
            refine ⟨rfl, .str ⟨#[c]⟩, rfl, _, rfl, c, _, rfl, rfl, _, rfl, ?_⟩
            show if (!decide (c ∈ letL)) = true then _ else _
            exact ite2 (fun e => ⟨_, rfl, hR e H' (Evl.Ex.refl _)⟩) (fun e => hR0 (Bool.eq_false_iff.mpr e) H' (Evl.Ex.refl _))
          · intro D H' _ e hD
            have hD' : H' D = some (.lst (((z.cps.toList.filter fun c => !decide (c ∈ letL)).map fun c => (⟨#[c]⟩ : Str)).map V.str)) := by
              rw [hD, List.map_map]
              rfl
            refine ⟨sz16 (by decide), fun p hp => ?_⟩
            have hs : ∀ y ∈ ((z.cps.toList.filter fun c => !decide (c ∈ letL)).map fun c => (⟨#[c]⟩ : Str)), Asc y := fun y hy => by
              obtain ⟨c, hc, rfl⟩ := List.mem_map.mp hy
              intro c' hc'
              have : c' = c := by simpa using hc'
              rw [this]
              exact hasc c (List.mem_filter.mp hc).1
            refine ⟨.list (((z.cps.toList.filter fun c => !decide (c ∈ letL)).map fun c => (⟨#[c]⟩ : Str)).map PyData.str), .list [], .lst (Evl.ex_l (Evl.Ex.new hp) (SqL.of hD')) dpa_strs, .lst (SqL.of upd_same) .nil, shaped_strs hs, shaped_nil, ?_⟩
            rw [eqv_nil]
            refine ⟨z.cps.toList.all (fun c => decide (c ∈ letL)), ?_, q _ (x1.trans (e.trans (Evl.Ex.new hp)))⟩
            rw [nn (z.cps.toList.all (fun c => decide (c ∈ letL))) (by rw [decide_eq_true (show (1 : Int) ≤ z.length by omega), decide_eq_true (show (z.length : Int) ≤ 8 by omega)]; rfl)]
            have : (List.map PyData.str ((z.cps.toList.filter fun c => !decide (c ∈ letL)).map fun c => (⟨#[c]⟩ : Str))).isEmpty = z.cps.toList.all (fun c => decide (c ∈ letL)) := by
              cases hf2 : (z.cps.toList.filter fun c => !decide (c ∈ letL)) with
              | nil =>
                refine Eq.symm (List.all_eq_true.mpr fun x hx => ?_)
                have := List.filter_eq_nil_iff.mp hf2 x hx
                simpa using this
              | cons c r =>
                have hc : c ∈ z.cps.toList.filter fun c => !decide (c ∈ letL) := by rw [hf2]; exact List.mem_cons_self
                obtain ⟨h1, h2⟩ := List.mem_filter.mp hc
                refine Eq.symm (Bool.eq_false_iff.mpr fun h => ?_)
                have h3 := List.all_eq_true.mp h c h1
                rw [h3] at h2
                exact absurd h2 (by decide)
            rw [this]
            rfl
        · rw [decide_eq_false e2]
          refine iteF ⟨false, ?_, q H1 x1⟩
          rw [nn false (by rw [decide_eq_false (show ¬ (z.length : Int) ≤ 8 by omega), Bool.and_false]; rfl)]
          rfl
      · refine ⟨_, rfl, _, n, rfl, hk, ⟨hz, hasc⟩, fun H1 x1 => ⟨_, rfl, _, rfl, iteF ⟨false, ?_, q H1 x1⟩⟩⟩
        rw [nn false (by rw [decide_eq_false (show ¬ (1 : Int) ≤ (z.length : Int) from fun h => e1 (decide_eq_true (by omega)))]; rfl)]
        rfl
    | _ =>
      first | refine iteF ?_ | refine iteT (rd_bool? rfl hk ⟨_, rfl, ?_⟩)
      all_goals (refine ⟨_, rfl, _, n, rfl, hk, .bl false, rfl, false, rfl, _, rfl, iteF ?_⟩)
      all_goals (refine ⟨_, rfl, .int a, rfl, .int b, rfl, _, n, a, b, rfl, hk, .bl false, rfl, false, rfl, iteF ⟨false, rfl, _, rfl, iteF ?_⟩⟩)
      all_goals (refine rd_str? rfl hk ⟨_, rfl, iteF ?_⟩)
      all_goals (refine ⟨_, rfl, _, n, rfl, hk, hf, fun H1 e1 => ⟨.bl false, rfl, false, rfl, iteF ⟨false, rfl, q H1 e1⟩⟩⟩)

theorem fit_int {i : Int} : Fit (.int i) := True.intro
def spLaw (K : PySem.W.Frag) : Sp := fun vs H Q _ => ∃ (a : Addr) (ns : List Int), vs = [.ref a] ∧ SqL K H a (ns.map V.int) ∧ ns.length ≤ 63 ∧ ∀ H', Q (.bl true) H'
theorem min_in {j : Int} (h : 0 ≤ j) : 0 ≤ (if j < 40 then j else 40) + 1 ∧ (if j < 40 then j else 40) + 1 ≤ 41 := by split <;> omega
theorem ok_law (T : Tx K mg) {f : Addr} {fd : FuncData} (F : Fun K "law" "law" s_law f fd) : FnOk P w K mg base CX0 4 f fd ["script"] (spLaw K) := by
  have G__law_draw : Cal P w K mg base 1 "_law_draw" ["script", "k"] (spDraw K) := ok__law_draw T
  have G__law_text : Cal P w K mg base 3 "_law_text" ["draw"] spText := ok__law_text T
  have G__law_next : Cal P w K mg base 2 "_law_next" ["draw", "many"] spNext := ok__law_next T
  have G__law_word_right : Cal P w K mg base 2 "_law_word_right" ["word"] spWordR := ok__law_word_right T
  have G__law_thing_right : Cal P w K mg base 3 "_law_thing_right" ["thing", "least", "most"] (spThingR K) := ok__law_thing_right T
  have G_number_of : Cal P w K mg base 1 "number_of" ["word"] spNum := ok_number_of T
  refine F.ok sc_law (fun vs H Q E h => ?_) (fun cdv A outer s H vs Q E hr h => ?_)
  · obtain ⟨a, ns, rfl, _⟩ := h
    rfl
  · obtain ⟨a, ns, rfl, hS, hl, q⟩ := h
    refine ⟨_, (pss_cons (ps_for PassesOwn.never rfl (pi_range1 (by rfl) T.b_range (pa_cons (pe_op op_add (pe_callB (call_min2 rfl) (by rfl) T.b_min (by decide +kernel) (pa_cons pe_int (pa_cons (pe_callB call_len_seq (by rfl) T.b_len (by decide +kernel) (pa_cons (pv 0) pa_nil)) pa_nil))) pe_int) pa_nil)) (pg_name (i := 1) sc_law.nd rfl (.inl rfl)) (pss_cons (ps_set (i := 2) sc_law.nd rfl (.inl rfl) (pe_cal G__law_draw (hr.mono (by decide)) (by rfl) (pa_cons (pv 0) (pa_cons (pv 1) pa_nil))))
    (pss_cons (ps_set (i := 3) sc_law.nd rfl (.inl rfl) (pe_cal G__law_text hr (by rfl) (pa_cons (pv 2) pa_nil)))
    (pss_cons (ps_set (i := 4) sc_law.nd rfl (.inl rfl) (pe_ix ix_list (pe_lst (pa_cons pe_int (pa_cons pe_int (pa_cons (pe_op op_add (pe_op op_pow pe_int pe_int) pe_int) pa_nil)))) (pe_cal G__law_next (hr.mono (by decide)) (by rfl) (pa_cons (pv 2) (pa_cons pe_int pa_nil))) (fun _ _ => rfl)))
    (pss_cons (ps_set (i := 5) sc_law.nd rfl (.inl rfl) (pe_op op_fdivW (pe_op op_mulX (pe_op op_sub (pe_cal G__law_next (hr.mono (by decide)) (by rfl) (pa_cons (pv 2) (pa_cons (pe_op op_pow pe_int pe_int) pa_nil))) (pe_op op_mulX pe_int (pe_op op_pow pe_int pe_int))) (pv 4)) (pe_ix ix_list (pe_lst (pa_cons pe_int (pa_cons (pe_op op_pow pe_int pe_int) pa_nil))) (pe_cal G__law_next (hr.mono (by decide)) (by rfl) (pa_cons (pv 2) (pa_cons pe_int pa_nil))) (fun _ _ => rfl))))
    (pss_cons (ps_if (PW.pt (pw_or (pt_not (pt_val (pe_cal G__law_word_right (hr.mono (by decide)) (by rfl) (pa_cons (pv 3) pa_nil)))) (pw_or1 (pt_not (pt_val (pe_cal G__law_thing_right hr (by rfl) (pa_cons (pv 3) (pa_cons (pv 5) (pa_cons (pe_op op_add (pv 5) pe_int) pa_nil))))))))) (pss_one (ps_ret pe_bl)) pss_nil)
    (pss_cons (ps_set (i := 6) sc_law.nd rfl (.inl rfl) (pe_op op_add (pe_op op_sub (pv 5) (pe_cal G__law_next (hr.mono (by decide)) (by rfl) (pa_cons (pv 2) (pa_cons pe_int pa_nil)))) pe_int))
    (pss_cons (ps_if (pt_not (pt_val (pe_cal G__law_thing_right hr (by rfl) (pa_cons (pv 5) (pa_cons (pv 6) (pa_cons (pe_op op_add (pv 6) (pe_cal G__law_next (hr.mono (by decide)) (by rfl) (pa_cons (pv 2) (pa_cons pe_int pa_nil)))) pa_nil)))))) (pss_one (ps_ret pe_bl)) pss_nil)
    (pss_cons (ps_set (i := 7) sc_law.nd rfl (.inl rfl) (pe_ix ix_list (pe_lst (pa_cons pe_non (pa_cons pe_bl (pa_cons pe_bl (pa_cons (pe_lst pa_nil) (pa_cons (pe_lst (pa_cons pe_str pa_nil)) (pa_cons (pe_tup (pa_cons pe_str pa_nil)) (pa_cons pe_dnewK (pa_cons pe_int (pa_cons (pe_un un_neg pe_int) (pa_cons (pe_op op_pow pe_int pe_int) (pa_cons pe_str (pa_cons pe_str (pa_cons (pe_disp (pps_cons pe_str pe_int pps_nil) (by rfl) (by rfl) (fun z => by cases z) (by decide)) pa_nil)))))))))))))) (pe_cal G__law_next (hr.mono (by decide)) (by rfl) (pa_cons (pv 2) (pa_cons pe_int pa_nil))) (fun _ _ => rfl)))
    (pss_one (ps_if (PW.pt (pw_or (pt_not (pt_val (pe_cal G__law_thing_right hr (by rfl) (pa_cons (pv 7) (pa_cons pe_int (pa_cons pe_int pa_nil)))))) (pw_or1 (pt_not (pt_val (pe_cal G__law_thing_right hr (by rfl) (pa_cons (pv 7) (pa_cons (pe_op op_sub pe_int (pe_op op_pow pe_int pe_int)) (pa_cons (pe_op op_pow pe_int pe_int) pa_nil))))))))) (pss_one (ps_ret pe_bl)) pss_nil)))))))))))
    (pss_cons (ps_set (i := 8) sc_law.nd rfl (.inl rfl) (pe_lst (pa_cons (pe_op op_repS pe_str pe_int) (pa_cons (pe_op op_add_str pe_str (pe_op op_repS pe_str pe_int)) (pa_cons (pe_op op_repS pe_str pe_int) pa_nil)))))
    (pss_one (ps_ret (pe_cmpR (op_eqD hr.units) (pe_lc (own := [("word", 3)]) rfl sc_law.nd (pi_list (pv 8)) (blkOk_by (own := [("word", 3)]) (N := N_law) (sc := defScope s_law) (by decide +kernel)) (fun _ _ _ _ _ => (pg_name (i := 3) sc_law.nd rfl (.inl rfl))) (fun _ _ _ _ _ => pts_one (pt_cmpR op_notN (pe_cal G_number_of (hr.mono (by decide)) (by rfl) (pa_cons (pv 3) pa_nil)) pe_non (nomark _))) (fun _ _ _ _ _ => (pv 3))) (pe_lst pa_nil) (nomark _)))))), ?_⟩
    have lm : (ns.map V.int).length = ns.length := List.length_map _
    have mm := min_in (j := ((ns.map V.int).length : Int)) (by omega)
    refine ⟨.ref a, rfl, a, _, rfl, .inl hS, 40, _, rfl, _, 1, rfl, rfl, _, rfl, by omega, by omega, for_range (fun i σ H' => Ex H H' ∧ ∃ t1 t2 t3 t4 t5 t6 t7, σ = [some (.ref a), t1, t2, t3, t4, t5, t6, t7, none]) ⟨Evl.Ex.refl _, _, _, _, _, _, _, _, rfl⟩ ?_ ?_⟩
    · rintro i σ H' hi ⟨eH, t1, t2, t3, t4, t5, t6, t7, rfl⟩
      have hi2 : (i : Int) < 41 := by omega
      -- draw, word
      refine ⟨.ref a, rfl, .int (0 + i), rfl, a, ns, 0 + i, rfl, Evl.ex_l eH hS, hl, by omega, by omega, fun d H1 e1 hd d1 => ?_⟩
      have hd0 : H d = none := Evl.fresh_back eH hd
      have E1 : Ex H H1 := eH.trans e1
      refine ⟨.ref d, rfl, d, _, rfl, d1, by omega, fun z c2 H2 hz hasc k1 k2 b2 d2 => ?_⟩
      have E2 : Ex H H2 := But.toEx E1 b2 hd0
      -- size
      refine ⟨10, 40, rfl, rfl, ⟨by decide, by decide, by decide⟩, _, 7, rfl, rfl, sz16 (by show 3 ≤ 16000000; decide), fun p hp => ?_⟩
      refine ⟨.ref d, rfl, d, 3, c2, rfl, d2.upd (d2.ne hp), by decide, by decide, by omega, fun n3 c3 H3 n0 n1 k3 k4 b3 d3 => ?_⟩
      have hp3 := b3 p _ (d2.ne hp).symm upd_same
      obtain ⟨v, hv, hat⟩ := at_mem (xs := [.int 1, .int 1, .int (10 ^ Int.toNat 40 + 7)]) n0 n1
      obtain ⟨sz, rfl, z0, z1⟩ : ∃ sz : Int, v = .int sz ∧ 1 ≤ sz ∧ sz < 10 ^ 41 := by
        simp only [List.mem_cons, List.not_mem_nil, or_false] at hv
        rcases hv with e | e | e <;> subst e <;> exact ⟨_, rfl, by decide, by decide⟩
      refine ⟨p, _, n3, _, rfl, rfl, SqL.of hp3, hat, ?_⟩
      have E3 : Ex H H3 := But.toEx (E2.trans (Evl.Ex.new hp)) b3 hd0
      -- number
      refine ⟨.ref d, rfl, 10, 17, rfl, rfl, ⟨by decide, by decide, by decide⟩, d, 10 ^ 17, c3, rfl, d3, by decide, by decide, by omega, fun n4 c4 H4 m0 m1 k5 k6 b4 d4 => ?_⟩
      have E4 : Ex H H4 := But.toEx E3 b4 hd0
      refine ⟨10, 16, rfl, rfl, ⟨by decide, by decide, by decide⟩, 5, 10 ^ 16, rfl, rfl, mulBd (by decide) (by decide) (by decide) (by decide), n4, _, rfl, rfl, .int sz, rfl, n4 - 5 * 10 ^ 16, sz, rfl, rfl, mulBd (by omega) (by omega) (by omega) (by omega), ?_⟩
      refine ⟨10, 15, rfl, rfl, ⟨by decide, by decide, by decide⟩, sz16 (by show 2 ≤ 16000000; decide), fun p5 hp5 => ?_⟩
      refine ⟨.ref d, rfl, d, 2, c4, rfl, d4.upd (d4.ne hp5), by decide, by decide, by omega, fun n5 c5 H5 o0 o1 k7 k8 b5 d5 => ?_⟩
      have hp6 := b5 p5 _ (d4.ne hp5).symm upd_same
      have E5 : Ex H H5 := But.toEx (E4.trans (Evl.Ex.new hp5)) b5 hd0
      obtain ⟨v, hv, hat5⟩ := at_mem (xs := [.int 1, .int (10 ^ Int.toNat 15)]) o0 o1
      obtain ⟨dv, rfl, v0, v1⟩ : ∃ dv : Int, v = .int dv ∧ 0 < dv ∧ dv < 10 ^ 16 := by
        simp only [List.mem_cons, List.not_mem_nil, or_false] at hv
        rcases hv with e | e <;> subst e <;> exact ⟨_, rfl, by decide, by decide⟩
      refine ⟨p5, _, n5, _, rfl, rfl, SqL.of hp6, hat5, _, dv, rfl, rfl, divBd v0 (by omega), ?_⟩
      -- the first look
      refine ⟨.str z, rfl, z, rfl, by omega, hasc, fun H6 e6 => ⟨_, rfl, iteF ?_⟩⟩
      refine ⟨.str z, rfl, .int ((n4 - 5 * 10 ^ 16) * sz / dv), rfl, .int ((n4 - 5 * 10 ^ 16) * sz / dv), rfl, ((n4 - 5 * 10 ^ 16) * sz / dv), 5, rfl, rfl, .str z, _, ((n4 - 5 * 10 ^ 16) * sz / dv), ((n4 - 5 * 10 ^ 16) * sz / dv) + 5, rfl, .str z, ⟨by omega, hasc⟩, fun H7 e7 => ⟨_, rfl, iteF ?_⟩⟩
      have E7 : Ex H H7 := (E5.trans e6).trans e7
      have d7 := (d5.ex e6).ex e7
      -- the second look
      refine ⟨.int ((n4 - 5 * 10 ^ 16) * sz / dv), rfl, .ref d, rfl, d, 3, c5, rfl, d7, by decide, by decide, by omega, fun n8 c8 H8 _ _ g1 g2 b8 d8 => ⟨((n4 - 5 * 10 ^ 16) * sz / dv), n8, rfl, rfl, ((n4 - 5 * 10 ^ 16) * sz / dv) - n8, 1, rfl, rfl, ?_⟩⟩
      have E8 : Ex H H8 := But.toEx E7 b8 hd0
      refine ⟨.int ((n4 - 5 * 10 ^ 16) * sz / dv), rfl, .int (((n4 - 5 * 10 ^ 16) * sz / dv) - n8 + 1), rfl, .int (((n4 - 5 * 10 ^ 16) * sz / dv) - n8 + 1), rfl, .ref d, rfl, d, 3, c8, rfl, d8, by decide, by decide, by omega, fun n9 c9 H9 _ _ g3 g4 b9 d9 => ⟨((n4 - 5 * 10 ^ 16) * sz / dv) - n8 + 1, n9, rfl, rfl, .int ((n4 - 5 * 10 ^ 16) * sz / dv), _, _, _, rfl, .int ((n4 - 5 * 10 ^ 16) * sz / dv), True.intro, fun H10 e10 => ⟨_, rfl, iteF ?_⟩⟩⟩
      have E10 : Ex H H10 := (But.toEx E8 b9 hd0).trans e10
      have d10 := d9.ex e10
      -- the odd things
      refine ⟨sz16 (by decide), fun q1 hq1 => ⟨sz16 (by decide), fun q2 hq2 => ⟨sz16 (by decide), fun q3 hq3 => ?_⟩⟩⟩
      refine fun q4 hq4 => ?_
      refine ⟨1, rfl, 10, 40, rfl, rfl, ⟨by decide, by decide, by decide⟩, ?_⟩
      refine fun q5 hq5 => ?_
      refine ⟨upd_same, [(Sum.inr "a", .int 1)], rfl, by decide, sz16 (by show 13 ≤ 16000000; decide), fun q6 hq6 => ?_⟩
      have x1 : Ex H10 (upd H10 q1 (.lst [])) := Evl.Ex.new hq1
      have x2 := x1.trans (Evl.Ex.new (o := .lst [V.str "a"]) hq2)
      have x3 := x2.trans (Evl.Ex.new (o := .tup [V.str "a"]) hq3)
      have x4 := x3.trans (Evl.Ex.new (o := .dK []) hq4)
      have y5 := (Evl.Ex.new (o := .dK []) hq5).mut (o := .dK (mergeK [] [((Sum.inr "a" : Key), V.int 1)])) hq5
      have x5 := x4.trans y5
      have y6 := Evl.Ex.new (o := .lst [V.non, .bl true, .bl false, .ref q1, .ref q2, .ref q3, .ref q4, .int 0, .int (-1), .int (10 ^ Int.toNat 40), .str "", .str "no", .ref q5]) hq6
      have x6 := x5.trans y6
      have f5 := (y6 q5 _ upd_same)
      have f4 := y6 q4 _ (y5 q4 _ upd_same)
      have f3 := y6 q3 _ (y5 q3 _ (Evl.Ex.new hq4 q3 _ upd_same))
      have f2 := y6 q2 _ (y5 q2 _ (Evl.Ex.new hq4 q2 _ (Evl.Ex.new hq3 q2 _ upd_same)))
      have f1 := y6 q1 _ (y5 q1 _ (Evl.Ex.new hq4 q1 _ (Evl.Ex.new hq3 q1 _ (Evl.Ex.new hq2 q1 _ upd_same))))
      have nq1 := (d10.ne hq1).symm
      have nq2 := (d10.ne (Evl.fresh_back x1 hq2)).symm
      have nq3 := (d10.ne (Evl.fresh_back x2 hq3)).symm
      have nq4 := (d10.ne (Evl.fresh_back x3 hq4)).symm
      have nq5 := (d10.ne (Evl.fresh_back x4 hq5)).symm
      have nq6 := (d10.ne (Evl.fresh_back x5 hq6)).symm
      refine ⟨.ref d, rfl, d, 13, c9, rfl, d10.ex x6, by decide, by decide, by omega, fun nb cb HB u0 u1 _ _ bB dB => ?_⟩
      have g6 := bB q6 _ nq6 upd_same
      have g5 := bB q5 _ nq5 f5
      have g4 := bB q4 _ nq4 f4
      have g3 := bB q3 _ nq3 f3
      have g2 := bB q2 _ nq2 f2
      have g1 := bB q1 _ nq1 f1
      have EB : Ex H HB := But.toEx (E10.trans x6) bB hd0
      obtain ⟨v, hv, hatB⟩ := at_mem (xs := [V.non, .bl true, .bl false, .ref q1, .ref q2, .ref q3, .ref q4, .int 0, .int (-1), .int (10 ^ Int.toNat 40), .str "", .str "no", .ref q5]) u0 u1
      obtain ⟨kn, hkd, hft⟩ : ∃ kn, Kd K HB v kn ∧ Fit v := by
        simp only [List.mem_cons, List.not_mem_nil, or_false] at hv
        rcases hv with e | e | e | e | e | e | e | e | e | e | e | e | e <;> subst e
        · exact ⟨_, .non, True.intro⟩
        · exact ⟨_, .bl _, True.intro⟩
        · exact ⟨_, .bl _, True.intro⟩
        · exact ⟨_, .lst (.base (.lst g1)), True.intro⟩
        · exact ⟨_, .lst (.base (.lst g2)), True.intro⟩
        · exact ⟨_, .tup (.base (.tup g3)), True.intro⟩
        · exact ⟨_, .dic (.base (.dK g4)), True.intro⟩
        · exact ⟨_, .int _, True.intro⟩
        · exact ⟨_, .int _, True.intro⟩
        · exact ⟨_, .int _, True.intro⟩
        · exact ⟨_, .str _, by decide +kernel, asc_of (by decide +kernel)⟩
        · exact ⟨_, .str _, by decide +kernel, asc_of (by decide +kernel)⟩
        · exact ⟨_, .dic (.base (.dK g5)), True.intro⟩
      refine ⟨q6, _, nb, v, rfl, rfl, SqL.of g6, hatB, ?_⟩
      refine ⟨v, rfl, v, kn, 0, 1, rfl, hkd, hft, fun HC eC => ⟨_, rfl, iteF ?_⟩⟩
      refine ⟨v, rfl, 10, 50, rfl, rfl, ⟨by decide, by decide, by decide⟩, 0, _, rfl, rfl, 10, 50, rfl, rfl, ⟨by decide, by decide, by decide⟩, v, kn, _, _, rfl, hkd.ex eC, hft, fun HD' eD => ⟨_, rfl, iteF ?_⟩⟩
      exact ⟨(EB.trans eC).trans eD, _, _, _, _, _, _, _, rfl⟩
    · rintro σ H' ⟨eH, t1, t2, t3, t4, t5, t6, t7, rfl⟩
      have l7 : Str.length ("7" : Str) = 1 := by decide +kernel
      have l0 : Str.length ("0" : Str) = 1 := by decide +kernel
      have l1 : Str.length ("1" : Str) = 1 := by decide +kernel
      refine ⟨"7", 5000, rfl, rfl, by decide, by rw [l7]; decide, by rw [l7]; decide, fun u1 h1 _ => ?_⟩
      refine ⟨"0", 5000, rfl, rfl, by decide, by rw [l0]; decide, by rw [l0]; decide, fun u2 h2 _ => ?_⟩
      rw [l7] at h1
      rw [l0] at h2
      refine ⟨"1", u2, rfl, rfl, sz16 (by rw [l1, h2]; decide), ?_⟩
      refine ⟨"0", 5000, rfl, rfl, by decide, by rw [l0]; decide, by rw [l0]; decide, fun u3 h3 _ => ?_⟩
      rw [l0] at h3
      refine ⟨sz16 (by show 3 ≤ 16000000; decide), fun p hp => ?_⟩
      have lcat : (("1" : Str) ++ u2).length = Str.length ("1" : Str) + u2.length := by
        show (("1" : Str).cps ++ u2.cps).size = _
        rw [Array.size_append]
        rfl
      have far : ∀ x ∈ [V.str u1, V.str (("1" : Str) ++ u2), V.str u3], ∃ u : Str, x = .str u ∧ 5000 ≤ u.length ∧ u.length ≤ 5001 := fun x hx => by
        simp only [List.mem_cons, List.not_mem_nil, or_false] at hx
        rcases hx with e | e | e <;> subst e
        · exact ⟨_, rfl, by rw [h1]; decide, by rw [h1]; decide⟩
        · exact ⟨_, rfl, by rw [lcat, l1, h2]; decide, by rw [lcat, l1, h2]; decide⟩
        · exact ⟨_, rfl, by rw [h3]; decide, by rw [h3]; decide⟩
      refine ⟨.ref p, rfl, p, rfl, ⟨_, SqL.of upd_same⟩, fun D hD => lc_list (K := K) (a := p) (xs := [V.str u1, V.str (("1" : Str) ++ u2), V.str u3]) (fun i H2 => Ex (upd H' p (.lst [V.str u1, V.str (("1" : Str) ++ u2), V.str u3])) H2 ∧ H2 D = some (.lst [])) ⟨Evl.Ex.new hD, upd_same⟩ (fun i H2 _ h => Evl.ex_l h.1 (SqL.of upd_same)) ?_ ?_⟩
      · rintro i x H2 hx ⟨e2, hD2⟩
        obtain ⟨u, rfl, x1, x2⟩ := far x (List.mem_of_getElem? hx)
        have hn : numV u = .non := by
          unfold numV
          rw [decide_eq_false (show ¬ (u.length : Int) ≤ 7 by omega), Bool.and_false]
          rfl
        refine ⟨rfl, .str u, rfl, u, rfl, by omega, fun H3 e3 => ⟨rfl, _, rfl, ?_⟩⟩
        rw [hn, decide_eq_true rfl]
        exact iteF ⟨e2.trans e3, e3 _ _ hD2⟩
      · rintro H2 ⟨e2, hD2⟩
        refine ⟨sz16 (by decide), fun r hr => ⟨.list [], .list [], .lst (Evl.ex_l (Evl.Ex.new hr) (SqL.of hD2)) .nil, .lst (SqL.of upd_same) .nil, shaped_nil, shaped_nil, ?_⟩⟩
        exact q _

theorem law_of (T : Tx K mg) {fa : Addr} (hfa : mg "law" = some (.ref fa)) :
    ∃ fd : FuncData, (∀ (s : Shared) (v : Value), BindsTo s fd ⟨[v], []⟩ [("script", v)]) ∧ ∀ base : Heap, K.In base → base.Ns mainGlobals mg → FnOk P w K mg base CX0 4 fa fd ["script"] (spLaw K) :=
  law_end T.d_law hfa fun _ _ _ F => ok_law T F
end
theorem tx_mk {K : PySem.W.Frag} {h : Heap} {mg : Str → Option Value} (X : K.In h) (G : h.Ns mainGlobals mg)
    {t1 t2 t3 t4 : Tok}
    {f14 f15 f16 f17 f18 f19 f20 f21 f22 f23 f24 f25 f26 : Addr} {od14 an14 od15 an15 od16 an16 od17 an17 od18 an18 od19 an19 od20 an20 od21 an21 od22 an22 od23 an23 od24 an24 od25 an25 od26 an26 : Option Addr} {sl14 sl15 sl16 sl17 sl18 sl19 sl20 sl21 sl22 sl23 sl24 sl25 sl26 : Array (Option Value)} {oc14 kV14 dc14 pm14 cd14 ct14 oc15 kV15 dc15 pm15 cd15 ct15 oc16 kV16 dc16 pm16 cd16 ct16 oc17 kV17 dc17 pm17 cd17 ct17 oc18 kV18 dc18 pm18 cd18 ct18 oc19 kV19 dc19 pm19 cd19 ct19 oc20 kV20 dc20 pm20 cd20 ct20 oc21 kV21 dc21 pm21 cd21 ct21 oc22 kV22 dc22 pm22 cd22 ct22 oc23 kV23 dc23 pm23 cd23 ct23 oc24 kV24 dc24 pm24 cd24 ct24 oc25 kV25 dc25 pm25 cd25 ct25 oc26 kV26 dc26 pm26 cd26 ct26 : Value}
    (e1 : PySem.W.nsIn K mainGlobals "LETTERS" = some (some (.str "abcdefghijklmnopqrstuvwxyz" t1)))
    (e2 : PySem.W.nsIn K mainGlobals "FIGURES" = some (some (.str "0123456789" t2)))
    (e3 : PySem.W.nsIn K mainGlobals "MOST_LETTERS" = some (some (.int 8 t3)))
    (e4 : PySem.W.nsIn K mainGlobals "MOST_FIGURES" = some (some (.int 7 t4)))
    (e5 : PySem.W.nsIn K mainGlobals "isinstance" = some none)
    (e6 : PySem.W.nsIn K mainGlobals "int" = some none)
    (e7 : PySem.W.nsIn K mainGlobals "bool" = some none)
    (e8 : PySem.W.nsIn K mainGlobals "str" = some none)
    (e9 : PySem.W.nsIn K mainGlobals "all" = some none)
    (e10 : PySem.W.nsIn K mainGlobals "len" = some none)
    (e11 : PySem.W.nsIn K mainGlobals "range" = some none)
    (e12 : PySem.W.nsIn K mainGlobals "max" = some none)
    (e13 : PySem.W.nsIn K mainGlobals "min" = some none)
    (a14 : PySem.W.nsIn K mainGlobals "is_whole" = some (some (.ref f14)))
    (l14 : K.lookup f14 = some ⟨oc14, od14, .func (PySem.W.fnOf "is_whole" "is_whole" (defArgs s_is_whole) (defBody s_is_whole) (defScope s_is_whole) .none kV14 dc14 pm14 an14 cd14 ct14), sl14⟩)
    (c14 : PySem.W.codeIn K cd14 "is_whole" = true)
    (k14 : PySem.W.keepIn K (.ref f14) = true)
    (a15 : PySem.W.nsIn K mainGlobals "is_among" = some (some (.ref f15)))
    (l15 : K.lookup f15 = some ⟨oc15, od15, .func (PySem.W.fnOf "is_among" "is_among" (defArgs s_is_among) (defBody s_is_among) (defScope s_is_among) .none kV15 dc15 pm15 an15 cd15 ct15), sl15⟩)
    (c15 : PySem.W.codeIn K cd15 "is_among" = true)
    (k15 : PySem.W.keepIn K (.ref f15) = true)
    (a16 : PySem.W.nsIn K mainGlobals "is_name" = some (some (.ref f16)))
    (l16 : K.lookup f16 = some ⟨oc16, od16, .func (PySem.W.fnOf "is_name" "is_name" (defArgs s_is_name) (defBody s_is_name) (defScope s_is_name) .none kV16 dc16 pm16 an16 cd16 ct16), sl16⟩)
    (c16 : PySem.W.codeIn K cd16 "is_name" = true)
    (k16 : PySem.W.keepIn K (.ref f16) = true)
    (a17 : PySem.W.nsIn K mainGlobals "number_of" = some (some (.ref f17)))
    (l17 : K.lookup f17 = some ⟨oc17, od17, .func (PySem.W.fnOf "number_of" "number_of" (defArgs s_number_of) (defBody s_number_of) (defScope s_number_of) .none kV17 dc17 pm17 an17 cd17 ct17), sl17⟩)
    (c17 : PySem.W.codeIn K cd17 "number_of" = true)
    (k17 : PySem.W.keepIn K (.ref f17) = true)
    (a18 : PySem.W.nsIn K mainGlobals "_law_mixed" = some (some (.ref f18)))
    (l18 : K.lookup f18 = some ⟨oc18, od18, .func (PySem.W.fnOf "_law_mixed" "_law_mixed" (defArgs s__law_mixed) (defBody s__law_mixed) (defScope s__law_mixed) .none kV18 dc18 pm18 an18 cd18 ct18), sl18⟩)
    (c18 : PySem.W.codeIn K cd18 "_law_mixed" = true)
    (k18 : PySem.W.keepIn K (.ref f18) = true)
    (a19 : PySem.W.nsIn K mainGlobals "_law_draw" = some (some (.ref f19)))
    (l19 : K.lookup f19 = some ⟨oc19, od19, .func (PySem.W.fnOf "_law_draw" "_law_draw" (defArgs s__law_draw) (defBody s__law_draw) (defScope s__law_draw) .none kV19 dc19 pm19 an19 cd19 ct19), sl19⟩)
    (c19 : PySem.W.codeIn K cd19 "_law_draw" = true)
    (k19 : PySem.W.keepIn K (.ref f19) = true)
    (a20 : PySem.W.nsIn K mainGlobals "_law_next" = some (some (.ref f20)))
    (l20 : K.lookup f20 = some ⟨oc20, od20, .func (PySem.W.fnOf "_law_next" "_law_next" (defArgs s__law_next) (defBody s__law_next) (defScope s__law_next) .none kV20 dc20 pm20 an20 cd20 ct20), sl20⟩)
    (c20 : PySem.W.codeIn K cd20 "_law_next" = true)
    (k20 : PySem.W.keepIn K (.ref f20) = true)
    (a21 : PySem.W.nsIn K mainGlobals "_law_text" = some (some (.ref f21)))
    (l21 : K.lookup f21 = some ⟨oc21, od21, .func (PySem.W.fnOf "_law_text" "_law_text" (defArgs s__law_text) (defBody s__law_text) (defScope s__law_text) .none kV21 dc21 pm21 an21 cd21 ct21), sl21⟩)
    (c21 : PySem.W.codeIn K cd21 "_law_text" = true)
    (k21 : PySem.W.keepIn K (.ref f21) = true)
    (a22 : PySem.W.nsIn K mainGlobals "_law_truth" = some (some (.ref f22)))
    (l22 : K.lookup f22 = some ⟨oc22, od22, .func (PySem.W.fnOf "_law_truth" "_law_truth" (defArgs s__law_truth) (defBody s__law_truth) (defScope s__law_truth) .none kV22 dc22 pm22 an22 cd22 ct22), sl22⟩)
    (c22 : PySem.W.codeIn K cd22 "_law_truth" = true)
    (k22 : PySem.W.keepIn K (.ref f22) = true)
    (a23 : PySem.W.nsIn K mainGlobals "_law_number" = some (some (.ref f23)))
    (l23 : K.lookup f23 = some ⟨oc23, od23, .func (PySem.W.fnOf "_law_number" "_law_number" (defArgs s__law_number) (defBody s__law_number) (defScope s__law_number) .none kV23 dc23 pm23 an23 cd23 ct23), sl23⟩)
    (c23 : PySem.W.codeIn K cd23 "_law_number" = true)
    (k23 : PySem.W.keepIn K (.ref f23) = true)
    (a24 : PySem.W.nsIn K mainGlobals "_law_thing_right" = some (some (.ref f24)))
    (l24 : K.lookup f24 = some ⟨oc24, od24, .func (PySem.W.fnOf "_law_thing_right" "_law_thing_right" (defArgs s__law_thing_right) (defBody s__law_thing_right) (defScope s__law_thing_right) .none kV24 dc24 pm24 an24 cd24 ct24), sl24⟩)
    (c24 : PySem.W.codeIn K cd24 "_law_thing_right" = true)
    (k24 : PySem.W.keepIn K (.ref f24) = true)
    (a25 : PySem.W.nsIn K mainGlobals "_law_word_right" = some (some (.ref f25)))
    (l25 : K.lookup f25 = some ⟨oc25, od25, .func (PySem.W.fnOf "_law_word_right" "_law_word_right" (defArgs s__law_word_right) (defBody s__law_word_right) (defScope s__law_word_right) .none kV25 dc25 pm25 an25 cd25 ct25), sl25⟩)
    (c25 : PySem.W.codeIn K cd25 "_law_word_right" = true)
    (k25 : PySem.W.keepIn K (.ref f25) = true)
    (a26 : PySem.W.nsIn K mainGlobals "law" = some (some (.ref f26)))
    (l26 : K.lookup f26 = some ⟨oc26, od26, .func (PySem.W.fnOf "law" "law" (defArgs s_law) (defBody s_law) (defScope s_law) .none kV26 dc26 pm26 an26 cd26 ct26), sl26⟩)
    (c26 : PySem.W.codeIn K cd26 "law" = true)
    (k26 : PySem.W.keepIn K (.ref f26) = true)
    : Tx K mg where
  c_LETTERS := ⟨_, PySem.W.mg_of X G e1, _, rfl⟩
  c_FIGURES := ⟨_, PySem.W.mg_of X G e2, _, rfl⟩
  c_MOST_LETTERS := ⟨_, PySem.W.mg_of X G e3, _, rfl⟩
  c_MOST_FIGURES := ⟨_, PySem.W.mg_of X G e4, _, rfl⟩
  b_isinstance := PySem.W.mg_none_of X G e5
  b_int := PySem.W.mg_none_of X G e6
  b_bool := PySem.W.mg_none_of X G e7
  b_str := PySem.W.mg_none_of X G e8
  b_all := PySem.W.mg_none_of X G e9
  b_len := PySem.W.mg_none_of X G e10
  b_range := PySem.W.mg_none_of X G e11
  b_max := PySem.W.mg_none_of X G e12
  b_min := PySem.W.mg_none_of X G e13
  d_is_whole := dfn_mk X G a14 l14 c14 k14 fun _ _ _ _ _ _ us hl => match us, hl with | [_], _ => rfl
  d_is_among := dfn_mk X G a15 l15 c15 k15 fun _ _ _ _ _ _ us hl => match us, hl with | [_, _, _], _ => rfl
  d_is_name := dfn_mk X G a16 l16 c16 k16 fun _ _ _ _ _ _ us hl => match us, hl with | [_], _ => rfl
  d_number_of := dfn_mk X G a17 l17 c17 k17 fun _ _ _ _ _ _ us hl => match us, hl with | [_], _ => rfl
  d__law_mixed := dfn_mk X G a18 l18 c18 k18 fun _ _ _ _ _ _ us hl => match us, hl with | [_, _], _ => rfl
  d__law_draw := dfn_mk X G a19 l19 c19 k19 fun _ _ _ _ _ _ us hl => match us, hl with | [_, _], _ => rfl
  d__law_next := dfn_mk X G a20 l20 c20 k20 fun _ _ _ _ _ _ us hl => match us, hl with | [_, _], _ => rfl
  d__law_text := dfn_mk X G a21 l21 c21 k21 fun _ _ _ _ _ _ us hl => match us, hl with | [_], _ => rfl
  d__law_truth := dfn_mk X G a22 l22 c22 k22 fun _ _ _ _ _ _ us hl => match us, hl with | [_, _], _ => rfl
  d__law_number := dfn_mk X G a23 l23 c23 k23 fun _ _ _ _ _ _ us hl => match us, hl with | [_], _ => rfl
  d__law_thing_right := dfn_mk X G a24 l24 c24 k24 fun _ _ _ _ _ _ us hl => match us, hl with | [_, _, _], _ => rfl
  d__law_word_right := dfn_mk X G a25 l25 c25 k25 fun _ _ _ _ _ _ us hl => match us, hl with | [_], _ => rfl
  d_law := dfn_mk X G a26 l26 c26 k26 fun _ _ _ _ _ _ us hl => match us, hl with | [_], _ => rfl
end Bk01
open PySem PySem.W PyProof.Rows
set_option maxHeartbeats 0 in
theorem PySem.Challenge.cw_boundsmith_k01_names_and_numbers_holds : PySem.Challenge.rw_boundsmith_k01_names_and_numbers.Holds := by
  w_on; o_law; k_head; (case hw => w_witness2)
  k_fill
  refine L2.walk_of (l := PySem.Challenge.rw_boundsmith_k01_names_and_numbers) (n := 63) (k := 4) (x := "script") (CX := fun _ => L2.CX0) (sp := fun w => Bk01.spLaw _) rfl (by decide) rfl ⟨rfl, by decide, by decide⟩ (fun w h Y => PySem.W.kIn_of Y) ?F (fun _ _ a ns hl _ hS => ⟨a, ns, rfl, hS, hl, fun _ => rfl⟩) (fun _ _ _ _ _ h => h)
  case F =>
    intro w mg fa h KX G hmg
    refine Bk01.law_of (P := _) ?_ hmg
    refine' Bk01.tx_mk KX G ?e1 ?e2 ?e3 ?e4 ?e5 ?e6 ?e7 ?e8 ?e9 ?e10 ?e11 ?e12 ?e13 ?a14 ?l14 ?c14 ?k14 ?a15 ?l15 ?c15 ?k15 ?a16 ?l16 ?c16 ?k16 ?a17 ?l17 ?c17 ?k17 ?a18 ?l18 ?c18 ?k18 ?a19 ?l19 ?c19 ?k19 ?a20 ?l20 ?c20 ?k20 ?a21 ?l21 ?c21 ?k21 ?a22 ?l22 ?c22 ?k22 ?a23 ?l23 ?c23 ?k23 ?a24 ?l24 ?c24 ?k24 ?a25 ?l25 ?c25 ?k25 ?a26 ?l26 ?c26 ?k26
    (case e1 => k_is); (case e2 => k_is); (case e3 => k_is); (case e4 => k_is); (case e5 => k_is); (case e6 => k_is); (case e7 => k_is); (case e8 => k_is); (case e9 => k_is); (case e10 => k_is); (case e11 => k_is); (case e12 => k_is); (case e13 => k_is); (case a14 => k_is); (case l14 => k_is); (case c14 => k_is); (case k14 => k_is); (case a15 => k_is); (case l15 => k_is); (case c15 => k_is); (case k15 => k_is); (case a16 => k_is); (case l16 => k_is); (case c16 => k_is); (case k16 => k_is); (case a17 => k_is); (case l17 => k_is); (case c17 => k_is); (case k17 => k_is); (case a18 => k_is); (case l18 => k_is); (case c18 => k_is); (case k18 => k_is); (case a19 => k_is); (case l19 => k_is); (case c19 => k_is); (case k19 => k_is); (case a20 => k_is); (case l20 => k_is); (case c20 => k_is); (case k20 => k_is); (case a21 => k_is); (case l21 => k_is); (case c21 => k_is); (case k21 => k_is); (case a22 => k_is); (case l22 => k_is); (case c22 => k_is); (case k22 => k_is); (case a23 => k_is); (case l23 => k_is); (case c23 => k_is); (case k23 => k_is); (case a24 => k_is); (case l24 => k_is); (case c24 => k_is); (case k24 => k_is); (case a25 => k_is); (case l25 => k_is); (case c25 => k_is); (case k25 => k_is); (case a26 => k_is); (case l26 => k_is); (case c26 => k_is); (case k26 => k_is)

