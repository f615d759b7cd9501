import PyProof.Rows.All
import Wide.All
import OpenK.AllK
import Wide.FinOn
import HandS.ForMost
import HandS.IsInst
import HandS.TupAny
import HandS.TupMul
import HandS.Wide
import HandS.Style
import HandS.Zip
import HandS.RaiseMore
import HandS.SetFor
import PyProof.ReprLen
import PyProof.Rows.ReprOcc
import HandS.Conv
import KE.GoesEnum
import HandS.Walk
import HandS.SortKw
import KE.DatumOrd
import KE.KEqDeep
import HandS.Gcd
import KE.KUnpackStar
import KE.KDictZip
import HandS.ForExc
import HandS.CallSlots
import HandS.Lambda
import HandS.SortInts
import HandS.ForSpec
import HandS.EndTab
import HandS.TryMany
import HandS.ExcIs
import HandS.ExcInit
import HandS.ExcField
import KE.KExcIs
import HandS.More
import HandS.RevRange
import PySem.Challenge.RW_nearnought_k18_rows_along_orders_and_hal
set_option Elab.async false
set_option linter.all false
set_option maxRecDepth 100000
set_option maxHeartbeats 4000000
namespace Nk
open PySem L2

/-! data at any depth, the empty dict too -/
mutual
inductive Dq (K : PySem.W.Frag) (H : Hp) : V → PyData → Prop
  | non : Dq K H .non .none
  | bl (b : Bool) : Dq K H (.bl b) (.bool b)
  | int (i : Int) : Dq K H (.int i) (.int i)
  | str (x : Str) : Dq K H (.str x) (.str x)
  | lst {a : Addr} {xs : List V} {ds : List PyData} : H a = some (.lst xs) → DqAll K H xs ds → Dq K H (.ref a) (.list ds)
  | tup {a : Addr} {xs : List V} {ds : List PyData} : H a = some (.tup xs) → DqAll K H xs ds → Dq K H (.ref a) (.tuple ds)
  | dnil {a : Addr} : H a = some (.dK []) → Dq K H (.ref a) (.dict [])
inductive DqAll (K : PySem.W.Frag) (H : Hp) : List V → List PyData → Prop
  | nil : DqAll K H [] []
  | cons {v : V} {vs : List V} {d : PyData} {ds : List PyData} : Dq K H v d → DqAll K H vs ds → DqAll K H (v :: vs) (d :: ds)
end

/-! data without a list -/
mutual
def noL : PyData → Bool
  | .list _ => false
  | .tuple xs => noLs xs
  | _ => true
def noLs : List PyData → Bool
  | [] => true
  | x :: xs => noL x && noLs xs
end
section
variable {X : Cx} {pins : List (Addr × Obj)} {σ : St} {H : Hp} {s : Shared}

mutual
theorem Dq.rd (I : Inv X pins σ H s) : ∀ (d : PyData) (v : V) (u : Value), Dq X.K H v d → RelV v u → ∃ as, PySem.Reads s.heap u d as ∧ (noL d = true → sysModules ∉ as)
  | .none, _, _, h, r => by
    cases h; cases r
    exact ⟨[], .none, fun _ z => nomatch z⟩
  | .bool b, _, _, h, r => by
    cases h; cases r
    exact ⟨[], .bool b, fun _ z => nomatch z⟩
  | .int i, _, _, h, r => by
    cases h
    obtain ⟨t, q⟩ := r
    subst q
    exact ⟨[], .int i t, fun _ z => nomatch z⟩
  | .str x, _, _, h, r => by
    cases h
    obtain ⟨t, q⟩ := r
    subst q
    exact ⟨[], .str x t, fun _ z => nomatch z⟩
  | .list ds, _, _, h, r => by
    cases h with
    | lst hs ha =>
      cases r
      obtain ⟨z, its, n, rv, e⟩ := I.hok _ _ hs
      obtain ⟨as, hr, hn⟩ := Dq.rdAll I ds _ its ha rv
      exact ⟨_, .list e rfl rfl hr, fun q => by simp [noL] at q⟩
  | .tuple ds, _, _, h, r => by
    cases h with
    | tup hs ha =>
      cases r
      obtain ⟨z, its, rv, o, ho, hc, n, hd⟩ := I.hok _ _ hs
      obtain ⟨as, hr, hn⟩ := Dq.rdAll I ds _ its ha rv
      exact ⟨_, .tuple ho hc hd hr, fun q => hn (by simpa [noL] using q)⟩
  | .dict kvs, _, _, h, r => by
    cases h with
    | dnil hs =>
      cases r
      obtain ⟨z, y, vs, rv, o, es, ep, ho, hx, hd, hl, hp, hrest⟩ := I.hok _ _ hs
      cases rv
      obtain ⟨es⟩ := es
      have hes : es = [] := by
        cases es with
        | nil => rfl
        | cons e es => cases hp
      subst hes
      have hc : o.cls = .type "dict" := hx.1
      exact ⟨_, .dict (kvs := []) ho hc hd .nil .nil, fun _ q => by
        have q' := List.mem_singleton.mp q
        rw [← q'] at y
        exact absurd y (by decide)⟩
theorem Dq.rdAll (I : Inv X pins σ H s) : ∀ (ds : List PyData) (vs : List V) (us : List Value), DqAll X.K H vs ds → Vals vs us → ∃ as, PySem.ReadsAll s.heap us ds as ∧ (noLs ds = true → sysModules ∉ as)
  | [], _, _, h, r => by
    cases h; cases r
    exact ⟨[], .nil, fun _ z => nomatch z⟩
  | d :: ds, _, _, h, r => by
    cases h with
    | cons h1 h2 =>
      cases r with
      | cons r1 r2 =>
        obtain ⟨as, q1, n1⟩ := Dq.rd I d _ _ h1 r1
        obtain ⟨bs, q2, n2⟩ := Dq.rdAll I ds _ _ h2 r2
        refine ⟨_, .cons q1 q2, fun c z => ?_⟩
        have c' : noL d = true ∧ noLs ds = true := by simpa [noLs] using c
        exact (List.mem_append.mp z).elim (n1 c'.1) (n2 c'.2)
end
end
/-- where a dict stands within, no list does (the list of all modules is a dict that no list must be taken for) -/
def Uno (d : PyData) : Prop := d.hasDict = true → noL d = true

/-- repr(x) of data: the text is a function of the data -/
def rRepr (K : PySem.W.Frag) : List V → Hp → VK → Prop := fun xs H Q => ∃ v d, xs = [v] ∧ Dq K H v d ∧ Uno d ∧ d.showable = true ∧ d.depth ≤ 40 ∧ d.shown.length ≤ sizeLine ∧ Q (.str d.shown) H
theorem call_reprD {X : Cx} (hg : X.A.guards = some []) (hu : X.A.units + 64 < cLine) : CallR X (.builtin "repr") (rRepr X.K) := by
  intro pins s σ H xs us Q I r h
  obtain ⟨v, d, e1, hd, hone, hsh, hdep, hlen, q⟩ := h
  subst e1
  cases r with
  | cons r1 r2 =>
    cases r2
    rename_i u
    obtain ⟨as, hr, hn⟩ := Dq.rd I d v u hd r1
    cases hd with
    | non =>
      cases r1
      exact PySem.P.repr_of_none ⟨.str _, H, I.tok _, ⟨_, rfl⟩, q⟩
    | bl b =>
      cases r1
      exact PySem.P.repr_of_bool ⟨.str _, H, I.tok _, ⟨_, rfl⟩, q⟩
    | int i =>
      obtain ⟨t, q1⟩ := r1
      subst q1
      have hi : i.natAbs.log2 < 1920 := by simpa [PyData.showable] using hsh
      exact PySem.P.repr_of_int hi ⟨.str _, H, I.tok _, ⟨_, rfl⟩, q⟩
    | str x =>
      obtain ⟨t, q1⟩ := r1
      subst q1
      exact PySem.P.repr_of_str ⟨.str _, H, I.tok _, ⟨_, rfl⟩, q⟩ hlen
    | lst hs ha =>
      cases r1
      exact PySem.repr_of_reads' hr hsh (fun z => hn (hone z)) hg (by omega) (fun _ _ e => e) (fun h' u tk hk => ⟨.str _, H, I.kept (t' := tk) hk, ⟨_, rfl⟩, q⟩) hlen
    | tup hs ha =>
      cases r1
      exact PySem.repr_of_reads' hr hsh (fun z => hn (hone z)) hg (by omega) (fun _ _ e => e) (fun h' u tk hk => ⟨.str _, H, I.kept (t' := tk) hk, ⟨_, rfl⟩, q⟩) hlen
    | dnil hs =>
      cases r1
      exact PySem.repr_of_reads' hr hsh (fun z => hn (hone z)) hg (by omega) (fun _ _ e => e) (fun h' u tk hk => ⟨.str _, H, I.kept (t' := tk) hk, ⟨_, rfl⟩, q⟩) hlen

/-! len(set(t)), t a tuple of ints -/
def tLenSetT (K : PySem.W.Frag) (ta : TE) : TE := fun σ H Q => ta σ H fun x H1 => ∃ (l : Addr) (ns : List Int), x = .ref l ∧ SqT K H1 l (ns.map V.int) ∧ ns.length ≤ 1000 ∧
  ∀ L : List Int, L.Nodup → (∀ k, k ∈ ns ↔ k ∈ L) → Q (.int (L.length : Nat)) H1
theorem pe_lenSetT {X : Cx} {a : Expr} {ta : TE} {p p2 q pos : Pos} (hg : Gl X "len") (hm : X.mg "len" = none) (hg2 : Gl X "set") (hm2 : X.mg "set" = none) (ha : PE X a ta) (hc : X.calm = true := by rfl)
    (na : starEach [a] X.env = (false, eval a X.env) :: starEach [] X.env := by rfl) : PE X (.Call (.Name "len" p) [.Call (.Name "set" p2) [a] [] q] [] pos) (tLenSetT X.K ta) := by
  refine ⟨fun pins s σ H Q I h => ?_⟩
  refine PyProof.Rows.Call_ (ld_blt I hg hm PySem.boot_len ?_)
  refine PyProof.Rows.callWith_builtin1 (PyProof.Rows.args_cons ?_ rfl) rfl rfl
  refine PyProof.Rows.Call_ (ld_blt I hg2 hm2 PyProof.Rows.boot_set ?_)
  refine PyProof.Rows.callWith_type1 (PyProof.Rows.args_cons (thn (ha.run pins s σ H _ I h) fun v s1 ⟨x, H1, I1, r1, q1⟩ => PyProof.Rows.args_nil ?_) na) na rfl
  obtain ⟨l, ns, e1, hq, hl, q1⟩ := q1
  subst e1
  cases r1
  obtain ⟨its, r, pl, hz⟩ := I1.tuple hq
  have hi : PyProof.Rows.IntsAre its.toArray.toList ns := ints_of_vals r
  refine call_set_tupI ns (I1.ok.hd hc) (show s1.heap.IsTuple l its.toArray from pl) hi (by unfold scanBound; omega) fun h' tk c R1 hcn k => ?_
  refine PyProof.Rows.args_nil ?_
  obtain ⟨o, es, ep, t, ho, hx, hd, g, nd, hm3, hb, hf, hn, _⟩ := R1
  have I2 : Inv X pins σ H1 { s1 with heap := h', toks := tk } := I1.kept fun b o e => k b o e
  have hz : (es.toList.map keyOf).length = es.size := by simp
  refine PySem.call_len_set ho hx hd hf (by omega) ⟨.int es.size, H1, I2.tok _, ⟨_, rfl⟩, ?_⟩
  have := q1 (es.toList.map keyOf) nd fun k => by
    rw [← hm3 k]
    exact (decide_eq_true_iff).symm
  rw [hz] at this
  exact this

/-! a call of a def of the text: all that is known of it in one fact -/
structure Dk (P : Program) (w : World) (K : PySem.W.Frag) (mg : Str → Option Value) (base : Heap) (k : Nat) (x : Str) (ps : List Str) (sp : Sp) : Prop where
  ex : ∃ (f : Addr) (fd : FuncData), FnOk P w K mg base CX0 k f fd ps sp ∧ mg x = some (.ref f) ∧ PySem.W.keepIn K (.ref f) = true ∧ Binds K fd ps []
section
variable {X : Cx} {x : Str} {k : Nat} {ps : List Str} {sp : Sp} {e : Expr} {es : List Expr} {t : TA} {p pos : Pos}
theorem pe_dk (D : Dk X.prog X.w X.K X.mg X.base k x ps sp) (hr : Room k X.A) (ha : PA X (e :: es) t) (hg : Gl X x := by rfl) (hdb : (x == ("__debug__" : Str)) = false := by decide)
    (he : starEach (e :: es) X.env = (false, eval e X.env) :: starEach es X.env := by rfl) (hpl : (backTo pos (starEach es X.env)).any (·.1) = false := by rfl) : PE X (.Call (.Name x p) (e :: es) [] pos) (tCall sp [] E0 t) := by
  obtain ⟨f, fd, F, m, kp, b⟩ := D.ex
  exact pe_call F hr hg m kp b .nil pass0 ha hdb he hpl
theorem pe_dk0 (D : Dk X.prog X.w X.K X.mg X.base k x ps sp) (hr : Room k X.A) (hg : Gl X x := by rfl) (hdb : (x == ("__debug__" : Str)) = false := by decide) : PE X (.Call (.Name x p) [] [] pos) (tCall sp [] E0 tNil) := by
  obtain ⟨f, fd, F, m, kp, b⟩ := D.ex
  exact pe_call0 F hr hg m kp b .nil pass0 hdb
end
end Nk
set_option Elab.async false
set_option linter.all false
set_option maxRecDepth 100000
set_option maxHeartbeats 4000000
namespace Nk
open PySem L2

/-! more data on a larger heap -/
mutual
theorem Dq.same {K : PySem.W.Frag} {H H' : Hp} (e : Same H H') : ∀ {v : V} {d : PyData}, Dq K H v d → Dq K H' v d
  | _, _, .non => .non
  | _, _, .bl b => .bl b
  | _, _, .int i => .int i
  | _, _, .str x => .str x
  | _, _, .lst h t => .lst (e _ _ h) (DqAll.same e t)
  | _, _, .tup h t => .tup (e _ _ h) (DqAll.same e t)
  | _, _, .dnil h => .dnil (e _ _ h)
theorem DqAll.same {K : PySem.W.Frag} {H H' : Hp} (e : Same H H') : ∀ {vs : List V} {ds : List PyData}, DqAll K H vs ds → DqAll K H' vs ds
  | _, _, .nil => .nil
  | _, _, .cons h t => .cons (Dq.same e h) (DqAll.same e t)
end
section
variable {K : PySem.W.Frag} {H : Hp}
theorem DqAll.length : ∀ {vs : List V} {ds : List PyData}, DqAll K H vs ds → vs.length = ds.length
  | _, _, .nil => rfl
  | _, _, .cons _ t => by rw [List.length_cons, List.length_cons, DqAll.length t]
theorem DqAll.get : ∀ {vs : List V} {ds : List PyData} {i : Nat} {x : V}, DqAll K H vs ds → vs[i]? = some x → ∃ d, ds[i]? = some d ∧ Dq K H x d
  | _, _, _, _, .nil, e => by simp at e
  | _, _, 0, _, .cons h _, e => by simp at e; subst e; exact ⟨_, rfl, h⟩
  | _, _, i + 1, x, .cons _ t, e => by
    obtain ⟨d, h1, h2⟩ := DqAll.get (i := i) (x := x) t (by simpa using e)
    exact ⟨d, by simpa using h1, h2⟩
theorem DqAll.mem {vs : List V} {ds : List PyData} {x : V} (h : DqAll K H vs ds) (hx : x ∈ vs) : ∃ d, d ∈ ds ∧ Dq K H x d := by
  obtain ⟨i, hi⟩ := List.mem_iff_getElem?.mp hx
  obtain ⟨d, h1, h2⟩ := h.get hi
  exact ⟨d, List.mem_of_getElem? h1, h2⟩
theorem DqAll.append : ∀ {vs ws : List V} {ds es : List PyData}, DqAll K H vs ds → DqAll K H ws es → DqAll K H (vs ++ ws) (ds ++ es)
  | _, _, _, _, .nil, h => h
  | _, _, _, _, .cons a t, h => .cons a (DqAll.append t h)
theorem DqAll.take : ∀ {vs : List V} {ds : List PyData} (n : Nat), DqAll K H vs ds → DqAll K H (vs.take n) (ds.take n)
  | _, _, 0, _ => .nil
  | _, _, _ + 1, .nil => .nil
  | _, _, n + 1, .cons a t => .cons a (DqAll.take n t)
theorem DqAll.drop : ∀ {vs : List V} {ds : List PyData} (n : Nat), DqAll K H vs ds → DqAll K H (vs.drop n) (ds.drop n)
  | _, _, 0, h => h
  | _, _, _ + 1, .nil => .nil
  | _, _, n + 1, .cons _ t => DqAll.drop n t
theorem DqAll.reverse : ∀ {vs : List V} {ds : List PyData}, DqAll K H vs ds → DqAll K H vs.reverse ds.reverse
  | _, _, .nil => .nil
  | _, _, .cons a t => by
    rw [List.reverse_cons, List.reverse_cons]
    exact DqAll.append (DqAll.reverse t) (.cons a .nil)
theorem DqAll.ints : ∀ (ns : List Int), DqAll K H (ns.map V.int) (ns.map PyData.int)
  | [] => .nil
  | n :: ns => .cons (.int n) (DqAll.ints ns)
theorem DqAll.bls : ∀ (ns : List Bool), DqAll K H (ns.map V.bl) (ns.map PyData.bool)
  | [] => .nil
  | n :: ns => .cons (.bl n) (DqAll.bls ns)
end

/-! the heap H' is H with the new objects of N -/
structure Ext (N H H' : Hp) : Prop where
  new : ∀ b o, N b = some o → H' b = some o ∧ H b = none
  old : ∀ b, N b = none → H' b = H b
theorem Ext.nil0 (H : Hp) : Ext (fun _ => none) H H := by
  refine ⟨fun b o z => ?_, fun _ _ => rfl⟩
  cases z
theorem Ext.sub {N H H' : Hp} (e : Ext N H H') : Same N H' := fun b o h => (e.new b o h).1
theorem Ext.same {N H H' : Hp} (e : Ext N H H') : Same H H' := fun b o h => by
  cases q : N b with
  | none => rw [e.old b q]; exact h
  | some u =>
    rw [(e.new b u q).2] at h
    cases h
def joinH (N M : Hp) : Hp := fun b => match N b with
  | some o => some o
  | none => M b
theorem joinH_left {N M : Hp} {b : Addr} {o : HO} (h : N b = some o) : joinH N M b = some o := by unfold joinH; rw [h]
theorem joinH_right {N M : Hp} {b : Addr} (h : N b = none) : joinH N M b = M b := by unfold joinH; rw [h]
theorem Ext.trans {N M H H1 H2 : Hp} (a : Ext N H H1) (b : Ext M H1 H2) : Ext (joinH N M) H H2 ∧ Same N (joinH N M) ∧ Same M (joinH N M) := by
  have key : ∀ c o, M c = some o → N c = Option.none := fun c o h => by
    cases q : N c with
    | none => rfl
    | some u =>
      have h1 := (b.new c o h).2
      rw [(a.new c u q).1] at h1
      cases h1
  refine ⟨⟨fun c o h => ?_, fun c h => ?_⟩, fun c o h => joinH_left h, fun c o h => by rw [joinH_right (key c o h)]; exact h⟩
  · cases q : N c with
    | some u =>
      have h2 : o = u := Option.some.inj (h.symm.trans (joinH_left q))
      subst h2
      exact ⟨b.same _ _ (a.new c o q).1, (a.new c o q).2⟩
    | none =>
      rw [joinH_right q] at h
      exact ⟨(b.new c o h).1, by rw [← a.old c q]; exact (b.new c o h).2⟩
  · cases q : N c with
    | some u => rw [joinH_left q] at h; cases h
    | none =>
      rw [joinH_right q] at h
      rw [b.old c h, a.old c q]
theorem Ext.one {H : Hp} {p : Addr} {o : HO} (h : H p = none) : Ext (upd (fun _ => none) p o) H (upd H p o) := by
  refine ⟨fun b u e => ?_, fun b e => ?_⟩
  · by_cases hb : b = p
    · subst hb
      rw [upd_same] at e
      exact ⟨by rw [upd_same]; exact e, h⟩
    · rw [upd_ne hb] at e
      cases e
  · by_cases hb : b = p
    · subst hb; rw [upd_same] at e; cases e
    · rw [upd_ne hb]

/-! written data, whole -/
def tLit (K : PySem.W.Frag) (d : PyData) : TE := fun _ H Q => ∀ v N H', Ext N H H' → Dq K N v d → Q v H'
def tLits (K : PySem.W.Frag) (ds : List PyData) : TA := fun _ H Q => ∀ vs N H', Ext N H H' → DqAll K N vs ds → Q vs H'
section
variable {X : Cx} {e : Expr} {es : List Expr} {pos : Pos}
theorem pe_imp {t t' : TE} (h : PE X e t) (i : ∀ σ H Q, t' σ H Q → t σ H Q) : PE X e t' := ⟨fun pins s σ H Q I q => h.run pins s σ H Q I (i σ H Q q)⟩
theorem pa_imp {t t' : TA} (h : PA X es t) (i : ∀ σ H Q, t' σ H Q → t σ H Q) : PA X es t' := ⟨fun ps pins s σ H Q I q => h.run ps pins s σ H Q I (i σ H Q q)⟩
theorem pl_int {i j} : PE X (.Constant (.int i) j pos) (tLit X.K (.int i)) := pe_imp pe_int fun σ H Q h => h _ _ _ (Ext.nil0 H) (.int i)
theorem pl_bl {b j} : PE X (.Constant (.bool b) j pos) (tLit X.K (.bool b)) := pe_imp pe_bl fun σ H Q h => h _ _ _ (Ext.nil0 H) (.bl b)
theorem pl_non {j} : PE X (.Constant .none j pos) (tLit X.K .none) := pe_imp pe_non fun σ H Q h => h _ _ _ (Ext.nil0 H) .non
theorem pl_str {x j} : PE X (.Constant (.str x) j pos) (tLit X.K (.str x)) := pe_imp pe_str fun σ H Q h => h _ _ _ (Ext.nil0 H) (.str x)
theorem pl_of {te : TE} {i : Int} (h : PE X e te) (q : ∀ σ H Q, Q (.int i) H → te σ H Q) : PE X e (tLit X.K (.int i)) := pe_imp h fun σ H Q z => q σ H Q (z _ _ _ (Ext.nil0 H) (.int i))
theorem pls_nil : PA X [] (tLits X.K []) := pa_imp pa_nil fun σ H Q h => h _ _ _ (Ext.nil0 H) .nil
theorem pls_cons {d : PyData} {ds : List PyData} (a : PE X e (tLit X.K d)) (b : PA X es (tLits X.K ds)) (hs : starEach (e :: es) X.env = (false, eval e X.env) :: starEach es X.env := by rfl) : PA X (e :: es) (tLits X.K (d :: ds)) :=
  pa_imp (pa_cons a b hs) fun σ H Q h v N H1 e1 q1 vs M H2 e2 q2 => by
    obtain ⟨x, y, z⟩ := e1.trans e2
    exact h _ _ _ x (.cons (q1.same y) (q2.same z))
theorem pl_tup {ds : List PyData} {x1} (a : PA X es (tLits X.K ds)) (hz : ds.length ≤ 1000 := by decide) : PE X (.Tuple es x1 pos) (tLit X.K (.tuple ds)) :=
  pe_imp (pe_tup a) fun σ H Q h vs N H1 e1 q1 => by
    refine ⟨Nat.le_of_lt (small1000 (by rw [q1.length]; exact hz)), fun p hp => ?_⟩
    obtain ⟨x, y, z⟩ := e1.trans (Ext.one (o := .tup vs) hp)
    exact h _ _ _ x (.tup (z _ _ upd_same) (q1.same y))
theorem pl_lst {ds : List PyData} (a : PA X es (tLits X.K ds)) (hz : ds.length ≤ 1000 := by decide) : PE X (.List es pos) (tLit X.K (.list ds)) :=
  pe_imp (pe_lst a) fun σ H Q h vs N H1 e1 q1 => by
    refine ⟨Nat.le_of_lt (small1000 (by rw [q1.length]; exact hz)), fun p hp => ?_⟩
    obtain ⟨x, y, z⟩ := e1.trans (Ext.one (o := .lst vs) hp)
    exact h _ _ _ x (.lst (z _ _ upd_same) (q1.same y))
theorem pl_dnil : PE X (.Dict [] [] pos) (tLit X.K (.dict [])) := pe_imp pe_dnewK fun σ H Q h p hp => h _ _ _ (.one hp) (.dnil upd_same)
end

/-! the deck: a list of two lists of numbers and a number, beside all else (D) that is known of the heap -/
structure Deck (D H : Hp) (a : Addr) : Prop where
  sub : Same D H
  na : D a = none
  ex : ∃ (l0 l1 : Addr) (bs cs : List Int) (n : Int), D l0 = none ∧ D l1 = none ∧ l0 ≠ l1 ∧ H a = some (.lst [.ref l0, .ref l1, .int n]) ∧ H l0 = some (.lst (bs.map V.int)) ∧ H l1 = some (.lst (cs.map V.int)) ∧ cs ≠ [] ∧ cs.length ≤ 1000
section
variable {D H H' N : Hp} {a p : Addr} {o u : HO}
theorem Deck.new (d : Deck D H a) (hp : H p = none) : Deck (upd D p o) (upd H p o) a := by
  obtain ⟨s, na, l0, l1, bs, cs, n, n0, n1, ne, ha, h0, h1, hc, hl⟩ := d
  have pa : a ≠ p := ne_of_none ha hp
  have p0 : l0 ≠ p := ne_of_none h0 hp
  have p1 : l1 ≠ p := ne_of_none h1 hp
  refine ⟨fun b w e => ?_, by rw [upd_ne pa]; exact na, l0, l1, bs, cs, n, by rw [upd_ne p0]; exact n0, by rw [upd_ne p1]; exact n1, ne, by rw [upd_ne pa]; exact ha, by rw [upd_ne p0]; exact h0, by rw [upd_ne p1]; exact h1, hc, hl⟩
  by_cases hb : b = p
  · subst hb; rw [upd_same] at e ⊢; exact e
  · rw [upd_ne hb] at e ⊢; exact s _ _ e
theorem Deck.put (d : Deck D H a) (hp : D p = some u) : Deck (upd D p o) (upd H p o) a := by
  obtain ⟨s, na, l0, l1, bs, cs, n, n0, n1, ne, ha, h0, h1, hc, hl⟩ := d
  have pa : a ≠ p := fun q => by subst q; rw [na] at hp; cases hp
  have p0 : l0 ≠ p := fun q => by subst q; rw [n0] at hp; cases hp
  have p1 : l1 ≠ p := fun q => by subst q; rw [n1] at hp; cases hp
  refine ⟨fun b w e => ?_, by rw [upd_ne pa]; exact na, l0, l1, bs, cs, n, by rw [upd_ne p0]; exact n0, by rw [upd_ne p1]; exact n1, ne, by rw [upd_ne pa]; exact ha, by rw [upd_ne p0]; exact h0, by rw [upd_ne p1]; exact h1, hc, hl⟩
  by_cases hb : b = p
  · subst hb; rw [upd_same] at e ⊢; exact e
  · rw [upd_ne hb] at e ⊢; exact s _ _ e
theorem Deck.ext (d : Deck D H a) (e : Ext N H H') : ∃ D', Deck D' H' a ∧ Same D D' ∧ Same N D' := by
  obtain ⟨s, na, l0, l1, bs, cs, n, n0, n1, ne, ha, h0, h1, hc, hl⟩ := d
  have no : ∀ b w, H b = some w → N b = none := fun b w h => by
    cases q : N b with
    | none => rfl
    | some z => rw [(e.new b z q).2] at h; cases h
  refine ⟨joinH N D, ⟨fun b w h => ?_, by rw [joinH_right (no _ _ ha)]; exact na, l0, l1, bs, cs, n, by rw [joinH_right (no _ _ h0)]; exact n0, by rw [joinH_right (no _ _ h1)]; exact n1, ne, e.same _ _ ha, e.same _ _ h0, e.same _ _ h1, hc, hl⟩, fun b w h => ?_, fun b w h => joinH_left h⟩
  · cases q : N b with
    | some z =>
      rw [joinH_left q] at h
      cases h
      exact e.sub _ _ q
    | none =>
      rw [joinH_right q] at h
      exact e.same _ _ (s _ _ h)
  · rw [joinH_right (no b w (s _ _ h))]; exact h
theorem Deck.less {D0 : Hp} (d : Deck D H a) (s : Same D0 D) : Deck D0 H a := by
  obtain ⟨s', na, l0, l1, bs, cs, n, n0, n1, r⟩ := d
  exact ⟨s.trans s', s.free na, l0, l1, bs, cs, n, s.free n0, s.free n1, r⟩
theorem same_new (hp : D p = none) : Same D (upd D p o) := fun b w e => by rw [upd_ne (ne_of_none e hp)]; exact e
theorem Deck.free (d : Deck D H a) (hp : H p = none) : D p = none := d.sub.free hp
end

/-! the same, no list of it at a place of Z -/
mutual
inductive Dz (K : PySem.W.Frag) (Z : Addr → Prop) (H : Hp) : V → PyData → Prop
  | non : Dz K Z H .non .none
  | bl (b : Bool) : Dz K Z H (.bl b) (.bool b)
  | int (i : Int) : Dz K Z H (.int i) (.int i)
  | str (x : Str) : Dz K Z H (.str x) (.str x)
  | lst {a : Addr} {xs : List V} {ds : List PyData} : H a = some (.lst xs) → ¬ Z a → DzAll K Z H xs ds → Dz K Z H (.ref a) (.list ds)
  | tup {a : Addr} {xs : List V} {ds : List PyData} : H a = some (.tup xs) → DzAll K Z H xs ds → Dz K Z H (.ref a) (.tuple ds)
  | dnil {a : Addr} : H a = some (.dK []) → Dz K Z H (.ref a) (.dict [])
inductive DzAll (K : PySem.W.Frag) (Z : Addr → Prop) (H : Hp) : List V → List PyData → Prop
  | nil : DzAll K Z H [] []
  | cons {v : V} {vs : List V} {d : PyData} {ds : List PyData} : Dz K Z H v d → DzAll K Z H vs ds → DzAll K Z H (v :: vs) (d :: ds)
end
section
variable {K : PySem.W.Frag} {Z Z' : Addr → Prop} {H H' : Hp}
mutual
theorem Dz.q : ∀ {v : V} {d : PyData}, Dz K Z H v d → Dq K H v d
  | _, _, .non => .non
  | _, _, .bl b => .bl b
  | _, _, .int i => .int i
  | _, _, .str x => .str x
  | _, _, .lst h _ t => .lst h (DzAll.q t)
  | _, _, .tup h t => .tup h (DzAll.q t)
  | _, _, .dnil h => .dnil h
theorem DzAll.q : ∀ {vs : List V} {ds : List PyData}, DzAll K Z H vs ds → DqAll K H vs ds
  | _, _, .nil => .nil
  | _, _, .cons h t => .cons (Dz.q h) (DzAll.q t)
end
mutual
theorem Dz.same (e : Same H H') : ∀ {v : V} {d : PyData}, Dz K Z H v d → Dz K Z H' v d
  | _, _, .non => .non
  | _, _, .bl b => .bl b
  | _, _, .int i => .int i
  | _, _, .str x => .str x
  | _, _, .lst h z t => .lst (e _ _ h) z (DzAll.same e t)
  | _, _, .tup h t => .tup (e _ _ h) (DzAll.same e t)
  | _, _, .dnil h => .dnil (e _ _ h)
theorem DzAll.same (e : Same H H') : ∀ {vs : List V} {ds : List PyData}, DzAll K Z H vs ds → DzAll K Z H' vs ds
  | _, _, .nil => .nil
  | _, _, .cons h t => .cons (Dz.same e h) (DzAll.same e t)
end
mutual
theorem Dz.mono (e : ∀ a, Z' a → Z a) : ∀ {v : V} {d : PyData}, Dz K Z H v d → Dz K Z' H v d
  | _, _, .non => .non
  | _, _, .bl b => .bl b
  | _, _, .int i => .int i
  | _, _, .str x => .str x
  | _, _, .lst h z t => .lst h (fun q => z (e _ q)) (DzAll.mono e t)
  | _, _, .tup h t => .tup h (DzAll.mono e t)
  | _, _, .dnil h => .dnil h
theorem DzAll.mono (e : ∀ a, Z' a → Z a) : ∀ {vs : List V} {ds : List PyData}, DzAll K Z H vs ds → DzAll K Z' H vs ds
  | _, _, .nil => .nil
  | _, _, .cons h t => .cons (Dz.mono e h) (DzAll.mono e t)
end
mutual
theorem Dq.z : ∀ {v : V} {d : PyData}, noL d = true → Dq K H v d → Dz K Z H v d
  | _, _, _, .non => .non
  | _, _, _, .bl b => .bl b
  | _, _, _, .int i => .int i
  | _, _, _, .str x => .str x
  | _, _, c, .lst _ _ => by simp [noL] at c
  | _, _, c, .tup h t => .tup h (DqAll.z (by simpa [noL] using c) t)
  | _, _, _, .dnil h => .dnil h
theorem DqAll.z : ∀ {vs : List V} {ds : List PyData}, noLs ds = true → DqAll K H vs ds → DzAll K Z H vs ds
  | _, _, _, .nil => .nil
  | _, _, c, .cons h t => by
    have c' := by simpa [noLs] using c
    exact .cons (Dq.z c'.1 h) (DqAll.z c'.2 t)
end
mutual
theorem Dq.lit (e : ∀ a o, H a = some o → ¬ Z a) : ∀ {v : V} {d : PyData}, Dq K H v d → Dz K Z H v d
  | _, _, .non => .non
  | _, _, .bl b => .bl b
  | _, _, .int i => .int i
  | _, _, .str x => .str x
  | _, _, .lst h t => .lst h (e _ _ h) (DqAll.lit e t)
  | _, _, .tup h t => .tup h (DqAll.lit e t)
  | _, _, .dnil h => .dnil h
theorem DqAll.lit (e : ∀ a o, H a = some o → ¬ Z a) : ∀ {vs : List V} {ds : List PyData}, DqAll K H vs ds → DzAll K Z H vs ds
  | _, _, .nil => .nil
  | _, _, .cons h t => .cons (Dq.lit e h) (DqAll.lit e t)
end
mutual
theorem Dz.putL {C : Addr} {xs : List V} {o : HO} (hC : H C = some (.lst xs)) (zC : Z C) : ∀ {v : V} {d : PyData}, Dz K Z H v d → Dz K Z (upd H C o) v d
  | _, _, .non => .non
  | _, _, .bl b => .bl b
  | _, _, .int i => .int i
  | _, _, .str x => .str x
  | _, _, .lst h z t => .lst (by rw [upd_ne (fun q => by subst q; exact z zC)]; exact h) z (DzAll.putL hC zC t)
  | _, _, .tup h t => .tup (by rw [upd_ne (ne_of h hC (by intro z; cases z))]; exact h) (DzAll.putL hC zC t)
  | _, _, .dnil h => .dnil (by rw [upd_ne (ne_of h hC (by intro z; cases z))]; exact h)
theorem DzAll.putL {C : Addr} {xs : List V} {o : HO} (hC : H C = some (.lst xs)) (zC : Z C) : ∀ {vs : List V} {ds : List PyData}, DzAll K Z H vs ds → DzAll K Z (upd H C o) vs ds
  | _, _, .nil => .nil
  | _, _, .cons h t => .cons (Dz.putL hC zC h) (DzAll.putL hC zC t)
end
theorem DzAll.append : ∀ {vs ws : List V} {ds es : List PyData}, DzAll K Z H vs ds → DzAll K Z H ws es → DzAll K Z H (vs ++ ws) (ds ++ es)
  | _, _, _, _, .nil, h => h
  | _, _, _, _, .cons a t, h => .cons a (DzAll.append t h)
theorem DzAll.mem : ∀ {vs : List V} {ds : List PyData} {x : V}, DzAll K Z H vs ds → x ∈ vs → ∃ d, d ∈ ds ∧ Dz K Z H x d
  | _, _, _, .nil, h => nomatch h
  | _, _, _, .cons a t, h => by
    rcases List.mem_cons.mp h with e | h
    · subst e
      exact ⟨_, List.mem_cons_self, a⟩
    · obtain ⟨d, h1, h2⟩ := DzAll.mem t h
      exact ⟨d, List.mem_cons_of_mem _ h1, h2⟩
theorem DzAll.length : ∀ {vs : List V} {ds : List PyData}, DzAll K Z H vs ds → vs.length = ds.length
  | _, _, .nil => rfl
  | _, _, .cons _ t => by rw [List.length_cons, List.length_cons, DzAll.length t]
end
/-- at the places of a heap -/
abbrev Pl (D : Hp) : Addr → Prop := fun b => D b ≠ none
theorem Same.pl {D D' : Hp} (s : Same D D') : ∀ b, Pl D b → Pl D' b := fun b h z => h (s.free z)
end Nk
set_option Elab.async false
set_option linter.all false
set_option maxRecDepth 100000
set_option maxHeartbeats 4000000
namespace Nk
open PySem L2
/-- the built-ins that the text calls are still the built-ins -/
structure Bl (mg : Str → Option Value) : Prop where
  len_ : mg "len" = none
  int_ : mg "int" = none
  abs_ : mg "abs" = none
  range_ : mg "range" = none
  list_ : mg "list" = none
  tuple_ : mg "tuple" = none
  isinstance_ : mg "isinstance" = none
  bool_ : mg "bool" = none
  str_ : mg "str" = none
  sum_ : mg "sum" = none
  all_ : mg "all" = none
  set_ : mg "set" = none
  repr_ : mg "repr" = none

/-! promises of the helpers -/
def spDeck (K : PySem.W.Frag) : Sp := fun vs H Q _ => ∃ (a : Addr) (ns : List Int), vs = [.ref a] ∧ SqL K H a (ns.map V.int) ∧ ns.length ≤ 63 ∧ ∀ H' p, Same H H' → Deck H H' p → Q (.ref p) H'
def spDraw : Sp := fun vs H Q _ => ∃ (D : Hp) (a : Addr) (m : Int), vs = [.ref a, .int m] ∧ Deck D H a ∧ 0 < m ∧ m < 2 ^ 64 ∧ ∀ H' r, Deck D H' a → 0 ≤ r → r < m → Q (.int r) H'
def spOne : Sp := fun vs H Q _ => ∃ (D : Hp) (a p : Addr) (xs : List V), vs = [.ref a, .ref p] ∧ Deck D H a ∧ D p = some (.lst xs) ∧ xs ≠ [] ∧ xs.length ≤ 1000 ∧ ∀ H' x, Deck D H' a → x ∈ xs → Q x H'

theorem dp_ints {K : PySem.W.Frag} {H : Hp} : ∀ (ns : List Int), DpAll K H (ns.map V.int) (ns.map PyData.int)
  | [] => .nil
  | n :: ns => .cons (.int n) (dp_ints ns)
theorem atI_0 {α : Type} {xs : List α} {x : α} (h : xs[0]? = some x) : atI xs 0 = some x := atI_nat (j := 0) h
theorem atI_1 {α : Type} {xs : List α} {x : α} (h : xs[1]? = some x) : atI xs 1 = some x := atI_nat (j := 1) h
theorem atI_2 {α : Type} {xs : List α} {x : α} (h : xs[2]? = some x) : atI xs 2 = some x := atI_nat (j := 2) h
theorem atI_in {α : Type} {xs : List α} {i : Int} (h0 : 0 ≤ i) (h1 : i < xs.length) : ∃ x, atI xs i = some x ∧ x ∈ xs ∧ xs[i.toNat]? = some x := by
  have hl : i.toNat < xs.length := by omega
  have e : ((i.toNat : Nat) : Int) = i := by omega
  have q : xs[i.toNat]? = some xs[i.toNat] := List.getElem?_eq_getElem hl
  refine ⟨xs[i.toNat], ?_, List.getElem_mem hl, q⟩
  have := atI_nat (xs := xs) (j := i.toNat) q
  rw [e] at this
  exact this
theorem lay_ints : ∀ (ns : List Int), PyData.canLayAll0 (ns.map PyData.int) = true
  | [] => by simp [PyData.canLayAll0]
  | n :: ns => by simp [PyData.canLayAll0, PyData.canLay0, lay_ints ns]
theorem depth_ints : ∀ (ns : List Int), PyData.depthAll (ns.map PyData.int) = 0
  | [] => by simp [PyData.depthAll]
  | n :: ns => by simp [PyData.depthAll, PyData.depth, depth_ints ns]
mutual
theorem Dq.dp {K : PySem.W.Frag} {H : Hp} : ∀ {v : V} {d : PyData}, d.canLay0 = true → Dq K H v d → Dp K H v d
  | _, _, _, .non => .non
  | _, _, _, .bl b => .bl b
  | _, _, _, .int i => .int i
  | _, _, _, .str x => .str x
  | _, _, c, .lst h t => .lst (SqL.of h) (DqAll.dp (by simpa [PyData.canLay0] using c) t)
  | _, _, c, .tup h t => .tup (SqT.of h) (DqAll.dp (by simpa [PyData.canLay0] using c) t)
  | _, _, c, .dnil h => by simp [PyData.canLay0] at c
theorem DqAll.dp {K : PySem.W.Frag} {H : Hp} : ∀ {vs : List V} {ds : List PyData}, PyData.canLayAll0 ds = true → DqAll K H vs ds → DpAll K H vs ds
  | _, _, _, .nil => .nil
  | _, _, c, .cons h t => by
    have c' := by simpa [PyData.canLayAll0] using c
    exact .cons (Dq.dp c'.1 h) (DqAll.dp c'.2 t)
end
theorem eqv_nil_list (ds : List PyData) : PyData.eqv (.list ds) (.list []) = ds.isEmpty := by
  cases ds <;> simp [PyData.eqv, PyData.eqvAll]
theorem eqv_nil_tup (ds : List PyData) : PyData.eqv (.tuple ds) (.tuple []) = ds.isEmpty := by
  cases ds <;> simp [PyData.eqv, PyData.eqvAll]
theorem shaped_of {d : PyData} (c : d.canLay0 = true) (h : d.depth ≤ 64) : SeqAt.shaped d = true := by
  unfold SeqAt.shaped
  rw [c, decide_eq_true h]
  rfl
section
variable {K : PySem.W.Frag} {H : Hp} {Q : VK} {p a : Addr} {xs : List V} {ds : List PyData}
theorem ne_nilL (ha : H a = some (.lst xs)) (hx : DqAll K H xs ds) (c : PyData.canLayAll0 ds = true) (dp : PyData.depthAll ds ≤ 50) (hp : H p = some (.lst [])) (q : Q (.bl (!xs.isEmpty)) H) : rNeD K (.ref a) (.ref p) H Q := by
  have e : xs.isEmpty = ds.isEmpty := by
    have := hx.length
    cases xs <;> cases ds <;> first | rfl | simp at this
  refine ⟨.list ds, .list [], Dq.dp (by simpa [PyData.canLay0] using c) (.lst ha hx), .lst (SqL.of hp) .nil, shaped_of (by simpa [PyData.canLay0] using c) (by simp only [PyData.depth]; omega), by decide +kernel, ?_⟩
  rw [eqv_nil_list, ← e]
  exact q
theorem eq_nilL (ha : H a = some (.lst xs)) (hx : DqAll K H xs ds) (c : PyData.canLayAll0 ds = true) (dp : PyData.depthAll ds ≤ 50) (hp : H p = some (.lst [])) (q : Q (.bl xs.isEmpty) H) : rEqD K (.ref a) (.ref p) H Q := by
  have e : xs.isEmpty = ds.isEmpty := by
    have := hx.length
    cases xs <;> cases ds <;> first | rfl | simp at this
  refine ⟨.list ds, .list [], Dq.dp (by simpa [PyData.canLay0] using c) (.lst ha hx), .lst (SqL.of hp) .nil, shaped_of (by simpa [PyData.canLay0] using c) (by simp only [PyData.depth]; omega), by decide +kernel, ?_⟩
  rw [eqv_nil_list, ← e]
  exact q
theorem ne_nilT (ha : H a = some (.tup xs)) (hx : DqAll K H xs ds) (c : PyData.canLayAll0 ds = true) (dp : PyData.depthAll ds ≤ 50) (hp : H p = some (.tup [])) (q : Q (.bl (!xs.isEmpty)) H) : rNeD K (.ref a) (.ref p) H Q := by
  have e : xs.isEmpty = ds.isEmpty := by
    have := hx.length
    cases xs <;> cases ds <;> first | rfl | simp at this
  refine ⟨.tuple ds, .tuple [], Dq.dp (by simpa [PyData.canLay0] using c) (.tup ha hx), .tup (SqT.of hp) .nil, shaped_of (by simpa [PyData.canLay0] using c) (by simp only [PyData.depth]; omega), by decide +kernel, ?_⟩
  rw [eqv_nil_tup, ← e]
  exact q
end
end Nk
set_option Elab.async false
set_option linter.all false
set_option maxRecDepth 100000
set_option maxHeartbeats 4000000
namespace Nk
open PySem L2
/-! the rules with the written part named, for a comprehension's block too -/
section
variable {X : Cx} (K : PySem.W.Frag)
theorem kixL (hK : X.K = K := by rfl) : IxR X (rIxL K) := by subst hK; exact ix_list
theorem kixT (hK : X.K = K := by rfl) : IxR X (rIxT K) := by subst hK; exact ix_tup
theorem kslL (hK : X.K = K := by rfl) : SlR X (rSlL K) := by subst hK; exact sl_list
theorem kslT (hK : X.K = K := by rfl) : SlR X (rSlA K) := by subst hK; exact sl_tupA
theorem kisi (hK : X.K = K := by rfl) : CallR X (.builtin "isinstance") (rIsi K) := by subst hK; exact call_isi
theorem ksum (hK : X.K = K := by rfl) (hc : X.calm = true := by rfl) : CallR X (.builtin "sum") (rSum K) := by subst hK; exact cr_sum hc
theorem kall (hK : X.K = K := by rfl) (hc : X.calm = true := by rfl) : CallR X (.builtin "all") (rAll K) := by subst hK; exact cr_all hc
theorem kany (hK : X.K = K := by rfl) (hc : X.calm = true := by rfl) : CallR X (.builtin "any") (rAny K) := by subst hK; exact cr_any hc
theorem kneD (hu : X.A.units + 64 < cLine) (hK : X.K = K := by rfl) : OpR X (compareOp .NotEq) (rNeD K) := by subst hK; exact op_neD hu
theorem keqD (hu : X.A.units + 64 < cLine) (hK : X.K = K := by rfl) : OpR X (compareOp .Eq) (rEqD K) := by subst hK; exact op_eqD hu
theorem kin (hK : X.K = K := by rfl) : OpR X (compareOp .In) (rIn K false) := by subst hK; exact op_in_seq
theorem knin (hK : X.K = K := by rfl) : OpR X (compareOp .NotIn) (rIn K true) := by subst hK; exact op_notIn_seq
theorem kcatT (hK : X.K = K := by rfl) : OpR X (binaryOp .Add) (rCatA K) := by subst hK; exact op_catA
theorem krepT (hK : X.K = K := by rfl) : OpR X (binaryOp .Mult) (rRepT K) := by subst hK; exact op_repT
theorem klist (hK : X.K = K := by rfl) : CallR X (.type "list") (fun xs H Q => ∃ p ys, xs = [.ref p] ∧ (SqL K H p ys ∨ SqT K H p ys) ∧ ∀ l, H l = none → Q (.ref l) (upd H l (.lst ys))) := by subst hK; exact call_list_of
theorem ktuple (hK : X.K = K := by rfl) : CallR X (.type "tuple") (fun xs H Q => ∃ p ys, xs = [.ref p] ∧ ((SqL K H p ys ∧ ∀ l, H l = none → Q (.ref l) (upd H l (.tup ys))) ∨ (SqT K H p ys ∧ Q (.ref p) H))) := by subst hK; exact call_tuple_of
theorem klen (hK : X.K = K := by rfl) : CallR X (.builtin "len") (fun xs H Q => ∃ p ys, xs = [.ref p] ∧ (SqL K H p ys ∨ SqT K H p ys) ∧ Q (.int (ys.length : Nat)) H) := by subst hK; exact call_len_seq
theorem krepr (hg : X.A.guards = some []) (hu : X.A.units + 64 < cLine) (hK : X.K = K := by rfl) : CallR X (.builtin "repr") (rRepr K) := by subst hK; exact call_reprD hg hu
theorem kpiL {tg l : Expr} {tl : TE} (h : PE X l tl) (hK : X.K = K := by rfl) : PI X tg l (iList K tl) := by subst hK; exact pi_list h
theorem kpiT {tg l : Expr} {tl : TE} (h : PE X l tl) (hK : X.K = K := by rfl) : PI X tg l (iTup K tl) := by subst hK; exact pi_tup h
theorem klenSetT {a : Expr} {ta : TE} {p p2 q pos : Pos} (hg : Gl X "len") (hm : X.mg "len" = none) (hg2 : Gl X "set") (hm2 : X.mg "set" = none) (ha : PE X a ta) (hc : X.calm = true := by rfl)
    (na : starEach [a] X.env = (false, eval a X.env) :: starEach [] X.env := by rfl) (hK : X.K = K := by rfl) : PE X (.Call (.Name "len" p) [.Call (.Name "set" p2) [a] [] q] [] pos) (tLenSetT K ta) := by subst hK; exact pe_lenSetT hg hm hg2 hm2 ha hc na
end
end Nk
set_option Elab.async false
set_option linter.all false
set_option maxRecDepth 100000
set_option maxHeartbeats 4000000
namespace Nk
open PySem PySem.Spec PyProof.Rows L2
/-! t[::-1] -/
theorem range_all {α : Type} : ∀ l : List α, (List.range l.length).filterMap (fun k => l[k]?) = l
  | [] => rfl
  | a :: l => by
    rw [List.length_cons, List.range_succ_eq_map, List.filterMap_cons, List.filterMap_map]
    show a :: (List.range l.length).filterMap (fun k => l[k]?) = a :: l
    rw [range_all l]
theorem fmap_congr {α β : Type} {f g : α → Option β} : ∀ {l : List α}, (∀ x ∈ l, f x = g x) → l.filterMap f = l.filterMap g
  | [], _ => rfl
  | a :: l, h => by
    rw [List.filterMap_cons, List.filterMap_cons, h a List.mem_cons_self, fmap_congr fun x hx => h x (List.mem_cons_of_mem _ hx)]
theorem back_all (xs : Array Value) : ((List.range xs.size).filterMap fun (k : Nat) => xs[(((xs.size : Nat) : Int) - 1 + (k : Int) * -1).toNat]?).toArray = xs.toList.reverse.toArray := by
  have e1 : (List.range xs.size).filterMap (fun (k : Nat) => xs[(((xs.size : Nat) : Int) - 1 + (k : Int) * -1).toNat]?) = (List.range xs.size).filterMap (fun k => xs.toList.reverse[k]?) := by
    refine fmap_congr fun k hk => ?_
    have hk := List.mem_range.mp hk
    rw [List.getElem?_reverse (by simpa using hk), Array.length_toList, Array.getElem?_toList]
    have : (((xs.size : Nat) : Int) - 1 + (k : Int) * -1).toNat = xs.size - 1 - k := by omega
    rw [this]
  have e2 := range_all xs.toList.reverse
  rw [List.length_reverse, Array.length_toList] at e2
  rw [e1, e2]
section
variable {prog : Program} {w : World} {A : Around} {E : Value → Shared → Prop} {s : Shared}
theorem applied_back {sl : Addr} {vl vu vs : Value} {n : Nat} {Q : Int × Int × Nat → Shared → Prop} (hs : s.heap.IsSliceOf sl vl vu vs) (pl : IsPart vl none) (pu : IsPart vu none) (ps : IsPart vs (some (-1)))
    (h : Q ((n : Int) - 1, -1, n) s) : wpAny (model prog w) A (Builtin.Slice.sliceApplied (.ref sl) (pure (n : Int))) Q E s := by
  obtain ⟨ob, hob, hcl, hdt⟩ := id hs
  unfold Builtin.Slice.sliceApplied Builtin.Slice.sliceFields
  refine wpAny_bind (wpAny_bind (wpAny_field hob hdt (x := vl) rfl (wpAny_bind (wpAny_field hob hdt (x := vu) rfl (wpAny_bind (wpAny_field hob hdt (x := vs) rfl (wpAny_pure ?_)))))))
  refine wpAny_bind (HT.slicePart_ ps ?_)
  show wpAny _ _ (if ((-1 : Int) == 0) = true then _ else _) _ _ s
  rw [if_neg (by decide)]
  refine wpAny_bind (HT.slicePart_ pl (wpAny_bind (HT.slicePart_ pu (wpAny_bind (wpAny_pure ?_)))))
  have e1 : Builtin.Slice.sliceAdjust none none (-1) (n : Int) = ((n : Int) - 1, -1) := by
    simp [Builtin.Slice.sliceAdjust]
  have e2 : Builtin.Slice.slicePlaces ((n : Int) - 1) (-1) (-1) = n := by
    unfold Builtin.Slice.slicePlaces
    simp
    omega
  show wpAny _ _ (match Builtin.Slice.sliceAdjust none none (-1) (n : Int) with | (x, y) => pure (x, (-1 : Int), Builtin.Slice.slicePlaces x y (-1))) _ _ s
  rw [e1]
  show wpAny _ _ (pure ((n : Int) - 1, (-1 : Int), Builtin.Slice.slicePlaces ((n : Int) - 1) (-1) (-1))) _ _ s
  rw [e2]
  exact wpAny_pure h
theorem item_back {t sl : Addr} {items : Array Value} {vl vu vs : Value} {Q : Value → Shared → Prop} (hT : IsTup s.heap t items) (hs : s.heap.IsSliceOf sl vl vu vs) (pl : IsPart vl none) (pu : IsPart vu none) (ps : IsPart vs (some (-1)))
    (h : Q (.ref s.heap.objs.size) { s with heap := s.heap.push { cls := .type "tuple", data := .seq items.toList.reverse.toArray } }) (hz : items.size ≤ sizeLine) : wpAny (model prog w) A (getItem (.ref t) (.ref sl)) Q E s := by
  have hfit : sizeOk (.seq items.toList.reverse.toArray) := by
    show items.toList.reverse.toArray.size ≤ sizeLine
    simpa using hz
  obtain ⟨ob, hob, hcl, hdt⟩ := id hs
  have hTs : s.TypeIs (.ref sl) "slice" := ⟨ob, hob, hcl⟩
  unfold getItem
  first
    | with_reducible refine wpAny_holding ?_
    | skip
  first
    | refine wpAny_bind (wpAny_pure ?_)
    | skip
  refine wpAny_bind (wpAny_sequenceKey hT.typeIs (by decide) ?_)
  refine wpAny_bind (wpAny_callSpecial?_slot (name := Str.ofString "__getitem__") hT.typeIs PyProof.Rows.slot_tuple_getitem (wpAny_call_entry PyProof.Rows.slot_tuple_getitem hT.typeIs entry_tuple_getitem ?_ (args_tuple_getitem _ _)))
  show wpAny _ _ (Builtin.Tuple.tupleItemsOf (.ref t) >>= _) _ _ s
  refine wpAny_bind (tupleItemsOf_ hT ?_)
  refine wpAny_bind (wpAny_typeOf hTs ?_)
  rw [if_pos (by decide)]
  refine wpAny_bind (applied_back hs pl pu ps ?_)
  show wpAny _ _ (if (((items.size : Nat) : Int) - 1 == 0 && (-1 : Int) == 1 && items.size == items.size) = true then _ else _) _ _ s
  rw [if_neg (by simp), back_all]
  first
    | exact wpAny_bind (m := Builtin.Tuple.tupleExact _) (wpAny_newObj_type (wpAny_pure ⟨_, rfl, wpAny_pure h⟩) hfit)
    | exact wpAny_bind (m := Builtin.Tuple.tupleExact _) (wpAny_newObj_type (wpAny_bind (wpAny_pure (wpAny_pure ⟨_, rfl, wpAny_pure h⟩))) hfit)
    | exact wpAny_bind (wpAny_bind (m := Builtin.Tuple.tupleExact _) (wpAny_newObj_type (wpAny_pure (wpAny_pure ⟨_, rfl, wpAny_pure h⟩)) hfit))
    | exact wpAny_bind (wpAny_bind (m := Builtin.Tuple.tupleExact _) (wpAny_newObj_type (wpAny_pure ⟨_, rfl, wpAny_pure h⟩) hfit))
end
def tRevT (K : PySem.W.Frag) (te : TE) : TE := fun σ H Q => te σ H fun x H1 => ∃ a xs, x = .ref a ∧ SqT K H1 a xs ∧ ∀ p, H1 p = none → Q (.ref p) (upd H1 p (.tup xs.reverse))
theorem pe_revT {X : Cx} (K : PySem.W.Frag) {e : Expr} {te : TE} {k : Nat} {p1 p2 p3 pos : Pos} (he : PE X e te) (hK : X.K = K := by rfl) : PE X (.Subscript e (.Slice none none (some (.UnaryOp .USub (.Constant (.int 1) k p1) p2)) p3) pos) (tRevT K te) := by
  subst hK
  refine ⟨fun pins s σ H Q I h => ?_⟩
  refine Subscript_ (thn (he.run pins s σ H _ I h) fun v s1 ⟨x, H1, I1, r1, a, xs, ex, hx, q⟩ => ?_)
  subst ex
  cases r1
  have hb : PO X (some (.UnaryOp .USub (.Constant (.int 1) k p1) p2)) (tPart (tUn (rU fun i => .int (-i)) (tC (.int 1)))) := po_some (pe_un un_neg pe_int)
  refine wpAny_Slice (thn (po_none.run pins s1 σ H1 (fun o H2 => o = none ∧ H2 = H1) I1 ⟨rfl, rfl⟩) fun vl s2 ⟨o1, H2, I2, ql, c1, c2⟩ => ?_)
  subst c1 c2
  refine thn (po_none.run pins s2 σ H2 (fun o H3 => o = none ∧ H3 = H2) I2 ⟨rfl, rfl⟩) fun vu s3 ⟨o2, H3, I3, qu, c1, c2⟩ => ?_
  subst c1 c2
  refine thn (hb.run pins s3 σ H3 (fun o H4 => o = some (-1) ∧ H4 = H3) I3 ⟨1, rfl, -1, rfl, rfl, rfl⟩) fun vs s4 ⟨o3, H4, I4, qs, c1, c2⟩ => ?_
  subst c1 c2
  have I5 : Inv X pins σ H4 { s4 with heap := s4.heap.push { cls := .type "slice", data := .fields #[vl, vu, vs] } } := I4.kept (t' := s4.toks) fun b ob z => Heap.get?_push_of_some _ z
  obtain ⟨its, rv, hT, hz⟩ := I5.tuple hx
  have hlen := rv.length
  show wpAny (model X.prog X.w) X.A (subscriptTail e (.Slice none none (some (.UnaryOp .USub (.Constant (.int 1) k p1) p2)) p3) (.ref a) (.ref s4.heap.objs.size)) (EP X pins σ Q) X.xe { s4 with heap := s4.heap.push { cls := .type "slice", data := .fields #[vl, vu, vs] } }
  refine tail_any (ops := [.ref a, .ref s4.heap.objs.size]) hT.typeIs (PyProof.Rows.slot_tuple_getitem.lookup) ?_ (by with_unfolding_all rfl)
  refine item_back hT (Heap.IsSliceOf.new _ vl vu vs) ql qu qs ?_ (by rw [List.size_toArray]; omega)
  refine ⟨.ref _, _, I5.laid (t' := s4.toks) (o := .tup xs.reverse) (fun b ob z => Heap.get?_push_of_some _ z) (Nat.le_refl _) ?_, rfl, q _ (I5.hok.fresh (Nat.le_refl _))⟩
  refine ⟨by rw [List.length_reverse]; exact hz, its.reverse, rv.reverse, ⟨_, Heap.get?_push_size _ rfl, rfl, _, rfl⟩⟩
end Nk
set_option Elab.async false
set_option linter.all false
set_option maxRecDepth 100000
set_option maxHeartbeats 4000000
namespace Nk
open PySem L2
/-! how large data are -/
structure Fit (n m : Nat) (d : PyData) : Prop where
  sh : d.showable = true
  lf : d.leavesShort 40 = true
  wt : d.weight ≤ n
  dp : d.depth ≤ m
structure Fits (n m : Nat) (ds : List PyData) : Prop where
  sh : PyData.showableAll ds = true
  lf : PyData.leavesShortAll 40 ds = true
  wt : PyData.weightAll ds ≤ n
  dp : PyData.depthAll ds ≤ m
section
variable {n m n' m' : Nat} {d : PyData} {ds es : List PyData}
theorem Fit.mono (f : Fit n m d) (h : n ≤ n') (g : m ≤ m') : Fit n' m' d := ⟨f.sh, f.lf, Nat.le_trans f.wt h, Nat.le_trans f.dp g⟩
theorem Fits.mono (f : Fits n m ds) (h : n ≤ n') (g : m ≤ m') : Fits n' m' ds := ⟨f.sh, f.lf, Nat.le_trans f.wt h, Nat.le_trans f.dp g⟩
theorem Fits.tup (f : Fits n m ds) : Fit n (m + 1) (.tuple ds) := ⟨by simpa [PyData.showable] using f.sh, by simpa [PyData.leavesShort] using f.lf, by simpa [PyData.weight] using f.wt, by simpa [PyData.depth] using f.dp⟩
theorem Fits.lst (f : Fits n m ds) : Fit n (m + 1) (.list ds) := ⟨by simpa [PyData.showable] using f.sh, by simpa [PyData.leavesShort] using f.lf, by simpa [PyData.weight] using f.wt, by simpa [PyData.depth] using f.dp⟩
theorem Fit.items (f : Fit n m (.tuple ds)) : Fits n (m - 1) ds ∧ 1 ≤ m := by
  have h := f.dp
  simp only [PyData.depth] at h
  exact ⟨⟨by simpa [PyData.showable] using f.sh, by simpa [PyData.leavesShort] using f.lf, by simpa [PyData.weight] using f.wt, by omega⟩, by omega⟩
theorem Fits.nil : Fits 0 0 [] := ⟨by simp [PyData.showableAll], by simp [PyData.leavesShortAll], by simp [PyData.weightAll], by simp [PyData.depthAll]⟩
theorem Fits.cons (f : Fit n m d) (g : Fits n' m' ds) : Fits (n + 1 + n') (max m m') (d :: ds) := by
  refine ⟨by simp [PyData.showableAll, f.sh, g.sh], by simp [PyData.leavesShortAll, f.lf, g.lf], ?_, ?_⟩
  · have h1 := f.wt
    have h2 := g.wt
    simp only [PyData.weightAll]
    omega
  · have h1 := f.dp
    have h2 := g.dp
    simp only [PyData.depthAll]
    omega
theorem Fits.uncons (f : Fits n m (d :: ds)) : ∃ a b, a + 1 + b ≤ n ∧ Fit a m d ∧ Fits b m ds := by
  obtain ⟨s, l, w, p⟩ := f
  simp only [PyData.showableAll, PyData.leavesShortAll, PyData.weightAll, PyData.depthAll, Bool.and_eq_true] at s l w p
  exact ⟨d.weight, PyData.weightAll ds, w, ⟨s.1, l.1, Nat.le_refl _, by omega⟩, ⟨s.2, l.2, Nat.le_refl _, by omega⟩⟩
theorem Fits.append : ∀ {n m n' m' : Nat} {ds es : List PyData}, Fits n m ds → Fits n' m' es → Fits (n + n') (max m m') (ds ++ es)
  | n, m, n', m', [], es, _, g => g.mono (by omega) (by omega)
  | n, m, n', m', d :: ds, es, f, g => by
    obtain ⟨a, b, h, fa, fb⟩ := f.uncons
    have ih := fb.append g
    exact (Fits.cons fa ih).mono (by omega) (by omega)
theorem Fits.split : ∀ {n m : Nat} {ds es : List PyData}, Fits n m (ds ++ es) → ∃ a b, a + b ≤ n ∧ Fits a m ds ∧ Fits b m es
  | n, m, [], es, f => ⟨0, n, by omega, Fits.nil.mono (Nat.le_refl _) (Nat.zero_le _), f⟩
  | n, m, d :: ds, es, f => by
    obtain ⟨a, b, h, fa, fb⟩ := Fits.uncons (d := d) (ds := ds ++ es) f
    obtain ⟨x, y, h2, fx, fy⟩ := fb.split
    exact ⟨a + 1 + x, y, by omega, (Fits.cons fa fx).mono (Nat.le_refl _) (by omega), fy⟩
theorem Fits.take (f : Fits n m ds) (k : Nat) : Fits n m (ds.take k) := by
  have h := f
  rw [← List.take_append_drop k ds] at h
  obtain ⟨a, b, h, fa, _⟩ := h.split
  exact fa.mono (by omega) (Nat.le_refl _)
theorem Fits.drop (f : Fits n m ds) (k : Nat) : Fits n m (ds.drop k) := by
  have h := f
  rw [← List.take_append_drop k ds] at h
  obtain ⟨a, b, h, _, fb⟩ := h.split
  exact fb.mono (by omega) (Nat.le_refl _)
theorem Fits.reverse : ∀ {n m : Nat} {ds : List PyData}, Fits n m ds → Fits n m ds.reverse
  | n, m, [], f => f
  | n, m, d :: ds, f => by
    obtain ⟨a, b, h, fa, fb⟩ := f.uncons
    rw [List.reverse_cons]
    exact (fb.reverse.append (Fits.cons fa Fits.nil)).mono (by omega) (by omega)
theorem Fits.mem : ∀ {n m : Nat} {ds : List PyData} {d : PyData}, Fits n m ds → d ∈ ds → Fit n m d
  | n, m, e :: ds, d, f, h => by
    obtain ⟨a, b, hab, fa, fb⟩ := f.uncons
    rcases List.mem_cons.mp h with rfl | h
    · exact fa.mono (by omega) (Nat.le_refl _)
    · exact (fb.mem h).mono (by omega) (Nat.le_refl _)
theorem Fits.length : ∀ {n m : Nat} {ds : List PyData}, Fits n m ds → ds.length ≤ n
  | n, m, [], _ => Nat.zero_le _
  | n, m, d :: ds, f => by
    obtain ⟨a, b, h, _, fb⟩ := f.uncons
    have := fb.length
    rw [List.length_cons]
    omega
theorem int_short {i : Int} (h0 : -(10 ^ 38) < i) (h1 : i < 10 ^ 38) : (PyData.shown (.int i)).length ≤ 40 := by
  show (Str.ofString (toString i)).length ≤ 40
  by_cases h : 0 ≤ i
  · have := PyProof.Rows.toString_length_le (v := i) h (k := 38) (by decide) h1
    omega
  · have e := PyProof.Rows.len_text_negI (n := i) (by omega)
    have := PyProof.Rows.toString_length_le (v := 0 - i) (by omega) (k := 38) (by decide) (by omega)
    omega
theorem Fit.int {i : Int} (h0 : -(10 ^ 7) ≤ i) (h1 : i ≤ 10 ^ 7) : Fit 25 0 (.int i) := by
  have hn : i.natAbs < 2 ^ 24 := by omega
  have hl : i.natAbs.log2 < 24 := by
    by_cases h : i.natAbs = 0
    · rw [h]; decide
    · exact (Nat.log2_lt h).mpr hn
  refine ⟨by simp only [PyData.showable, decide_eq_true_eq]; omega, by simp only [PyData.leavesShort, decide_eq_true_eq]; exact int_short (by omega) (by omega), ?_, by simp [PyData.depth]⟩
  simp only [PyData.weight]
  split <;> omega
theorem Fit.bool (b : Bool) : Fit 0 0 (.bool b) := ⟨by simp [PyData.showable], by simp [PyData.leavesShort], by simp [PyData.weight], by simp [PyData.depth]⟩
theorem Fit.none : Fit 0 0 .none := ⟨by simp [PyData.showable], by simp [PyData.leavesShort], by simp [PyData.weight], by simp [PyData.depth]⟩
theorem codes_small (x : String) : ∀ c ∈ (Str.ofString x).cps.toList, c < 16 ^ 8 := by
  intro c hc
  rw [PyProof.Rows.signs_ofString] at hc
  obtain ⟨ch, _, rfl⟩ := List.mem_map.mp hc
  have := ch.val.toNat_lt
  show ch.val.toNat < 16 ^ 8
  omega
theorem Fit.text {i : Int} (h0 : -(10 ^ 38) < i) (h1 : i < 10 ^ 38) : Fit 40 0 (.str (Str.ofString (toString i))) := by
  refine ⟨by simp [PyData.showable], ?_, ?_, by simp [PyData.depth]⟩
  · simp only [PyData.leavesShort, List.all_eq_true, decide_eq_true_eq]
    exact codes_small _
  · simp only [PyData.weight]
    exact int_short h0 h1
theorem Fits.ints : ∀ {ns : List Int}, (∀ x ∈ ns, -(10 ^ 7) ≤ x ∧ x ≤ 10 ^ 7) → Fits (26 * ns.length) 0 (ns.map .int)
  | [], _ => Fits.nil
  | x :: ns, h => by
    have h1 := h x List.mem_cons_self
    have ih := Fits.ints (ns := ns) fun y hy => h y (List.mem_cons_of_mem _ hy)
    exact (Fits.cons (Fit.int h1.1 h1.2) ih).mono (by rw [List.length_cons]; omega) (by omega)
theorem Fit.show (f : Fit n m d) (h : n ≤ 300000) : d.shown.length ≤ sizeLine := by
  have := PyData.shown_le 40 (by decide) d f.lf
  have hw := f.wt
  have h2 : 42 * d.weight ≤ 42 * 300000 := Nat.mul_le_mul_left _ (by omega)
  have : d.shown.length ≤ 42 * d.weight + 40 := this
  rw [sizeLine_eq]
  omega
end
/-! plain data: integers and tuples of such -/
mutual
def plain : PyData → Bool
  | .int i => decide (-(10 ^ 7) ≤ i) && decide (i ≤ 10 ^ 7)
  | .tuple xs => plains xs
  | _ => false
def plains : List PyData → Bool
  | [] => true
  | x :: xs => plain x && plains xs
end
mutual
theorem plain_lay : ∀ {d : PyData}, plain d = true → d.canLay0 = true
  | .int _, _ => by simp [PyData.canLay0]
  | .tuple xs, h => by
    simp only [PyData.canLay0]
    exact plains_lay (by simpa [plain] using h)
  | .none, h => by simp [plain] at h
  | .bool _, h => by simp [plain] at h
  | .str _, h => by simp [plain] at h
  | .list _, h => by simp [plain] at h
  | .dict _, h => by simp [plain] at h
theorem plains_lay : ∀ {ds : List PyData}, plains ds = true → PyData.canLayAll0 ds = true
  | [], _ => by simp [PyData.canLayAll0]
  | d :: ds, h => by
    have h' := by simpa [plains] using h
    simp [PyData.canLayAll0, plain_lay h'.1, plains_lay h'.2]
end
theorem plains_get {ds : List PyData} (h : plains ds = true) : ∀ d ∈ ds, plain d = true := by
  induction ds with
  | nil => intro d hd; cases hd
  | cons e ds ih =>
    intro d hd
    have h' : plain e = true ∧ plains ds = true := by simpa [plains] using h
    rcases List.mem_cons.mp hd with rfl | hd
    · exact h'.1
    · exact ih h'.2 d hd
theorem plains_ints : ∀ {ns : List Int}, (∀ x ∈ ns, -(10 ^ 7) ≤ x ∧ x ≤ 10 ^ 7) → plains (ns.map .int) = true
  | [], _ => by simp [plains]
  | x :: ns, h => by
    have h1 := h x List.mem_cons_self
    have ih := plains_ints (ns := ns) fun y hy => h y (List.mem_cons_of_mem _ hy)
    simp only [List.map_cons, plains, plain, ih, Bool.and_true, Bool.and_eq_true, decide_eq_true_eq]
    exact h1
theorem noLs_append : ∀ {a b : List PyData}, noLs (a ++ b) = (noLs a && noLs b)
  | [], b => by simp [noLs]
  | x :: a, b => by
    show (noL x && noLs (a ++ b)) = ((noL x && noLs a) && noLs b)
    rw [noLs_append, Bool.and_assoc]
theorem hasDs_append : ∀ {a b : List PyData}, PyData.hasDictAll (a ++ b) = (PyData.hasDictAll a || PyData.hasDictAll b)
  | [], b => by simp [PyData.hasDictAll]
  | x :: a, b => by
    show (x.hasDict || PyData.hasDictAll (a ++ b)) = ((x.hasDict || PyData.hasDictAll a) || PyData.hasDictAll b)
    rw [hasDs_append, Bool.or_assoc]
mutual
theorem plain_no : ∀ {d : PyData}, plain d = true → d.hasDict = false ∧ noL d = true
  | .int _, _ => by simp [PyData.hasDict, noL]
  | .tuple xs, h => by
    have := plains_no (ds := xs) (by simpa [plain] using h)
    simpa [PyData.hasDict, noL] using this
  | .none, h => by simp [plain] at h
  | .bool _, h => by simp [plain] at h
  | .str _, h => by simp [plain] at h
  | .list _, h => by simp [plain] at h
  | .dict _, h => by simp [plain] at h
theorem plains_no : ∀ {ds : List PyData}, plains ds = true → PyData.hasDictAll ds = false ∧ noLs ds = true
  | [], _ => by simp [PyData.hasDictAll, noLs]
  | d :: ds, h => by
    have h' : plain d = true ∧ plains ds = true := by simpa [plains] using h
    have h1 := plain_no h'.1
    have h2 := plains_no h'.2
    simp [PyData.hasDictAll, noLs, h1.1, h1.2, h2.1, h2.2]
end
theorem Uno.noD {d : PyData} (h : d.hasDict = false) : Uno d := fun z => by rw [h] at z; cases z
theorem Uno.plainL {ds : List PyData} (h : plains ds = true) : Uno (.list ds) := .noD (by simp only [PyData.hasDict]; exact (plains_no h).1)
theorem Uno.plainT {ds : List PyData} (h : plains ds = true) : Uno (.tuple ds) := .noD (by simp only [PyData.hasDict]; exact (plains_no h).1)
theorem Uno.mid {a b : List PyData} {x : PyData} (ha : plains a = true) (hx : Uno x) (hb : plains b = true) : Uno (.tuple (a ++ [x] ++ b)) := fun z => by
  have h1 := plains_no ha
  have h2 := plains_no hb
  simp only [PyData.hasDict, hasDs_append, PyData.hasDictAll, h1.1, h2.1, Bool.or_false, Bool.false_or] at z
  simp only [noL, noLs_append, noLs, h1.2, h2.2, hx z, Bool.and_true]
theorem plains_append : ∀ {a b : List PyData}, plains (a ++ b) = (plains a && plains b)
  | [], b => by simp [plains]
  | x :: a, b => by
    show (plain x && plains (a ++ b)) = ((plain x && plains a) && plains b)
    rw [plains_append, Bool.and_assoc]
theorem plains_take {ds : List PyData} (h : plains ds = true) (k : Nat) : plains (ds.take k) = true := by
  have e := List.take_append_drop k ds
  rw [← e, plains_append, Bool.and_eq_true] at h
  exact h.1
theorem plains_drop {ds : List PyData} (h : plains ds = true) (k : Nat) : plains (ds.drop k) = true := by
  have e := List.take_append_drop k ds
  rw [← e, plains_append, Bool.and_eq_true] at h
  exact h.2
theorem plains_rev {ds : List PyData} (h : plains ds = true) : plains ds.reverse = true := by
  induction ds with
  | nil => rfl
  | cons d ds ih =>
    have h' : plain d = true ∧ plains ds = true := by simpa [plains] using h
    rw [List.reverse_cons, plains_append, ih h'.2]
    simp [plains, h'.1]
end Nk
set_option Elab.async false
set_option linter.all false
set_option maxRecDepth 100000
set_option maxHeartbeats 4000000
namespace Nk
open PySem PySem.Spec PyProof.Rows L2
/-! t * n, n any small number -/
theorem mul_same (l : Addr) (items : Array Value) (n : Nat) (dd : Option Addr) (sl : Array (Option Value)) (x : Int) (u : Tok) (c0 : (decide (x < -(2 ^ 63)) || decide (x ≥ 2 ^ 63)) = false) (c1 : (items.isEmpty || x == 1) = true) :
    Meets (Builtin.«tuple.__mul__» ⟨[.ref l, .int x u], []⟩) (fun _ R s => s.heap.get? l = some { cls := .type "tuple", dict := dd, data := .seq items n, slots := sl } ∧ R (.ok (.ret (Value.ref l))) s) :=
  .of_wp fun prog w A R s h => by
    obtain ⟨hp, g, d, tk, os⟩ := s
    obtain ⟨hl, h⟩ := h
    have f1 := AutoSeq1.idx_int
    have hT : Shared.TypeIs { heap := hp, gens := g, drawn := d, toks := tk, os := os } (.ref l) "tuple" := ⟨_, hl, rfl⟩
    wp_walk using wpAny_loadPart' hl
    repeat (first
      | (refine wpAny_ite_false (decide_eq_false (by rw [c0]; exact Bool.false_ne_true)) ?_; wp_walk using wpAny_loadPart' hl)
      | (refine wpAny_ite_true (decide_eq_true (by rw [c1])) ?_; wp_walk using wpAny_loadPart' hl))
    all_goals exact ⟨_, rfl, h⟩
theorem mul_none (l : Addr) (items : Array Value) (n : Nat) (dd : Option Addr) (sl : Array (Option Value)) (x : Int) (u : Tok) (c0 : (decide (x < -(2 ^ 63)) || decide (x ≥ 2 ^ 63)) = false) (c1 : (items.isEmpty || x == 1) = false) (c2 : (decide (x ≤ 0) || items.isEmpty) = true) :
    Meets (Builtin.«tuple.__mul__» ⟨[.ref l, .int x u], []⟩) (fun _ R s => s.heap.get? l = some { cls := .type "tuple", dict := dd, data := .seq items n, slots := sl } ∧
      R (.ok (.ret (Value.ref s.heap.objs.size))) { s with heap := s.heap.push { cls := Value.type "tuple", data := Data.seq #[] }, toks := s.toks }) :=
  .of_wp fun prog w A R s h => by
    obtain ⟨hp, g, d, tk, os⟩ := s
    obtain ⟨hl, h⟩ := h
    have f1 := AutoSeq1.idx_int
    wp_walk using wpAny_loadPart' hl
    repeat (first
      | (refine wpAny_ite_false (decide_eq_false (by rw [c0]; exact Bool.false_ne_true)) ?_; wp_walk using wpAny_loadPart' hl)
      | (refine wpAny_ite_false (decide_eq_false (by rw [c1]; exact Bool.false_ne_true)) ?_; wp_walk using wpAny_loadPart' hl)
      | (refine wpAny_ite_true (decide_eq_true (by rw [c2])) ?_; wp_walk using wpAny_loadPart' hl))
    all_goals exact ⟨_, rfl, h⟩
def rRepA (K : PySem.W.Frag) : R2 := fun x y H Q => ∃ (l : Addr) (k : Int) (xs : List V), x = .ref l ∧ y = .int k ∧ SqT K H l xs ∧ -1000 ≤ k ∧ k ≤ 1000 ∧ xs.length ≤ 1000 ∧
  ((xs = [] ∨ k = 1) → Q (.ref l) H) ∧ (¬ (xs = [] ∨ k = 1) → ∀ p, H p = none → Q (.ref p) (upd H p (.tup (List.replicate k.toNat xs).flatten)))
theorem op_repA {X : Cx} (K : PySem.W.Frag) (hK : X.K = K := by rfl) : OpR X (binaryOp .Mult) (rRepA K) := by
  subst hK
  intro pins s σ H x y v u Q I rx ry h
  obtain ⟨l, k, xs, e1, e2, hT, h1, h2, hz, q1, q2⟩ := h
  subst e1 e2
  by_cases hsame : xs = [] ∨ k = 1
  · cases rx
    obtain ⟨t, e⟩ := ry
    subst e
    obtain ⟨its, r, ⟨⟨cls, dd, data, sl⟩, ho, hc, n, hd⟩, hs⟩ := I.tuple hT
    simp only at hc hd
    subst hc hd
    have c0 : (decide (k < -(2 ^ 63)) || decide (k ≥ 2 ^ 63)) = false := by
      rw [decide_eq_false (by omega), decide_eq_false (by omega)]
      rfl
    have c1 : (its.toArray.isEmpty || k == 1) = true := by
      rcases hsame with z | z
      · subst z
        cases r
        rfl
      · subst z
        simp
    refine wpAny_binaryOp_repeat_ref (T := "tuple") (U := "int") (by decide) ⟨_, ho, rfl⟩ (fun s' => typeIs_int s' k t) noFill_tuple_mul F.fills_int_mul F.slot_int_rmul repeat_tuple F.slot_int_index.lookup ?_
    refine call_meets F.slot_int_rmul (typeIs_int s k t) F.entry_int_rmul (F.args_int_rmul_2 _ _) (int_rmul_tuple k t l its.toArray n dd sl) ⟨ho, rfl, ⟨_, ho, rfl⟩, ?_⟩
    exact call_meets F.slot_tuple_mul ⟨_, ho, rfl⟩ F.entry_tuple_mul (F.args_tuple_mul_2 _ _) (mul_same l its.toArray n dd sl k t c0 c1) ⟨ho, .ref l, H, I, rfl, q1 hsame⟩
  · have q := q2 hsame
    by_cases hk : k ≤ 0
    · cases rx
      obtain ⟨t, e⟩ := ry
      subst e
      obtain ⟨its, r, ⟨⟨cls, dd, data, sl⟩, ho, hc, n, hd⟩, hs⟩ := I.tuple hT
      simp only at hc hd
      subst hc hd
      have c0 : (decide (k < -(2 ^ 63)) || decide (k ≥ 2 ^ 63)) = false := by
        rw [decide_eq_false (by omega), decide_eq_false (by omega)]
        rfl
      have c1 : (its.toArray.isEmpty || k == 1) = false := by
        have e1 : its.toArray.isEmpty = false := by
          cases r with
          | nil => exact absurd (.inl rfl) hsame
          | cons _ _ => rfl
        rw [e1, Bool.false_or]
        exact beq_eq_false_iff_ne.mpr (by omega)
      have c2 : (decide (k ≤ 0) || its.toArray.isEmpty) = true := by
        rw [decide_eq_true hk]
        rfl
      have hk0 : k.toNat = 0 := by omega
      rw [hk0] at q
      refine wpAny_binaryOp_repeat_ref (T := "tuple") (U := "int") (by decide) ⟨_, ho, rfl⟩ (fun s' => typeIs_int s' k t) noFill_tuple_mul F.fills_int_mul F.slot_int_rmul repeat_tuple F.slot_int_index.lookup ?_
      refine call_meets F.slot_int_rmul (typeIs_int s k t) F.entry_int_rmul (F.args_int_rmul_2 _ _) (int_rmul_tuple k t l its.toArray n dd sl) ⟨ho, rfl, ⟨_, ho, rfl⟩, ?_⟩
      refine call_meets F.slot_tuple_mul ⟨_, ho, rfl⟩ F.entry_tuple_mul (F.args_tuple_mul_2 _ _) (mul_none l its.toArray n dd sl k t c0 c1 c2) ⟨ho, ?_⟩
      exact ⟨.ref s.heap.objs.size, _, I.laid (t' := s.toks) (o := .tup []) (fun b o z => Heap.get?_push_of_some _ z) (Nat.le_refl _) ⟨Nat.zero_le _, [], .nil, ⟨_, Heap.get?_push_size _ rfl, rfl, _, rfl⟩⟩, rfl, q _ (I.hok.fresh (Nat.le_refl _))⟩
    · exact op_repT pins s σ H _ _ v u Q I rx ry ⟨l, k, xs, rfl, rfl, hT, fun z => hsame (.inl z), by omega, h2, hz, q⟩
theorem repA_deck {K : PySem.W.Frag} {D H : Hp} {a p : Addr} {xs : List V} {Q : VK} {k : Int} (dk : Deck D H a) (hp : D p = some (.tup xs)) (h0 : 0 ≤ k) (h1 : k ≤ 1000) (hz : xs.length ≤ 1000)
    (q : ∀ r H' D', Deck D' H' a → Same D D' → D' r = some (.tup (List.replicate k.toNat xs).flatten) → Q (.ref r) H') : rRepA K (.ref p) (.int k) H Q := by
  refine ⟨p, k, xs, rfl, rfl, SqT.of (dk.sub _ _ hp), by omega, h1, hz, fun h => ?_, fun _ r hr => q r _ _ (dk.new hr) (same_new (dk.free hr)) upd_same⟩
  refine q p H D dk (Same.refl _) ?_
  rcases h with z | z
  · subst z
    rw [hp]
    have : (List.replicate k.toNat ([] : List V)).flatten = [] := by
      induction k.toNat with
      | zero => rfl
      | succ n ih => rw [List.replicate_succ, List.flatten_cons, ih]; rfl
    rw [this]
  · subst z
    rw [hp]
    simp
end Nk
set_option Elab.async false
set_option linter.all false
set_option maxRecDepth 100000
set_option maxHeartbeats 4000000
namespace Nk
open PySem PySem.Spec PyProof.Rows L2
/-! The law's own def is called by the caller alone, within which nothing is being shown: so repr may be asked there -/
structure LawOk (P : Program) (w : World) (K : PySem.W.Frag) (mg : Str → Option Value) (base : Heap) (k : Nat) (f : Addr) (fd : FuncData) (ps : List Str) (sp : Sp) : Prop where
  run : ∀ (s : Shared) (H : Hp) (args : Args) (us : List Value) (vs : List V) (Q : VK), Room k callerA → Env0 P w K mg base callerA [] s H → BindsTo s fd args (ps.zip us) → Vals vs us → sp vs H Q E0 →
    codeAny (model P w) callerA (.call (.ref f) args) (CR CX0 [] P w H s Q E0) s
section
variable {P : Program} {w : World} {K : PySem.W.Frag} {mg : Str → Option Value} {base : Heap}
theorem law_of {k : Nat} {f : Addr} {x qual : Str} {st : Stmt} {fd : FuncData} {N ps : List Str} {sp : Sp} (F : Fun K x qual st f fd) (S : FnScope N ps (defScope st)) (len : ∀ vs H Q E, sp vs H Q E → vs.length = ps.length)
    (body : ∀ (cdv : Value) (s : Shared) (H : Hp) (vs : List V) (Q : VK), Room k (callerA.deeper (envOfC qual (defScope st) s.heap.objs.size f cdv)) → sp vs H Q E0 →
      ∃ t, PSs (cxOf CX0 P w K mg base N qual (defScope st) f cdv callerA [] s H E0).nox (defBody st) t ∧ t { nx := fun _ H' => Q .non H', rt := Q } (start N vs) H) : LawOk P w K mg base (k + 1) f fd ps sp := by
  obtain ⟨oc, od, kV, doc, pm, an, cdv, ct, osl, efd, lk, hcd⟩ := F.ex
  subst efd
  refine ⟨fun s H args us vs Q hr e0 hb r hsp => ?_⟩
  have ln := len _ _ _ _ hsp
  have inK : K.In s.heap := e0.mod.kin.keeps fun b o z => (e0.bs b o z).1
  have nolim : s.heap.NoLimit := e0.mod.nolimit.keeps fun b o z => (e0.bs b o z).1
  have kinds : ∀ y ∈ ps.zip us, (defScope st).names.lookup y.1 = some .local ∨ ((defScope st).names.lookup y.1 = some .cell ∧ ((cellsFrom (s.heap.objs.size + 1) (defScope st).names []).lookup y.1).isSome = true) := fun ⟨n, u⟩ hy => by
    rcases S.par n (List.of_mem_zip hy).1 with z | z
    · exact .inl z
    · exact .inr ⟨z, PySem.W.cellsFrom_some _ _ _ (.inl z)⟩
  refine codeAny_call_function hr.depth (inK _ _ lk) rfl S.co S.gen rfl (PySem.W.codeRec_of inK hcd) (hb _ _ _ _ ?_)
  refine wpAny_newFunctionEnv_cells S.kind kinds fun env he s1 xx => ?_
  subst he
  refine ⟨nolim.keeps xx.toInCall.keep, codeAny_func ?_⟩
  obtain ⟨t, ht, hq⟩ := body cdv s H vs Q (hr.deeper _) hsp
  have I : Inv (cxOf CX0 P w K mg base N qual (defScope st) f cdv callerA [] s H E0) [] (start N vs) H s1 := inv_start S hr.hd e0 ln r xx
  have ht2 := ht.nox
  refine wpAny_mono (ht2.run [] s1 (start N vs) H _ I hq) (fun fl s' hs => ?_) fun e s' hs => hs
  cases fl with
  | ret u =>
    obtain ⟨v, σ', H', J, rv, q⟩ := hs
    exact ⟨v, H', J.os, J.bare, J.base, J.hok, rv, q⟩
  | next =>
    obtain ⟨σ', H', J, q⟩ := hs
    exact ⟨.non, H', J.os, J.bare, J.base, J.hok, rfl, q⟩
  | brk =>
    obtain ⟨_, _, _, q⟩ := hs
    exact q.elim
  | cont =>
    obtain ⟨_, _, _, q⟩ := hs
    exact q.elim
theorem law_run {mb : Str → Option Value} {k : Nat} {fa a : Addr} {fd : FuncData} {x : Str} {sp : Sp} {s₁ : Shared} {vs : List Value} {ns : List Int}
    (KX : K.In s₁.heap) (hns : s₁.heap.Ns mainGlobals mg) (hb : s₁.heap.Ns builtinsNs mb) (hbb : ∀ x : Str, x ≠ "__name__" → mb x = bootBuiltins x) (hlim : s₁.heap.NoLimit) (hg : s₁.gens = #[])
    (ha : s₁.heap.get? a = some { cls := .type "list", data := .seq vs.toArray }) (hi : IntsAre vs ns) (hl : ns.length ≤ sizeLine) (hr : Room k callerA)
    (F : ∀ base : Heap, K.In base → base.Ns mainGlobals mg → LawOk P w K mg base k fa fd [x] sp) (hbind : ∀ (s : Shared) (u : Value), BindsTo s fd ⟨[u], []⟩ [(x, u)])
    (hsp : ∀ H : Hp, SqL K H a (ns.map V.int) → sp [.ref a] H (fun v _ => v = .bl true) E0) :
    codeAny (model P w) callerA (.call (.ref fa) ⟨[.ref a], []⟩) (fun r s' => r = .ok (.ret (.bool true)) ∧ OldK s₁.heap s'.heap ∧ s'.os = s₁.os ∧ AllBare s'.gens) s₁ := by
  have rv := vals_ints hi
  have lenV := hi.length
  -- what is tracked: the script, unless the module holds it
  obtain ⟨H, hS, hok, hA, hz⟩ : ∃ H : Hp, SqL K H a (ns.map V.int) ∧ HOk P w H s₁.heap ∧ (∀ b, H b = none ∨ (b = a ∧ K.lookup a = none)) ∧ ∀ b u, H b = some u → ∃ o v, u = .frz o (.lst v) := by
    cases hk : K.lookup a with
    | some o =>
      have e := KX a o hk
      rw [ha] at e
      cases e
      refine ⟨fun _ => none, .inr ⟨_, vs.toArray, _, hk, rfl, rfl, rfl, by rw [List.size_toArray, lenV]; exact hl, by simpa using rv⟩, fun b u z => ?_, fun _ => .inl rfl, fun b u z => ?_⟩
      all_goals
        have z2 : (none : Option HO) = some u := z
        cases z2
    | none =>
      refine ⟨fun b => if b = a then some (.frz { cls := .type "list", data := .seq vs.toArray } (.lst (ns.map V.int))) else none, .inl (.inr ⟨_, if_pos rfl⟩), fun b u z => ?_, fun b => ?_, fun b u z => ?_⟩
      · by_cases hb : b = a
        · subst hb
          have z2 := (if_pos rfl).symm.trans z
          cases z2
          exact ⟨ha, by rw [List.length_map]; exact hl, vs, _, rv, ha⟩
        · have z2 := (if_neg hb).symm.trans z
          cases z2
      · by_cases hb : b = a
        · exact .inr ⟨hb, rfl⟩
        · exact .inl (if_neg hb)
      · by_cases hb : b = a
        · have z2 := (if_pos hb).symm.trans z
          cases z2
          exact ⟨_, _, rfl⟩
        · have z2 := (if_neg hb).symm.trans z
          cases z2
  have dict0 : ∀ {b : Addr} {o : Obj} {es : Array DictEntry} {ep : Nat}, s₁.heap.get? b = some o → o.data = .dict es ep → H b = none := fun {b o es ep} e d => by
    rcases hA b with z | ⟨z, _⟩
    · exact z
    · subst z
      rw [ha] at e
      cases e
      have d' : Data.seq vs.toArray _ = Data.dict es ep := d
      cases d'
  have nsK : ∀ {b : Addr} {m : Str → Option Value}, s₁.heap.Ns b m → (hidT s₁.heap H).Ns b m := fun {b m} ⟨o, es, ep, e, d, r⟩ => ⟨o, es, ep, hidT_get e (dict0 e d), d, r⟩
  have hKb : K.In (hidT s₁.heap H) := fun b o e => hidT_get (KX b o e) (by
    rcases hA b with z | ⟨z, zk⟩
    · exact z
    · subst z
      rw [zk] at e
      cases e)
  have hM : Mod K mg (hidT s₁.heap H) := ⟨hKb, nsK hns, ⟨mb, nsK hb, hbb⟩, let ⟨mc, h1, h2⟩ := hlim; ⟨mc, nsK h1, h2⟩⟩
  have e0 : Env0 P w K mg (hidT s₁.heap H) callerA [] s₁ H := ⟨rfl, hM, fun b o e => of_hidT e, Nat.le_of_eq (hidT_size _ _), trivial, fun b hb => absurd (show b ∈ ([] : List Addr) from hb) (by simp), hok, .of_eq hg⟩
  refine codeAny_mono ((F _ hKb (nsK hns)).run s₁ H ⟨[.ref a], []⟩ [.ref a] [.ref a] _ hr e0 (hbind s₁ (.ref a)) (.cons rfl .nil) (hsp H hS)) fun r s' h => ?_
  cases r with
  | error e => exact False.elim h
  | ok fl =>
    cases fl with
    | next => exact False.elim h
    | brk => exact False.elim h
    | cont => exact False.elim h
    | ret u =>
      obtain ⟨v, H', os, bare, un, hok', r', q⟩ := h
      have q' : v = .bl true := q
      subst q'
      obtain rfl : u = Value.bool true := r'
      refine ⟨rfl, OldK.of_keep fun b o e => ?_, os, bare⟩
      cases q : H b with
      | none => exact un.keep b o e q (fun z => absurd (show b ∈ ([] : List Addr) from z) (by simp)) (by simp)
      | some u =>
        obtain ⟨ob, xs, rfl⟩ := hz b u q
        have z2 := un.frzs b ob _ q
        obtain ⟨e1, _⟩ := hok b _ q
        obtain ⟨e2, _⟩ := hok' b _ z2
        rw [e] at e1
        cases e1
        exact e2
end
theorem walk_law {l : PySem.W.OpenLaw} {n k : Nat} {q : Program} {loose : List Str} {XP : (Str → Option Value) → Heap → Prop} {YP : World → Heap → Prop} {d : DefRec} {K : Params → PySem.W.Frag} {sp : PySem.W.Frag → Sp} {x : Str}
    (hn : l.most = some n) (hn2 : n ≤ sizeLine) (hdf : d.params.defaults = []) (hr : Room k callerA) (hY : ∀ (w : World) (h : Heap), YP w h → (K w.params).In h)
    (F : ∀ (w : World) (mg : Str → Option Value) (fa : Addr) (h : Heap), (K w.params).In h → h.Ns mainGlobals mg → mg d.name = some (.ref fa) →
      ∃ fd : FuncData, (∀ (s : Shared) (u : Value), BindsTo s fd ⟨[u], []⟩ [(x, u)]) ∧ ∀ base : Heap, (K w.params).In base → base.Ns mainGlobals mg → LawOk l.prog w (K w.params) mg base k fa fd [x] (sp (K w.params)))
    (hsp : ∀ (K : PySem.W.Frag) (H : Hp) (a : Addr) (ns : List Int), ns.length ≤ n → SqL K H a (ns.map V.int) → sp K [.ref a] H (fun v _ => v = .bl true) E0) :
    PySem.W.WalkO q loose XP YP l.row.toRowW d [] (fun f vs => PySem.call f vs) := by
  refine Att.attach_call hn hdf fun w s₀ s₁ mg mb fa o pm cd doc a vs ns G Y ho hd hcd hmg hobj hints hlen hg => ?_
  have KX := hY w _ Y
  obtain ⟨fd, hb, hF⟩ := F w mg fa _ KX G.T.g hmg
  exact law_run KX G.T.g G.T.b G.T.builtins G.T.nolimit hg hobj hints (Nat.le_trans hlen hn2) hr hF hb fun H hS => hsp _ H a ns hlen hS
end Nk
set_option Elab.async false
set_option linter.all false
set_option maxRecDepth 100000
set_option maxHeartbeats 4000000
namespace Nk
open PySem PySem.Spec PyProof.Rows L2
/-! enumerate over a tuple, without a start -/
theorem en_new {v : Value} {ob : Obj} {Hh : Heap → Prop} (B : Begins v ob Hh) :
    Meets (Builtin.«enumerate.__new__» ⟨[.type "enumerate", v], []⟩) (fun _ R s => Hh s.heap ∧
      R (.ok (.ret (.ref (s.heap.push ob).objs.size))) { s with heap := (s.heap.push ob).push { cls := .type "enumerate", data := .fields #[.none, .bool false, .ref s.heap.objs.size, rawInt 0, .none, .none] } }) :=
  .of_wp fun prog w A R s z => by
    obtain ⟨hp, gl, dd, tc, oo⟩ := s
    obtain ⟨za, zb⟩ := z
    have sb := sub_enumerate
    have step : ∀ {A' : Around} {E : Value → Shared → Prop} {Q : Value → Shared → Prop}, Q (.ref hp.objs.size) ⟨hp.push ob, gl, dd, tc, oo⟩ → wpAny (model prog w) A' (pyIter v) Q E ⟨hp, gl, dd, tc, oo⟩ :=
      fun q => B.iter prog w _ _ ⟨hp, gl, dd, tc, oo⟩ _ za q
    wp_walk using step
    refine wpAny_stack_any fun _ => wpAny_pure ?_
    split
    · rename_i cl _ _ _ _ _
      cases (cl == Value.type "enumerate") <;>
      · wp_walk using step
        exact ⟨_, rfl, zb⟩
    · wp_walk using step
      exact ⟨_, rfl, zb⟩
theorem en_call {prog : Program} {w : World} {A : Around} {E : Value → Shared → Prop} {s : Shared} {v : Value} {ob : Obj} {Hh : Heap → Prop} {Q : Value → Shared → Prop} (B : Begins v ob Hh) (z : Hh s.heap)
    (k : ∀ h', IsEnum h' (s.heap.objs.size + 1) s.heap.objs.size 0 .none → h'.get? s.heap.objs.size = some ob → (∀ b o, s.heap.get? b = some o → h'.get? b = some o) → Q (.ref (s.heap.objs.size + 1)) { s with heap := h' }) :
    wpAny (model prog w) A (call (.type "enumerate") [v]) Q E s := by
  refine callType_new F.called_enumerate (by decide) (F.typeCall_enumerate_1 _) (F.newCall_enumerate_1 _) (fun x => F.args_object_init_2 x _) F.entry_enumerate_new (en_new B) ⟨z, ?_⟩
  have e1 : (s.heap.push ob).objs.size = s.heap.objs.size + 1 := Heap.size_push ..
  show _ ∧ _
  rw [e1]
  have e2 := Heap.get?_push_size (s.heap.push ob) (o := { cls := .type "enumerate", data := .fields #[.none, .bool false, .ref s.heap.objs.size, rawInt 0, .none, .none] }) rfl
  rw [e1] at e2
  exact ⟨⟨_, e2, rfl⟩, k _ e2 (Heap.get?_push_of_some _ (Heap.get?_push_size _ B.free)) fun b o x => Heap.get?_push_of_some _ (Heap.get?_push_of_some _ x)⟩
/-- the tuple at a, each item with its index in a new pair -/
def IteT (K : PySem.W.Frag) (a : Addr) : It :=
  ⟨fun i H => ∃ (xs : List V) (x : V), SqT K H a xs ∧ xs[i]? = some x,
   fun i H v H' => ∃ T x, v = .ref T ∧ H T = none ∧ H' = upd H T (.tup [.int (i : Nat), x]) ∧ ∀ xs, SqT K H a xs → xs[i]? = some x,
   fun i H => ∃ xs : List V, SqT K H a xs ∧ xs.length ≤ i⟩
theorem turn_enT {P : Program} {w : World} {K : PySem.W.Frag} {elts : List Expr} {kk : Nat} {tpos : Pos} (a e it : Addr) :
    Turn P w K (.Tuple elts kk tpos) (IteT K a) [e, it] e (fun i h => (∃ old, IsEnum h e it ((i : Nat) : Int) old) ∧ h.IsTupleIter it a i ∧ e ≠ it) where
  mem := by simp
  obj := fun i h st b hb => by
    obtain ⟨⟨old, he⟩, ⟨o, ho, hc, hd⟩, _⟩ := st
    rcases (by simpa using hb : b = e ∨ b = it) with z | z
    · subst z; exact ⟨_, he, fun v q => nomatch q⟩
    · subst z; exact ⟨o, ho, fun v q => by rw [hd] at q; cases q⟩
  keep := fun i h h' st k => let ⟨⟨old, he⟩, hi, hne⟩ := st; ⟨⟨old, k e (by simp) _ he⟩, hi.at fun o q => k it (by simp) o q, hne⟩
  item := by
    intro X hP hw hK hc i pins s σ H E I hf st hg
    subst hP hw hK
    obtain ⟨⟨old, he⟩, hit, hne⟩ := st
    obtain ⟨xs, x, hq, hx⟩ := hg
    obtain ⟨its, rv, p, hz⟩ := I.tuple hq
    obtain ⟨u, hu, ru⟩ := rv.get hx
    have pt : s.heap.IsTuple a its.toArray := p
    have hea : a ≠ e := fun z => by
      obtain ⟨o, ho, hcl, _⟩ := pt
      subst z
      have := ho.symm.trans he
      injection this with this
      subst this
      have q : Value.type "enumerate" = Value.type "tuple" := hcl
      injection q with q
      exact absurd q (by decide)
    have hia : a ≠ it := fun z => by
      obtain ⟨o, ho, hcl, _⟩ := pt
      obtain ⟨o2, ho2, hc2, _⟩ := hit
      subst z
      have := ho.symm.trans ho2
      injection this with this
      subst this
      rw [hcl] at hc2
      injection hc2 with q
      exact absurd q (by decide)
    have hel : e < s.heap.objs.size := Heap.lt_size he
    have hil : it < s.heap.objs.size := by obtain ⟨_, q, _⟩ := hit; exact Heap.lt_size q
    have hin : i < its.toArray.size := by
      have := (List.getElem?_eq_some_iff.mp hu).1
      simpa using this
    have D := Draws.tuple (prog := X.prog) (w := X.w) (A := X.A.in1) (I.ok.hd hc) it a hia its.toArray
    refine wpAny_pyNext_enum_itemC D he ⟨hit, pt⟩ hin hne (by simp [hne, Ne.symm hea]) fun x' h' tk hP ho hst hT hsz hk => ?_
    obtain ⟨hit', pt'⟩ := hst
    have ex : x' = u := by
      have h1 : its.toArray[i]? = some x' := hP
      simp at h1
      rw [hu] at h1
      injection h1 with h1
      exact h1.symm
    subst ex
    refine ⟨_, rfl, wpAny_letOwnedTupleGo_enum (s := { s with heap := h', toks := tk + 1 }) ho fun h'' he' sb => ?_⟩
    have hT2 : h''.get? s.heap.objs.size = some { cls := .type "tuple", data := .seq #[.int i tk, x'] } := (sb.2 _ (Nat.ne_of_gt hel)).trans hT
    have new : ObjOk X.prog X.w (upd H s.heap.objs.size (.tup [.int (i : Nat), x])) h'' s.heap.objs.size (.tup [.int (i : Nat), x]) :=
      ⟨by show 2 ≤ sizeLine; decide, [.int i tk, x'], .cons ⟨_, rfl⟩ (.cons ru .nil), ⟨_, hT2, rfl, _, rfl⟩⟩
    have I1 : Inv X pins σ (upd H s.heap.objs.size (.tup [.int (i : Nat), x])) { s with heap := h'', toks := tk + 1 } :=
      I.turnedNew (ch := [e, it]) (fun b ob hb q => (sb.2 b (fun z => hb (by simp [z]))).trans (hk b ob (fun z => hb (by simp [z])) (fun z => hb (by simp [z])) q)) hf (Nat.le_refl _) new
    refine ⟨.ref s.heap.objs.size, _, I1, rfl, ⟨_, x, rfl, I.hok.fresh (Nat.le_refl _), rfl, fun ys hy => by rw [I.tuple_inj hy hq]; exact hx⟩, ⟨⟨x', ?_⟩, hit'.at fun o q => (sb.2 it (Ne.symm hne)).trans q, hne⟩, fun b hb => ?_⟩
    · rw [show ((i + 1 : Nat) : Int) = (i : Int) + 1 by omega]
      exact he'
    · have hb' : b < s.heap.objs.size := by
        rcases (by simpa using hb : b = e ∨ b = it) with z | z
        · rw [z]; exact hel
        · rw [z]; exact hil
      rw [upd_ne (Nat.ne_of_lt hb')]
      exact (hf b hb).1
  done := by
    intro X hP hw hK hc i pins s σ H E I hf st hg
    subst hP hw hK
    obtain ⟨⟨old, he⟩, hit, hne⟩ := st
    obtain ⟨xs, hq, hx⟩ := hg
    obtain ⟨its, rv, p, hz⟩ := I.tuple hq
    have pt : s.heap.IsTuple a its.toArray := p
    obtain ⟨f0, f1, f2, f3, f4, f5⟩ := hf it (by simp)
    have hl := rv.length
    have hT : s.TypeIs (.ref e) "enumerate" := ⟨_, he, rfl⟩
    unfold pyNext
    refine wpAny_bind (wpAny_attempt (wpAny_callSpecial?_slot (name := Str.ofString "__next__") hT F.slot_enumerate_next
      (wpAny_call_entry F.slot_enumerate_next hT F.entry_enumerate_next ?_ (F.args_enumerate_next_1 _))))
    show wpAny _ _ (field (.ref e) 2 >>= _) _ _ _
    refine wpAny_bind (wpAny_field he rfl (x := .ref it) rfl ?_)
    refine wpAny_bind (wpAny_nextOf_tuple_end (I.ok.hd hc) hit pt (by simp; omega) fun h' x hx' hy => ?_)
    obtain ⟨o, ho, hcl⟩ := hy
    refine wpAny_bind (wpAny_isInstance (T := "StopIteration") (b := true) ⟨o, ho, hcl⟩ isSubtype_stop ?_)
    exact wpAny_pure ⟨rfl, I.turned (t' := s.toks) (fun b o hb q => hx' b o hb q) f0 f1 f3 f4 f5⟩
  self := fun A i s Q E st h => let ⟨⟨_, he⟩, _⟩ := st; wpAny_pyIter_enum he h
def iEnumT (K : PySem.W.Frag) (ta : TA) : TI := fun σ H R => ta σ H fun vs H1 => ∃ a xs, vs = [.ref a] ∧ SqT K H1 a xs ∧ R (IteT K a) H1
theorem pi_enumT {X : Cx} {K : PySem.W.Frag} {e : Expr} {ta : TA} {p pos tpos : Pos} {elts : List Expr} {kk : Nat} (hg : Gl X "enumerate") (hm : X.mg "enumerate" = none) (ha : PA X [e] ta) (hs : starEach [e] X.env = [(false, eval e X.env)] := by rfl) (hK : X.K = K := by rfl) :
    PI X (.Tuple elts kk tpos) (.Call (.Name "enumerate" p) [e] [] pos) (iEnumT K ta) := by
  subst hK
  refine ⟨fun pins s σ H R I h => ?_⟩
  refine Call_ (ld_blt I hg hm boot_enumerate (PyProof.Rows.callWith_type1 (thn (ha.run pos pins s σ H _ I h) fun us s1 ⟨vs, H1, I1, r1, q1⟩ => ?_) hs rfl))
  obtain ⟨a, xs, ex, hq, q⟩ := q1
  subst ex
  cases r1 with
  | cons r rr =>
    cases rr
    cases r
    obtain ⟨its, rv, p', hz⟩ := I1.tuple hq
    refine en_call (begins_tuple a its.toArray) (show s1.heap.IsTuple a its.toArray from p') fun h' he hit hk => wpAny_pyIter_enum he ?_
    refine ⟨s1.heap.objs.size + 1, [s1.heap.objs.size + 1, s1.heap.objs.size], _, _, H1, rfl, I1.kept (t' := s1.toks) hk, turn_enT a (s1.heap.objs.size + 1) s1.heap.objs.size, ⟨⟨.none, he⟩, ⟨_, hit, rfl, rfl⟩, Nat.succ_ne_self _⟩, fun b hb => ?_, q⟩
    have hle : s1.heap.objs.size ≤ b := by
      rcases (by simpa using hb : b = s1.heap.objs.size + 1 ∨ b = s1.heap.objs.size) with z | z
      · rw [z]; exact Nat.le_add_right _ _
      · rw [z]; exact Nat.le_refl _
    exact I1.fpOk hle (I1.hok.fresh hle)
theorem walk_enT {K : PySem.W.Frag} {a : Addr} {xs : List V} : Walk (IteT K a) xs.length (fun H => SqT K H a xs) (YPair (fun i => some (.int (i : Nat))) (fun i => xs[i]?)) := by
  refine ⟨fun i _ hi q => ⟨xs, xs[i], q, by simp [hi]⟩, fun _ q => ⟨xs, q, Nat.le_refl _⟩, fun i H v H' _ q y => ?_⟩
  obtain ⟨T, x, ha, hb, hc, hd⟩ := y
  exact ⟨T, .int (i : Nat), x, ha, hb, hc, rfl, hd xs q⟩
theorem pe_globE {X : Cx} {x : Str} {i : Int} {pos : Pos} (hg : Gl X x) (h : ∃ t, X.mg x = some (.int i t)) (hd : (x == ("__debug__" : Str)) = false := by decide) : PE X (.Name x pos) (tC (.int i)) := by
  obtain ⟨t, h⟩ := h
  exact pe_glob hg h ⟨t, rfl⟩ hd
/-- the bounds of the program -/
structure Cst (mg : Str → Option Value) : Prop where
  c_MAX_KINDS : ∃ t, mg "MAX_KINDS" = some (.int 4 t)
  c_MAX_ROWS : ∃ t, mg "MAX_ROWS" = some (.int 24 t)
  c_MAX_AMOUNT : ∃ t, mg "MAX_AMOUNT" = some (.int 1000000 t)
end Nk
set_option Elab.async false
set_option linter.all false
set_option maxRecDepth 100000
set_option maxHeartbeats 4000000
namespace Nk
open PySem L2

/-! slots that hold data -/
def EnvL (K : PySem.W.Frag) : List (Nat × PyData) → St → Hp → Prop
  | [], _, _ => True
  | p :: Γ, σ, H => (∃ v, σ[p.1]? = some (some v) ∧ Dq K H v p.2) ∧ EnvL K Γ σ H
def Env (K : PySem.W.Frag) (n : Nat) (Γ : List (Nat × PyData)) (σ : St) (H : Hp) : Prop := σ.length = n ∧ EnvL K Γ σ H
section
variable {K : PySem.W.Frag} {n : Nat} {Γ Δ : List (Nat × PyData)} {σ : St} {H H' : Hp}
theorem EnvL.same (e : Same H H') : ∀ {Γ : List (Nat × PyData)}, EnvL K Γ σ H → EnvL K Γ σ H'
  | [], _ => trivial
  | _ :: _, ⟨⟨v, h, q⟩, r⟩ => ⟨⟨v, h, q.same e⟩, EnvL.same e r⟩
theorem Env.same (e : Same H H') (h : Env K n Γ σ H) : Env K n Γ σ H' := ⟨h.1, h.2.same e⟩
theorem EnvL.get {i : Nat} {d : PyData} : ∀ {Γ : List (Nat × PyData)}, EnvL K Γ σ H → Γ.lookup i = some d → ∃ v, σ[i]? = some (some v) ∧ Dq K H v d
  | [], _, e => by cases e
  | (j, x) :: Γ, ⟨⟨v, h, q⟩, r⟩, e => by
    rw [List.lookup_cons] at e
    cases z : i == j with
    | true =>
      rw [z] at e
      cases e
      have : i = j := by simpa using z
      subst this
      exact ⟨v, h, q⟩
    | false =>
      rw [z] at e
      exact EnvL.get r e
theorem EnvL.append : ∀ {Γ Δ : List (Nat × PyData)}, EnvL K Γ σ H → EnvL K Δ σ H → EnvL K (Γ ++ Δ) σ H
  | [], _, _, h => h
  | _ :: _, _, ⟨a, r⟩, h => ⟨a, EnvL.append r h⟩
/-- the keys are none of vs -/
def offK (Γ : List (Nat × PyData)) (vs : List Nat) : Bool := (Γ.map (·.1)).all fun j => !vs.contains j
theorem wipe_get {σ : St} {j : Nat} : ∀ {vs : List Nat}, vs.contains j = false → (wipe σ vs)[j]? = σ[j]?
  | [], _ => rfl
  | v :: vs, h => by
    unfold wipe
    have h1 : ¬ v = j := fun e => by subst e; simp at h
    have h2 : vs.contains j = false := by
      cases z : vs.contains j with
      | false => rfl
      | true =>
        have : (v :: vs).contains j = true := by
          rw [List.contains_cons, z, Bool.or_true]
        rw [this] at h
        cases h
    rw [List.getElem?_set_ne h1]
    exact wipe_get h2
theorem EnvL.off {σ' : St} {vs : List Nat} (hs : ∀ j, vs.contains j = false → σ'[j]? = σ[j]?) : ∀ {Γ : List (Nat × PyData)}, offK Γ vs = true → EnvL K Γ σ H → EnvL K Γ σ' H
  | [], _, _ => trivial
  | (j, x) :: Γ, o, ⟨⟨v, h, q⟩, r⟩ => by
    have o' : (!vs.contains j && offK Γ vs) = true := o
    rw [Bool.and_eq_true] at o'
    exact ⟨⟨v, by rw [hs j (by simpa using o'.1)]; exact h, q⟩, EnvL.off hs o'.2 r⟩
theorem EnvL.start (l : List (V × PyData)) : True := trivial
end

/-! e gives the data d, whatever is new; tests; arguments -/
def tD (K : PySem.W.Frag) (n : Nat) (Γ : List (Nat × PyData)) (d : PyData) : TE := fun σ H Q => Env K n Γ σ H ∧ ∀ v H', Same H H' → Dq K H' v d → Q v H'
def tDs (K : PySem.W.Frag) (n : Nat) (Γ : List (Nat × PyData)) (ds : List PyData) : TA := fun σ H Q => Env K n Γ σ H ∧ ∀ vs H', Same H H' → DqAll K H' vs ds → Q vs H'
def tDb (K : PySem.W.Frag) (n : Nat) (Γ : List (Nat × PyData)) (b : Bool) : TT := fun σ H Q => Env K n Γ σ H ∧ ∀ H', Same H H' → Q b H'
structure PD (K : PySem.W.Frag) (X : Cx) (n : Nat) (Γ : List (Nat × PyData)) (e : Expr) (d : PyData) : Prop where
  hK : X.K = K
  pe : PE X e (tD K n Γ d)
structure PDs (K : PySem.W.Frag) (X : Cx) (n : Nat) (Γ : List (Nat × PyData)) (es : List Expr) (ds : List PyData) : Prop where
  pa : PA X es (tDs K n Γ ds)
structure PB (K : PySem.W.Frag) (X : Cx) (n : Nat) (Γ : List (Nat × PyData)) (e : Expr) (b : Bool) : Prop where
  pt : PT X e (tDb K n Γ b)
/-- on values -/
def Op2 (K : PySem.W.Frag) (r : R2) (a b d : PyData) : Prop := ∀ x y H Q, Dq K H x a → Dq K H y b → (∀ v H', Same H H' → Dq K H' v d → Q v H') → r x y H Q
def OpN (K : PySem.W.Frag) (r : List V → Hp → VK → Prop) (ds : List PyData) (d : PyData) : Prop := ∀ xs H Q, DqAll K H xs ds → (∀ v H', Same H H' → Dq K H' v d → Q v H') → r xs H Q
section
variable {K : PySem.W.Frag} {X : Cx} {n : Nat} {Γ Δ : List (Nat × PyData)} {e a b c : Expr} {es : List Expr} {d da db dc : PyData} {ds : List PyData} {pos p : Pos}
theorem pe_or_ex {ι : Sort _} {t : ι → TE} (h : ∀ i, PE X e (t i)) : PE X e (fun σ H Q => ∃ i, t i σ H Q) := ⟨fun pins s σ H Q I ⟨i, q⟩ => (h i).run pins s σ H Q I q⟩
theorem pt_imp {t t' : TT} (h : PT X e t) (i : ∀ σ H Q, t' σ H Q → t σ H Q) : PT X e t' := ⟨fun pins s σ H Q I q => h.run pins s σ H Q I (i σ H Q q)⟩
theorem pt_ex {ι : Sort _} {t : ι → TT} (h : ∀ i, PT X e (t i)) : PT X e (fun σ H Q => ∃ i, t i σ H Q) := ⟨fun pins s σ H Q I ⟨i, q⟩ => (h i).run pins s σ H Q I q⟩
theorem PD.of {t : TE} (h : PE X e t) (i : ∀ σ H Q, Env K n Γ σ H → (∀ v H', Same H H' → Dq K H' v d → Q v H') → t σ H Q) (hK : X.K = K := by rfl) : PD K X n Γ e d := ⟨hK, pe_imp h fun σ H Q q => i σ H Q q.1 q.2⟩
theorem PD.cast (h : PD K X n Γ e d) (q : d = db) : PD K X n Γ e db := q ▸ h
theorem PB.cast {p q : Bool} (h : PB K X n Γ e p) (z : p = q) : PB K X n Γ e q := z ▸ h
theorem PDs.nil : PDs K X n Γ [] [] := ⟨pa_imp pa_nil fun σ H Q q => q.2 [] H (Same.refl H) .nil⟩
theorem PDs.cons (h : PD K X n Γ e d) (g : PDs K X n Γ es ds) (hs : starEach (e :: es) X.env = (false, eval e X.env) :: starEach es X.env := by rfl) : PDs K X n Γ (e :: es) (d :: ds) :=
  ⟨pa_imp (pa_cons h.pe g.pa hs) fun σ H Q q => ⟨q.1, fun v H1 s1 q1 => ⟨q.1.same s1, fun vs H2 s2 q2 => q.2 (v :: vs) H2 (s1.trans s2) (.cons (q1.same s2) q2)⟩⟩⟩
theorem pd_var {i : Nat} {x : Str} (hN : X.N[i]? = some x) (hv : Vis X.env.scope x) (hl : Γ.lookup i = some d) (hK : X.K = K := by rfl) (hd : (x == ("__debug__" : Str)) = false := by decide) (hcd : (x == ("__classdict__" : Str)) = false := by decide) : PD K X n Γ (.Name x pos) d :=
  .of (pe_var hN hv hd hcd) (fun σ H Q g q => let ⟨v, h, z⟩ := g.2.get hl; ⟨v, h, q v H (Same.refl H) z⟩) hK
theorem pd_int {i j} (hK : X.K = K := by rfl) : PD K X n Γ (.Constant (.int i) j pos) (.int i) := .of pe_int (fun σ H Q _ q => q _ H (Same.refl H) (.int i)) hK
theorem pd_bl {i j} (hK : X.K = K := by rfl) : PD K X n Γ (.Constant (.bool i) j pos) (.bool i) := .of pe_bl (fun σ H Q _ q => q _ H (Same.refl H) (.bl i)) hK
theorem pd_non {j} (hK : X.K = K := by rfl) : PD K X n Γ (.Constant .none j pos) .none := .of pe_non (fun σ H Q _ q => q _ H (Same.refl H) .non) hK
theorem pd_str {i j} (hK : X.K = K := by rfl) : PD K X n Γ (.Constant (.str i) j pos) (.str i) := .of pe_str (fun σ H Q _ q => q _ H (Same.refl H) (.str i)) hK
theorem pd_cst {x : Str} {i : Int} (hg : Gl X x) (h : ∃ t, X.mg x = some (.int i t)) (hK : X.K = K := by rfl) (hd : (x == ("__debug__" : Str)) = false := by decide) : PD K X n Γ (.Name x pos) (.int i) :=
  .of (pe_globE hg h hd) (fun σ H Q _ q => q _ H (Same.refl H) (.int i)) hK
theorem pd_op {op : Operator} {r : R2} (ho : OpR X (binaryOp op) r) (ha : PD K X n Γ a da) (hb : PD K X n Γ b db) (q : Op2 K r da db d) : PD K X n Γ (.BinOp a op b pos) d :=
  .of (pe_op ho ha.pe hb.pe) (fun σ H Q g k => ⟨g, fun x H1 s1 q1 => ⟨g.same s1, fun y H2 s2 q2 => q x y H2 Q (q1.same s2) q2 fun v H' s3 q3 => k v H' ((s1.trans s2).trans s3) q3⟩⟩) ha.hK
theorem pd_cmp {op : CmpOp} {r : R2} (ho : OpR X (compareOp op) r) (ha : PD K X n Γ a da) (hb : PD K X n Γ b db) (q : Op2 K r da db d) (hm : behindInMarks op b = false) : PD K X n Γ (.Compare a [op] [b] pos) d :=
  .of (pe_cmpR ho ha.pe hb.pe hm) (fun σ H Q g k => ⟨g, fun x H1 s1 q1 => ⟨g.same s1, fun y H2 s2 q2 => q x y H2 Q (q1.same s2) q2 fun v H' s3 q3 => k v H' ((s1.trans s2).trans s3) q3⟩⟩) ha.hK
theorem pd_chain {op op' : CmpOp} {r r' : R2} {k1 k2 : Bool} (ho : OpR X (compareOp op) r) (ho' : OpR X (compareOp op') r') (ha : PD K X n Γ a da) (hb : PD K X n Γ b db) (hc : PD K X n Γ c dc) (q1 : Op2 K r da db (.bool k1)) (q2 : Op2 K r' db dc (.bool k2))
    (hm : lastMarks [op, op'] [b, c] = false := by with_unfolding_all rfl) : PD K X n Γ (.Compare a [op, op'] [b, c] pos) (.bool (k1 && k2)) :=
  .of (pe_chain ho ho' ha.pe hb.pe hc.pe hm) (fun σ H Q g k => ⟨g, fun x H1 s1 z1 => ⟨g.same s1, fun y H2 s2 z2 => q1 x y H2 _ (z1.same s2) z2 fun v H3 s3 z3 => by
    cases z3
    refine ⟨k1, rfl, ?_⟩
    cases k1 with
    | false => exact k _ _ ((s1.trans s2).trans s3) (.bl false)
    | true => exact ⟨((g.same s1).same s2).same s3, fun w' H4 s4 z4 => q2 y w' H4 Q ((z2.same s3).same s4) z4 fun v H' s5 z5 => k v H' ((((s1.trans s2).trans s3).trans s4).trans s5) (by rw [Bool.true_and]; exact z5)⟩⟩⟩) ha.hK
theorem pd_un {op : UnaryOp} {r : V → Hp → VK → Prop} (ho : UnR X (unaryOp op) r) (ha : PD K X n Γ a da) (q : ∀ x H Q, Dq K H x da → (∀ v H', Same H H' → Dq K H' v d → Q v H') → r x H Q) : PD K X n Γ (.UnaryOp op a pos) d :=
  .of (pe_un ho ha.pe) (fun σ H Q g k => ⟨g, fun x H1 s1 q1 => q x H1 Q q1 fun v H' s3 q3 => k v H' (s1.trans s3) q3⟩) ha.hK
theorem pd_neg {i : Int} (ha : PD K X n Γ a (.int i)) : PD K X n Γ (.UnaryOp .USub a pos) (.int (-i)) := pd_un un_neg ha fun x H Q h k => by cases h; exact ⟨i, rfl, k _ H (Same.refl H) (.int _)⟩
theorem pd_ix {r : R2} (hr : IxR X r) (ha : PD K X n Γ a da) (hb : PD K X n Γ b db) (q : Op2 K r da db d) (hs : PlainIx b := by exact fun _ _ => rfl) : PD K X n Γ (.Subscript a b pos) d :=
  .of (pe_ix hr ha.pe hb.pe hs) (fun σ H Q g k => ⟨g, fun x H1 s1 q1 => ⟨g.same s1, fun y H2 s2 q2 => q x y H2 Q (q1.same s2) q2 fun v H' s3 q3 => k v H' ((s1.trans s2).trans s3) q3⟩⟩) ha.hK
theorem pd_callB {x : Str} {id : String} {r : List V → Hp → VK → Prop} (hc : CallR X (.builtin id) r) (hg : Gl X x) (hm : X.mg x = none) (hv : bootBuiltins x = some (.builtin id)) (ha : PDs K X n Γ (e :: es) ds) (q : OpN K r ds d) (hK : X.K = K := by rfl) (hn : x ≠ "__name__" := by decide) (hdb : (x == ("__debug__" : Str)) = false := by decide)
    (he : starEach (e :: es) X.env = (false, eval e X.env) :: starEach es X.env := by rfl) (hpl : (backTo pos (starEach es X.env)).any (·.1) = false := by rfl) : PD K X n Γ (.Call (.Name x p) (e :: es) [] pos) d :=
  .of (pe_callB hc hg hm hv ha.pa hn hdb he hpl) (fun σ H Q g k => ⟨g, fun xs H1 s1 q1 => q xs H1 Q q1 fun v H' s3 q3 => k v H' (s1.trans s3) q3⟩) hK
theorem pd_callTy {x : Str} {T : String} {r : List V → Hp → VK → Prop} (hc : CallR X (.type T) r) (hg : Gl X x) (hm : X.mg x = none) (hv : bootBuiltins x = some (.type T)) (ha : PDs K X n Γ (e :: es) ds) (q : OpN K r ds d) (hK : X.K = K := by rfl) (hn : x ≠ "__name__" := by decide) (hdb : (x == ("__debug__" : Str)) = false := by decide)
    (he : starEach (e :: es) X.env = (false, eval e X.env) :: starEach es X.env := by rfl) (hpl : (backTo pos (starEach es X.env)).any (·.1) = false := by rfl) : PD K X n Γ (.Call (.Name x p) (e :: es) [] pos) d :=
  .of (pe_callTy hc hg hm hv ha.pa hn hdb he hpl) (fun σ H Q g k => ⟨g, fun xs H1 s1 q1 => q xs H1 Q q1 fun v H' s3 q3 => k v H' (s1.trans s3) q3⟩) hK
theorem DqAll.rev {vs : List V} {H : Hp} (h : DqAll K H vs ds) : vs.length = ds.length := h.length
/-- a display -/
theorem pd_tup {x1} (h : PDs K X n Γ es ds) (hl : Nat.ble ds.length 1000 = true := by rfl) (hK : X.K = K := by rfl) : PD K X n Γ (.Tuple es x1 pos) (.tuple ds) :=
  .of (pe_tup h.pa) (fun σ H Q g k => ⟨g, fun xs H1 s1 q1 => ⟨by rw [q1.length]; exact Nat.le_trans (Nat.le_of_ble_eq_true hl) (by show 1000 ≤ sizeLine; decide), fun p hp => k _ _ (s1.trans (same_new hp)) (.tup upd_same (q1.same (same_new hp)))⟩⟩) hK
theorem pd_lst (h : PDs K X n Γ es ds) (hl : Nat.ble ds.length 1000 = true := by rfl) (hK : X.K = K := by rfl) : PD K X n Γ (.List es pos) (.list ds) :=
  .of (pe_lst h.pa) (fun σ H Q g k => ⟨g, fun xs H1 s1 q1 => ⟨by rw [q1.length]; exact Nat.le_trans (Nat.le_of_ble_eq_true hl) (by show 1000 ≤ sizeLine; decide), fun p hp => k _ _ (s1.trans (same_new hp)) (.lst upd_same (q1.same (same_new hp)))⟩⟩) hK

/-! tests -/
theorem PD.tb {k : Bool} (h : PD K X n Γ e (.bool k)) (he : ∀ whole, isTrue e X.env whole = (do let v ← whole; standAt e.pos; holding [v] (truthy v)) := by intro _; rfl) : PB K X n Γ e k :=
  ⟨pt_imp (pt_val h.pe he) fun σ H Q q => ⟨q.1, fun v H' s z => by cases z; exact ⟨k, rfl, q.2 H' s⟩⟩⟩
theorem pb_cmp {op : CmpOp} {r : R2} {k : Bool} (ho : OpR X (compareOp op) r) (ha : PD K X n Γ a da) (hb : PD K X n Γ b db) (q : Op2 K r da db (.bool k)) (hm : behindInMarks op b = false) : PB K X n Γ (.Compare a [op] [b] pos) k :=
  ⟨pt_imp (pt_cmpR ho ha.pe hb.pe hm) fun σ H Q g => ⟨g.1, fun x H1 s1 q1 => ⟨g.1.same s1, fun y H2 s2 q2 => q x y H2 _ (q1.same s2) q2 fun v H' s3 q3 => by cases q3; exact ⟨k, rfl, g.2 H' ((s1.trans s2).trans s3)⟩⟩⟩⟩
theorem pb_chain {op op' : CmpOp} {r r' : R2} {k1 k2 : Bool} (ho : OpR X (compareOp op) r) (ho' : OpR X (compareOp op') r') (ha : PD K X n Γ a da) (hb : PD K X n Γ b db) (hc : PD K X n Γ c dc) (q1 : Op2 K r da db (.bool k1)) (q2 : Op2 K r' db dc (.bool k2))
    (hm : lastMarks [op, op'] [b, c] = false := by with_unfolding_all rfl) : PB K X n Γ (.Compare a [op, op'] [b, c] pos) (k1 && k2) :=
  ⟨pt_imp (pt_chain ho ho' ha.pe hb.pe hc.pe hm) fun σ H Q k => ⟨k.1, fun x H1 s1 z1 => ⟨k.1.same s1, fun y H2 s2 z2 => q1 x y H2 _ (z1.same s2) z2 fun v H3 s3 z3 => by
    cases z3
    refine ⟨k1, rfl, ?_⟩
    cases k1 with
    | false => exact ⟨false, rfl, k.2 _ ((s1.trans s2).trans s3)⟩
    | true => exact ⟨((k.1.same s1).same s2).same s3, fun w' H4 s4 z4 => q2 y w' H4 _ ((z2.same s3).same s4) z4 fun v H' s5 z5 => by
        cases z5
        exact ⟨k2, rfl, k.2 H' ((((s1.trans s2).trans s3).trans s4).trans s5)⟩⟩⟩⟩⟩
theorem pb_not {k : Bool} (h : PB K X n Γ a k) : PB K X n Γ (.UnaryOp .Not a pos) (!k) := ⟨pt_imp (pt_not h.pt) fun σ H Q q => ⟨q.1, fun H' s => q.2 H' s⟩⟩
structure PBw (K : PySem.W.Frag) (X : Cx) (n : Nat) (Γ : List (Nat × PyData)) (e : Expr) (b : Bool) : Prop where
  pw : PW X e (tDb K n Γ b)
theorem pw_imp {t t' : TT} (h : PW X e t) (i : ∀ σ H Q, t' σ H Q → t σ H Q) : PW X e t' := ⟨fun w pins s σ H Q I q => h.run w pins s σ H Q I (i σ H Q q)⟩
theorem pw_fls : PW X e (fun _ _ _ => False) := ⟨fun _ _ _ _ _ _ _ q => q.elim⟩
theorem pt_fls : PT X e (fun _ _ _ => False) := ⟨fun _ _ _ _ _ _ q => q.elim⟩
theorem pe_fls : PE X e (fun _ _ _ => False) := ⟨fun _ _ _ _ _ _ q => q.elim⟩
theorem PBw.tb {k : Bool} (h : PBw K X n Γ e k) : PB K X n Γ e k := ⟨h.pw.pt⟩
theorem pb_and1 {k : Bool} (h : PB K X n Γ a k) : PBw K X n Γ (.BoolOp .And [a] pos) k := ⟨pw_and1 h.pt⟩
theorem pb_or1 {k : Bool} (h : PB K X n Γ a k) : PBw K X n Γ (.BoolOp .Or [a] pos) k := ⟨pw_or1 h.pt⟩
theorem pb_and {rest : List Expr} {k l : Bool} (h : PB K X n Γ a k) (g : k = true → PBw K X n Γ (.BoolOp .And (b :: rest) pos) l) : PBw K X n Γ (.BoolOp .And (a :: b :: rest) pos) (k && l) := by
  cases k with
  | true => exact ⟨pw_imp (pw_and h.pt (g rfl).pw) fun σ H Q q => ⟨q.1, fun H1 s1 => iteT <| ⟨q.1.same s1, fun H2 s2 => q.2 H2 (s1.trans s2)⟩⟩⟩
  | false => exact ⟨pw_imp (pw_and h.pt pw_fls) fun σ H Q q => ⟨q.1, fun H1 s1 => iteF <| q.2 H1 s1⟩⟩
theorem pb_or {rest : List Expr} {k l : Bool} (h : PB K X n Γ a k) (g : k = false → PBw K X n Γ (.BoolOp .Or (b :: rest) pos) l) : PBw K X n Γ (.BoolOp .Or (a :: b :: rest) pos) (k || l) := by
  cases k with
  | false => exact ⟨pw_imp (pw_or h.pt (g rfl).pw) fun σ H Q q => ⟨q.1, fun H1 s1 => iteF <| ⟨q.1.same s1, fun H2 s2 => q.2 H2 (s1.trans s2)⟩⟩⟩
  | true => exact ⟨pw_imp (pw_or h.pt pw_fls) fun σ H Q q => ⟨q.1, fun H1 s1 => iteT <| q.2 H1 s1⟩⟩
/-! and, or, not, if as values -/
theorem pd_not {k : Bool} (h : PD K X n Γ a (.bool k)) : PD K X n Γ (.UnaryOp .Not a pos) (.bool (!k)) :=
  .of (pe_not h.pe) (fun σ H Q g q => ⟨g, fun v H1 s1 z => by cases z; exact ⟨k, rfl, q _ H1 s1 (.bl _)⟩⟩) h.hK
theorem pd_one {op} (h : PD K X n Γ a d) : PD K X n Γ (.BoolOp op [a] pos) d := ⟨h.hK, pe_one h.pe⟩
theorem pd_and {rest : List Expr} {k l : Bool} (h : PD K X n Γ a (.bool k)) (g : k = true → PD K X n Γ (.BoolOp .And (b :: rest) pos) (.bool l)) : PD K X n Γ (.BoolOp .And (a :: b :: rest) pos) (.bool (k && l)) := by
  cases k with
  | true => exact .of (pe_and h.pe (g rfl).pe) (fun σ H Q q k => ⟨q, fun v H1 s1 z => by cases z; exact ⟨true, rfl, iteT <| ⟨q.same s1, fun v H2 s2 => k v H2 (s1.trans s2)⟩⟩⟩) h.hK
  | false => exact .of (pe_and h.pe pe_fls) (fun σ H Q q k => ⟨q, fun v H1 s1 z => by cases z; exact ⟨false, rfl, iteF <| k _ H1 s1 (.bl false)⟩⟩) h.hK
theorem pd_or {rest : List Expr} {k l : Bool} (h : PD K X n Γ a (.bool k)) (g : k = false → PD K X n Γ (.BoolOp .Or (b :: rest) pos) (.bool l)) : PD K X n Γ (.BoolOp .Or (a :: b :: rest) pos) (.bool (k || l)) := by
  cases k with
  | false => exact .of (pe_or h.pe (g rfl).pe) (fun σ H Q q k => ⟨q, fun v H1 s1 z => by cases z; exact ⟨false, rfl, iteF <| ⟨q.same s1, fun v H2 s2 => k v H2 (s1.trans s2)⟩⟩⟩) h.hK
  | true => exact .of (pe_or h.pe pe_fls) (fun σ H Q q k => ⟨q, fun v H1 s1 z => by cases z; exact ⟨true, rfl, iteT <| k _ H1 s1 (.bl true)⟩⟩) h.hK
theorem pd_if {k : Bool} (h : PB K X n Γ c k) (h1 : k = true → PD K X n Γ a d) (h2 : k = false → PD K X n Γ b d) (hK : X.K = K := by rfl) : PD K X n Γ (.IfExp c a b pos) d := by
  cases k with
  | true => exact .of (pe_ifExp h.pt (h1 rfl).pe pe_fls) (fun σ H Q q k => ⟨q, fun H1 s1 => iteT <| ⟨q.same s1, fun v H2 s2 => k v H2 (s1.trans s2)⟩⟩) hK
  | false => exact .of (pe_ifExp h.pt pe_fls (h2 rfl).pe) (fun σ H Q q k => ⟨q, fun H1 s1 => iteF <| ⟨q.same s1, fun v H2 s2 => k v H2 (s1.trans s2)⟩⟩) hK
end
end Nk
set_option Elab.async false
set_option linter.all false
set_option maxRecDepth 100000
set_option maxHeartbeats 4000000
namespace Nk
open PySem L2

/-! data of ints -/
theorem Dq.ints_eq {K : PySem.W.Frag} {H : Hp} : ∀ {vs : List V} {ns : List Int}, DqAll K H vs (ns.map PyData.int) → vs = ns.map V.int
  | _, [], h => by cases h; rfl
  | _, n :: ns, h => by
    cases h with
    | cons a t =>
      cases a
      rw [Dq.ints_eq t]
      rfl
theorem Dq.bls_eq {K : PySem.W.Frag} {H : Hp} : ∀ {vs : List V} {bs : List Bool}, DqAll K H vs (bs.map PyData.bool) → vs = bs.map V.bl
  | _, [], h => by cases h; rfl
  | _, n :: ns, h => by
    cases h with
    | cons a t =>
      cases a
      rw [Dq.bls_eq t]
      rfl
/-- the greatest -/
def mxL : Int → List Int → Int
  | x, [] => x
  | x, y :: ys => mxL (if y > x then y else x) ys
theorem mxL_mem : ∀ (x : Int) (ys : List Int), mxL x ys ∈ x :: ys
  | x, [] => by simp [mxL]
  | x, y :: ys => by
    have ih := mxL_mem (if y > x then y else x) ys
    unfold mxL
    rcases List.mem_cons.mp ih with h | h
    · rw [h]
      by_cases z : y > x
      · rw [if_pos z]; simp
      · rw [if_neg z]; simp
    · exact List.mem_cons_of_mem _ (List.mem_cons_of_mem _ h)
theorem mxL_ge : ∀ (x : Int) (ys : List Int), ∀ z ∈ x :: ys, z ≤ mxL x ys
  | x, [], z, h => by simp at h; subst h; exact Int.le_refl _
  | x, y :: ys, z, h => by
    unfold mxL
    have ih := mxL_ge (if y > x then y else x) ys
    have h0 := ih _ List.mem_cons_self
    rcases List.mem_cons.mp h with h | h
    · subst h
      by_cases q : y > z
      · rw [if_pos q] at h0 ⊢; omega
      · rw [if_neg q] at h0 ⊢; exact h0
    · rcases List.mem_cons.mp h with h | h
      · subst h
        by_cases q : z > x
        · rw [if_pos q] at h0 ⊢; exact h0
        · rw [if_neg q] at h0 ⊢; omega
      · exact ih z (List.mem_cons_of_mem _ h)
theorem mxL_eq {x m : Int} {ys : List Int} (h1 : m ∈ x :: ys) (h2 : ∀ z ∈ x :: ys, z ≤ m) : m = mxL x ys := by
  have a := mxL_ge x ys m h1
  have b := h2 _ (mxL_mem x ys)
  omega
/-- the greatest of none: this one -/
def mxD (d : Int) : List Int → Int
  | [] => d
  | x :: xs => mxL x xs
section
variable {K : PySem.W.Frag} {i j : Int} {a b : PyData} {s t : List PyData}
theorem o_add : Op2 K (rI0 fun i j => .int (i + j)) (.int i) (.int j) (.int (i + j)) := fun x y H Q h g k => by cases h; cases g; exact ⟨i, j, rfl, rfl, k _ H (Same.refl H) (.int _)⟩
theorem o_sub : Op2 K (rI0 fun i j => .int (i - j)) (.int i) (.int j) (.int (i - j)) := fun x y H Q h g k => by cases h; cases g; exact ⟨i, j, rfl, rfl, k _ H (Same.refl H) (.int _)⟩
theorem o_i {C : Int → Int → Prop} {g : Int → Int → Int} (h : C i j) : Op2 K (rI C fun i j => .int (g i j)) (.int i) (.int j) (.int (g i j)) := fun x y H Q h1 h2 k => by cases h1; cases h2; exact ⟨i, j, rfl, rfl, h, k _ H (Same.refl H) (.int _)⟩
theorem o_lt : Op2 K (rI0 fun i j => .bl (decide (i < j))) (.int i) (.int j) (.bool (decide (i < j))) := fun x y H Q h g k => by cases h; cases g; exact ⟨i, j, rfl, rfl, k _ H (Same.refl H) (.bl _)⟩
theorem o_le : Op2 K (rI0 fun i j => .bl (decide (i ≤ j))) (.int i) (.int j) (.bool (decide (i ≤ j))) := fun x y H Q h g k => by cases h; cases g; exact ⟨i, j, rfl, rfl, k _ H (Same.refl H) (.bl _)⟩
theorem o_gt : Op2 K (rI0 fun i j => .bl (decide (i > j))) (.int i) (.int j) (.bool (decide (i > j))) := fun x y H Q h g k => by cases h; cases g; exact ⟨i, j, rfl, rfl, k _ H (Same.refl H) (.bl _)⟩
theorem o_ge : Op2 K (rI0 fun i j => .bl (decide (i ≥ j))) (.int i) (.int j) (.bool (decide (i ≥ j))) := fun x y H Q h g k => by cases h; cases g; exact ⟨i, j, rfl, rfl, k _ H (Same.refl H) (.bl _)⟩
theorem o_eq : Op2 K rEq (.int i) (.int j) (.bool (decide (i = j))) := fun x y H Q h g k => by
  cases h; cases g
  refine ⟨rfl, ?_⟩
  have e : decide (V.int i = V.int j) = decide (i = j) := by rw [dec_int]; by_cases z : i = j <;> simp [z]
  rw [e]
  exact k _ H (Same.refl H) (.bl _)
theorem o_ne : Op2 K rNe (.int i) (.int j) (.bool (!decide (i = j))) := fun x y H Q h g k => by
  cases h; cases g
  refine ⟨rfl, ?_⟩
  have e : decide (V.int i = V.int j) = decide (i = j) := by rw [dec_int]; by_cases z : i = j <;> simp [z]
  rw [e]
  exact k _ H (Same.refl H) (.bl _)
theorem o_neS {x y : Str} : Op2 K rNe (.str x) (.str y) (.bool (!decide (x = y))) := fun u v H Q h g k => by
  cases h; cases g
  refine ⟨rfl, ?_⟩
  have e : decide (V.str x = V.str y) = decide (x = y) := by by_cases z : x = y <;> simp [z]
  rw [e]
  exact k _ H (Same.refl H) (.bl _)
theorem o_eqS {x y : Str} : Op2 K rEq (.str x) (.str y) (.bool (decide (x = y))) := fun u v H Q h g k => by
  cases h; cases g
  refine ⟨rfl, ?_⟩
  have e : decide (V.str x = V.str y) = decide (x = y) := by by_cases z : x = y <;> simp [z]
  rw [e]
  exact k _ H (Same.refl H) (.bl _)
theorem o_eqD (ha : SeqAt.shaped a = true) (hb : SeqAt.shaped b = true) : Op2 K (rEqD K) a b (.bool (PyData.eqv a b)) := fun x y H Q h g k =>
  ⟨a, b, h.dp (by unfold SeqAt.shaped at ha; exact (Bool.and_eq_true _ _ ▸ ha).1), g.dp (by unfold SeqAt.shaped at hb; exact (Bool.and_eq_true _ _ ▸ hb).1), ha, hb, k _ H (Same.refl H) (.bl _)⟩
theorem o_neD (ha : SeqAt.shaped a = true) (hb : SeqAt.shaped b = true) : Op2 K (rNeD K) a b (.bool (!PyData.eqv a b)) := fun x y H Q h g k =>
  ⟨a, b, h.dp (by unfold SeqAt.shaped at ha; exact (Bool.and_eq_true _ _ ▸ ha).1), g.dp (by unfold SeqAt.shaped at hb; exact (Bool.and_eq_true _ _ ▸ hb).1), ha, hb, k _ H (Same.refl H) (.bl _)⟩
theorem DqAll.atI {H : Hp} {vs : List V} {k : Int} {d : PyData} (h : DqAll K H vs s) (e : atI s k = some d) : ∃ v, L2.atI vs k = some v ∧ Dq K H v d := by
  have hl := h.length
  unfold L2.atI at e ⊢
  rw [hl]
  cases q : ixN s.length k with
  | none => rw [q] at e; cases e
  | some m =>
    rw [q] at e
    have e' : s[m]? = some d := e
    have hm : m < vs.length := by
      have := (List.getElem?_eq_some_iff.mp e').1
      omega
    have hv : vs[m]? = some vs[m] := List.getElem?_eq_getElem hm
    obtain ⟨d', h1, h2⟩ := h.get hv
    rw [e'] at h1
    cases h1
    exact ⟨_, hv, h2⟩
theorem o_ixT {d : PyData} (h : atI s j = some d) : Op2 K (rIxT K) (.tuple s) (.int j) d := fun x y H Q h1 h2 k => by
  cases h1 with
  | tup hp ha =>
    cases h2
    obtain ⟨v, e, q⟩ := ha.atI h
    exact ⟨_, _, _, v, rfl, rfl, SqT.of hp, e, k v H (Same.refl H) q⟩
theorem o_ixL {d : PyData} (h : atI s j = some d) : Op2 K (rIxL K) (.list s) (.int j) d := fun x y H Q h1 h2 k => by
  cases h1 with
  | lst hp ha =>
    cases h2
    obtain ⟨v, e, q⟩ := ha.atI h
    exact ⟨_, _, _, v, rfl, rfl, SqL.of hp, e, k v H (Same.refl H) q⟩
theorem o_catT (h : s.length + t.length ≤ sizeLine) : Op2 K (rCatA K) (.tuple s) (.tuple t) (.tuple (s ++ t)) := fun x y H Q h1 h2 k => by
  cases h1 with
  | tup hp ha =>
    cases h2 with
    | tup hq hb =>
      refine ⟨_, _, _, _, rfl, rfl, SqT.of hp, SqT.of hq, by rw [ha.length, hb.length]; exact h, fun e => ?_, fun e1 e2 => ?_, fun e1 e2 p hpn => ?_⟩
      · subst e
        cases ha
        exact k _ H (Same.refl H) (.tup hq hb)
      · subst e2
        cases hb
        rw [List.append_nil] at k
        exact k _ H (Same.refl H) (.tup hp ha)
      · exact k _ _ (same_new hpn) (.tup upd_same ((ha.append hb).same (same_new hpn)))
theorem o_catL (h : s.length + t.length ≤ sizeLine) : Op2 K rCat (.list s) (.list t) (.list (s ++ t)) := fun x y H Q h1 h2 k => by
  cases h1 with
  | lst hp ha =>
    cases h2 with
    | lst hq hb =>
      exact ⟨_, _, _, _, rfl, rfl, hp, hq, by rw [ha.length, hb.length]; exact h, fun p hpn => k _ _ (same_new hpn) (.lst upd_same ((ha.append hb).same (same_new hpn)))⟩
theorem DqAll.rep {H : Hp} {vs : List V} (h : DqAll K H vs s) : ∀ n : Nat, DqAll K H (List.replicate n vs).flatten (List.replicate n s).flatten
  | 0 => .nil
  | n + 1 => by
    rw [List.replicate_succ, List.replicate_succ, List.flatten_cons, List.flatten_cons]
    exact h.append (DqAll.rep h n)
theorem rep_same {α : Type} {xs : List α} {k : Int} (h : xs = [] ∨ k = 1) : (List.replicate k.toNat xs).flatten = xs := by
  rcases h with z | z
  · subst z
    induction k.toNat with
    | zero => rfl
    | succ n ih => rw [List.replicate_succ, List.flatten_cons, ih]; rfl
  · subst z
    simp
theorem o_repT (h0 : -1000 ≤ j) (h1 : j ≤ 1000) (hl : s.length ≤ 1000) : Op2 K (rRepA K) (.tuple s) (.int j) (.tuple (List.replicate j.toNat s).flatten) := fun x y H Q g1 g2 k => by
  cases g1 with
  | tup hp ha =>
    cases g2
    refine ⟨_, _, _, rfl, rfl, SqT.of hp, h0, h1, by rw [ha.length]; exact hl, fun z => ?_, fun _ p hpn => k _ _ (same_new hpn) (.tup upd_same ((ha.rep _).same (same_new hpn)))⟩
    have z' : s = [] ∨ j = 1 := by
      rcases z with z | z
      · subst z; cases ha; exact .inl rfl
      · exact .inr z
    rw [rep_same z'] at k
    exact k _ H (Same.refl H) (.tup hp ha)
theorem o_len {d : PyData} (h : d = .list s ∨ d = .tuple s) : OpN K (fun xs H Q => ∃ p ys, xs = [.ref p] ∧ (SqL K H p ys ∨ SqT K H p ys) ∧ Q (.int (ys.length : Nat)) H) [d] (.int (s.length : Nat)) := fun xs H Q h1 k => by
  cases h1 with
  | cons h1 hn =>
    cases hn
    rcases h with rfl | rfl
    · cases h1 with
      | lst hp ha => exact ⟨_, _, rfl, .inl (SqL.of hp), by rw [ha.length]; exact k _ H (Same.refl H) (.int _)⟩
    · cases h1 with
      | tup hp ha => exact ⟨_, _, rfl, .inr (SqT.of hp), by rw [ha.length]; exact k _ H (Same.refl H) (.int _)⟩
theorem o_tuple {d : PyData} (h : d = .list s ∨ d = .tuple s) : OpN K (fun xs H Q => ∃ p ys, xs = [.ref p] ∧ ((SqL K H p ys ∧ ∀ l, H l = none → Q (.ref l) (upd H l (.tup ys))) ∨ (SqT K H p ys ∧ Q (.ref p) H))) [d] (.tuple s) := fun xs H Q h1 k => by
  cases h1 with
  | cons h1 hn =>
    cases hn
    rcases h with rfl | rfl
    · cases h1 with
      | lst hp ha => exact ⟨_, _, rfl, .inl ⟨SqL.of hp, fun l hl => k _ _ (same_new hl) (.tup upd_same (ha.same (same_new hl)))⟩⟩
    · cases h1 with
      | tup hp ha => exact ⟨_, _, rfl, .inr ⟨SqT.of hp, k _ H (Same.refl H) (.tup hp ha)⟩⟩
theorem o_list {d : PyData} (h : d = .list s ∨ d = .tuple s) : OpN K (fun xs H Q => ∃ p ys, xs = [.ref p] ∧ (SqL K H p ys ∨ SqT K H p ys) ∧ ∀ l, H l = none → Q (.ref l) (upd H l (.lst ys))) [d] (.list s) := fun xs H Q h1 k => by
  cases h1 with
  | cons h1 hn =>
    cases hn
    rcases h with rfl | rfl
    · cases h1 with
      | lst hp ha => exact ⟨_, _, rfl, .inl (SqL.of hp), fun l hl => k _ _ (same_new hl) (.lst upd_same (ha.same (same_new hl)))⟩
    · cases h1 with
      | tup hp ha => exact ⟨_, _, rfl, .inr (SqT.of hp), fun l hl => k _ _ (same_new hl) (.lst upd_same (ha.same (same_new hl)))⟩
theorem o_sum {ns : List Int} : OpN K (rSum K) [.list (ns.map .int)] (.int ns.sum) := fun xs H Q h1 k => by
  cases h1 with
  | cons h1 hn =>
    cases hn
    cases h1 with
    | lst hp ha =>
      have := Dq.ints_eq ha
      subst this
      exact ⟨_, ns, rfl, SqL.of hp, k _ H (Same.refl H) (.int _)⟩
theorem o_all {bs : List Bool} : OpN K (rAll K) [.list (bs.map .bool)] (.bool (bs.all id)) := fun xs H Q h1 k => by
  cases h1 with
  | cons h1 hn =>
    cases hn
    cases h1 with
    | lst hp ha =>
      have := Dq.bls_eq ha
      subst this
      exact ⟨_, bs, rfl, SqL.of hp, k _ H (Same.refl H) (.bl _)⟩
theorem o_any {bs : List Bool} : OpN K (rAny K) [.list (bs.map .bool)] (.bool (bs.any id)) := fun xs H Q h1 k => by
  cases h1 with
  | cons h1 hn =>
    cases hn
    cases h1 with
    | lst hp ha =>
      have := Dq.bls_eq ha
      subst this
      exact ⟨_, bs, rfl, SqL.of hp, k _ H (Same.refl H) (.bl _)⟩
theorem o_max {n : Int} {ns : List Int} : OpN K (rMax K) [.list ((n :: ns).map .int)] (.int (mxL n ns)) := fun xs H Q h1 k => by
  cases h1 with
  | cons h1 hn =>
    cases hn
    cases h1 with
    | lst hp ha =>
      have := Dq.ints_eq ha
      subst this
      exact ⟨_, n :: ns, rfl, SqL.of hp, by simp, fun m h1 h2 => by rw [mxL_eq h1 h2]; exact k _ H (Same.refl H) (.int _)⟩
theorem o_abs : OpN K (fun xs H Q => ∃ i, xs = [.int i] ∧ Q (.int (if i < 0 then -i else i)) H) [.int i] (.int (if i < 0 then -i else i)) := fun xs H Q h1 k => by
  cases h1 with
  | cons h1 hn =>
    cases hn
    cases h1
    exact ⟨i, rfl, k _ H (Same.refl H) (.int _)⟩
end
theorem kmax {X : Cx} (K : PySem.W.Frag) (hK : X.K = K := by rfl) (hc : X.calm = true := by rfl) : CallR X (.builtin "max") (rMax K) := by subst hK; exact cr_max hc
/-! max(.., default=) -/
def rMaxDef (K : PySem.W.Frag) : List V → List V → Hp → VK → Prop := fun vs zs H Q => ∃ (a : Addr) (ns : List Int) (i : Int), vs = [V.ref a] ∧ zs = [V.int i] ∧ SqL K H a (ns.map V.int) ∧ Q (.int (mxD i ns)) H
theorem maxOf_mxL : ∀ (x : Int) (ys : List Int), PySem.W.maxOf x ys = mxL x ys
  | x, [] => rfl
  | x, y :: ys => by
    have h : PySem.W.maxOf x (y :: ys) = PySem.W.maxOf (if decide (x < y) = true then y else x) ys := rfl
    rw [h, maxOf_mxL]
    unfold mxL
    by_cases z : y > x
    · rw [if_pos z, if_pos (by simpa using z)]
      cases ys <;> rfl
    · rw [if_neg z, if_neg (by simpa using z)]
      cases ys <;> rfl
theorem cr_maxDef {X : Cx} (K : PySem.W.Frag) (hu : X.A.units + 64 < cLine) (hK : X.K = K := by rfl) (hc : X.calm = true := by rfl) : CallRK X (.builtin "max") [Str.ofString "default"] (rMaxDef K) := by
  subst hK
  intro pins s σ H xs zs us ws Q I r rz h
  obtain ⟨a, ns, i, rfl, rfl, hs, q⟩ := h
  obtain ⟨its, rv, hl, _⟩ := I.list hs
  rw [Vals.ref1 r]
  cases rz with
  | cons r1 rn =>
    cases rn
    obtain ⟨t, rfl⟩ := r1
    have hi := rv.ints
    refine PySem.W.max_list_datum_default (xs := ns) (I.ok.hd hc) hl.isList (PySem.W.HoldAll.of_ints (by simpa using hi)) (by show _ + 1 + 0 < cLine; omega) (fun e h' tk k => ?_) (fun y ys j v h' tk e hj hv k => ?_)
    · subst e
      exact ⟨.int i, H, I.kept k, ⟨_, rfl⟩, q⟩
    · subst e
      obtain ⟨as, hr⟩ := hv
      rw [maxOf_mxL] at hr
      have hr' : PySem.Reads h' v (.int (mxL y ys)) as := hr
      cases hr'
      exact ⟨.int _, H, I.kept k, ⟨_, rfl⟩, q⟩
section
variable {K : PySem.W.Frag} {X : Cx} {n : Nat} {Γ Δ : List (Nat × PyData)} {e a b c : Expr} {es : List Expr} {d da db dc : PyData} {ds : List PyData} {pos p : Pos}
theorem pd_maxDef {a : Expr} {i : Int} {ns : List Int} {kp p pos : Pos} (hu : X.A.units + 64 < cLine) (ha : PD K X n Γ e (.list (ns.map .int))) (hk : PD K X n Γ a (.int i)) (hg : Gl X "max") (hm : X.mg "max" = none) (hc : X.calm = true := by rfl) (hv : bootBuiltins "max" = some (.builtin "max") := by decide +kernel)
    (hs : starEach [e] X.env = (false, eval e X.env) :: starEach [] X.env := by rfl)
    (he : backTo pos (starEach [e] X.env) = (false, eval e X.env) :: backTo pos (starEach [] X.env) := by rfl) (hpl : (backTo pos (starEach [e] X.env)).any (·.1) = false := by rfl)
    (hall : (backToKw pos (keywordEach [⟨some (Str.ofString "default"), a, kp⟩] X.env)).all (·.1.isSome) = true := by rfl) (hnone : (backToKw pos (keywordEach [⟨some (Str.ofString "default"), a, kp⟩] X.env)).any (·.1.isNone) = false := by rfl) (hks : (backToKw pos (keywordEach [⟨some (Str.ofString "default"), a, kp⟩] X.env)).filterMap (·.1) = [Str.ofString "default"] := by rfl) :
    PD K X n Γ (.Call (.Name "max" p) [e] [⟨some (Str.ofString "default"), a, kp⟩] pos) (.int (mxD i ns)) :=
  .of (pe_callBK (cr_maxDef K hu ha.hK hc) hg hm hv (pa_cons ha.pe pa_nil hs) (pk_cons hk.pe pk_nil) (by decide) (by decide) he hpl hall hnone hks) (fun σ H Q g k => ⟨g, fun v H1 s1 q1 => ⟨g.same s1, fun w H2 s2 q2 => by
    cases q2
    cases q1 with
    | lst hp hx =>
      have := Dq.ints_eq hx
      subst this
      exact ⟨_, ns, i, rfl, rfl, SqL.of (s2 _ _ hp), k _ H2 (s1.trans s2) (.int _)⟩⟩⟩) ha.hK
end
end Nk
set_option Elab.async false
set_option linter.all false
set_option maxRecDepth 100000
set_option maxHeartbeats 4000000
namespace Nk
open PySem L2

/-! calls of defs that tell data of data -/
def spP (K : PySem.W.Frag) {α : Type} (enc : α → List PyData) (P : α → Prop) (out : α → PyData) : Sp := fun vs H Q _ => ∃ a, P a ∧ DqAll K H vs (enc a) ∧ ∀ v H', Same H H' → Dq K H' v (out a) → Q v H'
section
variable {K : PySem.W.Frag} {X : Cx} {n : Nat} {Γ Δ : List (Nat × PyData)} {e a b c : Expr} {es : List Expr} {d da db dc : PyData} {ds : List PyData} {pos p : Pos}
theorem pd_call {α : Type} {enc : α → List PyData} {P : α → Prop} {out : α → PyData} {x : Str} {k : Nat} {ps : List Str} (D : Dk X.prog X.w X.K X.mg X.base k x ps (spP K enc P out)) (hr : Room k X.A) (z : α) (hp : P z) (ha : PDs K X n Γ (e :: es) ds) (hd : ds = enc z := by rfl) (ho : out z = d := by rfl) (hK : X.K = K := by rfl) (hg : Gl X x := by rfl) (hdb : (x == ("__debug__" : Str)) = false := by decide)
    (he : starEach (e :: es) X.env = (false, eval e X.env) :: starEach es X.env := by rfl) (hpl : (backTo pos (starEach es X.env)).any (·.1) = false := by rfl) : PD K X n Γ (.Call (.Name x p) (e :: es) [] pos) d :=
  ho ▸ .of (pe_dk D hr ha.pa hg hdb he hpl) (fun σ H Q g q => ⟨g, fun vs H1 s1 h1 => ⟨z, hp, by rw [List.append_nil, ← hd]; exact h1, fun v H' s2 h2 => q v H' (s1.trans s2) h2⟩⟩) hK

/-! walks: each turn gives the next of the data -/
def YD (K : PySem.W.Frag) (ds : List PyData) : Nat → Hp → V → Hp → Prop := fun i H x H' => Same H H' ∧ ∃ d, ds[i]? = some d ∧ Dq K H' x d
structure PWk (K : PySem.W.Frag) (X : Cx) (n : Nat) (Γ : List (Nat × PyData)) (tg it : Expr) (ds : List PyData) : Prop where
  hK : X.K = K
  pi : PI X tg it (fun σ H R => Env K n Γ σ H ∧ ∀ J H1, Same H H1 → Walk J ds.length (Same H1) (YD K ds) → R J H1)
theorem pi_imp {X : Cx} {tg it : Expr} {t t' : TI} (h : PI X tg it t) (i : ∀ σ H R, t' σ H R → t σ H R) : PI X tg it t' := ⟨fun pins s σ H R I q => h.run pins s σ H R I (i σ H R q)⟩
theorem walk_tupD {H1 : Hp} {p : Addr} {vs : List V} (hp : H1 p = some (.tup vs)) (ha : DqAll K H1 vs ds) : Walk (Itt K p) ds.length (Same H1) (YD K ds) := by
  rw [← ha.length]
  refine (walk_tup (K := K) (a := p) (xs := vs)).mono (fun H s => SqT.of (s _ _ hp)) fun i H x H' hi s y => ?_
  obtain ⟨rfl, hx⟩ := y
  obtain ⟨d, h1, h2⟩ := ha.get hx
  exact ⟨Same.refl _, d, h1, h2.same s⟩
theorem walk_lstD {H1 : Hp} {p : Addr} {vs : List V} (hp : H1 p = some (.lst vs)) (ha : DqAll K H1 vs ds) : Walk (Itl K p) ds.length (Same H1) (YD K ds) := by
  rw [← ha.length]
  refine (walk_list (K := K) (a := p) (xs := vs)).mono (fun H s => SqL.of (s _ _ hp)) fun i H x H' hi s y => ?_
  obtain ⟨rfl, hx⟩ := y
  obtain ⟨d, h1, h2⟩ := ha.get hx
  exact ⟨Same.refl _, d, h1, h2.same s⟩
theorem wk_tup {tg : Expr} (h : PD K X n Γ a (.tuple ds)) : PWk K X n Γ tg a ds :=
  ⟨h.hK, pi_imp (kpiT K h.pe h.hK) fun σ H R q => ⟨q.1, fun v H1 s1 z => by
    cases z with
    | tup hp ha => exact ⟨_, rfl, ⟨_, SqT.of hp⟩, q.2 _ H1 s1 (walk_tupD hp ha)⟩⟩⟩
theorem wk_lst {tg : Expr} (h : PD K X n Γ a (.list ds)) : PWk K X n Γ tg a ds :=
  ⟨h.hK, pi_imp (kpiL K h.pe h.hK) fun σ H R q => ⟨q.1, fun v H1 s1 z => by
    cases z with
    | lst hp ha => exact ⟨_, rfl, ⟨_, SqL.of hp⟩, q.2 _ H1 s1 (walk_lstD hp ha)⟩⟩⟩
def rgD (lo : Int) (m : Nat) : List PyData := (List.range m).map fun (k : Nat) => .int (lo + (k : Int))
theorem rgD_length (lo : Int) (m : Nat) : (rgD lo m).length = m := by unfold rgD; rw [List.length_map, List.length_range]
theorem rgD_get {lo : Int} {m i : Nat} (h : i < m) : (rgD lo m)[i]? = some (.int (lo + i)) := by
  unfold rgD
  rw [List.getElem?_map, List.getElem?_range h]
  rfl
theorem walk_rg {H1 : Hp} {lo : Int} {m : Nat} : Walk (Itr lo m) (rgD lo m).length (Same H1) (YD K (rgD lo m)) := by
  rw [rgD_length]
  refine walk_range.mono (fun _ _ => trivial) fun i H x H' hi s y => ?_
  obtain ⟨rfl, rfl⟩ := y
  exact ⟨Same.refl _, _, rgD_get hi, .int _⟩
theorem wk_range {tg : Expr} {i : Int} (h : PD K X n Γ a (.int i)) (h1 : i < 2 ^ 62) (h0 : -(2 ^ 62) ≤ i) (hg : Gl X "range") (hm : X.mg "range" = none) (hs : starEach [a] X.env = [(false, eval a X.env)] := by rfl) : PWk K X n Γ tg (.Call (.Name "range" p) [a] [] pos) (rgD 0 i.toNat) :=
  ⟨h.hK, pi_imp (pi_range1 hg hm (pa_cons h.pe pa_nil hs) hs) fun σ H R q => ⟨q.1, fun v H1 s1 z => by
    cases z
    exact ⟨i, rfl, h0, h1, q.2 _ H1 s1 walk_rg⟩⟩⟩
theorem wk_range2 {tg : Expr} {i j : Int} (h : PD K X n Γ a (.int i)) (g : PD K X n Γ b (.int j)) (hb : -(2 ^ 62) ≤ i ∧ i < 2 ^ 62 ∧ -(2 ^ 62) ≤ j ∧ j < 2 ^ 62) (hg : Gl X "range") (hm : X.mg "range" = none) (hs : starEach [a, b] X.env = [(false, eval a X.env), (false, eval b X.env)] := by rfl) (hs2 : starEach [b] X.env = [(false, eval b X.env)] := by rfl) :
    PWk K X n Γ tg (.Call (.Name "range" p) [a, b] [] pos) (rgD i (j - i).toNat) :=
  ⟨h.hK, pi_imp (pi_range2 hg hm (pa_cons h.pe (pa_cons g.pe pa_nil hs2) (by rw [hs, hs2])) hs hs2) fun σ H R q => ⟨q.1, fun v H1 s1 z => ⟨q.1.same s1, fun w H2 s2 z2 => by
    cases z
    cases z2
    exact ⟨i, j, rfl, hb, q.2 _ H2 (s1.trans s2) walk_rg⟩⟩⟩⟩
def zipD (s t : List PyData) : List PyData := (s.zip t).map fun p => .tuple [p.1, p.2]
theorem zipD_length (s t : List PyData) : (zipD s t).length = min s.length t.length := by unfold zipD; rw [List.length_map, List.length_zip]
theorem zipD_get {s t : List PyData} {i : Nat} {x y : PyData} (h : s[i]? = some x) (g : t[i]? = some y) : (zipD s t)[i]? = some (.tuple [x, y]) := by
  unfold zipD
  rw [List.getElem?_map, (List.getElem?_zip_eq_some (z := (x, y))).mpr ⟨h, g⟩]
  rfl
theorem walk_zipT {m : Nat} {p q : Addr} {xs ys : List V} (hn : m = min xs.length ys.length) : Walk (RZ.ItzT K p q) m (fun H => SqT K H p xs ∧ SqT K H q ys) (YPair (fun i => xs[i]?) (fun i => ys[i]?)) := by
  subst hn
  refine ⟨fun i _ hi q => ?_, fun _ q => ⟨xs, ys, q.1, q.2, by omega⟩, fun i H v H' _ q y => ?_⟩
  · have h1 : i < xs.length := by omega
    have h2 : i < ys.length := by omega
    exact ⟨xs, ys, xs[i], ys[i], q.1, q.2, by simp [h1], by simp [h2]⟩
  · obtain ⟨T, x, z, h1, h2, h3, h4, h5⟩ := y
    exact ⟨T, x, z, h1, h2, h3, h4 xs q.1, h5 ys q.2⟩
theorem wk_zipT {elts : List Expr} {kk : Nat} {tpos : Pos} {s t : List PyData} (h : PD K X n Γ a (.tuple s)) (g : PD K X n Γ b (.tuple t)) (hg : Gl X "zip") (hm : X.mg "zip" = none)
    (hs : starEach [a, b] X.env = (false, eval a X.env) :: starEach [b] X.env := by rfl) (hs2 : starEach [b] X.env = (false, eval b X.env) :: starEach [] X.env := by rfl) (hpl : (backTo pos (starEach [b] X.env)).any (·.1) = false := by rfl) :
    PWk K X n Γ (.Tuple elts kk tpos) (.Call (.Name "zip" p) [a, b] [] pos) (zipD s t) := by
  have hK := h.hK
  refine ⟨hK, pi_imp (RZ.pi_zipA hg hm (pa_cons h.pe (pa_cons g.pe pa_nil hs2) hs) hs hpl) fun σ H R q => ⟨q.1, fun v H1 s1 z => ⟨q.1.same s1, fun w H2 s2 z2 => ?_⟩⟩⟩
  subst hK
  cases z with
  | tup hp ha =>
    cases z2 with
    | tup hq hb =>
      have ha := ha.same s2
      have hp := s2 _ _ hp
      refine ⟨_, _, _, _, rfl, .inr ⟨SqT.of hp, SqT.of hq, q.2 _ H2 (s1.trans s2) ?_⟩⟩
      rw [zipD_length, ← ha.length, ← hb.length]
      refine (walk_zipT rfl).mono (fun H s => ⟨SqT.of (s _ _ hp), SqT.of (s _ _ hq)⟩) fun i H v H' hi s y => ?_
      obtain ⟨T, x, y, rfl, hT, rfl, e1, e2⟩ := y
      obtain ⟨d1, g1, f1⟩ := ha.get e1
      obtain ⟨d2, g2, f2⟩ := hb.get e2
      have sT : Same H (upd H T (.tup [x, y])) := same_new hT
      exact ⟨sT, _, zipD_get g1 g2, .tup upd_same (.cons ((f1.same s).same sT) (.cons ((f2.same s).same sT) .nil))⟩
theorem wk_zipL {elts : List Expr} {kk : Nat} {tpos : Pos} {s t : List PyData} (h : PD K X n Γ a (.list s)) (g : PD K X n Γ b (.list t)) (hg : Gl X "zip") (hm : X.mg "zip" = none)
    (hs : starEach [a, b] X.env = (false, eval a X.env) :: starEach [b] X.env := by rfl) (hs2 : starEach [b] X.env = (false, eval b X.env) :: starEach [] X.env := by rfl) (hpl : (backTo pos (starEach [b] X.env)).any (·.1) = false := by rfl) :
    PWk K X n Γ (.Tuple elts kk tpos) (.Call (.Name "zip" p) [a, b] [] pos) (zipD s t) := by
  have hK := h.hK
  refine ⟨hK, pi_imp (RZ.pi_zipA hg hm (pa_cons h.pe (pa_cons g.pe pa_nil hs2) hs) hs hpl) fun σ H R q => ⟨q.1, fun v H1 s1 z => ⟨q.1.same s1, fun w H2 s2 z2 => ?_⟩⟩⟩
  subst hK
  cases z with
  | lst hp ha =>
    cases z2 with
    | lst hq hb =>
      have ha := ha.same s2
      have hp := s2 _ _ hp
      refine ⟨_, _, _, _, rfl, .inl ⟨SqL.of hp, SqL.of hq, q.2 _ H2 (s1.trans s2) ?_⟩⟩
      rw [zipD_length, ← ha.length, ← hb.length]
      refine (walk_zip rfl).mono (fun H s => ⟨SqL.of (s _ _ hp), SqL.of (s _ _ hq)⟩) fun i H v H' hi s y => ?_
      obtain ⟨T, x, y, rfl, hT, rfl, e1, e2⟩ := y
      obtain ⟨d1, g1, f1⟩ := ha.get e1
      obtain ⟨d2, g2, f2⟩ := hb.get e2
      have sT : Same H (upd H T (.tup [x, y])) := same_new hT
      exact ⟨sT, _, zipD_get g1 g2, .tup upd_same (.cons ((f1.same s).same sT) (.cons ((f2.same s).same sT) .nil))⟩
def enumD (s : List PyData) : List PyData := s.zipIdx.map fun p => .tuple [.int (p.2 : Nat), p.1]
theorem enumD_length (s : List PyData) : (enumD s).length = s.length := by unfold enumD; rw [List.length_map, List.length_zipIdx]
theorem wk_enumT {elts : List Expr} {kk : Nat} {tpos : Pos} {s : List PyData} (h : PD K X n Γ a (.tuple s)) (hg : Gl X "enumerate") (hm : X.mg "enumerate" = none) (hs : starEach [a] X.env = [(false, eval a X.env)] := by rfl) :
    PWk K X n Γ (.Tuple elts kk tpos) (.Call (.Name "enumerate" p) [a] [] pos) (enumD s) :=
  ⟨h.hK, pi_imp (pi_enumT hg hm (pa_cons h.pe pa_nil hs) hs h.hK) fun σ H R q => ⟨q.1, fun v H1 s1 z => by
    cases z with
    | tup hp ha =>
      refine ⟨_, _, rfl, SqT.of hp, q.2 _ H1 s1 ?_⟩
      rw [enumD_length, ← ha.length]
      refine walk_enT.mono (fun H s => SqT.of (s _ _ hp)) fun i H v H' hi s y => ?_
      obtain ⟨T, x, y, rfl, hT, rfl, e1, e2⟩ := y
      cases e1
      obtain ⟨d2, g2, f2⟩ := ha.get e2
      have sT : Same H (upd H T (.tup [.int (i : Nat), y])) := same_new hT
      refine ⟨sT, _, ?_, .tup upd_same (.cons (.int _) (.cons ((f2.same s).same sT) .nil))⟩
      unfold enumD
      rw [List.getElem?_map, List.getElem?_zipIdx, g2]
      simp⟩⟩

/-! targets -/
/-- x = data: the slots vs hold Δ -/
structure Tg (K : PySem.W.Frag) (n : Nat) (g : TG) (vs : List Nat) (d : PyData) (Δ : List (Nat × PyData)) : Prop where
  run : ∀ (x : V) (σ : St) (H : Hp) (Q : St → Hp → Prop), σ.length = n → Dq K H x d → (∀ σ2, wipe σ2 vs = wipe σ vs → σ2.length = n → (∀ j, vs.contains j = false → σ2[j]? = σ[j]?) → EnvL K Δ σ2 H → Q σ2 H) → g x σ H Q
theorem wipe_set1 {σ : St} {i : Nat} {v : Option V} : wipe (σ.set i v) [i] = wipe σ [i] := by simp [wipe]
theorem tg1 {i : Nat} (hi : i < n) : Tg K n (gName i) [i] d [(i, d)] :=
  ⟨fun x σ H Q hl hd k => k _ wipe_set1 (by rw [List.length_set]; exact hl) (fun j hj => by
    have : i ≠ j := fun e => by subst e; simp at hj
    rw [List.getElem?_set_ne this]) ⟨⟨x, by rw [List.getElem?_set_self (by omega)], hd⟩, trivial⟩⟩
theorem wipe_set2 {σ : St} {i j : Nat} {v w : Option V} : wipe ((σ.set i v).set j w) [i, j] = wipe σ [i, j] := by
  unfold wipe wipe wipe
  apply List.ext_getElem?
  intro k
  by_cases h1 : i = k
  · subst h1
    by_cases h2 : j = i
    · subst h2; simp
    · by_cases z : i < σ.length
      · rw [List.getElem?_set_self (by simpa using z), List.getElem?_set_self (by simpa using z)]
      · rw [List.getElem?_eq_none (by simpa using z), List.getElem?_eq_none (by simpa using z)]
  · rw [List.getElem?_set_ne h1, List.getElem?_set_ne h1]
    by_cases h2 : j = k
    · subst h2
      by_cases z : j < σ.length
      · rw [List.getElem?_set_self (by simpa using z), List.getElem?_set_self (by simpa using z)]
      · rw [List.getElem?_eq_none (by simpa using z), List.getElem?_eq_none (by simpa using z)]
    · rw [List.getElem?_set_ne h2, List.getElem?_set_ne h2, List.getElem?_set_ne h2, List.getElem?_set_ne h1]
theorem tg2 {i j : Nat} (hi : i < n) (hj : j < n) (hij : i ≠ j) : Tg K n (gTup K 2 (gCons (gName i) (gCons (gName j) gNil))) [i, j] (.tuple [da, db]) [(i, da), (j, db)] := by
  refine ⟨fun x σ H Q hl hd k => ?_⟩
  cases hd with
  | tup hp ha =>
    cases ha with
    | cons h1 h2 =>
      cases h2 with
      | cons h2 h3 =>
        cases h3
        refine ⟨_, _, rfl, SqT.of hp, rfl, _, _, rfl, _, _, rfl, rfl, k _ wipe_set2 (by rw [List.length_set, List.length_set]; exact hl) (fun m hm => ?_) ⟨⟨_, ?_, h1⟩, ⟨_, ?_, h2⟩, trivial⟩⟩
        · have a1 : i ≠ m := fun e => by subst e; simp at hm
          have a2 : j ≠ m := fun e => by subst e; simp at hm
          rw [List.getElem?_set_ne a2, List.getElem?_set_ne a1]
        · rw [List.getElem?_set_ne hij.symm, List.getElem?_set_self (by omega)]
        · rw [List.getElem?_set_self (by rw [List.length_set]; omega)]

/-! comprehensions -/
mutual
theorem Dq.putN {H : Hp} {C : Addr} {xs : List V} {o : HO} (hC : H C = some (.lst xs)) : ∀ {v : V} {d : PyData}, noL d = true → Dq K H v d → Dq K (upd H C o) v d
  | _, _, _, .non => .non
  | _, _, _, .bl b => .bl b
  | _, _, _, .int i => .int i
  | _, _, _, .str x => .str x
  | _, _, c, .lst _ _ => by simp [noL] at c
  | _, _, c, .tup h t => .tup (by rw [upd_ne (ne_of h hC (by intro z; cases z))]; exact h) (DqAll.putN hC (by simpa [noL] using c) t)
  | _, _, _, .dnil h => .dnil (by rw [upd_ne (ne_of h hC (by intro z; cases z))]; exact h)
theorem DqAll.putN {H : Hp} {C : Addr} {xs : List V} {o : HO} (hC : H C = some (.lst xs)) : ∀ {vs : List V} {ds : List PyData}, noLs ds = true → DqAll K H vs ds → DqAll K (upd H C o) vs ds
  | _, _, _, .nil => .nil
  | _, _, c, .cons h t => by
    have c' := by simpa [noLs] using c
    exact .cons (Dq.putN hC c'.1 h) (DqAll.putN hC c'.2 t)
end
theorem noLs_all : ∀ {ds : List PyData}, (∀ d ∈ ds, noL d = true) → noLs ds = true
  | [], _ => by simp [noLs]
  | d :: ds, h => by simp [noLs, h d List.mem_cons_self, noLs_all fun x hx => h x (List.mem_cons_of_mem _ hx)]
theorem noLs_mem : ∀ {ds : List PyData} {d : PyData}, noLs ds = true → d ∈ ds → noL d = true
  | d :: ds, x, h, m => by
    have h' : noL d = true ∧ noLs ds = true := by simpa [noLs] using h
    rcases List.mem_cons.mp m with rfl | m
    · exact h'.1
    · exact noLs_mem h'.2 m
theorem wipe_in {τ : St} {j : Nat} : ∀ {l : List Nat}, l.contains j = true → (wipe τ l)[j]? = if j < τ.length then some none else none
  | [], h => by simp at h
  | v :: l, h => by
    unfold wipe
    by_cases e : v = j
    · subst e
      by_cases z : v < τ.length
      · rw [List.getElem?_set_self (by rw [wipe_length]; exact z), if_pos z]
      · rw [List.getElem?_eq_none (by rw [List.length_set, wipe_length]; omega), if_neg z]
    · rw [List.getElem?_set_ne e]
      refine wipe_in ?_
      rw [List.contains_cons] at h
      have : (j == v) = false := by simpa using fun q => e q.symm
      rw [this, Bool.false_or] at h
      exact h
theorem wipe_wipe (σ : St) (l : List Nat) : wipe (wipe σ l) l = wipe σ l := by
  apply List.ext_getElem?
  intro j
  by_cases hj : l.contains j = true
  · rw [wipe_in hj, wipe_in hj, wipe_length]
  · rw [wipe_get (by simpa using hj)]
theorem filter_take_succ {α : Type} (p : α → Bool) {l : List α} {i : Nat} {x : α} (h : l[i]? = some x) : (l.take (i + 1)).filter p = (l.take i).filter p ++ if p x then [x] else [] := by
  rw [List.take_add_one, h, List.filter_append]
  simp [List.filter_cons]
def ttEx (K : PySem.W.Frag) (n : Nat) (Γ : List (Nat × PyData)) {α : Type} (xs : List α) (Δ : α → List (Nat × PyData)) (keep : α → Bool) : TT := fun σ H Q => ∃ x, x ∈ xs ∧ tDb K n (Δ x ++ Γ) (keep x) σ H Q
def teEx (K : PySem.W.Frag) (n : Nat) (Γ : List (Nat × PyData)) {α : Type} (xs : List α) (Δ : α → List (Nat × PyData)) (keep : α → Bool) (out : α → PyData) : TE := fun σ H Q => ∃ x, (x ∈ xs ∧ keep x = true) ∧ tD K n (Δ x ++ Γ) (out x) σ H Q
/-- [e for x in xs if t], the items noL data -/
theorem pd_lcF {α : Type} {xs : List α} {enc : α → PyData} {out : α → PyData} {Δ : α → List (Nat × PyData)} {keep : α → Bool} {elt tg it : Expr} {ifs : List Expr} {scope : Scope} {own : List (Str × Nat)} {g : TG}
    (hc : X.calm = true) (nd : X.N.Nodup) (hi : PWk K X n Γ tg it (xs.map enc)) (ok : BlkOk X.N X.env.scope scope own) (hg : ∀ (s : Shared) (H : Hp) (C : Addr) (cl : List (Str × Addr)) (fp : List Addr), PG (X.blk s H scope (compEnvC scope cl C X.env) fp) tg g)
    (htg : ∀ x ∈ xs, Tg K n g (own.map (·.2)) (enc x) (Δ x)) (hoff : offK Γ (own.map (·.2)) = true)
    (ht : ∀ x ∈ xs, ∀ (s : Shared) (H : Hp) (C : Addr) (cl : List (Str × Addr)) (fp : List Addr), PTs (X.blk s H scope (compEnvC scope cl C X.env) fp) ifs (tDb K n (Δ x ++ Γ) (keep x)))
    (he : ∀ x ∈ xs, keep x = true → ∀ (s : Shared) (H : Hp) (C : Addr) (cl : List (Str × Addr)) (fp : List Addr), PE (X.blk s H scope (compEnvC scope cl C X.env) fp) elt (tD K n (Δ x ++ Γ) (out x)))
    (hno : ∀ x ∈ xs, noL (out x) = true) (hl : xs.length ≤ 100000) (hs : ∀ x, foldedSetIterable it X.env x = pure x := by intro _; rfl) :
    PD K X n Γ (.ListComp elt [⟨tg, it, ifs, 0⟩] scope pos) (.list ((xs.filter keep).map out)) := by
  have hK := hi.hK
  refine .of (pe_lc (wi := _) (g := g) (tt := ttEx K n Γ xs Δ keep) (te := teEx K n Γ xs Δ keep out) hc nd hi.pi ok hg
    (fun s H C cl fp => ⟨fun pins s' σ H' Q I ⟨x, hx, q⟩ => (ht x hx s H C cl fp).run pins s' σ H' Q I q⟩) (fun s H C cl fp => ⟨fun pins s' σ H' Q I ⟨x, hx, q⟩ => (he x hx.1 hx.2 s H C cl fp).run pins s' σ H' Q I q⟩) hs) (fun σ H Q gE k => ?_) hK
  refine ⟨gE, fun J H1 s1 w => fun C hC => ?_⟩
  refine lc_it (g := g) (tt := ttEx K n Γ xs Δ keep) (te := teEx K n Γ xs Δ keep out) (vs := own.map (·.2)) (σ := σ) (Qd := fun H => Q (.ref C) H) w (fun i H' => Same H1 H' ∧ ∃ vs, H' C = some (.lst vs) ∧ DqAll K H' vs (((xs.take i).filter keep).map out)) ⟨same_new hC, [], upd_same, by simpa using DqAll.nil⟩ (fun i H' _ h => h.1) ?_ ?_
  · rintro i x H2 H3 hi2 ⟨s2, vs, eC, hv⟩ ⟨s3, d, hd, qd⟩
    rw [List.length_map] at hi2
    rw [List.getElem?_map, List.getElem?_eq_getElem hi2] at hd
    have hd : enc xs[i] = d := Option.some.inj hd
    subst hd
    have hm := List.getElem_mem hi2
    refine (htg _ hm).run x _ H3 _ (by rw [wipe_length]; exact gE.1) qd fun σ2 w2 l2 o2 e2 => ⟨?_, xs[i], hm, ⟨l2, ?_⟩, fun H4 s4 => ?_⟩
    · rw [w2]
      exact wipe_wipe _ _
    · refine EnvL.append e2 ?_
      have g1 : EnvL K Γ (wipe σ (own.map (·.2))) H3 := EnvL.off (fun j hj => wipe_get hj) hoff (gE.2.same ((s1.trans s2).trans s3))
      exact EnvL.off o2 hoff g1
    · have hx : xs[i]? = some xs[i] := List.getElem?_eq_getElem hi2
      cases hk : keep xs[i] with
      | false =>
        refine iteF ⟨(s2.trans s3).trans s4, vs, (s3.trans s4) _ _ eC, ?_⟩
        rw [filter_take_succ keep hx, hk, if_neg Bool.false_ne_true, List.append_nil]
        exact hv.same (s3.trans s4)
      | true =>
        refine iteT ⟨xs[i], ⟨hm, hk⟩, ⟨l2, ?_⟩, fun v H5 s5 q5 => ?_⟩
        · have g1 : EnvL K Γ (wipe σ (own.map (·.2))) H3 := EnvL.off (fun j hj => wipe_get hj) hoff (gE.2.same ((s1.trans s2).trans s3))
          exact (EnvL.append e2 (EnvL.off o2 hoff g1)).same s4
        · have s25 := (s3.trans s4).trans s5
          have eC5 := s25 _ _ eC
          have hv5 := hv.same s25
          have hlen : vs.length ≤ 100000 := by
            rw [hv.length, List.length_map]
            refine Nat.le_trans (List.length_filter_le _ _) ?_
            rw [List.length_take]
            omega
          refine ⟨vs, eC5, Nat.lt_of_le_of_lt hlen (by show 100000 < sizeLine; decide), fun b o e => ?_, vs ++ [v], upd_same, ?_⟩
          · rw [upd_ne (fun z => by subst z; rw [hC] at e; cases e)]
            exact s25 _ _ (s2 _ _ e)
          · rw [filter_take_succ keep hx, hk, if_pos rfl, List.map_append]
            refine DqAll.putN eC5 (noLs_all fun d hd => ?_) (hv5.append (.cons q5 .nil))
            rcases List.mem_append.mp hd with hd | hd
            · obtain ⟨x, hx1, rfl⟩ := List.mem_map.mp hd
              exact hno x (List.mem_of_mem_take ((List.mem_filter.mp hx1).1))
            · have : d = out xs[i] := by simpa using hd
              subst this
              exact hno _ hm
  · rintro H2 ⟨s2, vs, eC, hv⟩
    rw [List.length_map, List.take_length] at hv
    exact k _ H2 (s1.trans s2) (.lst eC hv)
theorem filter_yes {α : Type} (xs : List α) : xs.filter (fun _ => true) = xs := by simp
/-- [e for x in xs] -/
theorem pd_lc {α : Type} {xs : List α} {enc : α → PyData} {out : α → PyData} {Δ : α → List (Nat × PyData)} {elt tg it : Expr} {scope : Scope} {own : List (Str × Nat)} {g : TG}
    (hc : X.calm = true) (nd : X.N.Nodup) (hi : PWk K X n Γ tg it (xs.map enc)) (ok : BlkOk X.N X.env.scope scope own) (hg : ∀ (s : Shared) (H : Hp) (C : Addr) (cl : List (Str × Addr)) (fp : List Addr), PG (X.blk s H scope (compEnvC scope cl C X.env) fp) tg g)
    (htg : ∀ x ∈ xs, Tg K n g (own.map (·.2)) (enc x) (Δ x)) (hoff : offK Γ (own.map (·.2)) = true)
    (he : ∀ x ∈ xs, ∀ (s : Shared) (H : Hp) (C : Addr) (cl : List (Str × Addr)) (fp : List Addr), PD K (X.blk s H scope (compEnvC scope cl C X.env) fp) n (Δ x ++ Γ) elt (out x))
    (hno : ∀ x ∈ xs, noL (out x) = true) (hl : xs.length ≤ 100000) (hs : ∀ x, foldedSetIterable it X.env x = pure x := by intro _; rfl) :
    PD K X n Γ (.ListComp elt [⟨tg, it, [], 0⟩] scope pos) (.list (xs.map out)) := by
  have := pd_lcF (keep := fun _ => true) (pos := pos) hc nd hi ok hg htg hoff (fun x hx s H C cl fp => ⟨fun pins s' σ H' Q I q => pts_nil.run pins s' σ H' Q I (q.2 H' (Same.refl H'))⟩) (fun x hx _ s H C cl fp => (he x hx s H C cl fp).pe) hno hl hs
  rw [filter_yes] at this
  exact this
end
end Nk
set_option Elab.async false
set_option linter.all false
set_option maxRecDepth 100000
set_option maxHeartbeats 4000000
namespace Nk
open PySem L2

/-! statements -/
/-- tuples stay -/
def TupS (H H' : Hp) : Prop := ∀ b xs, H b = some (.tup xs) → H' b = some (.tup xs)
theorem TupS.refl (H : Hp) : TupS H H := fun _ _ h => h
theorem TupS.trans {H H' H'' : Hp} (a : TupS H H') (b : TupS H' H'') : TupS H H'' := fun _ _ h => b _ _ (a _ _ h)
theorem Same.ts {H H' : Hp} (a : Same H H') : TupS H H' := fun _ _ h => a _ _ h
theorem TupS.upd {H : Hp} {C : Addr} {xs : List V} {o : HO} (hC : H C = some (.lst xs)) : TupS H (upd H C o) := fun b ys h => by
  rw [upd_ne (fun z => by subst z; rw [hC] at h; cases h)]
  exact h
section
variable {K : PySem.W.Frag} {H H' : Hp}
/-! no dict, no list -/
mutual
def noM : PyData → Bool
  | .list _ => false
  | .dict _ => false
  | .tuple xs => noMs xs
  | _ => true
def noMs : List PyData → Bool
  | [] => true
  | x :: xs => noM x && noMs xs
end
mutual
theorem noM_noL : ∀ {d : PyData}, noM d = true → noL d = true
  | .none, _ => rfl
  | .bool _, _ => rfl
  | .int _, _ => rfl
  | .str _, _ => rfl
  | .list _, h => by simp [noM] at h
  | .dict _, h => by simp [noM] at h
  | .tuple xs, h => by
    have : noMs xs = true := by simpa [noM] using h
    simpa [noL] using noMs_noLs this
theorem noMs_noLs : ∀ {ds : List PyData}, noMs ds = true → noLs ds = true
  | [], _ => by simp [noLs]
  | d :: ds, h => by
    have h' : noM d = true ∧ noMs ds = true := by simpa [noMs] using h
    simp [noLs, noM_noL h'.1, noMs_noLs h'.2]
end
mutual
theorem Dq.ts (e : TupS H H') : ∀ {v : V} {d : PyData}, noM d = true → Dq K H v d → Dq K H' v d
  | _, _, _, .non => .non
  | _, _, _, .bl b => .bl b
  | _, _, _, .int i => .int i
  | _, _, _, .str x => .str x
  | _, _, c, .lst _ _ => by simp [noM] at c
  | _, _, c, .tup h t => .tup (e _ _ h) (DqAll.ts e (by simpa [noM] using c) t)
  | _, _, c, .dnil h => by simp [noM] at c
theorem DqAll.ts (e : TupS H H') : ∀ {vs : List V} {ds : List PyData}, noMs ds = true → DqAll K H vs ds → DqAll K H' vs ds
  | _, _, _, .nil => .nil
  | _, _, c, .cons h t => by
    have c' := by simpa [noMs] using c
    exact .cons (Dq.ts e c'.1 h) (DqAll.ts e c'.2 t)
end
theorem noMs_all : ∀ {ds : List PyData}, (∀ d ∈ ds, noM d = true) → noMs ds = true
  | [], _ => by simp [noMs]
  | d :: ds, h => by simp [noMs, h d List.mem_cons_self, noMs_all fun x hx => h x (List.mem_cons_of_mem _ hx)]
theorem noMs_mem : ∀ {ds : List PyData} {d : PyData}, noMs ds = true → d ∈ ds → noM d = true
  | d :: ds, x, h, m => by
    have h' : noM d = true ∧ noMs ds = true := by simpa [noMs] using h
    rcases List.mem_cons.mp m with rfl | m
    · exact h'.1
    · exact noMs_mem h'.2 m
theorem noMs_app : ∀ {ds es : List PyData}, noMs ds = true → noMs es = true → noMs (ds ++ es) = true
  | [], _, _, h => h
  | d :: ds, es, h, g => by
    have h' : noM d = true ∧ noMs ds = true := by simpa [noMs] using h
    show noMs (d :: (ds ++ es)) = true
    simp [noMs, h'.1, noMs_app h'.2 g]
end
/-- what a def's slots hold: its arguments; data of tuples; its own lists -/
structure G3 where
  p : List (Nat × PyData)
  v : List (Nat × PyData)
  o : List (Nat × List PyData)
def G3.all (G : G3) : List (Nat × PyData) := G.v ++ (G.p ++ G.o.map fun q => (q.1, .list q.2))
def OwnL (K : PySem.W.Frag) (H0 : Hp) : List (Nat × List PyData) → St → Hp → Prop
  | [], _, _ => True
  | q :: Ω, σ, H => (∃ a vs, σ[q.1]? = some (some (.ref a)) ∧ H0 a = none ∧ H a = some (.lst vs) ∧ DqAll K H vs q.2 ∧ noMs q.2 = true ∧ ∀ r ∈ Ω, σ[r.1]? ≠ some (some (.ref a))) ∧ OwnL K H0 Ω σ H
structure StE (K : PySem.W.Frag) (n : Nat) (H0 : Hp) (G : G3) (σ : St) (H : Hp) : Prop where
  len : σ.length = n
  old : Same H0 H
  par : EnvL K G.p σ H0
  dat : EnvL K G.v σ H
  nom : ∀ q ∈ G.v, noM q.2 = true
  own : OwnL K H0 G.o σ H
section
variable {K : PySem.W.Frag} {n : Nat} {H0 H H' : Hp} {G G' : G3} {σ σ' : St}
theorem OwnL.same (e : Same H H') : ∀ {Ω : List (Nat × List PyData)}, OwnL K H0 Ω σ H → OwnL K H0 Ω σ H'
  | [], _ => trivial
  | _ :: _, ⟨⟨a, vs, h1, h2, h3, h4, h5⟩, r⟩ => ⟨⟨a, vs, h1, h2, e _ _ h3, h4.same e, h5⟩, OwnL.same e r⟩
theorem OwnL.env : ∀ {Ω : List (Nat × List PyData)}, OwnL K H0 Ω σ H → EnvL K (Ω.map fun q => (q.1, PyData.list q.2)) σ H
  | [], _ => trivial
  | _ :: _, ⟨⟨a, vs, h1, h2, h3, h4, h5⟩, r⟩ => ⟨⟨.ref a, h1, .lst h3 h4⟩, OwnL.env r⟩
theorem StE.same (h : StE K n H0 G σ H) (e : Same H H') : StE K n H0 G σ H' := ⟨h.len, h.old.trans e, h.par, h.dat.same e, h.nom, h.own.same e⟩
theorem StE.env (h : StE K n H0 G σ H) : Env K n G.all σ H := ⟨h.len, h.dat.append ((h.par.same h.old).append h.own.env)⟩
/-- slot i has another value now -/
def drp {α : Type} (i : Nat) (l : List (Nat × α)) : List (Nat × α) := l.filter fun q => !(q.1 == i)
theorem EnvL.drp {i : Nat} {v : Option V} : ∀ {Γ : List (Nat × PyData)}, EnvL K Γ σ H → EnvL K (drp i Γ) (σ.set i v) H
  | [], _ => trivial
  | (j, d) :: Γ, ⟨⟨w, h1, h2⟩, r⟩ => by
    unfold Nk.drp
    rw [List.filter_cons]
    by_cases z : (j == i) = true
    · rw [z]
      exact EnvL.drp r
    · have z' : (j == i) = false := by simpa using z
      rw [z']
      exact ⟨⟨w, by rw [List.getElem?_set_ne (fun e => z (by simp [e]))]; exact h1, h2⟩, EnvL.drp r⟩
theorem mem_drp {α : Type} {i : Nat} {l : List (Nat × α)} {q : Nat × α} (h : q ∈ drp i l) : q ∈ l ∧ q.1 ≠ i := by
  have := List.mem_filter.mp h
  exact ⟨this.1, by simpa using this.2⟩
theorem OwnL.drp {i : Nat} {v : Option V} : ∀ {Ω : List (Nat × List PyData)}, OwnL K H0 Ω σ H → OwnL K H0 (drp i Ω) (σ.set i v) H
  | [], _ => trivial
  | (j, d) :: Ω, ⟨⟨a, vs, h1, h2, h3, h4, h5, h6⟩, r⟩ => by
    unfold Nk.drp
    rw [List.filter_cons]
    by_cases z : (j == i) = true
    · rw [z]
      exact OwnL.drp r
    · have z' : (j == i) = false := by simpa using z
      rw [z']
      refine ⟨⟨a, vs, by rw [List.getElem?_set_ne (fun e => z (by simp [e]))]; exact h1, h2, h3, h4, h5, fun r hr => ?_⟩, OwnL.drp r⟩
      obtain ⟨m1, m2⟩ := mem_drp hr
      rw [List.getElem?_set_ne (Ne.symm m2)]
      exact h6 r m1
def G3.drp (i : Nat) (G : G3) : G3 := ⟨Nk.drp i G.p, Nk.drp i G.v, Nk.drp i G.o⟩
theorem StE.drp {i : Nat} {v : Option V} (h : StE K n H0 G σ H) : StE K n H0 (G.drp i) (σ.set i v) H :=
  ⟨by rw [List.length_set]; exact h.len, h.old, h.par.drp, h.dat.drp, fun q hq => h.nom q (mem_drp hq).1, h.own.drp⟩
def G3.put (i : Nat) (d : PyData) (G : G3) : G3 := ⟨Nk.drp i G.p, (i, d) :: Nk.drp i G.v, Nk.drp i G.o⟩
theorem StE.put {i : Nat} {v : V} {d : PyData} (h : StE K n H0 G σ H) (hi : i < n) (hd : Dq K H v d) (hn : noM d = true) : StE K n H0 (G.put i d) (σ.set i (some v)) H :=
  ⟨by rw [List.length_set]; exact h.len, h.old, h.par.drp, ⟨⟨v, by rw [List.getElem?_set_self (by rw [h.len]; exact hi)], hd⟩, h.dat.drp⟩, fun q hq => by
    rcases List.mem_cons.mp hq with rfl | hq
    · exact hn
    · exact h.nom q (mem_drp hq).1, h.own.drp⟩
def G3.new (i : Nat) (ds : List PyData) (G : G3) : G3 := ⟨Nk.drp i G.p, Nk.drp i G.v, (i, ds) :: Nk.drp i G.o⟩
theorem OwnL.apart {a : Addr} (hf : H a = none) : ∀ {Ω : List (Nat × List PyData)}, OwnL K H0 Ω σ H → ∀ r ∈ Ω, σ[r.1]? ≠ some (some (.ref a))
  | q :: Ω, ⟨⟨b, vs, h1, h2, h3, h4, h5, h6⟩, r⟩, x, hx => by
    rcases List.mem_cons.mp hx with rfl | hx
    · rw [h1]
      intro z
      have : b = a := by simpa using z
      subst this
      rw [hf] at h3
      cases h3
    · exact OwnL.apart hf r x hx
theorem StE.new {i : Nat} {a : Addr} {vs : List V} {ds : List PyData} (h : StE K n H0 G σ H) (hi : i < n) (hf : H a = none) (e : Same H H') (ha : H' a = some (.lst vs)) (hd : DqAll K H' vs ds) (hn : noMs ds = true) : StE K n H0 (G.new i ds) (σ.set i (some (.ref a))) H' := by
  have h' := h.same e
  refine ⟨by rw [List.length_set]; exact h.len, h'.old, h.par.drp, h'.dat.drp, fun q hq => h.nom q (mem_drp hq).1, ⟨a, vs, by rw [List.getElem?_set_self (by rw [h.len]; exact hi)], h.old.free hf, ha, hd, hn, fun r hr => ?_⟩, h'.own.drp⟩
  obtain ⟨m1, m2⟩ := mem_drp hr
  rw [List.getElem?_set_ne (Ne.symm m2)]
  exact OwnL.apart hf h.own r m1
theorem EnvL.ts (e : TupS H H') : ∀ {Γ : List (Nat × PyData)}, (∀ q ∈ Γ, noM q.2 = true) → EnvL K Γ σ H → EnvL K Γ σ H'
  | [], _, _ => trivial
  | q :: Γ, hn, ⟨⟨v, h1, h2⟩, r⟩ => ⟨⟨v, h1, h2.ts e (hn q List.mem_cons_self)⟩, EnvL.ts e (fun x hx => hn x (List.mem_cons_of_mem _ hx)) r⟩
/-- one's own list at i is another one now -/
def setO (i : Nat) (ds : List PyData) : List (Nat × List PyData) → List (Nat × List PyData)
  | [] => []
  | q :: Ω => if q.1 == i then (i, ds) :: Ω else q :: setO i ds Ω
theorem setO_keys {i : Nat} {ds : List PyData} : ∀ {Ω : List (Nat × List PyData)} {r : Nat × List PyData}, r ∈ setO i ds Ω → ∃ s ∈ Ω, s.1 = r.1
  | q :: Ω, r, h => by
    unfold setO at h
    by_cases z : (q.1 == i) = true
    · rw [if_pos z] at h
      rcases List.mem_cons.mp h with rfl | h
      · exact ⟨q, List.mem_cons_self, by simpa using z⟩
      · exact ⟨r, List.mem_cons_of_mem _ h, rfl⟩
    · rw [if_neg z] at h
      rcases List.mem_cons.mp h with rfl | h
      · exact ⟨_, List.mem_cons_self, rfl⟩
      · obtain ⟨s, hs, e⟩ := setO_keys h
        exact ⟨s, List.mem_cons_of_mem _ hs, e⟩
theorem OwnL.keepL {a : Addr} {ws : List V} {vs : List V} (ha : H a = some (.lst vs)) : ∀ {Ω : List (Nat × List PyData)}, (∀ r ∈ Ω, σ[r.1]? ≠ some (some (.ref a))) → OwnL K H0 Ω σ H → OwnL K H0 Ω σ (upd H a (.lst ws))
  | [], _, _ => trivial
  | q :: Ω, hr, ⟨⟨b, us, h1, h2, h3, h4, h5, h6⟩, r⟩ => by
    have hba : b ≠ a := fun z => hr q List.mem_cons_self (by rw [h1, z])
    exact ⟨⟨b, us, h1, h2, by rw [upd_ne hba]; exact h3, h4.ts (TupS.upd ha) h5, h5, h6⟩, OwnL.keepL ha (fun r hr' => hr r (List.mem_cons_of_mem _ hr')) r⟩
theorem lookup_key {α : Type} {i : Nat} {x : α} : ∀ {l : List (Nat × α)}, l.lookup i = some x → ∃ s ∈ l, s.1 = i
  | (y1, y2) :: ys, h => by
    rw [List.lookup_cons] at h
    cases w : i == y1 with
    | true => exact ⟨(y1, y2), List.mem_cons_self, (by simpa using w : i = y1).symm⟩
    | false =>
      rw [w] at h
      obtain ⟨s, hs, es⟩ := lookup_key h
      exact ⟨s, List.mem_cons_of_mem _ hs, es⟩
theorem OwnL.setO {i : Nat} {a : Addr} {vs ws : List V} {ds : List PyData} (hi : σ[i]? = some (some (.ref a))) (ha : H a = some (.lst vs)) (hd : DqAll K (upd H a (.lst ws)) ws ds) (hn : noMs ds = true) : ∀ {Ω : List (Nat × List PyData)}, (∃ x, Ω.lookup i = some x) → OwnL K H0 Ω σ H → OwnL K H0 (setO i ds Ω) σ (upd H a (.lst ws))
  | [], ⟨x, hx⟩, _ => by cases hx
  | q :: Ω, ⟨x, hx⟩, ⟨⟨b, us, h1, h2, h3, h4, h5, h6⟩, r⟩ => by
    unfold Nk.setO
    by_cases z : (q.1 == i) = true
    · rw [if_pos z]
      have e : q.1 = i := by simpa using z
      rw [e, hi] at h1
      have : a = b := by simpa using h1
      subst this
      exact ⟨⟨a, ws, hi, h2, upd_same, hd, hn, h6⟩, OwnL.keepL ha h6 r⟩
    · rw [if_neg z]
      have hx' : Ω.lookup i = some x := by
        have : (i == q.1) = false := by
          rw [Bool.eq_false_iff]
          intro e
          exact z (by simpa using (by simpa using e : i = q.1).symm)
        obtain ⟨q1, q2⟩ := q
        rw [List.lookup_cons, this] at hx
        exact hx
      -- the list at a is that of i, not this one
      have hba : b ≠ a := fun e => by
        obtain ⟨s, hs, es⟩ := lookup_key hx'
        refine h6 s hs ?_
        rw [es, hi, e]
      refine ⟨⟨b, us, h1, h2, by rw [upd_ne hba]; exact h3, h4.ts (TupS.upd ha) h5, h5, fun r hr => ?_⟩, OwnL.setO hi ha hd hn ⟨x, hx'⟩ r⟩
      obtain ⟨s, hs, es⟩ := setO_keys hr
      rw [← es]
      exact h6 s hs
end
end Nk
set_option Elab.async false
set_option linter.all false
set_option maxRecDepth 100000
set_option maxHeartbeats 4000000
namespace Nk
open PySem L2

def tSt (K : PySem.W.Frag) (n : Nat) (G G' : G3) : TS := fun D σ H => ∃ H0, StE K n H0 G σ H ∧ ∀ σ' H', TupS H H' → StE K n H0 G' σ' H' → D.nx σ' H'
def tRt (K : PySem.W.Frag) (n : Nat) (G : G3) (d : PyData) : TS := fun D σ H => ∃ H0, StE K n H0 G σ H ∧ ∀ v H', Same H0 H' → Dq K H' v d → D.rt v H'
/-- a statement that leads on -/
structure PSt (K : PySem.W.Frag) (X : Cx) (n : Nat) (G : G3) (st : Stmt) (G' : G3) : Prop where
  ps : PS X st (tSt K n G G')
structure PBk (K : PySem.W.Frag) (X : Cx) (n : Nat) (G : G3) (sts : List Stmt) (G' : G3) : Prop where
  ps : PSs X sts (tSt K n G G')
/-- a block that ends with the data d told -/
structure PR (K : PySem.W.Frag) (X : Cx) (n : Nat) (G : G3) (sts : List Stmt) (d : PyData) : Prop where
  ps : PSs X sts (tRt K n G d)
theorem ps_imp {X : Cx} {st : Stmt} {t t' : TS} (h : PS X st t) (i : ∀ D σ H, t' D σ H → t D σ H) : PS X st t' := ⟨fun pins s σ H D I q => h.run pins s σ H D I (i D σ H q)⟩
theorem pss_imp {X : Cx} {st : List Stmt} {t t' : TS} (h : PSs X st t) (i : ∀ D σ H, t' D σ H → t D σ H) : PSs X st t' := ⟨fun pins s σ H D I q => h.run pins s σ H D I (i D σ H q)⟩
theorem pss_ex {X : Cx} {ι : Sort _} {st : List Stmt} {t : ι → TS} (h : ∀ i, PSs X st (t i)) : PSs X st (fun D σ H => ∃ i, t i D σ H) := ⟨fun pins s σ H D I ⟨i, q⟩ => (h i).run pins s σ H D I q⟩
section
variable {K : PySem.W.Frag} {X : Cx} {n : Nat} {G G' G'' : G3} {e a b c : Expr} {es : List Expr} {d da db dc : PyData} {ds : List PyData} {pos p : Pos} {st : Stmt} {rest body orelse : List Stmt}
theorem PR.cast (h : PR K X n G rest d) (q : d = da) : PR K X n G rest da := q ▸ h
theorem pr_ret (h : PD K X n G.all e d) : PR K X n G [.Return (some e) pos] d :=
  ⟨pss_imp (pss_one (ps_ret h.pe)) fun D σ H ⟨H0, s, k⟩ => ⟨s.env, fun v H' e q => k v H' (s.old.trans e) q⟩⟩
theorem pr_retM {more : List Stmt} (h : PD K X n G.all e d) : PR K X n G (.Return (some e) pos :: more) d :=
  ⟨pss_imp (pss_cons (ps_ret h.pe) pss_never) fun D σ H ⟨H0, s, k⟩ => ⟨s.env, fun v H' e q => k v H' (s.old.trans e) q⟩⟩
theorem pr_cons (h : PSt K X n G st G') (g : PR K X n G' rest d) : PR K X n G (st :: rest) d :=
  ⟨pss_imp (pss_cons h.ps g.ps) fun D σ H ⟨H0, s, k⟩ => ⟨H0, s, fun σ' H' _ s' => ⟨H0, s', k⟩⟩⟩
theorem pb_nil : PBk K X n G [] G := ⟨pss_imp pss_nil fun D σ H ⟨H0, s, k⟩ => k σ H (TupS.refl H) s⟩
theorem pb_one (h : PSt K X n G st G') : PBk K X n G [st] G' := ⟨pss_one h.ps⟩
theorem pb_cons (h : PSt K X n G st G') (g : PBk K X n G' rest G'') : PBk K X n G (st :: rest) G'' :=
  ⟨pss_imp (pss_cons h.ps g.ps) fun D σ H ⟨H0, s, k⟩ => ⟨H0, s, fun σ' H' t s' => ⟨H0, s', fun σ2 H2 t2 s2 => k σ2 H2 (t.trans t2) s2⟩⟩⟩
/-- less is said -/
structure G3.Le (G' G : G3) : Prop where
  le : ∀ (K : PySem.W.Frag) n H0 σ H, StE K n H0 G σ H → StE K n H0 G' σ H
theorem PBk.le (h : PBk K X n G rest G') (l : G3.Le G'' G') : PBk K X n G rest G'' := ⟨pss_imp h.ps fun D σ H ⟨H0, s, k⟩ => ⟨H0, s, fun σ' H' t s' => k σ' H' t (l.le _ _ _ _ _ s')⟩⟩
theorem PSt.le (h : PSt K X n G st G') (l : G3.Le G'' G') : PSt K X n G st G'' := ⟨ps_imp h.ps fun D σ H ⟨H0, s, k⟩ => ⟨H0, s, fun σ' H' t s' => k σ' H' t (l.le _ _ _ _ _ s')⟩⟩
theorem PR.le (h : PR K X n G rest d) (l : G3.Le G G'') : PR K X n G'' rest d := ⟨pss_imp h.ps fun D σ H ⟨H0, s, k⟩ => ⟨H0, l.le _ _ _ _ _ s, k⟩⟩
theorem EnvL.sub {Γ Δ : List (Nat × PyData)} {σ : St} {H : Hp} (h : ∀ q ∈ Δ, q ∈ Γ) (e : EnvL K Γ σ H) : EnvL K Δ σ H := by
  have key : ∀ {Γ : List (Nat × PyData)} {q : Nat × PyData}, EnvL K Γ σ H → q ∈ Γ → ∃ v, σ[q.1]? = some (some v) ∧ Dq K H v q.2 := by
    intro Γ
    induction Γ with
    | nil => intro q _ h; cases h
    | cons x xs ih =>
      intro q e h
      rcases List.mem_cons.mp h with rfl | h
      · exact e.1
      · exact ih e.2 h
  induction Δ with
  | nil => trivial
  | cons x xs ih => exact ⟨key e (h x List.mem_cons_self), ih fun q hq => h q (List.mem_cons_of_mem _ hq)⟩
/-- fewer slots -/
theorem G3.Le.of {p v p' v' : List (Nat × PyData)} {o : List (Nat × List PyData)} (hp : ∀ q ∈ p', q ∈ p) (hv : ∀ q ∈ v', q ∈ v) : G3.Le ⟨p', v', o⟩ ⟨p, v, o⟩ :=
  ⟨fun K n H0 σ H s => ⟨s.len, s.old, s.par.sub hp, s.dat.sub hv, fun q hq => s.nom q (hv q hq), s.own⟩⟩
theorem pr_if {k : Bool} (h : PB K X n G.all c k) (h1 : k = true → PR K X n G body d) (h2 : k = false → PR K X n G rest d) : PR K X n G (.If c body [] pos :: rest) d := by
  cases k with
  | true => exact ⟨pss_imp (pss_cons (ps_if h.pt (h1 rfl).ps pss_never) pss_never) fun D σ H ⟨H0, s, k⟩ => ⟨s.env, fun H' e => iteT ⟨H0, s.same e, k⟩⟩⟩
  | false => exact ⟨pss_imp (pss_cons (ps_if h.pt pss_never pss_nil) (h2 rfl).ps) fun D σ H ⟨H0, s, k⟩ => ⟨s.env, fun H' e => iteF ⟨H0, s.same e, k⟩⟩⟩
theorem pr_ife {k : Bool} (h : PB K X n G.all c k) (h1 : k = true → PR K X n G body d) (h2 : k = false → PR K X n G orelse d) : PR K X n G (.If c body orelse pos :: rest) d := by
  cases k with
  | true => exact ⟨pss_imp (pss_cons (ps_if h.pt (h1 rfl).ps pss_never) pss_never) fun D σ H ⟨H0, s, k⟩ => ⟨s.env, fun H' e => iteT ⟨H0, s.same e, k⟩⟩⟩
  | false => exact ⟨pss_imp (pss_cons (ps_if h.pt pss_never (h2 rfl).ps) pss_never) fun D σ H ⟨H0, s, k⟩ => ⟨s.env, fun H' e => iteF ⟨H0, s.same e, k⟩⟩⟩
theorem pst_if {k : Bool} (h : PB K X n G.all c k) (h1 : k = true → PBk K X n G body G') (h2 : k = false → PBk K X n G orelse G') : PSt K X n G (.If c body orelse pos) G' := by
  cases k with
  | true => exact ⟨ps_imp (ps_if h.pt (h1 rfl).ps pss_never) fun D σ H ⟨H0, s, k⟩ => ⟨s.env, fun H' e => iteT ⟨H0, s.same e, fun σ2 H2 t s2 => k σ2 H2 ((Same.ts e).trans t) s2⟩⟩⟩
  | false => exact ⟨ps_imp (ps_if h.pt pss_never (h2 rfl).ps) fun D σ H ⟨H0, s, k⟩ => ⟨s.env, fun H' e => iteF ⟨H0, s.same e, fun σ2 H2 t s2 => k σ2 H2 ((Same.ts e).trans t) s2⟩⟩⟩
/-- x = e -/
theorem pst_set {i : Nat} {x : Str} {pos' : Pos} (nd : X.N.Nodup) (hi : X.N[i]? = some x) (hx : Loc X.env.scope x) (hin : i < n) (h : PD K X n G.all e d) (hn : noM d = true) (hs : swapsWith e (some (.Name x pos')) pos.line X.env = pure false := by rfl) (hf : X.fn x = true ∨ X.env.scope.names.lookup x = some .local := by first | exact .inl rfl | exact .inr rfl | assumption) :
    PSt K X n G (.Assign [.Name x pos'] e pos) (G.put i d) :=
  ⟨ps_imp (ps_set nd hi hx h.pe hs hf) fun D σ H ⟨H0, s, k⟩ => ⟨s.env, fun v H' e q => k _ H' (Same.ts e) ((s.same e).put hin q hn)⟩⟩
/-- e is a new list of the data -/
def tF (K : PySem.W.Frag) (n : Nat) (Γ : List (Nat × PyData)) (ds : List PyData) : TE := fun σ H Q => Env K n Γ σ H ∧ ∀ p vs H', H p = none → Same H H' → H' p = some (.lst vs) → DqAll K H' vs ds → Q (.ref p) H'
structure PF (K : PySem.W.Frag) (X : Cx) (n : Nat) (Γ : List (Nat × PyData)) (e : Expr) (ds : List PyData) : Prop where
  pe : PE X e (tF K n Γ ds)
theorem PF.cast {Γ : List (Nat × PyData)} {ds ds' : List PyData} (h : PF K X n Γ e ds) (q : ds = ds') : PF K X n Γ e ds' := q ▸ h
theorem PF.pd {Γ : List (Nat × PyData)} (h : PF K X n Γ e ds) (hK : X.K = K := by rfl) : PD K X n Γ e (.list ds) := .of h.pe (fun σ H Q g k => ⟨g, fun p vs H' _ s hp ha => k _ H' s (.lst hp ha)⟩) hK
theorem pf_lst {Γ : List (Nat × PyData)} (h : PDs K X n Γ es ds) (hl : Nat.ble ds.length 1000 = true := by rfl) : PF K X n Γ (.List es pos) ds :=
  ⟨pe_imp (pe_lst h.pa) fun σ H Q q => ⟨q.1, fun xs H1 s1 q1 => ⟨by rw [q1.length]; exact Nat.le_trans (Nat.le_of_ble_eq_true hl) (by show 1000 ≤ sizeLine; decide), fun p hp => q.2 p xs _ (s1.free hp) (s1.trans (same_new hp)) upd_same (q1.same (same_new hp))⟩⟩⟩
/-- x = a new list -/
theorem pst_new {i : Nat} {x : Str} {pos' : Pos} (nd : X.N.Nodup) (hi : X.N[i]? = some x) (hx : Loc X.env.scope x) (hin : i < n) (h : PF K X n G.all e ds) (hn : noMs ds = true) (hs : swapsWith e (some (.Name x pos')) pos.line X.env = pure false := by rfl) (hf : X.fn x = true ∨ X.env.scope.names.lookup x = some .local := by first | exact .inl rfl | exact .inr rfl | assumption) :
    PSt K X n G (.Assign [.Name x pos'] e pos) (G.new i ds) :=
  ⟨ps_imp (ps_set nd hi hx h.pe hs hf) fun D σ H ⟨H0, s, k⟩ => ⟨s.env, fun p vs H' hp e hp' q => k _ H' (Same.ts e) (s.new hin hp e hp' q hn)⟩⟩
/-- a, b = e -/
theorem pst_two {i j : Nat} {x y : Str} {k : Nat} {px py tpos : Pos} (nd : X.N.Nodup) (hi : X.N[i]? = some x) (hj : X.N[j]? = some y) (hx : Loc X.env.scope x) (hy : Loc X.env.scope y) (hin : i < n) (hjn : j < n) (hij : i ≠ j) (hc : X.calm = true) (h : PD K X n G.all e (.tuple [da, db])) (hna : noM da = true) (hnb : noM db = true)
    (hs : swapsWithSole [.Tuple [.Name x px, .Name y py] k tpos] e pos.line X.env = pure false := by rfl) (hw : swappedStores [.Tuple [.Name x px, .Name y py] k tpos] e X.env = pure none := by rfl)
    (h1 : (assignEach [.Tuple [.Name x px, .Name y py] k tpos] X.env).map (·.2) = [assign (.Tuple [.Name x px, .Name y py] k tpos) X.env] := by rfl)
    (hl : (assignEach [.Name x px, .Name y py] X.env).length = 2 := by rfl) (hst : (assignEach [.Name x px, .Name y py] X.env).findIdx? (·.1) = none := by rfl)
    (hq1 : (assignEach [.Name x px, .Name y py] X.env).map (·.2) = assign (.Name x px) X.env :: (assignEach [.Name y py] X.env).map (·.2) := by rfl) (hq2 : (assignEach [.Name y py] X.env).map (·.2) = assign (.Name y py) X.env :: (assignEach [] X.env).map (·.2) := by rfl)
    (hf : X.fn x = true ∨ X.env.scope.names.lookup x = some .local := by first | exact .inl rfl | exact .inr rfl | assumption) (hf2 : X.fn y = true ∨ X.env.scope.names.lookup y = some .local := by first | exact .inl rfl | exact .inr rfl | assumption) :
    PSt K X n G (.Assign [.Tuple [.Name x px, .Name y py] k tpos] e pos) ((G.put i da).put j db) := by
  refine ⟨ps_imp (ps_asg h.pe (pg_tup hc (pgs_cons (pg_name (i := i) nd hi hx hf) (pgs_cons (pg_name (i := j) nd hj hy hf2) pgs_nil hq2) hq1) hl hst) hs hw h1) fun D σ H ⟨H0, s, k⟩ => ⟨s.env, fun v H' e q => ?_⟩⟩
  cases q with
  | tup hp ha =>
    cases ha with
    | cons q1 ha =>
      cases ha with
      | cons q2 ha =>
        cases ha
        refine ⟨_, _, rfl, SqT.of hp, rfl, _, _, rfl, _, _, rfl, rfl, ?_⟩
        exact k _ H' (Same.ts e) (((s.same e).put hin q1 hna).put hjn q2 hnb)
def G3.setO (i : Nat) (ds : List PyData) (G : G3) : G3 := ⟨G.p, G.v, Nk.setO i ds G.o⟩
theorem OwnL.get {H0 H : Hp} {σ : St} {i : Nat} {x : List PyData} : ∀ {Ω : List (Nat × List PyData)}, OwnL K H0 Ω σ H → Ω.lookup i = some x → ∃ a vs, σ[i]? = some (some (.ref a)) ∧ H0 a = none ∧ H a = some (.lst vs) ∧ DqAll K H vs x ∧ noMs x = true
  | (j, y) :: Ω, ⟨⟨a, vs, h1, h2, h3, h4, h5, h6⟩, r⟩, e => by
    rw [List.lookup_cons] at e
    cases w : i == j with
    | true =>
      rw [w] at e
      cases e
      have : i = j := by simpa using w
      subst this
      exact ⟨a, vs, h1, h2, h3, h4, h5⟩
    | false =>
      rw [w] at e
      exact OwnL.get r e
theorem StE.setO {H0 H : Hp} {σ : St} {i : Nat} {a : Addr} {vs ws : List V} {x ds : List PyData} (s : StE K n H0 G σ H) (hl : G.o.lookup i = some x) (hi : σ[i]? = some (some (.ref a))) (h0 : H0 a = none) (ha : H a = some (.lst vs)) (hd : DqAll K (upd H a (.lst ws)) ws ds) (hn : noMs ds = true) : StE K n H0 (G.setO i ds) σ (upd H a (.lst ws)) :=
  ⟨s.len, fun b o e => by
    rw [upd_ne (fun z => by subst z; rw [h0] at e; cases e)]
    exact s.old _ _ e, s.par, s.dat.ts (TupS.upd ha) s.nom, s.nom, OwnL.setO hi ha hd hn ⟨x, hl⟩ s.own⟩
/-- x.append(e) -/
theorem pst_app {i : Nat} {x : Str} {px apos cpos epos : Pos} (hi : X.N[i]? = some x) (hv : Vis X.env.scope x) (hl : G.o.lookup i = some ds) (h : PD K X n G.all e d) (hn : noM d = true) (hz : ds.length ≤ 100000) (hK : X.K = K := by rfl) (hd : (x == ("__debug__" : Str)) = false := by decide) (hcd : (x == ("__classdict__" : Str)) = false := by decide)
    (hbase : attributeBase (.Name x px) "append" X.env (eval (.Name x px) X.env) = eval (.Name x px) X.env := by rfl)
    (hfew : ((backTo cpos (starEach [e] X.env)).all (fun x => !x.1) && (backToKw cpos (keywordEach [] X.env)).all (fun x => x.1.isSome)
      && decide (([e] : List Expr).length + ([] : List Keyword).length + (if ([] : List Keyword).isEmpty then 0 else 1) < 30)) = true := by rfl)
    (hline : (apos.endLine == cpos.line) = true := by rfl) (hs : starEach [e] X.env = (false, eval e X.env) :: starEach [] X.env := by rfl) (hplain : (backTo cpos (starEach [] X.env)).any (·.1) = false := by rfl)
    (hsw : swapsWith (.Call (.Attribute (.Name x px) "append" apos) [e] [] cpos) none epos.line X.env = pure false := by rfl) :
    PSt K X n G (.Expr (.Call (.Attribute (.Name x px) "append" apos) [e] [] cpos) epos) (G.setO i (ds ++ [d])) := by
  subst hK
  refine ⟨ps_imp (ps_expr (pe_bm PySem.F.plainAttrs_list PySem.F.slot_list_append PySem.F.type_list_append mt_append (pe_var hi hv hd hcd) (pa_cons h.pe pa_nil hs) hbase hfew hline hs hplain) hsw) fun D σ H ⟨H0, s, k⟩ => ?_⟩
  obtain ⟨a, vs, h1, h2, h3, h4, h5⟩ := s.own.get hl
  refine ⟨.ref a, h1, .inl ⟨rfl, _, SqL.of h3⟩, s.env, fun v H' e q => ?_⟩
  have h3' := e _ _ h3
  have h4' := h4.same e
  refine ⟨a, vs, v, rfl, rfl, h3', Nat.lt_of_le_of_lt (by rw [h4.length]; exact hz) (by show 100000 < sizeLine; decide), ?_⟩
  have nn : noMs (ds ++ [d]) = true := noMs_app h5 (by simp [noMs, hn])
  refine k σ _ ((Same.ts e).trans (TupS.upd h3')) ((s.same e).setO hl h1 h2 h3' ?_ nn)
  exact (h4'.append (.cons q .nil)).ts (TupS.upd h3') nn
/-! walks whose body may change one's own lists -/
structure PWs (K : PySem.W.Frag) (X : Cx) (n : Nat) (G : G3) (tg it : Expr) (ds : List PyData) : Prop where
  pi : PI X tg it (fun σ H R => ∃ H0, StE K n H0 G σ H ∧ ∀ J H1, Same H H1 → Walk J ds.length (fun H' => Same H0 H' ∧ TupS H1 H') (YD K ds) → R J H1)
theorem pws_tup {tg : Expr} (h : PD K X n G.all a (.tuple ds)) (hn : noMs ds = true) : PWs K X n G tg a ds :=
  ⟨pi_imp (kpiT K h.pe h.hK) fun σ H R ⟨H0, s, k⟩ => ⟨s.env, fun v H1 s1 z => by
    cases z with
    | tup hp ha =>
      refine ⟨_, rfl, ⟨_, SqT.of hp⟩, k _ H1 s1 ?_⟩
      rw [← ha.length]
      refine (walk_tup (K := K) (xs := _)).mono (fun H s => SqT.of (s.2 _ _ hp)) fun i H x H' hi s y => ?_
      obtain ⟨rfl, hx⟩ := y
      obtain ⟨d, h1, h2⟩ := ha.get hx
      exact ⟨Same.refl _, d, h1, h2.ts s.2 (noMs_mem hn (List.mem_of_getElem? h1))⟩⟩⟩
/-- over an argument that is a list -/
theorem pws_par {tg : Expr} {i : Nat} {x : Str} (hi : X.N[i]? = some x) (hv : Vis X.env.scope x) (hl : G.p.lookup i = some (.list ds)) (hK : X.K = K := by rfl) (hd : (x == ("__debug__" : Str)) = false := by decide) (hcd : (x == ("__classdict__" : Str)) = false := by decide) : PWs K X n G tg (.Name x pos) ds := by
  refine ⟨pi_imp (kpiL K (pe_var hi hv hd hcd) hK) fun σ H R ⟨H0, s, k⟩ => ?_⟩
  obtain ⟨v, h1, h2⟩ := s.par.get hl
  refine ⟨v, h1, ?_⟩
  cases h2 with
  | lst hp ha =>
    refine ⟨_, rfl, ⟨_, SqL.of (s.old _ _ hp)⟩, k _ H (Same.refl H) ?_⟩
    rw [← ha.length]
    refine (walk_list (K := K) (xs := _)).mono (fun H s => SqL.of (s.1 _ _ hp)) fun i H x H' hi s y => ?_
    obtain ⟨rfl, hx⟩ := y
    obtain ⟨d, h1, h2⟩ := ha.get hx
    exact ⟨Same.refl _, d, h1, h2.same s.1⟩
theorem pws_range {tg : Expr} {i : Int} (h : PD K X n G.all a (.int i)) (h1 : i < 2 ^ 62) (h0 : -(2 ^ 62) ≤ i) (hg : Gl X "range") (hm : X.mg "range" = none) (hs : starEach [a] X.env = [(false, eval a X.env)] := by rfl) : PWs K X n G tg (.Call (.Name "range" p) [a] [] pos) (rgD 0 i.toNat) :=
  ⟨pi_imp (pi_range1 hg hm (pa_cons h.pe pa_nil hs) hs) fun σ H R ⟨H0, s, k⟩ => ⟨s.env, fun v H1 s1 z => by
    cases z
    refine ⟨i, rfl, h0, h1, k _ H1 s1 ?_⟩
    rw [rgD_length]
    refine walk_range.mono (fun _ _ => trivial) fun i H x H' hi s y => ?_
    obtain ⟨rfl, rfl⟩ := y
    exact ⟨Same.refl _, _, rgD_get hi, .int _⟩⟩⟩
theorem pws_zipT {elts : List Expr} {kk : Nat} {tpos : Pos} {s t : List PyData} (h : PD K X n G.all a (.tuple s)) (g : PD K X n G.all b (.tuple t)) (hns : noMs s = true) (hnt : noMs t = true) (hg : Gl X "zip") (hm : X.mg "zip" = none)
    (hs : starEach [a, b] X.env = (false, eval a X.env) :: starEach [b] X.env := by rfl) (hs2 : starEach [b] X.env = (false, eval b X.env) :: starEach [] X.env := by rfl) (hpl : (backTo pos (starEach [b] X.env)).any (·.1) = false := by rfl) :
    PWs K X n G (.Tuple elts kk tpos) (.Call (.Name "zip" p) [a, b] [] pos) (zipD s t) := by
  have hK := h.hK
  refine ⟨pi_imp (RZ.pi_zipA hg hm (pa_cons h.pe (pa_cons g.pe pa_nil hs2) hs) hs hpl) fun σ H R ⟨H0, st, k⟩ => ⟨st.env, fun v H1 s1 z => ⟨st.env.same s1, fun w H2 s2 z2 => ?_⟩⟩⟩
  subst hK
  cases z with
  | tup hp ha =>
    cases z2 with
    | tup hq hb =>
      have ha := ha.same s2
      have hp := s2 _ _ hp
      refine ⟨_, _, _, _, rfl, .inr ⟨SqT.of hp, SqT.of hq, k _ H2 (s1.trans s2) ?_⟩⟩
      rw [zipD_length, ← ha.length, ← hb.length]
      refine (walk_zipT rfl).mono (fun H s => ⟨SqT.of (s.2 _ _ hp), SqT.of (s.2 _ _ hq)⟩) fun i H v H' hi s y => ?_
      obtain ⟨T, x, y, rfl, hT, rfl, e1, e2⟩ := y
      obtain ⟨d1, g1, f1⟩ := ha.get e1
      obtain ⟨d2, g2, f2⟩ := hb.get e2
      have sT : Same H (upd H T (.tup [x, y])) := same_new hT
      exact ⟨sT, _, zipD_get g1 g2, .tup upd_same (.cons ((f1.ts s.2 (noMs_mem hns (List.mem_of_getElem? g1))).same sT) (.cons ((f2.ts s.2 (noMs_mem hnt (List.mem_of_getElem? g2))).same sT) .nil))⟩
theorem pws_enumT {elts : List Expr} {kk : Nat} {tpos : Pos} {s : List PyData} (h : PD K X n G.all a (.tuple s)) (hns : noMs s = true) (hg : Gl X "enumerate") (hm : X.mg "enumerate" = none) (hs : starEach [a] X.env = [(false, eval a X.env)] := by rfl) :
    PWs K X n G (.Tuple elts kk tpos) (.Call (.Name "enumerate" p) [a] [] pos) (enumD s) :=
  ⟨pi_imp (pi_enumT hg hm (pa_cons h.pe pa_nil hs) hs h.hK) fun σ H R ⟨H0, st, k⟩ => ⟨st.env, fun v H1 s1 z => by
    cases z with
    | tup hp ha =>
      refine ⟨_, _, rfl, SqT.of hp, k _ H1 s1 ?_⟩
      rw [enumD_length, ← ha.length]
      refine walk_enT.mono (fun H s => SqT.of (s.2 _ _ hp)) fun i H v H' hi s y => ?_
      obtain ⟨T, x, y, rfl, hT, rfl, e1, e2⟩ := y
      cases e1
      obtain ⟨d2, g2, f2⟩ := ha.get e2
      have sT : Same H (upd H T (.tup [.int (i : Nat), y])) := same_new hT
      refine ⟨sT, _, ?_, .tup upd_same (.cons (.int _) (.cons ((f2.ts s.2 (noMs_mem hns (List.mem_of_getElem? g2))).same sT) .nil))⟩
      unfold enumD
      rw [List.getElem?_map, List.getElem?_zipIdx, g2]
      simp⟩⟩
/-- the slots of a target hold Δ -/
def G3.tg (vs : List Nat) (Δ : List (Nat × PyData)) (G : G3) : G3 := ⟨G.p, Δ ++ G.v, G.o⟩
def offG (G : G3) (vs : List Nat) : Bool := offK G.p vs && offK G.v vs && (G.o.map (·.1)).all fun j => !vs.contains j
theorem OwnL.off {H0 H : Hp} {σ σ' : St} {vs : List Nat} (hs : ∀ j, vs.contains j = false → σ'[j]? = σ[j]?) : ∀ {Ω : List (Nat × List PyData)}, ((Ω.map (·.1)).all fun j => !vs.contains j) = true → OwnL K H0 Ω σ H → OwnL K H0 Ω σ' H
  | [], _, _ => trivial
  | q :: Ω, o, ⟨⟨b, us, h1, h2, h3, h4, h5, h6⟩, r⟩ => by
    have o' : (!vs.contains q.1 && (Ω.map (·.1)).all fun j => !vs.contains j) = true := o
    rw [Bool.and_eq_true] at o'
    refine ⟨⟨b, us, by rw [hs q.1 (by simpa using o'.1)]; exact h1, h2, h3, h4, h5, fun r hr => ?_⟩, OwnL.off hs o'.2 r⟩
    have := List.all_eq_true.mp o'.2 r.1 (List.mem_map.mpr ⟨r, hr, rfl⟩)
    rw [hs r.1 (by simpa using this)]
    exact h6 r hr
theorem StE.tg {H0 H H' : Hp} {σ σ' : St} {vs : List Nat} {Δ : List (Nat × PyData)} (s : StE K n H0 G σ H) (e : Same H H') (hl : σ'.length = n) (hs : ∀ j, vs.contains j = false → σ'[j]? = σ[j]?) (ho : offG G vs = true) (hd : EnvL K Δ σ' H') (hn : ∀ q ∈ Δ, noM q.2 = true) : StE K n H0 (G.tg vs Δ) σ' H' := by
  unfold offG at ho
  rw [Bool.and_eq_true, Bool.and_eq_true] at ho
  have s' := s.same e
  exact ⟨hl, s'.old, s'.par.off hs ho.1.1, hd.append (s'.dat.off hs ho.1.2), fun q hq => (List.mem_append.mp hq).elim (hn q) (s.nom q), s'.own.off hs ho.2⟩
def tBEx (K : PySem.W.Frag) (n : Nat) {α : Type} (xs : List α) (vs : List Nat) (Δ : α → List (Nat × PyData)) (Gk : Nat → G3) : TS := fun D σ H => ∃ z : { z : Nat × α // xs[z.1]? = some z.2 }, tSt K n ((Gk z.1.1).tg vs (Δ z.1.2)) (Gk (z.1.1 + 1)) D σ H
/-- for x in it: body -/
theorem pst_for {α : Type} {xs : List α} {enc : α → PyData} {Δ : α → List (Nat × PyData)} {Gk : Nat → G3} {tg it : Expr} {g : TG} {vs : List Nat} (hp : PassesOwn (model X.prog X.w) X.A X.env X.xe) (hc : X.calm = true) (hw : PWs K X n (Gk 0) tg it (xs.map enc)) (hg : PG X tg g)
    (htg : ∀ x ∈ xs, Tg K n g vs (enc x) (Δ x)) (hoff : ∀ i, offG (Gk i) vs = true) (hn : ∀ x ∈ xs, ∀ q ∈ Δ x, noM q.2 = true)
    (hb : ∀ i x, xs[i]? = some x → PBk K X n ((Gk i).tg vs (Δ x)) body (Gk (i + 1))) (hs : ∀ x, foldedSetIterable it X.env x = pure x := by intro _; rfl) :
    PSt K X n (Gk 0) (.For tg it body [] pos) (Gk xs.length) := by
  refine ⟨ps_imp (ps_for hp hc hw.pi hg (show PSs X body (tBEx K n xs vs Δ Gk) from pss_ex fun z => (hb z.1.1 z.1.2 z.2).ps) hs) fun D σ H ⟨H0, s, k⟩ => ⟨H0, s, fun J H1 s1 w => ?_⟩⟩
  refine for_it (g := g) (tb := tBEx K n xs vs Δ Gk) (D := D) w (fun i σ' H' => StE K n H0 (Gk i) σ' H' ∧ TupS H1 H') ⟨s.same s1, TupS.refl _⟩ (fun i σ' H' _ h => ⟨h.1.old, h.2⟩) ?_ ?_
  · rintro i x σ2 H2 H3 hi ⟨s2, t2⟩ ⟨s3, d, hd, qd⟩
    rw [List.length_map] at hi
    rw [List.getElem?_map, List.getElem?_eq_getElem hi] at hd
    have hd : enc xs[i] = d := Option.some.inj hd
    subst hd
    have hm := List.getElem_mem hi
    refine (htg _ hm).run x σ2 H3 _ s2.len qd fun σ3 _ l3 o3 e3 => ?_
    exact ⟨⟨(i, xs[i]), List.getElem?_eq_getElem hi⟩, H0, s2.tg s3 l3 o3 (hoff i) e3 (hn _ hm), fun σ' H' t' s' => ⟨s', (t2.trans (Same.ts s3)).trans t'⟩⟩
  · rintro σ2 H2 ⟨s2, t2⟩
    rw [List.length_map] at s2
    exact k σ2 H2 ((Same.ts s1).trans t2) s2
end
end Nk
set_option Elab.async false
set_option linter.all false
set_option maxRecDepth 100000
set_option maxHeartbeats 4000000
namespace Nk
open PySem L2
/-! a def whose body tells data of data -/
def numb : Nat → List PyData → List (Nat × PyData)
  | _, [] => []
  | i, d :: ds => (i, d) :: numb (i + 1) ds
theorem numb_env {K : PySem.W.Frag} {H : Hp} {r : St} : ∀ {vs : List V} {ds : List PyData} {l : St}, DqAll K H vs ds → EnvL K (numb l.length ds) (l ++ (vs.map some ++ r)) H
  | _, _, _, .nil => trivial
  | v :: vs, d :: ds, l, .cons h t => by
    refine ⟨⟨v, ?_, h⟩, ?_⟩
    · show (l ++ (some v :: vs.map some ++ r))[l.length]? = _
      rw [List.getElem?_append_right (Nat.le_refl _), Nat.sub_self]
      rfl
    · have := numb_env (r := r) (l := l ++ [some v]) t
      rw [List.length_append, List.append_assoc] at this
      exact this
section
variable {P : Program} {w : World} {K : PySem.W.Frag} {mg : Str → Option Value} {base : Heap}
theorem ok_P {α : Type} {enc : α → List PyData} {Pa : α → Prop} {out : α → PyData} {k : Nat} {f : Addr} {x qual : Str} {st : Stmt} {fd : FuncData} {N ps : List Str} (F : Fun K x qual st f fd) (S : FnScope N ps (defScope st)) (hl : ∀ a, (enc a).length = ps.length) (hN : ps.length ≤ N.length)
    (body : ∀ (cdv : Value) (A : Around) (outer : List PySem.Env) (s : Shared) (H : Hp) (E : XK), Room k (A.deeper (PyProof.Rows.envOfC qual (defScope st) s.heap.objs.size f cdv)) → ∀ a, Pa a →
      PR K (cxOf CX0 P w K mg base N qual (defScope st) f cdv A outer s H E).nox N.length ⟨numb 0 (enc a), [], []⟩ (defBody st) (out a)) : FnOk P w K mg base CX0 (k + 1) f fd ps (spP K enc Pa out) := by
  refine F.ok S (fun vs H Q E h => ?_) (fun cdv A outer s H vs Q E hr h => ?_)
  · obtain ⟨a, _, h, _⟩ := h
    rw [h.length, hl a]
  · obtain ⟨a, hp, h, q⟩ := h
    refine ⟨_, (body cdv A outer s H E hr a hp).ps, H, ⟨?_, Same.refl H, ?_, trivial, (fun q hq => nomatch hq), trivial⟩, fun v H' e d => q v H' e d⟩
    · unfold L2.start
      have := h.length
      have := hl a
      rw [List.length_append, List.length_map, List.length_replicate]
      omega
    · exact numb_env (l := []) h
/-- all that is asked of a call of it -/
theorem dk_P {α : Type} {enc : α → List PyData} {Pa : α → Prop} {out : α → PyData} {k : Nat} {x : Str} {ps : List Str} {sp : Sp} (D : Dk P w K mg base k x ps sp) (h : ∀ vs H Q E, spP K enc Pa out vs H Q E → sp vs H Q E) : Dk P w K mg base k x ps (spP K enc Pa out) := by
  obtain ⟨f, fd, F, m, kp, b⟩ := D.ex
  exact ⟨f, fd, F.imp h, m, kp, b⟩
end
end Nk
set_option Elab.async false
set_option linter.all false
set_option maxRecDepth 100000
set_option maxHeartbeats 4000000
namespace Nk
open PySem L2
section
variable {K : PySem.W.Frag} {X : Cx} {n : Nat} {Γ Δ : List (Nat × PyData)} {e a b c : Expr} {es : List Expr} {d da db dc : PyData} {ds s t : List PyData} {pos p : Pos} {G G' G'' : G3}
theorem pdv (i : Nat) {x : Str} (hl : Γ.lookup i = some d) (hN : X.N[i]? = some x := by rfl) (hv : Vis X.env.scope x := by first | exact Or.inl rfl | exact Or.inr (Or.inl rfl) | exact Or.inr (Or.inr rfl)) (hK : X.K = K := by rfl) (hd : (x == ("__debug__" : Str)) = false := by decide)
    (hcd : (x == ("__classdict__" : Str)) = false := by decide) : PD K X n Γ (.Name x pos) d := pd_var hN hv hl hK hd hcd
theorem PWk.cast {tg it : Expr} (h : PWk K X n Γ tg it ds) (q : ds = s) : PWk K X n Γ tg it s := q ▸ h
theorem PWs.cast {tg it : Expr} (h : PWs K X n G tg it ds) (q : ds = s) : PWs K X n G tg it s := q ▸ h
theorem PBk.cast {st : List Stmt} (h : PBk K X n G st G') (q : G' = G'') : PBk K X n G st G'' := q ▸ h
theorem PSt.cast {st : Stmt} (h : PSt K X n G st G') (q : G' = G'') : PSt K X n G st G'' := q ▸ h
theorem PR.castG {st : List Stmt} (h : PR K X n G st d) (q : G = G') : PR K X n G' st d := q ▸ h
theorem zipD_map {α β : Type} (f : α → PyData) (g : β → PyData) (xs : List α) (ys : List β) : zipD (xs.map f) (ys.map g) = (xs.zip ys).map fun p => .tuple [f p.1, g p.2] := by
  unfold zipD
  rw [List.zip_map, List.map_map]
  rfl
theorem rgD_nat (m : Nat) : rgD 0 m = (List.range m).map fun (k : Nat) => .int (k : Int) := by
  unfold rgD
  refine List.map_congr_left fun k _ => ?_
  rw [Int.zero_add]
theorem enumD_map {α : Type} (f : α → PyData) (xs : List α) : enumD (xs.map f) = xs.zipIdx.map fun p => .tuple [.int (p.2 : Nat), f p.1] := by
  unfold enumD
  rw [List.zipIdx_map, List.map_map]
  rfl
/-- range(n), n a length -/
theorem wk_rangeN {tg : Expr} {m : Nat} (h : PD K X n Γ a (.int (m : Nat))) (h1 : m ≤ 1000000) (hg : Gl X "range") (hm : X.mg "range" = none) (hs : starEach [a] X.env = [(false, eval a X.env)] := by rfl) : PWk K X n Γ tg (.Call (.Name "range" p) [a] [] pos) ((List.range m).map fun (k : Nat) => .int (k : Int)) := by
  rw [← rgD_nat]
  have := wk_range (tg := tg) (p := p) (pos := pos) h (by omega) (by omega) hg hm hs
  simpa using this
theorem pws_rangeN {tg : Expr} {m : Nat} (h : PD K X n G.all a (.int (m : Nat))) (h1 : m ≤ 1000000) (hg : Gl X "range") (hm : X.mg "range" = none) (hs : starEach [a] X.env = [(false, eval a X.env)] := by rfl) : PWs K X n G tg (.Call (.Name "range" p) [a] [] pos) ((List.range m).map fun (k : Nat) => .int (k : Int)) := by
  rw [← rgD_nat]
  have := pws_range (tg := tg) (p := p) (pos := pos) h (by omega) (by omega) hg hm hs
  simpa using this
theorem o_maxN {l : List Int} (h : l ≠ []) : OpN K (rMax K) [.list (l.map .int)] (.int (mxD 0 l)) := by
  cases l with
  | nil => exact absurd rfl h
  | cons x xs => exact o_max
theorem eqv_ints (a b : List Int) : PyData.eqv (.tuple (a.map .int)) (.tuple (b.map .int)) = decide (a = b) := by
  simp only [PyData.eqv]
  exact PySem.W.ked_eqvAll a b
theorem shaped_ints (a : List Int) : SeqAt.shaped (.tuple (a.map .int)) = true := shaped_of (by simpa [PyData.canLay0] using lay_ints a) (by simp only [PyData.depth, depth_ints]; decide)
theorem noMs_ints : ∀ ns : List Int, noMs (ns.map PyData.int) = true
  | [] => by simp [noMs]
  | n :: ns => by simp [noMs, noM, noMs_ints ns]
theorem noM_tup (ns : List Int) : noM (.tuple (ns.map .int)) = true := by simp [noM, noMs_ints]
theorem atI_get {α : Type} {xs : List α} {j : Nat} (h : j < xs.length) : atI xs (j : Int) = some xs[j] := atI_nat (List.getElem?_eq_getElem h)
theorem atI_map {α β : Type} (f : α → β) {xs : List α} {i : Int} {x : α} (h : atI xs i = some x) : atI (xs.map f) i = some (f x) := by
  unfold L2.atI at h ⊢
  rw [List.length_map]
  cases q : ixN xs.length i with
  | none => rw [q] at h; cases h
  | some m =>
    rw [q] at h
    have h' : xs[m]? = some x := h
    show (xs.map f)[m]? = some (f x)
    rw [List.getElem?_map, h']
    rfl
/-! sizes -/
def absI (x : Int) : Int := if x < 0 then -x else x
/-- the size of a tuple of ints -/
def szR (r : List Int) : Int := mxD 0 (r.map absI)
theorem mxD_cons {d x : Int} {xs : List Int} : mxD d (x :: xs) = mxL x xs := rfl
theorem mxL_nonneg {x : Int} {xs : List Int} (h : 0 ≤ x) : 0 ≤ mxL x xs := Int.le_trans h (mxL_ge x xs x List.mem_cons_self)
theorem absI_nonneg (x : Int) : 0 ≤ absI x := by unfold absI; split <;> omega
theorem mxL_zero {xs : List Int} (h : ∀ x ∈ xs, 0 ≤ x) : mxL 0 xs = mxD 0 xs := by
  cases xs with
  | nil => rfl
  | cons x xs =>
    show mxL 0 (x :: xs) = mxL x xs
    unfold mxL
    have := h x List.mem_cons_self
    by_cases z : x > 0
    · rw [if_pos z]
      cases xs <;> rfl
    · rw [if_neg z]
      have : x = 0 := by omega
      subst this
      cases xs <;> rfl
theorem szR_nonneg (r : List Int) : 0 ≤ szR r := by
  unfold szR
  cases r with
  | nil => exact Int.le_refl _
  | cons x xs => exact mxL_nonneg (absI_nonneg x)
theorem mxD_bd {l : List Int} {m : Int} (h : ∀ x ∈ l, x ≤ m) (h0 : 0 ≤ m) : mxD 0 l ≤ m := by
  cases l with
  | nil => exact h0
  | cons x xs => exact h _ (mxL_mem x xs)
theorem absI_bd {x m : Int} (h0 : -m ≤ x) (h1 : x ≤ m) : absI x ≤ m := by unfold absI; split <;> omega
/-! calls of a rule for ints: a bound of a product -/
theorem cmul_r {i j : Int} (h0 : -(2 ^ 64) < j) (h1 : j < 2 ^ 64) : CMul i j := .inr ⟨h0, h1⟩
theorem cmul_l {i j : Int} (h0 : -(2 ^ 64) < i) (h1 : i < 2 ^ 64) : CMul i j := .inl ⟨h0, h1⟩
end
end Nk
set_option Elab.async false
set_option linter.all false
set_option maxRecDepth 100000
set_option maxHeartbeats 4000000
namespace Nk
open PySem L2

/-! a law's own def: data in slots, beside the deck -/
abbrev Dck (H : Hp) (a : Addr) : Prop := ∃ D, Deck D H a
/-- all but the deck's own lists -/
theorem Deck.full {D0 H : Hp} {a : Addr} (h : Deck D0 H a) : ∃ D, Deck D H a ∧ TupS H D ∧ ∀ D', Deck D' H a → Same D' D := by
  obtain ⟨s, na, l0, l1, bs, cs, n, n0, n1, ne, ha, h0, h1, hc, hl⟩ := h
  classical
  refine ⟨fun b => if b = a ∨ b = l0 ∨ b = l1 then none else H b, ⟨fun b o e => ?_, if_pos (.inl rfl), l0, l1, bs, cs, n, if_pos (.inr (.inl rfl)), if_pos (.inr (.inr rfl)), ne, ha, h0, h1, hc, hl⟩, fun b xs e => ?_, fun D' d' p o e => ?_⟩
  · by_cases z : b = a ∨ b = l0 ∨ b = l1
    · rw [if_pos z] at e; cases e
    · rw [if_neg z] at e; exact e
  · have : ¬ (b = a ∨ b = l0 ∨ b = l1) := by
      rintro (z | z | z)
      · rw [z, ha] at e; cases e
      · rw [z, h0] at e; cases e
      · rw [z, h1] at e; cases e
    show (if b = a ∨ b = l0 ∨ b = l1 then none else H b) = _
    rw [if_neg this]
    exact e
  · obtain ⟨s', na', m0, m1, bs', cs', n', n0', n1', ne', ha', h0', h1', hc', hl'⟩ := d'
    rw [ha] at ha'
    have e0 : l0 = m0 := by simpa using congrArg (fun o => match o with | some (.lst (.ref x :: _)) => x | _ => 0) ha'
    have e1 : l1 = m1 := by simpa using congrArg (fun o => match o with | some (.lst (_ :: .ref x :: _)) => x | _ => 0) ha'
    subst e0 e1
    have hn : ¬ (p = a ∨ p = l0 ∨ p = l1) := by
      rintro (z | z | z)
      · rw [z, na'] at e; cases e
      · rw [z, n0'] at e; cases e
      · rw [z, n1'] at e; cases e
    show (if p = a ∨ p = l0 ∨ p = l1 then none else H p) = _
    rw [if_neg hn]
    exact s' _ _ e
/-- the greatest heap beside the deck -/
structure DMax (D H : Hp) (a : Addr) : Prop where
  dk : Deck D H a
  ts : TupS H D
  mx : ∀ D', Deck D' H a → Same D' D
theorem Deck.max {D0 H : Hp} {a : Addr} (h : Deck D0 H a) : ∃ D, DMax D H a := let ⟨D, h1, h2, h3⟩ := h.full; ⟨D, h1, h2, h3⟩
/-- a new object beside the deck -/
theorem Deck.addL {D H H' : Hp} {a p : Addr} {o : HO} (d : Deck D H a) (hp : H p = none) (e : Same H H') (h : H' p = some o) : Deck (upd D p o) H' a := by
  obtain ⟨s, na, l0, l1, bs, cs, n, n0, n1, ne, ha, h0, h1, hc, hl⟩ := d
  refine ⟨fun b u z => ?_, ?_, l0, l1, bs, cs, n, ?_, ?_, ne, e _ _ ha, e _ _ h0, e _ _ h1, hc, hl⟩
  · by_cases q : b = p
    · subst q
      rw [upd_same] at z
      cases z
      exact h
    · rw [upd_ne q] at z
      exact e _ _ (s _ _ z)
  · rw [upd_ne (fun z => by rw [z, hp] at ha; cases ha)]; exact na
  · rw [upd_ne (fun z => by rw [z, hp] at h0; cases h0)]; exact n0
  · rw [upd_ne (fun z => by rw [z, hp] at h1; cases h1)]; exact n1
/-- only the deck has changed -/
def Chg (a : Addr) (H H' : Hp) : Prop := ∀ D, Deck D H a → Deck D H' a
theorem Chg.trans {a : Addr} {H H' H'' : Hp} (x : Chg a H H') (y : Chg a H' H'') : Chg a H H'' := fun D d => y D (x D d)
theorem Chg.ts {a : Addr} {H H' : Hp} (x : Chg a H H') (h : Dck H a) : TupS H H' := by
  obtain ⟨D0, d0⟩ := h
  obtain ⟨D, d, t, _⟩ := d0.full
  exact fun b xs e => (x D d).sub _ _ (t _ _ e)
theorem Chg.dck {a : Addr} {H H' : Hp} (x : Chg a H H') (h : Dck H a) : Dck H' a := let ⟨D, d⟩ := h; ⟨D, x D d⟩
theorem Deck.same {D H H' : Hp} {a : Addr} (d : Deck D H a) (e : Same H H') : Deck D H' a := by
  obtain ⟨s, na, l0, l1, bs, cs, n, n0, n1, ne, ha, h0, h1, hc, hl⟩ := d
  exact ⟨s.trans e, na, l0, l1, bs, cs, n, n0, n1, ne, e _ _ ha, e _ _ h0, e _ _ h1, hc, hl⟩
theorem Dck.same {H H' : Hp} {a : Addr} (h : Dck H a) (e : Same H H') : Dck H' a := let ⟨D, d⟩ := h; ⟨D, d.same e⟩
theorem Same.chg {a : Addr} {H H' : Hp} (e : Same H H') : Chg a H H' := fun D d => d.same e
theorem Deck.ts {D D' H H' : Hp} {a : Addr} (t : TupS H D) (s : Same D D') (d : Deck D' H' a) : TupS H H' := fun b xs e => d.sub _ _ (s _ _ (t _ _ e))
structure StD (K : PySem.W.Frag) (n dk : Nat) (G : List (Nat × PyData)) (σ : St) (H : Hp) : Prop where
  len : σ.length = n
  dat : EnvL K G σ H
  nom : ∀ q ∈ G, noM q.2 = true
  dck : ∃ a, σ[dk]? = some (some (.ref a)) ∧ Dck H a
section
variable {K : PySem.W.Frag} {X : Cx} {n dk : Nat} {G G' : List (Nat × PyData)} {σ : St} {H H' : Hp} {e a b c : Expr} {es : List Expr} {d da db dc : PyData} {ds : List PyData} {pos p : Pos} {st : Stmt} {rest body orelse : List Stmt}
theorem DMax.chg {D H H' : Hp} {a : Addr} (m : DMax D H a) (d : Deck D H' a) : Chg a H H' := fun D' d' => d.less (m.mx D' d')
theorem StD.env (s : StD K n dk G σ H) : Env K n G σ H := ⟨s.len, s.dat⟩
theorem StD.same (s : StD K n dk G σ H) (e : Same H H') : StD K n dk G σ H' := ⟨s.len, s.dat.same e, s.nom, let ⟨a, h, d⟩ := s.dck; ⟨a, h, d.same e⟩⟩
def putD (i : Nat) (d : PyData) (G : List (Nat × PyData)) : List (Nat × PyData) := (i, d) :: drp i G
theorem StD.put {i : Nat} {v : V} (s : StD K n dk G σ H) (hi : i < n) (hd : Dq K H v d) (hn : noM d = true) (hk : i ≠ dk) : StD K n dk (putD i d G) (σ.set i (some v)) H :=
  ⟨by rw [List.length_set]; exact s.len, ⟨⟨v, by rw [List.getElem?_set_self (by rw [s.len]; exact hi)], hd⟩, s.dat.drp⟩, fun q hq => by
    rcases List.mem_cons.mp hq with rfl | hq
    · exact hn
    · exact s.nom q (mem_drp hq).1, let ⟨a, h, d⟩ := s.dck; ⟨a, by rw [List.getElem?_set_ne hk]; exact h, d⟩⟩
/-- e is drawn: some data of P -/
def tN (K : PySem.W.Frag) (n dk : Nat) (G : List (Nat × PyData)) (P : PyData → Prop) : TE := fun σ H Q => StD K n dk G σ H ∧ ∀ v H' d a, σ[dk]? = some (some (.ref a)) → Chg a H H' → Dq K H' v d → noM d = true → P d → Q v H'
structure PN (K : PySem.W.Frag) (X : Cx) (n dk : Nat) (G : List (Nat × PyData)) (e : Expr) (P : PyData → Prop) : Prop where
  pe : PE X e (tN K n dk G P)
theorem PN.imp {P P' : PyData → Prop} (h : PN K X n dk G e P) (i : ∀ d, P d → P' d) : PN K X n dk G e P' := ⟨pe_imp h.pe fun σ H Q q => ⟨q.1, fun v H' d a h1 h2 h3 h4 h5 => q.2 v H' d a h1 h2 h3 h4 (i d h5)⟩⟩
/-- a call of a def that draws -/
def spN (K : PySem.W.Frag) {α : Type} (enc : α → List PyData) (Pa : α → Prop) (R : α → PyData → Prop) : Sp := fun vs H Q _ => ∃ a args z, vs = .ref a :: args ∧ Dck H a ∧ DqAll K H args (enc z) ∧ noMs (enc z) = true ∧ Pa z ∧
  ∀ v H' d, Chg a H H' → Dq K H' v d → noM d = true → R z d → Q v H'
theorem StD.of {a : Addr} (s : StD K n dk G σ H) (h : σ[dk]? = some (some (.ref a))) : Dck H a := by
  obtain ⟨b, h1, h2⟩ := s.dck
  rw [h] at h1
  cases h1
  exact h2
theorem StD.chg {a : Addr} (s : StD K n dk G σ H) (h : σ[dk]? = some (some (.ref a))) (k : Chg a H H') : StD K n dk G σ H' := ⟨s.len, s.dat.ts (k.ts (s.of h)) s.nom, s.nom, a, h, k.dck (s.of h)⟩
/-- the arguments behind the deck -/
structure PAs (K : PySem.W.Frag) (X : Cx) (n dk : Nat) (G : List (Nat × PyData)) (es : List Expr) (ds : List PyData) : Prop where
  pa : PA X es (fun σ H Q => StD K n dk G σ H ∧ ∀ vs H' a, Same H H' → σ[dk]? = some (some (.ref a)) → Dck H' a → DqAll K H' vs ds → Q (.ref a :: vs) H')
theorem pas {x : Str} {q : Pos} (hN : X.N[dk]? = some x) (hv : Vis X.env.scope x) (h : PDs K X n G es ds) (hs : starEach (.Name x q :: es) X.env = (false, eval (.Name x q) X.env) :: starEach es X.env := by rfl) (hd : (x == ("__debug__" : Str)) = false := by decide)
    (hcd : (x == ("__classdict__" : Str)) = false := by decide) : PAs K X n dk G (.Name x q :: es) ds :=
  ⟨pa_imp (pa_cons (pe_var hN hv hd hcd) h.pa hs) fun σ H Q ⟨s, k⟩ => by
    obtain ⟨a, h1, h2⟩ := s.dck
    exact ⟨.ref a, h1, s.env, fun vs H' e q => k vs H' a e h1 (h2.same e) q⟩⟩
theorem pn_call {α : Type} {enc : α → List PyData} {Pa : α → Prop} {R : α → PyData → Prop} {x : Str} {k : Nat} {ps : List Str} (D : Dk X.prog X.w X.K X.mg X.base k x ps (spN K enc Pa R)) (hr : Room k X.A) (z : α) (hp : Pa z) (ha : PAs K X n dk G (e :: es) ds) (hn : noMs ds = true) (hd : ds = enc z := by rfl) (hg : Gl X x := by rfl) (hdb : (x == ("__debug__" : Str)) = false := by decide)
    (he : starEach (e :: es) X.env = (false, eval e X.env) :: starEach es X.env := by rfl) (hpl : (backTo pos (starEach es X.env)).any (·.1) = false := by rfl) : PN K X n dk G (.Call (.Name x p) (e :: es) [] pos) (R z) :=
  ⟨pe_imp (pe_dk D hr ha.pa hg hdb he hpl) fun σ H Q ⟨s, q⟩ => ⟨s, fun vs H1 a s1 h1 h2 h3 => ⟨a, vs, z, by rw [List.append_nil], h2, hd ▸ h3, hd ▸ hn, hp, fun v H' d h4 h5 h6 h7 => q v H' d a h1 ((Same.chg s1).trans h4) h5 h6 h7⟩⟩⟩
/-! blocks that lead on, the deck alone known at the end -/
def tL (K : PySem.W.Frag) (n dk : Nat) (G G' : List (Nat × PyData)) : TS := fun D σ H => StD K n dk G σ H ∧ ∀ σ' H', TupS H H' → StD K n dk G' σ' H' → D.nx σ' H'
structure PL (K : PySem.W.Frag) (X : Cx) (n dk : Nat) (G : List (Nat × PyData)) (sts : List Stmt) (G' : List (Nat × PyData)) : Prop where
  ps : PSs X sts (tL K n dk G G')
/-- a statement that leads on -/
structure PSd (K : PySem.W.Frag) (X : Cx) (n dk : Nat) (G : List (Nat × PyData)) (st : Stmt) (G' : List (Nat × PyData)) : Prop where
  ps : PS X st (tL K n dk G G')
theorem pl_cons {G1 : List (Nat × PyData)} (h : PSd K X n dk G st G1) (g : PL K X n dk G1 rest G') : PL K X n dk G (st :: rest) G' :=
  ⟨pss_imp (pss_cons h.ps g.ps) fun D σ H ⟨s, k⟩ => ⟨s, fun σ' H' t s' => ⟨s', fun σ2 H2 t2 s2 => k σ2 H2 (t.trans t2) s2⟩⟩⟩
theorem pl_one (h : PSd K X n dk G st G') : PL K X n dk G [st] G' := ⟨pss_one h.ps⟩
theorem EnvL.nil : EnvL K [] σ H := trivial
theorem pl_nil : PL K X n dk G [] [] := ⟨pss_imp pss_nil fun D σ H ⟨s, k⟩ => k σ H (TupS.refl H) ⟨s.len, trivial, fun q hq => (nomatch hq), s.dck⟩⟩
theorem pl_end : PL K X n dk G [] G := ⟨pss_imp pss_nil fun D σ H ⟨s, k⟩ => k σ H (TupS.refl H) s⟩
theorem pl_set {i : Nat} {x : Str} {pos' : Pos} (nd : X.N.Nodup) (hi : X.N[i]? = some x) (hx : Loc X.env.scope x) (hin : i < n) (hk : i ≠ dk) (h : PD K X n G e d) (hn : noM d = true) (g : PL K X n dk (putD i d G) rest G') (hs : swapsWith e (some (.Name x pos')) pos.line X.env = pure false := by rfl) (hf : X.fn x = true ∨ X.env.scope.names.lookup x = some .local := by first | exact .inl rfl | exact .inr rfl | assumption) :
    PL K X n dk G (.Assign [.Name x pos'] e pos :: rest) G' :=
  ⟨pss_imp (pss_cons (ps_set nd hi hx h.pe hs hf) g.ps) fun D σ H ⟨s, k⟩ => ⟨s.env, fun v H' e q => ⟨(s.same e).put hin q hn hk, fun σ2 H2 t s2 => k σ2 H2 ((Same.ts e).trans t) s2⟩⟩⟩
theorem pl_draw {i : Nat} {x : Str} {pos' : Pos} {P : PyData → Prop} (nd : X.N.Nodup) (hi : X.N[i]? = some x) (hx : Loc X.env.scope x) (hin : i < n) (hk : i ≠ dk) (h : PN K X n dk G e P) (g : ∀ d, P d → PL K X n dk (putD i d G) rest G') (hs : swapsWith e (some (.Name x pos')) pos.line X.env = pure false := by rfl) (hf : X.fn x = true ∨ X.env.scope.names.lookup x = some .local := by first | exact .inl rfl | exact .inr rfl | assumption) :
    PL K X n dk G (.Assign [.Name x pos'] e pos :: rest) G' :=
  ⟨pss_imp (pss_cons (ps_set nd hi hx h.pe hs hf) (pss_ex fun z : { d : PyData // P d } => (g z.1 z.2).ps)) fun D σ H ⟨s, k⟩ => ⟨s, fun v H' d a h1 h2 h3 h4 h5 => ⟨⟨d, h5⟩, (s.chg h1 h2).put hin h3 h4 hk, fun σ2 H2 t2 s2 => k σ2 H2 ((h2.ts (s.of h1)).trans t2) s2⟩⟩⟩
theorem pl_two {i j : Nat} {x y : Str} {k : Nat} {px py tpos : Pos} (nd : X.N.Nodup) (hi : X.N[i]? = some x) (hj : X.N[j]? = some y) (hx : Loc X.env.scope x) (hy : Loc X.env.scope y) (hin : i < n) (hjn : j < n) (hij : i ≠ j) (hik : i ≠ dk) (hjk : j ≠ dk) (hc : X.calm = true) (h : PD K X n G e (.tuple [da, db])) (hna : noM da = true) (hnb : noM db = true) (g : PL K X n dk (putD j db (putD i da G)) rest G')
    (hs : swapsWithSole [.Tuple [.Name x px, .Name y py] k tpos] e pos.line X.env = pure false := by rfl) (hw : swappedStores [.Tuple [.Name x px, .Name y py] k tpos] e X.env = pure none := by rfl)
    (h1 : (assignEach [.Tuple [.Name x px, .Name y py] k tpos] X.env).map (·.2) = [assign (.Tuple [.Name x px, .Name y py] k tpos) X.env] := by rfl)
    (hl : (assignEach [.Name x px, .Name y py] X.env).length = 2 := by rfl) (hst : (assignEach [.Name x px, .Name y py] X.env).findIdx? (·.1) = none := by rfl)
    (hq1 : (assignEach [.Name x px, .Name y py] X.env).map (·.2) = assign (.Name x px) X.env :: (assignEach [.Name y py] X.env).map (·.2) := by rfl) (hq2 : (assignEach [.Name y py] X.env).map (·.2) = assign (.Name y py) X.env :: (assignEach [] X.env).map (·.2) := by rfl)
    (hf : X.fn x = true ∨ X.env.scope.names.lookup x = some .local := by first | exact .inl rfl | exact .inr rfl | assumption) (hf2 : X.fn y = true ∨ X.env.scope.names.lookup y = some .local := by first | exact .inl rfl | exact .inr rfl | assumption) :
    PL K X n dk G (.Assign [.Tuple [.Name x px, .Name y py] k tpos] e pos :: rest) G' := by
  refine ⟨pss_imp (pss_cons (ps_asg h.pe (pg_tup hc (pgs_cons (pg_name (i := i) nd hi hx hf) (pgs_cons (pg_name (i := j) nd hj hy hf2) pgs_nil hq2) hq1) hl hst) hs hw h1) g.ps) fun D σ H ⟨s, k⟩ => ⟨s.env, fun v H' e q => ?_⟩⟩
  cases q with
  | tup hp ha =>
    cases ha with
    | cons q1 ha =>
      cases ha with
      | cons q2 ha =>
        cases ha
        refine ⟨_, _, rfl, SqT.of hp, rfl, _, _, rfl, _, _, rfl, rfl, ?_⟩
        exact ⟨((s.same e).put hin q1 hna hik).put hjn q2 hnb hjk, fun σ2 H2 t s2 => k σ2 H2 ((Same.ts e).trans t) s2⟩
/-- a test that fails: its body is never come to -/
theorem pl_no (h : PB K X n G c false) (g : PL K X n dk G rest G') : PL K X n dk G (.If c body [] pos :: rest) G' :=
  ⟨pss_imp (pss_cons (ps_if h.pt pss_never pss_nil) g.ps) fun D σ H ⟨s, k⟩ => ⟨s.env, fun H' e => iteF ⟨s.same e, fun σ2 H2 t s2 => k σ2 H2 ((Same.ts e).trans t) s2⟩⟩⟩
def tLEx (K : PySem.W.Frag) (n dk i m : Nat) (G : List (Nat × PyData)) : TS := fun D σ H => ∃ z : { k : Nat // k < m }, tL K n dk ((i, .int (z.1 : Int)) :: G) G D σ H
/-- for x in range(m): body, the deck alone known from turn to turn -/
theorem psd_for {i m : Nat} {x : Str} {xpos : Pos} (nd : X.N.Nodup) (hp : PassesOwn (model X.prog X.w) X.A X.env X.xe) (hc : X.calm = true) (hi : X.N[i]? = some x) (hx : Loc X.env.scope x) (hin : i < n) (hk : i ≠ dk) (hoff : offK G [i] = true) (h : PD K X n G a (.int (m : Nat))) (h1 : m ≤ 1000000) (hg : Gl X "range") (hm : X.mg "range" = none)
    (hGb : ∀ k, k < m → PL K X n dk ((i, .int (k : Int)) :: G) body G) (hs0 : starEach [a] X.env = [(false, eval a X.env)] := by rfl) (hf : X.fn x = true ∨ X.env.scope.names.lookup x = some .local := by first | exact .inl rfl | exact .inr rfl | assumption)
    (hs : ∀ x, foldedSetIterable (.Call (.Name "range" p) [a] [] pos) X.env x = pure x := by intro _; rfl) {fpos : Pos} : PSd K X n dk G (.For (.Name x xpos) (.Call (.Name "range" p) [a] [] pos) body [] fpos) G := by
  refine ⟨ps_imp (ps_for hp hc (pi_range1 hg hm (pa_cons h.pe pa_nil hs0) hs0) (pg_name (i := i) nd hi hx hf) (show PSs X body (tLEx K n dk i m G) from pss_ex fun z => (hGb z.1 z.2).ps) hs) fun D σ H ⟨s, k⟩ => ⟨s.env, fun v H1 e1 q => ?_⟩⟩
  cases q
  refine ⟨(m : Int), rfl, by omega, by omega, ?_⟩
  show ∃ W : Nat → Nat → St → Hp → Prop, _
  rw [Int.toNat_natCast]
  refine for_range (n := m) (g := gName i) (tb := tLEx K n dk i m G) (D := D) (fun j σ' H' => StD K n dk G σ' H' ∧ TupS H1 H') ⟨s.same e1, TupS.refl _⟩ ?_ ?_
  rotate_left
  · rintro σ2 H2 ⟨s2, t2⟩
    exact k σ2 H2 ((Same.ts e1).trans t2) s2
  rintro j σ2 H2 hj ⟨s2, t2⟩
  refine ⟨⟨j, hj⟩, ?_, fun σ3 H3 t3 s3 => ⟨s3, t2.trans t3⟩⟩
  have off : ∀ j', [i].contains j' = false → (σ2.set i (some (V.int (0 + (j : Nat)))))[j']? = σ2[j']? := fun j' hj' => by
    have : i ≠ j' := fun z => by subst z; simp at hj'
    rw [List.getElem?_set_ne this]
  refine ⟨by rw [List.length_set]; exact s2.len, ⟨⟨V.int (0 + (j : Nat)), by rw [List.getElem?_set_self (by rw [s2.len]; exact hin)], by rw [Int.zero_add]; exact .int _⟩, EnvL.off off hoff s2.dat⟩, fun q hq => ?_, ?_⟩
  · rcases List.mem_cons.mp hq with rfl | hq
    · rfl
    · exact s2.nom q hq
  · obtain ⟨a, h1, h2⟩ := s2.dck
    exact ⟨a, by rw [List.getElem?_set_ne hk]; exact h1, h2⟩
/-! repr -/
theorem o_repr (f : Fit 300000 40 d) (u : Uno d) : OpN K (rRepr K) [d] (.str d.shown) := fun xs H Q h k => by
  cases h with
  | cons h hn =>
    cases hn
    exact ⟨_, d, rfl, h, u, f.sh, f.dp, f.show (Nat.le_refl _), k _ H (Same.refl H) (.str _)⟩
end
end Nk
set_option Elab.async false
set_option linter.all false
set_option maxRecDepth 100000
set_option maxHeartbeats 4000000
namespace Nk
open PySem L2
section
variable {K : PySem.W.Frag} {X : Cx} {n dk : Nat} {G G' : List (Nat × PyData)} {σ : St} {H H' : Hp} {e a b c : Expr} {es : List Expr} {d da db dc : PyData} {ds : List PyData} {pos p : Pos} {st : Stmt} {rest body orelse : List Stmt}
/-! more that is drawn -/
theorem rg_ints (m : Nat) : rgV 0 (m : Nat) = ((List.range m).map fun (k : Nat) => V.int (k : Int)) := by
  unfold rgV
  rw [show ((m : Int) - 0).toNat = m by omega]
  refine List.map_congr_left fun k _ => ?_
  rw [Int.zero_add]
theorem rg_data (m : Nat) (H : Hp) : DqAll K H ((List.range m).map fun (k : Nat) => V.int (k : Int)) ((List.range m).map fun (k : Nat) => PyData.int (k : Int)) := by
  have := DqAll.ints (K := K) (H := H) ((List.range m).map fun (k : Nat) => (k : Int))
  rw [List.map_map, List.map_map] at this
  exact this
theorem pf_listRg {m : Nat} (h : PD K X n G a (.int (m : Nat))) (h1 : m ≤ 1000000) (hg : Gl X "list") (hm : X.mg "list" = none) (hg2 : Gl X "range") (hm2 : X.mg "range" = none) (hc : X.calm = true := by rfl) {p2 pos2 : Pos}
    (na : starEach [.Call (.Name "range" p2) [a] [] pos2] X.env = (false, eval (.Call (.Name "range" p2) [a] [] pos2) X.env) :: starEach [] X.env := by rfl) (na2 : starEach [a] X.env = (false, eval a X.env) :: starEach [] X.env := by rfl) : PF K X n G (.Call (.Name "list" p) [.Call (.Name "range" p2) [a] [] pos2] [] pos) ((List.range m).map fun (k : Nat) => .int (k : Int)) := by
  refine ⟨pe_imp (pe_listRg hc hg hm (prg_1 hg2 hm2 h.pe na2) na) fun σ H Q ⟨g, k⟩ => ⟨g, fun v H1 s1 q => ?_⟩⟩
  cases q
  refine ⟨m, rfl, RgOk.of_le (by omega) (by omega) (by omega) (by omega), fun q hq => k q _ _ (s1.free hq) (s1.trans (same_new hq)) upd_same ?_⟩
  rw [rg_ints]
  exact rg_data m _
theorem pd_tupRg {m : Nat} (h : PD K X n G a (.int (m : Nat))) (h1 : m ≤ 1000000) (hg : Gl X "tuple") (hm : X.mg "tuple" = none) (hg2 : Gl X "range") (hm2 : X.mg "range" = none) (hc : X.calm = true := by rfl) {p2 pos2 : Pos}
    (na : starEach [.Call (.Name "range" p2) [a] [] pos2] X.env = (false, eval (.Call (.Name "range" p2) [a] [] pos2) X.env) :: starEach [] X.env := by rfl) (na2 : starEach [a] X.env = (false, eval a X.env) :: starEach [] X.env := by rfl) : PD K X n G (.Call (.Name "tuple" p) [.Call (.Name "range" p2) [a] [] pos2] [] pos) (.tuple ((List.range m).map fun (k : Nat) => .int (k : Int))) := by
  refine .of (pe_tupRg hc hg hm (prg_1 hg2 hm2 h.pe na2) na) (fun σ H Q g k => ⟨g, fun v H1 s1 q => ?_⟩) h.hK
  cases q
  refine ⟨m, rfl, RgOk.of_le (by omega) (by omega) (by omega) (by omega), fun q hq => k _ _ (s1.trans (same_new hq)) (.tup upd_same ?_)⟩
  rw [rg_ints]
  exact rg_data m _
theorem DqAll.perm {H : Hp} {xs ys : List V} (h : xs.Perm ys) : ∀ {ds : List PyData}, DqAll K H xs ds → ∃ es : List PyData, ds.Perm es ∧ DqAll K H ys es := by
  induction h with
  | nil => exact fun {ds} q => ⟨ds, .refl _, q⟩
  | cons x _ ih =>
    intro ds q
    cases q with
    | cons a t =>
      obtain ⟨es, p, q'⟩ := ih t
      exact ⟨_ :: es, p.cons _, .cons a q'⟩
  | swap x y l =>
    intro ds q
    cases q with
    | cons a t =>
      cases t with
      | cons b t => exact ⟨_, List.Perm.swap _ _ _, .cons b (.cons a t)⟩
  | trans _ _ ih1 ih2 =>
    intro ds q
    obtain ⟨es, p1, q1⟩ := ih1 q
    obtain ⟨fs, p2, q2⟩ := ih2 q1
    exact ⟨fs, p1.trans p2, q2⟩
theorem chg_new {a : Addr} {H H1 H' D : Hp} {p : Addr} {o : HO} (hp : H p = none) (e : Same H H1) (ho : H1 p = some o) (m : DMax D H1 a) (d : Deck D H' a) : Chg a H H' := fun D0 d0 => by
  have d1 := d0.addL hp e ho
  have s := m.mx _ d1
  exact d.less fun b u z => s _ _ (by
    rw [upd_ne (fun q => by rw [q, d0.free hp] at z; cases z)]
    exact z)
/-- _law_one(deck, a new list) -/
theorem pn_one {x y : Str} {k : Nat} {ps : List Str} {q : Pos} (D1 : Dk X.prog X.w X.K X.mg X.base k y ps spOne) (hr : Room k X.A) (h : PF K X n G e ds) (hne : ds ≠ []) (hl : ds.length ≤ 1000) (hn : noMs ds = true) (hN : X.N[dk]? = some x := by rfl) (hv : Vis X.env.scope x := by first | exact Or.inl rfl | exact Or.inr (Or.inl rfl) | exact Or.inr (Or.inr rfl)) (hd : (x == ("__debug__" : Str)) = false := by decide)
    (hcd : (x == ("__classdict__" : Str)) = false := by decide) (hg : Gl X y := by rfl) (hdb : (y == ("__debug__" : Str)) = false := by decide) (he : starEach [.Name x q, e] X.env = (false, eval (.Name x q) X.env) :: starEach [e] X.env := by rfl) (he2 : starEach [e] X.env = (false, eval e X.env) :: starEach [] X.env := by rfl)
    (hpl : (backTo pos (starEach [e] X.env)).any (·.1) = false := by rfl) : PN K X n dk G (.Call (.Name y p) [.Name x q, e] [] pos) (fun d => d ∈ ds) := by
  refine ⟨pe_imp (pe_dk D1 hr (pa_cons (pe_var hN hv hd hcd) (pa_cons h.pe pa_nil he2) he) hg hdb he hpl) fun σ H Q ⟨s, k⟩ => ?_⟩
  obtain ⟨a, h1, D0, h2⟩ := s.dck
  refine ⟨.ref a, h1, s.env, fun l vs H1 hl0 s1 hl1 hv1 => ?_⟩
  have d1 := h2.addL hl0 s1 hl1
  obtain ⟨D2, m2⟩ := d1.max
  refine ⟨D2, a, l, vs, rfl, m2.dk, m2.mx _ d1 _ _ upd_same, fun z => hne ?_, by rw [hv1.length]; exact hl, fun H' x d' hx => ?_⟩
  · subst z; cases hv1; rfl
  obtain ⟨d, hd', qd⟩ := hv1.mem hx
  exact k x H' d a h1 (chg_new hl0 s1 hl1 m2 d') (qd.ts (fun b xs e => d'.sub _ _ (m2.ts _ _ e)) (noMs_mem hn hd')) (noMs_mem hn hd') hd'
/-! walks while the deck changes -/
structure PWd (K : PySem.W.Frag) (X : Cx) (n : Nat) (G : List (Nat × PyData)) (tg it : Expr) (ds : List PyData) : Prop where
  pi : PI X tg it (fun σ H R => Env K n G σ H ∧ ∀ J H1, Same H H1 → Walk J ds.length (TupS H1) (YD K ds) → R J H1)
theorem PWd.cast {tg it : Expr} {s : List PyData} (h : PWd K X n G tg it ds) (q : ds = s) : PWd K X n G tg it s := q ▸ h
theorem pwd_tup {tg : Expr} (h : PD K X n G a (.tuple ds)) (hn : noMs ds = true) : PWd K X n G tg a ds :=
  ⟨pi_imp (kpiT K h.pe h.hK) fun σ H R ⟨s, k⟩ => ⟨s, fun v H1 s1 z => by
    cases z with
    | tup hp ha =>
      refine ⟨_, rfl, ⟨_, SqT.of hp⟩, k _ H1 s1 ?_⟩
      rw [← ha.length]
      refine (walk_tup (K := K) (xs := _)).mono (fun H s => SqT.of (s _ _ hp)) fun i H x H' hi s y => ?_
      obtain ⟨rfl, hx⟩ := y
      obtain ⟨d, h1, h2⟩ := ha.get hx
      exact ⟨Same.refl _, d, h1, h2.ts s (noMs_mem hn (List.mem_of_getElem? h1))⟩⟩⟩
theorem pwd_rangeN {tg : Expr} {m : Nat} (h : PD K X n G a (.int (m : Nat))) (h1 : m ≤ 1000000) (hg : Gl X "range") (hm : X.mg "range" = none) (hs : starEach [a] X.env = [(false, eval a X.env)] := by rfl) : PWd K X n G tg (.Call (.Name "range" p) [a] [] pos) ((List.range m).map fun (k : Nat) => .int (k : Int)) :=
  ⟨pi_imp (pi_range1 hg hm (pa_cons h.pe pa_nil hs) hs) fun σ H R ⟨s, k⟩ => ⟨s, fun v H1 s1 z => by
    cases z
    refine ⟨m, rfl, by omega, by omega, k _ H1 s1 ?_⟩
    rw [Int.toNat_natCast, List.length_map, List.length_range]
    refine walk_range.mono (fun _ _ => trivial) fun i H x H' hi s y => ?_
    obtain ⟨rfl, rfl⟩ := y
    refine ⟨Same.refl _, .int (i : Nat), ?_, by show Dq K H' (V.int (0 + ((i : Nat) : Int))) _; rw [Int.zero_add]; exact .int _⟩
    rw [List.getElem?_map, List.getElem?_range hi]
    rfl⟩⟩
def teN (K : PySem.W.Frag) (n dk : Nat) (G : List (Nat × PyData)) {α : Type} (xs : List α) (Δ : α → List (Nat × PyData)) (R : α → PyData → Prop) : TE := fun σ H Q => ∃ x, x ∈ xs ∧ tN K n dk (Δ x ++ G) (R x) σ H Q
/-- tuple([e for x in xs]), e drawn -/
theorem pn_lcT {α : Type} {xs : List α} {enc : α → PyData} {Δ : α → List (Nat × PyData)} {R : α → PyData → Prop} {elt tg it : Expr} {scope : Scope} {own : List (Str × Nat)} {g : TG} {p2 : Pos}
    (hc : X.calm = true) (nd : X.N.Nodup) (hi : PWd K X n G tg it (xs.map enc)) (ok : BlkOk X.N X.env.scope scope own) (hgt : ∀ (s : Shared) (H : Hp) (C : Addr) (cl : List (Str × Addr)) (fp : List Addr), PG (X.blk s H scope (compEnvC scope cl C X.env) fp) tg g)
    (htg : ∀ x ∈ xs, Tg K n g (own.map (·.2)) (enc x) (Δ x)) (hoff : offK G (own.map (·.2)) = true) (hdk : (own.map (·.2)).contains dk = false) (hnΔ : ∀ x ∈ xs, ∀ q ∈ Δ x, noM q.2 = true)
    (he : ∀ x ∈ xs, ∀ (s : Shared) (H : Hp) (C : Addr) (cl : List (Str × Addr)) (fp : List Addr), PN K (X.blk s H scope (compEnvC scope cl C X.env) fp) n dk (Δ x ++ G) elt (R x))
    (hl : xs.length ≤ 100000) (hg : Gl X "tuple") (hm : X.mg "tuple" = none) (hK : X.K = K := by rfl) (hs : ∀ x, foldedSetIterable it X.env x = pure x := by intro _; rfl)
    (na : starEach [.ListComp elt [⟨tg, it, [], 0⟩] scope p2] X.env = (false, eval (.ListComp elt [⟨tg, it, [], 0⟩] scope p2) X.env) :: starEach [] X.env := by rfl) (hpl : (backTo pos (starEach [] X.env)).any (·.1) = false := by rfl) :
    PN K X n dk G (.Call (.Name "tuple" p) [.ListComp elt [⟨tg, it, [], 0⟩] scope p2] [] pos) (fun d => ∃ ds, d = .tuple ds ∧ ds.length = xs.length ∧ ∀ (i : Nat) x d, xs[i]? = some x → ds[i]? = some d → R x d) := by
  refine ⟨pe_imp (pe_callTy (ktuple K hK) hg hm (by decide +kernel) (pa_cons (pe_lc (wi := _) (g := g) (tt := tYes) (te := teN K n dk G xs Δ R) hc nd hi.pi ok hgt (fun _ _ _ _ _ => pts_nil)
    (fun s H C cl fp => ⟨fun pins s' σ H' Q I ⟨x, hx, q⟩ => (he x hx s H C cl fp).pe.run pins s' σ H' Q I q⟩) hs) pa_nil na) (by decide) (by decide) na hpl) fun σ H Q ⟨s, k⟩ => ?_⟩
  refine ⟨s.env, fun J H1 s1 w C hC => ?_⟩
  obtain ⟨a, ha, hd0⟩ := s.dck
  have hd1 := hd0.same s1
  refine lc_it (g := g) (tt := tYes) (te := teN K n dk G xs Δ R) (vs := own.map (·.2)) (σ := σ) w (fun i H' => ∃ vs ds, H' C = some (.lst vs) ∧ DqAll K H' vs ds ∧ noMs ds = true ∧ ds.length = i ∧ (∀ (j : Nat) x d, xs[j]? = some x → ds[j]? = some d → R x d) ∧ ∀ D0, Deck D0 H1 a → ∃ D, Deck D H' a ∧ Same D0 D ∧ D C = some (.lst vs))
    ⟨[], [], upd_same, .nil, rfl, rfl, (fun j x d _ h => by cases h), fun D0 d0 => ⟨_, d0.addL hC (same_new hC) upd_same, same_new (d0.free hC), upd_same⟩⟩ ?_ ?_ ?_
  · rintro i H2 _ ⟨vs, ds, eC, hv, hn, hlen, hR, hD⟩
    obtain ⟨D0, d0⟩ := hd1
    obtain ⟨D1, m1⟩ := d0.max
    obtain ⟨D, d, s2, _⟩ := hD D1 m1.dk
    exact fun b xs e => d.sub _ _ (s2 _ _ (m1.ts _ _ e))
  · rintro i x H2 H3 hi2 ⟨vs, ds, eC, hv, hn, hlen, hR, hD⟩ ⟨s3, d, hd, qd⟩
    rw [List.length_map] at hi2
    rw [List.getElem?_map, List.getElem?_eq_getElem hi2] at hd
    have hd : enc xs[i] = d := Option.some.inj hd
    subst hd
    have hm := List.getElem_mem hi2
    obtain ⟨D00, d00⟩ := id hd1
    obtain ⟨D1, m1⟩ := d00.max
    obtain ⟨D, d2, s2, _⟩ := hD D1 m1.dk
    have t2 : TupS H1 H2 := fun b xs e => d2.sub _ _ (s2 _ _ (m1.ts _ _ e))
    have g3 : EnvL K G σ H3 := ((s.dat.same s1).ts t2 s.nom).same s3
    refine (htg _ hm).run x _ H3 _ (by rw [wipe_length]; exact s.len) qd fun σ2 w2 l2 o2 e2 => ⟨?_, xs[i], hm, ⟨⟨l2, ?_, ?_, ?_⟩, ?_⟩⟩
    · rw [w2]
      exact wipe_wipe _ _
    · exact e2.append (EnvL.off o2 hoff (EnvL.off (fun j hj => wipe_get hj) hoff g3))
    · intro q hq
      rcases List.mem_append.mp hq with hq | hq
      · exact hnΔ _ hm q hq
      · exact s.nom q hq
    · exact ⟨a, by rw [o2 _ hdk, wipe_get hdk]; exact ha, D, d2.same s3⟩
    · intro v H4 d a' ha' c4 q4 n4 r4
      rw [o2 _ hdk, wipe_get hdk, ha] at ha'
      have : a = a' := by simpa using ha'
      subst this
      obtain ⟨D', d', s', e'⟩ := hD D1 m1.dk
      have d4 := c4 _ (d'.same s3)
      have eC4 : H4 C = some (.lst vs) := d4.sub _ _ e'
      have t4 : TupS H3 H4 := c4.ts ⟨_, d'.same s3⟩
      have hv4 := (hv.same s3).ts t4 hn
      refine ⟨vs, eC4, ?_, vs ++ [v], ds ++ [d], upd_same, ?_, noMs_app hn (by simp [noMs, n4]), by rw [List.length_append, hlen]; rfl, fun j y e hy he' => ?_, fun D0 d0 => ?_⟩
      · rw [hv4.length, hlen]
        exact Nat.lt_of_le_of_lt (by omega) (show 100000 < sizeLine by decide)
      · exact (hv4.append (.cons q4 .nil)).ts (TupS.upd eC4) (noMs_app hn (by simp [noMs, n4]))
      · by_cases hj : j < ds.length
        · rw [List.getElem?_append_left hj] at he'
          exact hR j y e hy he'
        · have hj2 : j = ds.length := by
            have := (List.getElem?_eq_some_iff.mp he').1
            rw [List.length_append] at this
            have : ([d] : List PyData).length = 1 := rfl
            omega
          subst hj2
          rw [List.getElem?_append_right (Nat.le_refl _), Nat.sub_self] at he'
          have : d = e := by simpa using he'
          subst this
          rw [hlen, List.getElem?_eq_getElem hi2] at hy
          have : xs[i] = y := by simpa using hy
          subst this
          exact r4
      · obtain ⟨D5, d5, s5, e5⟩ := hD D0 d0
        have d6 := c4 _ (d5.same s3)
        refine ⟨_, d6.put e5, fun b o z => ?_, upd_same⟩
        rw [upd_ne (fun q => by rw [q, d0.free hC] at z; cases z)]
        exact s5 _ _ z
  · rintro H2 ⟨vs, ds, eC, hv, hn, hlen, hR, hD⟩
    refine ⟨C, vs, rfl, .inl ⟨SqL.of eC, fun l hl => ?_⟩⟩
    rw [List.length_map] at hlen
    refine k _ _ (.tuple ds) a ha (fun D0 d0 => ?_) (.tup upd_same (hv.same (same_new hl))) (by simpa [noM] using hn) ⟨ds, rfl, hlen, hR⟩
    obtain ⟨D, d, s2, _⟩ := hD D0 (d0.same s1)
    exact (d.same (same_new hl)).less s2
end
end Nk
namespace Nk
open PySem L2
/-! sizes of data that are shown -/
theorem Fit.intB {i : Int} (h0 : -(10 ^ 15) ≤ i) (h1 : i ≤ 10 ^ 15) : Fit 60 0 (.int i) := by
  have hn : i.natAbs < 2 ^ 50 := by omega
  have hl : i.natAbs.log2 < 50 := by
    by_cases h : i.natAbs = 0
    · rw [h]; decide
    · exact (Nat.log2_lt h).mpr hn
  refine ⟨by simp only [PyData.showable, decide_eq_true_eq]; omega, by simp only [PyData.leavesShort, decide_eq_true_eq]; exact int_short (by omega) (by omega), ?_, by simp [PyData.depth]⟩
  simp only [PyData.weight]
  split <;> omega
theorem Fits.all {ds : List PyData} {n m : Nat} (h : ∀ d ∈ ds, Fit n m d) : Fits ((n + 1) * ds.length) m ds := by
  induction ds with
  | nil => exact Fits.nil.mono (Nat.zero_le _) (Nat.zero_le _)
  | cons d ds ih =>
    refine (Fits.cons (h d List.mem_cons_self) (ih fun x hx => h x (List.mem_cons_of_mem _ hx))).mono ?_ (by omega)
    rw [List.length_cons, Nat.mul_add]
    omega
theorem Fits.intsB {ns : List Int} (h : ∀ x ∈ ns, -(10 ^ 15) ≤ x ∧ x ≤ 10 ^ 15) : Fits (61 * ns.length) 0 (ns.map .int) := by
  have := Fits.all (n := 60) (m := 0) (ds := ns.map .int) fun d hd => by
    obtain ⟨x, hx, rfl⟩ := List.mem_map.mp hd
    exact Fit.intB (h x hx).1 (h x hx).2
  rw [List.length_map] at this
  exact this
mutual
theorem noM_dict : ∀ {d : PyData}, noM d = true → d.hasDict = false
  | .none, _ => by simp [PyData.hasDict]
  | .bool _, _ => by simp [PyData.hasDict]
  | .int _, _ => by simp [PyData.hasDict]
  | .str _, _ => by simp [PyData.hasDict]
  | .list _, h => by simp [noM] at h
  | .dict _, h => by simp [noM] at h
  | .tuple xs, h => by
    have := noMs_dict (ds := xs) (by simpa [noM] using h)
    simpa [PyData.hasDict] using this
theorem noMs_dict : ∀ {ds : List PyData}, noMs ds = true → PyData.hasDictAll ds = false
  | [], _ => by simp [PyData.hasDictAll]
  | d :: ds, h => by
    have h' : noM d = true ∧ noMs ds = true := by simpa [noMs] using h
    simp [PyData.hasDictAll, noM_dict h'.1, noMs_dict h'.2]
end
/-- a list of data of tuples -/
theorem Uno.lst {ds : List PyData} (h : noMs ds = true) : Uno (.list ds) := .noD (by simp only [PyData.hasDict]; exact noMs_dict h)
theorem Uno.of {d : PyData} (h : noM d = true) : Uno d := .noD (noM_dict h)
section
variable {K : PySem.W.Frag} {X : Cx} {n dk : Nat} {G G' : List (Nat × PyData)} {e : Expr} {d : PyData} {ds : List PyData} {pos p : Pos} {st : Stmt} {rest : List Stmt}
/-- repr(e) -/
theorem pd_repr (hgd : X.A.guards = some []) (hu : X.A.units + 64 < cLine) (h : PD K X n G e d) (f : Fit 300000 40 d) (u : Uno d) (hm : X.mg "repr" = none) (hg : Gl X "repr" := by rfl) (hs : starEach [e] X.env = (false, eval e X.env) :: starEach [] X.env := by rfl) (hpl : (backTo pos (starEach [] X.env)).any (·.1) = false := by rfl) : PD K X n G (.Call (.Name "repr" p) [e] [] pos) (.str d.shown) :=
  pd_callB (krepr K hgd hu h.hK) hg hm (by decide +kernel) (PDs.cons h PDs.nil hs) (o_repr f u) h.hK (by decide) (by decide) hs hpl
/-- repr(e) != repr(f), the same data -/
theorem pb_reprs {a b : Expr} {s : Str} (h : PD K X n G a (.str s)) (g : PD K X n G b (.str s)) : PB K X n G (.Compare a [.NotEq] [b] pos) false :=
  (pb_cmp op_ne h g o_neS (nomark _)).cast (by simp)
/-! blocks that tell -/
def tLR (K : PySem.W.Frag) (n dk : Nat) (G : List (Nat × PyData)) (d : PyData) : TS := fun D σ H => StD K n dk G σ H ∧ ∀ v H', Dq K H' v d → D.rt v H'
structure PLR (K : PySem.W.Frag) (X : Cx) (n dk : Nat) (G : List (Nat × PyData)) (sts : List Stmt) (d : PyData) : Prop where
  ps : PSs X sts (tLR K n dk G d)
theorem plr_ret (h : PD K X n G e d) : PLR K X n dk G [.Return (some e) pos] d := ⟨pss_imp (pss_one (ps_ret h.pe)) fun D σ H ⟨s, k⟩ => ⟨s.env, fun v H' _ q => k v H' q⟩⟩
theorem plr_cons {G1 : List (Nat × PyData)} (h : PSd K X n dk G st G1) (g : PLR K X n dk G1 rest d) : PLR K X n dk G (st :: rest) d :=
  ⟨pss_imp (pss_cons h.ps g.ps) fun D σ H ⟨s, k⟩ => ⟨s, fun σ' H' _ s' => ⟨s', k⟩⟩⟩
theorem PLR.cast {sts : List Stmt} {d' : PyData} (h : PLR K X n dk G sts d) (q : d = d') : PLR K X n dk G sts d' := q ▸ h
end
end Nk
namespace Nk
open PySem L2
section
variable {K : PySem.W.Frag} {X : Cx} {n : Nat} {G : List (Nat × PyData)} {e : Expr} {ds : List PyData}
/-- e[::-1] -/
theorem pd_rev {k : Nat} {p1 p2 p3 pos : Pos} (h : PD K X n G e (.tuple ds)) : PD K X n G (.Subscript e (.Slice none none (some (.UnaryOp .USub (.Constant (.int 1) k p1) p2)) p3) pos) (.tuple ds.reverse) :=
  .of (pe_revT K h.pe h.hK) (fun σ H Q g k => ⟨g, fun v H1 s1 q => by
    cases q with
    | tup hp ha => exact ⟨_, _, rfl, SqT.of hp, fun p hq => k _ _ (s1.trans (same_new hq)) (.tup upd_same ((DqAll.reverse ha).same (same_new hq)))⟩⟩) h.hK
theorem mxD_congr {l l' : List Int} (h : ∀ x, x ∈ l ↔ x ∈ l') : mxD 0 l = mxD 0 l' := by
  cases l with
  | nil =>
    cases l' with
    | nil => rfl
    | cons y ys => exact absurd ((h y).mpr List.mem_cons_self) (by simp)
  | cons x xs =>
    cases l' with
    | nil => exact absurd ((h x).mp List.mem_cons_self) (by simp)
    | cons y ys => exact mxL_eq ((h _).mp (mxL_mem x xs)) fun z hz => mxL_ge x xs z ((h z).mpr hz)
theorem perm_map {α β : Type} {f : α → β} {l : List α} {es : List β} (h : (l.map f).Perm es) : ∃ o, es = o.map f ∧ l.Perm o := by
  generalize hl : l.map f = m at h
  induction h generalizing l with
  | nil => exact ⟨l, hl.symm, .refl _⟩
  | cons x _ ih =>
    cases l with
    | nil => cases hl
    | cons a l =>
      rw [List.map_cons] at hl
      injection hl with h1 h2
      obtain ⟨o, e, p⟩ := ih h2
      exact ⟨a :: o, by rw [List.map_cons, h1, e], p.cons a⟩
  | swap x y m =>
    cases l with
    | nil => cases hl
    | cons a l =>
      cases l with
      | nil => cases hl
      | cons b l =>
        rw [List.map_cons, List.map_cons] at hl
        injection hl with h1 h2
        injection h2 with h2 h3
        exact ⟨b :: a :: l, by rw [List.map_cons, List.map_cons, h1, h2, h3], List.Perm.swap _ _ _⟩
  | trans _ _ ih1 ih2 =>
    obtain ⟨o, e, p⟩ := ih1 hl
    obtain ⟨o2, e2, p2⟩ := ih2 e.symm
    exact ⟨o2, e2, p.trans p2⟩
theorem list_of_all {α : Type} {f : α → PyData} {ds : List PyData} {p : α → Prop} (h : ∀ d ∈ ds, ∃ x, d = f x ∧ p x) : ∃ xs : List α, ds = xs.map f ∧ xs.length = ds.length ∧ ∀ x ∈ xs, p x := by
  induction ds with
  | nil => exact ⟨[], rfl, rfl, fun x hx => by cases hx⟩
  | cons d ds ih =>
    obtain ⟨x, e, hp⟩ := h d List.mem_cons_self
    obtain ⟨xs, e2, l2, hp2⟩ := ih fun y hy => h y (List.mem_cons_of_mem _ hy)
    exact ⟨x :: xs, by rw [List.map_cons, e, e2], by rw [List.length_cons, List.length_cons, l2], fun y hy => by
      rcases List.mem_cons.mp hy with rfl | hy
      · exact hp
      · exact hp2 y hy⟩
end
end Nk
set_option Elab.async false
set_option linter.all false
set_option maxRecDepth 100000
set_option maxHeartbeats 4000000
namespace Nk
open PySem L2
/-! defs that tell a new list -/
def spF (K : PySem.W.Frag) {α : Type} (enc : α → List PyData) (P : α → Prop) (out : α → List PyData) : Sp := fun vs H Q _ => ∃ a, P a ∧ DqAll K H vs (enc a) ∧ ∀ p ws H', H p = none → Same H H' → H' p = some (.lst ws) → DqAll K H' ws (out a) → Q (.ref p) H'
def tRF (K : PySem.W.Frag) (n : Nat) (G : G3) (ds : List PyData) : TS := fun D σ H => ∃ H0, StE K n H0 G σ H ∧ ∀ p vs H', H0 p = none → Same H0 H' → H' p = some (.lst vs) → DqAll K H' vs ds → D.rt (.ref p) H'
structure PRF (K : PySem.W.Frag) (X : Cx) (n : Nat) (G : G3) (sts : List Stmt) (ds : List PyData) : Prop where
  ps : PSs X sts (tRF K n G ds)
section
variable {K : PySem.W.Frag} {X : Cx} {n : Nat} {G G' : G3} {Γ : List (Nat × PyData)} {e a b c : Expr} {es : List Expr} {d da db dc : PyData} {ds s t : List PyData} {pos p : Pos} {st : Stmt} {rest body : List Stmt}
theorem PRF.cast (h : PRF K X n G rest s) (q : s = t) : PRF K X n G rest t := q ▸ h
theorem PRF.castG (h : PRF K X n G rest s) (q : G = G') : PRF K X n G' rest s := q ▸ h
theorem prf_ret (h : PF K X n G.all e ds) : PRF K X n G [.Return (some e) pos] ds :=
  ⟨pss_imp (pss_one (ps_ret h.pe)) fun D σ H ⟨H0, s, k⟩ => ⟨s.env, fun p vs H' hp e hq ha => k p vs H' (s.old.free hp) (s.old.trans e) hq ha⟩⟩
theorem prf_cons (h : PSt K X n G st G') (g : PRF K X n G' rest ds) : PRF K X n G (st :: rest) ds :=
  ⟨pss_imp (pss_cons h.ps g.ps) fun D σ H ⟨H0, s, k⟩ => ⟨H0, s, fun σ' H' _ s' => ⟨H0, s', k⟩⟩⟩
theorem prf_if {k : Bool} (h : PB K X n G.all c k) (h1 : k = true → PRF K X n G body ds) (h2 : k = false → PRF K X n G rest ds) : PRF K X n G (.If c body [] pos :: rest) ds := by
  cases k with
  | true => exact ⟨pss_imp (pss_cons (ps_if h.pt (h1 rfl).ps pss_never) pss_never) fun D σ H ⟨H0, s, k⟩ => ⟨s.env, fun H' e => iteT ⟨H0, s.same e, k⟩⟩⟩
  | false => exact ⟨pss_imp (pss_cons (ps_if h.pt pss_never pss_nil) (h2 rfl).ps) fun D σ H ⟨H0, s, k⟩ => ⟨s.env, fun H' e => iteF ⟨H0, s.same e, k⟩⟩⟩
/-- one's own list told -/
theorem prf_own {i : Nat} {x : Str} (hi : X.N[i]? = some x) (hv : Vis X.env.scope x) (hl : G.o.lookup i = some ds) (hd : (x == ("__debug__" : Str)) = false := by decide) (hcd : (x == ("__classdict__" : Str)) = false := by decide) : PRF K X n G [.Return (some (.Name x p)) pos] ds :=
  ⟨pss_imp (pss_one (ps_ret (pe_var hi hv hd hcd))) fun D σ H ⟨H0, s, k⟩ => by
    obtain ⟨a, vs, h1, h2, h3, h4, h5⟩ := s.own.get hl
    exact ⟨.ref a, h1, k a vs H h2 s.old h3 h4⟩⟩
theorem pf_call {α : Type} {enc : α → List PyData} {P : α → Prop} {out : α → List PyData} {x : Str} {k : Nat} {ps : List Str} (D : Dk X.prog X.w X.K X.mg X.base k x ps (spF K enc P out)) (hr : Room k X.A) (z : α) (hp : P z) (ha : PDs K X n Γ (e :: es) s) (hd : s = enc z := by rfl) (ho : out z = ds := by rfl) (hg : Gl X x := by rfl) (hdb : (x == ("__debug__" : Str)) = false := by decide)
    (he : starEach (e :: es) X.env = (false, eval e X.env) :: starEach es X.env := by rfl) (hpl : (backTo pos (starEach es X.env)).any (·.1) = false := by rfl) : PF K X n Γ (.Call (.Name x p) (e :: es) [] pos) ds :=
  ho ▸ ⟨pe_imp (pe_dk D hr ha.pa hg hdb he hpl) fun σ H Q ⟨g, q⟩ => ⟨g, fun vs H1 s1 h1 => ⟨z, hp, by rw [List.append_nil, ← hd]; exact h1, fun p ws H' hp e h2 h3 => q p ws H' (s1.free hp) (s1.trans e) h2 h3⟩⟩⟩
/-- a + b of lists is a new list -/
theorem pf_cat (h : PD K X n Γ a (.list s)) (g : PD K X n Γ b (.list t)) (hl : s.length + t.length ≤ sizeLine) : PF K X n Γ (.BinOp a .Add b pos) (s ++ t) :=
  ⟨pe_imp (pe_op op_cat h.pe g.pe) fun σ H Q ⟨e, k⟩ => ⟨e, fun x H1 s1 q1 => ⟨e.same s1, fun y H2 s2 q2 => by
    cases q1 with
    | lst hp ha =>
      cases q2 with
      | lst hq hb =>
        have ha := ha.same s2
        exact ⟨_, _, _, _, rfl, rfl, s2 _ _ hp, hq, by rw [ha.length, hb.length]; exact hl, fun p hpn => k p _ _ ((s1.trans s2).free hpn) ((s1.trans s2).trans (same_new hpn)) upd_same ((ha.append hb).same (same_new hpn))⟩⟩⟩⟩
/-- list(e) -/
theorem pf_list {d : PyData} (h : PD K X n Γ a d) (hd : d = .list s ∨ d = .tuple s) (hm : X.mg "list" = none) (hg : Gl X "list" := by rfl) (na : starEach [a] X.env = (false, eval a X.env) :: starEach [] X.env := by rfl) (hpl : (backTo pos (starEach [] X.env)).any (·.1) = false := by rfl) : PF K X n Γ (.Call (.Name "list" p) [a] [] pos) s :=
  ⟨pe_imp (pe_callTy (klist K h.hK) hg hm (by decide +kernel) (pa_cons h.pe pa_nil na) (by decide) (by decide) na hpl) fun σ H Q ⟨e, k⟩ => ⟨e, fun x H1 s1 q1 => by
    rcases hd with rfl | rfl
    · cases q1 with
      | lst hp ha => exact ⟨_, _, rfl, .inl (SqL.of hp), fun l hl => k l _ _ (s1.free hl) (s1.trans (same_new hl)) upd_same (ha.same (same_new hl))⟩
    · cases q1 with
      | tup hp ha => exact ⟨_, _, rfl, .inr (SqT.of hp), fun l hl => k l _ _ (s1.free hl) (s1.trans (same_new hl)) upd_same (ha.same (same_new hl))⟩⟩⟩
/-- [x] * k of a list -/
theorem o_repL {j : Int} (h0 : -1000 ≤ j) (h1 : j ≤ 1000) (hl : s.length ≤ 1000) : Op2 K rRep (.list s) (.int j) (.list (List.replicate j.toNat s).flatten) := fun x y H Q g1 g2 k => by
  cases g1 with
  | lst hp ha =>
    cases g2
    refine ⟨_, _, _, rfl, rfl, hp, by omega, by omega, ?_, fun p hpn => k _ _ (same_new hpn) (.lst upd_same ((ha.rep _).same (same_new hpn)))⟩
    rw [ha.length]
    have : s.length * j.toNat ≤ 1000 * 1000 := Nat.mul_le_mul hl (by omega)
    exact Nat.le_trans this (by show 1000 * 1000 ≤ sizeLine; decide)
/-- xs[i:j] of a list, xs[:j] of a tuple: as cutV -/
theorem o_gcd {i j : Int} : OpN K rGcd [.int i, .int j] (.int ((Nat.gcd i.natAbs j.natAbs : Nat) : Int)) := fun xs H Q h k => by
  cases h with
  | cons h1 h =>
    cases h with
    | cons h2 h =>
      cases h
      cases h1
      cases h2
      exact ⟨i, j, rfl, k _ H (Same.refl H) (.int _)⟩
def rLcm : List V → Hp → VK → Prop := fun vs H Q => ∃ a b : Int, vs = [.int a, .int b] ∧ a.natAbs < 2 ^ 9000 ∧ b.natAbs < 2 ^ 9000 ∧ Q (.int ((Nat.lcm a.natAbs b.natAbs : Nat) : Int)) H
theorem cr_lcm : CallR X (.builtin "math.lcm") rLcm := by
  intro pins s σ H vs us Q I r h
  obtain ⟨a, b, rfl, ha, hb, q⟩ := h
  obtain ⟨t, u, rfl⟩ := Vals.int2 r
  have la : ∀ {x : Nat}, x < 2 ^ 9000 → x.log2 < 9000 := fun {x} h => by
    by_cases z : x = 0
    · rw [z]; decide
    · exact (Nat.log2_lt z).mpr h
  have h1 : (max 1 a.natAbs).log2 < 9000 := la (by
    have : 1 < 2 ^ 9000 := Nat.lt_of_lt_of_le (show 1 < 2 ^ 1 by decide) (Nat.pow_le_pow_right (by decide) (by decide))
    omega)
  have h2 : (max a.natAbs b.natAbs).log2 < 9000 := la (by omega)
  have hl : Nat.lcm 1 a.natAbs = a.natAbs := by simp [Nat.lcm]
  have hsz : ((((Nat.lcm 1 a.natAbs).lcm b.natAbs : Nat) : Int)).natAbs.log2 < bitsLine := by
    rw [hl, Int.natAbs_natCast]
    have h3 : a.natAbs.lcm b.natAbs ≤ a.natAbs * b.natAbs := PySem.W.mc_lcm_le _ _
    have h4 : a.natAbs.lcm b.natAbs < 2 ^ 18000 := Nat.lt_of_le_of_lt h3 (by
      have : a.natAbs * b.natAbs < 2 ^ 9000 * 2 ^ 9000 := Nat.mul_lt_mul'' ha hb
      rw [← Nat.pow_add] at this
      exact this)
    have h5 : (a.natAbs.lcm b.natAbs).log2 < 18000 := by
      by_cases z : a.natAbs.lcm b.natAbs = 0
      · rw [z]; decide
      · exact (Nat.log2_lt z).mpr h4
    exact Nat.lt_of_lt_of_le h5 (by decide)
  refine PySem.call_function_meets PySem.W.MGF.kind_lcm PySem.W.MGF.plain_lcm PySem.W.MGF.entry_lcm (PySem.W.MGF.args_lcm _ _) (PySem.W.mg_run_lcm a t b u (by omega) (by omega) hsz).meets ?_
  rw [hl]
  exact ⟨.int _, H, I.tok _, ⟨_, rfl⟩, q⟩
theorem o_lcm {i j : Int} (hi : i.natAbs < 2 ^ 9000) (hj : j.natAbs < 2 ^ 9000) : OpN K rLcm [.int i, .int j] (.int ((Nat.lcm i.natAbs j.natAbs : Nat) : Int)) := fun xs H Q h k => by
  cases h with
  | cons h1 h =>
    cases h with
    | cons h2 h =>
      cases h
      cases h1
      cases h2
      exact ⟨i, j, rfl, hi, hj, k _ H (Same.refl H) (.int _)⟩
/-- f(e, ..), f a name for a built-in function of a module -/
theorem pd_callBf {x : Str} {id : String} {r : List V → Hp → VK → Prop} (hc : CallR X (.builtin id) r) (hm : X.mg x = some (.builtin id)) (ha : PDs K X n Γ (e :: es) ds) (q : OpN K r ds d) (hg : Gl X x := by rfl) (hK : X.K = K := by rfl) (hdb : (x == ("__debug__" : Str)) = false := by decide)
    (he : starEach (e :: es) X.env = (false, eval e X.env) :: starEach es X.env := by rfl) (hpl : (backTo pos (starEach es X.env)).any (·.1) = false := by rfl) : PD K X n Γ (.Call (.Name x p) (e :: es) [] pos) d :=
  .of (pe_callBfun hc hg hm ha.pa hdb he hpl) (fun σ H Q g k => ⟨g, fun xs H1 s1 q1 => q xs H1 Q q1 fun v H' s3 q3 => k v H' (s1.trans s3) q3⟩) hK
end
section
variable {P : Program} {w : World} {K : PySem.W.Frag} {mg : Str → Option Value} {base : Heap}
theorem ok_F {α : Type} {enc : α → List PyData} {Pa : α → Prop} {out : α → List PyData} {k : Nat} {f : Addr} {x qual : Str} {st : Stmt} {fd : FuncData} {N ps : List Str} (F : Fun K x qual st f fd) (S : FnScope N ps (defScope st)) (hl : ∀ a, (enc a).length = ps.length) (hN : ps.length ≤ N.length)
    (body : ∀ (cdv : Value) (A : Around) (outer : List PySem.Env) (s : Shared) (H : Hp) (E : XK), Room k (A.deeper (PyProof.Rows.envOfC qual (defScope st) s.heap.objs.size f cdv)) → ∀ a, Pa a →
      PRF K (cxOf CX0 P w K mg base N qual (defScope st) f cdv A outer s H E).nox N.length ⟨numb 0 (enc a), [], []⟩ (defBody st) (out a)) : FnOk P w K mg base CX0 (k + 1) f fd ps (spF K enc Pa out) := by
  refine F.ok S (fun vs H Q E h => ?_) (fun cdv A outer s H vs Q E hr h => ?_)
  · obtain ⟨a, _, h, _⟩ := h
    rw [h.length, hl a]
  · obtain ⟨a, hp, h, q⟩ := h
    refine ⟨_, (body cdv A outer s H E hr a hp).ps, H, ⟨?_, Same.refl H, ?_, trivial, (fun q hq => nomatch hq), trivial⟩, fun p vs H' hp e hq d => q p vs H' hp e hq d⟩
    · unfold L2.start
      have := h.length
      have := hl a
      rw [List.length_append, List.length_map, List.length_replicate]
      omega
    · exact numb_env (l := []) h
end
end Nk
namespace Nk
open PySem L2
def tWk (K : PySem.W.Frag) (n : Nat) (Γ : List (Nat × PyData)) (ds : List PyData) : TI := fun σ H R => Env K n Γ σ H ∧ ∀ J H1, Same H H1 → Walk J ds.length (Same H1) (YD K ds) → R J H1
theorem lc_read {K : PySem.W.Frag} {n : Nat} {Γ : List (Nat × PyData)} {α : Type} {xs : List α} {enc : α → PyData} {out : α → PyData} {Δ : α → List (Nat × PyData)} {keep : α → Bool} {g : TG} {vsl : List Nat} {σ : St} {H : Hp} {Q : VK}
    (htg : ∀ x ∈ xs, Tg K n g vsl (enc x) (Δ x)) (hoff : offK Γ vsl = true) (hno : ∀ x ∈ xs, noL (out x) = true) (hl : xs.length ≤ 100000) (hh : tF K n Γ ((xs.filter keep).map out) σ H Q) :
    tLc (tWk K n Γ (xs.map enc)) g (ttEx K n Γ xs Δ keep) (teEx K n Γ xs Δ keep out) vsl σ H Q := by
  obtain ⟨gE, k⟩ := hh
  refine ⟨gE, fun J H1 s1 w => fun C hC => ?_⟩
  refine lc_it (g := g) (tt := ttEx K n Γ xs Δ keep) (te := teEx K n Γ xs Δ keep out) (vs := vsl) (σ := σ) (Qd := fun H => Q (.ref C) H) w (fun i H' => Same H1 H' ∧ ∃ vs, H' C = some (.lst vs) ∧ DqAll K H' vs (((xs.take i).filter keep).map out)) ⟨same_new hC, [], upd_same, by simpa using DqAll.nil⟩ (fun i H' _ h => h.1) ?_ ?_
  · rintro i x H2 H3 hi2 ⟨s2, vs, eC, hv⟩ ⟨s3, d, hd, qd⟩
    rw [List.length_map] at hi2
    rw [List.getElem?_map, List.getElem?_eq_getElem hi2] at hd
    have hd : enc xs[i] = d := Option.some.inj hd
    subst hd
    have hm := List.getElem_mem hi2
    refine (htg _ hm).run x _ H3 _ (by rw [wipe_length]; exact gE.1) qd fun σ2 w2 l2 o2 e2 => ⟨?_, xs[i], hm, ⟨l2, ?_⟩, fun H4 s4 => ?_⟩
    · rw [w2]
      exact wipe_wipe _ _
    · refine EnvL.append e2 ?_
      have g1 : EnvL K Γ (wipe σ (vsl)) H3 := EnvL.off (fun j hj => wipe_get hj) hoff (gE.2.same ((s1.trans s2).trans s3))
      exact EnvL.off o2 hoff g1
    · have hx : xs[i]? = some xs[i] := List.getElem?_eq_getElem hi2
      cases hk : keep xs[i] with
      | false =>
        refine iteF ⟨(s2.trans s3).trans s4, vs, (s3.trans s4) _ _ eC, ?_⟩
        rw [filter_take_succ keep hx, hk, if_neg Bool.false_ne_true, List.append_nil]
        exact hv.same (s3.trans s4)
      | true =>
        refine iteT ⟨xs[i], ⟨hm, hk⟩, ⟨l2, ?_⟩, fun v H5 s5 q5 => ?_⟩
        · have g1 : EnvL K Γ (wipe σ (vsl)) H3 := EnvL.off (fun j hj => wipe_get hj) hoff (gE.2.same ((s1.trans s2).trans s3))
          exact (EnvL.append e2 (EnvL.off o2 hoff g1)).same s4
        · have s25 := (s3.trans s4).trans s5
          have eC5 := s25 _ _ eC
          have hv5 := hv.same s25
          have hlen : vs.length ≤ 100000 := by
            rw [hv.length, List.length_map]
            refine Nat.le_trans (List.length_filter_le _ _) ?_
            rw [List.length_take]
            omega
          refine ⟨vs, eC5, Nat.lt_of_le_of_lt hlen (by show 100000 < sizeLine; decide), fun b o e => ?_, vs ++ [v], upd_same, ?_⟩
          · rw [upd_ne (fun z => by subst z; rw [hC] at e; cases e)]
            exact s25 _ _ (s2 _ _ e)
          · rw [filter_take_succ keep hx, hk, if_pos rfl, List.map_append]
            refine DqAll.putN eC5 (noLs_all fun d hd => ?_) (hv5.append (.cons q5 .nil))
            rcases List.mem_append.mp hd with hd | hd
            · obtain ⟨x, hx1, rfl⟩ := List.mem_map.mp hd
              exact hno x (List.mem_of_mem_take ((List.mem_filter.mp hx1).1))
            · have : d = out xs[i] := by simpa using hd
              subst this
              exact hno _ hm
  · rintro H2 ⟨s2, vs, eC, hv⟩
    rw [List.length_map, List.take_length] at hv
    exact k C vs H2 (s1.free hC) (s1.trans s2) eC hv
section
variable {K : PySem.W.Frag} {X : Cx} {n : Nat} {Γ : List (Nat × PyData)} {G : G3} {pos : Pos}
/-- [e for x in xs if t], a new list -/
theorem pf_lcF {α : Type} {xs : List α} {enc : α → PyData} {out : α → PyData} {Δ : α → List (Nat × PyData)} {keep : α → Bool} {elt tg it : Expr} {ifs : List Expr} {scope : Scope} {own : List (Str × Nat)} {g : TG}
    (hc : X.calm = true) (nd : X.N.Nodup) (hi : PWk K X n Γ tg it (xs.map enc)) (ok : BlkOk X.N X.env.scope scope own) (hg : ∀ (s : Shared) (H : Hp) (C : Addr) (cl : List (Str × Addr)) (fp : List Addr), PG (X.blk s H scope (compEnvC scope cl C X.env) fp) tg g)
    (htg : ∀ x ∈ xs, Tg K n g (own.map (·.2)) (enc x) (Δ x)) (hoff : offK Γ (own.map (·.2)) = true)
    (ht : ∀ x ∈ xs, ∀ (s : Shared) (H : Hp) (C : Addr) (cl : List (Str × Addr)) (fp : List Addr), PTs (X.blk s H scope (compEnvC scope cl C X.env) fp) ifs (tDb K n (Δ x ++ Γ) (keep x)))
    (he : ∀ x ∈ xs, keep x = true → ∀ (s : Shared) (H : Hp) (C : Addr) (cl : List (Str × Addr)) (fp : List Addr), PE (X.blk s H scope (compEnvC scope cl C X.env) fp) elt (tD K n (Δ x ++ Γ) (out x)))
    (hno : ∀ x ∈ xs, noL (out x) = true) (hl : xs.length ≤ 100000) (hs : ∀ x, foldedSetIterable it X.env x = pure x := by intro _; rfl) :
    PF K X n Γ (.ListComp elt [⟨tg, it, ifs, 0⟩] scope pos) ((xs.filter keep).map out) :=
  ⟨pe_imp (pe_lc (wi := tWk K n Γ (xs.map enc)) (g := g) (tt := ttEx K n Γ xs Δ keep) (te := teEx K n Γ xs Δ keep out) hc nd hi.pi ok hg
    (fun s H C cl fp => ⟨fun pins s' σ H' Q I ⟨x, hx, q⟩ => (ht x hx s H C cl fp).run pins s' σ H' Q I q⟩) (fun s H C cl fp => ⟨fun pins s' σ H' Q I ⟨x, hx, q⟩ => (he x hx.1 hx.2 s H C cl fp).run pins s' σ H' Q I q⟩) hs) fun σ H Q q => lc_read htg hoff hno hl q⟩
theorem pf_lc {α : Type} {xs : List α} {enc : α → PyData} {out : α → PyData} {Δ : α → List (Nat × PyData)} {elt tg it : Expr} {scope : Scope} {own : List (Str × Nat)} {g : TG}
    (hc : X.calm = true) (nd : X.N.Nodup) (hi : PWk K X n Γ tg it (xs.map enc)) (ok : BlkOk X.N X.env.scope scope own) (hg : ∀ (s : Shared) (H : Hp) (C : Addr) (cl : List (Str × Addr)) (fp : List Addr), PG (X.blk s H scope (compEnvC scope cl C X.env) fp) tg g)
    (htg : ∀ x ∈ xs, Tg K n g (own.map (·.2)) (enc x) (Δ x)) (hoff : offK Γ (own.map (·.2)) = true)
    (he : ∀ x ∈ xs, ∀ (s : Shared) (H : Hp) (C : Addr) (cl : List (Str × Addr)) (fp : List Addr), PD K (X.blk s H scope (compEnvC scope cl C X.env) fp) n (Δ x ++ Γ) elt (out x))
    (hno : ∀ x ∈ xs, noL (out x) = true) (hl : xs.length ≤ 100000) (hs : ∀ x, foldedSetIterable it X.env x = pure x := by intro _; rfl) :
    PF K X n Γ (.ListComp elt [⟨tg, it, [], 0⟩] scope pos) (xs.map out) := by
  have := pf_lcF (keep := fun _ => true) (pos := pos) hc nd hi ok hg htg hoff (fun x hx s H C cl fp => ⟨fun pins s' σ H' Q I q => pts_nil.run pins s' σ H' Q I (q.2 H' (Same.refl H'))⟩) (fun x hx _ s H C cl fp => (he x hx s H C cl fp).pe) hno hl hs
  rw [filter_yes] at this
  exact this
/-- y = [e for x in xs if t] -/
theorem pst_lcF {α : Type} {xs : List α} {enc : α → PyData} {out : α → PyData} {Δ : α → List (Nat × PyData)} {keep : α → Bool} {i : Nat} {y : Str} {py spos : Pos} {elt tg it : Expr} {ifs : List Expr} {scope : Scope} {own : List (Str × Nat)} {g : TG}
    (hc : X.calm = true) (nd : X.N.Nodup) (hy : X.N[i]? = some y) (hyl : X.env.scope.names.lookup y = some .local) (hin : i < n) (hsw : swapsWith (.ListComp elt [⟨tg, it, ifs, 0⟩] scope pos) (some (.Name y py)) spos.line X.env = pure true)
    (hi : PWk K X n G.all tg it (xs.map enc)) (ok : BlkOk X.N X.env.scope scope own) (hg : ∀ (s : Shared) (H : Hp) (C : Addr) (cl : List (Str × Addr)) (fp : List Addr), PG (X.blk s H scope (compEnvC scope cl C X.env) fp) tg g)
    (htg : ∀ x ∈ xs, Tg K n g (own.map (·.2)) (enc x) (Δ x)) (hoff : offK G.all (own.map (·.2)) = true)
    (ht : ∀ x ∈ xs, ∀ (s : Shared) (H : Hp) (C : Addr) (cl : List (Str × Addr)) (fp : List Addr), PTs (X.blk s H scope (compEnvC scope cl C X.env) fp) ifs (tDb K n (Δ x ++ G.all) (keep x)))
    (he : ∀ x ∈ xs, keep x = true → ∀ (s : Shared) (H : Hp) (C : Addr) (cl : List (Str × Addr)) (fp : List Addr), PE (X.blk s H scope (compEnvC scope cl C X.env) fp) elt (tD K n (Δ x ++ G.all) (out x)))
    (hno : ∀ x ∈ xs, noM (out x) = true) (hl : xs.length ≤ 100000) (hs : ∀ x, foldedSetIterable it X.env x = pure x := by intro _; rfl) :
    PSt K X n G (.Assign [.Name y py] (.ListComp elt [⟨tg, it, ifs, 0⟩] scope pos) spos) (G.new i ((xs.filter keep).map out)) :=
  ⟨ps_imp (ps_setLc (wi := tWk K n G.all (xs.map enc)) (g := g) (tt := ttEx K n G.all xs Δ keep) (te := teEx K n G.all xs Δ keep out) hc nd hy hyl hsw hi.pi ok hg
    (fun s H C cl fp => ⟨fun pins s' σ H' Q I ⟨x, hx, q⟩ => (ht x hx s H C cl fp).run pins s' σ H' Q I q⟩) (fun s H C cl fp => ⟨fun pins s' σ H' Q I ⟨x, hx, q⟩ => (he x hx.1 hx.2 s H C cl fp).run pins s' σ H' Q I q⟩) hs)
    fun D σ H ⟨H0, s, k⟩ => lc_read htg hoff (fun x hx => noM_noL (hno x hx)) hl ⟨s.env, fun p vs H' hp e hp' q => k _ H' (Same.ts e) (s.new hin hp e hp' q (noMs_all fun d hd => by
      obtain ⟨x, hx, rfl⟩ := List.mem_map.mp hd
      exact hno x (List.mem_filter.mp hx).1))⟩⟩
theorem pst_lc {α : Type} {xs : List α} {enc : α → PyData} {out : α → PyData} {Δ : α → List (Nat × PyData)} {i : Nat} {y : Str} {py spos : Pos} {elt tg it : Expr} {scope : Scope} {own : List (Str × Nat)} {g : TG}
    (hc : X.calm = true) (nd : X.N.Nodup) (hy : X.N[i]? = some y) (hyl : X.env.scope.names.lookup y = some .local) (hin : i < n) (hsw : swapsWith (.ListComp elt [⟨tg, it, [], 0⟩] scope pos) (some (.Name y py)) spos.line X.env = pure true)
    (hi : PWk K X n G.all tg it (xs.map enc)) (ok : BlkOk X.N X.env.scope scope own) (hg : ∀ (s : Shared) (H : Hp) (C : Addr) (cl : List (Str × Addr)) (fp : List Addr), PG (X.blk s H scope (compEnvC scope cl C X.env) fp) tg g)
    (htg : ∀ x ∈ xs, Tg K n g (own.map (·.2)) (enc x) (Δ x)) (hoff : offK G.all (own.map (·.2)) = true)
    (he : ∀ x ∈ xs, ∀ (s : Shared) (H : Hp) (C : Addr) (cl : List (Str × Addr)) (fp : List Addr), PD K (X.blk s H scope (compEnvC scope cl C X.env) fp) n (Δ x ++ G.all) elt (out x))
    (hno : ∀ x ∈ xs, noM (out x) = true) (hl : xs.length ≤ 100000) (hs : ∀ x, foldedSetIterable it X.env x = pure x := by intro _; rfl) :
    PSt K X n G (.Assign [.Name y py] (.ListComp elt [⟨tg, it, [], 0⟩] scope pos) spos) (G.new i (xs.map out)) := by
  have := pst_lcF (keep := fun _ => true) (pos := pos) hc nd hy hyl hin hsw hi ok hg htg hoff (fun x hx s H C cl fp => ⟨fun pins s' σ H' Q I q => pts_nil.run pins s' σ H' Q I (q.2 H' (Same.refl H'))⟩) (fun x hx _ s H C cl fp => (he x hx s H C cl fp).pe) hno hl hs
  rw [filter_yes] at this
  exact this
end
end Nk
set_option Elab.async false
set_option linter.all false
set_option maxRecDepth 100000
set_option maxHeartbeats 4000000
namespace Nk
open PySem L2
def isNo : PyData → Bool
  | .none => true
  | _ => false
section
variable {K : PySem.W.Frag} {X : Cx} {n : Nat} {G G' : G3} {Γ : List (Nat × PyData)} {e a b c : Expr} {es : List Expr} {d da db dc : PyData} {ds s t : List PyData} {pos p : Pos} {st : Stmt} {rest body : List Stmt}
/-- e is None -/
theorem o_isN : Op2 K (fun x y H Q => y = .non ∧ Q (.bl (decide (x = .non))) H) d .none (.bool (isNo d)) := fun x y H Q h g k => by
  cases g
  refine ⟨rfl, ?_⟩
  have : decide (x = .non) = isNo d := by cases h <;> rfl
  rw [this]
  exact k _ H (Same.refl H) (.bl _)
theorem op_notN' : OpR X (compareOp .IsNot) (fun x y H Q => y = .non ∧ Q (.bl (!decide (x = .non))) H) := op_notN
theorem o_notN : Op2 K (fun x y H Q => y = .non ∧ Q (.bl (!decide (x = .non))) H) d .none (.bool (!isNo d)) := fun x y H Q h g k => by
  cases g
  refine ⟨rfl, ?_⟩
  have : decide (x = .non) = isNo d := by cases h <;> rfl
  rw [this]
  exact k _ H (Same.refl H) (.bl _)
/-- a, b = e, f -/
theorem pst_par {i j : Nat} {x y : Str} {px py pt : Pos} {kt k2 : Nat} {pt2 : Pos} (nd : X.N.Nodup) (hi : X.N[i]? = some x) (hj : X.N[j]? = some y) (hij : i ≠ j) (hx : X.env.scope.names.lookup x = some .local) (hy : X.env.scope.names.lookup y = some .local) (hin : i < n) (hjn : j < n) (hc : X.calm = true)
    (ha : PDs K X n G.all [a, b] [da, db]) (hna : noM da = true) (hnb : noM db = true) (hw : swappedStores [.Tuple [.Name x px, .Name y py] kt pt] (.Tuple [a, b] k2 pt2) X.env = pure (some [x, y]))
    (hs : swapsWithSole [.Tuple [.Name x px, .Name y py] kt pt] (.Tuple [a, b] k2 pt2) pos.line X.env = pure false := by rfl) :
    PSt K X n G (.Assign [.Tuple [.Name x px, .Name y py] kt pt] (.Tuple [a, b] k2 pt2) pos) ((G.put i da).put j db) :=
  ⟨ps_imp (ps_par hc nd hi hj hij hx hy ha.pa hw hs) fun D σ H ⟨H0, s, k⟩ => ⟨s.env, fun vs H' e q => by
    cases q with
    | cons q1 q =>
      cases q with
      | cons q2 q =>
        cases q
        exact ⟨_, _, rfl, k _ H' (Same.ts e) (((s.same e).put hin q1 hna).put hjn q2 hnb)⟩⟩⟩
/-- zip of two arguments that are lists -/
theorem pws_zipP {elts : List Expr} {kk : Nat} {tpos p1 p2 : Pos} {i j : Nat} {x y : Str} (hi : X.N[i]? = some x) (hv : Vis X.env.scope x) (hj : X.N[j]? = some y) (hv2 : Vis X.env.scope y) (hl : G.p.lookup i = some (.list s)) (hl2 : G.p.lookup j = some (.list t)) (hg : Gl X "zip") (hm : X.mg "zip" = none) (hK : X.K = K := by rfl)
    (hd : (x == ("__debug__" : Str)) = false := by decide) (hcd : (x == ("__classdict__" : Str)) = false := by decide) (hd2 : (y == ("__debug__" : Str)) = false := by decide) (hcd2 : (y == ("__classdict__" : Str)) = false := by decide)
    (hs : starEach [.Name x p1, .Name y p2] X.env = (false, eval (.Name x p1) X.env) :: starEach [.Name y p2] X.env := by rfl) (hs2 : starEach [.Name y p2] X.env = (false, eval (.Name y p2) X.env) :: starEach [] X.env := by rfl) (hpl : (backTo pos (starEach [.Name y p2] X.env)).any (·.1) = false := by rfl) :
    PWs K X n G (.Tuple elts kk tpos) (.Call (.Name "zip" p) [.Name x p1, .Name y p2] [] pos) (zipD s t) := by
  refine ⟨pi_imp (RZ.pi_zipA hg hm (pa_cons (pe_var hi hv hd hcd) (pa_cons (pe_var hj hv2 hd2 hcd2) pa_nil hs2) hs) hs hpl) fun σ H R ⟨H0, st, k⟩ => ?_⟩
  subst hK
  obtain ⟨v, h1, q1⟩ := st.par.get hl
  obtain ⟨w, h2, q2⟩ := st.par.get hl2
  refine ⟨v, h1, w, h2, ?_⟩
  cases q1 with
  | lst hp ha =>
    cases q2 with
    | lst hq hb =>
      refine ⟨_, _, _, _, rfl, .inl ⟨SqL.of (st.old _ _ hp), SqL.of (st.old _ _ hq), k _ H (Same.refl H) ?_⟩⟩
      rw [zipD_length, ← ha.length, ← hb.length]
      refine (walk_zip rfl).mono (fun H s => ⟨SqL.of (s.1 _ _ hp), SqL.of (s.1 _ _ hq)⟩) fun i H v H' hi s y => ?_
      obtain ⟨T, x, y, rfl, hT, rfl, e1, e2⟩ := y
      obtain ⟨d1, g1, f1⟩ := ha.get e1
      obtain ⟨d2, g2, f2⟩ := hb.get e2
      have sT : Same H (upd H T (.tup [x, y])) := same_new hT
      exact ⟨sT, _, zipD_get g1 g2, .tup upd_same (.cons ((f1.same s.1).same sT) (.cons ((f2.same s.1).same sT) .nil))⟩
end
end Nk
set_option Elab.async false
set_option linter.all false
set_option maxRecDepth 100000
set_option maxHeartbeats 4000000
namespace Nk
open PySem L2
/-! sums -/
def sm : Nat → (Nat → Int) → Int
  | 0, _ => 0
  | n + 1, f => sm n f + f n
theorem sm_congr {n : Nat} {f g : Nat → Int} (h : ∀ k, k < n → f k = g k) : sm n f = sm n g := by
  induction n with
  | zero => rfl
  | succ n ih =>
    show sm n f + f n = sm n g + g n
    rw [ih fun k hk => h k (by omega), h n (by omega)]
theorem sm_add (n : Nat) (f g : Nat → Int) : sm n (fun k => f k + g k) = sm n f + sm n g := by
  induction n with
  | zero => rfl
  | succ n ih => show sm n (fun k => f k + g k) + (f n + g n) = (sm n f + f n) + (sm n g + g n); rw [ih]; omega
theorem sm_mul (n : Nat) (c : Int) (f : Nat → Int) : sm n (fun k => c * f k) = c * sm n f := by
  induction n with
  | zero => show (0 : Int) = c * 0; omega
  | succ n ih => show sm n (fun k => c * f k) + c * f n = c * (sm n f + f n); rw [ih, Int.mul_add]
theorem sm_sub (n : Nat) (f g : Nat → Int) : sm n (fun k => f k - g k) = sm n f - sm n g := by
  induction n with
  | zero => rfl
  | succ n ih => show sm n (fun k => f k - g k) + (f n - g n) = (sm n f + f n) - (sm n g + g n); rw [ih]; omega
theorem sm_zero {n : Nat} {f : Nat → Int} (h : ∀ k, k < n → f k = 0) : sm n f = 0 := by
  induction n with
  | zero => rfl
  | succ n ih => show sm n f + f n = 0; rw [ih fun k hk => h k (by omega), h n (by omega)]; rfl
theorem sm_dvd {n : Nat} {b : Int} {f : Nat → Int} (h : ∀ k, k < n → b ∣ f k) : b ∣ sm n f := by
  induction n with
  | zero => exact ⟨0, by show (0 : Int) = b * 0; omega⟩
  | succ n ih => exact Int.dvd_add (ih fun k hk => h k (by omega)) (h n (by omega))
theorem sm_one {n j : Nat} {f : Nat → Int} (hj : j < n) (h : ∀ k, k < n → k ≠ j → f k = 0) : sm n f = f j := by
  induction n with
  | zero => omega
  | succ n ih =>
    show sm n f + f n = f j
    by_cases e : j = n
    · subst e
      rw [sm_zero fun k hk => h k (by omega) (by omega)]
      omega
    · rw [ih (by omega) fun k hk hn => h k (by omega) hn, h n (by omega) (fun z => e z.symm)]
      omega
/-! a greatest common divisor taken out -/
def gcdI (a b : Int) : Int := ((Nat.gcd a.natAbs b.natAbs : Nat) : Int)
def gcdL (ns : List Int) : Int := ns.foldl gcdI 0
def redR (ns : List Int) : List Int := ns.map fun x => x / gcdL ns
theorem gcdI_nonneg (a b : Int) : 0 ≤ gcdI a b := Int.natCast_nonneg _
theorem gcdI_left (a b : Int) : gcdI a b ∣ a := by
  unfold gcdI
  exact Int.dvd_natAbs.mp (Int.natCast_dvd_natCast.mpr (Nat.gcd_dvd_left _ _))
theorem gcdI_right (a b : Int) : gcdI a b ∣ b := by
  unfold gcdI
  exact Int.dvd_natAbs.mp (Int.natCast_dvd_natCast.mpr (Nat.gcd_dvd_right _ _))
theorem foldl_gcd_dvd : ∀ (ns : List Int) (a : Int), ns.foldl gcdI a ∣ a ∧ ∀ x ∈ ns, ns.foldl gcdI a ∣ x
  | [], a => ⟨Int.dvd_refl a, fun x hx => by cases hx⟩
  | n :: ns, a => by
    have ih := foldl_gcd_dvd ns (gcdI a n)
    refine ⟨Int.dvd_trans ih.1 (gcdI_left a n), fun x hx => ?_⟩
    rcases List.mem_cons.mp hx with rfl | hx
    · exact Int.dvd_trans ih.1 (gcdI_right a _)
    · exact ih.2 x hx
theorem gcdL_dvd {ns : List Int} {x : Int} (h : x ∈ ns) : gcdL ns ∣ x := (foldl_gcd_dvd ns 0).2 x h
theorem foldl_gcd_nonneg : ∀ (ns : List Int) (a : Int), 0 ≤ a → 0 ≤ ns.foldl gcdI a
  | [], a, h => h
  | n :: ns, a, _ => foldl_gcd_nonneg ns _ (gcdI_nonneg a n)
theorem gcdL_nonneg (ns : List Int) : 0 ≤ gcdL ns := foldl_gcd_nonneg ns 0 (Int.le_refl _)
theorem foldl_gcd_max : ∀ (ns : List Int) (a d : Int), d ∣ a → (∀ x ∈ ns, d ∣ x) → d ∣ ns.foldl gcdI a
  | [], a, d, h, _ => h
  | n :: ns, a, d, h, g => by
    refine foldl_gcd_max ns _ d ?_ fun x hx => g x (List.mem_cons_of_mem _ hx)
    unfold gcdI
    have h1 := Int.natAbs_dvd_natAbs.mpr h
    have h2 := Int.natAbs_dvd_natAbs.mpr (g n List.mem_cons_self)
    exact Int.natAbs_dvd.mp (Int.natCast_dvd_natCast.mpr (Nat.dvd_gcd h1 h2))
theorem gcdL_max {ns : List Int} {d : Int} (h : ∀ x ∈ ns, d ∣ x) : d ∣ gcdL ns := foldl_gcd_max ns 0 d ⟨0, by omega⟩ h
theorem gcdL_pos {ns : List Int} {x : Int} (h : x ∈ ns) (h0 : x ≠ 0) : 0 < gcdL ns := by
  have h1 := gcdL_nonneg ns
  rcases Int.lt_or_eq_of_le h1 with z | z
  · exact z
  · have := gcdL_dvd h
    rw [← z] at this
    exact absurd (Int.zero_dvd.mp this) h0
def Bits (b : Nat) (x : Int) : Prop := x.natAbs < 2 ^ b
theorem Bits.mono {a b : Nat} {x : Int} (h : Bits a x) (hb : a ≤ b) : Bits b x := Nat.lt_of_lt_of_le h (Nat.pow_le_pow_right (by decide) hb)
theorem Bits.mul {a b : Nat} {x y : Int} (h : Bits a x) (g : Bits b y) : Bits (a + b) (x * y) := by
  unfold Bits at *
  rw [Int.natAbs_mul, Nat.pow_add]
  exact Nat.mul_lt_mul'' h g
theorem Bits.sub {a : Nat} {x y : Int} (h : Bits a x) (g : Bits a y) : Bits (a + 1) (x - y) := by
  unfold Bits at *
  rw [Nat.pow_succ]
  omega
theorem Bits.add {a : Nat} {x y : Int} (h : Bits a x) (g : Bits a y) : Bits (a + 1) (x + y) := by
  unfold Bits at *
  rw [Nat.pow_succ]
  omega
theorem Bits.le {a : Nat} {x y : Int} (h : Bits a y) (g : x.natAbs ≤ y.natAbs) : Bits a x := Nat.lt_of_le_of_lt g h
theorem Bits.dvd {a : Nat} {x y : Int} (h : Bits a y) (g : x ∣ y) (h0 : y ≠ 0) : Bits a x := h.le (Nat.le_of_dvd (by omega) (Int.natAbs_dvd_natAbs.mpr g))
theorem div_exact {x g : Int} (h : g ∣ x) (h0 : g ≠ 0) : x = g * (x / g) := (Int.mul_ediv_cancel' h).symm
theorem Bits.div {a : Nat} {x g : Int} (h : Bits a x) (hg : g ∣ x) (h0 : g ≠ 0) : Bits a (x / g) := h.le (by
  have e := div_exact hg h0
  have : x.natAbs = g.natAbs * (x / g).natAbs := by rw [← Int.natAbs_mul, ← e]
  rw [this]
  exact Nat.le_mul_of_pos_left _ (by omega))
/-- the i-th of a list -/
abbrev at' (L : List Int) (i : Nat) : Int := L.getD i 0
theorem at_map {L : List Int} {f : Int → Int} {i : Nat} (h0 : f 0 = 0) : at' (L.map f) i = f (at' L i) := by
  unfold at'
  rw [List.getD_eq_getElem?_getD, List.getD_eq_getElem?_getD, List.getElem?_map]
  cases L[i]? <;> simp [h0]
theorem at_red {ns : List Int} {i : Nat} : at' (redR ns) i = at' ns i / gcdL ns := at_map (f := fun x => x / gcdL ns) (Int.zero_ediv _)
theorem at_mem {L : List Int} {i : Nat} (h : i < L.length) : at' L i ∈ L := by
  unfold at'
  rw [List.getD_eq_getElem?_getD, List.getElem?_eq_getElem h]
  exact List.getElem_mem h
theorem at_out {L : List Int} {i : Nat} (h : L.length ≤ i) : at' L i = 0 := by
  unfold at'
  rw [List.getD_eq_getElem?_getD, List.getElem?_eq_none h]
  rfl
theorem gcd_at (ns : List Int) (i : Nat) : gcdL ns ∣ at' ns i := by
  by_cases h : i < ns.length
  · exact gcdL_dvd (at_mem h)
  · rw [at_out (by omega)]
    exact ⟨0, by omega⟩
/-- the items of reduced, each times the divisor -/
theorem red_mul {ns : List Int} (h : 0 < gcdL ns) (i : Nat) : gcdL ns * at' (redR ns) i = at' ns i := by
  rw [at_red]
  exact (div_exact (gcd_at ns i) (by omega)).symm
theorem red_length (ns : List Int) : (redR ns).length = ns.length := by unfold redR; rw [List.length_map]
def AllB (b : Nat) (L : List Int) : Prop := ∀ i, Bits b (at' L i)
theorem red_bits {ns : List Int} {b : Nat} (h : 0 < gcdL ns) (hb : AllB b ns) : AllB b (redR ns) := fun i => by
  rw [at_red]
  exact (hb i).div (gcd_at ns i) (by omega)
/-! a line with as much of another taken off -/
def mixR (L : List Int) (p : Nat) (O : List Int) : List Int := (L.zip O).map fun q => at' O p * q.1 - at' L p * q.2
def clr (L : List Int) (p : Nat) (O : List Int) : List Int := redR (mixR L p O)
theorem mix_length {L O : List Int} {p : Nat} (h : L.length = O.length) : (mixR L p O).length = L.length := by unfold mixR; rw [List.length_map, List.length_zip, h, Nat.min_self]
theorem mix_at {L O : List Int} {p i : Nat} (h : L.length = O.length) : at' (mixR L p O) i = at' O p * at' L i - at' L p * at' O i := by
  by_cases hi : i < L.length
  · have hi2 : i < O.length := by omega
    have hz : (L.zip O)[i]? = some (L[i], O[i]) := (List.getElem?_zip_eq_some (z := (L[i], O[i]))).mpr ⟨List.getElem?_eq_getElem hi, List.getElem?_eq_getElem hi2⟩
    unfold mixR at'
    rw [List.getD_eq_getElem?_getD, List.getElem?_map, hz, List.getD_eq_getElem?_getD (l := L) (i := i), List.getElem?_eq_getElem hi, List.getD_eq_getElem?_getD (l := O) (i := i), List.getElem?_eq_getElem hi2]
    rfl
  · rw [at_out (L := mixR L p O) (by rw [mix_length h]; omega), at_out (L := L) (i := i) (by omega), at_out (L := O) (i := i) (by omega), Int.mul_zero, Int.mul_zero]
    rfl
/-! lines that tell how they are made of the columns -/
def ent (cs : List (List Int)) (k i : Nat) : Int := at' (cs.getD k []) i
/-- the first m items come to the columns times the others -/
def Rel (m : Nat) (cs : List (List Int)) (L : List Int) : Prop := ∀ i, i < m → at' L i = sm cs.length fun k => at' L (m + k) * ent cs k i
theorem Rel.mix {m : Nat} {cs : List (List Int)} {L O : List Int} {p : Nat} (h : L.length = O.length) (a : Rel m cs L) (b : Rel m cs O) : Rel m cs (mixR L p O) := fun i hi => by
  have e1 := a i hi
  have e2 := b i hi
  rw [mix_at h]
  have : (sm cs.length fun k => at' (mixR L p O) (m + k) * ent cs k i) = sm cs.length fun k => at' O p * (at' L (m + k) * ent cs k i) - at' L p * (at' O (m + k) * ent cs k i) := sm_congr fun k _ => by
    show at' (mixR L p O) (m + k) * ent cs k i = _
    rw [mix_at h, Int.sub_mul, Int.mul_assoc, Int.mul_assoc]
  rw [this, sm_sub, sm_mul, sm_mul, ← e1, ← e2]
theorem Rel.red {m : Nat} {cs : List (List Int)} {L : List Int} (h : 0 < gcdL L) (a : Rel m cs L) : Rel m cs (redR L) := fun i hi => by
  have e := a i hi
  have : gcdL L * at' (redR L) i = gcdL L * sm cs.length fun k => at' (redR L) (m + k) * ent cs k i := by
    rw [red_mul h, e, ← sm_mul]
    refine sm_congr fun k _ => ?_
    show at' L (m + k) * ent cs k i = gcdL L * (at' (redR L) (m + k) * ent cs k i)
    rw [← Int.mul_assoc, red_mul h]
  exact Int.eq_of_mul_eq_mul_left (by omega) this
/-- the bits of the r-th line -/
def beta (a : Nat) : Nat → Nat
  | 0 => a
  | r + 1 => 2 * beta a r + 1
/-- a line of column r among the kept ones: its place p -/
structure KL (a m n : Nat) (cs : List (List Int)) (r : Nat) (q : Nat × List Int) : Prop where
  len : q.2.length = m + n
  plc : q.1 < m
  piv : at' q.2 q.1 ≠ 0
  rel : Rel m cs q.2
  sup : ∀ k, r < k → at' q.2 (m + k) = 0
  own : at' q.2 (m + r) ≠ 0
  bit : AllB (beta a r) q.2
structure KI (a m n : Nat) (cs : List (List Int)) (kept : List (Nat × List Int)) : Prop where
  one : ∀ (r : Nat) q, kept[r]? = some q → KL a m n cs r q
  off : ∀ (r s : Nat) q t, kept[r]? = some q → kept[s]? = some t → s < r → at' q.2 t.1 = 0
/-- the product of the pivots of the first f -/
def pvs (kept : List (Nat × List Int)) : Nat → Int
  | 0 => 1
  | f + 1 => pvs kept f * (match kept[f]? with | some q => at' q.2 q.1 | none => 1)
theorem dvd_cancel {M a b : Int} (h0 : M ≠ 0) (h : M * a ∣ M * b) : a ∣ b := by
  obtain ⟨c, hc⟩ := h
  exact ⟨c, Int.eq_of_mul_eq_mul_left h0 (by rw [hc, Int.mul_assoc])⟩
/-- how large a common bottom of what solves it must be -/
theorem KI.bottom {a m n : Nat} {cs : List (List Int)} {kept : List (Nat × List Int)} (K : KI a m n cs kept) (hn : cs.length = n) : ∀ (f : Nat), f ≤ kept.length → ∀ (b : Int) (x : Nat → Int), (∀ k, f ≤ k → x k = 0) →
    (∀ (r : Nat) q, r < f → kept[r]? = some q → b ∣ sm n fun k => x k * ent cs k q.1) → ∀ k, b ∣ pvs kept f * x k
  | 0, _, b, x, hx, _, k => ⟨0, by rw [hx k (Nat.zero_le _)]; omega⟩
  | f + 1, hf, b, x, hx, hw, k => by
    have hq : kept[f]? = some kept[f] := List.getElem?_eq_getElem (by omega)
    generalize kept[f] = q at hq
    have L := K.one f q hq
    have eP : pvs kept (f + 1) = pvs kept f * at' q.2 q.1 := by show pvs kept f * (match kept[f]? with | some q => at' q.2 q.1 | none => 1) = _; rw [hq]
    generalize hM : at' q.2 (m + f) = M at *
    have M0 : M ≠ 0 := by rw [← hM]; exact L.own
    generalize hE : pvs kept f = E at *
    generalize hP : at' q.2 q.1 = p at *
    -- x without its last one
    have key : ∀ i, i < m → (sm n fun k => (M * x k - x f * at' q.2 (m + k)) * ent cs k i) = M * (sm n fun k => x k * ent cs k i) - x f * at' q.2 i := fun i hi => by
      have e := L.rel i hi
      rw [hn] at e
      rw [e, ← sm_mul, ← sm_mul, ← sm_sub]
      refine sm_congr fun k _ => ?_
      show (M * x k - x f * at' q.2 (m + k)) * ent cs k i = M * (x k * ent cs k i) - x f * (at' q.2 (m + k) * ent cs k i)
      rw [Int.sub_mul, Int.mul_assoc, Int.mul_assoc]
    have ih := KI.bottom K hn f (by omega) (M * b) (fun k => M * x k - x f * at' q.2 (m + k)) (fun k hk => by
      show M * x k - x f * at' q.2 (m + k) = 0
      by_cases e : k = f
      · subst e; rw [hM, Int.mul_comm]; omega
      · rw [hx k (by omega), L.sup k (by omega)]; omega) (fun r t hr ht => by
      have Lt := K.one r t ht
      rw [key t.1 Lt.plc, K.off f r q t hq ht hr, Int.mul_zero, Int.sub_zero]
      exact Int.mul_dvd_mul_left M (hw r t (by omega) ht))
    rw [hE] at ih
    have h1 : M * b ∣ E * p * x f := by
      have e1 : M * b ∣ E * (M * (sm n fun k => x k * ent cs k q.1) - x f * p) := by
        rw [← hP, ← key q.1 L.plc, ← sm_mul]
        refine sm_dvd fun k _ => ?_
        have := ih k
        show M * b ∣ E * ((M * x k - x f * at' q.2 (m + k)) * ent cs k q.1)
        rw [← Int.mul_assoc]
        exact Int.dvd_mul_of_dvd_left this
      have e2 : M * b ∣ E * (M * (sm n fun k => x k * ent cs k q.1)) := by
        have := Int.mul_dvd_mul_left M (hw f q (by omega) hq)
        rw [Int.mul_comm E]
        exact Int.dvd_mul_of_dvd_left this
      have e3 := Int.dvd_sub e2 e1
      have e4 : E * (M * (sm n fun k => x k * ent cs k q.1)) - E * (M * (sm n fun k => x k * ent cs k q.1) - x f * p) = E * p * x f := by
        rw [← Int.mul_sub, show M * (sm n fun k => x k * ent cs k q.1) - (M * (sm n fun k => x k * ent cs k q.1) - x f * p) = x f * p by omega, Int.mul_comm (x f), Int.mul_assoc]
      rw [e4] at e3
      exact e3
    rw [eP]
    refine dvd_cancel M0 ?_
    have h2 := ih k
    have h3 : M * b ∣ p * (E * (M * x k - x f * at' q.2 (m + k))) := by rw [Int.mul_comm p]; exact Int.dvd_mul_of_dvd_left h2
    have h4 : M * b ∣ at' q.2 (m + k) * (E * p * x f) := by rw [Int.mul_comm (at' q.2 (m + k))]; exact Int.dvd_mul_of_dvd_left h1
    have h5 := Int.dvd_add h3 h4
    have e5 : p * (E * (M * x k - x f * at' q.2 (m + k))) + at' q.2 (m + k) * (E * p * x f) = M * (E * p * x k) := by
      grind
    rw [e5] at h5
    exact h5
end Nk
set_option Elab.async false
set_option linter.all false
set_option maxRecDepth 100000
set_option maxHeartbeats 4000000
namespace Nk
open PySem L2
/-! the elimination, as the program does it -/
theorem beta_mono (a : Nat) : ∀ {r s : Nat}, r ≤ s → beta a r ≤ beta a s
  | r, 0, h => by have : r = 0 := by omega
                  subst this; exact Nat.le_refl _
  | r, s + 1, h => by
    rcases Nat.lt_or_ge s r with z | z
    · have : r = s + 1 := by omega
      subst this
      exact Nat.le_refl _
    · exact Nat.le_trans (beta_mono a z) (by show beta a s ≤ 2 * beta a s + 1; omega)
theorem beta_ge (a r : Nat) : a ≤ beta a r := beta_mono a (Nat.zero_le r)
theorem KI.pvs_bits {a m n : Nat} {cs : List (List Int)} {kept : List (Nat × List Int)} (K : KI a m n cs kept) : ∀ f, f ≤ kept.length → pvs kept f ≠ 0 ∧ Bits (beta a f + 1 - a) (pvs kept f)
  | 0, _ => ⟨by show (1 : Int) ≠ 0; decide, by
      show Bits (a + 1 - a) 1
      unfold Bits
      rw [show a + 1 - a = 1 by omega]
      decide⟩
  | f + 1, hf => by
    obtain ⟨h1, h2⟩ := K.pvs_bits f (by omega)
    have hq : kept[f]? = some kept[f] := List.getElem?_eq_getElem (by omega)
    generalize kept[f] = q at hq
    have L := K.one f q hq
    have eP : pvs kept (f + 1) = pvs kept f * at' q.2 q.1 := by show pvs kept f * (match kept[f]? with | some q => at' q.2 q.1 | none => 1) = _; rw [hq]
    rw [eP]
    refine ⟨Int.mul_ne_zero h1 L.piv, (h2.mul (L.bit q.1)).mono ?_⟩
    show beta a f + 1 - a + beta a f ≤ 2 * beta a f + 1 + 1 - a
    have := beta_ge a f
    omega
/-- the start of column j's line -/
def startL (n j : Nat) (c : List Int) : List Int := c ++ (List.replicate j 0 ++ ([1] ++ List.replicate (n - j - 1) 0))
def clrAll (L : List Int) (kept : List (Nat × List Int)) : List Int := kept.foldl (fun L q => clr L q.1 q.2) L
def filledM (m : Nat) (L : List Int) : List Nat := (List.range m).filter fun p => decide (at' L p ≠ 0)
def stepM (cs : List (List Int)) (m : Nat) (kept : List (Nat × List Int)) (j : Nat) : List Int := clrAll (startL cs.length j (cs.getD j [])) kept
/-- .inl: what the columns come to a nought by; .inr: the kept lines -/
def runM (cs : List (List Int)) (m : Nat) : Nat → List Int ⊕ List (Nat × List Int)
  | 0 => .inr []
  | j + 1 => match runM cs m j with
    | .inl d => .inl d
    | .inr kept => match filledM m (stepM cs m kept j) with
      | [] => .inl ((stepM cs m kept j).drop m)
      | p :: _ => .inr (kept ++ [(p, stepM cs m kept j)])
def depM (cs : List (List Int)) (m : Nat) : Option (List Int) := match runM cs m cs.length with
  | .inl d => some d
  | .inr _ => none
/-- columns of m items, of so many bits -/
structure Cols (a m : Nat) (cs : List (List Int)) : Prop where
  len : ∀ c ∈ cs, c.length = m
  bit : ∀ c ∈ cs, AllB a c
  one : 1 ≤ a
theorem at_app_left {A B : List Int} {i : Nat} (h : i < A.length) : at' (A ++ B) i = at' A i := by
  unfold at'
  rw [List.getD_eq_getElem?_getD, List.getD_eq_getElem?_getD, List.getElem?_append_left h]
theorem at_app_right {A B : List Int} {i : Nat} (h : A.length ≤ i) : at' (A ++ B) i = at' B (i - A.length) := by
  unfold at'
  rw [List.getD_eq_getElem?_getD, List.getD_eq_getElem?_getD, List.getElem?_append_right h]
theorem at_rep {k i : Nat} : at' (List.replicate k 0) i = 0 := by
  unfold at'
  rw [List.getD_eq_getElem?_getD, List.getElem?_replicate]
  split <;> rfl
theorem start_own {n j k : Nat} {c : List Int} (hj : j < n) : at' (startL n j c) (c.length + k) = if k = j then 1 else 0 := by
  unfold startL
  rw [at_app_right (by omega), Nat.add_sub_cancel_left]
  by_cases h1 : k < j
  · rw [at_app_left (by rw [List.length_replicate]; exact h1), at_rep, if_neg (by omega)]
  · rw [at_app_right (by rw [List.length_replicate]; omega), List.length_replicate]
    by_cases h2 : k = j
    · subst h2
      rw [if_pos rfl, Nat.sub_self]
      rfl
    · rw [if_neg h2, at_app_right (by show 1 ≤ k - j; omega), at_rep]
theorem start_len {n j : Nat} {c : List Int} (hj : j < n) : (startL n j c).length = c.length + n := by
  unfold startL
  rw [List.length_append, List.length_append, List.length_append, List.length_replicate, List.length_replicate]
  show c.length + (j + (1 + (n - j - 1))) = _
  omega
/-- a line on its way: of column j, behind the first f kept ones -/
structure LI (b m n : Nat) (cs : List (List Int)) (kept : List (Nat × List Int)) (j f : Nat) (L : List Int) : Prop where
  len : L.length = m + n
  rel : Rel m cs L
  sup : ∀ k, j < k → at' L (m + k) = 0
  own : at' L (m + j) ≠ 0
  off : ∀ (s : Nat) t, s < f → kept[s]? = some t → at' L t.1 = 0
  bit : AllB b L
section
variable {a m : Nat} {cs : List (List Int)} {kept : List (Nat × List Int)}
theorem Cols.at (C : Cols a m cs) {j : Nat} (h : j < cs.length) : (cs.getD j []).length = m ∧ AllB a (cs.getD j []) := by
  rw [List.getD_eq_getElem?_getD, List.getElem?_eq_getElem h]
  exact ⟨C.len _ (List.getElem_mem h), C.bit _ (List.getElem_mem h)⟩
theorem LI.start (C : Cols a m cs) {j : Nat} (h : j < cs.length) : LI a m cs.length cs kept j 0 (startL cs.length j (cs.getD j [])) := by
  obtain ⟨hl, hb⟩ := C.at h
  refine ⟨by rw [start_len h, hl], fun i hi => ?_, fun k hk => ?_, ?_, fun s t hs => absurd hs (Nat.not_lt_zero _), fun i => ?_⟩
  · have e1 : at' (startL cs.length j (cs.getD j [])) i = ent cs j i := by
      unfold startL ent
      rw [at_app_left (by omega)]
    rw [e1]
    have : (sm cs.length fun k => at' (startL cs.length j (cs.getD j [])) (m + k) * ent cs k i) = at' (startL cs.length j (cs.getD j [])) (m + j) * ent cs j i := sm_one h fun k hk hn => by
      show at' (startL cs.length j (cs.getD j [])) (m + k) * ent cs k i = 0
      rw [← hl, start_own h, if_neg hn, Int.zero_mul]
    rw [this, ← hl, start_own h, if_pos rfl, Int.one_mul]
  · rw [← hl, start_own h, if_neg (by omega)]
  · rw [← hl, start_own h, if_pos rfl]
    decide
  · by_cases hi : i < m
    · unfold startL
      rw [at_app_left (by omega)]
      exact hb i
    · have : i = (cs.getD j []).length + (i - m) := by omega
      rw [this, start_own h]
      have := C.one
      split
      · show (1 : Int).natAbs < 2 ^ a
        exact Nat.lt_of_lt_of_le (show 1 < 2 ^ 1 by decide) (Nat.pow_le_pow_right (by decide) this)
      · show 0 < 2 ^ a
        exact Nat.pow_pos (by decide)
theorem LI.clear {b j f : Nat} {L : List Int} (K : KI a m cs.length cs kept) (l : LI b m cs.length cs kept j f L) {q : Nat × List Int} (hq : kept[f]? = some q) (hj : f < j) : 0 < gcdL (mixR L q.1 q.2) ∧ LI (b + beta a f + 1) m cs.length cs kept j (f + 1) (clr L q.1 q.2) := by
  have Q := K.one f q hq
  have hlen : L.length = q.2.length := by rw [l.len, Q.len]
  have hown : at' (mixR L q.1 q.2) (m + j) = at' q.2 q.1 * at' L (m + j) := by rw [mix_at hlen, Q.sup j hj]; omega
  have hne : at' (mixR L q.1 q.2) (m + j) ≠ 0 := by rw [hown]; exact Int.mul_ne_zero Q.piv l.own
  have hlt : m + j < (mixR L q.1 q.2).length := by
    rcases Nat.lt_or_ge (m + j) (mixR L q.1 q.2).length with z | z
    · exact z
    · exact absurd (at_out z) hne
  have hg : 0 < gcdL (mixR L q.1 q.2) := gcdL_pos (at_mem hlt) hne
  have nz : ∀ i, at' (mixR L q.1 q.2) i = 0 → at' (clr L q.1 q.2) i = 0 := fun i h => by
    unfold clr
    rw [at_red, h, Int.zero_ediv]
  refine ⟨hg, ⟨by unfold clr; rw [red_length, mix_length hlen, l.len], (l.rel.mix hlen Q.rel).red hg, fun k hk => nz _ ?_, fun z => ?_, fun s t hs ht => nz _ ?_, red_bits hg fun i => ?_⟩⟩
  · rw [mix_at hlen, l.sup k hk, Q.sup k (by omega), Int.mul_zero, Int.mul_zero]
    rfl
  · have := red_mul hg (m + j)
    unfold clr at z
    rw [z, Int.mul_zero] at this
    exact hne this.symm
  · rw [mix_at hlen]
    rcases Nat.lt_or_ge s f with z | z
    · rw [l.off s t z ht, K.off f s q t hq ht z, Int.mul_zero, Int.mul_zero]
      rfl
    · have : s = f := by omega
      subst this
      rw [hq] at ht
      cases ht
      rw [Int.mul_comm]
      omega
  · rw [mix_at hlen]
    exact (((Q.bit q.1).mul (l.bit i)).mono (by omega)).sub (((l.bit q.1).mul (Q.bit i)).mono (by omega))
def betS (a : Nat) : Nat → Nat
  | 0 => a
  | f + 1 => betS a f + beta a f + 1
theorem betS_eq (a : Nat) : ∀ f, betS a f = beta a f
  | 0 => rfl
  | f + 1 => by show betS a f + beta a f + 1 = 2 * beta a f + 1; rw [betS_eq a f]; omega
theorem clr_take (K : KI a m cs.length cs kept) (C : Cols a m cs) {j : Nat} (h : j < cs.length) (hj : kept.length = j) : ∀ f, f ≤ kept.length → LI (beta a f) m cs.length cs kept j f (clrAll (startL cs.length j (cs.getD j [])) (kept.take f))
  | 0, _ => by rw [List.take_zero]; exact LI.start C h
  | f + 1, hf => by
    have ih := clr_take K C h hj f (by omega)
    have hq : kept[f]? = some kept[f] := List.getElem?_eq_getElem (by omega)
    have := (ih.clear K hq (by omega)).2
    have e : clrAll (startL cs.length j (cs.getD j [])) (kept.take (f + 1)) = clr (clrAll (startL cs.length j (cs.getD j [])) (kept.take f)) kept[f].1 kept[f].2 := by
      unfold clrAll
      rw [List.take_add_one, hq, List.foldl_append]
      rfl
    rw [e]
    have e2 : beta a (f + 1) = beta a f + beta a f + 1 := by show 2 * beta a f + 1 = _; omega
    rw [e2]
    exact this
theorem step_li (K : KI a m cs.length cs kept) (C : Cols a m cs) {j : Nat} (h : j < cs.length) (hj : kept.length = j) : LI (beta a j) m cs.length cs kept j j (stepM cs m kept j) := by
  have := clr_take K C h hj kept.length (Nat.le_refl _)
  rw [List.take_length, hj] at this
  exact this
theorem filled_cons {L : List Int} {p : Nat} {r : List Nat} (h : filledM m L = p :: r) : p < m ∧ at' L p ≠ 0 := by
  have : p ∈ filledM m L := by rw [h]; exact List.mem_cons_self
  unfold filledM at this
  have := List.mem_filter.mp this
  exact ⟨List.mem_range.mp this.1, of_decide_eq_true this.2⟩
theorem filled_nil {L : List Int} (h : filledM m L = []) : ∀ i, i < m → at' L i = 0 := fun i hi => by
  by_cases z : at' L i = 0
  · exact z
  · have : i ∈ filledM m L := List.mem_filter.mpr ⟨List.mem_range.mpr hi, decide_eq_true z⟩
    rw [h] at this
    cases this
def OkR (a m : Nat) (cs : List (List Int)) (j : Nat) : List Int ⊕ List (Nat × List Int) → Prop
  | .inr kept => KI a m cs.length cs kept ∧ kept.length = j
  | .inl d => ∃ (f : Nat) (kept : List (Nat × List Int)), f < j ∧ KI a m cs.length cs kept ∧ kept.length = f ∧ runM cs m f = .inr kept ∧ d = (stepM cs m kept f).drop m ∧ filledM m (stepM cs m kept f) = []
theorem run_ok (C : Cols a m cs) : ∀ j, j ≤ cs.length → OkR a m cs j (runM cs m j)
  | 0, _ => ⟨⟨(fun r q h => by cases h), (fun r s q t h => by cases h)⟩, rfl⟩
  | j + 1, hj => by
    have ih := run_ok C j (by omega)
    have er : runM cs m (j + 1) = match runM cs m j with
      | .inl d => .inl d
      | .inr kept => match filledM m (stepM cs m kept j) with
        | [] => .inl ((stepM cs m kept j).drop m)
        | p :: _ => .inr (kept ++ [(p, stepM cs m kept j)]) := rfl
    rw [er]
    cases e : runM cs m j with
    | inl d =>
      rw [e] at ih
      obtain ⟨f, kept, h1, h2⟩ := ih
      exact ⟨f, kept, by omega, h2⟩
    | inr kept =>
      rw [e] at ih
      obtain ⟨K, hk⟩ := ih
      have l := step_li K C (by omega) hk
      show OkR a m cs (j + 1) (match filledM m (stepM cs m kept j) with
        | [] => .inl ((stepM cs m kept j).drop m)
        | p :: _ => .inr (kept ++ [(p, stepM cs m kept j)]))
      cases ef : filledM m (stepM cs m kept j) with
      | nil => exact ⟨j, kept, by omega, K, hk, e, rfl, ef⟩
      | cons p r =>
        obtain ⟨hp, hpn⟩ := filled_cons ef
        refine ⟨⟨fun r q h => ?_, fun r s q t h g hs => ?_⟩, by rw [List.length_append, hk]; rfl⟩
        · rcases Nat.lt_or_ge r kept.length with z | z
          · rw [List.getElem?_append_left z] at h
            exact K.one r q h
          · have hr : r = kept.length := by
              have := (List.getElem?_eq_some_iff.mp h).1
              rw [List.length_append] at this
              have : ([(p, stepM cs m kept j)] : List (Nat × List Int)).length = 1 := rfl
              omega
            subst hr
            rw [List.getElem?_append_right (Nat.le_refl _), Nat.sub_self] at h
            have : (p, stepM cs m kept j) = q := by simpa using h
            subst this
            rw [hk]
            exact ⟨l.len, hp, hpn, l.rel, l.sup, l.own, l.bit⟩
        · have hs2 : s < kept.length := by
            have := (List.getElem?_eq_some_iff.mp h).1
            rw [List.length_append] at this
            have : ([(p, stepM cs m kept j)] : List (Nat × List Int)).length = 1 := rfl
            omega
          rw [List.getElem?_append_left hs2] at g
          rcases Nat.lt_or_ge r kept.length with z | z
          · rw [List.getElem?_append_left z] at h
            exact K.off r s q t h g hs
          · have hr : r = kept.length := by
              have := (List.getElem?_eq_some_iff.mp h).1
              rw [List.length_append] at this
              have : ([(p, stepM cs m kept j)] : List (Nat × List Int)).length = 1 := rfl
              omega
            subst hr
            rw [List.getElem?_append_right (Nat.le_refl _), Nat.sub_self] at h
            have : (p, stepM cs m kept j) = q := by simpa using h
            subst this
            exact l.off s t (by omega) g
end
end Nk
set_option Elab.async false
set_option linter.all false
set_option maxRecDepth 100000
set_option maxHeartbeats 4000000
namespace Nk
open PySem L2
/-! sums over some of the places -/
theorem sm_sum (n : Nat) (f : Nat → Int) : sm n f = ((List.range n).map f).sum := by
  induction n with
  | zero => rfl
  | succ n ih =>
    rw [List.range_succ, List.map_append, List.sum_append]
    show sm n f + f n = _
    rw [ih]
    simp
theorem range_getD {α : Type} (L : List Nat) (g : Nat → α) : (List.range L.length).map (fun r => g (L.getD r 0)) = L.map g := by
  apply List.ext_getElem
  · rw [List.length_map, List.length_map, List.length_range]
  · intro i h1 h2
    rw [List.length_map] at h2
    rw [List.getElem_map, List.getElem_map, List.getElem_range, List.getD_eq_getElem?_getD, List.getElem?_eq_getElem h2]
    rfl
theorem sum_list {n : Nat} (g : Nat → Int) : ∀ {L : List Nat}, L.Nodup → (∀ k ∈ L, k < n) → (L.map g).sum = sm n fun k => if k ∈ L then g k else 0
  | [], _, _ => by
    rw [sm_zero fun k _ => by simp]
    rfl
  | a :: L, hd, hn => by
    rw [List.nodup_cons] at hd
    rw [List.map_cons, List.sum_cons, sum_list g hd.2 fun k hk => hn k (List.mem_cons_of_mem _ hk)]
    have e1 : g a = sm n fun k => if k = a then g k else 0 := by
      rw [sm_one (f := fun k => if k = a then g k else 0) (hn a List.mem_cons_self) fun k _ hk => if_neg hk]
      show g a = if a = a then g a else 0
      rw [if_pos rfl]
    rw [e1, ← sm_add]
    refine sm_congr fun k _ => ?_
    show (if k = a then g k else 0) + (if k ∈ L then g k else 0) = if k ∈ a :: L then g k else 0
    by_cases h1 : k = a
    · subst h1
      rw [if_pos rfl, if_neg hd.1, if_pos List.mem_cons_self, Int.add_zero]
    · by_cases h2 : k ∈ L
      · rw [if_neg h1, if_pos h2, if_pos (List.mem_cons_of_mem _ h2), Int.zero_add]
      · rw [if_neg h1, if_neg h2, if_neg (fun z => (List.mem_cons.mp z).elim h1 h2)]
        rfl
theorem sm_list {n : Nat} (g : Nat → Int) {L : List Nat} (hd : L.Nodup) (hn : ∀ k ∈ L, k < n) : (sm L.length fun r => g (L.getD r 0)) = sm n fun k => if k ∈ L then g k else 0 := by
  rw [← sum_list g hd hn, sm_sum, range_getD]
theorem nodup_le : ∀ (m : Nat) (l : List Nat), l.Nodup → (∀ x ∈ l, x < m) → l.length ≤ m
  | 0, l, _, h => by
    cases l with
    | nil => exact Nat.le_refl _
    | cons a l => exact absurd (h a List.mem_cons_self) (Nat.not_lt_zero _)
  | m + 1, l, hd, h => by
    by_cases z : m ∈ l
    · have := nodup_le m (l.erase m) (hd.erase m) fun x hx => by
        have := (hd.mem_erase_iff).mp hx
        have h1 := h x this.2
        have h2 := this.1
        omega
      rw [List.length_erase_of_mem z] at this
      omega
    · have := nodup_le m l hd fun x hx => by
        have h1 := h x hx
        have : x ≠ m := fun e => z (e ▸ hx)
        omega
      omega
/-- at most as many kept lines as places -/
theorem KI.length_le {a m n : Nat} {cs : List (List Int)} {kept : List (Nat × List Int)} (K : KI a m n cs kept) : kept.length ≤ m := by
  have := nodup_le m (kept.map (·.1)) ?_ ?_
  · rw [List.length_map] at this
    exact this
  · rw [List.Nodup, List.pairwise_iff_getElem]
    intro i j hi hj hij
    rw [List.length_map] at hi hj
    rw [List.getElem_map, List.getElem_map]
    intro e
    have h1 := K.off j i _ _ (List.getElem?_eq_getElem hj) (List.getElem?_eq_getElem hi) hij
    rw [e] at h1
    exact (K.one j _ (List.getElem?_eq_getElem hj)).piv h1
  · intro x hx
    obtain ⟨q, hq, rfl⟩ := List.mem_map.mp hx
    obtain ⟨r, hr, rfl⟩ := List.mem_iff_getElem.mp hq
    exact (K.one r _ (List.getElem?_eq_getElem hr)).plc
/-! independent columns -/
def Ind (m : Nat) (cs : List (List Int)) (S : Nat → Prop) : Prop := ∀ x : Nat → Int, (∀ k, ¬ S k → x k = 0) → (∀ i, i < m → (sm cs.length fun k => x k * ent cs k i) = 0) → ∀ k, x k = 0
def colsAt (cs : List (List Int)) (L : List Nat) : List (List Int) := L.map fun k => cs.getD k []
theorem colsAt_ent {cs : List (List Int)} {L : List Nat} {r i : Nat} (h : r < L.length) : ent (colsAt cs L) r i = ent cs (L.getD r 0) i := by
  unfold ent colsAt
  rw [List.getD_eq_getElem?_getD, List.getElem?_map, List.getElem?_eq_getElem h, List.getD_eq_getElem?_getD (l := L), List.getElem?_eq_getElem h]
  rfl
theorem Cols.sub {a m : Nat} {cs : List (List Int)} (C : Cols a m cs) {L : List Nat} (hL : ∀ k ∈ L, k < cs.length) : Cols a m (colsAt cs L) := by
  refine ⟨fun c hc => ?_, fun c hc => ?_, C.one⟩
  all_goals
    obtain ⟨k, hk, rfl⟩ := List.mem_map.mp hc
    first
      | exact (C.at (hL k hk)).1
      | exact (C.at (hL k hk)).2
section
variable {a m : Nat} {cs : List (List Int)} {L : List Nat}
/-- what x comes to over L, by L's own columns -/
theorem sm_cols (hd : L.Nodup) (hL : ∀ k ∈ L, k < cs.length) (x : Nat → Int) (i : Nat) : (sm (colsAt cs L).length fun r => x (L.getD r 0) * ent (colsAt cs L) r i) = sm cs.length fun k => if k ∈ L then x k * ent cs k i else 0 := by
  have hl : (colsAt cs L).length = L.length := by unfold colsAt; rw [List.length_map]
  rw [hl, ← sm_list (fun k => x k * ent cs k i) hd hL]
  refine sm_congr fun r hr => ?_
  rw [colsAt_ent hr]
theorem getD_mem {r : Nat} (h : r < L.length) : L.getD r 0 ∈ L := by
  rw [List.getD_eq_getElem?_getD, List.getElem?_eq_getElem h]
  exact List.getElem_mem h
theorem getD_inj (hd : L.Nodup) {r s : Nat} (hr : r < L.length) (hs : s < L.length) (e : L.getD r 0 = L.getD s 0) : r = s := by
  rw [List.getD_eq_getElem?_getD, List.getElem?_eq_getElem hr, List.getD_eq_getElem?_getD, List.getElem?_eq_getElem hs] at e
  have e : L[r] = L[s] := e
  have hp := List.pairwise_iff_getElem.mp hd
  rcases Nat.lt_trichotomy r s with z | z | z
  · exact absurd e (hp r s hr hs z)
  · exact z
  · exact absurd e.symm (hp s r hs hr z)
theorem mem_take_getD {f r : Nat} (hd : L.Nodup) (hr : r < L.length) : L.getD r 0 ∈ L.take f ↔ r < f := by
  constructor
  · intro h
    obtain ⟨s, hs, e⟩ := List.mem_iff_getElem.mp h
    rw [List.length_take] at hs
    rw [List.getElem_take] at e
    have : r = s := getD_inj hd hr (by omega) (by rw [← e, List.getD_eq_getElem?_getD, List.getElem?_eq_getElem (by omega)]; rfl)
    omega
  · intro h
    refine List.mem_iff_getElem.mpr ⟨r, by rw [List.length_take]; omega, ?_⟩
    rw [List.getElem_take, List.getD_eq_getElem?_getD, List.getElem?_eq_getElem hr]
    rfl
/-- the first f are independent where they were kept -/
theorem KI.ind {kept : List (Nat × List Int)} (hd : L.Nodup) (hL : ∀ k ∈ L, k < cs.length) (K : KI a m (colsAt cs L).length (colsAt cs L) kept) (hk : kept.length ≤ L.length) : Ind m cs (fun k => k ∈ L.take kept.length) := by
  intro x hx hz k
  have hl : (colsAt cs L).length = L.length := by unfold colsAt; rw [List.length_map]
  by_cases hkL : k ∈ L.take kept.length
  · have hkL2 := List.mem_of_mem_take hkL
    obtain ⟨r, hr, rfl⟩ := List.mem_iff_getElem.mp hkL2
    have y := K.bottom rfl kept.length (Nat.le_refl _) 0 (fun r => if r < L.length then x (L.getD r 0) else 0) (fun s hs => by
      show (if s < L.length then x (L.getD s 0) else 0) = 0
      by_cases h : s < L.length
      · rw [if_pos h]
        exact hx _ fun z => absurd ((mem_take_getD hd h).mp z) (by omega)
      · rw [if_neg h]) (fun s q hs hq => ?_) r
    · have y' : (0 : Int) ∣ pvs kept kept.length * x (L.getD r 0) := by
        have : (if r < L.length then x (L.getD r 0) else 0) = x (L.getD r 0) := if_pos hr
        rw [← this]
        exact y
      have := Int.zero_dvd.mp y'
      rcases Int.mul_eq_zero.mp this with z | z
      · exact absurd z (K.pvs_bits _ (Nat.le_refl _)).1
      · rw [List.getD_eq_getElem?_getD, List.getElem?_eq_getElem hr] at z
        exact z
    · refine Int.zero_dvd.mpr ?_
      have e := sm_cols hd hL x q.1
      have e2 : (sm (colsAt cs L).length fun k => (if k < L.length then x (L.getD k 0) else 0) * ent (colsAt cs L) k q.1) = sm (colsAt cs L).length fun r => x (L.getD r 0) * ent (colsAt cs L) r q.1 := sm_congr fun r hr => by
        rw [hl] at hr
        show (if r < L.length then x (L.getD r 0) else 0) * _ = _
        rw [if_pos hr]
      rw [e2, e]
      refine Eq.trans (sm_congr fun k _ => ?_) (hz q.1 (K.one s q hq).plc)
      show (if k ∈ L then x k * ent cs k q.1 else 0) = x k * ent cs k q.1
      by_cases h : k ∈ L
      · rw [if_pos h]
      · rw [if_neg h, hx k fun z => h (List.mem_of_mem_take z), Int.zero_mul]
  · exact hx k hkL
/-- what dependence tells of the columns at L: .some, with the place f of the last one that counts -/
structure Dep (a m : Nat) (cs : List (List Int)) (L : List Nat) (d : List Int) (f : Nat) : Prop where
  fl : f < L.length
  fm : f ≤ m
  len : d.length = L.length
  own : at' d f ≠ 0
  sup : ∀ k, f < k → at' d k = 0
  bit : AllB (beta a f) d
  zer : ∀ i, i < m → (sm L.length fun r => at' d r * ent cs (L.getD r 0) i) = 0
  ind : Ind m cs (fun k => k ∈ L.take f)
theorem dep_some (C : Cols a m cs) (hd : L.Nodup) (hL : ∀ k ∈ L, k < cs.length) {d : List Int} (h : depM (colsAt cs L) m = some d) : ∃ f, Dep a m cs L d f := by
  have C' := C.sub hL
  have hl : (colsAt cs L).length = L.length := by unfold colsAt; rw [List.length_map]
  have := run_ok C' (colsAt cs L).length (Nat.le_refl _)
  unfold depM at h
  cases e : runM (colsAt cs L) m (colsAt cs L).length with
  | inr kept => rw [e] at h; cases h
  | inl d' =>
    rw [e] at h this
    cases h
    obtain ⟨f, kept, hf, K, hk, hr, rfl, hn⟩ := this
    have l := step_li K C' hf hk
    have ad : ∀ k, at' ((stepM (colsAt cs L) m kept f).drop m) k = at' (stepM (colsAt cs L) m kept f) (m + k) := fun k => by
      unfold at'
      rw [List.getD_eq_getElem?_getD, List.getD_eq_getElem?_getD, List.getElem?_drop]
    refine ⟨f, by omega, by rw [← hk]; exact K.length_le, by rw [List.length_drop, l.len]; omega, by rw [ad]; exact l.own, fun k hk => by rw [ad]; exact l.sup k hk, fun i => by rw [ad]; exact l.bit _, fun i hi => ?_, by rw [← hk]; exact K.ind hd hL (by omega)⟩
    have r := l.rel i hi
    rw [filled_nil hn i hi, hl] at r
    rw [r]
    refine sm_congr fun r hr => ?_
    show at' _ r * _ = _
    rw [ad, colsAt_ent hr]
theorem dep_none (C : Cols a m cs) (hd : L.Nodup) (hL : ∀ k ∈ L, k < cs.length) (h : depM (colsAt cs L) m = none) : L.length ≤ m ∧ Ind m cs (fun k => k ∈ L) ∧ ∃ kept, KI a m (colsAt cs L).length (colsAt cs L) kept ∧ kept.length = L.length := by
  have C' := C.sub hL
  have hl : (colsAt cs L).length = L.length := by unfold colsAt; rw [List.length_map]
  have := run_ok C' (colsAt cs L).length (Nat.le_refl _)
  unfold depM at h
  cases e : runM (colsAt cs L) m (colsAt cs L).length with
  | inl d' => rw [e] at h; cases h
  | inr kept =>
    rw [e] at this
    obtain ⟨K, hk⟩ := this
    have := K.length_le
    have i := K.ind hd hL (by omega)
    rw [hk, hl, List.take_length] at i
    exact ⟨by omega, i, kept, K, by omega⟩
/-- independent ones have such lines -/
theorem Ind.kept (C : Cols a m cs) (hd : L.Nodup) (hL : ∀ k ∈ L, k < cs.length) (h : Ind m cs (fun k => k ∈ L)) : depM (colsAt cs L) m = none := by
  cases e : depM (colsAt cs L) m with
  | none => rfl
  | some d =>
    obtain ⟨f, D⟩ := dep_some C hd hL e
    -- the dependence as one of all columns
    have hx := h (fun k => if k ∈ L then at' d (L.idxOf k) else 0) (fun k hk => if_neg hk) (fun i hi => ?_) (L.getD f 0)
    · have hm := getD_mem D.fl
      have : L.idxOf (L.getD f 0) = f := by
        rw [List.getD_eq_getElem?_getD, List.getElem?_eq_getElem D.fl]
        exact hd.idxOf_getElem f D.fl
      have hx' : (if L.getD f 0 ∈ L then at' d (L.idxOf (L.getD f 0)) else 0) = 0 := hx
      rw [if_pos hm, this] at hx'
      exact absurd hx' D.own
    · have := D.zer i hi
      refine Eq.trans ?_ this
      have e2 := sm_list (n := cs.length) (fun k => at' d (L.idxOf k) * ent cs k i) hd hL
      have e3 : (sm L.length fun r => at' d (L.idxOf (L.getD r 0)) * ent cs (L.getD r 0) i) = sm L.length fun r => at' d r * ent cs (L.getD r 0) i := sm_congr fun r hr => by
        have : L.idxOf (L.getD r 0) = r := by
          rw [List.getD_eq_getElem?_getD, List.getElem?_eq_getElem hr]
          exact hd.idxOf_getElem r hr
        show at' d (L.idxOf (L.getD r 0)) * _ = _
        rw [this]
      rw [← e3, e2]
      refine sm_congr fun k _ => ?_
      show (if k ∈ L then at' d (L.idxOf k) else 0) * ent cs k i = if k ∈ L then at' d (L.idxOf k) * ent cs k i else 0
      split
      · rfl
      · rw [Int.zero_mul]
end
end Nk
set_option Elab.async false
set_option linter.all false
set_option maxRecDepth 100000
set_option maxHeartbeats 4000000
namespace Nk
open PySem L2
/-! where the first of them comes to an end -/
def leftM (b : Int) (p : Int × Int) : Int := if p.2 > 0 then b - p.1 else p.1
def stopS (b : Int) (acc : Option Int × Int) (p : Int × Int) : Option Int × Int :=
  if p.2 = 0 then acc else match acc.1 with
    | none => (some (leftM b p), absI p.2)
    | some room => if leftM b p * acc.2 < room * absI p.2 then (some (leftM b p), absI p.2) else acc
def stopM (b : Int) (ps : List (Int × Int)) : Option Int × Int := ps.foldl (stopS b) (none, 1)
/-- behind some pairs -/
def StopI (b : Int) (ps : List (Int × Int)) (acc : Option Int × Int) : Prop :=
  (acc = (none, 1) ∧ ∀ p ∈ ps, p.2 = 0) ∨
  ∃ p, p ∈ ps ∧ p.2 ≠ 0 ∧ acc = (some (leftM b p), absI p.2) ∧ ∀ q ∈ ps, q.2 ≠ 0 → leftM b p * absI q.2 ≤ leftM b q * absI p.2
theorem absI_pos {x : Int} (h : x ≠ 0) : 0 < absI x := by unfold absI; split <;> omega
theorem leftM_pos {b : Int} {p : Int × Int} (h : 0 < p.1 ∧ p.1 < b) : 0 < leftM b p := by unfold leftM; split <;> omega
theorem stop_step {b : Int} {ps : List (Int × Int)} {acc : Option Int × Int} {q : Int × Int} (h : StopI b ps acc) : StopI b (ps ++ [q]) (stopS b acc q) := by
  unfold stopS
  by_cases hq : q.2 = 0
  · rw [if_pos hq]
    rcases h with ⟨e, h⟩ | ⟨p, h1, h2, e, h3⟩
    · refine .inl ⟨e, fun x hx => ?_⟩
      rcases List.mem_append.mp hx with hx | hx
      · exact h x hx
      · obtain rfl := List.mem_singleton.mp hx
        exact hq
    · refine .inr ⟨p, List.mem_append_left _ h1, h2, e, fun x hx hn => ?_⟩
      rcases List.mem_append.mp hx with hx | hx
      · exact h3 x hx hn
      · obtain rfl := List.mem_singleton.mp hx
        exact absurd hq hn
  · rw [if_neg hq]
    rcases h with ⟨e, h⟩ | ⟨p, h1, h2, e, h3⟩
    · subst e
      refine .inr ⟨q, List.mem_append_right _ List.mem_cons_self, hq, rfl, fun x hx hn => ?_⟩
      rcases List.mem_append.mp hx with hx | hx
      · exact absurd (h x hx) hn
      · obtain rfl := List.mem_singleton.mp hx
        exact Int.le_refl _
    · subst e
      show StopI b (ps ++ [q]) (if leftM b q * absI p.2 < leftM b p * absI q.2 then (some (leftM b q), absI q.2) else (some (leftM b p), absI p.2))
      by_cases hlt : leftM b q * absI p.2 < leftM b p * absI q.2
      · rw [if_pos hlt]
        refine .inr ⟨q, List.mem_append_right _ List.mem_cons_self, hq, rfl, fun x hx hn => ?_⟩
        rcases List.mem_append.mp hx with hx | hx
        · have h4 := h3 x hx hn
          have hp := absI_pos h2
          have hxp := absI_pos hn
          have hqp := absI_pos hq
          -- left_q |x| |p| ≤ left_p |q| |x| ≤ left_x |p| |q|
          have a1 : leftM b q * absI p.2 * absI x.2 ≤ leftM b p * absI q.2 * absI x.2 := Int.mul_le_mul_of_nonneg_right (by omega) (by omega)
          have a2 : leftM b p * absI x.2 * absI q.2 ≤ leftM b x * absI p.2 * absI q.2 := Int.mul_le_mul_of_nonneg_right h4 (by omega)
          have a3 : (leftM b q * absI x.2) * absI p.2 ≤ (leftM b x * absI q.2) * absI p.2 := by
            have e1 : leftM b q * absI p.2 * absI x.2 = (leftM b q * absI x.2) * absI p.2 := by grind
            have e2 : leftM b p * absI q.2 * absI x.2 = leftM b p * absI x.2 * absI q.2 := by grind
            have e3 : leftM b x * absI p.2 * absI q.2 = (leftM b x * absI q.2) * absI p.2 := by grind
            rw [e1, e2] at a1
            rw [e3] at a2
            omega
          exact Int.le_of_mul_le_mul_right a3 hp
        · obtain rfl := List.mem_singleton.mp hx
          exact Int.le_refl _
      · rw [if_neg hlt]
        refine .inr ⟨p, List.mem_append_left _ h1, h2, rfl, fun x hx hn => ?_⟩
        rcases List.mem_append.mp hx with hx | hx
        · exact h3 x hx hn
        · obtain rfl := List.mem_singleton.mp hx
          omega
theorem stop_all (b : Int) : ∀ (qs ps : List (Int × Int)) (acc : Option Int × Int), StopI b ps acc → StopI b (ps ++ qs) (qs.foldl (stopS b) acc)
  | [], ps, acc, h => by rw [List.append_nil]; exact h
  | q :: qs, ps, acc, h => by
    have := stop_all b qs (ps ++ [q]) _ (stop_step (q := q) h)
    rw [List.append_assoc] at this
    exact this
theorem stop_ok (b : Int) (ps : List (Int × Int)) : StopI b ps (stopM b ps) := by
  have := stop_all b ps [] (none, 1) (.inl ⟨rfl, fun p hp => by cases hp⟩)
  rw [List.nil_append] at this
  exact this
/-! the items at some places changed -/
def updM (room : Int) (t : List Int) (ps : List (Nat × Int)) : List Int := ps.foldl (fun t q => t.set q.1 (at' t q.1 + room * q.2)) t
theorem upd_length (room : Int) : ∀ (ps : List (Nat × Int)) (t : List Int), (updM room t ps).length = t.length
  | [], t => rfl
  | q :: ps, t => by
    show (updM room (t.set q.1 (at' t q.1 + room * q.2)) ps).length = _
    rw [upd_length room ps, List.length_set]
theorem upd_off (room : Int) {k : Nat} : ∀ (ps : List (Nat × Int)) (t : List Int), (∀ q ∈ ps, q.1 ≠ k) → at' (updM room t ps) k = at' t k
  | [], t, _ => rfl
  | q :: ps, t, h => by
    show at' (updM room (t.set q.1 (at' t q.1 + room * q.2)) ps) k = _
    rw [upd_off room ps _ fun x hx => h x (List.mem_cons_of_mem _ hx)]
    unfold at'
    simp only [List.getD_eq_getElem?_getD]
    rw [List.getElem?_set_ne (h q List.mem_cons_self)]
theorem upd_at (room : Int) {k : Nat} {s : Int} : ∀ (ps : List (Nat × Int)) (t : List Int), (ps.map (·.1)).Nodup → (k, s) ∈ ps → k < t.length → at' (updM room t ps) k = at' t k + room * s
  | [], t, _, h, _ => by cases h
  | q :: ps, t, hd, h, hk => by
    rw [List.map_cons, List.nodup_cons] at hd
    show at' (updM room (t.set q.1 (at' t q.1 + room * q.2)) ps) k = _
    rcases List.mem_cons.mp h with e | h
    · subst e
      rw [upd_off room ps _ fun x hx e => hd.1 (by rw [← e]; exact List.mem_map.mpr ⟨x, hx, rfl⟩)]
      unfold at'
      rw [List.getD_eq_getElem?_getD, List.getElem?_set_self hk]
      rfl
    · rw [upd_at room ps _ hd.2 h (by rw [List.length_set]; exact hk)]
      have : q.1 ≠ k := fun e => hd.1 (by rw [e]; exact List.mem_map.mpr ⟨_, h, rfl⟩)
      have e2 : at' (t.set q.1 (at' t q.1 + room * q.2)) k = at' t k := by
        unfold at'
        simp only [List.getD_eq_getElem?_getD]
        rw [List.getElem?_set_ne this]
      rw [e2]
/-! one turn of settled -/
def freeP (t : List Int) (b : Int) (k : Nat) : Bool := decide (0 < at' t k) && decide (at' t k < b)
def freeM (t : List Int) (b : Int) : List Nat := (List.range t.length).filter (freeP t b)
def turnM (t : List Int) (b : Int) (d : List Int) : List Int × Int :=
  let F := freeM t b
  let st := stopM b ((F.map (at' t)).zip d)
  let r := redR ((b * st.2) :: updM (st.1.getD 0) (t.map fun x => x * st.2) (F.zip d))
  (r.tail, r.headD 0)
def setM (cs : List (List Int)) (m : Nat) : Nat → List Int → Int → List Int × Int
  | 0, t, b => (t, b)
  | n + 1, t, b => match depM (colsAt cs (freeM t b)) m with
    | none => (t, b)
    | some d => setM cs m n (turnM t b d).1 (turnM t b d).2
structure SInv (a m : Nat) (cs : List (List Int)) (T : List Int) (B0 : Int) (t : List Int) (b : Int) (s : Nat) : Prop where
  lenT : T.length = cs.length
  len : t.length = cs.length
  bpos : 0 < b
  B0pos : 0 < B0
  rng : ∀ k, 0 ≤ at' t k ∧ at' t k ≤ b
  con : ∀ i, i < m → B0 * (sm cs.length fun k => at' t k * ent cs k i) = b * sm cs.length fun k => at' T k * ent cs k i
  ind : Ind m cs (fun k => k ∈ (freeM t b).take s)
  old : ∀ k, k ∈ (freeM t b).drop s → at' t k * B0 = at' T k * b
  zero : ∀ k, at' T k = 0 → at' t k = 0
  full : ∀ k, k < cs.length → at' T k = B0 → at' t k = b
  red : b = B0 ∨ ∀ d, d ∣ b → (∀ k, d ∣ at' t k) → d ∣ 1
section
variable {a m : Nat} {cs : List (List Int)} {T t : List Int} {B0 b : Int} {s : Nat}
theorem free_nodup (t : List Int) (b : Int) : (freeM t b).Nodup := List.Pairwise.filter _ List.nodup_range
theorem free_lt {k : Nat} (h : k ∈ freeM t b) : k < t.length ∧ 0 < at' t k ∧ at' t k < b := by
  obtain ⟨h1, h2⟩ := List.mem_filter.mp h
  unfold freeP at h2
  rw [Bool.and_eq_true] at h2
  exact ⟨List.mem_range.mp h1, of_decide_eq_true h2.1, of_decide_eq_true h2.2⟩
theorem not_free (I : SInv a m cs T B0 t b s) {k : Nat} (h : k ∉ freeM t b) : at' t k = 0 ∨ at' t k = b := by
  by_cases hk : k < t.length
  · have := I.rng k
    by_cases h1 : 0 < at' t k
    · by_cases h2 : at' t k < b
      · exact absurd (List.mem_filter.mpr ⟨List.mem_range.mpr hk, by unfold freeP; rw [decide_eq_true h1, decide_eq_true h2]; rfl⟩) h
      · exact .inr (by omega)
    · exact .inl (by omega)
  · exact .inl (at_out (by omega))
theorem SInv.start (C : Cols a m cs) (hl : T.length = cs.length) (h0 : 0 < B0) (hr : ∀ k, 0 ≤ at' T k ∧ at' T k ≤ B0) : SInv a m cs T B0 T B0 0 :=
  ⟨hl, hl, h0, h0, hr, fun i _ => rfl, fun x hx _ k => hx k (by simp), fun k _ => rfl, fun k h => h, fun k _ h => h, .inl rfl⟩
/-- what a common bottom divides, from what is settled at S -/
theorem bottom_of (C : Cols a m cs) {S : List Nat} (hd : S.Nodup) (hS : ∀ k ∈ S, k < cs.length) (hi : Ind m cs (fun k => k ∈ S)) (x : Nat → Int) (b : Int) (hx : ∀ k, k ∉ S → b ∣ x k) (hz : ∀ i, i < m → b ∣ sm cs.length fun k => x k * ent cs k i) :
    ∃ E, E ≠ 0 ∧ Bits (beta a m + 1) E ∧ ∀ k, b ∣ E * x k := by
  obtain ⟨h1, _, kept, K, hk⟩ := dep_none C hd hS (hi.kept C hd hS)
  have hl : (colsAt cs S).length = S.length := by unfold colsAt; rw [List.length_map]
  obtain ⟨hE, hB⟩ := K.pvs_bits kept.length (Nat.le_refl _)
  refine ⟨pvs kept kept.length, hE, hB.mono ?_, fun k => ?_⟩
  · have := beta_mono a (show kept.length ≤ m by omega)
    have := C.one
    omega
  · by_cases hkS : k ∈ S
    · obtain ⟨r, hr, rfl⟩ := List.mem_iff_getElem.mp hkS
      have y := K.bottom rfl kept.length (Nat.le_refl _) b (fun r => if r < S.length then x (S.getD r 0) else 0) (fun s hs => if_neg (by omega)) (fun s q hs hq => ?_) r
      · have e : (if r < S.length then x (S.getD r 0) else 0) = x S[r] := by
          rw [if_pos hr, List.getD_eq_getElem?_getD, List.getElem?_eq_getElem hr]
          rfl
        have y : b ∣ pvs kept kept.length * (if r < S.length then x (S.getD r 0) else 0) := y
        rw [e] at y
        exact y
      · have hm := (K.one s q hq).plc
        have e := sm_cols (cs := cs) hd hS x q.1
        have e2 : (sm (colsAt cs S).length fun k => (if k < S.length then x (S.getD k 0) else 0) * ent (colsAt cs S) k q.1) = sm (colsAt cs S).length fun r => x (S.getD r 0) * ent (colsAt cs S) r q.1 := sm_congr fun r hr => by
          rw [hl] at hr
          show (if r < S.length then x (S.getD r 0) else 0) * _ = _
          rw [if_pos hr]
        rw [e2, e]
        have e3 : (sm cs.length fun k => x k * ent cs k q.1) = (sm cs.length fun k => if k ∈ S then x k * ent cs k q.1 else 0) + sm cs.length fun k => if k ∈ S then 0 else x k * ent cs k q.1 := by
          rw [← sm_add]
          refine sm_congr fun k _ => ?_
          show x k * ent cs k q.1 = (if k ∈ S then x k * ent cs k q.1 else 0) + (if k ∈ S then 0 else x k * ent cs k q.1)
          split <;> omega
        have h2 : b ∣ sm cs.length fun k => if k ∈ S then 0 else x k * ent cs k q.1 := sm_dvd fun k _ => by
          show b ∣ if k ∈ S then 0 else x k * ent cs k q.1
          split
          · exact ⟨0, by omega⟩
          · rename_i h
            exact Int.dvd_mul_of_dvd_left (hx k h)
        have h3 := hz q.1 hm
        rw [e3] at h3
        have := Int.dvd_sub h3 h2
        rw [Int.add_sub_cancel] at this
        exact this
    · rw [Int.mul_comm]
      exact Int.dvd_mul_of_dvd_left (hx k hkS)
/-- how large the bottom is on the way -/
theorem SInv.bottom (C : Cols a m cs) (I : SInv a m cs T B0 t b s) : ∃ E, E ≠ 0 ∧ Bits (beta a m + 1) E ∧ b ∣ E * B0 := by
  rcases I.red with e | red
  · refine ⟨1, by decide, ?_, by rw [e]; exact ⟨1, by omega⟩⟩
    unfold Bits
    exact Nat.lt_of_lt_of_le (show (1 : Int).natAbs < 2 ^ 1 by decide) (Nat.pow_le_pow_right (by decide) (by omega))
  · have hd : ((freeM t b).take s).Nodup := (free_nodup t b).sublist (List.take_sublist _ _)
    have key : ∃ E, E ≠ 0 ∧ Bits (beta a m + 1) E ∧ ∀ k, b ∣ E * (B0 * at' t k) := by
      refine bottom_of C hd (fun k hk => by have := (free_lt (List.mem_of_mem_take hk)).1; rw [I.len] at this; exact this) I.ind (fun k => B0 * at' t k) b (fun k hk => ?_) (fun i hi => ?_)
      · by_cases hF : k ∈ freeM t b
        · have : k ∈ (freeM t b).drop s := by
            rw [← List.take_append_drop s (freeM t b)] at hF
            exact (List.mem_append.mp hF).resolve_left hk
          have := I.old k this
          show b ∣ B0 * at' t k
          rw [Int.mul_comm, this, Int.mul_comm]
          exact Int.dvd_mul_right _ _
        · show b ∣ B0 * at' t k
          rcases not_free I hF with z | z
          · rw [z]; exact ⟨0, by omega⟩
          · rw [z, Int.mul_comm]; exact Int.dvd_mul_right _ _
      · have : (sm cs.length fun k => B0 * at' t k * ent cs k i) = B0 * sm cs.length fun k => at' t k * ent cs k i := by
          rw [← sm_mul]
          refine sm_congr fun k _ => ?_
          show B0 * at' t k * ent cs k i = B0 * (at' t k * ent cs k i)
          rw [Int.mul_assoc]
        rw [this, I.con i hi]
        exact Int.dvd_mul_right _ _
    obtain ⟨E, hE, hB, hE2⟩ := key
    refine ⟨E, hE, hB, ?_⟩
    -- b divides E B0 b and all E B0 t_k
    have h1 : b ∣ gcdL ((E * B0 * b) :: t.map fun x => E * B0 * x) := gcdL_max fun x hx => by
      rcases List.mem_cons.mp hx with rfl | hx
      · rw [Int.mul_comm]; exact Int.dvd_mul_right _ _
      · obtain ⟨y, hy, rfl⟩ := List.mem_map.mp hx
        obtain ⟨k, hk, rfl⟩ := List.mem_iff_getElem.mp hy
        have := hE2 k
        have e : at' t k = t[k] := by unfold at'; rw [List.getD_eq_getElem?_getD, List.getElem?_eq_getElem hk]; rfl
        have this : b ∣ E * (B0 * at' t k) := this
        rw [e, ← Int.mul_assoc] at this
        exact this
    -- a greatest common divisor of b and t is 1: so b divides E B0
    have h2 : gcdL (b :: t) ∣ 1 := red _ (gcdL_dvd List.mem_cons_self) fun k => by
      by_cases hk : k < t.length
      · exact gcdL_dvd (List.mem_cons_of_mem _ (at_mem hk))
      · rw [at_out (by omega)]; exact ⟨0, by omega⟩
    have h3 : ∀ (c : Int) (ns : List Int) (g : Int), b ∣ c * g → (∀ x ∈ ns, b ∣ c * x) → b ∣ c * ns.foldl gcdI g := by
      intro c ns
      induction ns with
      | nil => intro g h _; exact h
      | cons n ns ih =>
        intro g h hn
        refine ih _ ?_ fun x hx => hn x (List.mem_cons_of_mem _ hx)
        have e1 := hn n List.mem_cons_self
        have : (c * gcdI g n).natAbs = Nat.gcd (c * g).natAbs (c * n).natAbs := by
          unfold gcdI
          rw [Int.natAbs_mul, Int.natAbs_natCast, Int.natAbs_mul, Int.natAbs_mul, Nat.gcd_mul_left]
        refine Int.natAbs_dvd_natAbs.mp ?_
        rw [this]
        exact Nat.dvd_gcd (Int.natAbs_dvd_natAbs.mpr h) (Int.natAbs_dvd_natAbs.mpr e1)
    have h4 := h3 (E * B0) (b :: t) 0 ⟨0, by omega⟩ fun x hx => by
      rcases List.mem_cons.mp hx with rfl | hx
      · rw [Int.mul_comm]; exact Int.dvd_mul_right _ _
      · obtain ⟨k, hk, rfl⟩ := List.mem_iff_getElem.mp hx
        have := hE2 k
        have e : at' t k = t[k] := by unfold at'; rw [List.getD_eq_getElem?_getD, List.getElem?_eq_getElem hk]; rfl
        have this : b ∣ E * (B0 * at' t k) := this
        rw [e, ← Int.mul_assoc] at this
        exact this
    have h5 : gcdL (b :: t) = 1 := by
      have h0 := gcdL_nonneg (b :: t)
      obtain ⟨c, hc⟩ := h2
      have : gcdL (b :: t) ≠ 0 := fun z => by rw [z] at hc; omega
      have := Int.le_of_dvd (by decide) (⟨c, hc⟩ : gcdL (b :: t) ∣ 1)
      omega
    have h4 : b ∣ E * B0 * gcdL (b :: t) := h4
    rw [h5, Int.mul_one] at h4
    exact h4
/-- at the end -/
theorem SInv.vertex (C : Cols a m cs) (I : SInv a m cs T B0 t b s) (h : depM (colsAt cs (freeM t b)) m = none) : (freeM t b).length ≤ m ∧ ((∀ i, i < m → B0 ∣ sm cs.length fun k => at' T k * ent cs k i) → ∃ E, E ≠ 0 ∧ Bits (beta a m + 1) E ∧ ∀ k, b ∣ E * at' t k) := by
  have hL : ∀ k ∈ freeM t b, k < cs.length := fun k hk => by have := (free_lt hk).1; rw [I.len] at this; exact this
  obtain ⟨h1, h2, _⟩ := dep_none C (free_nodup t b) hL h
  refine ⟨h1, fun hz => bottom_of C (free_nodup t b) hL h2 (fun k => at' t k) b (fun k hk => ?_) (fun i hi => ?_)⟩
  · show b ∣ at' t k
    rcases not_free I hk with z | z
    · rw [z]; exact ⟨0, by omega⟩
    · rw [z]; exact Int.dvd_refl _
  · obtain ⟨c, hc⟩ := hz i hi
    have := I.con i hi
    rw [hc] at this
    have e : B0 * (sm cs.length fun k => at' t k * ent cs k i) = B0 * (b * c) := by rw [this]; grind
    have := Int.eq_of_mul_eq_mul_left (by have := I.B0pos; omega) e
    rw [this]
    exact Int.dvd_mul_right _ _
end
end Nk
set_option Elab.async false
set_option linter.all false
set_option maxRecDepth 100000
set_option maxHeartbeats 4000000
namespace Nk
open PySem L2
section
variable {a m : Nat} {cs : List (List Int)} {T t : List Int} {B0 b : Int} {s : Nat}
theorem at_get {L : List Int} {i : Nat} (h : i < L.length) : at' L i = L[i] := by
  unfold at'
  rw [List.getD_eq_getElem?_getD, List.getElem?_eq_getElem h]
  rfl
theorem idx_getD {L : List Nat} (hd : L.Nodup) {r : Nat} (h : r < L.length) : L.idxOf (L.getD r 0) = r := by
  rw [List.getD_eq_getElem?_getD, List.getElem?_eq_getElem h]
  exact hd.idxOf_getElem r h
/-- the numbers of the dependence, by the columns' own places -/
def lamM (F : List Nat) (d : List Int) (k : Nat) : Int := if k ∈ F then at' d (F.idxOf k) else 0
theorem lam_at {F : List Nat} {d : List Int} (hd : F.Nodup) {r : Nat} (h : r < F.length) : lamM F d (F.getD r 0) = at' d r := by
  unfold lamM
  rw [if_pos (getD_mem h), idx_getD hd h]
theorem lam_off {F : List Nat} {d : List Int} {k : Nat} (h : k ∉ F) : lamM F d k = 0 := if_neg h
theorem Dep.lam {d : List Int} {f : Nat} {F : List Nat} (hd : F.Nodup) (hL : ∀ k ∈ F, k < cs.length) (D : Dep a m cs F d f) : ∀ i, i < m → (sm cs.length fun k => lamM F d k * ent cs k i) = 0 := fun i hi => by
  have e2 := sm_list (n := cs.length) (fun k => lamM F d k * ent cs k i) hd hL
  have e3 : (sm F.length fun r => lamM F d (F.getD r 0) * ent cs (F.getD r 0) i) = sm F.length fun r => at' d r * ent cs (F.getD r 0) i := sm_congr fun r hr => by
    show lamM F d (F.getD r 0) * _ = _
    rw [lam_at hd hr]
  have e4 : (sm cs.length fun k => lamM F d k * ent cs k i) = sm cs.length fun k => if k ∈ F then lamM F d k * ent cs k i else 0 := sm_congr fun k _ => by
    show lamM F d k * ent cs k i = if k ∈ F then lamM F d k * ent cs k i else 0
    by_cases h : k ∈ F
    · rw [if_pos h]
    · rw [if_neg h, lam_off h, Int.zero_mul]
  rw [e4, ← e2, e3]
  exact D.zer i hi
theorem Dep.lam_late {d : List Int} {f : Nat} {F : List Nat} (hd : F.Nodup) (D : Dep a m cs F d f) {k : Nat} (h : k ∉ F.take (f + 1)) : lamM F d k = 0 := by
  by_cases hk : k ∈ F
  · obtain ⟨r, hr, e⟩ := List.mem_iff_getElem.mp hk
    have e : F.getD r 0 = k := by rw [List.getD_eq_getElem?_getD, List.getElem?_eq_getElem hr]; exact e
    rw [← e] at h ⊢
    rw [lam_at hd hr]
    refine D.sup r ?_
    rcases Nat.lt_or_ge r (f + 1) with z | z
    · exact absurd ((mem_take_getD hd hr).mpr z) h
    · omega
  · exact lam_off hk
/-- the pair that comes to its end first -/
structure StopAt (t : List Int) (b : Int) (d : List Int) (F : List Nat) (room speed : Int) (q : Nat) : Prop where
  eq : stopM b ((F.map (at' t)).zip d) = (some room, speed)
  mem : q ∈ F
  ne : lamM F d q ≠ 0
  rpos : 0 < room
  spos : 0 < speed
  hit : room * absI (lamM F d q) = leftM b (at' t q, lamM F d q) * speed
  sp : speed = absI (lamM F d q)
  rm : room = leftM b (at' t q, lamM F d q)
  all : ∀ k, k ∈ F → lamM F d k ≠ 0 → room * absI (lamM F d k) ≤ leftM b (at' t k, lamM F d k) * speed
theorem zip_get {F : List Nat} {d : List Int} {t : List Int} (hl : d.length = F.length) {r : Nat} (hr : r < F.length) : ((F.map (at' t)).zip d)[r]? = some (at' t (F.getD r 0), at' d r) := by
  refine (List.getElem?_zip_eq_some (z := (at' t (F.getD r 0), at' d r))).mpr ⟨?_, ?_⟩
  · rw [List.getElem?_map, List.getElem?_eq_getElem hr, List.getD_eq_getElem?_getD, List.getElem?_eq_getElem hr]
    rfl
  · have h : r < d.length := by omega
    rw [List.getElem?_eq_getElem h]
    show some d[r] = some (at' d r)
    rw [at_get h]
theorem Dep.stop {d : List Int} {f : Nat} (D : Dep a m cs (freeM t b) d f) : ∃ room speed q, StopAt t b d (freeM t b) room speed q := by
  have hd := free_nodup t b
  generalize hF : freeM t b = F at *
  have hfree : ∀ k ∈ F, 0 < at' t k ∧ at' t k < b := fun k hk => by rw [← hF] at hk; exact (free_lt hk).2
  have hz : ∀ r, r < F.length → ((F.map (at' t)).zip d)[r]? = some (at' t (F.getD r 0), lamM F d (F.getD r 0)) := fun r hr => by
    rw [lam_at hd hr]
    exact zip_get D.len hr
  have hmem : ∀ p ∈ (F.map (at' t)).zip d, ∃ k, k ∈ F ∧ p = (at' t k, lamM F d k) := fun p hp => by
    obtain ⟨r, hr, rfl⟩ := List.mem_iff_getElem.mp hp
    have hr2 : r < F.length := by rw [List.length_zip, List.length_map] at hr; omega
    have := hz r hr2
    rw [List.getElem?_eq_getElem hr] at this
    exact ⟨_, getD_mem hr2, Option.some.inj this⟩
  have hmem2 : ∀ k, k ∈ F → (at' t k, lamM F d k) ∈ (F.map (at' t)).zip d := fun k hk => by
    obtain ⟨r, hr, e⟩ := List.mem_iff_getElem.mp hk
    have e : F.getD r 0 = k := by rw [List.getD_eq_getElem?_getD, List.getElem?_eq_getElem hr]; exact e
    rw [← e]
    exact List.mem_of_getElem? (hz r hr)
  rcases stop_ok b ((F.map (at' t)).zip d) with ⟨_, h⟩ | ⟨p, h1, h2, e, h3⟩
  · have := h _ (hmem2 _ (getD_mem D.fl))
    have this : lamM F d (F.getD f 0) = 0 := this
    rw [lam_at hd D.fl] at this
    exact absurd this D.own
  · obtain ⟨k, hk, rfl⟩ := hmem p h1
    refine ⟨_, _, k, e, hk, h2, leftM_pos (hfree k hk), absI_pos h2, rfl, rfl, rfl, fun j hj hn => h3 _ (hmem2 j hj) hn⟩
theorem zip_keys {F : List Nat} {d : List Int} (hl : d.length = F.length) : (F.zip d).map (·.1) = F := by
  have := List.map_fst_zip (l₁ := F) (l₂ := d) (by omega)
  exact this
/-- what a turn makes of the tops, ahead of the division -/
theorem turn_tops {d : List Int} {room speed : Int} {F : List Nat} (hd : F.Nodup) (hl : d.length = F.length) (hF : ∀ k ∈ F, k < t.length) (k : Nat) : at' (updM room (t.map fun x => x * speed) (F.zip d)) k = at' t k * speed + room * lamM F d k := by
  have h0 : at' (t.map fun x => x * speed) k = at' t k * speed := at_map (f := fun x => x * speed) (Int.zero_mul _)
  by_cases hk : k ∈ F
  · obtain ⟨r, hr, e⟩ := List.mem_iff_getElem.mp hk
    have e : F.getD r 0 = k := by rw [List.getD_eq_getElem?_getD, List.getElem?_eq_getElem hr]; exact e
    have hz : (F.zip d)[r]? = some (F.getD r 0, at' d r) := (List.getElem?_zip_eq_some (z := (F.getD r 0, at' d r))).mpr ⟨by rw [List.getD_eq_getElem?_getD, List.getElem?_eq_getElem hr]; rfl, by
      have h : r < d.length := by omega
      rw [List.getElem?_eq_getElem h]
      show some d[r] = some (at' d r)
      rw [at_get h]⟩
    rw [e] at hz
    rw [upd_at room (F.zip d) _ (by rw [zip_keys hl]; exact hd) (List.mem_of_getElem? hz) (by rw [List.length_map]; exact hF k hk), h0, ← lam_at hd hr, e]
  · rw [upd_off room (F.zip d) _ fun q hq e => hk (by rw [← e]; exact (List.of_mem_zip hq).1), h0, lam_off hk, Int.mul_zero, Int.add_zero]
theorem tail_red (x : Int) (l : List Int) : (redR (x :: l)).tail = l.map fun y => y / gcdL (x :: l) := rfl
theorem head_red (x : Int) (l : List Int) : (redR (x :: l)).headD 0 = x / gcdL (x :: l) := rfl
theorem turn_eq {d : List Int} {room speed : Int} {q : Nat} (S : StopAt t b d (freeM t b) room speed q) :
    turnM t b d = ((updM room (t.map fun x => x * speed) ((freeM t b).zip d)).map fun y => y / gcdL ((b * speed) :: updM room (t.map fun x => x * speed) ((freeM t b).zip d)), b * speed / gcdL ((b * speed) :: updM room (t.map fun x => x * speed) ((freeM t b).zip d))) := by
  unfold turnM
  simp only [S.eq]
  rw [tail_red, head_red]
  rfl
theorem nonneg_mul {x y : Int} (h : 0 ≤ x) (g : 0 ≤ y) : 0 ≤ x * y := Int.mul_nonneg h g
theorem SInv.turn (C : Cols a m cs) (I : SInv a m cs T B0 t b s) {d : List Int} (h : depM (colsAt cs (freeM t b)) m = some d) :
    ∃ s', SInv a m cs T B0 (turnM t b d).1 (turnM t b d).2 s' ∧ (freeM (turnM t b d).1 (turnM t b d).2).length < (freeM t b).length := by
  have hd := free_nodup t b
  have hL : ∀ k ∈ freeM t b, k < cs.length := fun k hk => by have := (free_lt hk).1; rw [I.len] at this; exact this
  obtain ⟨f, D⟩ := dep_some C hd hL h
  obtain ⟨room, speed, q, S⟩ := D.stop
  rw [turn_eq S]
  have hfree : ∀ k ∈ freeM t b, 0 < at' t k ∧ at' t k < b := fun k hk => (free_lt hk).2
  have hnf : ∀ k, k ∉ freeM t b → at' t k = 0 ∨ at' t k = b := fun k hk => not_free I hk
  have hFdef : freeM t b = (List.range t.length).filter (freeP t b) := rfl
  have hind := I.ind
  have hold := I.old
  generalize hF : freeM t b = F at *
  have ht2 := turn_tops (room := room) (speed := speed) hd D.len (fun k hk => by rw [I.len]; exact hL k hk : ∀ k ∈ F, k < t.length)
  have hlen2 : (updM room (t.map fun x => x * speed) (F.zip d)).length = t.length := by rw [upd_length, List.length_map]
  generalize updM room (t.map fun x => x * speed) (F.zip d) = t2 at ht2 hlen2
  have hb2 : 0 < b * speed := Int.mul_pos I.bpos S.spos
  have hgp : 0 < gcdL ((b * speed) :: t2) := gcdL_pos List.mem_cons_self (by omega)
  have hgb : gcdL ((b * speed) :: t2) * (b * speed / gcdL ((b * speed) :: t2)) = b * speed := (div_exact (gcdL_dvd List.mem_cons_self) (by omega)).symm
  have hgt : ∀ k, gcdL ((b * speed) :: t2) * at' (t2.map fun y => y / gcdL ((b * speed) :: t2)) k = at' t2 k := fun k => by
    rw [at_map (f := fun y => y / gcdL ((b * speed) :: t2)) (Int.zero_ediv _)]
    refine (div_exact ?_ (by omega)).symm
    by_cases hk : k < t2.length
    · exact gcdL_dvd (List.mem_cons_of_mem _ (at_mem hk))
    · rw [at_out (by omega)]
      exact ⟨0, by omega⟩
  have hred : ∀ e, e ∣ b * speed / gcdL ((b * speed) :: t2) → (∀ k, e ∣ at' (t2.map fun y => y / gcdL ((b * speed) :: t2)) k) → e ∣ 1 := fun e h1 h2 => by
    have h3 : gcdL ((b * speed) :: t2) * e ∣ gcdL ((b * speed) :: t2) := gcdL_max fun x hx => by
      rcases List.mem_cons.mp hx with rfl | hx
      · rw [← hgb]
        have := Int.mul_dvd_mul_left (gcdL ((b * speed) :: t2)) h1
        rw [hgb] at this ⊢
        exact this
      · obtain ⟨k, hk, rfl⟩ := List.mem_iff_getElem.mp hx
        rw [← at_get hk, ← hgt k]
        exact Int.mul_dvd_mul_left _ (h2 k)
    have h4 : gcdL ((b * speed) :: t2) * e ∣ gcdL ((b * speed) :: t2) * 1 := by rw [Int.mul_one]; exact h3
    exact dvd_cancel (by omega) h4
  have hlen3 : (t2.map fun y => y / gcdL ((b * speed) :: t2)).length = t.length := by rw [List.length_map, hlen2]
  generalize hG : gcdL ((b * speed) :: t2) = g at *
  generalize t2.map (fun y => y / g) = t3 at *
  generalize b * speed / g = b3 at *
  -- the range, ahead of the division
  have rng2 : ∀ k, 0 ≤ at' t2 k ∧ at' t2 k ≤ b * speed := fun k => by
    rw [ht2 k]
    have hr := I.rng k
    have h1 : 0 ≤ at' t k * speed := nonneg_mul hr.1 (by have := S.spos; omega)
    have h2 : at' t k * speed ≤ b * speed := Int.mul_le_mul_of_nonneg_right hr.2 (by have := S.spos; omega)
    by_cases hk : k ∈ F
    · by_cases hn : lamM F d k = 0
      · rw [hn, Int.mul_zero, Int.add_zero]
        exact ⟨h1, h2⟩
      · have ha := S.all k hk hn
        unfold leftM at ha
        by_cases hp : lamM F d k > 0
        · have ha : room * absI (lamM F d k) ≤ (b - at' t k) * speed := by rw [if_pos hp] at ha; exact ha
          have e : absI (lamM F d k) = lamM F d k := by unfold absI; rw [if_neg (by omega)]
          rw [e, Int.sub_mul] at ha
          have h3 : 0 ≤ room * lamM F d k := nonneg_mul (by have := S.rpos; omega) (by omega)
          omega
        · have ha : room * absI (lamM F d k) ≤ at' t k * speed := by rw [if_neg hp] at ha; exact ha
          have e : absI (lamM F d k) = -lamM F d k := by unfold absI; rw [if_pos (by omega)]
          rw [e, Int.mul_neg] at ha
          have h3 : 0 ≤ room * (-lamM F d k) := nonneg_mul (by have := S.rpos; omega) (by omega)
          rw [Int.mul_neg] at h3
          omega
    · rw [lam_off hk, Int.mul_zero, Int.add_zero]
      exact ⟨h1, h2⟩
  have hb3 : 0 < b3 := by
    rcases Int.lt_trichotomy 0 b3 with z | z | z
    · exact z
    · rw [← z, Int.mul_zero] at hgb; omega
    · have := Int.mul_neg_of_pos_of_neg hgp z
      omega
  have le_of : ∀ {x y : Int}, g * x ≤ g * y → x ≤ y := fun {x y} h => Int.le_of_mul_le_mul_left h hgp
  have lt_of : ∀ {x y : Int}, g * x < g * y → x < y := fun {x y} h => Int.lt_of_mul_lt_mul_left h (by omega)
  have lt_to : ∀ {x y : Int}, x < y → g * x < g * y := fun {x y} h => Int.mul_lt_mul_of_pos_left h hgp
  have eq_of : ∀ {x y : Int}, g * x = g * y → x = y := fun {x y} h => Int.eq_of_mul_eq_mul_left (by omega) h
  have rng3 : ∀ k, 0 ≤ at' t3 k ∧ at' t3 k ≤ b3 := fun k => ⟨le_of (by rw [hgt, Int.mul_zero]; exact (rng2 k).1), le_of (by rw [hgt, hgb]; exact (rng2 k).2)⟩
  -- what is free behind the turn
  have fr : ∀ k, freeP t3 b3 k = (decide (0 < at' t2 k) && decide (at' t2 k < b * speed)) := fun k => by
    have e1 : (0 < at' t3 k) ↔ (0 < at' t2 k) := ⟨fun h => by have := lt_to h; rw [hgt, Int.mul_zero] at this; exact this, fun h => lt_of (by rw [hgt, Int.mul_zero]; exact h)⟩
    have e2 : (at' t3 k < b3) ↔ (at' t2 k < b * speed) := ⟨fun h => by have := lt_to h; rw [hgt, hgb] at this; exact this, fun h => lt_of (by rw [hgt, hgb]; exact h)⟩
    unfold freeP
    rw [decide_eq_decide.mpr e1, decide_eq_decide.mpr e2]
  have nf2 : ∀ k, k ∉ F → freeP t3 b3 k = false := fun k hk => by
    rw [fr k, ht2 k, lam_off hk, Int.mul_zero, Int.add_zero]
    rcases hnf k hk with z | z
    · rw [z, Int.zero_mul]; rfl
    · rw [z, decide_eq_false (p := b * speed < b * speed) (by omega), Bool.and_false]
  have hF3 : freeM t3 b3 = F.filter (freeP t3 b3) := by
    unfold freeM
    rw [hlen3, hFdef, List.filter_filter]
    refine List.filter_congr fun k hk => ?_
    cases e : freeP t b k with
    | true => rw [Bool.and_true]
    | false =>
      rw [Bool.and_false]
      refine nf2 k fun z => ?_
      rw [hFdef] at z
      have := (List.mem_filter.mp z).2
      rw [e] at this
      cases this
  -- q has come to its end
  have hq : freeP t3 b3 q = false := by
    rw [fr q, ht2 q]
    have hh := S.hit
    unfold leftM at hh
    by_cases hp : lamM F d q > 0
    · have hh : room * absI (lamM F d q) = (b - at' t q) * speed := by rw [if_pos hp] at hh; exact hh
      have e : absI (lamM F d q) = lamM F d q := by unfold absI; rw [if_neg (by omega)]
      rw [e, Int.sub_mul] at hh
      rw [decide_eq_false (p := at' t q * speed + room * lamM F d q < b * speed) (by omega), Bool.and_false]
    · have hh : room * absI (lamM F d q) = at' t q * speed := by rw [if_neg hp] at hh; exact hh
      have e : absI (lamM F d q) = -lamM F d q := by unfold absI; rw [if_pos (by have := S.ne; omega)]
      rw [e, Int.mul_neg] at hh
      rw [decide_eq_false (p := 0 < at' t q * speed + room * lamM F d q) (by omega), Bool.false_and]
  have hlt : (F.filter (freeP t3 b3)).length < F.length := by
    have h1 := List.length_filter_le (freeP t3 b3) F
    rcases Nat.lt_or_eq_of_le h1 with z | z
    · exact z
    · have := List.length_filter_eq_length_iff.mp z q S.mem
      rw [hq] at this
      cases this
  -- s is not beyond f
  have hsf : s ≤ f := by
    rcases Nat.lt_or_ge f s with z | z
    · exfalso
      have := hind (lamM F d) (fun k hk => D.lam_late hd fun h => hk (by
        have : F.take (f + 1) <+: F.take s := List.take_prefix_take_left (by omega)
        exact this.subset h)) (D.lam hd hL) (F.getD f 0)
      rw [lam_at hd D.fl] at this
      exact D.own this
    · exact z
  have hA : (F.filter (freeP t3 b3)).take ((F.take (f + 1)).filter (freeP t3 b3)).length = (F.take (f + 1)).filter (freeP t3 b3) := by
    have e : F.filter (freeP t3 b3) = (F.take (f + 1)).filter (freeP t3 b3) ++ (F.drop (f + 1)).filter (freeP t3 b3) := by rw [← List.filter_append, List.take_append_drop]
    rw [e, List.take_left]
  have hB : (F.filter (freeP t3 b3)).drop ((F.take (f + 1)).filter (freeP t3 b3)).length = (F.drop (f + 1)).filter (freeP t3 b3) := by
    have e : F.filter (freeP t3 b3) = (F.take (f + 1)).filter (freeP t3 b3) ++ (F.drop (f + 1)).filter (freeP t3 b3) := by rw [← List.filter_append, List.take_append_drop]
    rw [e, List.drop_left]
  refine ⟨((F.take (f + 1)).filter (freeP t3 b3)).length, ⟨I.lenT, by rw [hlen3, I.len], hb3, I.B0pos, rng3, fun i hi => ?_, ?_, ?_, fun k hk => ?_, fun k hkn hk => ?_, .inr hred⟩, by rw [hF3]; exact hlt⟩
  · -- conservation
    have e1 : (sm cs.length fun k => at' t2 k * ent cs k i) = speed * sm cs.length fun k => at' t k * ent cs k i := by
      have : (sm cs.length fun k => at' t2 k * ent cs k i) = sm cs.length fun k => speed * (at' t k * ent cs k i) + room * (lamM F d k * ent cs k i) := sm_congr fun k _ => by
        show at' t2 k * ent cs k i = _
        rw [ht2 k]
        grind
      rw [this, sm_add, sm_mul, sm_mul, D.lam hd hL i hi, Int.mul_zero, Int.add_zero]
    have e2 : (sm cs.length fun k => at' t2 k * ent cs k i) = g * sm cs.length fun k => at' t3 k * ent cs k i := by
      rw [← sm_mul]
      refine sm_congr fun k _ => ?_
      show at' t2 k * ent cs k i = g * (at' t3 k * ent cs k i)
      rw [← hgt k, Int.mul_assoc]
    refine eq_of ?_
    have e3 := I.con i hi
    have : g * (B0 * sm cs.length fun k => at' t3 k * ent cs k i) = speed * (B0 * sm cs.length fun k => at' t k * ent cs k i) := by
      rw [e1] at e2
      grind
    rw [this, e3]
    have : g * (b3 * sm cs.length fun k => at' T k * ent cs k i) = (g * b3) * sm cs.length fun k => at' T k * ent cs k i := by rw [Int.mul_assoc]
    rw [this, hgb]
    grind
  · -- what has moved and is free still is independent
    show Ind m cs (fun k => k ∈ (freeM t3 b3).take _)
    rw [hF3, hA]
    intro x hx hz k
    have hj : lamM F d (F.getD f 0) ≠ 0 := by rw [lam_at hd D.fl]; exact D.own
    have nu := D.ind (fun k => lamM F d (F.getD f 0) * x k - x (F.getD f 0) * lamM F d k) (fun k hk => by
      show lamM F d (F.getD f 0) * x k - x (F.getD f 0) * lamM F d k = 0
      by_cases e : k = F.getD f 0
      · subst e; rw [Int.mul_comm]; omega
      · have hk2 : k ∉ F.take (f + 1) := fun h => by
          have : F.take (f + 1) = F.take f ++ [F.getD f 0] := by
            rw [List.take_add_one, List.getD_eq_getElem?_getD, List.getElem?_eq_getElem D.fl]
            rfl
          rw [this] at h
          exact (List.mem_append.mp h).elim hk fun h => e (List.mem_singleton.mp h)
        rw [D.lam_late hd hk2, hx k fun h => hk2 (List.mem_filter.mp h).1]
        omega) (fun i hi => by
      have : (sm cs.length fun k => (lamM F d (F.getD f 0) * x k - x (F.getD f 0) * lamM F d k) * ent cs k i) = sm cs.length fun k => lamM F d (F.getD f 0) * (x k * ent cs k i) - x (F.getD f 0) * (lamM F d k * ent cs k i) := sm_congr fun k _ => by
        show (lamM F d (F.getD f 0) * x k - x (F.getD f 0) * lamM F d k) * ent cs k i = _
        grind
      rw [this, sm_sub, sm_mul, sm_mul, hz i hi, D.lam hd hL i hi]
      omega)
    have hxq : x q = 0 := hx q fun h => by
      have := (List.mem_filter.mp h).2
      rw [hq] at this
      cases this
    have hxj : x (F.getD f 0) = 0 := by
      have := nu q
      have this : lamM F d (F.getD f 0) * x q - x (F.getD f 0) * lamM F d q = 0 := this
      rw [hxq, Int.mul_zero] at this
      have h2 : x (F.getD f 0) * lamM F d q = 0 := by omega
      exact (Int.mul_eq_zero.mp h2).resolve_right S.ne
    have := nu k
    have this : lamM F d (F.getD f 0) * x k - x (F.getD f 0) * lamM F d k = 0 := this
    rw [hxj, Int.zero_mul, Int.sub_zero] at this
    exact (Int.mul_eq_zero.mp this).resolve_left hj
  · -- the others have not moved
    rw [hF3, hB]
    intro k hk
    obtain ⟨hk1, _⟩ := List.mem_filter.mp hk
    have hl : lamM F d k = 0 := D.lam_late hd fun h => by
      obtain ⟨r, hr, e⟩ := List.mem_iff_getElem.mp (List.mem_of_mem_drop hk1)
      have e : F.getD r 0 = k := by rw [List.getD_eq_getElem?_getD, List.getElem?_eq_getElem hr]; exact e
      rw [← e] at h hk1
      have h1 := (mem_take_getD hd hr).mp h
      obtain ⟨u, hu, e2⟩ := List.mem_iff_getElem.mp hk1
      rw [List.length_drop] at hu
      rw [List.getElem_drop] at e2
      have : f + 1 + u = r := getD_inj hd (by omega) hr (by rw [← e2, List.getD_eq_getElem?_getD, List.getElem?_eq_getElem (by omega)]; rfl)
      omega
    have ho := hold k (by
      have : F.drop (f + 1) = (F.drop s).drop (f + 1 - s) := by rw [List.drop_drop]; congr 1; omega
      rw [this] at hk1
      exact List.mem_of_mem_drop hk1)
    refine eq_of ?_
    have e1 : g * (at' t3 k * B0) = at' t2 k * B0 := by rw [← hgt k, Int.mul_assoc]
    have e2 : g * (at' T k * b3) = at' T k * (b * speed) := by rw [← hgb]; grind
    rw [e1, e2, ht2 k, hl, Int.mul_zero, Int.add_zero]
    have : at' t k * speed * B0 = (at' t k * B0) * speed := by grind
    rw [this, ho]
    grind
  · have h0 := I.zero k hk
    have hkF : k ∉ F := fun z => by have := (hfree k z).1; omega
    refine eq_of ?_
    rw [hgt, ht2 k, lam_off hkF, h0]
    omega
  · have h0 := I.full k hkn hk
    have hkF : k ∉ F := fun z => by have := (hfree k z).2; omega
    refine eq_of ?_
    rw [hgt, hgb, ht2 k, lam_off hkF, h0]
    omega
end
end Nk
set_option Elab.async false
set_option linter.all false
set_option maxRecDepth 100000
set_option maxHeartbeats 4000000
namespace Nk
open PySem L2
/-! sums over lists, an item left out -/
theorem sm_sumL {α : Type} (l : List α) (f : Nat → Int) (g : α → Int) (h : ∀ k (hk : k < l.length), f k = g l[k]) : sm l.length f = (l.map g).sum := by
  rw [sm_sum]
  congr 1
  refine List.ext_getElem (by simp) fun k h1 h2 => ?_
  have hk : k < l.length := by simpa using h1
  simp [h k hk]
def er {α : Type} (p : Nat) (l : List α) : List α := l.take p ++ l.drop (p + 1)
theorem er_len {α : Type} {p : Nat} {l : List α} (h : p < l.length) : (er p l).length = l.length - 1 := by
  unfold er
  rw [List.length_append, List.length_take, List.length_drop]
  omega
theorem er_map {α β : Type} (f : α → β) (p : Nat) (l : List α) : er p (l.map f) = (er p l).map f := by
  unfold er
  rw [List.map_append, List.map_take, List.map_drop]
theorem er_mem {α : Type} {p : Nat} {l : List α} {x : α} (h : x ∈ er p l) : x ∈ l := by
  unfold er at h
  rcases List.mem_append.mp h with h | h
  · exact List.mem_of_mem_take h
  · exact List.mem_of_mem_drop h
theorem er_zip {α β : Type} {p : Nat} {l : List α} {m : List β} (h : l.length = m.length) : (er p l).zip (er p m) = er p (l.zip m) := by
  unfold er
  rw [List.zip_append (by rw [List.length_take, List.length_take, h])]
  show _ = List.take p (List.zipWith Prod.mk l m) ++ List.drop (p + 1) (List.zipWith Prod.mk l m)
  rw [List.take_zipWith, List.drop_zipWith]
  rfl
theorem er_split {α : Type} {p : Nat} {l : List α} (h : p < l.length) : l = l.take p ++ l[p] :: l.drop (p + 1) := by
  rw [← List.drop_eq_getElem_cons h, List.take_append_drop]
theorem er_sum {α : Type} {p : Nat} {l : List α} (f : α → Int) (h : p < l.length) (h0 : f l[p] = 0) : ((er p l).map f).sum = (l.map f).sum := by
  have e : (l.map f).sum = ((l.take p ++ l[p] :: l.drop (p + 1)).map f).sum := by rw [← er_split h]
  rw [e]
  unfold er
  rw [List.map_append, List.map_append, List.map_cons, List.sum_append, List.sum_append, List.sum_cons, h0]
  omega
theorem sum_mulR {α : Type} (f : α → Int) (b : Int) : ∀ l : List α, (l.map f).sum * b = (l.map fun z => f z * b).sum
  | [] => by simp
  | x :: l => by
    rw [List.map_cons, List.map_cons, List.sum_cons, List.sum_cons, Int.add_mul, sum_mulR f b l]
theorem sum_congrL {α : Type} {f g : α → Int} : ∀ {l : List α}, (∀ x ∈ l, f x = g x) → (l.map f).sum = (l.map g).sum
  | [], _ => rfl
  | x :: l, h => by rw [List.map_cons, List.map_cons, List.sum_cons, List.sum_cons, h x List.mem_cons_self, sum_congrL fun y hy => h y (List.mem_cons_of_mem _ hy)]
/-! two of them without a common divisor -/
theorem gcd_two (x y : Int) : gcdL [x, y] = (Int.gcd x y : Int) := by
  show gcdI (gcdI 0 x) y = _
  unfold gcdI Int.gcd
  simp
theorem red_dvd {x y E : Int} (hy : 0 < y) (h : y ∣ E * x) : y / gcdL [x, y] ∣ E := by
  rw [gcd_two]
  have hg : 0 < Int.gcd x y := Int.gcd_pos_of_ne_zero_right _ (by omega)
  have c : Int.gcd (x / (Int.gcd x y : Int)) (y / (Int.gcd x y : Int)) = 1 := Int.gcd_ediv_gcd_ediv_gcd hg
  have hx := div_exact (Int.gcd_dvd_left x y) (by omega)
  have hyy := div_exact (Int.gcd_dvd_right x y) (by omega)
  obtain ⟨k, hk⟩ := h
  generalize hG : (Int.gcd x y : Int) = g at *
  have hgp : g ≠ 0 := by omega
  have : E * (x / g) = y / g * k := by
    refine Int.eq_of_mul_eq_mul_left hgp ?_
    grind
  have hd : y / g ∣ (x / g) * E := ⟨k, by rw [Int.mul_comm]; exact this⟩
  rw [Int.gcd_comm] at c
  have hn : (y / g).natAbs ∣ (x / g).natAbs * E.natAbs := by rw [← Int.natAbs_mul]; exact Int.natAbs_dvd_natAbs.mpr hd
  have hc : Nat.Coprime (y / g).natAbs (x / g).natAbs := c
  exact Int.natAbs_dvd_natAbs.mp (hc.dvd_of_dvd_mul_left hn)
end Nk
set_option Elab.async false
set_option linter.all false
set_option maxRecDepth 100000
set_option maxHeartbeats 4000000
namespace Nk
open PySem L2
/-! slices, truth -/
/-- a cut of data as cutV of values -/
def cutD (ds : List PyData) (lo hi : Option Int) : List PyData := (ds.drop (HT.sIx ds.length 0 lo)).take (HT.sIx ds.length ds.length hi - HT.sIx ds.length 0 lo)
theorem DqAll.cut {K : PySem.W.Frag} {H : Hp} {vs : List V} {ds : List PyData} (h : DqAll K H vs ds) (lo hi : Option Int) : DqAll K H (cutV vs lo hi) (cutD ds lo hi) := by
  unfold cutV cutD
  rw [h.length]
  exact (h.drop _).take _
theorem cutD_from (ds : List PyData) (k : Nat) : cutD ds (some (k : Int)) none = ds.drop k := by
  unfold cutD
  have e1 : HT.sIx ds.length 0 (some (k : Int)) = min k ds.length := by
    show (if (k : Int) < 0 then ((k : Int) + (ds.length : Int)).toNat else min (k : Int).toNat ds.length) = _
    rw [if_neg (by omega), Int.toNat_natCast]
  have e2 : HT.sIx ds.length ds.length none = ds.length := rfl
  rw [e1, e2]
  rcases Nat.le_total k ds.length with z | z
  · rw [Nat.min_eq_left z, List.take_of_length_le (by rw [List.length_drop]; omega)]
  · rw [Nat.min_eq_right z, List.drop_eq_nil_of_le (Nat.le_refl _), List.drop_eq_nil_of_le z, List.take_nil]
theorem cutD_to (ds : List PyData) (k : Nat) : cutD ds none (some (k : Int)) = ds.take k := by
  unfold cutD
  have e1 : HT.sIx ds.length ds.length (some (k : Int)) = min k ds.length := by
    show (if (k : Int) < 0 then ((k : Int) + (ds.length : Int)).toNat else min (k : Int).toNat ds.length) = _
    rw [if_neg (by omega), Int.toNat_natCast]
  have e2 : HT.sIx ds.length 0 none = 0 := rfl
  rw [e1, e2, List.drop_zero, Nat.sub_zero]
  rcases Nat.le_total k ds.length with z | z
  · rw [Nat.min_eq_left z]
  · rw [Nat.min_eq_right z, List.take_of_length_le (Nat.le_refl _), List.take_of_length_le z]
section
variable {K : PySem.W.Frag} {X : Cx} {n : Nat} {G G' : G3} {Γ Γ' Γ'' : List (Nat × PyData)} {e a b c : Expr} {es : List Expr} {d da db dc : PyData} {ds s t : List PyData} {pos p p2 : Pos} {st : Stmt} {rest body : List Stmt}
/-- xs[i:], xs[:j] of a list: a new one -/
theorem pf_from {k : Nat} (h : PD K X n Γ a (.list ds)) (g : PD K X n Γ b (.int (k : Nat))) : PF K X n Γ (.Subscript a (.Slice (some b) none none p2) pos) (ds.drop k) :=
  ⟨pe_imp (pe_slice (kslL K h.hK) h.pe (po_some g.pe) po_none) fun σ H Q ⟨e, q⟩ => ⟨e, fun x H1 s1 q1 => ⟨e.same s1, fun y H2 s2 q2 => by
    cases q2
    cases q1 with
    | lst hp ha =>
      refine ⟨_, rfl, _, _, rfl, SqL.of (s2 _ _ hp), fun p hpn => q p _ _ ((s1.trans s2).free hpn) ((s1.trans s2).trans (same_new hpn)) upd_same ?_⟩
      rw [← cutD_from]
      exact ((ha.same s2).cut _ _).same (same_new hpn)⟩⟩⟩
theorem pf_to {k : Nat} (h : PD K X n Γ a (.list ds)) (g : PD K X n Γ b (.int (k : Nat))) : PF K X n Γ (.Subscript a (.Slice none (some b) none p2) pos) (ds.take k) :=
  ⟨pe_imp (pe_slice (kslL K h.hK) h.pe po_none (po_some g.pe)) fun σ H Q ⟨e, q⟩ => ⟨e, fun x H1 s1 q1 => ⟨e.same s1, fun y H2 s2 q2 => by
    cases q2
    cases q1 with
    | lst hp ha =>
      refine ⟨_, rfl, _, _, rfl, SqL.of (s2 _ _ hp), fun p hpn => q p _ _ ((s1.trans s2).free hpn) ((s1.trans s2).trans (same_new hpn)) upd_same ?_⟩
      rw [← cutD_to]
      exact ((ha.same s2).cut _ _).same (same_new hpn)⟩⟩⟩
/-- if xs -/
theorem pb_truthL (h : PD K X n Γ e (.list ds)) (he : ∀ whole, isTrue e X.env whole = (do let v ← whole; standAt e.pos; holding [v] (truthy v)) := by intro _; rfl) : PB K X n Γ e (!ds.isEmpty) := by
  have hK := h.hK
  subst hK
  refine ⟨pt_imp (pt_truth h.pe he) fun σ H Q q => ⟨q.1, fun v H1 s z => ?_⟩⟩
  cases z with
  | lst hp ha =>
    refine ⟨_, .inl ⟨_, SqL.of hp, rfl⟩, ?_⟩
    rename_i p' xs
    have : (!xs.isEmpty) = !ds.isEmpty := by
      have := ha.length
      cases xs <;> cases ds <;> first | rfl | (simp at this)
    rw [this]
    exact q.2 H1 s
/-! statements that change the slots of W alone, and make new objects alone -/
def tSS (K : PySem.W.Frag) (n : Nat) (W : List Nat) (Γ Γ' : List (Nat × PyData)) : TS := fun D σ H => Env K n Γ σ H ∧ ∀ σ' H', Same H H' → Env K n Γ' σ' H' → (∀ i, W.contains i = false → σ'[i]? = σ[i]?) → D.nx σ' H'
structure PSp (K : PySem.W.Frag) (X : Cx) (n : Nat) (W : List Nat) (Γ : List (Nat × PyData)) (st : Stmt) (Γ' : List (Nat × PyData)) : Prop where
  ps : PS X st (tSS K n W Γ Γ')
structure PBp (K : PySem.W.Frag) (X : Cx) (n : Nat) (W : List Nat) (Γ : List (Nat × PyData)) (sts : List Stmt) (Γ' : List (Nat × PyData)) : Prop where
  ps : PSs X sts (tSS K n W Γ Γ')
variable {W : List Nat}
theorem pbp_nil : PBp K X n W Γ [] Γ := ⟨pss_imp pss_nil fun D σ H ⟨e, k⟩ => k σ H (Same.refl H) e fun _ _ => rfl⟩
theorem pbp_one (h : PSp K X n W Γ st Γ') : PBp K X n W Γ [st] Γ' := ⟨pss_one h.ps⟩
theorem pbp_cons (h : PSp K X n W Γ st Γ') (g : PBp K X n W Γ' rest Γ'') : PBp K X n W Γ (st :: rest) Γ'' :=
  ⟨pss_imp (pss_cons h.ps g.ps) fun D σ H ⟨e, k⟩ => ⟨e, fun σ' H' s e' o => ⟨e', fun σ2 H2 s2 e2 o2 => k σ2 H2 (s.trans s2) e2 fun i hi => (o2 i hi).trans (o i hi)⟩⟩⟩
theorem PBp.le (h : PBp K X n W Γ rest Γ') (l : ∀ q ∈ Γ'', q ∈ Γ') : PBp K X n W Γ rest Γ'' := ⟨pss_imp h.ps fun D σ H ⟨e, k⟩ => ⟨e, fun σ' H' s e' o => k σ' H' s ⟨e'.1, e'.2.sub l⟩ o⟩⟩
theorem PSp.le (h : PSp K X n W Γ st Γ') (l : ∀ q ∈ Γ'', q ∈ Γ') : PSp K X n W Γ st Γ'' := ⟨ps_imp h.ps fun D σ H ⟨e, k⟩ => ⟨e, fun σ' H' s e' o => k σ' H' s ⟨e'.1, e'.2.sub l⟩ o⟩⟩
theorem PBp.cast (h : PBp K X n W Γ rest Γ') (q : Γ' = Γ'') : PBp K X n W Γ rest Γ'' := q ▸ h
theorem set_off {σ : St} {i : Nat} {v : Option V} (hi : W.contains i = true) : ∀ j, W.contains j = false → (σ.set i v)[j]? = σ[j]? := fun j hj => by
  have : i ≠ j := fun e => by subst e; rw [hi] at hj; cases hj
  rw [List.getElem?_set_ne this]
theorem psp_set {i : Nat} {x : Str} {pos' : Pos} (nd : X.N.Nodup) (hi : X.N[i]? = some x) (hx : Loc X.env.scope x) (hin : i < n) (hW : W.contains i = true) (h : PD K X n Γ e d) (hs : swapsWith e (some (.Name x pos')) pos.line X.env = pure false := by rfl) (hf : X.fn x = true ∨ X.env.scope.names.lookup x = some .local := by first | exact .inl rfl | exact .inr rfl | assumption) :
    PSp K X n W Γ (.Assign [.Name x pos'] e pos) (putD i d Γ) :=
  ⟨ps_imp (ps_set nd hi hx h.pe hs hf) fun D σ H ⟨e, k⟩ => ⟨e, fun v H' s q => k _ H' s ⟨by rw [List.length_set]; exact e.1, ⟨v, by rw [List.getElem?_set_self (by rw [e.1]; exact hin)], q⟩, (e.2.same s).drp⟩ (set_off hW)⟩⟩
theorem psp_lcF {α : Type} {xs : List α} {enc : α → PyData} {out : α → PyData} {Δ : α → List (Nat × PyData)} {keep : α → Bool} {i : Nat} {y : Str} {py spos : Pos} {elt tg it : Expr} {ifs : List Expr} {scope : Scope} {own : List (Str × Nat)} {g : TG}
    (hc : X.calm = true) (nd : X.N.Nodup) (hy : X.N[i]? = some y) (hyl : X.env.scope.names.lookup y = some .local) (hin : i < n) (hW : W.contains i = true) (hsw : swapsWith (.ListComp elt [⟨tg, it, ifs, 0⟩] scope pos) (some (.Name y py)) spos.line X.env = pure true)
    (hi : PWk K X n Γ tg it (xs.map enc)) (ok : BlkOk X.N X.env.scope scope own) (hg : ∀ (s : Shared) (H : Hp) (C : Addr) (cl : List (Str × Addr)) (fp : List Addr), PG (X.blk s H scope (compEnvC scope cl C X.env) fp) tg g)
    (htg : ∀ x ∈ xs, Tg K n g (own.map (·.2)) (enc x) (Δ x)) (hoff : offK Γ (own.map (·.2)) = true)
    (ht : ∀ x ∈ xs, ∀ (s : Shared) (H : Hp) (C : Addr) (cl : List (Str × Addr)) (fp : List Addr), PTs (X.blk s H scope (compEnvC scope cl C X.env) fp) ifs (tDb K n (Δ x ++ Γ) (keep x)))
    (he : ∀ x ∈ xs, keep x = true → ∀ (s : Shared) (H : Hp) (C : Addr) (cl : List (Str × Addr)) (fp : List Addr), PE (X.blk s H scope (compEnvC scope cl C X.env) fp) elt (tD K n (Δ x ++ Γ) (out x)))
    (hno : ∀ x ∈ xs, noL (out x) = true) (hl : xs.length ≤ 100000) (hs : ∀ x, foldedSetIterable it X.env x = pure x := by intro _; rfl) :
    PSp K X n W Γ (.Assign [.Name y py] (.ListComp elt [⟨tg, it, ifs, 0⟩] scope pos) spos) (putD i (.list ((xs.filter keep).map out)) Γ) :=
  ⟨ps_imp (ps_setLc (wi := tWk K n Γ (xs.map enc)) (g := g) (tt := ttEx K n Γ xs Δ keep) (te := teEx K n Γ xs Δ keep out) hc nd hy hyl hsw hi.pi ok hg
    (fun s H C cl fp => ⟨fun pins s' σ H' Q I ⟨x, hx, q⟩ => (ht x hx s H C cl fp).run pins s' σ H' Q I q⟩) (fun s H C cl fp => ⟨fun pins s' σ H' Q I ⟨x, hx, q⟩ => (he x hx.1 hx.2 s H C cl fp).run pins s' σ H' Q I q⟩) hs)
    fun D σ H ⟨e, k⟩ => lc_read htg hoff hno hl ⟨e, fun p vs H' hp s hp' q => k _ H' s ⟨by rw [List.length_set]; exact e.1, ⟨_, by rw [List.getElem?_set_self (by rw [e.1]; exact hin)], .lst hp' q⟩, (e.2.same s).drp⟩ (set_off hW)⟩⟩
def tBS (K : PySem.W.Frag) (n : Nat) (W : List Nat) {α : Type} (xs : List α) (Δ : α → List (Nat × PyData)) (Γk : Nat → List (Nat × PyData)) : TS := fun D σ H => ∃ z : { z : Nat × α // xs[z.1]? = some z.2 }, tSS K n W (Δ z.1.2 ++ Γk z.1.1) (Γk (z.1.1 + 1)) D σ H
theorem psp_for {α : Type} {xs : List α} {enc : α → PyData} {Δ : α → List (Nat × PyData)} {Γk : Nat → List (Nat × PyData)} {tg it : Expr} {g : TG} {vs : List Nat} (hp : PassesOwn (model X.prog X.w) X.A X.env X.xe) (hc : X.calm = true) (hw : PWk K X n (Γk 0) tg it (xs.map enc)) (hg : PG X tg g)
    (htg : ∀ x ∈ xs, Tg K n g vs (enc x) (Δ x)) (hoff : ∀ i, offK (Γk i) vs = true) (hvW : ∀ i, W.contains i = false → vs.contains i = false)
    (hb : ∀ i x, xs[i]? = some x → PBp K X n W (Δ x ++ Γk i) body (Γk (i + 1))) (hs : ∀ x, foldedSetIterable it X.env x = pure x := by intro _; rfl) :
    PSp K X n W (Γk 0) (.For tg it body [] pos) (Γk xs.length) := by
  refine ⟨ps_imp (ps_for hp hc hw.pi hg (show PSs X body (tBS K n W xs Δ Γk) from pss_ex fun z => (hb z.1.1 z.1.2 z.2).ps) hs) fun D σ H ⟨e, k⟩ => ⟨e, fun J H1 s1 w => ?_⟩⟩
  refine for_it (g := g) (tb := tBS K n W xs Δ Γk) (D := D) w (fun i σ' H' => Same H1 H' ∧ Env K n (Γk i) σ' H' ∧ ∀ j, W.contains j = false → σ'[j]? = σ[j]?) ⟨Same.refl _, e.same s1, fun _ _ => rfl⟩ (fun i σ' H' _ h => h.1) ?_ ?_
  · rintro i x σ2 H2 H3 hi ⟨s2, e2, o2⟩ ⟨s3, d, hd, qd⟩
    rw [List.length_map] at hi
    rw [List.getElem?_map, List.getElem?_eq_getElem hi] at hd
    have hd : enc xs[i] = d := Option.some.inj hd
    subst hd
    have hm := List.getElem_mem hi
    refine (htg _ hm).run x σ2 H3 _ e2.1 qd fun σ3 _ l3 o3 e3 => ?_
    exact ⟨⟨(i, xs[i]), List.getElem?_eq_getElem hi⟩, ⟨l3, e3.append (EnvL.off o3 (hoff i) (e2.2.same s3))⟩, fun σ' H' s' e' o' => ⟨(s2.trans s3).trans s', e', fun j hj => (o' j hj).trans ((o3 j (hvW j hj)).trans (o2 j hj))⟩⟩
  · rintro σ2 H2 ⟨s2, e2, o2⟩
    rw [List.length_map] at e2
    exact k σ2 H2 (s1.trans s2) e2 o2
end
end Nk
set_option Elab.async false
set_option linter.all false
set_option maxRecDepth 100000
set_option maxHeartbeats 4000000
namespace Nk
open PySem L2
section
variable {K : PySem.W.Frag} {X : Cx} {n : Nat} {Γ Γ' : List (Nat × PyData)} {e a b c : Expr} {d : PyData} {ds : List PyData} {pos p : Pos}
def tEnum (K : PySem.W.Frag) (i : Nat) (ds : List PyData) : TI := fun σ H R => ∃ H0, Same H0 H ∧ EnvL K [(i, .list ds)] σ H0 ∧ ∀ J, Walk J ds.length (Same H0) (YD K (enumD ds)) → R J H
/-- enumerate of an argument that is a list, the heap as wild as it likes elsewhere -/
theorem pi_enumP {elts : List Expr} {p3 : Pos} {kk : Nat} {tpos : Pos} {i : Nat} {x : Str} (hi : X.N[i]? = some x) (hv : Vis X.env.scope x) (hg : Gl X "enumerate") (hm : X.mg "enumerate" = none) (hK : X.K = K := by rfl) (hd : (x == ("__debug__" : Str)) = false := by decide) (hcd : (x == ("__classdict__" : Str)) = false := by decide)
    (hs : starEach [.Name x p3] X.env = [(false, eval (.Name x p3) X.env)] := by rfl) (hs2 : starEach [.Name x p3] X.env = (false, eval (.Name x p3) X.env) :: starEach [] X.env := by rfl) :
    PI X (.Tuple elts kk tpos) (.Call (.Name "enumerate" p) [.Name x p3] [] pos) (tEnum K i ds) := by
  subst hK
  refine pi_imp (pi_enum hg hm (pa_cons (pe_var hi hv hd hcd) pa_nil hs2) hs) fun σ H R ⟨H0, s, e, k⟩ => ?_
  obtain ⟨⟨v, h1, h2⟩, _⟩ := e
  refine ⟨v, h1, ?_⟩
  cases h2 with
  | lst hp ha =>
    refine ⟨_, _, rfl, SqL.of (s _ _ hp), k _ ?_⟩
    rw [← ha.length]
    refine walk_enum.mono (fun H s => SqL.of (s _ _ hp)) fun i H v H' hi s y => ?_
    obtain ⟨T, x, y, rfl, hT, rfl, e1, e2⟩ := y
    cases e1
    obtain ⟨d2, g2, f2⟩ := ha.get e2
    have sT : Same H (upd H T (.tup [.int (i : Nat), y])) := same_new hT
    refine ⟨sT, _, ?_, .tup upd_same (.cons (.int _) (.cons ((f2.same s).same sT) .nil))⟩
    unfold enumD
    rw [List.getElem?_map, List.getElem?_zipIdx, g2]
    simp
theorem enumD_get {i : Nat} (h : i < ds.length) : (enumD ds)[i]? = some (.tuple [.int (i : Nat), ds[i]]) := by
  unfold enumD
  rw [List.getElem?_map, List.getElem?_zipIdx, List.getElem?_eq_getElem h]
  simp
/-- x.append(e), the list anywhere -/
theorem ps_appV {i : Nat} {x : Str} {px apos cpos epos : Pos} (hi : X.N[i]? = some x) (hv : Vis X.env.scope x) (h : PD K X n Γ e d) (hK : X.K = K := by rfl) (hd : (x == ("__debug__" : Str)) = false := by decide) (hcd : (x == ("__classdict__" : Str)) = false := by decide)
    (hbase : attributeBase (.Name x px) "append" X.env (eval (.Name x px) X.env) = eval (.Name x px) X.env := by rfl)
    (hfew : ((backTo cpos (starEach [e] X.env)).all (fun x => !x.1) && (backToKw cpos (keywordEach [] X.env)).all (fun x => x.1.isSome)
      && decide (([e] : List Expr).length + ([] : List Keyword).length + (if ([] : List Keyword).isEmpty then 0 else 1) < 30)) = true := by rfl)
    (hline : (apos.endLine == cpos.line) = true := by rfl) (hs : starEach [e] X.env = (false, eval e X.env) :: starEach [] X.env := by rfl) (hplain : (backTo cpos (starEach [] X.env)).any (·.1) = false := by rfl)
    (hsw : swapsWith (.Call (.Attribute (.Name x px) "append" apos) [e] [] cpos) none epos.line X.env = pure false := by rfl) :
    PS X (.Expr (.Call (.Attribute (.Name x px) "append" apos) [e] [] cpos) epos) (fun D σ H => ∃ a vs, σ[i]? = some (some (.ref a)) ∧ H a = some (.lst vs) ∧ vs.length ≤ 100000 ∧ Env K n Γ σ H ∧ ∀ v H', Same H H' → Dq K H' v d → D.nx σ (upd H' a (.lst (vs ++ [v])))) := by
  subst hK
  refine ps_imp (ps_expr (pe_bm PySem.F.plainAttrs_list PySem.F.slot_list_append PySem.F.type_list_append mt_append (pe_var hi hv hd hcd) (pa_cons h.pe pa_nil hs) hbase hfew hline hs hplain) hsw) fun D σ H ⟨a, vs, h1, h3, h4, g, k⟩ => ?_
  refine ⟨.ref a, h1, .inl ⟨rfl, _, SqL.of h3⟩, g, fun v H' e q => ?_⟩
  exact ⟨a, vs, v, rfl, rfl, e _ _ h3, Nat.lt_of_le_of_lt h4 (by show 100000 < sizeLine; decide), k v H' e q⟩
/-- first statements that change the slots of W alone -/
def tQ (K : PySem.W.Frag) (n : Nat) (W : List Nat) (Γ : List (Nat × PyData)) (t : TS) : TS := fun D σ H => Env K n Γ σ H ∧ ∀ σ' H', Same H H' → σ'.length = n → (∀ i, W.contains i = false → σ'[i]? = σ[i]?) → t D σ' H'
theorem pss_q {W : List Nat} {st : Stmt} {rest : List Stmt} {t : TS} (h : PSp K X n W Γ st Γ') (g : PSs X rest (tQ K n W Γ' t)) : PSs X (st :: rest) (tQ K n W Γ t) :=
  pss_imp (pss_cons h.ps g) fun D σ H ⟨e, k⟩ => ⟨e, fun σ1 H1 s1 e1 o1 => ⟨e1, fun σ2 H2 s2 l2 o2 => k σ2 H2 (s1.trans s2) l2 fun i hi => (o2 i hi).trans (o1 i hi)⟩⟩
theorem pss_qe {W : List Nat} {rest : List Stmt} {t u : TS} (h : PSs X rest u) (i : ∀ D σ H, Env K n Γ σ H → t D σ H → u D σ H) : PSs X rest (tQ K n W Γ t) :=
  pss_imp h fun D σ H ⟨e, k⟩ => i D σ H e (k σ H (Same.refl H) e.1 fun _ _ => rfl)
theorem pb_one_ifs {k : Bool} (h : PB K X n Γ e k) : PTs X [e] (tDb K n Γ k) := pts_one h.pt
end
end Nk
set_option Elab.async false
set_option linter.all false
set_option maxRecDepth 100000
set_option maxHeartbeats 4000000
namespace Nk
open PySem L2 PySem.W PySem.Spec PySem.Calls PyProof.Rows
/-- a, *b = a list -/
theorem unpack_star1 {prog : Program} {w : World} {A : Around} {E : Value → Shared → Prop} {s : Shared} {l : Addr} {u : Value} {us : List Value} {Q : List Value → Shared → Prop} (hl : s.heap.IsList l (u :: us).toArray) (hh : A.handled = none) (hz : us.length ≤ 16000)
    (h : ∀ (h₂ : Heap) (tk : Nat), (∀ b o, s.heap.get? b = some o → h₂.get? b = some o) → Q [u, .ref h₂.objs.size] { s with heap := h₂.push { cls := .type "list", data := .seq us.toArray }, toks := tk }) : wpAny (model prog w) A (unpackItems (.ref l) 2 (some 1)) Q E s := by
  have hlt : l ≠ s.heap.objs.size := by obtain ⟨o, ho, _⟩ := hl; exact Nat.ne_of_lt (Heap.lt_size ho)
  have hsz : (u :: us).toArray.size = us.length + 1 := by simp
  unfold unpackItems
  refine wpAny_bind ?_
  unfold notIterableAtAll
  refine wpAny_bind (wpAny_specialOf hl.typeIs PySem.F.slot_list_iter.lookup ?_)
  refine wpAny_pure ?_
  simp only [Bool.false_eq_true, if_false]
  refine wpAny_bind (wpAny_holding (wpAny_pyIter_list hl ?_))
  refine wpAny_bind (wpAny_holding (kun_draw hlt 1 0 _ _ ⟨_, Heap.get?_push_size _ rfl, rfl, rfl⟩ (hl.push _) (by omega) fun h₁ hit₁ hs₁ => ?_))
  have hl₁ : h₁.IsList l (u :: us).toArray := (hl.push _).extBut hs₁.extBut hlt
  rw [Nat.zero_add] at hit₁
  have hit₁' := hit₁
  obtain ⟨oi, hoi, _⟩ := hit₁'
  have hl₁' := hl₁
  obtain ⟨ol, hol, _⟩ := hl₁'
  have e1 : ((u :: us).toArray.toList.drop 0).take 1 = [u] := by simp
  have e2 : (u :: us).toArray.toList.drop 1 = us := by simp
  rw [e1]
  rw [if_neg (show ¬ ([u].length < 1) by simp)]
  refine wpAny_bind (wpAny_holding (kun_collect (s := { s with heap := h₁ }) (T := "list_iterator") (.inr (.inr (.inl rfl))) (Walks.list (A := A.in1) hh s.heap.objs.size l hlt (u :: us).toArray) (fun j u st => st.1.typeIs) (k := 1) (by omega) ⟨hit₁, hl₁⟩ (Heap.lt_size hoi) (Heap.lt_size hol) (fun h₂ tk hk => ?_) (by rw [hsz, sizeLine_eq]; omega)))
  rw [e2]
  show wpAny _ _ (if us.length < 0 then _ else _) _ _ _
  rw [if_neg (by omega)]
  show wpAny _ _ (newList (us.take (us.length - 0)) >>= fun d => pure ([u] ++ [d] ++ us.drop (us.length - 0))) _ _ _
  rw [Nat.sub_zero, List.take_length, List.drop_length]
  refine wpAny_bind (wpAny_newList (wpAny_pure ?_) (by show us.length ≤ sizeLine; rw [sizeLine_eq]; omega))
  exact h h₂ tk fun b o e => hk b o (Nat.ne_of_lt (Heap.lt_size e)) (hs₁.extBut b o (Nat.ne_of_lt (Heap.lt_size e)) (Heap.get?_push_of_some _ e))
def gStar (K : PySem.W.Frag) (t : TGs) : TG := fun v σ H Q => ∃ a x xs, v = .ref a ∧ SqL K H a (x :: xs) ∧ xs.length ≤ 16000 ∧ ∀ p, H p = none → t [x, .ref p] σ (upd H p (.lst xs)) Q
section
variable {X : Cx} {pos p : Pos}
theorem pgs_star {e : Expr} {es : List Expr} {t : TG} {u : TGs} (h1 : PG X e t) (h2 : PGs X es u)
    (hs : (assignEach (.Starred e p :: es) X.env).map (·.2) = assign e X.env :: (assignEach es X.env).map (·.2) := by rfl) : PGs X (.Starred e p :: es) (gCons t u) := by
  refine ⟨fun pins s σ H vs us Q I r h => ?_⟩
  obtain ⟨v, vr, e1, h⟩ := h
  subst e1
  cases r with
  | cons r rr =>
    rw [hs]
    refine assignInOrder_cons (thn (h1.run pins s σ H _ _ _ I r h) fun _ s1 ⟨σ1, H1, I1, q1⟩ => ?_)
    exact h2.run pins s1 σ1 H1 _ _ Q I1 rr q1
theorem pg_star {es : List Expr} {k : Nat} {t : TGs} (hc : X.calm = true) (h : PGs X es t)
    (hn : (assignEach es X.env).length = 2 := by rfl) (hst : (assignEach es X.env).findIdx? (·.1) = some 1 := by rfl) : PG X (.Tuple es k pos) (gStar X.K t) := by
  refine ⟨fun pins s σ H v u Q I r hw => ?_⟩
  obtain ⟨a, x, xs, e1, hq, hl, hw⟩ := hw
  subst e1
  cases r
  obtain ⟨its, rv, ht, hz⟩ := I.list hq
  cases rv with
  | cons r1 rr =>
    rename_i u1 us
    rw [PySem.arm_assign_Tuple]
    refine wpAny_bind (wpAny_standAt ?_)
    unfold unpack
    rw [hn, hst]
    refine wpAny_bind (wpAny_holding (unpack_star1 (let ⟨o, n, g1, g2, _, g4⟩ := ht; (⟨o, g1, g2, n, g4⟩ : s.heap.IsList a (u1 :: us).toArray)) (I.ok.hd hc) (by rw [← rr.length]; exact hl) fun h₂ tk hk => ?_))
    have I1 : Inv X pins σ H { s with heap := h₂ } := I.kept (t' := s.toks) hk
    have hf : H h₂.objs.size = none := I1.hok.fresh (Nat.le_refl _)
    have I2 : Inv X pins σ (upd H h₂.objs.size (.lst xs)) { s with heap := h₂.push { cls := .type "list", data := .seq us.toArray }, toks := tk } := I1.laid (t' := tk) (fun b u e => Heap.get?_push_of_some _ e) (Nat.le_refl _) ⟨by
      have : sizeLine = sizeLine := rfl
      exact Nat.le_trans hl (by rw [sizeLine_eq]; decide), us, 0, rr, Heap.get?_push_size _ rfl⟩
    exact h.run pins _ σ _ _ _ Q I2 (.cons r1 (.cons (show L2.RelV (.ref h₂.objs.size) (.ref h₂.objs.size) from rfl) .nil)) (hw _ hf)
end
end Nk
set_option Elab.async false
set_option linter.all false
set_option maxRecDepth 100000
set_option maxHeartbeats 4000000
namespace Nk
open PySem L2
theorem DqAll.set {K : PySem.W.Frag} {H : Hp} {v : V} {d : PyData} (q : Dq K H v d) : ∀ {vs : List V} {ds : List PyData} {j : Nat}, DqAll K H vs ds → DqAll K H (vs.set j v) (ds.set j d)
  | _, _, _, .nil => .nil
  | _, _, 0, .cons _ t => .cons q t
  | _, _, j + 1, .cons h t => .cons h (DqAll.set q t)
theorem noMs_set {d : PyData} (hd : noM d = true) : ∀ {ds : List PyData} {j : Nat}, noMs ds = true → noMs (ds.set j d) = true
  | [], _, h => h
  | x :: ds, 0, h => by
    have h' : noM x = true ∧ noMs ds = true := by simpa [noMs] using h
    show noMs (d :: ds) = true
    simp [noMs, hd, h'.2]
  | x :: ds, j + 1, h => by
    have h' : noM x = true ∧ noMs ds = true := by simpa [noMs] using h
    show noMs (x :: ds.set j d) = true
    simp [noMs, h'.1, noMs_set hd h'.2]
section
variable {K : PySem.W.Frag} {X : Cx} {n : Nat} {G G' : G3} {Γ Γ' : List (Nat × PyData)} {e a b c : Expr} {es : List Expr} {d da db dc : PyData} {ds s t : List PyData} {pos p : Pos} {st : Stmt} {rest body : List Stmt} {W : List Nat}
/-- x[i] = e, x one's own list -/
theorem pst_item {i j : Nat} {x : Str} {px ppos : Pos} {ix : Expr} (hi : X.N[i]? = some x) (hv : Vis X.env.scope x) (hl : G.o.lookup i = some ds) (h : PD K X n G.all e d) (hn : noM d = true) (g : PD K X n G.all ix (.int (j : Nat))) (hj : j < ds.length) (hK : X.K = K := by rfl) (hd : (x == ("__debug__" : Str)) = false := by decide) (hcd : (x == ("__classdict__" : Str)) = false := by decide)
    (hs : swapsWithSole [.Subscript (.Name x px) ix ppos] e pos.line X.env = pure false := by rfl) (hw : swappedStores [.Subscript (.Name x px) ix ppos] e X.env = pure none := by rfl) (h1 : (assignEach [.Subscript (.Name x px) ix ppos] X.env).map (·.2) = [assign (.Subscript (.Name x px) ix ppos) X.env] := by rfl)
    (ha : ∀ v, assign (.Subscript (.Name x px) ix ppos) X.env v = (do
      let ov ← holding [v] (eval (.Name x px) X.env)
      let iv ← holding [v, ov] (eval ix X.env)
      standAt ppos
      holding [v, ov, iv] (setItem ov iv v)
      release [v, ov, iv] []) := by intro _; rfl) : PSt K X n G (.Assign [.Subscript (.Name x px) ix ppos] e pos) (G.setO i (ds.set j d)) := by
  subst hK
  refine ⟨ps_imp (ps_asg h.pe (pg_sub (pe_var hi hv hd hcd) g.pe set_list ha) hs hw h1) fun D σ H ⟨H0, s, k⟩ => ⟨s.env, fun v H1 e1 q1 => ?_⟩⟩
  obtain ⟨a, vs, g1, g2, g3, g4, g5⟩ := s.own.get hl
  refine ⟨.ref a, g1, (s.same e1).env, fun y H2 e2 q2 => ?_⟩
  cases q2
  have g3' := e2 _ _ (e1 _ _ g3)
  have g4' := g4.same (e1.trans e2)
  have hlen := g4.length
  refine ⟨a, vs, (j : Int), j, rfl, rfl, g3', ?_, ?_⟩
  · unfold ixN
    rw [if_pos (by omega), if_pos (by omega), Int.toNat_natCast]
  · have nn := noMs_set hn (j := j) g5
    refine k σ _ ((Same.ts (e1.trans e2)).trans (TupS.upd g3')) ((s.same (e1.trans e2)).setO hl g1 g2 g3' ?_ nn)
    exact (DqAll.set (q1.same e2) g4').ts (TupS.upd g3') nn
/-- a, b = e -/
theorem psp_two {i j : Nat} {x y : Str} {k : Nat} {px py tpos : Pos} (nd : X.N.Nodup) (hi : X.N[i]? = some x) (hj : X.N[j]? = some y) (hx : Loc X.env.scope x) (hy : Loc X.env.scope y) (hin : i < n) (hjn : j < n) (hij : i ≠ j) (hWi : W.contains i = true) (hWj : W.contains j = true) (hc : X.calm = true) (h : PD K X n Γ e (.tuple [da, db]))
    (hs : swapsWithSole [.Tuple [.Name x px, .Name y py] k tpos] e pos.line X.env = pure false := by rfl) (hw : swappedStores [.Tuple [.Name x px, .Name y py] k tpos] e X.env = pure none := by rfl)
    (h1 : (assignEach [.Tuple [.Name x px, .Name y py] k tpos] X.env).map (·.2) = [assign (.Tuple [.Name x px, .Name y py] k tpos) X.env] := by rfl)
    (hl : (assignEach [.Name x px, .Name y py] X.env).length = 2 := by rfl) (hst : (assignEach [.Name x px, .Name y py] X.env).findIdx? (·.1) = none := by rfl)
    (hq1 : (assignEach [.Name x px, .Name y py] X.env).map (·.2) = assign (.Name x px) X.env :: (assignEach [.Name y py] X.env).map (·.2) := by rfl) (hq2 : (assignEach [.Name y py] X.env).map (·.2) = assign (.Name y py) X.env :: (assignEach [] X.env).map (·.2) := by rfl)
    (hf : X.fn x = true ∨ X.env.scope.names.lookup x = some .local := by first | exact .inl rfl | exact .inr rfl | assumption) (hf2 : X.fn y = true ∨ X.env.scope.names.lookup y = some .local := by first | exact .inl rfl | exact .inr rfl | assumption) :
    PSp K X n W Γ (.Assign [.Tuple [.Name x px, .Name y py] k tpos] e pos) (putD j db (putD i da Γ)) := by
  refine ⟨ps_imp (ps_asg h.pe (pg_tup hc (pgs_cons (pg_name (i := i) nd hi hx hf) (pgs_cons (pg_name (i := j) nd hj hy hf2) pgs_nil hq2) hq1) hl hst) hs hw h1) fun D σ H ⟨e, k⟩ => ⟨e, fun v H' s q => ?_⟩⟩
  cases q with
  | tup hp ha =>
    cases ha with
    | cons q1 ha =>
      cases ha with
      | cons q2 ha =>
        cases ha
        refine ⟨_, _, rfl, by rw [h.hK]; exact SqT.of hp, rfl, _, _, rfl, _, _, rfl, rfl, ?_⟩
        have l : σ.length = n := e.1
        refine k _ H' s ⟨by rw [List.length_set, List.length_set]; exact l, ⟨_, by rw [List.getElem?_set_self (by rw [List.length_set, l]; exact hjn)], q2⟩, ?_⟩ fun m hm => (set_off hWj m hm).trans (set_off hWi m hm)
        have e1 : EnvL K (putD i da Γ) (σ.set i _) H' := ⟨⟨_, by rw [List.getElem?_set_self (by rw [l]; exact hin)], q1⟩, (e.2.same s).drp⟩
        exact e1.drp
/-- a suite that isn't run -/
theorem psp_skip (h : PB K X n Γ c false) : PSp K X n W Γ (.If c body [] pos) Γ :=
  ⟨ps_imp (ps_if h.pt pss_never pss_nil) fun D σ H ⟨e, k⟩ => ⟨e, fun H' s => iteF (k σ H' s (e.same s) fun _ _ => rfl)⟩⟩
theorem StE.of {σ : St} {H : Hp} (e : Env K n Γ σ H) : StE K n H ⟨Γ, [], []⟩ σ H := ⟨e.1, Same.refl H, e.2, trivial, (fun q hq => nomatch hq), trivial⟩
/-- a, *b = a new list -/
theorem ps_star {i j : Nat} {x y : Str} {k : Nat} {px py spos tpos : Pos} (nd : X.N.Nodup) (hi : X.N[i]? = some x) (hj : X.N[j]? = some y) (hx : Loc X.env.scope x) (hy : Loc X.env.scope y) (hin : i < n) (hjn : j < n) (hij : i ≠ j) (hc : X.calm = true) (h : PF K X n Γ e (d :: ds)) (hlen : ds.length ≤ 16000) (hK : X.K = K := by rfl)
    (hs : swapsWithSole [.Tuple [.Name x px, .Starred (.Name y py) spos] k tpos] e pos.line X.env = pure false := by rfl) (hw : swappedStores [.Tuple [.Name x px, .Starred (.Name y py) spos] k tpos] e X.env = pure none := by rfl)
    (h1 : (assignEach [.Tuple [.Name x px, .Starred (.Name y py) spos] k tpos] X.env).map (·.2) = [assign (.Tuple [.Name x px, .Starred (.Name y py) spos] k tpos) X.env] := by rfl)
    (hl : (assignEach [.Name x px, .Starred (.Name y py) spos] X.env).length = 2 := by rfl) (hst : (assignEach [.Name x px, .Starred (.Name y py) spos] X.env).findIdx? (·.1) = some 1 := by rfl)
    (hq1 : (assignEach [.Name x px, .Starred (.Name y py) spos] X.env).map (·.2) = assign (.Name x px) X.env :: (assignEach [.Starred (.Name y py) spos] X.env).map (·.2) := by rfl) (hq2 : (assignEach [.Starred (.Name y py) spos] X.env).map (·.2) = assign (.Name y py) X.env :: (assignEach [] X.env).map (·.2) := by rfl)
    (hf : X.fn x = true ∨ X.env.scope.names.lookup x = some .local := by first | exact .inl rfl | exact .inr rfl | assumption) (hf2 : X.fn y = true ∨ X.env.scope.names.lookup y = some .local := by first | exact .inl rfl | exact .inr rfl | assumption) :
    PS X (.Assign [.Tuple [.Name x px, .Starred (.Name y py) spos] k tpos] e pos) (fun D σ H => Env K n Γ σ H ∧ ∀ v w H', Same H H' → Dq K H' v d → Dq K H' w (.list ds) → D.nx ((σ.set i (some v)).set j (some w)) H') := by
  subst hK
  refine ps_imp (ps_asg h.pe (pg_star hc (pgs_cons (pg_name (i := i) nd hi hx hf) (pgs_star (pg_name (i := j) nd hj hy hf2) pgs_nil hq2) hq1) hl hst) hs hw h1) fun D σ H ⟨e, k⟩ => ⟨e, fun p vs H' hp s hq q => ?_⟩
  cases q with
  | cons q1 q2 =>
    refine ⟨p, _, _, rfl, SqL.of hq, by rw [q2.length]; exact hlen, fun p2 hp2 => ?_⟩
    rename_i v us
    have s2 : Same H' (upd H' p2 (.lst us)) := same_new hp2
    exact ⟨_, _, rfl, _, _, rfl, rfl, k _ _ _ (s.trans s2) (q1.same s2) (.lst upd_same (q2.same s2))⟩
end
end Nk
set_option Elab.async false
set_option linter.all false
set_option maxRecDepth 100000
set_option maxHeartbeats 4000000
namespace Nk
open PySem L2
theorem dq_ints {K : PySem.W.Frag} {H : Hp} : ∀ {ns : List Int} {vs : List V}, DqAll K H vs (ns.map .int) → vs = ns.map .int
  | [], _, h => by cases h; rfl
  | n :: ns, _, h => by
    cases h with
    | cons h1 h2 =>
      cases h1
      rw [dq_ints h2]
      rfl
section
variable {K : PySem.W.Frag} {X : Cx} {n : Nat} {Γ : List (Nat × PyData)} {e a b c : Expr} {d : PyData} {ds : List PyData} {pos p : Pos}
/-- xs.index(x) of integers, where it is -/
theorem pd_idx {ns : List Int} {x : Int} {j : Nat} {apos cpos : Pos} (h : PD K X n Γ a (.list (ns.map .int))) (g : PD K X n Γ b (.int x)) (hj : ns[j]? = some x) (h0 : ∀ m y, m < j → ns[m]? = some y → y ≠ x)
    (hbase : attributeBase a "index" X.env (eval a X.env) = eval a X.env := by rfl)
    (hfew : ((backTo cpos (starEach [b] X.env)).all (fun x => !x.1) && (backToKw cpos (keywordEach [] X.env)).all (fun x => x.1.isSome)
      && decide (([b] : List Expr).length + ([] : List Keyword).length + (if ([] : List Keyword).isEmpty then 0 else 1) < 30)) = true := by rfl)
    (hline : (apos.endLine == cpos.line) = true := by rfl) (hs : starEach [b] X.env = (false, eval b X.env) :: starEach [] X.env := by rfl) (hplain : (backTo cpos (starEach [] X.env)).any (·.1) = false := by rfl) :
    PD K X n Γ (.Call (.Attribute a "index" apos) [b] [] cpos) (.int (j : Nat)) := by
  have hK := h.hK
  subst hK
  refine .of (pe_bm PySem.F.plainAttrs_list PySem.F.slot_list_index PySem.F.type_list_index mt_index h.pe (pa_cons g.pe pa_nil hs) hbase hfew hline hs hplain) (fun σ H Q e k => ⟨e, fun v H1 s1 q1 => ?_⟩)
  cases q1 with
  | lst hp ha =>
    refine ⟨.inl ⟨rfl, _, SqL.of hp⟩, e.same s1, fun w H2 s2 q2 => ?_⟩
    cases q2
    have hv := dq_ints ha
    subst hv
    refine ⟨_, ns.map .int, .int x, j, .int x, rfl, rfl, SqL.of (s2 _ _ hp), rfl, ?_, ?_, ?_, ?_, k _ H2 (s1.trans s2) (.int _)⟩
    · rw [List.all_map]
      exact List.all_eq_true.mpr fun _ _ => rfl
    · rw [List.getElem?_map, hj]; rfl
    · show decide _ = true
      simp
    · intro m z hm hz
      rw [List.getElem?_map] at hz
      cases hy : ns[m]? with
      | none => rw [hy] at hz; cases hz
      | some y =>
        rw [hy] at hz
        cases hz
        have := h0 m y hm hy
        show decide _ = false
        simpa using this
/-- y = [e for x in xs] -/
theorem psp_lc {W : List Nat} {α : Type} {xs : List α} {enc : α → PyData} {out : α → PyData} {Δ : α → List (Nat × PyData)} {i : Nat} {y : Str} {py spos : Pos} {elt tg it : Expr} {scope : Scope} {own : List (Str × Nat)} {g : TG}
    (hc : X.calm = true) (nd : X.N.Nodup) (hy : X.N[i]? = some y) (hyl : X.env.scope.names.lookup y = some .local) (hin : i < n) (hW : W.contains i = true) (hsw : swapsWith (.ListComp elt [⟨tg, it, [], 0⟩] scope pos) (some (.Name y py)) spos.line X.env = pure true)
    (hi : PWk K X n Γ tg it (xs.map enc)) (ok : BlkOk X.N X.env.scope scope own) (hg : ∀ (s : Shared) (H : Hp) (C : Addr) (cl : List (Str × Addr)) (fp : List Addr), PG (X.blk s H scope (compEnvC scope cl C X.env) fp) tg g)
    (htg : ∀ x ∈ xs, Tg K n g (own.map (·.2)) (enc x) (Δ x)) (hoff : offK Γ (own.map (·.2)) = true)
    (he : ∀ x ∈ xs, ∀ (s : Shared) (H : Hp) (C : Addr) (cl : List (Str × Addr)) (fp : List Addr), PD K (X.blk s H scope (compEnvC scope cl C X.env) fp) n (Δ x ++ Γ) elt (out x))
    (hno : ∀ x ∈ xs, noL (out x) = true) (hl : xs.length ≤ 100000) (ds : List PyData) (hds : xs.map out = ds) (hs : ∀ x, foldedSetIterable it X.env x = pure x := by intro _; rfl) :
    PSp K X n W Γ (.Assign [.Name y py] (.ListComp elt [⟨tg, it, [], 0⟩] scope pos) spos) (putD i (.list ds) Γ) := by
  have := psp_lcF (keep := fun _ => true) (pos := pos) hc nd hy hyl hin hW hsw hi ok hg htg hoff (fun x hx s H C cl fp => ⟨fun pins s' σ H' Q I q => pts_nil.run pins s' σ H' Q I (q.2 H' (Same.refl H'))⟩) (fun x hx _ s H C cl fp => (he x hx s H C cl fp).pe) hno hl hs
  rw [filter_yes, hds] at this
  exact this
/-- defs whose statements change names alone -/
structure PRp (K : PySem.W.Frag) (X : Cx) (n : Nat) (Γ : List (Nat × PyData)) (sts : List Stmt) (d : PyData) : Prop where
  ps : PSs X sts (fun D σ H => Env K n Γ σ H ∧ ∀ v H', Same H H' → Dq K H' v d → D.rt v H')
theorem prp_cons {Γ' : List (Nat × PyData)} {W : List Nat} {st : Stmt} {rest : List Stmt} (h : PSp K X n W Γ st Γ') (g : PRp K X n Γ' rest d) : PRp K X n Γ (st :: rest) d :=
  ⟨pss_imp (pss_cons h.ps g.ps) fun D σ H ⟨e, k⟩ => ⟨e, fun σ' H' s e' _ => ⟨e', fun v H2 s2 q => k v H2 (s.trans s2) q⟩⟩⟩
theorem prp_ret (h : PD K X n Γ e d) : PRp K X n Γ [.Return (some e) pos] d :=
  ⟨pss_imp (pss_one (ps_ret h.pe)) fun D σ H ⟨e, k⟩ => ⟨e, fun v H' s q => k v H' s q⟩⟩
theorem prp_if {k : Bool} {body rest : List Stmt} (h : PB K X n Γ c k) (h1 : k = true → PRp K X n Γ body d) (h2 : k = false → PRp K X n Γ rest d) : PRp K X n Γ (.If c body [] pos :: rest) d := by
  cases k with
  | true => exact ⟨pss_imp (pss_cons (ps_if h.pt (h1 rfl).ps pss_never) pss_never) fun D σ H ⟨e, k⟩ => ⟨e, fun H' s => iteT ⟨e.same s, fun v H2 s2 q => k v H2 (s.trans s2) q⟩⟩⟩
  | false => exact ⟨pss_imp (pss_cons (ps_if h.pt pss_never pss_nil) (h2 rfl).ps) fun D σ H ⟨e, k⟩ => ⟨e, fun H' s => iteF ⟨e.same s, fun v H2 s2 q => k v H2 (s.trans s2) q⟩⟩⟩
theorem PRp.pr {G : G3} {sts : List Stmt} (h : PRp K X n G.all sts d) : PR K X n G sts d := ⟨pss_imp h.ps fun D σ H ⟨H0, s, k⟩ => ⟨s.env, fun v H' e q => k v H' (s.old.trans e) q⟩⟩
theorem PRp.cast {sts : List Stmt} {d' : PyData} (h : PRp K X n Γ sts d) (q : d = d') : PRp K X n Γ sts d' := q ▸ h
end
end Nk
set_option Elab.async false
set_option linter.all false
set_option maxRecDepth 100000
set_option maxHeartbeats 4000000
namespace Nk
open PySem L2 RZ
/-! dict(zip(a, b)) of two tuples -/
section
variable {prog : Program} {w : World} {A : Around} {E : Value → Shared → Prop} {s : Shared} {z TI TO T i1 i2 l1 l2 : Addr} {f : Bool} {oT : Obj} {m n : Nat} {xs ys : Array Value}
/-- all but the zip and the two iterators stays -/
abbrev Off3 (z i1 i2 : Addr) (h h' : Heap) : Prop := ∀ c o, c ≠ z → c ≠ i1 → c ≠ i2 → h.get? c = some o → h'.get? c = some o
theorem zt_item {x y : Value} {Q : Value → Shared → Prop} (D : ZipApart z TI TO i1 i2 l1 l2) (hz : IsZipHeld s.heap z TI TO T f) (hT : s.heap.get? T = some oT) (hp : IsPair s.heap TI (.ref i1) (.ref i2))
    (h1 : s.heap.IsTupleIter i1 l1 m) (h2 : s.heap.IsTupleIter i2 l2 n) (t1 : s.heap.IsTuple l1 xs) (t2 : s.heap.IsTuple l2 ys) (hx : xs[m]? = some x) (hy : ys[n]? = some y)
    (k : ∀ h', IsZipHeld h' z TI TO T true → h'.IsTupleIter i1 l1 (m + 1) → h'.IsTupleIter i2 l2 (n + 1) → IsPair h' s.heap.objs.size x y → Off3 z i1 i2 s.heap h' → Q (.ref s.heap.objs.size) { s with heap := h' }) :
    wpAny (model prog w) A (Builtin.«zip.__next__» ⟨[.ref z], []⟩) (fun r s' => ∃ v, r = .done (.ret v) ∧ Q v s') E s := by
  show wpAny _ _ (field (.ref z) 2 >>= _) _ _ _
  refine wpAny_bind (wpAny_field hz rfl (x := .bool false) rfl ?_)
  show wpAny _ _ (field (.ref z) 3 >>= _) _ _ _
  refine wpAny_bind (wpAny_field hz rfl (x := .ref TI) rfl (wpAny_bind (wpAny_seqItems hp rfl ?_)))
  show wpAny _ _ (Builtin.SmallTypes.ownedTupleIsFree (.ref z) >>= _) _ _ _
  refine wpAny_bind (wpAny_tupleHeld_zip hz hT fun ha za sa => ?_)
  simp only [Bool.false_eq_true, if_false]
  refine wpAny_bind ?_
  rw [← Array.forIn_toList]
  simp only [List.forIn_cons, List.forIn_nil]
  refine wpAny_bind (wpAny_bind (wpAny_holding ?_))
  show wpAny _ _ (Builtin.SmallTypes.nextOf (.ref i1) >>= _) _ _ _
  refine wpAny_bind (wpAny_nextOf_tuple_item (s := { s with heap := ha }) (h1.at fun o e => sa.extBut _ _ D.i1z e) (t1.at fun o e => sa.extBut _ _ D.l1z e) hx fun hb ib sb => wpAny_pure (wpAny_pure ?_))
  refine wpAny_bind (wpAny_bind (wpAny_holding ?_))
  show wpAny _ _ (Builtin.SmallTypes.nextOf (.ref i2) >>= _) _ _ _
  refine wpAny_bind (wpAny_nextOf_tuple_item (s := { s with heap := hb }) (h2.at fun o e => sb.extBut _ _ D.i12.symm (sa.extBut _ _ D.i2z e)) (t2.at fun o e => sb.extBut _ _ D.l2i1 (sa.extBut _ _ D.l2z e)) hy fun hc ic sc => wpAny_pure (wpAny_pure (wpAny_pure ?_)))
  show wpAny _ _ (newTuple [x, y] >>= _) _ _ _
  refine wpAny_bind (wpAny_newTuple (wpAny_pure ⟨_, rfl, ?_⟩))
  have off : Off3 z i1 i2 s.heap hc := fun c o n1 n2 n3 e => sc.extBut _ _ n3 (sb.extBut _ _ n2 (sa.extBut _ _ n1 e))
  have new : IsPair (hc.push { cls := .type "tuple", data := .seq #[x, y] }) hc.objs.size x y := Heap.get?_push_size _ rfl
  have size : hc.objs.size = s.heap.objs.size := by rw [sc.1, sb.1, sa.1]
  rw [size] at new
  show Q (.ref hc.objs.size) _
  rw [size]
  exact k _ (Heap.get?_push_of_some _ (sc.extBut _ _ D.i2z.symm (sb.extBut _ _ D.i1z.symm za))) (ib.at fun o e => Heap.get?_push_of_some _ (sc.extBut _ _ D.i12 e)) (ic.at fun o e => Heap.get?_push_of_some _ e) new fun c o n1 n2 n3 e => Heap.get?_push_of_some _ (off c o n1 n2 n3 e)
theorem zt_end {Q : Fin → Shared → Prop} (hh : A.handled = none) (D : ZipApart z TI TO i1 i2 l1 l2) (hz : IsZipHeld s.heap z TI TO T f) (hT : s.heap.get? T = some oT) (hp : IsPair s.heap TI (.ref i1) (.ref i2))
    (h1 : s.heap.IsTupleIter i1 l1 m) (h2 : s.heap.IsTupleIter i2 l2 n) (t1 : s.heap.IsTuple l1 xs) (t2 : s.heap.IsTuple l2 ys) (no : xs[m]? = none ∨ ys[n]? = none)
    (k : ∀ h' e, Off3 z i1 i2 s.heap h' → (∃ o, h'.get? e = some o ∧ o.cls = .type "StopIteration") → E (.ref e) { s with heap := h' }) :
    wpAny (model prog w) A (Builtin.«zip.__next__» ⟨[.ref z], []⟩) Q E s := by
  show wpAny _ _ (field (.ref z) 2 >>= _) _ _ _
  refine wpAny_bind (wpAny_field hz rfl (x := .bool false) rfl ?_)
  show wpAny _ _ (field (.ref z) 3 >>= _) _ _ _
  refine wpAny_bind (wpAny_field hz rfl (x := .ref TI) rfl (wpAny_bind (wpAny_seqItems hp rfl ?_)))
  show wpAny _ _ (Builtin.SmallTypes.ownedTupleIsFree (.ref z) >>= _) _ _ _
  refine wpAny_bind (wpAny_tupleHeld_zip hz hT fun ha za sa => ?_)
  simp only [Bool.false_eq_true, if_false]
  refine wpAny_bind ?_
  rw [← Array.forIn_toList]
  simp only [List.forIn_cons, List.forIn_nil]
  refine wpAny_bind (wpAny_bind (wpAny_holding ?_))
  show wpAny _ _ (Builtin.SmallTypes.nextOf (.ref i1) >>= _) _ _ _
  have j1 : ha.IsTupleIter i1 l1 m := h1.at fun o e => sa.extBut _ _ D.i1z e
  have u1 : ha.IsTuple l1 xs := t1.at fun o e => sa.extBut _ _ D.l1z e
  cases hx : xs[m]? with
  | none => exact wpAny_bind (wpAny_nextOf_tuple_end (s := { s with heap := ha }) hh j1 u1 hx fun hb e sb he => k hb e (fun c o n1 n2 _ q => sb _ _ n2 (sa.extBut _ _ n1 q)) he)
  | some x =>
    have hy : ys[n]? = none := no.resolve_left (by rw [hx]; intro q; cases q)
    refine wpAny_bind (wpAny_nextOf_tuple_item (s := { s with heap := ha }) j1 u1 hx fun hb ib sb => wpAny_pure (wpAny_pure ?_))
    refine wpAny_bind (wpAny_bind (wpAny_holding ?_))
    show wpAny _ _ (Builtin.SmallTypes.nextOf (.ref i2) >>= _) _ _ _
    exact wpAny_bind (wpAny_nextOf_tuple_end (s := { s with heap := hb }) hh (h2.at fun o e => sb.extBut _ _ D.i12.symm (sa.extBut _ _ D.i2z e)) (t2.at fun o e => sb.extBut _ _ D.l2i1 (sa.extBut _ _ D.l2z e)) hy fun hc e sc he => k hc e (fun c o n1 n2 n3 q => sc _ _ n3 (sb.extBut _ _ n2 (sa.extBut _ _ n1 q))) he)
theorem zt_next {x y : Value} {Q : Option Value → Shared → Prop} (D : ZipApart z TI TO i1 i2 l1 l2) (hz : IsZipHeld s.heap z TI TO T f) (hT : s.heap.get? T = some oT) (hp : IsPair s.heap TI (.ref i1) (.ref i2))
    (h1 : s.heap.IsTupleIter i1 l1 m) (h2 : s.heap.IsTupleIter i2 l2 n) (t1 : s.heap.IsTuple l1 xs) (t2 : s.heap.IsTuple l2 ys) (hx : xs[m]? = some x) (hy : ys[n]? = some y)
    (k : ∀ h', IsZipHeld h' z TI TO T true → h'.IsTupleIter i1 l1 (m + 1) → h'.IsTupleIter i2 l2 (n + 1) → IsPair h' s.heap.objs.size x y → Off3 z i1 i2 s.heap h' → Q (some (.ref s.heap.objs.size)) { s with heap := h' }) :
    wpAny (model prog w) A (pyNext (.ref z)) Q E s := by
  have ty : s.TypeIs (.ref z) "zip" := ⟨_, hz, rfl⟩
  unfold pyNext
  refine wpAny_bind (wpAny_attempt (wpAny_callSpecial?_slot (name := Str.ofString "__next__") ty F.slot_zip_next (wpAny_call_entry F.slot_zip_next ty F.entry_zip_next ?_ (F.args_zip_next_1 _))))
  exact zt_item D hz hT hp h1 h2 t1 t2 hx hy fun h' a b c d e => wpAny_pure (k h' a b c d e)
theorem zt_stop {Q : Option Value → Shared → Prop} (hh : A.handled = none) (D : ZipApart z TI TO i1 i2 l1 l2) (hz : IsZipHeld s.heap z TI TO T f) (hT : s.heap.get? T = some oT) (hp : IsPair s.heap TI (.ref i1) (.ref i2))
    (h1 : s.heap.IsTupleIter i1 l1 m) (h2 : s.heap.IsTupleIter i2 l2 n) (t1 : s.heap.IsTuple l1 xs) (t2 : s.heap.IsTuple l2 ys) (no : xs[m]? = none ∨ ys[n]? = none)
    (k : ∀ h', Off3 z i1 i2 s.heap h' → Q none { s with heap := h' }) : wpAny (model prog w) A (pyNext (.ref z)) Q E s := by
  have ty : s.TypeIs (.ref z) "zip" := ⟨_, hz, rfl⟩
  unfold pyNext
  refine wpAny_bind (wpAny_attempt (wpAny_callSpecial?_slot (name := Str.ofString "__next__") ty F.slot_zip_next (wpAny_call_entry F.slot_zip_next ty F.entry_zip_next ?_ (F.args_zip_next_1 _))))
  refine zt_end hh D hz hT hp h1 h2 t1 t2 no fun h' e off he => ?_
  obtain ⟨o, ho, hc⟩ := he
  exact wpAny_bind (wpAny_isInstance (T := "StopIteration") (b := true) ⟨o, ho, hc⟩ isSubtype_stop (wpAny_pure (k h' off)))
end
section
variable {prog : Program} {w : World} {z TI TO i1 i2 l1 l2 : Addr} {xs ys : Array Value}
structure ZTup (z TI TO i1 i2 l1 l2 : Addr) (xs ys : Array Value) (h : Heap) (i : Nat) : Prop where
  p : IsPair h TI (.ref i1) (.ref i2)
  a : h.IsTupleIter i1 l1 i
  b : h.IsTupleIter i2 l2 i
  t : h.IsTuple l1 xs
  u : h.IsTuple l2 ys
theorem ZTup.at {h h' : Heap} {i : Nat} (Z : ZTup z TI TO i1 i2 l1 l2 xs ys h i) (k : ∀ c, c = TI ∨ c = i1 ∨ c = i2 ∨ c = l1 ∨ c = l2 → ∀ o, h.get? c = some o → h'.get? c = some o) : ZTup z TI TO i1 i2 l1 l2 xs ys h' i :=
  ⟨k _ (.inl rfl) _ Z.p, Z.a.at (k _ (.inr (.inl rfl))), Z.b.at (k _ (.inr (.inr (.inl rfl)))), Z.t.at (k _ (.inr (.inr (.inr (.inl rfl))))), Z.u.at (k _ (.inr (.inr (.inr (.inr rfl)))))⟩
/-- how the zip stands: as it was made, or with a tuple told -/
def ZNow (z TI TO i1 i2 d : Addr) (h : Heap) : Prop := (IsZip h z TI TO .none ∧ ∃ a b, IsPair h TO a b) ∨ ∃ T f oT, IsZipHeld h z TI TO T f ∧ h.get? T = some oT ∧ T ≠ z ∧ T ≠ i1 ∧ T ≠ i2 ∧ T ≠ d
theorem pairZip (D : ZipApart z TI TO i1 i2 l1 l2) (xs ys : Array Value) : PairArg prog w "zip" z [z, TI, TO, i1, i2, l1, l2] [z, TO, i1, i2] (min xs.size ys.size) (fun i k v => xs[i]? = some k ∧ ys[i]? = some v)
    (fun h => IsZip h z TI TO .none ∧ (∃ a b, IsPair h TO a b) ∧ ZTup z TI TO i1 i2 l1 l2 xs ys h 0) where
  type := fun s ok => ⟨_, ok.1, rfl⟩
  notDict := by decide
  keep := fun h h' ok k => ⟨k _ _ ok.1, let ⟨a, b, e⟩ := ok.2.1; ⟨a, b, k _ _ e⟩, ok.2.2.at fun c _ o e => k c o e⟩
  there := fun h ok b hb => by
    obtain ⟨q1, ⟨_, _, q2⟩, ⟨q3, ⟨_, q4, _⟩, ⟨_, q5, _⟩, ⟨_, q6, _⟩, ⟨_, q7, _⟩⟩⟩ := ok
    have hb' : b = z ∨ b = TI ∨ b = TO ∨ b = i1 ∨ b = i2 ∨ b = l1 ∨ b = l2 := by simpa using hb
    rcases hb' with e | e | e | e | e | e | e <;> subst e
    · exact ⟨_, q1⟩
    · exact ⟨_, q3⟩
    · exact ⟨_, q2⟩
    · exact ⟨_, q4⟩
    · exact ⟨_, q5⟩
    · exact ⟨_, q6⟩
    · exact ⟨_, q7⟩
  sub := fun b hb => by
    have hb' : b = z ∨ b = TO ∨ b = i1 ∨ b = i2 := by simpa using hb
    rcases hb' with e | e | e | e <;> subst e <;> simp
  noKeys := fun A s Q E hA ok h => getAttrOr_miss_zip ok.1 rfl rfl rfl zip_no_keys (by decide +kernel) hA h
  iter := fun A s d Q E hA ok hd hdf h => by
    obtain ⟨q1, q2, Z⟩ := ok
    have hdf' : ¬ (d = z ∨ d = TI ∨ d = TO ∨ d = i1 ∨ d = i2 ∨ d = l1 ∨ d = l2) := by simpa using hdf
    have nz : d ≠ z := fun e => hdf' (.inl e)
    have nTO : d ≠ TO := fun e => hdf' (.inr (.inr (.inl e)))
    have n1 : d ≠ i1 := fun e => hdf' (by simp [e])
    have n2 : d ≠ i2 := fun e => hdf' (by simp [e])
    have frZ : ∀ {i : Nat} {h h' : Heap}, (∀ b o, b ≠ d → h.get? b = some o → h'.get? b = some o) → ZTup z TI TO i1 i2 l1 l2 xs ys h i → ZTup z TI TO i1 i2 l1 l2 xs ys h' i := fun k Z => Z.at fun c hc o e => k c o (fun q => hdf' (by
      rw [← q]
      rcases hc with e | e | e | e | e <;> simp [e])) e
    refine wpAny_pyIter_zip q1 (h z [z, TO, i1, i2] (fun i h => ZTup z TI TO i1 i2 l1 l2 xs ys h i ∧ ZNow z TI TO i1 i2 d h) s.heap s.toks ?_ ⟨Z, .inl ⟨q1, q2⟩⟩ (fun _ _ e => e) fun b hb => .inl hb)
    refine ⟨fun q => ?_, fun i h h' st k => ⟨frZ k st.1, ?_⟩, fun i s1 Q1 E1 hi st hds hQ => ?_, fun s1 Q1 E1 st hQ => ?_⟩
    · have q' : d = z ∨ d = TO ∨ d = i1 ∨ d = i2 := by simpa using q
      rcases q' with e | e | e | e
      · exact nz e
      · exact nTO e
      · exact n1 e
      · exact n2 e
    · rcases st.2 with ⟨a, x, y, b⟩ | ⟨T, f, oT, a, b, c1, c2, c3, c4⟩
      · exact .inl ⟨k _ _ (Ne.symm nz) a, x, y, k _ _ (Ne.symm nTO) b⟩
      · exact .inr ⟨T, f, oT, k _ _ (Ne.symm nz) a, k _ _ c4 b, c1, c2, c3, c4⟩
    · obtain ⟨Z1, now⟩ := st
      have ix : i < xs.size := Nat.lt_of_lt_of_le hi (Nat.min_le_left ..)
      have iy : i < ys.size := Nat.lt_of_lt_of_le hi (Nat.min_le_right ..)
      have far : ∀ {c o}, s1.heap.get? c = some o → s1.heap.objs.size ≠ c := fun e => Nat.ne_of_gt (Heap.lt_size e)
      have f1 : s1.heap.objs.size ≠ i1 := let ⟨_, e, _⟩ := Z1.a; far e
      have f2 : s1.heap.objs.size ≠ i2 := let ⟨_, e, _⟩ := Z1.b; far e
      rcases now with ⟨a, x, y, b⟩ | ⟨T, f, oT, a, b, c1, c2, c3, c4⟩
      · refine pyNext_zipT_item D a Z1.p b Z1.a Z1.b Z1.t Z1.u (Array.getElem?_eq_getElem ix) (Array.getElem?_eq_getElem iy) fun h' a1 _ a3 a4 a5 _ k => ?_
        refine hQ _ _ _ h' s1.toks ⟨Array.getElem?_eq_getElem ix, Array.getElem?_eq_getElem iy⟩ (.inl ⟨_, a5, rfl, _, rfl⟩) ⟨⟨k _ _ D.TIz D.TITO D.TIi1 D.TIi2 Z1.p, a3, a4, Z1.t.at fun o e => k _ o D.l1z D.l1TO D.l1i1 D.l1i2 e, Z1.u.at fun o e => k _ o D.l2z D.l2TO D.l2i1 D.l2i2 e⟩, .inr ⟨_, false, _, a1, a5, far a, f1, f2, Nat.ne_of_gt hds⟩⟩ fun c o hc e => ?_
        have hc' : ¬ (c = z ∨ c = TO ∨ c = i1 ∨ c = i2) := by simpa using hc
        exact k c o (fun q => hc' (.inl q)) (fun q => hc' (.inr (.inl q))) (fun q => hc' (.inr (.inr (.inl q)))) (fun q => hc' (.inr (.inr (.inr q)))) e
      · refine zt_next D a b Z1.p Z1.a Z1.b Z1.t Z1.u (Array.getElem?_eq_getElem ix) (Array.getElem?_eq_getElem iy) fun h' a1 a3 a4 a5 k => ?_
        refine hQ _ _ _ h' s1.toks ⟨Array.getElem?_eq_getElem ix, Array.getElem?_eq_getElem iy⟩ (.inl ⟨_, a5, rfl, _, rfl⟩) ⟨⟨k _ _ D.TIz D.TIi1 D.TIi2 Z1.p, a3, a4, Z1.t.at fun o e => k _ o D.l1z D.l1i1 D.l1i2 e, Z1.u.at fun o e => k _ o D.l2z D.l2i1 D.l2i2 e⟩, .inr ⟨T, true, oT, a1, k _ _ c1 c2 c3 b, c1, c2, c3, c4⟩⟩ fun c o hc e => ?_
        have hc' : ¬ (c = z ∨ c = TO ∨ c = i1 ∨ c = i2) := by simpa using hc
        exact k c o (fun q => hc' (.inl q)) (fun q => hc' (.inr (.inr (.inl q)))) (fun q => hc' (.inr (.inr (.inr q)))) e
    · obtain ⟨Z1, now⟩ := st
      have no : xs[min xs.size ys.size]? = none ∨ ys[min xs.size ys.size]? = none := by
        rcases Nat.le_total xs.size ys.size with q | q
        · exact .inl (Array.getElem?_eq_none (by omega))
        · exact .inr (Array.getElem?_eq_none (by omega))
      rcases now with ⟨a, x, y, b⟩ | ⟨T, f, oT, a, b, c1, c2, c3, c4⟩
      · refine pyNext_zipT_end hA D a Z1.p b Z1.a Z1.b Z1.t Z1.u no fun h' k => hQ h' s1.toks fun c o hc e => ?_
        have hc' : ¬ (c = z ∨ c = TO ∨ c = i1 ∨ c = i2) := by simpa using hc
        exact k c o (fun q => hc' (.inl q)) (fun q => hc' (.inr (.inl q))) (fun q => hc' (.inr (.inr (.inl q)))) (fun q => hc' (.inr (.inr (.inr q)))) e
      · refine zt_stop hA D a b Z1.p Z1.a Z1.b Z1.t Z1.u no fun h' k => hQ h' s1.toks fun c o hc e => ?_
        have hc' : ¬ (c = z ∨ c = TO ∨ c = i1 ∨ c = i2) := by simpa using hc
        exact k c o (fun q => hc' (.inl q)) (fun q => hc' (.inr (.inr (.inl q)))) (fun q => hc' (.inr (.inr (.inr q)))) e
end
end Nk
namespace Nk
open PySem L2 RZ
theorem items_get {P : Program} {w : World} {ks : List Key} {us : List Value} (r : ItemsAre (mixKind P w) ks us) : ∀ {i : Nat} {u : Value}, us[i]? = some u → ∃ k, ks[i]? = some k ∧ (mixKind P w).is k u = true := by
  induction r with
  | nil => intro i u h; simp at h
  | cons h _ ih =>
    intro i u e
    cases i with
    | zero =>
      cases (Option.some.inj e : _ = u)
      exact ⟨_, rfl, h⟩
    | succ i => simpa using ih (by simpa using e)
/-- dict(zip(a, b)) -/
def tDZ (K : PySem.W.Frag) (ta : TA) : TE := fun σ H Q => ta σ H fun vs H1 => ∃ (a b : Addr) (ks : List Key) (ys : List V), vs = [.ref a, .ref b] ∧ SqT K H1 a (ks.map kV) ∧ SqT K H1 b ys ∧ ks.length = ys.length ∧ ∀ q, H1 q = none → Q (.ref q) (upd H1 q (.dK (mergeK [] (ks.zip ys))))
theorem kv_zip {ks : List Key} : ∀ {ys : List V} {us : List Value}, Vals ys us → KV (ks.zip ys) (ks.zip us) := by
  induction ks with
  | nil => intro ys us _; exact .nil
  | cons k ks ih =>
    intro ys us r
    cases r with
    | nil => exact .nil
    | cons h t => exact .cons ⟨rfl, h⟩ (ih t)
theorem pe_dictZip {X : Cx} {e e2 : Expr} {ta : TA} {p p2 pos pos2 : Pos} (hc : X.calm = true) (hgd : Gl X "dict") (hmd : X.mg "dict" = none) (hgz : Gl X "zip") (hmz : X.mg "zip" = none) (ha : PA X [e, e2] ta)
    (hs1 : starEach [.Call (.Name "zip" p2) [e, e2] [] pos2] X.env = (false, eval (.Call (.Name "zip" p2) [e, e2] [] pos2) X.env) :: starEach [] X.env := by rfl) (hpl1 : (backTo pos (starEach [] X.env)).any (·.1) = false := by rfl)
    (hs : starEach [e, e2] X.env = (false, eval e X.env) :: starEach [e2] X.env := by rfl) (hpl : (backTo pos2 (starEach [e2] X.env)).any (·.1) = false := by rfl) :
    PE X (.Call (.Name "dict" p) [.Call (.Name "zip" p2) [e, e2] [] pos2] [] pos) (tDZ X.K ta) := by
  refine ⟨fun pins s σ H Q I h => ?_⟩
  refine PyProof.Rows.Call_ (ld_blt I hgd hmd PyProof.Rows.boot_dict (PyProof.Rows.callWith_type1 ?_ hs1 hpl1))
  rw [hs1]
  show wpAny _ _ (spliced ((false, eval (.Call (.Name "zip" p2) [e, e2] [] pos2) X.env) :: backTo pos (starEach [] X.env))) _ _ s
  refine Calls.spliced_cons ?_
  refine PyProof.Rows.Call_ (ld_blt I hgz hmz PyProof.Rows.boot_zip (PyProof.Rows.callWith_type1 (thn (ha.run pos2 pins s σ H _ I h) fun us s1 ⟨vs, H1, I1, r1, q1⟩ => ?_) hs hpl))
  obtain ⟨a, b, ks, ys, ex, hqx, hqy, hl, q⟩ := q1
  subst ex
  cases r1 with
  | cons r rr =>
    cases rr with
    | cons r' rr =>
      cases rr
      cases r
      cases r'
      obtain ⟨its, rv, p1, z1⟩ := I1.tuple hqx
      obtain ⟨its2, rv2, p2, _⟩ := I1.tuple hqy
      have l1 := rv.length
      have l2 := rv2.length
      rw [List.length_map] at l1 z1
      obtain ⟨o1, ho1, _⟩ := id p1
      obtain ⟨o2, ho2, _⟩ := id p2
      refine call_zipT (show s1.heap.IsTuple a its.toArray from p1) (show s1.heap.IsTuple b its2.toArray from p2) fun h' hz hTI hTO h1 h2 hsz hk => ?_
      refine Calls.spliced_nil ?_
      have I2 : Inv X pins σ H1 { s1 with heap := h' } := I1.kept (t' := s1.toks) hk
      have hit := items_are (P := X.prog) (w := X.w) rv
      refine PySem.call_dict_pairs (s := { s1 with heap := h' }) (knd := mixKind X.prog X.w) (kvs := ks.zip its2) (pairZip (PySem.W.ktu_apart s1.heap.objs.size a b (Heap.lt_size ho1) (Heap.lt_size ho2)) its.toArray its2.toArray) (I.ok.hd hc)
        ⟨hz, ⟨_, _, hTO⟩, ⟨hTI, h1, h2, (show s1.heap.IsTuple a its.toArray from p1).at fun o e => hk _ o e, (show s1.heap.IsTuple b its2.toArray from p2).at fun o e => hk _ o e⟩⟩ ⟨by simp; omega, fun i key v hkv => ?_⟩ (by simp; omega) fun h2' tk hd' k => ?_
      · obtain ⟨k, g1, g2⟩ := items_get hit (i := i) (u := key) (by simpa using hkv.1)
        refine ⟨k, ?_, g2⟩
        exact List.getElem?_zip_eq_some.mpr ⟨g1, by simpa using hkv.2⟩
      · have big : (h'.objs.size == sysModules) = false := beq_eq_false_iff_ne.mpr (Nat.ne_of_gt I2.big)
        have rel : KV (ks.zip ys) (ks.zip its2) := kv_zip rv2
        have short : (mergeK [] (ks.zip ys)).length ≤ sizeLine := by
          refine Nat.le_trans (length_mergeK _ []) ?_
          rw [List.length_nil, Nat.zero_add, List.length_zip]
          omega
        have all : ∀ c o, s1.heap.get? c = some o → h2'.get? c = some o := fun c o e => by
          have lt := Heap.lt_size e
          refine k c o (fun m => ?_) (hk c o e)
          have m' : c = s1.heap.objs.size + 4 ∨ c = s1.heap.objs.size + 3 ∨ c = s1.heap.objs.size ∨ c = s1.heap.objs.size + 1 := by simpa using m
          rcases m' with z | z | z | z <;> rw [z] at lt
          · exact Nat.not_lt.mpr (Nat.le_add_right _ _) lt
          · exact Nat.not_lt.mpr (Nat.le_add_right _ _) lt
          · exact Nat.lt_irrefl _ lt
          · exact Nat.not_lt.mpr (Nat.le_add_right _ _) lt
        have free : H1 h'.objs.size = none := I1.hok.fresh (by omega)
        exact ⟨.ref h'.objs.size, upd H1 h'.objs.size (.dK (mergeK [] (ks.zip ys))), I1.laid (t' := tk) all (by omega) (show ObjOk X.prog X.w _ _ _ (.dK (mergeK [] (ks.zip ys))) from ⟨short, big, merged [] (ks.zip its2), KV.merge rel .nil, hd'⟩), rfl, q _ free⟩
end Nk
set_option Elab.async false
set_option linter.all false
set_option maxRecDepth 100000
set_option maxHeartbeats 4000000
namespace Nk
open PySem L2
/-! keys that are numbers -/
def keyN (k : Nat) : Key := .inl (k : Int)
theorem keyN_inj {a b : Nat} (h : keyN a = keyN b) : a = b := by
  unfold keyN at h
  have : (a : Int) = b := Sum.inl.inj h
  omega
theorem merge_nd : ∀ (l acc : List (Key × V)), (∀ p ∈ l, valV acc p.1 = none) → (l.map (·.1)).Nodup → mergeK acc l = acc ++ l
  | [], acc, _, _ => by rw [List.append_nil]; rfl
  | p :: l, acc, h, nd => by
    rw [List.map_cons, List.nodup_cons] at nd
    have hp := h p List.mem_cons_self
    show mergeK (putK acc p.1 p.2) l = _
    rw [putK_new _ hp, merge_nd l _ (fun q hq => ?_) nd.2, List.append_assoc]
    · rfl
    · rw [valV_snoc _ _ _ _ hp, if_neg (fun z => nd.1 (by rw [← z]; exact List.mem_map.mpr ⟨q, hq, rfl⟩))]
      exact h q (List.mem_cons_of_mem _ hq)
theorem valV_zipN {k : Nat} : ∀ {so : List Nat} {us : List V}, k ∈ so → us.length = so.length → ∃ v, us[so.idxOf k]? = Option.some v ∧ valV ((so.map keyN).zip us) (keyN k) = Option.some v
  | [], _, h, _ => by cases h
  | j :: so, [], _, hl => by simp at hl
  | j :: so, u :: us, h, hl => by
    by_cases z : j = k
    · subst z
      exact ⟨u, by rw [List.idxOf_cons_self]; rfl, valV_pos rfl⟩
    · have hk : k ∈ so := (List.mem_cons.mp h).resolve_left (fun e => z e.symm)
      obtain ⟨v, g1, g2⟩ := valV_zipN (us := us) hk (by simpa using hl)
      refine ⟨v, ?_, ?_⟩
      · have hz : (j == k) = false := by simpa using z
        rw [List.idxOf_cons, hz]
        exact g1
      · show valV ((keyN j, u) :: _) _ = _
        rw [valV_neg (fun e => z (keyN_inj e))]
        exact g2
theorem merge_zip {so : List Nat} (hd : so.Nodup) {us : List V} (hl : us.length = so.length) : mergeK [] ((so.map keyN).zip us) = (so.map keyN).zip us := by
  have e := merge_nd ((so.map keyN).zip us) [] (fun p _ => rfl) (by
    rw [List.map_fst_zip (by rw [List.length_map, hl]; exact Nat.le_refl _)]
    exact List.Pairwise.map keyN (fun _ _ h z => h (keyN_inj z)) hd)
  rw [e]
  rfl
section
variable {K : PySem.W.Frag} {X : Cx} {n : Nat} {Γ Γ' : List (Nat × PyData)} {e a b c : Expr} {d da db : PyData} {ds : List PyData} {pos p : Pos} {W : List Nat}
theorem psp_expr (h : PD K X n Γ e d) (hs : swapsWith e none pos.line X.env = pure false := by rfl) : PSp K X n W Γ (.Expr e pos) Γ :=
  ⟨ps_imp (ps_expr h.pe hs) fun D σ H ⟨g, k⟩ => ⟨g, fun v H' s _ => k σ H' s (g.same s) fun _ _ => rfl⟩⟩
/-- a, b = e, f -/
theorem psp_par {i j : Nat} {x y : Str} {px py pt : Pos} {kt k2 : Nat} {pt2 : Pos} (nd : X.N.Nodup) (hi : X.N[i]? = some x) (hj : X.N[j]? = some y) (hij : i ≠ j) (hx : X.env.scope.names.lookup x = some .local) (hy : X.env.scope.names.lookup y = some .local) (hin : i < n) (hjn : j < n) (hWi : W.contains i = true) (hWj : W.contains j = true) (hc : X.calm = true)
    (ha : PDs K X n Γ [a, b] [da, db]) (hw : swappedStores [.Tuple [.Name x px, .Name y py] kt pt] (.Tuple [a, b] k2 pt2) X.env = pure (some [x, y]))
    (hs : swapsWithSole [.Tuple [.Name x px, .Name y py] kt pt] (.Tuple [a, b] k2 pt2) pos.line X.env = pure false := by rfl) :
    PSp K X n W Γ (.Assign [.Tuple [.Name x px, .Name y py] kt pt] (.Tuple [a, b] k2 pt2) pos) (putD j db (putD i da Γ)) :=
  ⟨ps_imp (ps_par hc nd hi hj hij hx hy ha.pa hw hs) fun D σ H ⟨g, k⟩ => ⟨g, fun vs H' s q => by
    cases q with
    | cons q1 q =>
      cases q with
      | cons q2 q =>
        cases q
        have l : σ.length = n := g.1
        refine ⟨_, _, rfl, k _ H' s ⟨by rw [List.length_set, List.length_set]; exact l, ⟨_, by rw [List.getElem?_set_self (by rw [List.length_set, l]; exact hjn)], q2⟩, ?_⟩ fun m hm => (set_off hWj m hm).trans (set_off hWi m hm)⟩
        have e1 : EnvL K (putD i da Γ) (σ.set i _) H' := ⟨⟨_, by rw [List.getElem?_set_self (by rw [l]; exact hin)], q1⟩, (g.2.same s).drp⟩
        exact e1.drp⟩⟩
/-- a comprehension whose one name is in slot i, item by item -/
theorem lc_name {J : It} {Y : Nat → Hp → V → Hp → Prop} {H0 H1 : Hp} {i : Nat} {outs : List PyData} {te : TE} {σ : St} {Q : VK} (w : Walk J outs.length (Same H1) Y) (hno : noLs outs = true) (hl : outs.length ≤ 100000)
    (step : ∀ j x H2 H3 o, outs[j]? = some o → Same H1 H2 → Y j H2 x H3 → Same H2 H3 ∧ ∀ R : VK, (∀ v H5, Same H3 H5 → Dq K H5 v o → R v H5) → te ((wipe σ [i]).set i (some x)) H3 R)
    (k : ∀ C ws H', H1 C = none → Same H1 H' → H' C = some (.lst ws) → DqAll K H' ws outs → Q (.ref C) H') : tLc (fun _ _ R => R J H1) (gName i) tYes te [i] σ H0 Q := by
  intro C hC
  refine lc_it (g := gName i) (tt := tYes) (te := te) (vs := [i]) (σ := σ) (Qd := fun H => Q (.ref C) H) w (fun j H' => Same H1 H' ∧ ∃ vs, H' C = some (.lst vs) ∧ DqAll K H' vs (outs.take j)) ⟨same_new hC, [], upd_same, .nil⟩ (fun j H' _ h => h.1) ?_ ?_
  · rintro j x H2 H3 hj ⟨s2, vs, eC, hv⟩ y
    have ho : outs[j]? = some outs[j] := List.getElem?_eq_getElem hj
    obtain ⟨s3, h5⟩ := step j x H2 H3 _ ho s2 y
    refine ⟨?_, ?_⟩
    · show wipe ((wipe σ [i]).set i (some x)) [i] = wipe σ [i]
      rw [wipe_set1, wipe_wipe]
    · simp only [tYes, ↓reduceIte]
      refine h5 _ fun v H5 s5 q5 => ?_
      have s25 := s3.trans s5
      have eC5 := s25 _ _ eC
      have hv5 := hv.same s25
      have hlen : vs.length ≤ 100000 := by
        rw [hv.length, List.length_take]
        omega
      refine ⟨vs, eC5, Nat.lt_of_le_of_lt hlen (by show 100000 < sizeLine; decide), fun b o e => ?_, vs ++ [v], upd_same, ?_⟩
      · rw [upd_ne (fun z => by subst z; rw [hC] at e; cases e)]
        exact s25 _ _ (s2 _ _ e)
      · rw [List.take_add_one, ho]
        refine DqAll.putN eC5 (noLs_all fun d hd => ?_) (hv5.append (.cons q5 .nil))
        have : d ∈ outs := by
          rcases List.mem_append.mp hd with hd | hd
          · exact List.mem_of_mem_take hd
          · have : d = outs[j] := by simpa using hd
            rw [this]
            exact List.getElem_mem hj
        exact noLs_mem hno this
  · rintro H2 ⟨s2, vs, eC, hv⟩
    rw [List.take_length] at hv
    exact k C vs H2 hC s2 eC hv
end
end Nk
set_option Elab.async false
set_option linter.all false
set_option maxRecDepth 100000
set_option maxHeartbeats 4000000
namespace Nk
open PySem L2

/-! what a piece of text asks, over data alone: M -/
structure Exn where
  cls : Str
  arg : Option (Str × PyData)
abbrev M (α : Type) := (α → Prop) → (Exn → Prop) → Prop
section
variable {α β γ : Type}
def pureT (a : α) : M α := fun k _ => k a
def bindT (t : M α) (f : α → M β) : M β := fun k x => t (fun a => f a k x) x
def raiseT (e : Exn) : M α := fun _ x => x e
def failT : M α := fun _ _ => False
def guardT (p : Prop) (t : M α) : M α := fun k x => p ∧ t k x
def anyT (P : α → Prop) : M α := fun k _ => ∀ a, P a → k a
/-- nothing may be raised -/
def noxT (t : M α) : M α := fun k _ => t k fun _ => False
structure Mono (t : M α) : Prop where
  mono : ∀ {k k' : α → Prop} {x x' : Exn → Prop}, (∀ a, k a → k' a) → (∀ e, x e → x' e) → t k x → t k' x'
theorem Mono.pure {a : α} : Mono (pureT a) := ⟨fun h _ q => h _ q⟩
theorem Mono.bind {t : M α} {f : α → M β} (h : Mono t) (g : ∀ a, Mono (f a)) : Mono (bindT t f) := ⟨fun hk hx q => h.mono (fun a => (g a).mono hk hx) hx q⟩
theorem Mono.raise {e : Exn} : Mono (raiseT e : M α) := ⟨fun _ h q => h _ q⟩
theorem Mono.fail : Mono (failT : M α) := ⟨fun _ _ q => q⟩
theorem Mono.guard {p : Prop} {t : M α} (h : Mono t) : Mono (guardT p t) := ⟨fun hk hx q => ⟨q.1, h.mono hk hx q.2⟩⟩
theorem Mono.any {P : α → Prop} : Mono (anyT P) := ⟨fun h _ q a p => h a (q a p)⟩
theorem Mono.nox {t : M α} (h : Mono t) : Mono (noxT t) := ⟨fun hk _ q => h.mono hk (fun _ z => z) q⟩
theorem Mono.ite {c : Prop} [Decidable c] {t u : M α} (h : Mono t) (g : Mono u) : Mono (if c then t else u) := by split <;> assumption
@[simp] theorem pure_bindT (a : α) (f : α → M β) : bindT (pureT a) f = f a := (rfl)
@[simp] theorem bind_pureT (t : M α) : bindT t pureT = t := (rfl)
@[simp] theorem bind_bindT (t : M α) (f : α → M β) (g : β → M γ) : bindT (bindT t f) g = bindT t fun a => bindT (f a) g := (rfl)
@[simp] theorem raise_bindT (e : Exn) (f : α → M β) : bindT (raiseT e) f = raiseT e := (rfl)
@[simp] theorem fail_bindT (f : α → M β) : bindT failT f = failT := (rfl)
@[simp] theorem guard_bindT (p : Prop) (t : M α) (f : α → M β) : bindT (guardT p t) f = guardT p (bindT t f) := (rfl)
@[simp] theorem nox_pureT (a : α) : noxT (pureT a) = pureT a := (rfl)
@[simp] theorem nox_bindT (t : M α) (f : α → M β) : noxT (bindT t f) = bindT (noxT t) fun a => noxT (f a) := (rfl)
@[simp] theorem nox_guardT (p : Prop) (t : M α) : noxT (guardT p t) = guardT p (noxT t) := (rfl)
@[simp] theorem nox_failT : noxT (failT : M α) = failT := (rfl)
@[simp] theorem nox_anyT (P : α → Prop) : noxT (anyT P) = anyT P := (rfl)
@[simp] theorem nox_noxT (t : M α) : noxT (noxT t) = noxT t := (rfl)
theorem guard_ok {p : Prop} {t : M α} (h : p) : guardT p t = t := by
  funext k x
  unfold guardT
  simp [h]
theorem ite_bindT {c : Prop} [Decidable c] (t u : M α) (f : α → M β) : bindT (if c then t else u) f = if c then bindT t f else bindT u f := by split <;> rfl
end

/-! heaps: F holds the data that stay as they are; D all that lies beside the deck (if there is one) -/
/-- who stands beside D: the deck, the tables of code objects (with the name that their code bears) -/
structure OO where
  dk : Option Addr
  tb : List (Addr × Str)
def OO.no : OO := ⟨none, []⟩
/-- a table at P, and its code objects, beside D -/
def TbA (D H : Hp) (P : Addr) (q : Str) : Prop := D P = none ∧ ∃ ps : Array Value, H P = some (.tbl ps) ∧ TriplesOk ps.toList ∧ ∀ (pos : Pos) (cv : Value), codeAmong pos ps.toList = some cv → ∃ c, cv = .ref c ∧ D c = none ∧ H c = some (LamX.CodeO c q)
def TbAs (T : List (Addr × Str)) (D H : Hp) : Prop := ∀ p ∈ T, TbA D H p.1 p.2
/-- what lies beside D stays -/
theorem TbAs.keep {T : List (Addr × Str)} {D H D' H' : Hp} (t : TbAs T D H) (k : ∀ b u, H b = some u → D b = none → D' b = none ∧ H' b = some u) : TbAs T D' H' := fun p hp => by
  obtain ⟨h1, ps, h2, h3, h4⟩ := t p hp
  obtain ⟨e1, e2⟩ := k _ _ h2 h1
  refine ⟨e1, ps, e2, h3, fun pos cv hc => ?_⟩
  obtain ⟨c, c1, c2, c3⟩ := h4 pos cv hc
  obtain ⟨f1, f2⟩ := k _ _ c3 c2
  exact ⟨c, c1, f1, f2⟩
theorem TbAs.same {T : List (Addr × Str)} {D H H' : Hp} (t : TbAs T D H) (e : Same H H') : TbAs T D H' := t.keep fun b u h d => ⟨d, e b u h⟩
theorem TbAs.new {T : List (Addr × Str)} {D H : Hp} {p : Addr} {u : HO} (t : TbAs T D H) (h : H p = none) : TbAs T (upd D p u) (upd H p u) := t.keep fun b v hb d => by
  have z : b ≠ p := fun z => by subst z; rw [h] at hb; cases hb
  rw [upd_ne z, upd_ne z]
  exact ⟨d, hb⟩
theorem TbAs.put {T : List (Addr × Str)} {D H : Hp} {C : Addr} {u w : HO} (t : TbAs T D H) (hD : D C = some u) : TbAs T (upd D C w) (upd H C w) := t.keep fun b v hb d => by
  have z : b ≠ C := fun z => by subst z; rw [d] at hD; cases hD
  rw [upd_ne z, upd_ne z]
  exact ⟨d, hb⟩
structure Lay (o : OO) (F D H : Hp) : Prop where
  fd : Same F D
  sub : Same D H
  dk : ∀ a, o.dk = some a → Deck D H a
  tb : TbAs o.tb D H
structure Grow (o : OO) (F D F' D' H' : Hp) : Prop where
  ff : Same F F'
  dd : Same D D'
  fresh : ∀ p x, F' p = some x → F p = none → D p = none
  lay : Lay o F' D' H'
section
variable {o : OO} {F D H F' D' H' F2 D2 H2 : Hp}
theorem Lay.free (l : Lay o F D H) {p : Addr} (h : H p = none) : D p = none ∧ F p = none := ⟨l.sub.free h, l.fd.free (l.sub.free h)⟩
theorem Lay.fh (l : Lay o F D H) : Same F H := l.fd.trans l.sub
theorem Lay.same (l : Lay o F D H) (e : Same H H') : Lay o F D H' := ⟨l.fd, l.sub.trans e, fun a h => (l.dk a h).same e, l.tb.same e⟩
theorem Grow.refl (l : Lay o F D H) : Grow o F D F D H := ⟨Same.refl F, Same.refl D, fun p x h h' => (by rw [h] at h'; cases h'), l⟩
theorem Grow.same (l : Lay o F D H) (e : Same H H') : Grow o F D F D H' := ⟨Same.refl F, Same.refl D, fun p x h h' => (by rw [h] at h'; cases h'), l.same e⟩
theorem Grow.trans (a : Grow o F D F' D' H') (b : Grow o F' D' F2 D2 H2) : Grow o F D F2 D2 H2 := ⟨a.ff.trans b.ff, a.dd.trans b.dd, fun p x h h' => by
  cases q : F' p with
  | none => exact a.dd.free (b.fresh p x h q)
  | some y => exact a.fresh p y q h', b.lay⟩
theorem Grow.new (l : Lay o F D H) {p : Addr} {u : HO} (h : H p = none) : Grow o F D (upd F p u) (upd D p u) (upd H p u) := by
  have f := l.free h
  refine ⟨same_new f.2, same_new f.1, fun b x e e' => ?_, fun b x e => ?_, fun b x e => ?_, fun a q => (l.dk a q).new h, l.tb.new h⟩
  · by_cases z : b = p
    · subst z; exact f.1
    · rw [upd_ne z, e'] at e; cases e
  · by_cases z : b = p
    · subst z; rw [upd_same] at e; cases e; exact upd_same
    · rw [upd_ne z] at e ⊢; exact l.fd _ _ e
  · by_cases z : b = p
    · subst z; rw [upd_same] at e; cases e; exact upd_same
    · rw [upd_ne z] at e ⊢; exact l.sub _ _ e
/-- behind a call of a def that knows no deck -/
def orH (D F : Hp) : Hp := fun p => match D p with
  | some x => some x
  | none => F p
theorem Lay.beside (l : Lay o F D H) (g : Grow .no F H F' D' H') : Grow o F D F' (orH D F') H' := by
  have hh : Same H H' := g.dd.trans g.lay.sub
  have e1 : Same F' (orH D F') := fun p x e => by
    unfold orH
    cases q : D p with
    | none => exact e
    | some y =>
      cases r : F p with
      | none =>
        have := g.fresh p x e r
        rw [l.sub _ _ q] at this; cases this
      | some z =>
        have h1 := l.fd _ _ r
        rw [q] at h1
        have h2 := g.ff _ _ r
        rw [e] at h2
        cases h1; cases h2
        rfl
  have e2 : Same D (orH D F') := fun p x e => by unfold orH; rw [e]
  have e3 : Same (orH D F') H' := fun p x e => by
    unfold orH at e
    cases q : D p with
    | none => rw [q] at e; exact g.lay.fh _ _ e
    | some y => rw [q] at e; cases e; exact hh _ _ (l.sub _ _ q)
  have nw : ∀ p u, H p = some u → D p = none → orH D F' p = none := fun p u hp dp => by
    unfold orH
    rw [dp]
    cases r : F' p with
    | none => rfl
    | some z =>
      cases q : F p with
      | none =>
        have := g.fresh p z r q
        rw [hp] at this; cases this
      | some y =>
        have := l.fd _ _ q
        rw [dp] at this; cases this
  refine ⟨g.ff, e2, fun p x e e' => l.sub.free (g.fresh p x e e'), e1, e3, fun a q => ?_, l.tb.keep fun b u hb d => ⟨nw b u hb d, hh b u hb⟩⟩
  obtain ⟨s, na, l0, l1, bs, cs, n, n0, n1, ne, ha, h0, h1, hc, hl⟩ := l.dk a q
  exact ⟨e3, nw _ _ ha na, l0, l1, bs, cs, n, nw _ _ h0 n0, nw _ _ h1 n1, ne, hh _ _ ha, hh _ _ h0, hh _ _ h1, hc, hl⟩
end

/-! slots: data, or one's own lists -/
inductive Cell where
  | dat (d : PyData)
  | own (ds : List PyData)
def Cell.isOwn : Cell → Bool
  | .dat _ => false
  | .own _ => true
abbrev GE := List (Nat × Cell)
def CellOk (K : PySem.W.Frag) (B F D : Hp) (σ : St) (i : Nat) : Cell → Prop
  | .dat d => ∃ v, σ[i]? = some (some v) ∧ Dq K F v d
  | .own ds => ∃ a vs, σ[i]? = some (some (.ref a)) ∧ F a = none ∧ B a = none ∧ D a = some (.lst vs) ∧ DqAll K F vs ds
def EnvW (K : PySem.W.Frag) (B F D : Hp) (σ : St) : GE → Prop
  | [] => True
  | q :: Γ => CellOk K B F D σ q.1 q.2 ∧ (q.2.isOwn = true → ∀ r ∈ Γ, r.2.isOwn = true → σ[r.1]? ≠ σ[q.1]?) ∧ EnvW K B F D σ Γ
section
variable {K : PySem.W.Frag} {o : OO} {B F D H F' D' H' : Hp} {σ σ' : St}
theorem CellOk.grow (g : Grow o F D F' D' H') {i : Nat} : ∀ {c : Cell}, CellOk K B F D σ i c → CellOk K B F' D' σ i c
  | .dat _, ⟨v, h, q⟩ => ⟨v, h, q.same g.ff⟩
  | .own _, ⟨a, vs, h1, h2, h3, h4, h5⟩ => ⟨a, vs, h1, (by
    cases q : F' a with
    | none => rfl
    | some x =>
      have := g.fresh a x q h2
      rw [h4] at this
      cases this), h3, g.dd _ _ h4, h5.same g.ff⟩
theorem EnvW.grow (g : Grow o F D F' D' H') : ∀ {Γ : GE}, EnvW K B F D σ Γ → EnvW K B F' D' σ Γ
  | [], _ => trivial
  | _ :: _, ⟨h, n, r⟩ => ⟨h.grow g, n, EnvW.grow g r⟩
theorem EnvW.get {i : Nat} {d : PyData} : ∀ {Γ : GE}, EnvW K B F D σ Γ → Γ.lookup i = some (.dat d) → ∃ v, σ[i]? = some (some v) ∧ Dq K F v d
  | [], _, e => by cases e
  | (j, x) :: Γ, ⟨h, _, r⟩, e => by
    rw [List.lookup_cons] at e
    cases z : i == j with
    | true =>
      rw [z] at e
      cases e
      have : i = j := by simpa using z
      subst this
      exact h
    | false =>
      rw [z] at e
      exact EnvW.get r e
theorem EnvW.getO {i : Nat} {ds : List PyData} : ∀ {Γ : GE}, EnvW K B F D σ Γ → Γ.lookup i = some (.own ds) → ∃ a vs, σ[i]? = some (some (.ref a)) ∧ F a = none ∧ B a = none ∧ D a = some (.lst vs) ∧ DqAll K F vs ds
  | [], _, e => by cases e
  | (j, x) :: Γ, ⟨h, _, r⟩, e => by
    rw [List.lookup_cons] at e
    cases z : i == j with
    | true =>
      rw [z] at e
      cases e
      have : i = j := by simpa using z
      subst this
      exact h
    | false =>
      rw [z] at e
      exact EnvW.getO r e
/-- the slots of Γ are none of vs -/
def offW (Γ : GE) (vs : List Nat) : Bool := Γ.all fun q => !vs.contains q.1
theorem CellOk.at {i j : Nat} (h : σ'[i]? = σ[j]?) : ∀ {c : Cell}, CellOk K B F D σ j c → CellOk K B F D σ' i c
  | .dat _, ⟨v, e, q⟩ => ⟨v, h.trans e, q⟩
  | .own _, ⟨a, vs, e, q⟩ => ⟨a, vs, h.trans e, q⟩
theorem EnvW.off {vs : List Nat} (hs : ∀ j, vs.contains j = false → σ'[j]? = σ[j]?) : ∀ {Γ : GE}, offW Γ vs = true → EnvW K B F D σ Γ → EnvW K B F D σ' Γ
  | [], _, _ => trivial
  | (j, x) :: Γ, oo, ⟨h, n, r⟩ => by
    have oo' : (!vs.contains j && offW Γ vs) = true := oo
    rw [Bool.and_eq_true] at oo'
    have hj : σ'[j]? = σ[j]? := hs j (by simpa using oo'.1)
    refine ⟨h.at hj, fun e q hq eq => ?_, EnvW.off hs oo'.2 r⟩
    have h1 : (!vs.contains q.1) = true := List.all_eq_true.mp oo'.2 q hq
    rw [hj, hs q.1 (by simpa using h1)]
    exact n e q hq eq
theorem EnvW.mem : ∀ {Γ : GE} {q : Nat × Cell}, EnvW K B F D σ Γ → q ∈ Γ → CellOk K B F D σ q.1 q.2
  | x :: Γ, q, ⟨h, _, r⟩, m => by
    rcases List.mem_cons.mp m with rfl | m
    · exact h
    · exact EnvW.mem r m
theorem EnvW.sublist : ∀ {Γ Δ : GE}, Δ.Sublist Γ → EnvW K B F D σ Γ → EnvW K B F D σ Δ
  | _, _, .slnil, h => h
  | _, _, .cons _ s, ⟨_, _, r⟩ => EnvW.sublist s r
  | _, _, .cons₂ a s, ⟨h, n, r⟩ => ⟨h, fun e q hq eq => n e q (s.subset hq) eq, EnvW.sublist s r⟩
end
/-- only the slots of S -/
def keepE (S : List Nat) (Γ : GE) : GE := Γ.filter fun q => S.contains q.1
/-- without slot i -/
def drpE (i : Nat) (Γ : GE) : GE := Γ.filter fun q => !(q.1 == i)
/-- c in slot i; the slots ascend -/
def putE (i : Nat) (c : Cell) : GE → GE
  | [] => [(i, c)]
  | q :: Γ => if i < q.1 then (i, c) :: q :: Γ else if i = q.1 then (i, c) :: Γ else q :: putE i c Γ
def frzE (i : Nat) : GE → GE
  | [] => []
  | (j, .own ds) :: Γ => if i = j then (j, .dat (.list ds)) :: Γ else (j, .own ds) :: frzE i Γ
  | (j, .dat d) :: Γ => (j, .dat d) :: frzE i Γ

/-! what is fixed through a def's body: how many slots, the deck's slot, what is known whenever something is raised, what is wished then -/
structure Ct where
  n : Nat
  dk : Option Nat
  gx : List (Nat × PyData)
  W : WX
  tb : List (Addr × Str)
def Ct.gxE (c : Ct) : GE := c.gx.map fun q => (q.1, .dat q.2)
def DkAt (c : Ct) (o : OO) (σ : St) : Prop := (match c.dk, o.dk with
  | none, none => True
  | some i, some a => σ[i]? = some (some (.ref a))
  | _, _ => False) ∧ (c.tb = [] ∨ o.tb = c.tb)
structure StW (K : PySem.W.Frag) (c : Ct) (Γ : GE) (o : OO) (B F0 F D : Hp) (σ : St) (H : Hp) : Prop where
  len : σ.length = c.n
  dek : DkAt c o σ
  gb : Grow o F0 B F D H
  env : EnvW K B F D σ Γ
  gx : EnvW K B F D σ c.gxE
/-- an exception, as it lies -/
def ExR (mg : Str → Option Value) (K : PySem.W.Frag) (F H : Hp) (e : Exn) (cv : Value) (d : Option Addr) : Prop := ∃ C : Addr, mg e.cls = some (.ref C) ∧ cv = .ref C ∧ match e.arg with
  | none => d = none
  | some (f, a) => ∃ p v, d = some p ∧ H p = some (.xd [(f, v)]) ∧ F p = none ∧ Dq K F v a
def XW (K : PySem.W.Frag) (mg : Str → Option Value) (c : Ct) (o : OO) (B F0 : Hp) : Exn → Prop := fun e => ∀ cv d σ F D H, StW K c [] o B F0 F D σ H → ExR mg K F H e cv d → c.W cv d σ H
section
variable {K : PySem.W.Frag} {c : Ct} {Γ : GE} {o : OO} {B F0 F D H F' D' H' : Hp} {σ σ' : St}
theorem StW.lay (s : StW K c Γ o B F0 F D σ H) : Lay o F D H := s.gb.lay
theorem StW.grow (s : StW K c Γ o B F0 F D σ H) (g : Grow o F D F' D' H') : StW K c Γ o B F0 F' D' σ H' := ⟨s.len, s.dek, s.gb.trans g, s.env.grow g, s.gx.grow g⟩
theorem StW.nil (s : StW K c Γ o B F0 F D σ H) : StW K c [] o B F0 F D σ H := ⟨s.len, s.dek, s.gb, trivial, s.gx⟩
theorem StW.sub {Δ : GE} (s : StW K c Γ o B F0 F D σ H) (h : Δ.Sublist Γ) : StW K c Δ o B F0 F D σ H := ⟨s.len, s.dek, s.gb, s.env.sublist h, s.gx⟩
end

/-! the judgements -/
def tW (K : PySem.W.Frag) (mg : Str → Option Value) (c : Ct) (Γ : GE) (t : M PyData) : TE := fun σ H Q => ∃ o B F0 F D, StW K c Γ o B F0 F D σ H ∧ t (fun d => ∀ v F' D' H', Grow o F D F' D' H' → Dq K F' v d → Q v H') (XW K mg c o B F0)
def tWb (K : PySem.W.Frag) (mg : Str → Option Value) (c : Ct) (Γ : GE) (t : M Bool) : TT := fun σ H Q => ∃ o B F0 F D, StW K c Γ o B F0 F D σ H ∧ t (fun b => ∀ F' D' H', Grow o F D F' D' H' → Q b H') (XW K mg c o B F0)
def tWs (K : PySem.W.Frag) (mg : Str → Option Value) (c : Ct) (Γ : GE) (t : M (List PyData)) : TA := fun σ H Q => ∃ o B F0 F D, StW K c Γ o B F0 F D σ H ∧ t (fun ds => ∀ vs F' D' H', Grow o F D F' D' H' → DqAll K F' vs ds → Q vs H') (XW K mg c o B F0)
structure PX (K : PySem.W.Frag) (X : Cx) (c : Ct) (Γ : GE) (e : Expr) (t : M PyData) : Prop where
  hK : X.K = K
  mo : Mono t
  pe : PE X e (tW K X.mg c Γ t)
structure PXb (K : PySem.W.Frag) (X : Cx) (c : Ct) (Γ : GE) (e : Expr) (t : M Bool) : Prop where
  hK : X.K = K
  mo : Mono t
  pt : PT X e (tWb K X.mg c Γ t)
structure PXw (K : PySem.W.Frag) (X : Cx) (c : Ct) (Γ : GE) (e : Expr) (t : M Bool) : Prop where
  hK : X.K = K
  mo : Mono t
  pw : PW X e (tWb K X.mg c Γ t)
structure PXs (K : PySem.W.Frag) (X : Cx) (c : Ct) (Γ : GE) (es : List Expr) (t : M (List PyData)) : Prop where
  mo : Mono t
  ln : ∀ k x, t k x → t (fun ds => ds.length = es.length ∧ k ds) x
  pa : PA X es (tWs K X.mg c Γ t)
section
variable {K : PySem.W.Frag} {X : Cx} {c : Ct} {Γ : GE} {e a b : Expr} {es : List Expr} {t ta tb : M PyData} {ts : M (List PyData)} {pos p : Pos}
theorem PX.of {u : TE} (h : PE X e u) (mo : Mono t) (i : ∀ o B F0 F D σ H Q, StW K c Γ o B F0 F D σ H → t (fun d => ∀ v F' D' H', Grow o F D F' D' H' → Dq K F' v d → Q v H') (XW K X.mg c o B F0) → u σ H Q) (hK : X.K = K := by rfl) : PX K X c Γ e t :=
  ⟨hK, mo, pe_imp h fun σ H Q ⟨o, B, F0, F, D, s, q⟩ => i o B F0 F D σ H Q s q⟩
theorem PX.cast {t' : M PyData} (h : PX K X c Γ e t) (q : t = t') : PX K X c Γ e t' := q ▸ h
/-- less is known -/
theorem PX.sub {Δ : GE} (h : PX K X c Δ e t) (q : Δ.Sublist Γ) : PX K X c Γ e t := ⟨h.hK, h.mo, pe_imp h.pe fun σ H Q ⟨o, B, F0, F, D, s, z⟩ => ⟨o, B, F0, F, D, s.sub q, z⟩⟩
theorem px_var {i : Nat} {x : Str} {d : PyData} (hN : X.N[i]? = some x) (hv : Vis X.env.scope x) (hl : Γ.lookup i = some (.dat d)) (hK : X.K = K := by rfl) (hd : (x == ("__debug__" : Str)) = false := by decide) (hcd : (x == ("__classdict__" : Str)) = false := by decide) : PX K X c Γ (.Name x pos) (pureT d) :=
  .of (pe_var hN hv hd hcd) .pure (fun o B F0 F D σ H Q s q => let ⟨v, h, z⟩ := s.env.get hl; ⟨v, h, q v F D H (.refl s.lay) z⟩) hK
theorem px_int {i j} (hK : X.K = K := by rfl) : PX K X c Γ (.Constant (.int i) j pos) (pureT (.int i)) := .of pe_int .pure (fun o B F0 F D σ H Q s q => q _ F D H (.refl s.lay) (.int i)) hK
theorem px_bl {i j} (hK : X.K = K := by rfl) : PX K X c Γ (.Constant (.bool i) j pos) (pureT (.bool i)) := .of pe_bl .pure (fun o B F0 F D σ H Q s q => q _ F D H (.refl s.lay) (.bl i)) hK
theorem px_non {j} (hK : X.K = K := by rfl) : PX K X c Γ (.Constant .none j pos) (pureT .none) := .of pe_non .pure (fun o B F0 F D σ H Q s q => q _ F D H (.refl s.lay) .non) hK
theorem px_str {i j} (hK : X.K = K := by rfl) : PX K X c Γ (.Constant (.str i) j pos) (pureT (.str i)) := .of pe_str .pure (fun o B F0 F D σ H Q s q => q _ F D H (.refl s.lay) (.str i)) hK
theorem px_cst {x : Str} {i : Int} (hg : Gl X x) (h : ∃ t, X.mg x = some (.int i t)) (hK : X.K = K := by rfl) (hd : (x == ("__debug__" : Str)) = false := by decide) : PX K X c Γ (.Name x pos) (pureT (.int i)) :=
  .of (pe_globE hg h hd) .pure (fun o B F0 F D σ H Q s q => q _ F D H (.refl s.lay) (.int i)) hK
/-- on values -/
def OpW2 (K : PySem.W.Frag) (r : R2) (f : PyData → PyData → M PyData) : Prop := ∀ a b x y o F D H Q xk, Lay o F D H → Dq K F x a → Dq K F y b → f a b (fun d => ∀ v F' D' H', Grow o F D F' D' H' → Dq K F' v d → Q v H') xk → r x y H Q
def OpW1 (K : PySem.W.Frag) (r : V → Hp → VK → Prop) (f : PyData → M PyData) : Prop := ∀ a x o F D H Q xk, Lay o F D H → Dq K F x a → f a (fun d => ∀ v F' D' H', Grow o F D F' D' H' → Dq K F' v d → Q v H') xk → r x H Q
def OpWs (K : PySem.W.Frag) (r : List V → Hp → VK → Prop) (f : List PyData → M PyData) : Prop := ∀ as xs o F D H Q xk, Lay o F D H → DqAll K F xs as → f as (fun d => ∀ v F' D' H', Grow o F D F' D' H' → Dq K F' v d → Q v H') xk → r xs H Q
structure OpW2ok (K : PySem.W.Frag) (r : R2) (f : PyData → PyData → M PyData) : Prop where
  mo : ∀ a b, Mono (f a b)
  op : OpW2 K r f
structure OpW1ok (K : PySem.W.Frag) (r : V → Hp → VK → Prop) (f : PyData → M PyData) : Prop where
  mo : ∀ a, Mono (f a)
  op : OpW1 K r f
structure OpWsok (K : PySem.W.Frag) (r : List V → Hp → VK → Prop) (f : List PyData → M PyData) : Prop where
  mo : ∀ as, Mono (f as)
  op : OpWs K r f
/-- two parts and then a rule by values -/
theorem two_w {r : R2} {f : PyData → PyData → M PyData} (ha : PX K X c Γ a ta) (hb : PX K X c Γ b tb) (q : OpW2ok K r f) {o : OO} {B F0 F D : Hp} {σ : St} {H : Hp} {Q : VK} (s : StW K c Γ o B F0 F D σ H)
    (z : bindT ta (fun x => bindT tb fun y => f x y) (fun d => ∀ v F' D' H', Grow o F D F' D' H' → Dq K F' v d → Q v H') (XW K X.mg c o B F0)) : tW K X.mg c Γ ta σ H fun x H1 => tW K X.mg c Γ tb σ H1 fun y H2 => r x y H2 Q :=
  ⟨o, B, F0, F, D, s, ha.mo.mono (fun d z1 v F1 D1 H1 g1 q1 => ⟨o, B, F0, F1, D1, s.grow g1, hb.mo.mono (fun d2 z2 v2 F2 D2 H2 g2 q2 => by
    refine q.op d d2 v v2 o F2 D2 H2 Q (XW K X.mg c o B F0) g2.lay (q1.same g2.ff) q2 ?_
    exact (q.mo d d2).mono (fun d3 z3 v3 F3 D3 H3 g3 q3 => z3 v3 F3 D3 H3 ((g1.trans g2).trans g3) q3) (fun _ h => h) z2) (fun _ h => h) z1⟩) (fun _ h => h) z⟩
theorem px_op {op : Operator} {r : R2} {f : PyData → PyData → M PyData} (ho : OpR X (binaryOp op) r) (q : OpW2ok K r f) (ha : PX K X c Γ a ta) (hb : PX K X c Γ b tb) : PX K X c Γ (.BinOp a op b pos) (bindT ta fun x => bindT tb fun y => f x y) :=
  .of (pe_op ho ha.pe hb.pe) (.bind ha.mo fun _ => .bind hb.mo fun _ => q.mo _ _) (fun o B F0 F D σ H Q s z => two_w ha hb q s z) ha.hK
theorem px_cmp {op : CmpOp} {r : R2} {f : PyData → PyData → M PyData} (ho : OpR X (compareOp op) r) (q : OpW2ok K r f) (ha : PX K X c Γ a ta) (hb : PX K X c Γ b tb) (hm : behindInMarks op b = false) : PX K X c Γ (.Compare a [op] [b] pos) (bindT ta fun x => bindT tb fun y => f x y) :=
  .of (pe_cmpR ho ha.pe hb.pe hm) (.bind ha.mo fun _ => .bind hb.mo fun _ => q.mo _ _) (fun o B F0 F D σ H Q s z => two_w ha hb q s z) ha.hK
theorem px_ix {r : R2} {f : PyData → PyData → M PyData} (hr : IxR X r) (q : OpW2ok K r f) (ha : PX K X c Γ a ta) (hb : PX K X c Γ b tb) (hs : PlainIx b := by exact fun _ _ => rfl) : PX K X c Γ (.Subscript a b pos) (bindT ta fun x => bindT tb fun y => f x y) :=
  .of (pe_ix hr ha.pe hb.pe hs) (.bind ha.mo fun _ => .bind hb.mo fun _ => q.mo _ _) (fun o B F0 F D σ H Q s z => two_w ha hb q s z) ha.hK
theorem px_un {op : UnaryOp} {r : V → Hp → VK → Prop} {f : PyData → M PyData} (ho : UnR X (unaryOp op) r) (q : OpW1ok K r f) (ha : PX K X c Γ a ta) : PX K X c Γ (.UnaryOp op a pos) (bindT ta f) :=
  .of (pe_un ho ha.pe) (.bind ha.mo q.mo) (fun o B F0 F D σ H Q s z => ⟨o, B, F0, F, D, s, ha.mo.mono (fun d z1 v F1 D1 H1 g1 q1 =>
    q.op d v o F1 D1 H1 Q (XW K X.mg c o B F0) g1.lay q1 ((q.mo d).mono (fun d3 z3 v3 F3 D3 H3 g3 q3 => z3 v3 F3 D3 H3 (g1.trans g3) q3) (fun _ h => h) z1)) (fun _ h => h) z⟩) ha.hK
/-! arguments -/
def consT (t : M PyData) (ts : M (List PyData)) : M (List PyData) := bindT t fun d => bindT ts fun ds => pureT (d :: ds)
def nilT : M (List PyData) := pureT []
theorem len_cons {n : Nat} (mt : Mono t) (h : ∀ k x, ts k x → ts (fun ds => ds.length = n ∧ k ds) x) : ∀ k x, consT t ts k x → consT t ts (fun ds => ds.length = n + 1 ∧ k ds) x := fun k x z => mt.mono (fun d z1 => h _ _ z1) (fun _ h => h) z |> fun z => mt.mono (fun d z1 => by
    have h2 : ts (fun ds => ds.length = n ∧ k (d :: ds)) x := z1
    show ts (fun ds => (d :: ds).length = n + 1 ∧ k (d :: ds)) x
    simpa using h2) (fun _ h => h) z
theorem pxs_nil : PXs K X c Γ [] nilT := ⟨.pure, fun _ _ h => ⟨rfl, h⟩, pa_imp pa_nil fun σ H Q ⟨o, B, F0, F, D, s, q⟩ => q [] F D H (.refl s.lay) .nil⟩
theorem pxs_cons (h : PX K X c Γ e t) (g : PXs K X c Γ es ts) (hs : starEach (e :: es) X.env = (false, eval e X.env) :: starEach es X.env := by rfl) : PXs K X c Γ (e :: es) (consT t ts) :=
  ⟨.bind h.mo fun _ => .bind g.mo fun _ => .pure, len_cons h.mo g.ln, pa_imp (pa_cons h.pe g.pa hs) fun σ H Q ⟨o, B, F0, F, D, s, z⟩ => ⟨o, B, F0, F, D, s, h.mo.mono (fun d z1 v F1 D1 H1 g1 q1 => ⟨o, B, F0, F1, D1, s.grow g1, g.mo.mono (fun ds z2 vs F2 D2 H2 g2 q2 =>
    z2 (v :: vs) F2 D2 H2 (g1.trans g2) (.cons (q1.same g2.ff) q2)) (fun _ h => h) z1⟩) (fun _ h => h) z⟩⟩
/-- arguments and then a rule by values -/
theorem args_w {r : List V → Hp → VK → Prop} {f : List PyData → M PyData} (ha : PXs K X c Γ es ts) (q : OpWsok K r f) {o : OO} {B F0 F D : Hp} {σ : St} {H : Hp} {Q : VK} (s : StW K c Γ o B F0 F D σ H)
    (z : bindT ts f (fun d => ∀ v F' D' H', Grow o F D F' D' H' → Dq K F' v d → Q v H') (XW K X.mg c o B F0)) : tWs K X.mg c Γ ts σ H fun xs H1 => r xs H1 Q :=
  ⟨o, B, F0, F, D, s, ha.mo.mono (fun d z1 v F1 D1 H1 g1 q1 =>
    q.op d v o F1 D1 H1 Q (XW K X.mg c o B F0) g1.lay q1 ((q.mo d).mono (fun d3 z3 v3 F3 D3 H3 g3 q3 => z3 v3 F3 D3 H3 (g1.trans g3) q3) (fun _ h => h) z1)) (fun _ h => h) z⟩
theorem px_callB {x : Str} {id : String} {r : List V → Hp → VK → Prop} {f : List PyData → M PyData} (hc : CallR X (.builtin id) r) (q : OpWsok K r f) (ha : PXs K X c Γ (e :: es) ts) (hg : Gl X x) (hm : X.mg x = none) (hv : bootBuiltins x = some (.builtin id)) (hK : X.K = K := by rfl) (hn : x ≠ "__name__" := by decide) (hdb : (x == ("__debug__" : Str)) = false := by decide)
    (he : starEach (e :: es) X.env = (false, eval e X.env) :: starEach es X.env := by rfl) (hpl : (backTo pos (starEach es X.env)).any (·.1) = false := by rfl) : PX K X c Γ (.Call (.Name x p) (e :: es) [] pos) (bindT ts f) :=
  .of (pe_callB hc hg hm hv ha.pa hn hdb he hpl) (.bind ha.mo q.mo) (fun o B F0 F D σ H Q s z => args_w ha q s z) hK
theorem px_callTy {x : Str} {T : String} {r : List V → Hp → VK → Prop} {f : List PyData → M PyData} (hc : CallR X (.type T) r) (q : OpWsok K r f) (ha : PXs K X c Γ (e :: es) ts) (hg : Gl X x) (hm : X.mg x = none) (hv : bootBuiltins x = some (.type T)) (hK : X.K = K := by rfl) (hn : x ≠ "__name__" := by decide) (hdb : (x == ("__debug__" : Str)) = false := by decide)
    (he : starEach (e :: es) X.env = (false, eval e X.env) :: starEach es X.env := by rfl) (hpl : (backTo pos (starEach es X.env)).any (·.1) = false := by rfl) : PX K X c Γ (.Call (.Name x p) (e :: es) [] pos) (bindT ts f) :=
  .of (pe_callTy hc hg hm hv ha.pa hn hdb he hpl) (.bind ha.mo q.mo) (fun o B F0 F D σ H Q s z => args_w ha q s z) hK
/-- displays -/
def tupT (ts : M (List PyData)) : M PyData := bindT ts fun ds => guardT (ds.length ≤ sizeLine) (pureT (.tuple ds))
def lstT (ts : M (List PyData)) : M PyData := bindT ts fun ds => guardT (ds.length ≤ sizeLine) (pureT (.list ds))
theorem px_tup {x1} (h : PXs K X c Γ es ts) (hK : X.K = K := by rfl) : PX K X c Γ (.Tuple es x1 pos) (tupT ts) :=
  .of (pe_tup h.pa) (.bind h.mo fun _ => .guard .pure) (fun o B F0 F D σ H Q s z => ⟨o, B, F0, F, D, s, h.mo.mono (fun ds z1 vs F1 D1 H1 g1 q1 => ⟨by rw [q1.length]; exact z1.1, fun p hp => z1.2 _ _ _ _ (g1.trans (.new g1.lay hp)) (.tup upd_same (q1.same (same_new (g1.lay.free hp).2)))⟩) (fun _ h => h) z⟩) hK
theorem px_lst (h : PXs K X c Γ es ts) (hK : X.K = K := by rfl) : PX K X c Γ (.List es pos) (lstT ts) :=
  .of (pe_lst h.pa) (.bind h.mo fun _ => .guard .pure) (fun o B F0 F D σ H Q s z => ⟨o, B, F0, F, D, s, h.mo.mono (fun ds z1 vs F1 D1 H1 g1 q1 => ⟨by rw [q1.length]; exact z1.1, fun p hp => z1.2 _ _ _ _ (g1.trans (.new g1.lay hp)) (.lst upd_same (q1.same (same_new (g1.lay.free hp).2)))⟩) (fun _ h => h) z⟩) hK
theorem px_dnil (hK : X.K = K := by rfl) : PX K X c Γ (.Dict [] [] pos) (pureT (.dict [])) :=
  .of pe_dnewK .pure (fun o B F0 F D σ H Q s z p hp => z _ _ _ _ (.new s.lay hp) (.dnil upd_same)) hK

/-! tests -/
/-- a value that is a bool -/
def boolT (t : M PyData) : M Bool := bindT t fun d => match d with
  | .bool k => pureT k
  | _ => failT
theorem Mono.boolT {t : M PyData} (h : Mono t) : Mono (boolT t) := .bind h fun d => by
  cases d <;> first | exact .pure | exact .fail
theorem PX.test (h : PX K X c Γ e t) (he : ∀ whole, isTrue e X.env whole = (do let v ← whole; standAt e.pos; holding [v] (truthy v)) := by intro _; rfl) : PXb K X c Γ e (boolT t) :=
  ⟨h.hK, h.mo.boolT, pt_imp (pt_val h.pe he) fun σ H Q ⟨o, B, F0, F, D, s, z⟩ => ⟨o, B, F0, F, D, s, h.mo.mono (fun d z1 v F1 D1 H1 g1 q1 => by
    cases q1 with
    | bl k => exact ⟨k, rfl, z1 F1 D1 H1 g1⟩
    | _ => exact False.elim z1) (fun _ h => h) z⟩⟩
theorem pxb_cmp {op : CmpOp} {r : R2} {f : PyData → PyData → M PyData} (ho : OpR X (compareOp op) r) (q : OpW2ok K r f) (ha : PX K X c Γ a ta) (hb : PX K X c Γ b tb) (hm : behindInMarks op b = false) : PXb K X c Γ (.Compare a [op] [b] pos) (boolT (bindT ta fun x => bindT tb fun y => f x y)) := by
  have mo : Mono (bindT ta fun x => bindT tb fun y => f x y) := .bind ha.mo fun _ => .bind hb.mo fun _ => q.mo _ _
  refine ⟨ha.hK, mo.boolT, pt_imp (pt_cmpR ho ha.pe hb.pe hm) fun σ H Q ⟨o, B, F0, F, D, s, z⟩ => ?_⟩
  refine two_w ha hb q s (mo.mono (fun d z1 v F1 D1 H1 g1 q1 => ?_) (fun _ h => h) z)
  cases q1 with
  | bl k => exact ⟨k, rfl, z1 F1 D1 H1 g1⟩
  | _ => exact False.elim z1
def notB (t : M Bool) : M Bool := bindT t fun b => pureT (!b)
theorem Mono.notB {t : M Bool} (h : Mono t) : Mono (notB t) := .bind h fun _ => .pure
def andB (t u : M Bool) : M Bool := bindT t fun b => if b = true then u else pureT false
def orB (t u : M Bool) : M Bool := bindT t fun b => if b = true then pureT true else u
theorem pxb_not {t : M Bool} (h : PXb K X c Γ a t) : PXb K X c Γ (.UnaryOp .Not a pos) (notB t) :=
  ⟨h.hK, .bind h.mo fun _ => .pure, pt_imp (pt_not h.pt) fun σ H Q ⟨o, B, F0, F, D, s, z⟩ => ⟨o, B, F0, F, D, s, h.mo.mono (fun d z1 F1 D1 H1 g1 => z1 F1 D1 H1 g1) (fun _ h => h) z⟩⟩
theorem PXw.toB {t : M Bool} (h : PXw K X c Γ e t) : PXb K X c Γ e t := ⟨h.hK, h.mo, h.pw.pt⟩
theorem pxb_and1 {t : M Bool} (h : PXb K X c Γ a t) : PXw K X c Γ (.BoolOp .And [a] pos) t := ⟨h.hK, h.mo, pw_and1 h.pt⟩
theorem pxb_or1 {t : M Bool} (h : PXb K X c Γ a t) : PXw K X c Γ (.BoolOp .Or [a] pos) t := ⟨h.hK, h.mo, pw_or1 h.pt⟩
theorem Mono.andB {t u : M Bool} (h : Mono t) (g : Mono u) : Mono (andB t u) := .bind h fun _ => .ite g .pure
theorem Mono.orB {t u : M Bool} (h : Mono t) (g : Mono u) : Mono (orB t u) := .bind h fun _ => .ite .pure g
theorem pxb_and {rest : List Expr} {t u : M Bool} (h : PXb K X c Γ a t) (g : PXw K X c Γ (.BoolOp .And (b :: rest) pos) u) : PXw K X c Γ (.BoolOp .And (a :: b :: rest) pos) (andB t u) :=
  ⟨h.hK, h.mo.andB g.mo, pw_imp (pw_and h.pt g.pw) fun σ H Q ⟨o, B, F0, F, D, s, z⟩ => ⟨o, B, F0, F, D, s, h.mo.mono (fun d z1 F1 D1 H1 g1 => by
    cases d with
    | true => exact iteT ⟨o, B, F0, F1, D1, s.grow g1, g.mo.mono (fun d z2 F2 D2 H2 g2 => z2 F2 D2 H2 (g1.trans g2)) (fun _ h => h) z1⟩
    | false => exact iteF (z1 F1 D1 H1 g1)) (fun _ h => h) z⟩⟩
theorem pxb_or {rest : List Expr} {t u : M Bool} (h : PXb K X c Γ a t) (g : PXw K X c Γ (.BoolOp .Or (b :: rest) pos) u) : PXw K X c Γ (.BoolOp .Or (a :: b :: rest) pos) (orB t u) :=
  ⟨h.hK, h.mo.orB g.mo, pw_imp (pw_or h.pt g.pw) fun σ H Q ⟨o, B, F0, F, D, s, z⟩ => ⟨o, B, F0, F, D, s, h.mo.mono (fun d z1 F1 D1 H1 g1 => by
    cases d with
    | false => exact iteF ⟨o, B, F0, F1, D1, s.grow g1, g.mo.mono (fun d z2 F2 D2 H2 g2 => z2 F2 D2 H2 (g1.trans g2)) (fun _ h => h) z1⟩
    | true => exact iteT (z1 F1 D1 H1 g1)) (fun _ h => h) z⟩⟩
/-- tests as values -/
def valB (t : M Bool) : M PyData := bindT t fun b => pureT (.bool b)
theorem Mono.valB {t : M Bool} (h : Mono t) : Mono (valB t) := .bind h fun _ => .pure
def notV (t : M PyData) : M PyData := valB (notB (boolT t))
def andV (t u : M PyData) : M PyData := bindT (boolT t) fun b => if b = true then u else pureT (.bool false)
def orV (t u : M PyData) : M PyData := bindT (boolT t) fun b => if b = true then pureT (.bool true) else u
theorem px_not (h : PX K X c Γ a t) : PX K X c Γ (.UnaryOp .Not a pos) (notV t) :=
  .of (pe_not h.pe) (Mono.valB h.mo.boolT.notB) (fun o B F0 F D σ H Q s z => ⟨o, B, F0, F, D, s, h.mo.mono (fun d z1 v F1 D1 H1 g1 q1 => by
    cases q1 with
    | bl k => exact ⟨k, rfl, z1 _ F1 D1 H1 g1 (.bl _)⟩
    | _ => exact False.elim z1) (fun _ h => h) z⟩) h.hK
theorem px_one {op} (h : PX K X c Γ a t) : PX K X c Γ (.BoolOp op [a] pos) t := ⟨h.hK, h.mo, pe_one h.pe⟩
theorem px_and {rest : List Expr} {u : M PyData} (h : PX K X c Γ a t) (g : PX K X c Γ (.BoolOp .And (b :: rest) pos) u) : PX K X c Γ (.BoolOp .And (a :: b :: rest) pos) (andV t u) :=
  .of (pe_and h.pe g.pe) (.bind h.mo.boolT fun _ => .ite g.mo .pure) (fun o B F0 F D σ H Q s z => ⟨o, B, F0, F, D, s, h.mo.mono (fun d z1 v F1 D1 H1 g1 q1 => by
    cases q1 with
    | bl k =>
      refine ⟨k, rfl, ?_⟩
      cases k with
      | true => exact iteT ⟨o, B, F0, F1, D1, s.grow g1, g.mo.mono (fun d z2 v F2 D2 H2 g2 q2 => z2 v F2 D2 H2 (g1.trans g2) q2) (fun _ h => h) z1⟩
      | false => exact iteF (z1 _ F1 D1 H1 g1 (.bl _))
    | _ => exact False.elim z1) (fun _ h => h) z⟩) h.hK
theorem px_or {rest : List Expr} {u : M PyData} (h : PX K X c Γ a t) (g : PX K X c Γ (.BoolOp .Or (b :: rest) pos) u) : PX K X c Γ (.BoolOp .Or (a :: b :: rest) pos) (orV t u) :=
  .of (pe_or h.pe g.pe) (.bind h.mo.boolT fun _ => .ite .pure g.mo) (fun o B F0 F D σ H Q s z => ⟨o, B, F0, F, D, s, h.mo.mono (fun d z1 v F1 D1 H1 g1 q1 => by
    cases q1 with
    | bl k =>
      refine ⟨k, rfl, ?_⟩
      cases k with
      | false => exact iteF ⟨o, B, F0, F1, D1, s.grow g1, g.mo.mono (fun d z2 v F2 D2 H2 g2 q2 => z2 v F2 D2 H2 (g1.trans g2) q2) (fun _ h => h) z1⟩
      | true => exact iteT (z1 _ F1 D1 H1 g1 (.bl _))
    | _ => exact False.elim z1) (fun _ h => h) z⟩) h.hK
/-- e if c else e' -/
def ifT {α : Type} (u : M Bool) (t t' : M α) : M α := bindT u fun b => if b = true then t else t'
theorem px_if {c' : Expr} {u : M Bool} (h : PXb K X c Γ c' u) (h1 : PX K X c Γ a ta) (h2 : PX K X c Γ b tb) (hK : X.K = K := by rfl) : PX K X c Γ (.IfExp c' a b pos) (ifT u ta tb) :=
  .of (pe_ifExp h.pt h1.pe h2.pe) (.bind h.mo fun _ => .ite h1.mo h2.mo) (fun o B F0 F D σ H Q s z => ⟨o, B, F0, F, D, s, h.mo.mono (fun d z1 F1 D1 H1 g1 => by
    cases d with
    | true => exact iteT ⟨o, B, F0, F1, D1, s.grow g1, h1.mo.mono (fun d z2 v F2 D2 H2 g2 q2 => z2 v F2 D2 H2 (g1.trans g2) q2) (fun _ h => h) z1⟩
    | false => exact iteF ⟨o, B, F0, F1, D1, s.grow g1, h2.mo.mono (fun d z2 v F2 D2 H2 g2 q2 => z2 v F2 D2 H2 (g1.trans g2) q2) (fun _ h => h) z1⟩) (fun _ h => h) z⟩) hK
end
end Nk
set_option Elab.async false
set_option linter.all false
set_option maxRecDepth 100000
set_option maxHeartbeats 4000000
namespace Nk
open PySem L2

/-! calls of defs -/
def spW (K : PySem.W.Frag) (mg : Str → Option Value) (dk : Bool) (m : Nat) (w : List PyData → M PyData) : Sp := fun vs H Q E => ∃ o F D args rest, Lay o F D H ∧ vs.length = m ∧ (match o.dk with
    | none => dk = false ∧ vs = rest
    | some a => dk = true ∧ vs = .ref a :: rest) ∧ DqAll K F rest args ∧
  w args (fun d => ∀ v F' D' H', Grow o F D F' D' H' → Dq K F' v d → Q v H') (fun e => ∀ cv d F' D' H', Grow o F D F' D' H' → ExR mg K F' H' e cv d → E cv d H')
structure Dw (P : Program) (w : World) (K : PySem.W.Frag) (mg : Str → Option Value) (base : Heap) (k : Nat) (x : Str) (st : Stmt) (ps : List Str) (dk : Bool) (wf : List PyData → M PyData) : Prop where
  ex : ∃ (f : Addr) (fd : FuncData), FnOk P w K mg base (L2.CX P w) k f fd ps (spW K mg dk ps.length wf) ∧ mg x = some (.ref f) ∧ PySem.W.keepIn K (.ref f) = true ∧ Binds K fd ps [] ∧ Fun K x x st f fd
  mo : ∀ as, Mono (wf as)
section
variable {K : PySem.W.Frag} {X : Cx} {c : Ct} {Γ : GE} {e a b : Expr} {es : List Expr} {t ta tb : M PyData} {ts : M (List PyData)} {pos p q : Pos}
/-- the deck and then data -/
structure PXd (K : PySem.W.Frag) (X : Cx) (c : Ct) (Γ : GE) (es : List Expr) (t : M (List PyData)) : Prop where
  mo : Mono t
  ln : ∀ k x, t k x → t (fun ds => ds.length + 1 = es.length ∧ k ds) x
  pa : PA X es (fun σ H Q => ∃ o B F0 F D, StW K c Γ o B F0 F D σ H ∧ t (fun ds => ∀ vs F' D' H' a, o.dk = some a → Grow o F D F' D' H' → DqAll K F' vs ds → Q (.ref a :: vs) H') (XW K X.mg c o B F0))
theorem pxd {i : Nat} {x : Str} (hc : c.dk = some i) (hN : X.N[i]? = some x) (hv : Vis X.env.scope x) (h : PXs K X c Γ es ts) (hs : starEach (.Name x q :: es) X.env = (false, eval (.Name x q) X.env) :: starEach es X.env := by rfl) (hd : (x == ("__debug__" : Str)) = false := by decide)
    (hcd : (x == ("__classdict__" : Str)) = false := by decide) : PXd K X c Γ (.Name x q :: es) ts :=
  ⟨h.mo, fun k x z => h.mo.mono (fun ds q => ⟨by rw [List.length_cons, q.1], q.2⟩) (fun _ h => h) (h.ln _ _ z), pa_imp (pa_cons (pe_var hN hv hd hcd) h.pa hs) fun σ H Q ⟨o, B, F0, F, D, s, z⟩ => by
    have dk := s.dek.1
    rw [hc] at dk
    cases eo : o.dk with
    | none => rw [eo] at dk; exact dk.elim
    | some a => rw [eo] at dk; exact ⟨.ref a, dk, o, B, F0, F, D, s, h.mo.mono (fun ds z1 vs F1 D1 H1 g1 q1 => z1 vs F1 D1 H1 a eo g1 q1) (fun _ h => h) z⟩⟩
theorem xw_call {o : OO} {B F0 F D : Hp} {σ : St} {H : Hp} (s : StW K c Γ o B F0 F D σ H) {e : Exn} (h : XW K X.mg c o B F0 e) : ∀ cv d F' D' H', Grow o F D F' D' H' → ExR X.mg K F' H' e cv d → c.W cv d σ H' := fun cv d F' D' H' g r => h cv d σ F' D' H' (s.nil.grow g) r
theorem px_call {x : Str} {sf : Stmt} {k : Nat} {ps : List Str} {wf : List PyData → M PyData} (D : Dw X.prog X.w X.K X.mg X.base k x sf ps false wf) (hr : Room k X.A) (tk : Takes X c.W) (ha : PXs K X c Γ (e :: es) ts) (hK : X.K = K := by rfl) (hg : Gl X x := by rfl) (hdb : (x == ("__debug__" : Str)) = false := by decide)
    (hl : (e :: es).length = ps.length := by rfl) (he : starEach (e :: es) X.env = (false, eval e X.env) :: starEach es X.env := by rfl) (hpl : (backTo pos (starEach es X.env)).any (·.1) = false := by rfl) : PX K X c Γ (.Call (.Name x p) (e :: es) [] pos) (bindT ts wf) := by
  obtain ⟨f, fd, F, m, kp, b, _⟩ := D.ex
  refine .of (pe_callSD F hr hg m kp b .nil (passAt tk) ha.pa hdb he hpl) (.bind ha.mo D.mo) (fun o B F0 F D' σ H Q s z => ?_) hK
  refine ⟨o, B, F0, F, D', s, ha.mo.mono (fun ds z1 vs F1 D1 H1 g1 q1 => ?_) (fun _ h => h) (ha.ln _ _ z)⟩
  subst hK
  refine ⟨.no, F1, H1, ds, vs, ⟨g1.lay.fh, Same.refl _, (fun a z => by cases z), (fun p z => by cases z)⟩, by rw [List.append_nil, q1.length, z1.1, hl], ⟨rfl, List.append_nil _⟩, q1, (D.mo ds).mono (fun d z2 v F2 D2 H2 g2 q2 => ?_) (fun ex z2 cv d F2 D2 H2 g2 r => ?_) z1.2⟩
  · exact z2 v F2 _ H2 (g1.trans (g1.lay.beside g2)) q2
  · exact xw_call s z2 cv d F2 _ H2 (g1.trans (g1.lay.beside g2)) r
theorem px_callD {x : Str} {sf : Stmt} {k : Nat} {ps : List Str} {wf : List PyData → M PyData} (D : Dw X.prog X.w X.K X.mg X.base k x sf ps true wf) (hr : Room k X.A) (tk : Takes X c.W) (ha : PXd K X c Γ (e :: es) ts) (hK : X.K = K := by rfl) (hg : Gl X x := by rfl) (hdb : (x == ("__debug__" : Str)) = false := by decide)
    (hl : (e :: es).length = ps.length := by rfl) (he : starEach (e :: es) X.env = (false, eval e X.env) :: starEach es X.env := by rfl) (hpl : (backTo pos (starEach es X.env)).any (·.1) = false := by rfl) : PX K X c Γ (.Call (.Name x p) (e :: es) [] pos) (bindT ts wf) := by
  obtain ⟨f, fd, F, m, kp, b, _⟩ := D.ex
  refine .of (pe_callSD F hr hg m kp b .nil (passAt tk) ha.pa hdb he hpl) (.bind ha.mo D.mo) (fun o B F0 F D' σ H Q s z => ?_) hK
  refine ⟨o, B, F0, F, D', s, ha.mo.mono (fun ds z1 vs F1 D1 H1 a ho g1 q1 => ?_) (fun _ h => h) (ha.ln _ _ z)⟩
  subst hK
  refine ⟨o, F1, D1, ds, vs, g1.lay, by rw [List.append_nil, List.length_cons, q1.length, z1.1, ← hl], (by rw [ho]; exact ⟨rfl, List.append_nil _⟩), q1, (D.mo ds).mono (fun d z2 v F2 D2 H2 g2 q2 => ?_) (fun ex z2 cv d F2 D2 H2 g2 r => ?_) z1.2⟩
  · exact z2 v F2 _ H2 (g1.trans g2) q2
  · exact xw_call s z2 cv d F2 _ H2 (g1.trans g2) r
/-! walks -/
/-- each turn gives the next of the data, whatever is new by then -/
def YW (K : PySem.W.Frag) (Fi : Hp) (ds : List PyData) : Nat → Hp → V → Hp → Prop := fun i H x H' => Same H H' ∧ ∃ d, ds[i]? = some d ∧ ∀ F, Same Fi F → Same F H → ∃ Fx, Same F Fx ∧ Same Fx H' ∧ (∀ p u, Fx p = some u → F p = none → H p = none) ∧ Dq K Fx x d
theorem YW.grow {F D H H' Fx : Hp} {o : OO} (l : Lay o F D H) (h1 : Same H H') (h2 : Same F Fx) (h3 : Same Fx H') (h4 : ∀ p u, Fx p = some u → F p = none → H p = none) : Grow o F D Fx (orH D Fx) H' :=
  l.beside ⟨h2, h1, h4, ⟨h3, Same.refl _, (fun a z => by cases z), (fun p z => by cases z)⟩⟩
structure PIt (K : PySem.W.Frag) (X : Cx) (c : Ct) (Γ : GE) (tg it : Expr) (t : M (List PyData)) : Prop where
  hK : X.K = K
  mo : Mono t
  pi : PI X tg it (fun σ H R => ∃ o B F0 F D, StW K c Γ o B F0 F D σ H ∧ t (fun ds => ∀ J F' D' H', Grow o F D F' D' H' → Walk J ds.length (Same D') (YW K F' ds) → R J H') (XW K X.mg c o B F0))
/-- what is walked stays, whatever becomes of one's own lists -/
structure PItF (K : PySem.W.Frag) (X : Cx) (c : Ct) (Γ : GE) (tg it : Expr) (t : M (List PyData)) : Prop where
  hK : X.K = K
  mo : Mono t
  pi : PI X tg it (fun σ H R => ∃ o B F0 F D, StW K c Γ o B F0 F D σ H ∧ t (fun ds => ∀ J F' D' H', Grow o F D F' D' H' → Walk J ds.length (Same F') (YW K F' ds) → R J H') (XW K X.mg c o B F0))
theorem PItF.it {tg it : Expr} {t : M (List PyData)} (h : PItF K X c Γ tg it t) : PIt K X c Γ tg it t := ⟨h.hK, h.mo, pi_imp h.pi fun σ H R ⟨o, B, F0, F, D, s, z⟩ => ⟨o, B, F0, F, D, s, h.mo.mono (fun ds z1 J F1 D1 H1 g1 w => z1 J F1 D1 H1 g1 (w.mono (fun H2 e => g1.lay.fd.trans e) fun _ _ _ _ _ _ y => y)) (fun _ h => h) z⟩⟩
theorem YW.at {Fi : Hp} {ds : List PyData} {vs : List V} (ha : DqAll K Fi vs ds) {i : Nat} {H : Hp} {x : V} (hx : vs[i]? = some x) : YW K Fi ds i H x H := by
  obtain ⟨d, h1, h2⟩ := ha.get hx
  exact ⟨Same.refl _, d, h1, fun F e1 e2 => ⟨F, Same.refl _, e2, fun p u a b => (by rw [a] at b; cases b), h2.same e1⟩⟩
/-- the items of a list or a tuple -/
def itemsT (d : PyData) : M (List PyData) := match d with
  | .list ds => pureT ds
  | .tuple ds => pureT ds
  | _ => failT
def tupI (d : PyData) : M (List PyData) := match d with
  | .tuple ds => pureT ds
  | _ => failT
def lstI (d : PyData) : M (List PyData) := match d with
  | .list ds => pureT ds
  | _ => failT
theorem mono_items (d : PyData) : Mono (itemsT d) := by cases d <;> first | exact .pure | exact .fail
theorem mono_tupI (d : PyData) : Mono (tupI d) := by cases d <;> first | exact .pure | exact .fail
theorem mono_lstI (d : PyData) : Mono (lstI d) := by cases d <;> first | exact .pure | exact .fail
theorem it_tup {tg : Expr} (h : PX K X c Γ a t) : PItF K X c Γ tg a (bindT t tupI) :=
  ⟨h.hK, .bind h.mo mono_tupI, pi_imp (kpiT K h.pe h.hK) fun σ H R ⟨o, B, F0, F, D, s, z⟩ => ⟨o, B, F0, F, D, s, h.mo.mono (fun d z1 v F1 D1 H1 g1 q1 => by
    cases q1 with
    | tup hp ha =>
      refine ⟨_, rfl, ⟨_, SqT.of (g1.lay.fh _ _ hp)⟩, z1 _ F1 D1 H1 g1 ?_⟩
      rw [← ha.length]
      refine (walk_tup (K := K) (xs := _)).mono (fun H s => SqT.of (s _ _ hp)) fun i H x H' hi s y => ?_
      obtain ⟨rfl, hx⟩ := y
      exact YW.at ha hx
    | _ => exact False.elim z1) (fun _ h => h) z⟩⟩
theorem it_lst {tg : Expr} (h : PX K X c Γ a t) : PItF K X c Γ tg a (bindT t lstI) :=
  ⟨h.hK, .bind h.mo mono_lstI, pi_imp (kpiL K h.pe h.hK) fun σ H R ⟨o, B, F0, F, D, s, z⟩ => ⟨o, B, F0, F, D, s, h.mo.mono (fun d z1 v F1 D1 H1 g1 q1 => by
    cases q1 with
    | lst hp ha =>
      refine ⟨_, rfl, ⟨_, SqL.of (g1.lay.fh _ _ hp)⟩, z1 _ F1 D1 H1 g1 ?_⟩
      rw [← ha.length]
      refine (walk_list (K := K) (xs := _)).mono (fun H s => SqL.of (s _ _ hp)) fun i H x H' hi s y => ?_
      obtain ⟨rfl, hx⟩ := y
      exact YW.at ha hx
    | _ => exact False.elim z1) (fun _ h => h) z⟩⟩
/-- one's own list, in a comprehension -/
theorem it_own {tg : Expr} {i : Nat} {x : Str} {ds : List PyData} (hi : X.N[i]? = some x) (hv : Vis X.env.scope x) (hl : Γ.lookup i = some (.own ds)) (hK : X.K = K := by rfl) (hd : (x == ("__debug__" : Str)) = false := by decide) (hcd : (x == ("__classdict__" : Str)) = false := by decide) : PIt K X c Γ tg (.Name x pos) (pureT ds) :=
  ⟨hK, .pure, pi_imp (kpiL K (pe_var hi hv hd hcd) hK) fun σ H R ⟨o, B, F0, F, D, s, z⟩ => by
    obtain ⟨a, vs, h1, h2, h3, h4, h5⟩ := s.env.getO hl
    refine ⟨.ref a, h1, a, rfl, ⟨_, SqL.of (s.lay.sub _ _ h4)⟩, z _ F D H (.refl s.lay) ?_⟩
    rw [← h5.length]
    refine (walk_list (K := K) (xs := _)).mono (fun H s => SqL.of (s _ _ h4)) fun i H x H' hi s y => ?_
    obtain ⟨rfl, hx⟩ := y
    exact YW.at h5 hx⟩
/-- range -/
def rangeI (d : PyData) : M (List PyData) := match d with
  | .int i => guardT (-(2 ^ 62) ≤ i ∧ i < 2 ^ 62) (pureT (rgD 0 i.toNat))
  | _ => failT
def range2I (d d' : PyData) : M (List PyData) := match d, d' with
  | .int i, .int j => guardT (-(2 ^ 62) ≤ i ∧ i < 2 ^ 62 ∧ -(2 ^ 62) ≤ j ∧ j < 2 ^ 62) (pureT (rgD i (j - i).toNat))
  | _, _ => failT
theorem mono_rangeI (d : PyData) : Mono (rangeI d) := by cases d <;> first | exact .guard .pure | exact .fail
theorem mono_range2I (d d' : PyData) : Mono (range2I d d') := by
  unfold range2I
  split <;> first | exact .guard .pure | exact .fail
theorem yw_rg {Fi : Hp} {lo : Int} {m : Nat} : Walk (Itr lo m) (rgD lo m).length (Same Fi) (YW K Fi (rgD lo m)) := by
  rw [rgD_length]
  refine walk_range.mono (fun _ _ => trivial) fun i H x H' hi s y => ?_
  obtain ⟨rfl, rfl⟩ := y
  exact ⟨Same.refl _, _, rgD_get hi, fun F e1 e2 => ⟨F, Same.refl _, e2, fun p u a b => (by rw [a] at b; cases b), .int _⟩⟩
theorem it_range {tg : Expr} (h : PX K X c Γ a t) (hg : Gl X "range") (hm : X.mg "range" = none) (hs : starEach [a] X.env = [(false, eval a X.env)] := by rfl) : PItF K X c Γ tg (.Call (.Name "range" p) [a] [] pos) (bindT t rangeI) :=
  ⟨h.hK, .bind h.mo mono_rangeI, pi_imp (pi_range1 hg hm (pa_cons h.pe pa_nil hs) hs) fun σ H R ⟨o, B, F0, F, D, s, z⟩ => ⟨o, B, F0, F, D, s, h.mo.mono (fun d z1 v F1 D1 H1 g1 q1 => by
    cases q1 with
    | int i => exact ⟨i, rfl, z1.1.1, z1.1.2, z1.2 _ F1 D1 H1 g1 yw_rg⟩
    | _ => exact False.elim z1) (fun _ h => h) z⟩⟩
theorem it_range2 {tg : Expr} (h : PX K X c Γ a ta) (g : PX K X c Γ b tb) (hg : Gl X "range") (hm : X.mg "range" = none) (hs : starEach [a, b] X.env = [(false, eval a X.env), (false, eval b X.env)] := by rfl) (hs2 : starEach [b] X.env = [(false, eval b X.env)] := by rfl) :
    PItF K X c Γ tg (.Call (.Name "range" p) [a, b] [] pos) (bindT ta fun x => bindT tb fun y => range2I x y) :=
  ⟨h.hK, .bind h.mo fun _ => .bind g.mo fun _ => mono_range2I _ _, pi_imp (pi_range2 hg hm (pa_cons h.pe (pa_cons g.pe pa_nil hs2) (by rw [hs, hs2])) hs hs2) fun σ H R ⟨o, B, F0, F, D, s, z⟩ => ⟨o, B, F0, F, D, s, h.mo.mono (fun d z1 v F1 D1 H1 g1 q1 => ⟨o, B, F0, F1, D1, s.grow g1, g.mo.mono (fun d2 z2 v2 F2 D2 H2 g2 q2 => by
    cases q1 with
    | int i =>
      cases q2 with
      | int j => exact ⟨i, j, rfl, z2.1, z2.2 _ F2 D2 H2 (g1.trans g2) yw_rg⟩
      | _ => exact False.elim z2
    | _ => exact False.elim z2) (fun _ h => h) z1⟩) (fun _ h => h) z⟩⟩
/-- zip -/
def zipI (d d' : PyData) : M (List PyData) := match d, d' with
  | .tuple s, .tuple t => pureT (zipD s t)
  | .list s, .list t => pureT (zipD s t)
  | _, _ => failT
theorem mono_zipI (d d' : PyData) : Mono (zipI d d') := by
  unfold zipI
  split <;> first | exact .pure | exact .fail
theorem yw_pair {Fi : Hp} {ds : List PyData} {i : Nat} {H : Hp} {T : Addr} {x y : V} {d1 d2 : PyData} (hT : H T = none) (h1 : Dq K Fi x d1) (h2 : Dq K Fi y d2) (hd : ds[i]? = some (.tuple [d1, d2])) : YW K Fi ds i H (.ref T) (upd H T (.tup [x, y])) := by
  refine ⟨same_new hT, _, hd, fun F e1 e2 => ?_⟩
  have fT : F T = none := e2.free hT
  refine ⟨upd F T (.tup [x, y]), same_new fT, fun p u e => ?_, fun p u e e' => ?_, .tup upd_same (.cons ((h1.same e1).same (same_new fT)) (.cons ((h2.same e1).same (same_new fT)) .nil))⟩
  · by_cases z : p = T
    · subst z; rw [upd_same] at e; cases e; exact upd_same
    · rw [upd_ne z] at e ⊢; exact e2 _ _ e
  · by_cases z : p = T
    · subst z; exact hT
    · rw [upd_ne z, e'] at e; cases e
theorem it_zip {elts : List Expr} {kk : Nat} {tpos : Pos} (h : PX K X c Γ a ta) (g : PX K X c Γ b tb) (hg : Gl X "zip") (hm : X.mg "zip" = none)
    (hs : starEach [a, b] X.env = (false, eval a X.env) :: starEach [b] X.env := by rfl) (hs2 : starEach [b] X.env = (false, eval b X.env) :: starEach [] X.env := by rfl) (hpl : (backTo pos (starEach [b] X.env)).any (·.1) = false := by rfl) :
    PItF K X c Γ (.Tuple elts kk tpos) (.Call (.Name "zip" p) [a, b] [] pos) (bindT ta fun x => bindT tb fun y => zipI x y) := by
  have hK := h.hK
  refine ⟨hK, .bind h.mo fun _ => .bind g.mo fun _ => mono_zipI _ _, pi_imp (RZ.pi_zipA hg hm (pa_cons h.pe (pa_cons g.pe pa_nil hs2) hs) hs hpl) fun σ H R ⟨o, B, F0, F, D, s, z⟩ => ⟨o, B, F0, F, D, s, h.mo.mono (fun d z1 v F1 D1 H1 g1 q1 => ⟨o, B, F0, F1, D1, s.grow g1, g.mo.mono (fun d2 z2 v2 F2 D2 H2 g2 q2 => ?_) (fun _ h => h) z1⟩) (fun _ h => h) z⟩⟩
  subst hK
  have q1 := q1.same g2.ff
  cases q1 with
  | tup hp ha =>
    cases q2 with
    | tup hq hb =>
      refine ⟨_, _, _, _, rfl, .inr ⟨SqT.of (g2.lay.fh _ _ hp), SqT.of (g2.lay.fh _ _ hq), z2 _ F2 D2 H2 (g1.trans g2) ?_⟩⟩
      rw [zipD_length, ← ha.length, ← hb.length]
      refine (walk_zipT rfl).mono (fun H s => ⟨SqT.of (s _ _ hp), SqT.of (s _ _ hq)⟩) fun i H v H' hi s y => ?_
      obtain ⟨T, x, y, rfl, hT, rfl, e1, e2⟩ := y
      obtain ⟨d1, k1, f1⟩ := ha.get e1
      obtain ⟨d2, k2, f2⟩ := hb.get e2
      exact yw_pair hT f1 f2 (zipD_get k1 k2)
    | _ => exact False.elim z2
  | lst hp ha =>
    cases q2 with
    | lst hq hb =>
      refine ⟨_, _, _, _, rfl, .inl ⟨SqL.of (g2.lay.fh _ _ hp), SqL.of (g2.lay.fh _ _ hq), z2 _ F2 D2 H2 (g1.trans g2) ?_⟩⟩
      rw [zipD_length, ← ha.length, ← hb.length]
      refine (walk_zip rfl).mono (fun H s => ⟨SqL.of (s _ _ hp), SqL.of (s _ _ hq)⟩) fun i H v H' hi s y => ?_
      obtain ⟨T, x, y, rfl, hT, rfl, e1, e2⟩ := y
      obtain ⟨d1, k1, f1⟩ := ha.get e1
      obtain ⟨d2, k2, f2⟩ := hb.get e2
      exact yw_pair hT f1 f2 (zipD_get k1 k2)
    | _ => exact False.elim z2
  | _ => cases q2 <;> exact False.elim z2
/-- enumerate of a tuple -/
def enumI (d : PyData) : M (List PyData) := match d with
  | .tuple s => pureT (enumD s)
  | _ => failT
theorem mono_enumI (d : PyData) : Mono (enumI d) := by cases d <;> first | exact .pure | exact .fail
theorem it_enumT {elts : List Expr} {kk : Nat} {tpos : Pos} (h : PX K X c Γ a t) (hg : Gl X "enumerate") (hm : X.mg "enumerate" = none) (hs : starEach [a] X.env = [(false, eval a X.env)] := by rfl) :
    PItF K X c Γ (.Tuple elts kk tpos) (.Call (.Name "enumerate" p) [a] [] pos) (bindT t enumI) :=
  ⟨h.hK, .bind h.mo mono_enumI, pi_imp (pi_enumT hg hm (pa_cons h.pe pa_nil hs) hs h.hK) fun σ H R ⟨o, B, F0, F, D, s, z⟩ => ⟨o, B, F0, F, D, s, h.mo.mono (fun d z1 v F1 D1 H1 g1 q1 => by
    cases q1 with
    | tup hp ha =>
      refine ⟨_, _, rfl, SqT.of (g1.lay.fh _ _ hp), z1 _ F1 D1 H1 g1 ?_⟩
      rw [enumD_length, ← ha.length]
      refine walk_enT.mono (fun H s => SqT.of (s _ _ hp)) fun i H v H' hi s y => ?_
      obtain ⟨T, x, y, rfl, hT, rfl, e1, e2⟩ := y
      cases e1
      obtain ⟨d2, k2, f2⟩ := ha.get e2
      refine yw_pair hT (.int _) f2 ?_
      unfold enumD
      rw [List.getElem?_map, List.getElem?_zipIdx, k2]
      simp
    | _ => exact False.elim z1) (fun _ h => h) z⟩⟩

/-! targets -/
structure TgW (K : PySem.W.Frag) (n : Nat) (g : TG) (vs : List Nat) {ι : Type} (dec : PyData → Option ι) (Δ : ι → GE) : Prop where
  run : ∀ (x : V) (σ : St) (F H : Hp) (d : PyData) (i : ι) (Q : St → Hp → Prop), σ.length = n → Same F H → Dq K F x d → dec d = some i → (∀ σ2, wipe σ2 vs = wipe σ vs → σ2.length = n → (∀ j, vs.contains j = false → σ2[j]? = σ[j]?) → (∀ B D, EnvW K B F D σ2 (Δ i)) → Q σ2 H) → g x σ H Q
  noo : ∀ i, ∀ q ∈ Δ i, q.2.isOwn = false
def dec1 : PyData → Option PyData := some
def dec2 : PyData → Option (PyData × PyData)
  | .tuple [a, b] => some (a, b)
  | _ => none
theorem tw1 {n i : Nat} (hi : i < n) : TgW K n (gName i) [i] dec1 fun d => [(i, .dat d)] := by
  refine ⟨fun x σ F H d j Q hl s hd e k => ?_, fun _ q hq => by obtain rfl := List.mem_singleton.mp hq; rfl⟩
  cases e
  refine k _ wipe_set1 (by rw [List.length_set]; exact hl) (fun j hj => ?_) fun B D => ⟨⟨x, by rw [List.getElem?_set_self (by omega)], hd⟩, (fun z => by cases z), trivial⟩
  have : i ≠ j := fun e => by subst e; simp at hj
  rw [List.getElem?_set_ne this]
theorem tw2 {n i j : Nat} (hi : i < n) (hj : j < n) (hij : i ≠ j) : TgW K n (gTup K 2 (gCons (gName i) (gCons (gName j) gNil))) [i, j] dec2 fun d => [(i, .dat d.1), (j, .dat d.2)] := by
  refine ⟨fun x σ F H d z Q hl s hd e k => ?_, fun _ q hq => by
    rcases List.mem_cons.mp hq with rfl | hq
    · rfl
    · obtain rfl := List.mem_singleton.mp hq; rfl⟩
  unfold dec2 at e
  split at e
  · cases e
    cases hd with
    | tup hp ha =>
      cases ha with
      | cons h1 h2 =>
        cases h2 with
        | cons h2 h3 =>
          cases h3
          refine ⟨_, _, rfl, SqT.of (s _ _ hp), rfl, _, _, rfl, _, _, rfl, rfl, k _ wipe_set2 (by rw [List.length_set, List.length_set]; exact hl) (fun m hm => ?_) fun B D => ⟨⟨_, ?_, h1⟩, (fun z => by cases z), ⟨_, ?_, h2⟩, (fun z => by cases z), trivial⟩⟩
          · have a1 : i ≠ m := fun e => by subst e; simp at hm
            have a2 : j ≠ m := fun e => by subst e; simp at hm
            rw [List.getElem?_set_ne a2, List.getElem?_set_ne a1]
          · rw [List.getElem?_set_ne hij.symm, List.getElem?_set_self (by omega)]
          · rw [List.getElem?_set_self (by rw [List.length_set]; omega)]
  · cases e

/-! comprehensions -/
def lcM {ι : Type} (dec : PyData → Option ι) (cc : ι → M Bool) (ee : ι → M PyData) : List PyData → M (List PyData)
  | [] => pureT []
  | x :: xs => match dec x with
    | none => failT
    | some i => bindT (noxT (cc i)) fun b => if b = true then bindT (noxT (ee i)) fun d => bindT (lcM dec cc ee xs) fun ds => pureT (d :: ds) else lcM dec cc ee xs
def lcT {ι : Type} (it : M (List PyData)) (dec : PyData → Option ι) (cc : ι → M Bool) (ee : ι → M PyData) : M PyData := bindT it fun xs => guardT (xs.length ≤ 100000) (bindT (lcM dec cc ee xs) fun ds => pureT (.list ds))
theorem mono_lcM {ι : Type} {dec : PyData → Option ι} {cc : ι → M Bool} {ee : ι → M PyData} (hc : ∀ i, Mono (cc i)) (he : ∀ i, Mono (ee i)) : ∀ xs, Mono (lcM dec cc ee xs)
  | [] => .pure
  | x :: xs => by
    unfold lcM
    split
    · exact .fail
    · exact .bind (.nox (hc _)) fun _ => .ite (.bind (.nox (he _)) fun _ => .bind (mono_lcM hc he xs) fun _ => .pure) (mono_lcM hc he xs)
abbrev Ct.nox (c : Ct) : Ct := { c with W := fun _ _ _ _ => False }
def Ct.off (c : Ct) (vs : List Nat) : Bool := offW c.gxE vs && match c.dk with
  | none => true
  | some i => !vs.contains i
theorem StW.nox {o : OO} {B F0 F D : Hp} {σ : St} {H : Hp} (s : StW K c Γ o B F0 F D σ H) : StW K c.nox Γ o B F0 F D σ H := ⟨s.len, s.dek, s.gb, s.env, s.gx⟩
theorem StW.ofNox {o : OO} {B F0 F D : Hp} {σ : St} {H : Hp} (s : StW K c.nox Γ o B F0 F D σ H) : StW K c Γ o B F0 F D σ H := ⟨s.len, s.dek, s.gb, s.env, s.gx⟩
/-- the slots vs have other contents, all else is as it was -/
theorem StW.off {o : OO} {B F0 F D : Hp} {σ σ' : St} {H : Hp} {vs : List Nat} (s : StW K c Γ o B F0 F D σ H) (hl : σ'.length = c.n) (hs : ∀ j, vs.contains j = false → σ'[j]? = σ[j]?) (h1 : offW Γ vs = true) (h2 : c.off vs = true) : StW K c Γ o B F0 F D σ' H := by
  unfold Ct.off at h2
  rw [Bool.and_eq_true] at h2
  refine ⟨hl, ?_, s.gb, s.env.off hs h1, s.gx.off hs h2.1⟩
  have d := s.dek.1
  have h2 := h2.2
  refine ⟨?_, s.dek.2⟩
  cases q : c.dk with
  | none =>
    rw [q] at d
    obtain ⟨odk, otb⟩ := o
    cases odk with
    | none => trivial
    | some a => exact d.elim
  | some i =>
    rw [q] at d h2
    obtain ⟨odk, otb⟩ := o
    cases odk with
    | none => exact d.elim
    | some a =>
      show σ'[i]? = _
      rw [hs i (by simpa using h2)]
      exact d
theorem EnvW.append {B F D : Hp} {σ : St} {Δ : GE} (n : ∀ q ∈ Δ, q.2.isOwn = false) (hd : EnvW K B F D σ Δ) : ∀ {Γ : GE}, EnvW K B F D σ Γ → EnvW K B F D σ (Γ ++ Δ)
  | [], _ => hd
  | q :: Γ, ⟨h, nn, r⟩ => ⟨h, (fun e x hx ex => by
    rcases List.mem_append.mp hx with hx | hx
    · exact nn e x hx ex
    · rw [n x hx] at ex; cases ex), EnvW.append n hd r⟩
theorem StW.app {Δ : GE} {o : OO} {B F0 F D : Hp} {σ : St} {H : Hp} (s : StW K c Γ o B F0 F D σ H) (n : ∀ q ∈ Δ, q.2.isOwn = false) (h : EnvW K B F D σ Δ) : StW K c (Γ ++ Δ) o B F0 F D σ H := ⟨s.len, s.dek, s.gb, EnvW.append n h s.env, s.gx⟩
theorem lc_drop {α : Type} {xs : List α} {i : Nat} {d : α} (h : xs[i]? = some d) : xs.drop i = d :: xs.drop (i + 1) := by
  obtain ⟨hi, e⟩ := List.getElem?_eq_some_iff.mp h
  rw [List.drop_eq_getElem_cons hi, e]
def ttW (K : PySem.W.Frag) (mg : Str → Option Value) (c : Ct) (Γ : GE) {ι : Type} (Δ : ι → GE) (cc : ι → M Bool) : TT := fun σ H Q => ∃ i, tWb K mg c.nox (Γ ++ Δ i) (cc i) σ H Q
def teW (K : PySem.W.Frag) (mg : Str → Option Value) (c : Ct) (Γ : GE) {ι : Type} (Δ : ι → GE) (ee : ι → M PyData) : TE := fun σ H Q => ∃ i, tW K mg c.nox (Γ ++ Δ i) (ee i) σ H Q
/-- tests of a comprehension: none, one -/
structure PXt (K : PySem.W.Frag) (X : Cx) (c : Ct) (Γ : GE) (ifs : List Expr) (t : M Bool) : Prop where
  mo : Mono t
  pt : PTs X ifs (tWb K X.mg c Γ t)
theorem pxt_nil : PXt K X c Γ [] (pureT true) := ⟨.pure, ⟨fun pins s σ H Q I ⟨o, B, F0, F, D, st, z⟩ => pts_nil.run pins s σ H Q I (z F D H (.refl st.lay))⟩⟩
theorem pxt_one {t : M Bool} (h : PXb K X c Γ a t) : PXt K X c Γ [a] t := ⟨h.mo, pts_one h.pt⟩
theorem Lay.put {o : OO} {F D H : Hp} {C : Addr} {u w : HO} (l : Lay o F D H) (hD : D C = some u) (hF : F C = none) : Lay o F (upd D C w) (upd H C w) :=
  ⟨fun p x e => by
    rw [upd_ne (fun z => by subst z; rw [hF] at e; cases e)]
    exact l.fd _ _ e, fun p x e => by
    by_cases z : p = C
    · subst z; rw [upd_same] at e ⊢; exact e
    · rw [upd_ne z] at e ⊢; exact l.sub _ _ e, fun a h => (l.dk a h).put hD, l.tb.put hD⟩
/-- the turns of a comprehension: from here on -/
def LcI (K : PySem.W.Frag) {ι : Type} (dec : PyData → Option ι) (cc : ι → M Bool) (ee : ι → M PyData) (xs : List PyData) (o : OO) (F1 D1 : Hp) (C : Addr) (k : List PyData → Prop) (xk : Exn → Prop) (i : Nat) (H : Hp) : Prop :=
  ∃ F D vs acc, Grow o F1 D1 F D H ∧ D C = some (.lst vs) ∧ F C = none ∧ DqAll K F vs acc ∧ acc.length ≤ i ∧ lcM dec cc ee (xs.drop i) (fun ds => k (acc ++ ds)) xk
theorem Grow.frz {o : OO} {F D F' D' H' : Hp} {p : Addr} {u : HO} (g : Grow o F D F' D' H') (h1 : F' p = none) (h2 : D p = none) (h3 : D' p = some u) : Grow o F D (upd F' p u) D' H' :=
  ⟨g.ff.trans (same_new h1), g.dd, fun q x e e' => by
    by_cases zz : q = p
    · subst zz; exact h2
    · rw [upd_ne zz] at e; exact g.fresh _ _ e e', ⟨fun q x e => by
    by_cases zz : q = p
    · subst zz; rw [upd_same] at e; cases e; exact h3
    · rw [upd_ne zz] at e; exact g.lay.fd _ _ e, g.lay.sub, g.lay.dk, g.lay.tb⟩⟩
/-- e is a new list of the data -/
def FreshQ (K : PySem.W.Frag) (o : OO) (F D : Hp) (Q : VK) : List PyData → Prop := fun ds => ∀ p vs F' D' H', Grow o F D F' D' H' → F' p = none → D p = none → D' p = some (.lst vs) → DqAll K F' vs ds → Q (.ref p) H'
def tWf (K : PySem.W.Frag) (mg : Str → Option Value) (c : Ct) (Γ : GE) (t : M (List PyData)) : TE := fun σ H Q => ∃ o B F0 F D, StW K c Γ o B F0 F D σ H ∧ t (FreshQ K o F D Q) (XW K mg c o B F0)
structure PXf (K : PySem.W.Frag) (X : Cx) (c : Ct) (Γ : GE) (e : Expr) (t : M (List PyData)) : Prop where
  hK : X.K = K
  mo : Mono t
  pe : PE X e (tWf K X.mg c Γ t)
def lstV (t : M (List PyData)) : M PyData := bindT t fun ds => pureT (.list ds)
theorem PXf.px {t : M (List PyData)} (h : PXf K X c Γ e t) : PX K X c Γ e (lstV t) :=
  ⟨h.hK, .bind h.mo fun _ => .pure, pe_imp h.pe fun σ H Q ⟨o, B, F0, F, D, s, z⟩ => ⟨o, B, F0, F, D, s, h.mo.mono (fun ds z1 p vs F' D' H' g h1 h2 h3 h4 => z1 _ _ _ _ (g.frz h1 h2 h3) (.lst upd_same (h4.same (same_new h1)))) (fun _ h => h) z⟩⟩
def lcF {ι : Type} (it : M (List PyData)) (dec : PyData → Option ι) (cc : ι → M Bool) (ee : ι → M PyData) : M (List PyData) := bindT it fun xs => guardT (xs.length ≤ 100000) (lcM dec cc ee xs)
def itW (K : PySem.W.Frag) (mg : Str → Option Value) (c : Ct) (Γ : GE) (t : M (List PyData)) : TI := fun σ H R => ∃ o B F0 F D, StW K c Γ o B F0 F D σ H ∧ t (fun ds => ∀ J F' D' H', Grow o F D F' D' H' → Walk J ds.length (Same D') (YW K F' ds) → R J H') (XW K mg c o B F0)
theorem lc_readW {ι : Type} {dec : PyData → Option ι} {Δ : ι → GE} {it : M (List PyData)} {cc : ι → M Bool} {ee : ι → M PyData} {own : List Nat} {g : TG} {mg : Str → Option Value} (mi : Mono it)
    (htg : TgW K c.n g own dec Δ) (hoff : offW Γ own = true) (hoc : c.off own = true) (mc : ∀ i, Mono (cc i)) (me : ∀ i, Mono (ee i)) {o : OO} {B F0 F D : Hp} {σ : St} {H : Hp} {Q : VK}
    (s : StW K c Γ o B F0 F D σ H) (z : lcF it dec cc ee (FreshQ K o F D Q) (XW K mg c o B F0)) : tLc (itW K mg c Γ it) g (ttW K mg c Γ Δ cc) (teW K mg c Γ Δ ee) own σ H Q := by
  refine ⟨o, B, F0, F, D, s, mi.mono (fun xs z1 J F1 D1 H1 g1 w C hC => ?_) (fun _ h => h) z⟩
  obtain ⟨zl, z1⟩ := z1
  have l1 := g1.lay
  have C1 := l1.free hC
  refine lc_it (g := g) (tt := ttW K mg c Γ Δ cc) (te := teW K mg c Γ Δ ee) (vs := own) (σ := σ) (Qd := fun H => Q (.ref C) H) w
    (LcI K dec cc ee xs o F1 D1 C (FreshQ K o F D Q) (XW K mg c o B F0)) ?_ ?_ ?_ ?_
  · refine ⟨F1, upd D1 C (.lst []), [], [], ⟨Same.refl _, same_new C1.1, fun p x h h' => (by rw [h] at h'; cases h'), ⟨l1.fd.trans (same_new C1.1), fun p x e => ?_, (fun a ha => ((l1.dk a ha).new hC)), l1.tb.new hC⟩⟩, upd_same, C1.2, .nil, Nat.le_refl _, ?_⟩
    · by_cases zz : p = C
      · subst zz; rw [upd_same] at e ⊢; exact e
      · rw [upd_ne zz] at e ⊢; exact l1.sub _ _ e
    · exact z1
  · rintro i H2 _ ⟨F2, D2, vs, acc, g2, _⟩
    exact g2.dd.trans g2.lay.sub
  · rintro i x H2 H3 hi2 ⟨F2, D2, vs, acc, g2, hD, hF, hv, hac, q⟩ ⟨s3, d, hd, yd⟩
    obtain ⟨Fx, e1, e2, e3, e4⟩ := yd F2 g2.ff g2.lay.fh
    have gx := YW.grow g2.lay s3 e1 e2 e3
    rw [lc_drop hd] at q
    unfold lcM at q
    cases hdec : dec d with
    | none => rw [hdec] at q; exact q.elim
    | some j =>
      rw [hdec] at q
      have DX : orH D2 Fx C = some (.lst vs) := gx.dd _ _ hD
      have FX : Fx C = none := by
        cases r : Fx C with
        | none => rfl
        | some u =>
          have := gx.fresh C u r hF
          rw [hD] at this; cases this
      refine (htg.run x _ Fx H3 d j _ (by rw [wipe_length]; exact s.len) e2 e4 hdec fun σ2 w2 l2 o2 e5 => ⟨?_, ?_⟩)
      · rw [w2]; exact wipe_wipe _ _
      have st : StW K c.nox (Γ ++ Δ j) o B F0 Fx (orH D2 Fx) σ2 H3 :=
        (((((s.grow g1).grow g2).grow gx).off (σ' := σ2) l2 (fun m hm => by rw [o2 m hm, wipe_get hm]) hoff hoc).app (htg.noo j) (e5 B _)).nox
      refine ⟨j, o, B, F0, Fx, orH D2 Fx, st, (mc j).mono (fun b zb F4 D4 H4 g4 => ?_) (fun _ h => h.elim) q⟩
      have D4C : D4 C = some (.lst vs) := g4.dd _ _ DX
      have F4C : F4 C = none := by
        cases r : F4 C with
        | none => rfl
        | some u =>
          have := g4.fresh C u r FX
          rw [DX] at this; cases this
      have hv4 := (hv.same e1).same g4.ff
      have g14 := (g2.trans gx).trans g4
      cases b with
      | false => exact iteF ⟨F4, D4, vs, acc, g14, D4C, F4C, hv4, by omega, zb⟩
      | true =>
        refine iteT ⟨j, o, B, F0, F4, D4, st.grow g4, (me j).mono (fun y zy v F5 D5 H5 g5 q5 => ?_) (fun _ h => h.elim) zb⟩
        have D5C : D5 C = some (.lst vs) := g5.dd _ _ D4C
        have F5C : F5 C = none := by
          cases r : F5 C with
          | none => rfl
          | some u =>
            have := g5.fresh C u r F4C
            rw [D4C] at this; cases this
        have g15 := g14.trans g5
        refine ⟨vs, g5.lay.sub _ _ D5C, ?_, F5, upd D5 C (.lst (vs ++ [v])), vs ++ [v], acc ++ [y], ⟨g15.ff, fun p u e => ?_, g15.fresh, g5.lay.put D5C F5C⟩, upd_same, F5C, (hv4.same g5.ff).append (.cons q5 .nil), by rw [List.length_append]; show acc.length + 1 ≤ i + 1; omega, ?_⟩
        · rw [hv.length]
          exact Nat.lt_of_le_of_lt (Nat.le_trans hac (Nat.le_trans (Nat.le_of_lt hi2) zl)) (by show 100000 < sizeLine; decide)
        · rw [upd_ne (fun zz => by subst zz; rw [C1.1] at e; cases e)]
          exact g15.dd _ _ e
        · exact (mono_lcM mc me _).mono (fun ds zz => by rw [List.append_assoc]; exact zz) (fun _ h => h) zy
  · rintro H2 ⟨F2, D2, vs, acc, g2, hD, hF, hv, hac, q⟩
    rw [List.drop_length] at q
    have q : FreshQ K o F D Q (acc ++ []) := q
    rw [List.append_nil] at q
    have DC : D C = none := g1.dd.free C1.1
    exact q C vs F2 D2 H2 (g1.trans g2) hF DC hD hv
theorem mono_lcF {ι : Type} {dec : PyData → Option ι} {it : M (List PyData)} {cc : ι → M Bool} {ee : ι → M PyData} (mi : Mono it) (mc : ∀ i, Mono (cc i)) (me : ∀ i, Mono (ee i)) : Mono (lcF it dec cc ee) := .bind mi fun xs => .guard (mono_lcM mc me xs)
theorem pfw_lc {ι : Type} {dec : PyData → Option ι} {Δ : ι → GE} {it : M (List PyData)} {cc : ι → M Bool} {ee : ι → M PyData} {elt tg itx : Expr} {ifs : List Expr} {scope : Scope} {own : List (Str × Nat)} {g : TG}
    (hc : X.calm = true) (nd : X.N.Nodup) (hi : PIt K X c Γ tg itx it) (ok : BlkOk X.N X.env.scope scope own) (hg : ∀ (s : Shared) (H : Hp) (C : Addr) (cl : List (Str × Addr)) (fp : List Addr), PG (X.blk s H scope (compEnvC scope cl C X.env) fp) tg g)
    (htg : TgW K c.n g (own.map (·.2)) dec Δ) (hoff : offW Γ (own.map (·.2)) = true) (hoc : c.off (own.map (·.2)) = true)
    (ht : ∀ i (s : Shared) (H : Hp) (C : Addr) (cl : List (Str × Addr)) (fp : List Addr), PXt K (X.blk s H scope (compEnvC scope cl C X.env) fp) c.nox (Γ ++ Δ i) ifs (cc i))
    (he : ∀ i (s : Shared) (H : Hp) (C : Addr) (cl : List (Str × Addr)) (fp : List Addr), PX K (X.blk s H scope (compEnvC scope cl C X.env) fp) c.nox (Γ ++ Δ i) elt (ee i))
    (hs : ∀ x, foldedSetIterable itx X.env x = pure x := by intro _; rfl) : PXf K X c Γ (.ListComp elt [⟨tg, itx, ifs, 0⟩] scope pos) (lcF it dec cc ee) := by
  have hK := hi.hK
  have mc : ∀ i, Mono (cc i) := fun i => (ht i {} (fun _ => none) 0 [] []).mo
  have me : ∀ i, Mono (ee i) := fun i => (he i {} (fun _ => none) 0 [] []).mo
  exact ⟨hK, mono_lcF hi.mo mc me, pe_imp (pe_lc (wi := itW K X.mg c Γ it) (g := g) (tt := ttW K X.mg c Γ Δ cc) (te := teW K X.mg c Γ Δ ee) hc nd hi.pi ok hg
    (fun s H C cl fp => ⟨fun pins s' σ H' Q I ⟨i, q⟩ => (ht i s H C cl fp).pt.run pins s' σ H' Q I q⟩) (fun s H C cl fp => ⟨fun pins s' σ H' Q I ⟨i, q⟩ => (he i s H C cl fp).pe.run pins s' σ H' Q I q⟩) hs)
    fun σ H Q ⟨o, B, F0, F, D, s, z⟩ => lc_readW hi.mo htg hoff hoc mc me s z⟩
theorem pfw_lst (h : PXs K X c Γ es ts) (hK : X.K = K := by rfl) : PXf K X c Γ (.List es pos) (bindT ts fun ds => guardT (ds.length ≤ sizeLine) (pureT ds)) :=
  ⟨hK, .bind h.mo fun _ => .guard .pure, pe_imp (pe_lst h.pa) fun σ H Q ⟨o, B, F0, F, D, s, z⟩ => ⟨o, B, F0, F, D, s, h.mo.mono (fun ds z1 vs F1 D1 H1 g1 q1 => ⟨by rw [q1.length]; exact z1.1, fun p hp => by
    have f := g1.lay.free hp
    have n := Grow.new (u := .lst vs) g1.lay hp
    refine z1.2 p vs F1 (upd D1 p (.lst vs)) _ ⟨g1.ff, g1.dd.trans n.dd, g1.fresh, ⟨g1.lay.fd.trans n.dd, n.lay.sub, n.lay.dk, n.lay.tb⟩⟩ f.2 (g1.dd.free f.1) upd_same q1⟩) (fun _ h => h) z⟩⟩
end
end Nk
set_option Elab.async false
set_option linter.all false
set_option maxRecDepth 100000
set_option maxHeartbeats 4000000
namespace Nk
open PySem L2

/-! stores -/
def insE (i : Nat) (c : Cell) : GE → GE
  | [] => [(i, c)]
  | q :: Γ => if i < q.1 then (i, c) :: q :: Γ else q :: insE i c Γ
def replE (i : Nat) (c : Cell) : GE → GE
  | [] => []
  | q :: Γ => if i = q.1 then (i, c) :: drpE i Γ else q :: replE i c Γ
def hasE (i : Nat) (Γ : GE) : Bool := Γ.any fun q => q.1 == i
def setE (i : Nat) (c : Cell) (Γ : GE) : GE := if hasE i Γ = true then replE i c Γ else insE i c Γ
theorem drp_id {i : Nat} {Γ : GE} (h : hasE i Γ = false) : drpE i Γ = Γ := by
  unfold drpE
  refine List.filter_eq_self.mpr fun q hq => ?_
  unfold hasE at h
  have := List.any_eq_false.mp h q hq
  simpa using this
theorem mem_insE {i : Nat} {c : Cell} {y : Nat × Cell} : ∀ {Γ : GE}, y ∈ insE i c Γ → y = (i, c) ∨ y ∈ Γ
  | [], h => .inl (List.mem_singleton.mp h)
  | z :: zs, h => by
    unfold insE at h
    split at h
    · rcases List.mem_cons.mp h with rfl | h
      · exact .inl rfl
      · exact .inr h
    · rcases List.mem_cons.mp h with rfl | h
      · exact .inr List.mem_cons_self
      · rcases mem_insE h with e | e
        · exact .inl e
        · exact .inr (List.mem_cons_of_mem _ e)
theorem mem_replE {i : Nat} {c : Cell} {y : Nat × Cell} : ∀ {Γ : GE}, y ∈ replE i c Γ → y = (i, c) ∨ y ∈ drpE i Γ
  | [], h => nomatch h
  | z :: zs, h => by
    unfold replE at h
    split at h
    · rename_i e
      rcases List.mem_cons.mp h with rfl | h
      · exact .inl rfl
      · refine .inr ?_
        unfold drpE
        rw [List.filter_cons]
        split
        · exact List.mem_cons_of_mem _ h
        · exact h
    · rename_i e
      have hz : (!(z.1 == i)) = true := by simpa using fun q => e q.symm
      have hd : drpE i (z :: zs) = z :: drpE i zs := by
        unfold drpE
        rw [List.filter_cons, if_pos hz]
      rw [hd]
      rcases List.mem_cons.mp h with rfl | h
      · exact .inr List.mem_cons_self
      · rcases mem_replE h with e | e
        · exact .inl e
        · exact .inr (List.mem_cons_of_mem _ e)
theorem mem_setE {i : Nat} {c : Cell} {y : Nat × Cell} {Γ : GE} (h : y ∈ setE i c Γ) : y = (i, c) ∨ y ∈ drpE i Γ := by
  unfold setE at h
  split at h
  · exact mem_replE h
  · rename_i e
    rw [drp_id (by simpa using e)]
    exact mem_insE h
section
variable {K : PySem.W.Frag} {B F D : Hp} {σ σ' : St}
theorem EnvW.ins {q : Nat × Cell} : ∀ {Γ : GE}, CellOk K B F D σ q.1 q.2 → (∀ r ∈ Γ, q.2.isOwn = true → r.2.isOwn = true → σ[r.1]? ≠ σ[q.1]?) → EnvW K B F D σ Γ → EnvW K B F D σ (insE q.1 q.2 Γ)
  | [], h, _, _ => ⟨h, (fun _ r hr => nomatch hr), trivial⟩
  | x :: Γ, h, n, ⟨hx, nx, r⟩ => by
    unfold insE
    split
    · exact ⟨h, (fun e y hy ey => n y hy e ey), hx, nx, r⟩
    · refine ⟨hx, fun e y hy ey => ?_, EnvW.ins h (fun y hy => n y (List.mem_cons_of_mem _ hy)) r⟩
      rcases mem_insE hy with rfl | hy
      · exact fun z => n x List.mem_cons_self ey e z.symm
      · exact nx e y hy ey
theorem EnvW.repl {q : Nat × Cell} : ∀ {Γ : GE}, hasE q.1 Γ = true → CellOk K B F D σ q.1 q.2 → (∀ r ∈ drpE q.1 Γ, q.2.isOwn = true → r.2.isOwn = true → σ[r.1]? ≠ σ[q.1]?) → EnvW K B F D σ (drpE q.1 Γ) → EnvW K B F D σ (replE q.1 q.2 Γ)
  | [], e, _, _, _ => by cases e
  | x :: Γ, e, h, n, r => by
    unfold replE
    by_cases hx : q.1 = x.1
    · rw [if_pos hx]
      have hd : drpE q.1 (x :: Γ) = drpE q.1 Γ := by
        unfold drpE
        rw [List.filter_cons, if_neg (by simp [hx])]
      rw [hd] at n r
      exact ⟨h, (fun e y hy ey => n y hy e ey), r⟩
    · rw [if_neg hx]
      have hz : (!(x.1 == q.1)) = true := by simpa using fun z => hx z.symm
      have hd : drpE q.1 (x :: Γ) = x :: drpE q.1 Γ := by
        unfold drpE
        rw [List.filter_cons, if_pos hz]
      rw [hd] at n r
      obtain ⟨h1, n1, r1⟩ := r
      have e' : hasE q.1 Γ = true := by
        have e : (x.1 == q.1 || hasE q.1 Γ) = true := e
        have : (x.1 == q.1) = false := by simpa using fun z => hx z.symm
        rw [this, Bool.false_or] at e
        exact e
      refine ⟨h1, fun eo y hy ey => ?_, EnvW.repl e' h (fun y hy => n y (List.mem_cons_of_mem _ hy)) r1⟩
      rcases mem_replE hy with rfl | hy
      · exact fun z => n x List.mem_cons_self ey eo z.symm
      · exact n1 eo y hy ey
theorem EnvW.perm {q : Nat × Cell} {Γ : GE} (h : CellOk K B F D σ q.1 q.2) (n : ∀ r ∈ drpE q.1 Γ, q.2.isOwn = true → r.2.isOwn = true → σ[r.1]? ≠ σ[q.1]?) (r : EnvW K B F D σ (drpE q.1 Γ)) : EnvW K B F D σ (setE q.1 q.2 Γ) := by
  unfold setE
  split
  · rename_i e
    exact EnvW.repl e h n r
  · rename_i e
    rw [drp_id (by simpa using e)] at n r
    exact EnvW.ins h n r
theorem offW_drp (i : Nat) (Γ : GE) : offW (drpE i Γ) [i] = true := by
  unfold offW drpE
  rw [List.all_eq_true]
  intro q hq
  have := (List.mem_filter.mp hq).2
  simp at this ⊢
  exact this
theorem set_at {i : Nat} {v : Option V} {j : Nat} (h : [i].contains j = false) : (σ.set i v)[j]? = σ[j]? := by
  have : i ≠ j := fun e => by subst e; simp at h
  rw [List.getElem?_set_ne this]
theorem EnvW.setD {i : Nat} {v : V} {d : PyData} {Γ : GE} (h : EnvW K B F D σ Γ) (hi : i < σ.length) (q : Dq K F v d) : EnvW K B F D (σ.set i (some v)) (setE i (.dat d) Γ) :=
  EnvW.perm (q := (i, .dat d)) ⟨v, by show (σ.set i (some v))[i]? = _; rw [List.getElem?_set_self hi], q⟩ (fun r hr e => by cases e) (EnvW.off (fun j hj => set_at hj) (offW_drp i Γ) (h.sublist List.filter_sublist))
theorem EnvW.setO {i : Nat} {a : Addr} {vs : List V} {ds : List PyData} {Γ : GE} (h : EnvW K B F D σ Γ) (hi : i < σ.length) (h1 : F a = none) (h2 : B a = none) (h3 : D a = some (.lst vs)) (q : DqAll K F vs ds) (hn : ∀ r ∈ Γ, r.2.isOwn = true → σ[r.1]? ≠ some (some (.ref a))) : EnvW K B F D (σ.set i (some (.ref a))) (setE i (.own ds) Γ) := by
  refine EnvW.perm (q := (i, .own ds)) ⟨a, vs, by show (σ.set i _)[i]? = _; rw [List.getElem?_set_self hi], h1, h2, h3, q⟩ (fun r hr _ e => ?_) (EnvW.off (fun j hj => set_at hj) (offW_drp i Γ) (h.sublist List.filter_sublist))
  have hr' := List.mem_filter.mp hr
  have ne : i ≠ r.1 := fun z => by have := hr'.2; rw [← z] at this; simp at this
  show (σ.set i _)[r.1]? ≠ (σ.set i _)[i]?
  rw [List.getElem?_set_ne ne, List.getElem?_set_self hi]
  exact hn r hr'.1 e
end
theorem Ct.off_gx {c : Ct} {vs : List Nat} (h : c.off vs = true) : offW c.gxE vs = true := by
  unfold Ct.off at h
  rw [Bool.and_eq_true] at h
  exact h.1
section
variable {K : PySem.W.Frag} {c : Ct} {Γ : GE} {o : OO} {B F0 F D H F' D' H' : Hp} {σ σ' : St}
theorem DkAt.off {vs : List Nat} (d : DkAt c o σ) (h2 : c.off vs = true) (hs : ∀ j, vs.contains j = false → σ'[j]? = σ[j]?) : DkAt c o σ' := by
  unfold Ct.off at h2
  rw [Bool.and_eq_true] at h2
  have h2 := h2.2
  refine ⟨?_, d.2⟩
  have d := d.1
  cases q : c.dk with
  | none =>
    rw [q] at d
    obtain ⟨odk, otb⟩ := o
    cases odk with
    | none => trivial
    | some a => exact d.elim
  | some i =>
    rw [q] at d h2
    obtain ⟨odk, otb⟩ := o
    cases odk with
    | none => exact d.elim
    | some a =>
      show σ'[i]? = _
      rw [hs i (by simpa using h2)]
      exact d
theorem StW.setD (s : StW K c Γ o B F0 F D σ H) {i : Nat} {v : V} {d : PyData} (hi : i < c.n) (ho : c.off [i] = true) (q : Dq K F v d) : StW K c (setE i (.dat d) Γ) o B F0 F D (σ.set i (some v)) H :=
  ⟨by rw [List.length_set]; exact s.len, s.dek.off ho fun j hj => set_at hj, s.gb, s.env.setD (by rw [s.len]; exact hi) q, s.gx.off (fun j hj => set_at hj) (Ct.off_gx ho)⟩
theorem StW.setO (s : StW K c Γ o B F0 F D σ H) {i : Nat} {a : Addr} {vs : List V} {ds : List PyData} (hi : i < c.n) (ho : c.off [i] = true) (h1 : F a = none) (h2 : B a = none) (h3 : D a = some (.lst vs)) (q : DqAll K F vs ds) (hn : ∀ r ∈ Γ, r.2.isOwn = true → σ[r.1]? ≠ some (some (.ref a))) :
    StW K c (setE i (.own ds) Γ) o B F0 F D (σ.set i (some (.ref a))) H :=
  ⟨by rw [List.length_set]; exact s.len, s.dek.off ho fun j hj => set_at hj, s.gb, s.env.setO (by rw [s.len]; exact hi) h1 h2 h3 q hn, s.gx.off (fun j hj => set_at hj) (Ct.off_gx ho)⟩
/-- one's own lists are none that is new -/
theorem EnvW.apart (g : Grow o F D F' D' H') {p : Addr} (hp : D p = none) : ∀ {Γ : GE}, EnvW K B F D σ Γ → ∀ r ∈ Γ, r.2.isOwn = true → σ[r.1]? ≠ some (some (.ref p))
  | (j, .dat d) :: Γ, ⟨_, _, r⟩, q, hq, e => by
    rcases List.mem_cons.mp hq with rfl | hq
    · cases e
    · exact EnvW.apart g hp r q hq e
  | (j, .own ds) :: Γ, ⟨h, _, r⟩, q, hq, e => by
    rcases List.mem_cons.mp hq with rfl | hq
    · obtain ⟨a, vs, h1, h2, h3, h4, h5⟩ := h
      intro z
      have h1 : σ[j]? = some (some (.ref a)) := h1
      have z : σ[j]? = some (some (.ref p)) := z
      rw [h1] at z
      cases z
      rw [hp] at h4; cases h4
    · exact EnvW.apart g hp r q hq e
end

/-! blocks -/
inductive Fl (S R : Type) where
  | nx (s : S)
  | rt (d : PyData)
  | bk (r : R)
  | ct (r : R)
section
variable {S R : Type}
def EndW (K : PySem.W.Frag) (c : Ct) (G : S → GE) (GR : R → GE) (o : OO) (B F0 Fs : Hp) (E : Ends) : Fl S R → Prop
  | .nx s => ∀ σ F D H, Same Fs F → StW K c (G s) o B F0 F D σ H → E.nx σ H
  | .rt d => ∀ v F D H, Grow o F0 B F D H → Dq K F v d → E.rt v H
  | .bk r => ∀ σ F D H, Same Fs F → StW K c (GR r) o B F0 F D σ H → E.bk σ H
  | .ct r => ∀ σ F D H, Same Fs F → StW K c (GR r) o B F0 F D σ H → E.ct σ H
theorem EndW.up {K : PySem.W.Frag} {c : Ct} {G : S → GE} {GR : R → GE} {o : OO} {B F0 Fs F' : Hp} {E : Ends} (e : Same Fs F') : ∀ {fl : Fl S R}, EndW K c G GR o B F0 Fs E fl → EndW K c G GR o B F0 F' E fl
  | .nx _, z => fun σ F D H s => z σ F D H (e.trans s)
  | .rt _, z => z
  | .bk _, z => fun σ F D H s => z σ F D H (e.trans s)
  | .ct _, z => fun σ F D H s => z σ F D H (e.trans s)
def tBk (K : PySem.W.Frag) (mg : Str → Option Value) (c : Ct) (Γ : GE) (G : S → GE) (GR : R → GE) (w : M (Fl S R)) : TS := fun E σ H => ∃ o B F0 F D, StW K c Γ o B F0 F D σ H ∧ w (EndW K c G GR o B F0 F E) (XW K mg c o B F0)
structure PBk' (K : PySem.W.Frag) (X : Cx) (c : Ct) (Γ : GE) (sts : List Stmt) (G : S → GE) (GR : R → GE) (w : M (Fl S R)) : Prop where
  mo : Mono w
  ps : PSs X sts (tBk K X.mg c Γ G GR w)
variable {K : PySem.W.Frag} {X : Cx} {c : Ct} {Γ : GE} {G : S → GE} {GR : R → GE} {w : M (Fl S R)} {e a b : Expr} {es : List Expr} {t ta tb : M PyData} {ts : M (List PyData)} {pos p : Pos} {st : Stmt} {rest body orelse : List Stmt}
theorem pbk_end {s : S} (Sl : List Nat) (h : keepE Sl Γ = G s) : PBk' K X c Γ [] G GR (pureT (.nx s)) :=
  ⟨.pure, pss_imp pss_nil fun E σ H ⟨o, B, F0, F, D, st, z⟩ => z σ F D H (Same.refl _) (h ▸ st.sub List.filter_sublist)⟩
theorem pbk_brk {r : R} (Sl : List Nat) (h : keepE Sl Γ = GR r) : PBk' K X c Γ (.Break pos :: rest) G GR (pureT (.bk r)) :=
  ⟨.pure, pss_imp (pss_cons ps_break pss_never) fun E σ H ⟨o, B, F0, F, D, st, z⟩ => z σ F D H (Same.refl _) (h ▸ st.sub List.filter_sublist)⟩
theorem pbk_cnt {r : R} (Sl : List Nat) (h : keepE Sl Γ = GR r) : PBk' K X c Γ (.Continue pos :: rest) G GR (pureT (.ct r)) :=
  ⟨.pure, pss_imp (pss_cons ps_continue pss_never) fun E σ H ⟨o, B, F0, F, D, st, z⟩ => z σ F D H (Same.refl _) (h ▸ st.sub List.filter_sublist)⟩
theorem pbk_pass (h : PBk' K X c Γ rest G GR w) : PBk' K X c Γ (.Pass pos :: rest) G GR w := ⟨h.mo, pss_imp (pss_cons ps_pass h.ps) fun E σ H z => z⟩
theorem pbk_ret (h : PX K X c Γ e t) : PBk' K X c Γ (.Return (some e) pos :: rest) G GR (bindT t fun d => pureT (.rt d)) :=
  ⟨.bind h.mo fun _ => .pure, pss_imp (pss_cons (ps_ret h.pe) pss_never) fun E σ H ⟨o, B, F0, F, D, st, z⟩ => ⟨o, B, F0, F, D, st, h.mo.mono (fun d z1 v F' D' H' g q => z1 v F' D' H' (st.gb.trans g) q) (fun _ h => h) z⟩⟩
theorem pbk_retN : PBk' K X c Γ (.Return none pos :: rest) G GR (pureT (.rt .none)) :=
  ⟨.pure, pss_imp (pss_cons ps_retN pss_never) fun E σ H ⟨o, B, F0, F, D, st, z⟩ => z _ F D H st.gb .non⟩
theorem pbk_expr (h : PX K X c Γ e t) (g : PBk' K X c Γ rest G GR w) (hs : swapsWith e none pos.line X.env = pure false := by rfl) : PBk' K X c Γ (.Expr e pos :: rest) G GR (bindT t fun _ => w) :=
  ⟨.bind h.mo fun _ => g.mo, pss_imp (pss_cons (ps_expr h.pe hs) g.ps) fun E σ H ⟨o, B, F0, F, D, st, z⟩ => ⟨o, B, F0, F, D, st, h.mo.mono (fun d z1 v F' D' H' gr q => ⟨o, B, F0, F', D', st.grow gr, (g.mo).mono (fun _ q => q.up gr.ff) (fun _ h => h) z1⟩) (fun _ h => h) z⟩⟩
theorem pbk_doc {j} {x : Str} {pos'} (g : PBk' K X c Γ rest G GR w) : PBk' K X c Γ (.Expr (.Constant (.str x) j pos) pos' :: rest) G GR w := ⟨g.mo, pss_imp (pss_cons ps_doc g.ps) fun E σ H z => z⟩
/-- x = e -/
theorem pbk_set {i : Nat} {x : Str} {pos' : Pos} {w : PyData → M (Fl S R)} (nd : X.N.Nodup) (hi : X.N[i]? = some x) (hx : Loc X.env.scope x) (hin : i < c.n) (ho : c.off [i] = true) (h : PX K X c Γ e t) (g : ∀ d, PBk' K X c (setE i (.dat d) Γ) rest G GR (w d)) (hs : swapsWith e (some (.Name x pos')) pos.line X.env = pure false := by rfl) (hf : X.fn x = true ∨ X.env.scope.names.lookup x = some .local := by first | exact .inl rfl | exact .inr rfl | assumption) :
    PBk' K X c Γ (.Assign [.Name x pos'] e pos :: rest) G GR (bindT t w) := by
  refine ⟨.bind h.mo fun d => (g d).mo, pss_imp (pss_cons (ps_set nd hi hx h.pe hs hf) (pss_ex fun d => (g d).ps)) fun E σ H ⟨o, B, F0, F, D, st, z⟩ => ⟨o, B, F0, F, D, st, h.mo.mono (fun d z1 v F' D' H' gr q => ⟨d, o, B, F0, F', D', (st.grow gr).setD hin ho q, (g d).mo.mono (fun _ q => q.up gr.ff) (fun _ h => h) z1⟩) (fun _ h => h) z⟩⟩
/-- x = [..] on one line, x no cell: the value or one's own list -/
theorem pbk_setL {ι : Type} {dec : PyData → Option ι} {Δ : ι → GE} {it : M (List PyData)} {cc : ι → M Bool} {ee : ι → M PyData} {i : Nat} {y : Str} {py spos : Pos} {elt tg itx : Expr} {ifs : List Expr} {scope : Scope} {own : List (Str × Nat)} {g : TG} {w : List PyData → M (Fl S R)}
    (hc : X.calm = true) (nd : X.N.Nodup) (hy : X.N[i]? = some y) (hyl : X.env.scope.names.lookup y = some .local) (hin : i < c.n) (ho : c.off [i] = true) (hsw : swapsWith (.ListComp elt [⟨tg, itx, ifs, 0⟩] scope pos) (some (.Name y py)) spos.line X.env = pure true)
    (hi : PIt K X c Γ tg itx it) (ok : BlkOk X.N X.env.scope scope own) (hg : ∀ (s : Shared) (H : Hp) (C : Addr) (cl : List (Str × Addr)) (fp : List Addr), PG (X.blk s H scope (compEnvC scope cl C X.env) fp) tg g)
    (htg : TgW K c.n g (own.map (·.2)) dec Δ) (hoff : offW Γ (own.map (·.2)) = true) (hoc : c.off (own.map (·.2)) = true)
    (ht : ∀ i (s : Shared) (H : Hp) (C : Addr) (cl : List (Str × Addr)) (fp : List Addr), PXt K (X.blk s H scope (compEnvC scope cl C X.env) fp) c.nox (Γ ++ Δ i) ifs (cc i))
    (he : ∀ i (s : Shared) (H : Hp) (C : Addr) (cl : List (Str × Addr)) (fp : List Addr), PX K (X.blk s H scope (compEnvC scope cl C X.env) fp) c.nox (Γ ++ Δ i) elt (ee i))
    (gg : ∀ ds, PBk' K X c (setE i (.own ds) Γ) rest G GR (w ds)) (hs : ∀ x, foldedSetIterable itx X.env x = pure x := by intro _; rfl) :
    PBk' K X c Γ (.Assign [.Name y py] (.ListComp elt [⟨tg, itx, ifs, 0⟩] scope pos) spos :: rest) G GR (bindT (lcF it dec cc ee) w) := by
  have mc : ∀ i, Mono (cc i) := fun i => (ht i {} (fun _ => none) 0 [] []).mo
  have me : ∀ i, Mono (ee i) := fun i => (he i {} (fun _ => none) 0 [] []).mo
  refine ⟨.bind (mono_lcF hi.mo mc me) fun d => (gg d).mo, pss_imp (pss_cons (ps_setLc (wi := itW K X.mg c Γ it) (g := g) (tt := ttW K X.mg c Γ Δ cc) (te := teW K X.mg c Γ Δ ee) hc nd hy hyl hsw hi.pi ok hg
    (fun s H C cl fp => ⟨fun pins s' σ H' Q I ⟨i, q⟩ => (ht i s H C cl fp).pt.run pins s' σ H' Q I q⟩) (fun s H C cl fp => ⟨fun pins s' σ H' Q I ⟨i, q⟩ => (he i s H C cl fp).pe.run pins s' σ H' Q I q⟩) hs) (pss_ex fun d => (gg d).ps)) fun E σ H ⟨o, B, F0, F, D, st, z⟩ => ?_⟩
  unfold tSeq tAsg
  refine lc_readW hi.mo htg hoff hoc mc me st ((mono_lcF hi.mo mc me).mono (fun ds z1 p vs F' D' H' gr h1 h2 h3 h4 => ?_) (fun _ h => h) z)
  exact ⟨ds, o, B, F0, F', D', (st.grow gr).setO hin ho h1 (st.gb.dd.free h2) h3 h4 (st.env.apart gr h2), (gg ds).mo.mono (fun _ q => q.up gr.ff) (fun _ h => h) z1⟩
/-- x = a new list, one's own -/
theorem pbk_own {i : Nat} {x : Str} {pos' : Pos} {w : List PyData → M (Fl S R)} (nd : X.N.Nodup) (hi : X.N[i]? = some x) (hx : Loc X.env.scope x) (hin : i < c.n) (ho : c.off [i] = true) (h : PXf K X c Γ e ts) (g : ∀ ds, PBk' K X c (setE i (.own ds) Γ) rest G GR (w ds)) (hs : swapsWith e (some (.Name x pos')) pos.line X.env = pure false := by rfl) (hf : X.fn x = true ∨ X.env.scope.names.lookup x = some .local := by first | exact .inl rfl | exact .inr rfl | assumption) :
    PBk' K X c Γ (.Assign [.Name x pos'] e pos :: rest) G GR (bindT ts w) := by
  refine ⟨.bind h.mo fun d => (g d).mo, pss_imp (pss_cons (ps_set nd hi hx h.pe hs hf) (pss_ex fun d => (g d).ps)) fun E σ H ⟨o, B, F0, F, D, st, z⟩ => ⟨o, B, F0, F, D, st, h.mo.mono (fun ds z1 p vs F' D' H' gr h1 h2 h3 h4 => ?_) (fun _ h => h) z⟩⟩
  exact ⟨ds, o, B, F0, F', D', (st.grow gr).setO hin ho h1 (st.gb.dd.free h2) h3 h4 (st.env.apart gr h2), (g ds).mo.mono (fun _ q => q.up gr.ff) (fun _ h => h) z1⟩
/-- one's own list is one's own no more -/
theorem frz_env {B F D : Hp} {i : Nat} {σ : St} {a : Addr} {vs : List V} (h1 : σ[i]? = some (some (.ref a))) (h2 : F a = none) (h4 : D a = some (.lst vs)) : ∀ {Γ : GE}, EnvW K B F D σ Γ → (∀ r ∈ Γ, r.2.isOwn = true → r.1 ≠ i → σ[r.1]? ≠ some (some (.ref a))) → EnvW K B (upd F a (.lst vs)) D σ (frzE i Γ)
  | [], _, _ => trivial
  | (j, .dat d) :: Γ, ⟨⟨v, e1, e2⟩, n, r⟩, hn => ⟨⟨v, e1, e2.same (same_new h2)⟩, (fun z => by cases z), frz_env h1 h2 h4 r fun q hq => hn q (List.mem_cons_of_mem _ hq)⟩
  | (j, .own ds) :: Γ, ⟨⟨b, ws, e1, e2, e3, e4, e5⟩, n, r⟩, hn => by
    have keep : ∀ {Γ : GE}, EnvW K B F D σ Γ → (∀ r ∈ Γ, r.2.isOwn = true → σ[r.1]? ≠ some (some (.ref a))) → EnvW K B (upd F a (.lst vs)) D σ Γ := by
      intro Γ
      induction Γ with
      | nil => exact fun _ _ => trivial
      | cons q Γ ih =>
        intro ⟨h, n, r⟩ hq
        refine ⟨?_, n, ih r fun x hx => hq x (List.mem_cons_of_mem _ hx)⟩
        obtain ⟨k, c⟩ := q
        cases c with
        | dat d =>
          obtain ⟨v, y1, y2⟩ := h
          exact ⟨v, y1, y2.same (same_new h2)⟩
        | own es =>
          obtain ⟨b', ws', z1, z2, z3, z4, z5⟩ := h
          have : b' ≠ a := fun z => by subst z; exact hq (k, .own es) List.mem_cons_self rfl z1
          exact ⟨b', ws', z1, by rw [upd_ne this]; exact z2, z3, z4, z5.same (same_new h2)⟩
    unfold frzE
    by_cases q : i = j
    · subst q
      rw [if_pos rfl]
      rw [h1] at e1
      cases e1
      rw [h4] at e4
      cases e4
      refine ⟨⟨_, h1, .lst upd_same (e5.same (same_new h2))⟩, (fun z => by cases z), keep r fun x hx ex => ?_⟩
      have := n rfl x hx ex
      have h1' : σ[(i, Cell.own ds).1]? = some (some (.ref a)) := h1
      rw [h1'] at this
      exact this
    · rw [if_neg q]
      have ne : b ≠ a := fun z => by subst z; exact hn (j, .own ds) List.mem_cons_self rfl (fun z => q z.symm) e1
      refine ⟨⟨b, ws, e1, by rw [upd_ne ne]; exact e2, e3, e4, e5.same (same_new h2)⟩, fun _ r' hr' er' => ?_, frz_env h1 h2 h4 r fun q hq => hn q (List.mem_cons_of_mem _ hq)⟩
      have mem : ∀ {Γ : GE}, r' ∈ frzE i Γ → r'.2.isOwn = true → r' ∈ Γ := by
        intro Γ
        induction Γ with
        | nil => exact fun h _ => h
        | cons y ys ih =>
          intro h eo
          obtain ⟨m, cm⟩ := y
          cases cm with
          | dat dd =>
            rcases List.mem_cons.mp h with rfl | h
            · exact List.mem_cons_self
            · exact List.mem_cons_of_mem _ (ih h eo)
          | own dd =>
            unfold frzE at h
            split at h
            · rcases List.mem_cons.mp h with rfl | h
              · cases eo
              · exact List.mem_cons_of_mem _ h
            · rcases List.mem_cons.mp h with rfl | h
              · exact List.mem_cons_self
              · exact List.mem_cons_of_mem _ (ih h eo)
      exact n rfl r' (mem hr' er') er'
theorem envw_uniq {B F D : Hp} {i : Nat} {σ : St} {a : Addr} {ds : List PyData} (h1 : σ[i]? = some (some (.ref a))) : ∀ {Γ : GE}, EnvW K B F D σ Γ → Γ.lookup i = some (.own ds) → ∀ r ∈ Γ, r.2.isOwn = true → r.1 ≠ i → σ[r.1]? ≠ some (some (.ref a))
  | (j, x) :: Γ, ⟨h, n, r⟩, e, q, hq, eo, ne => by
    rw [List.lookup_cons] at e
    cases z : i == j with
    | true =>
      rw [z] at e
      cases e
      have : i = j := by simpa using z
      subst this
      rcases List.mem_cons.mp hq with rfl | hq
      · exact absurd rfl ne
      · have := n rfl q hq eo
        have h1' : σ[(i, Cell.own ds).1]? = some (some (.ref a)) := h1
        rw [h1'] at this
        exact this
    | false =>
      rw [z] at e
      rcases List.mem_cons.mp hq with rfl | hq
      · intro zz
        have mem : (i, Cell.own ds) ∈ Γ := by
          have key : ∀ {Γ : GE}, Γ.lookup i = some (.own ds) → (i, Cell.own ds) ∈ Γ := by
            intro Γ
            induction Γ with
            | nil => exact fun h => by cases h
            | cons y ys ih =>
              intro h
              obtain ⟨m, cm⟩ := y
              rw [List.lookup_cons] at h
              cases q : i == m with
              | true => rw [q] at h; cases h; have : i = m := by simpa using q
                        subst this; exact List.mem_cons_self
              | false => rw [q] at h; exact List.mem_cons_of_mem _ (ih h)
          exact key e
        have := n eo _ mem rfl
        rw [zz] at this
        exact this h1
      · exact envw_uniq h1 r e q hq eo ne
theorem StW.frz {o : OO} {B F0 F D : Hp} {σ : St} {H : Hp} (s : StW K c Γ o B F0 F D σ H) {i : Nat} {ds : List PyData} (hl : Γ.lookup i = some (.own ds)) : ∃ F', Same F F' ∧ StW K c (frzE i Γ) o B F0 F' D σ H := by
  obtain ⟨a, vs, h1, h2, h3, h4, h5⟩ := s.env.getO hl
  have gz : Grow o F0 B (upd F a (.lst vs)) D H := s.gb.frz h2 h3 h4
  refine ⟨upd F a (.lst vs), same_new h2, s.len, s.dek, gz, frz_env h1 h2 h4 s.env (envw_uniq h1 s.env hl), ?_⟩
  have key : ∀ l : List (Nat × PyData), EnvW K B F D σ (l.map fun q => (q.1, .dat q.2)) → EnvW K B (upd F a (.lst vs)) D σ (l.map fun q => (q.1, .dat q.2)) := by
    intro l
    induction l with
    | nil => exact fun _ => trivial
    | cons q l ih => exact fun ⟨⟨v, e1, e2⟩, n, r⟩ => ⟨⟨v, e1, e2.same (same_new h2)⟩, (fun z => by cases z), ih r⟩
  exact key _ s.gx
theorem pbk_frz {i : Nat} {ds : List PyData} (hl : Γ.lookup i = some (.own ds)) (h : PBk' K X c (frzE i Γ) rest G GR w) : PBk' K X c Γ rest G GR w :=
  ⟨h.mo, pss_imp h.ps fun E σ H ⟨o, B, F0, F, D, st, z⟩ => let ⟨F', e, s'⟩ := st.frz hl; ⟨o, B, F0, F', D, s', h.mo.mono (fun _ q => q.up e) (fun _ h => h) z⟩⟩
theorem pbk_keep (Sl : List Nat) (h : PBk' K X c (keepE Sl Γ) rest G GR w) : PBk' K X c Γ rest G GR w :=
  ⟨h.mo, pss_imp h.ps fun E σ H ⟨o, B, F0, F, D, st, z⟩ => ⟨o, B, F0, F, D, st.sub List.filter_sublist, z⟩⟩
theorem PBk'.castG {Δ : GE} (h : PBk' K X c Δ rest G GR w) (q : Γ = Δ) : PBk' K X c Γ rest G GR w := q ▸ h
theorem PBk'.cast {w' : M (Fl S R)} (h : PBk' K X c Γ rest G GR w) (q : w = w') : PBk' K X c Γ rest G GR w' := q ▸ h
/-- if c: body (that never leads on), and then the rest -/
def ifR {α : Type} (u : M Bool) (t t' : M α) : M α := bindT u fun b => if b = true then t else t'
theorem pbk_ifret {cnd : Expr} {u : M Bool} {w1 : M (Fl Empty R)} (h : PXb K X c Γ cnd u) (h1 : PBk' K X c Γ body (fun x : Empty => nomatch x) GR w1) (h2 : PBk' K X c Γ rest G GR w) :
    PBk' K X c Γ (.If cnd body [] pos :: rest) G GR (ifR u (bindT w1 fun fl => match fl with | .nx s => nomatch s | .rt d => pureT (.rt d) | .bk r => pureT (.bk r) | .ct r => pureT (.ct r)) w) := by
  have m1 : Mono (bindT w1 fun fl : Fl Empty R => match fl with | .nx s => nomatch s | .rt d => (pureT (.rt d) : M (Fl S R)) | .bk r => pureT (.bk r) | .ct r => pureT (.ct r)) := .bind h1.mo fun fl => by
    cases fl with
    | nx s => exact nomatch s
    | rt d => exact .pure
    | bk r => exact .pure
    | ct r => exact .pure
  refine ⟨.bind h.mo fun b => .ite m1 h2.mo, pss_imp (pss_cons (ps_if h.pt h1.ps pss_nil) h2.ps) fun E σ H ⟨o, B, F0, F, D, st, z⟩ => ⟨o, B, F0, F, D, st, h.mo.mono (fun b z1 F' D' H' g => ?_) (fun _ h => h) z⟩⟩
  cases b with
  | true =>
    refine iteT ⟨o, B, F0, F', D', st.grow g, h1.mo.mono (fun fl z2 => ?_) (fun _ h => h) z1⟩
    cases fl with
    | nx s => exact nomatch s
    | rt d => exact z2
    | bk r => exact EndW.up (fl := .bk r) g.ff z2
    | ct r => exact EndW.up (fl := .ct r) g.ff z2
  | false => exact iteF ⟨o, B, F0, F', D', st.grow g, h2.mo.mono (fun _ q => q.up g.ff) (fun _ h => h) z1⟩
/-- the way on from a block whose state is of S' -/
def goFl {S' : Type} (w1 : M (Fl S' R)) (w2 : S' → M (Fl S R)) : M (Fl S R) := bindT w1 fun fl => match fl with
  | .nx s => w2 s
  | .rt d => pureT (.rt d)
  | .bk r => pureT (.bk r)
  | .ct r => pureT (.ct r)
theorem Mono.goFl {S' : Type} {w1 : M (Fl S' R)} {w2 : S' → M (Fl S R)} (h : Mono w1) (g : ∀ s, Mono (w2 s)) : Mono (goFl w1 w2) := .bind h fun fl => by
  cases fl with
  | nx s => exact g s
  | rt d => exact .pure
  | bk r => exact .pure
  | ct r => exact .pure
theorem pbk_if {S' : Type} {G' : S' → GE} {cnd : Expr} {u : M Bool} {w1 w2 : M (Fl S' R)} {w3 : S' → M (Fl S R)} (h : PXb K X c Γ cnd u) (h1 : PBk' K X c Γ body G' GR w1) (h2 : PBk' K X c Γ orelse G' GR w2) (h3 : ∀ s, PBk' K X c (G' s) rest G GR (w3 s)) :
    PBk' K X c Γ (.If cnd body orelse pos :: rest) G GR (goFl (ifR u w1 w2) w3) := by
  have mi : Mono (ifR u w1 w2) := .bind h.mo fun b => .ite h1.mo h2.mo
  refine ⟨mi.goFl fun s => (h3 s).mo, pss_imp (pss_cons (ps_if h.pt h1.ps h2.ps) (pss_ex fun s => (h3 s).ps)) fun E σ H ⟨o, B, F0, F, D, st, z⟩ => ⟨o, B, F0, F, D, st, h.mo.mono (fun b z1 F' D' H' g => ?_) (fun _ h => h) z⟩⟩
  cases b with
  | true =>
    refine iteT ⟨o, B, F0, F', D', st.grow g, h1.mo.mono (fun fl z2 => ?_) (fun _ h => h) z1⟩
    cases fl with
    | nx s => exact fun σ F D H e s' => ⟨s, o, B, F0, F, D, s', (h3 s).mo.mono (fun _ q => q.up (g.ff.trans e)) (fun _ h => h) z2⟩
    | rt d => exact z2
    | bk r => exact EndW.up (fl := .bk r) g.ff z2
    | ct r => exact EndW.up (fl := .ct r) g.ff z2
  | false =>
    refine iteF ⟨o, B, F0, F', D', st.grow g, h2.mo.mono (fun fl z2 => ?_) (fun _ h => h) z1⟩
    cases fl with
    | nx s => exact fun σ F D H e s' => ⟨s, o, B, F0, F, D, s', (h3 s).mo.mono (fun _ q => q.up (g.ff.trans e)) (fun _ h => h) z2⟩
    | rt d => exact z2
    | bk r => exact EndW.up (fl := .bk r) g.ff z2
    | ct r => exact EndW.up (fl := .ct r) g.ff z2

/-! loops -/
def forM' {ι L : Type} (dec : PyData → Option ι) (bd : ι → L → M (Fl L L)) : List PyData → L → M (L ⊕ PyData)
  | [], s => pureT (.inl s)
  | x :: xs, s => match dec x with
    | none => failT
    | some i => bindT (bd i s) fun fl => match fl with
      | .nx s' => forM' dec bd xs s'
      | .ct s' => forM' dec bd xs s'
      | .bk s' => pureT (.inl s')
      | .rt d => pureT (.inr d)
theorem mono_forM {ι L : Type} {dec : PyData → Option ι} {bd : ι → L → M (Fl L L)} (h : ∀ i s, Mono (bd i s)) : ∀ xs s, Mono (forM' dec bd xs s)
  | [], s => .pure
  | x :: xs, s => by
    unfold forM'
    split
    · exact .fail
    · refine .bind (h _ _) fun fl => ?_
      cases fl with
      | nx s' => exact mono_forM h xs s'
      | ct s' => exact mono_forM h xs s'
      | bk s' => exact .pure
      | rt d => exact .pure
/-- behind a loop -/
def onL {L : Type} (t : M (L ⊕ PyData)) (w : L → M (Fl S R)) : M (Fl S R) := bindT t fun r => match r with
  | .inl s => w s
  | .inr d => pureT (.rt d)
theorem Mono.onL {L : Type} {t : M (L ⊕ PyData)} {w : L → M (Fl S R)} (h : Mono t) (g : ∀ s, Mono (w s)) : Mono (onL t w) := .bind h fun r => by
  cases r with
  | inl s => exact g s
  | inr d => exact .pure
def ForI (K : PySem.W.Frag) (c : Ct) {ι L : Type} (GL : L → GE) (dec : PyData → Option ι) (bd : ι → L → M (Fl L L)) (o : OO) (B F0 F1 : Hp) (k : Fl S R → Prop) (xk : Exn → Prop) (w : L → M (Fl S R)) (xs : List PyData) (i : Nat) (σ : St) (H : Hp) : Prop :=
  ∃ s F' D', Same F1 F' ∧ StW K c (GL s) o B F0 F' D' σ H ∧ forM' dec bd (xs.drop i) s (fun r => match r with | .inl s => w s k xk | .inr d => k (.rt d)) xk
theorem pbk_for {ι L : Type} {dec : PyData → Option ι} {Δ : ι → GE} {GL : L → GE} {s0 : L} {it : M (List PyData)} {bd : ι → L → M (Fl L L)} {w : L → M (Fl S R)} {tg itx : Expr} {g : TG} {vs : List Nat} (Sl : List Nat)
    (hp : PassesOwn (model X.prog X.w) X.A X.env X.xe) (hc : X.calm = true) (hi : PItF K X c Γ tg itx it) (hg : PG X tg g) (htg : TgW K c.n g vs dec Δ) (hG : keepE Sl Γ = GL s0) (hoff : ∀ s, offW (GL s) vs = true) (hoc : c.off vs = true)
    (hb : ∀ i s, PBk' K X c (GL s ++ Δ i) body GL GL (bd i s)) (hr : ∀ s, PBk' K X c (GL s) rest G GR (w s)) (hs : ∀ x, foldedSetIterable itx X.env x = pure x := by intro _; rfl) :
    PBk' K X c Γ (.For tg itx body [] pos :: rest) G GR (onL (bindT it fun xs => forM' dec bd xs s0) w) := by
  have mb : ∀ i s, Mono (bd i s) := fun i s => (hb i s).mo
  have mf := mono_forM (dec := dec) mb
  refine ⟨.onL (.bind hi.mo fun xs => mf xs s0) fun s => (hr s).mo, ?_⟩
  refine pss_imp (pss_cons (ps_for hp hc hi.pi hg (show PSs X body (fun E σ H => ∃ i s, tBk K X.mg c (GL s ++ Δ i) GL GL (bd i s) E σ H) from pss_ex fun i => pss_ex fun s => (hb i s).ps) hs) (pss_ex fun s => (hr s).ps)) fun E σ H ⟨o, B, F0, F, D, st, z⟩ => ?_
  refine ⟨o, B, F0, F, D, st, hi.mo.mono (fun xs z1 J F1 D1 H1 g1 wk => ?_) (fun _ h => h) z⟩
  have s1 : StW K c (GL s0) o B F0 F1 D1 σ H1 := hG ▸ ((st.grow g1).sub List.filter_sublist)
  refine for_it (g := g) (tb := fun E σ H => ∃ i s, tBk K X.mg c (GL s ++ Δ i) GL GL (bd i s) E σ H) wk
    (ForI K c GL dec bd o B F0 F1 (EndW K c G GR o B F0 F E) (XW K X.mg c o B F0) w xs)
    ⟨s0, F1, D1, Same.refl _, s1, (mf xs s0).mono (fun r q => by cases r with | inl s => exact q | inr d => exact q) (fun _ h => h) z1⟩ (fun i σ' H' _ ⟨s, F', D', e, s', _⟩ => e.trans s'.lay.fh) ?_ ?_
  · rintro i x σ2 H2 H3 hi2 ⟨s, F2, D2, e2, s2, q⟩ ⟨s3, d, hd, yd⟩
    obtain ⟨Fx, x1, x2, x3, x4⟩ := yd F2 e2 s2.lay.fh
    have gx := YW.grow s2.lay s3 x1 x2 x3
    rw [lc_drop hd] at q
    unfold forM' at q
    cases hdec : dec d with
    | none => rw [hdec] at q; exact q.elim
    | some j =>
      rw [hdec] at q
      refine htg.run x σ2 Fx H3 d j _ s2.len x2 x4 hdec fun σ3 _ l3 o3 e5 => ?_
      have st3 : StW K c (GL s ++ Δ j) o B F0 Fx (orH D2 Fx) σ3 H3 := (((s2.grow gx).off l3 o3 (hoff s) hoc)).app (htg.noo j) (e5 B _)
      refine ⟨j, s, o, B, F0, Fx, orH D2 Fx, st3, (mb j s).mono (fun fl z2 => ?_) (fun _ h => h) q⟩
      cases fl with
      | nx s' => exact fun σ F' D' H' e s5 => ⟨s', F', D', (e2.trans x1).trans e, s5, z2⟩
      | ct s' => exact fun σ F' D' H' e s5 => ⟨s', F', D', (e2.trans x1).trans e, s5, z2⟩
      | bk s' => exact fun σ F' D' H' e s5 => ⟨s', o, B, F0, F', D', s5, (hr s').mo.mono (fun _ q => q.up (((g1.ff.trans e2).trans x1).trans e)) (fun _ h => h) z2⟩
      | rt d => exact z2
  · rintro σ2 H2 ⟨s, F2, D2, e2, s2, q⟩
    rw [List.drop_length] at q
    exact ⟨s, o, B, F0, F2, D2, s2, (hr s).mo.mono (fun _ q => q.up (g1.ff.trans e2)) (fun _ h => h) q⟩
end
end Nk
set_option Elab.async false
set_option linter.all false
set_option maxRecDepth 100000
set_option maxHeartbeats 4000000
namespace Nk
open PySem L2
section
variable {K : PySem.W.Frag} {X : Cx} {c : Ct} {Γ : GE} {e a b : Expr} {es : List Expr} {t ta tb : M PyData} {ts : M (List PyData)} {pos p : Pos}
/-! one's own lists -/
theorem EnvW.mutD {B F D : Hp} {σ : St} {A : Addr} {u : HO} : ∀ {Γ : GE}, EnvW K B F D σ Γ → (∀ r ∈ Γ, r.2.isOwn = true → σ[r.1]? ≠ some (some (.ref A))) → EnvW K B F (upd D A u) σ Γ
  | [], _, _ => trivial
  | (j, .dat d) :: Γ, ⟨h, n, r⟩, hn => ⟨h, n, EnvW.mutD r fun q hq => hn q (List.mem_cons_of_mem _ hq)⟩
  | (j, .own ds) :: Γ, ⟨⟨b, ws, e1, e2, e3, e4, e5⟩, n, r⟩, hn => by
    have ne : b ≠ A := fun z => by subst z; exact hn (j, .own ds) List.mem_cons_self rfl e1
    exact ⟨⟨b, ws, e1, e2, e3, by rw [upd_ne ne]; exact e4, e5⟩, n, EnvW.mutD r fun q hq => hn q (List.mem_cons_of_mem _ hq)⟩
theorem EnvW.mutG {B F D : Hp} {σ : St} {A : Addr} {u : HO} (l : List (Nat × PyData)) : EnvW K B F D σ (l.map fun q => (q.1, .dat q.2)) → EnvW K B F (upd D A u) σ (l.map fun q => (q.1, .dat q.2)) := by
  induction l with
  | nil => exact fun _ => trivial
  | cons q l ih => exact fun ⟨h, n, r⟩ => ⟨h, n, ih r⟩
theorem StW.mut {o : OO} {B F0 F D : Hp} {σ : St} {H : Hp} (s : StW K c Γ o B F0 F D σ H) {i : Nat} {ds es : List PyData} (hl : Γ.lookup i = some (.own ds)) : ∃ a vs, σ[i]? = some (some (.ref a)) ∧ D a = some (.lst vs) ∧ DqAll K F vs ds ∧
    ∀ {F' D' H' : Hp} {ws : List V}, Grow o F D F' D' H' → DqAll K F' ws es → StW K c (setE i (.own es) Γ) o B F0 F' (upd D' a (.lst ws)) σ (upd H' a (.lst ws)) := by
  obtain ⟨a, vs, h1, h2, h3, h4, h5⟩ := s.env.getO hl
  refine ⟨a, vs, h1, h4, h5, fun {F' D' H' ws} g hd => ?_⟩
  have s' := s.grow g
  have h2' : F' a = none := by
    cases q : F' a with
    | none => rfl
    | some x =>
      have := g.fresh a x q h2
      rw [h4] at this; cases this
  have h4' := g.dd _ _ h4
  refine ⟨s'.len, s'.dek, ⟨s'.gb.ff, fun p x e => ?_, s'.gb.fresh, s'.lay.put h4' h2'⟩, ?_, EnvW.mutG _ s'.gx⟩
  · rw [upd_ne (fun z => by subst z; rw [h3] at e; cases e)]
    exact s'.gb.dd _ _ e
  · have hr : ∀ r ∈ drpE i Γ, r.2.isOwn = true → σ[r.1]? ≠ some (some (.ref a)) := fun r hr eo => by
      have hr' := List.mem_filter.mp hr
      exact envw_uniq h1 s.env hl r hr'.1 eo (fun z => by have := hr'.2; rw [z] at this; simp at this)
    refine EnvW.perm (q := (i, .own es)) ⟨a, ws, h1, h2', h3, upd_same, hd⟩ (fun r hr' _ eo => ?_) (EnvW.mutD (s'.env.sublist List.filter_sublist) hr)
    show σ[r.1]? ≠ σ[i]?
    rw [h1]
    exact hr r hr' eo
section
variable {S R : Type} {G : S → GE} {GR : R → GE} {w : M (Fl S R)} {st : Stmt} {rest body orelse : List Stmt}
/-- x.append(e) -/
theorem pbk_app {i : Nat} {x : Str} {px apos cpos epos : Pos} {ds : List PyData} {w : PyData → M (Fl S R)} (hi : X.N[i]? = some x) (hv : Vis X.env.scope x) (hl : Γ.lookup i = some (.own ds)) (h : PX K X c Γ e t) (g : ∀ d, PBk' K X c (setE i (.own (ds ++ [d])) Γ) rest G GR (w d)) (hd : (x == ("__debug__" : Str)) = false := by decide) (hcd : (x == ("__classdict__" : Str)) = false := by decide)
    (hbase : attributeBase (.Name x px) "append" X.env (eval (.Name x px) X.env) = eval (.Name x px) X.env := by rfl)
    (hfew : ((backTo cpos (starEach [e] X.env)).all (fun x => !x.1) && (backToKw cpos (keywordEach [] X.env)).all (fun x => x.1.isSome)
      && decide (([e] : List Expr).length + ([] : List Keyword).length + (if ([] : List Keyword).isEmpty then 0 else 1) < 30)) = true := by rfl)
    (hline : (apos.endLine == cpos.line) = true := by rfl) (hs : starEach [e] X.env = (false, eval e X.env) :: starEach [] X.env := by rfl) (hplain : (backTo cpos (starEach [] X.env)).any (·.1) = false := by rfl)
    (hsw : swapsWith (.Call (.Attribute (.Name x px) "append" apos) [e] [] cpos) none epos.line X.env = pure false := by rfl) :
    PBk' K X c Γ (.Expr (.Call (.Attribute (.Name x px) "append" apos) [e] [] cpos) epos :: rest) G GR (bindT t fun d => guardT (ds.length < sizeLine) (w d)) := by
  have hK := h.hK
  subst hK
  refine ⟨.bind h.mo fun d => .guard (g d).mo, pss_imp (pss_cons (ps_expr (pe_bm PySem.F.plainAttrs_list PySem.F.slot_list_append PySem.F.type_list_append mt_append (pe_var hi hv hd hcd) (pa_cons h.pe pa_nil hs) hbase hfew hline hs hplain) hsw) (pss_ex fun d => (g d).ps)) fun E σ H ⟨o, B, F0, F, D, st, z⟩ => ?_⟩
  obtain ⟨a, vs, h1, h4, h5, k⟩ := st.mut (es := ds) hl
  refine ⟨.ref a, h1, .inl ⟨rfl, _, SqL.of (st.lay.sub _ _ h4)⟩, o, B, F0, F, D, st, h.mo.mono (fun d z1 v F' D' H' gr q => ?_) (fun _ h => h) z⟩
  obtain ⟨a', vs', h1', h4', h5', k'⟩ := st.mut (es := ds ++ [d]) hl
  rw [h1] at h1'
  cases h1'
  rw [h4] at h4'
  cases h4'
  refine ⟨a, vs, v, rfl, rfl, gr.lay.sub _ _ (gr.dd _ _ h4), by rw [h5.length]; exact z1.1, ?_⟩
  exact ⟨d, o, B, F0, F', _, k' gr ((h5.same gr.ff).append (.cons q .nil)), (g d).mo.mono (fun _ q => q.up gr.ff) (fun _ h => h) z1.2⟩
/-- x[j] = e -/
def setAt (ds : List PyData) (j : PyData) (d : PyData) : M (List PyData) := match j with
  | .int i => match ixN ds.length i with
    | some m => pureT (ds.set m d)
    | none => failT
  | _ => failT
theorem mono_setAt (ds : List PyData) (j d : PyData) : Mono (setAt ds j d) := by
  unfold setAt
  split
  · split <;> first | exact .pure | exact .fail
  · exact .fail
theorem pbk_item {i : Nat} {x : Str} {px ppos : Pos} {ix : Expr} {u : M PyData} {ds : List PyData} {w : List PyData → M (Fl S R)} (hi : X.N[i]? = some x) (hv : Vis X.env.scope x) (hl : Γ.lookup i = some (.own ds)) (h : PX K X c Γ e t) (g : PX K X c Γ ix u) (k : ∀ ds', PBk' K X c (setE i (.own ds') Γ) rest G GR (w ds'))
    (hd : (x == ("__debug__" : Str)) = false := by decide) (hcd : (x == ("__classdict__" : Str)) = false := by decide)
    (hs : swapsWithSole [.Subscript (.Name x px) ix ppos] e pos.line X.env = pure false := by rfl) (hw : swappedStores [.Subscript (.Name x px) ix ppos] e X.env = pure none := by rfl) (h1 : (assignEach [.Subscript (.Name x px) ix ppos] X.env).map (·.2) = [assign (.Subscript (.Name x px) ix ppos) X.env] := by rfl)
    (ha : ∀ v, assign (.Subscript (.Name x px) ix ppos) X.env v = (do
      let ov ← holding [v] (eval (.Name x px) X.env)
      let iv ← holding [v, ov] (eval ix X.env)
      standAt ppos
      holding [v, ov, iv] (setItem ov iv v)
      release [v, ov, iv] []) := by intro _; rfl) : PBk' K X c Γ (.Assign [.Subscript (.Name x px) ix ppos] e pos :: rest) G GR (bindT t fun d => bindT u fun j => bindT (setAt ds j d) w) := by
  have hK := h.hK
  subst hK
  refine ⟨.bind h.mo fun d => .bind g.mo fun j => .bind (mono_setAt _ _ _) fun _ => (k _).mo, pss_imp (pss_cons (ps_asg h.pe (pg_sub (pe_var hi hv hd hcd) g.pe set_list ha) hs hw h1) (pss_ex fun d => (k d).ps)) fun E σ H ⟨o, B, F0, F, D, st, z⟩ => ?_⟩
  refine ⟨o, B, F0, F, D, st, h.mo.mono (fun d z1 v F1 D1 H1 g1 q1 => ?_) (fun _ h => h) z⟩
  obtain ⟨a, vs, y1, y4, y5, _⟩ := st.mut (es := ds) hl
  refine ⟨.ref a, y1, o, B, F0, F1, D1, st.grow g1, g.mo.mono (fun j z2 jv F2 D2 H2 g2 q2 => ?_) (fun _ h => h) z1⟩
  unfold setAt at z2
  cases q2 with
  | int m =>
    have z2 : (match ixN ds.length m with | some m => (pureT (ds.set m d) : M (List PyData)) | none => failT) (fun a => w a (EndW X.K c G GR o B F0 F E) (XW X.K X.mg c o B F0)) (XW X.K X.mg c o B F0) := z2
    cases hm : ixN ds.length m with
    | none => rw [hm] at z2; exact z2.elim
    | some m' =>
      rw [hm] at z2
      have g12 := g1.trans g2
      obtain ⟨a', vs', h1', h4', h5', k'⟩ := st.mut (es := ds.set m' d) hl
      rw [y1] at h1'
      cases h1'
      rw [y4] at h4'
      cases h4'
      refine ⟨a, vs, m, m', rfl, rfl, g12.lay.sub _ _ (g12.dd _ _ y4), by rw [y5.length]; exact hm, ?_⟩
      exact ⟨ds.set m' d, o, B, F0, F2, _, k' g12 (DqAll.set (q1.same g2.ff) (y5.same g12.ff)), (k _).mo.mono (fun _ q => q.up g12.ff) (fun _ h => h) z2⟩
  | _ => exact False.elim z2
end
/-! reading one's own list within an expression: as if it were one's own no more, and what comes of it holds no list -/
mutual
theorem Dq.delN {H : Hp} {C : Addr} {xs : List V} (hC : H C = some (.lst xs)) : ∀ {v : V} {d : PyData}, noL d = true → Dq K H v d → Dq K (fun b => if b = C then none else H b) v d
  | _, _, _, .non => .non
  | _, _, _, .bl b => .bl b
  | _, _, _, .int i => .int i
  | _, _, _, .str x => .str x
  | _, _, c, .lst _ _ => by simp [noL] at c
  | _, _, c, .tup h t => .tup (by rw [if_neg (ne_of h hC (by intro z; cases z))]; exact h) (DqAll.delN hC (by simpa [noL] using c) t)
  | _, _, _, .dnil h => .dnil (by rw [if_neg (ne_of h hC (by intro z; cases z))]; exact h)
theorem DqAll.delN {H : Hp} {C : Addr} {xs : List V} (hC : H C = some (.lst xs)) : ∀ {vs : List V} {ds : List PyData}, noLs ds = true → DqAll K H vs ds → DqAll K (fun b => if b = C then none else H b) vs ds
  | _, _, _, .nil => .nil
  | _, _, c, .cons h t => by
    have c' := by simpa [noLs] using c
    exact .cons (Dq.delN hC c'.1 h) (DqAll.delN hC c'.2 t)
end
theorem thaw_grow {o : OO} {F D F' D' H' : Hp} {a : Addr} {u : HO} (hF : F a = none) (g : Grow o (upd F a u) D F' D' H') : Grow o F D (fun b => if b = a then none else F' b) D' H' :=
  ⟨fun p x e => by
    have ne : p ≠ a := fun z => by subst z; rw [hF] at e; cases e
    show (if p = a then none else F' p) = some x
    rw [if_neg ne]
    exact g.ff _ _ (by rw [upd_ne ne]; exact e), g.dd, fun p x e e' => by
    have e : (if p = a then none else F' p) = some x := e
    by_cases z : p = a
    · rw [if_pos z] at e; cases e
    · rw [if_neg z] at e
      exact g.fresh p x e (by rw [upd_ne z]; exact e'), ⟨fun p x e => by
    have e : (if p = a then none else F' p) = some x := e
    by_cases z : p = a
    · rw [if_pos z] at e; cases e
    · rw [if_neg z] at e
      exact g.lay.fd _ _ e, g.lay.sub, g.lay.dk, g.lay.tb⟩⟩
def pickO (Γ : GE) (i : Nat) : Option (List PyData) := match Γ.lookup i with
  | some (.own ds) => some ds
  | _ => none
theorem frz_at {o : OO} {B F0 F D : Hp} {σ : St} {H : Hp} (s : StW K c Γ o B F0 F D σ H) {i : Nat} {ds : List PyData} (hl : Γ.lookup i = some (.own ds)) : ∃ a vs, F a = none ∧ D a = some (.lst vs) ∧ StW K c (frzE i Γ) o B F0 (upd F a (.lst vs)) D σ H := by
  obtain ⟨a, vs, h1, h2, h3, h4, h5⟩ := s.env.getO hl
  have gz : Grow o F0 B (upd F a (.lst vs)) D H := s.gb.frz h2 h3 h4
  refine ⟨a, vs, h2, h4, s.len, s.dek, gz, frz_env h1 h2 h4 s.env (envw_uniq h1 s.env hl), ?_⟩
  have key : ∀ l : List (Nat × PyData), EnvW K B F D σ (l.map fun q => (q.1, .dat q.2)) → EnvW K B (upd F a (.lst vs)) D σ (l.map fun q => (q.1, .dat q.2)) := by
    intro l
    induction l with
    | nil => exact fun _ => trivial
    | cons q l ih => exact fun ⟨⟨v, e1, e2⟩, n, r⟩ => ⟨⟨v, e1, e2.same (same_new h2)⟩, (fun z => by cases z), ih r⟩
  exact key _ s.gx
/-- what is raised within: nothing -/
def thawT (t : M PyData) : M PyData := bindT (noxT t) fun d => guardT (noL d = true) (pureT d)
theorem px_thaw {i : Nat} {ds : List PyData} (hl : Γ.lookup i = some (.own ds)) (h : PX K X c (frzE i Γ) e t) : PX K X c Γ e (thawT t) :=
  ⟨h.hK, .bind (.nox h.mo) fun _ => .guard .pure, pe_imp h.pe fun σ H Q ⟨o, B, F0, F, D, s, z⟩ => by
    obtain ⟨a, vs, h2, h4, s'⟩ := frz_at s hl
    refine ⟨o, B, F0, _, D, s', h.mo.mono (fun d z1 v F' D' H' g q => ?_) (fun _ h => h.elim) z⟩
    have fa : F' a = some (.lst vs) := g.ff _ _ upd_same
    exact z1.2 v _ D' H' (thaw_grow h2 g) (Dq.delN fa z1.1 q)⟩
theorem pxb_thaw {i : Nat} {ds : List PyData} {t : M Bool} (hl : Γ.lookup i = some (.own ds)) (h : PXb K X c (frzE i Γ) e t) : PXb K X c Γ e (noxT t) :=
  ⟨h.hK, .nox h.mo, pt_imp h.pt fun σ H Q ⟨o, B, F0, F, D, s, z⟩ => by
    obtain ⟨a, vs, h2, h4, s'⟩ := frz_at s hl
    exact ⟨o, B, F0, _, D, s', h.mo.mono (fun d z1 F' D' H' g => z1 _ D' H' (thaw_grow h2 g)) (fun _ h => h.elim) z⟩⟩
/-- xs[j], xs one's own: an item -/
def ixL (ds : List PyData) (j : PyData) : M PyData := match j with
  | .int i => match atI ds i with
    | some d => pureT d
    | none => failT
  | _ => failT
theorem mono_ixL (ds : List PyData) (j : PyData) : Mono (ixL ds j) := by
  unfold ixL
  split
  · split <;> first | exact .pure | exact .fail
  · exact .fail
theorem px_ixO {i : Nat} {x : Str} {px : Pos} {ds : List PyData} (hi : X.N[i]? = some x) (hv : Vis X.env.scope x) (hl : Γ.lookup i = some (.own ds)) (h : PX K X c Γ b t) (hd : (x == ("__debug__" : Str)) = false := by decide) (hcd : (x == ("__classdict__" : Str)) = false := by decide) (hs : PlainIx b := by exact fun _ _ => rfl) :
    PX K X c Γ (.Subscript (.Name x px) b pos) (bindT t (ixL ds)) :=
  .of (pe_ix (kixL K h.hK) (pe_var hi hv hd hcd) h.pe hs) (.bind h.mo fun _ => mono_ixL _ _) (fun o B F0 F D σ H Q s z => by
    obtain ⟨a, vs, h1, h2, h3, h4, h5⟩ := s.env.getO hl
    refine ⟨.ref a, h1, o, B, F0, F, D, s, h.mo.mono (fun d z1 v F' D' H' g q => ?_) (fun _ h => h) z⟩
    unfold ixL at z1
    cases q with
    | int j =>
      have z1 : (match atI ds j with | some d => (pureT d : M PyData) | none => failT) (fun d => ∀ v F' D' H', Grow o F D F' D' H' → Dq K F' v d → Q v H') (XW K X.mg c o B F0) := z1
      cases e : atI ds j with
      | none => rw [e] at z1; exact z1.elim
      | some d =>
        rw [e] at z1
        obtain ⟨v, e2, q⟩ := (h5.same g.ff).atI e
        exact ⟨_, _, _, v, rfl, rfl, SqL.of (g.lay.sub _ _ (g.dd _ _ h4)), e2, z1 v F' D' H' g q⟩
    | _ => exact False.elim z1) h.hK
theorem FreshQ.push {o : OO} {F D F1 D1 H1 : Hp} {Q : VK} {vs : List V} {ds : List PyData} (g1 : Grow o F D F1 D1 H1) (hv : DqAll K F1 vs ds) (z : FreshQ K o F D Q ds) (l : Addr) (hl : H1 l = none) : Q (.ref l) (upd H1 l (.lst vs)) := by
  have f := g1.lay.free hl
  have n := Grow.new (u := .lst vs) g1.lay hl
  exact z l vs F1 (upd D1 l (.lst vs)) _ ⟨g1.ff, g1.dd.trans n.dd, g1.fresh, ⟨g1.lay.fd.trans n.dd, n.lay.sub, n.lay.dk, n.lay.tb⟩⟩ f.2 (g1.dd.free f.1) upd_same hv
/-- list(e), a new list -/
theorem pfw_list {e : Expr} {t : M PyData} (h : PX K X c Γ e t) (hm : X.mg "list" = none) (hg : Gl X "list" := by rfl) (na : starEach [e] X.env = (false, eval e X.env) :: starEach [] X.env := by rfl) (hpl : (backTo pos (starEach [] X.env)).any (·.1) = false := by rfl) : PXf K X c Γ (.Call (.Name "list" p) [e] [] pos) (bindT t itemsT) :=
  ⟨h.hK, .bind h.mo mono_items, pe_imp (pe_callTy (klist K h.hK) hg hm (by decide +kernel) (pa_cons h.pe pa_nil na) (by decide) (by decide) na hpl) fun σ H Q ⟨o, B, F0, F, D, s, z⟩ => ⟨o, B, F0, F, D, s, h.mo.mono (fun d z1 v F1 D1 H1 g1 q1 => by
    cases q1 with
    | lst hp ha => exact ⟨_, _, rfl, .inl (SqL.of (g1.lay.fh _ _ hp)), fun l hl => FreshQ.push g1 ha z1 l hl⟩
    | tup hp ha => exact ⟨_, _, rfl, .inr (SqT.of (g1.lay.fh _ _ hp)), fun l hl => FreshQ.push g1 ha z1 l hl⟩
    | _ => exact False.elim z1) (fun _ h => h) z⟩⟩
/-- a + b of two lists, a new list; a one's own or not -/
def catL (d d' : PyData) : M (List PyData) := match d, d' with
  | .list s, .list t => guardT (s.length + t.length ≤ sizeLine) (pureT (s ++ t))
  | _, _ => failT
theorem mono_catL (d d' : PyData) : Mono (catL d d') := by
  unfold catL
  split <;> first | exact .guard .pure | exact .fail
theorem pfw_cat (h : PX K X c Γ a ta) (g : PX K X c Γ b tb) : PXf K X c Γ (.BinOp a .Add b pos) (bindT ta fun x => bindT tb fun y => catL x y) :=
  ⟨h.hK, .bind h.mo fun _ => .bind g.mo fun _ => mono_catL _ _, pe_imp (pe_op op_cat h.pe g.pe) fun σ H Q ⟨o, B, F0, F, D, s, z⟩ => ⟨o, B, F0, F, D, s, h.mo.mono (fun d z1 v F1 D1 H1 g1 q1 => ⟨o, B, F0, F1, D1, s.grow g1, g.mo.mono (fun d2 z2 v2 F2 D2 H2 g2 q2 => by
    have q1 := q1.same g2.ff
    cases q1 with
    | lst hp ha =>
      cases q2 with
      | lst hq hb =>
        exact ⟨_, _, _, _, rfl, rfl, g2.lay.fh _ _ hp, g2.lay.fh _ _ hq, by rw [ha.length, hb.length]; exact z2.1, fun l hl => FreshQ.push (g1.trans g2) (ha.append hb) z2.2 l hl⟩
      | _ => exact False.elim z2
    | _ => cases q2 <;> exact False.elim z2) (fun _ h => h) z1⟩) (fun _ h => h) z⟩⟩
/-- xs + e, xs one's own -/
theorem pfw_catO {i : Nat} {x : Str} {px : Pos} {ds : List PyData} (hi : X.N[i]? = some x) (hv : Vis X.env.scope x) (hl : Γ.lookup i = some (.own ds)) (g : PX K X c Γ b tb) (hd : (x == ("__debug__" : Str)) = false := by decide) (hcd : (x == ("__classdict__" : Str)) = false := by decide) : PXf K X c Γ (.BinOp (.Name x px) .Add b pos) (bindT tb fun y => catL (.list ds) y) :=
  ⟨g.hK, .bind g.mo fun _ => mono_catL _ _, pe_imp (pe_op op_cat (pe_var hi hv hd hcd) g.pe) fun σ H Q ⟨o, B, F0, F, D, s, z⟩ => by
    obtain ⟨a, vs, h1, h2, h3, h4, h5⟩ := s.env.getO hl
    refine ⟨.ref a, h1, o, B, F0, F, D, s, g.mo.mono (fun d2 z2 v2 F2 D2 H2 g2 q2 => ?_) (fun _ h => h) z⟩
    cases q2 with
    | lst hq hb =>
      have ha := h5.same g2.ff
      exact ⟨_, _, _, _, rfl, rfl, g2.lay.sub _ _ (g2.dd _ _ h4), g2.lay.fh _ _ hq, by rw [ha.length, hb.length]; exact z2.1, fun l hl => FreshQ.push g2 (ha.append hb) z2.2 l hl⟩
    | _ => exact False.elim z2⟩

/-! a def keeps its promise -/
def argE : Nat → List PyData → GE
  | _, [] => []
  | i, d :: ds => (i, .dat d) :: argE (i + 1) ds
theorem arg_env {B F D : Hp} : ∀ {rest : List V} {as : List PyData} {pre : List (Option V)} {suf : List (Option V)}, DqAll K F rest as → EnvW K B F D (pre ++ (rest.map some ++ suf)) (argE pre.length as)
  | _, _, _, _, .nil => trivial
  | v :: vs, d :: ds, pre, suf, .cons h t => by
    refine ⟨⟨v, ?_, h⟩, (fun z => by cases z), ?_⟩
    · rw [List.getElem?_append_right (Nat.le_refl _), Nat.sub_self]
      rfl
    · have := arg_env (B := B) (D := D) (pre := pre ++ [some v]) (suf := suf) t
      rw [List.append_assoc, List.length_append] at this
      exact this
def fnT (w : M (Fl Unit Empty)) : M PyData := bindT w fun fl => match fl with
  | .nx _ => pureT .none
  | .rt d => pureT d
  | .bk r => nomatch r
  | .ct r => nomatch r
theorem Mono.fnT {w : M (Fl Unit Empty)} (h : Mono w) : Mono (fnT w) := .bind h fun fl => by
  cases fl with
  | nx s => exact .pure
  | rt d => exact .pure
  | bk r => exact nomatch r
  | ct r => exact nomatch r
abbrev ctOf (N : List Str) (dk : Bool) (E : XK) : Ct := ⟨N.length, if dk then some 0 else none, [], fun cv d _ H => E cv d H, []⟩
def onE (m : Nat) (w : List PyData → M PyData) : List PyData → M PyData := fun as => if as.length = m then w as else failT
theorem ok_W {P : Program} {wd : World} {mg : Str → Option Value} {base : Heap} {k : Nat} {f : Addr} {x qual : Str} {st : Stmt} {fd : FuncData} {N ps : List Str} (dk : Bool) (wb : List PyData → M (Fl Unit Empty)) (F : Fun K x qual st f fd) (S : FnScope N ps (defScope st)) (hN : ps.length ≤ N.length) (hdk : dk = true → 1 ≤ ps.length)
    (body : ∀ (cdv : Value) (A : Around) (outer : List PySem.Env) (s : Shared) (H : Hp) (E : XK), Room k (A.deeper (PyProof.Rows.envOfC qual (defScope st) s.heap.objs.size f cdv)) → ∀ as : List PyData, as.length + (if dk then 1 else 0) = ps.length →
      PBk' K (cxOf (L2.CX P wd) P wd K mg base N qual (defScope st) f cdv A outer s H E) (ctOf N dk E) (argE (if dk then 1 else 0) as) (defBody st) (fun _ : Unit => []) (fun r : Empty => nomatch r) (wb as)) :
    FnOk P wd K mg base (L2.CX P wd) (k + 1) f fd ps (spW K mg dk ps.length (onE (ps.length - if dk then 1 else 0) fun as => fnT (wb as))) := by
  refine F.okX S (fun vs H Q E h => ?_) (fun cdv A outer s H vs Q E hr h => ?_)
  · obtain ⟨o, F, D, args, rest, l, hl, h⟩ := h
    exact hl
  · obtain ⟨⟨odk, otb⟩, F1, D, args, rest, l, hl, ho, hq, z⟩ := h
    have hlen : args.length + (if dk then 1 else 0) = ps.length := by
      have := hq.length
      cases odk with
      | none =>
        obtain ⟨rfl, rfl⟩ := ho
        simp
        omega
      | some a =>
        obtain ⟨rfl, rfl⟩ := ho
        simp
        rw [List.length_cons] at hl
        omega
    have hb := body cdv A outer s H E hr args hlen
    unfold onE at z
    rw [if_pos (by omega)] at z
    refine ⟨_, hb.ps, ⟨odk, otb⟩, D, F1, F1, D, ⟨?_, ?_, .refl l, ?_, trivial⟩, hb.mo.mono (fun fl z1 => ?_) (fun e z1 => ?_) z⟩
    · unfold L2.start
      rw [List.length_append, List.length_map, List.length_replicate, hl]
      show _ = N.length
      omega
    · cases odk with
      | none => obtain ⟨rfl, rfl⟩ := ho; exact ⟨trivial, .inl rfl⟩
      | some a => obtain ⟨rfl, rfl⟩ := ho; exact ⟨rfl, .inl rfl⟩
    · unfold L2.start
      cases odk with
      | none =>
        obtain ⟨rfl, rfl⟩ := ho
        exact arg_env (pre := []) hq
      | some a =>
        obtain ⟨rfl, rfl⟩ := ho
        exact arg_env (pre := [some (.ref a)]) hq
    · cases fl with
      | nx u => exact fun σ' F' D' H' e s' => z1 .non F' D' H' s'.gb .non
      | rt d => exact fun v F' D' H' g q => z1 v F' D' H' g q
      | bk r => exact nomatch r
      | ct r => exact nomatch r
    · exact fun cv d σ' F' D' H' s' r => z1 cv d F' D' H' s'.gb r
/-- and it is monotone -/
theorem mono_of_body {P : Program} {wd : World} {mg : Str → Option Value} {base : Heap} {k : Nat} {f : Addr} {qual : Str} {st : Stmt} {N ps : List Str} (dk : Bool) (wb : List PyData → M (Fl Unit Empty)) (hk : k ≤ 100)
    (body : ∀ (cdv : Value) (A : Around) (outer : List PySem.Env) (s : Shared) (H : Hp) (E : XK), Room k (A.deeper (PyProof.Rows.envOfC qual (defScope st) s.heap.objs.size f cdv)) → ∀ as : List PyData, as.length + (if dk then 1 else 0) = ps.length →
      PBk' K (cxOf (L2.CX P wd) P wd K mg base N qual (defScope st) f cdv A outer s H E) (ctOf N dk E) (argE (if dk then 1 else 0) as) (defBody st) (fun _ : Unit => []) (fun r : Empty => nomatch r) (wb as)) (hps : (if dk then 1 else 0) ≤ ps.length) : ∀ as, Mono (onE (ps.length - if dk then 1 else 0) (fun as => fnT (wb as)) as) := fun as => by
  unfold onE
  by_cases h : as.length = ps.length - if dk then 1 else 0
  · rw [if_pos h]
    refine Mono.fnT (body .none {} [] {} (fun _ => none) (fun _ _ _ => False) (Room.deeper ⟨rfl, ?_, ?_⟩ _) as (by omega)).mo
    · show 0 + 3 * (k + 1) + 5 < 1000; omega
    · show 1 + 16 * (k + 1) + 200 < 9900; omega
  · rw [if_neg h]
    exact .fail
end
end Nk
set_option Elab.async false
set_option linter.all false
set_option maxRecDepth 100000
set_option maxHeartbeats 4000000
namespace Nk
open PySem L2

/-! what the operators ask of data -/
def rOr (r r' : R2) : R2 := fun x y H Q => r x y H Q ∨ r' x y H Q
theorem OpR.or {X : Cx} {f : Value → Value → Sem Value} {r r' : R2} (h : OpR X f r) (h' : OpR X f r') : OpR X f (rOr r r') := by
  intro pins s σ H x y v u Q I rx ry q
  rcases q with q | q
  · exact h pins s σ H x y v u Q I rx ry q
  · exact h' pins s σ H x y v u Q I rx ry q
theorem OpR.imp {X : Cx} {f : Value → Value → Sem Value} {r r' : R2} (h : OpR X f r) (i : ∀ x y H Q, r' x y H Q → r x y H Q) : OpR X f r' := by
  intro pins s σ H x y v u Q I rx ry q
  exact h pins s σ H x y v u Q I rx ry (i _ _ _ _ q)
theorem CallR.or {X : Cx} {f : Value} {r r' : List V → Hp → VK → Prop} (h : CallR X f r) (h' : CallR X f r') : CallR X f (fun xs H Q => r xs H Q ∨ r' xs H Q) := by
  intro pins s σ H xs us Q I rx q
  rcases q with q | q
  · exact h pins s σ H xs us Q I rx q
  · exact h' pins s σ H xs us Q I rx q
def addM : PyData → PyData → M PyData
  | .int i, .int j => pureT (.int (i + j))
  | .tuple s, .tuple t => guardT (s.length + t.length ≤ sizeLine) (pureT (.tuple (s ++ t)))
  | .list s, .list t => guardT (s.length + t.length ≤ sizeLine) (pureT (.list (s ++ t)))
  | .str s, .str t => guardT (s.length + t.length ≤ sizeLine) (pureT (.str (s ++ t)))
  | _, _ => failT
def subM : PyData → PyData → M PyData
  | .int i, .int j => pureT (.int (i - j))
  | _, _ => failT
/-- products stay below a million bits; tuples and lists short -/
def mulM : PyData → PyData → M PyData
  | .int i, .int j => guardT (CMulW i j) (pureT (.int (i * j)))
  | .tuple s, .int j => guardT (-1000 ≤ j ∧ j ≤ 1000 ∧ s.length ≤ 1000) (pureT (.tuple (List.replicate j.toNat s).flatten))
  | .list s, .int j => guardT (-1000 ≤ j ∧ j ≤ 1000 ∧ s.length ≤ 1000) (pureT (.list (List.replicate j.toNat s).flatten))
  | _, _ => failT
def fdivM : PyData → PyData → M PyData
  | .int i, .int j => guardT (CDivW i j) (pureT (.int (i / j)))
  | _, _ => failT
def modM : PyData → PyData → M PyData
  | .int i, .int j => guardT (0 < j) (pureT (.int (i % j)))
  | _, _ => failT
def powM : PyData → PyData → M PyData
  | .int i, .int j => guardT (CPow i j) (pureT (.int (i ^ j.toNat)))
  | _, _ => failT
def shlM : PyData → PyData → M PyData
  | .int i, .int j => guardT (CPow i j) (pureT (.int (i * 2 ^ j.toNat)))
  | _, _ => failT
def bandM : PyData → PyData → M PyData
  | .int i, .int j => pureT (.int (Builtin.bitAnd i j))
  | _, _ => failT
def eqM : PyData → PyData → M PyData
  | .int i, .int j => pureT (.bool (decide (i = j)))
  | .str i, .str j => pureT (.bool (decide (i = j)))
  | a, b => guardT (SeqAt.shaped a = true ∧ SeqAt.shaped b = true) (pureT (.bool (PyData.eqv a b)))
def neM : PyData → PyData → M PyData
  | .int i, .int j => pureT (.bool (!decide (i = j)))
  | .str i, .str j => pureT (.bool (!decide (i = j)))
  | a, b => guardT (SeqAt.shaped a = true ∧ SeqAt.shaped b = true) (pureT (.bool (!PyData.eqv a b)))
def ltM : PyData → PyData → M PyData
  | .int i, .int j => pureT (.bool (decide (i < j)))
  | _, _ => failT
def leM : PyData → PyData → M PyData
  | .int i, .int j => pureT (.bool (decide (i ≤ j)))
  | _, _ => failT
def gtM : PyData → PyData → M PyData
  | .int i, .int j => pureT (.bool (decide (i > j)))
  | _, _ => failT
def geM : PyData → PyData → M PyData
  | .int i, .int j => pureT (.bool (decide (i ≥ j)))
  | _, _ => failT
def isNM : PyData → PyData → M PyData
  | a, .none => pureT (.bool (isNo a))
  | _, _ => failT
def notNM : PyData → PyData → M PyData
  | a, .none => pureT (.bool (!isNo a))
  | _, _ => failT
def optT {α : Type} : Option α → M α
  | some d => pureT d
  | none => failT
theorem mono_optT {α : Type} (o : Option α) : Mono (optT o) := by cases o <;> first | exact .pure | exact .fail
def ixM : PyData → PyData → M PyData
  | .tuple s, .int j => optT (atI s j)
  | .list s, .int j => optT (atI s j)
  | _, _ => failT
/-- data of no depth -/
def flatD : PyData → Bool
  | .none => true
  | .bool _ => true
  | .int _ => true
  | .str _ => true
  | _ => false
def inD (d : PyData) (ds : List PyData) : Bool := ds.any fun e => PyData.eqv e d
section
variable {K : PySem.W.Frag} {X : Cx}
theorem scal_ok (K : PySem.W.Frag) {f : PyData → PyData → M PyData} {r : R2} (mo : ∀ a b, Mono (f a b)) (h : ∀ a b x y H Q xk o F D, Lay o F D H → Dq K F x a → Dq K F y b → f a b (fun d => ∀ v F' D' H', Grow o F D F' D' H' → Dq K F' v d → Q v H') xk → r x y H Q) : OpW2ok K r f :=
  ⟨mo, fun a b x y o F D H Q xk l h1 h2 z => h a b x y H Q xk o F D l h1 h2 z⟩
theorem lay_get {o : OO} {F D H : Hp} (l : Lay o F D H) : Same F H := l.fh
theorem ok_addM : OpW2ok K (rOr (rI0 fun i j => .int (i + j)) (rOr (rCatA K) (rOr rCat (fun x y H Q => ∃ i j, x = .str i ∧ y = .str j ∧ i.length + j.length ≤ sizeLine ∧ Q (.str (i ++ j)) H)))) addM := by
  refine ⟨fun a b => ?_, fun a b x y o F D H Q xk l h1 h2 z => ?_⟩
  · unfold addM
    split <;> first | exact .pure | exact .guard .pure | exact .fail
  · unfold addM at z
    split at z
    · cases h1; cases h2
      exact .inl ⟨_, _, rfl, rfl, z _ F D H (.refl l) (.int _)⟩
    · refine .inr (.inl ?_)
      cases h1 with
      | tup hp ha =>
        cases h2 with
        | tup hq hb =>
          refine ⟨_, _, _, _, rfl, rfl, SqT.of (l.fh _ _ hp), SqT.of (l.fh _ _ hq), by rw [ha.length, hb.length]; exact z.1, fun e => ?_, fun e1 e2 => ?_, fun e1 e2 p hpn => ?_⟩
          · subst e
            cases ha
            exact z.2 _ F D H (.refl l) (.tup hq hb)
          · subst e2
            cases hb
            have := z.2
            rw [List.append_nil] at this
            exact this _ F D H (.refl l) (.tup hp ha)
          · exact z.2 _ _ _ _ (.new l hpn) (.tup upd_same ((ha.append hb).same (same_new (l.free hpn).2)))
    · refine .inr (.inr (.inl ?_))
      cases h1 with
      | lst hp ha =>
        cases h2 with
        | lst hq hb => exact ⟨_, _, _, _, rfl, rfl, l.fh _ _ hp, l.fh _ _ hq, by rw [ha.length, hb.length]; exact z.1, fun p hpn => z.2 _ _ _ _ (.new l hpn) (.lst upd_same ((ha.append hb).same (same_new (l.free hpn).2)))⟩
    · refine .inr (.inr (.inr ?_))
      cases h1; cases h2
      exact ⟨_, _, rfl, rfl, z.1, z.2 _ F D H (.refl l) (.str _)⟩
    · exact z.elim
theorem op_addA : OpR X (binaryOp .Add) (rOr (rI0 fun i j => .int (i + j)) (rOr (rCatA X.K) (rOr rCat (fun x y H Q => ∃ i j, x = .str i ∧ y = .str j ∧ i.length + j.length ≤ sizeLine ∧ Q (.str (i ++ j)) H)))) := op_add.or (op_catA.or (op_cat.or op_add_str))
theorem ok_subM : OpW2ok K (rI0 fun i j => .int (i - j)) subM := by
  refine ⟨fun a b => ?_, fun a b x y o F D H Q xk l h1 h2 z => ?_⟩
  · unfold subM
    split <;> first | exact .pure | exact .fail
  · unfold subM at z
    split at z
    · cases h1; cases h2
      exact ⟨_, _, rfl, rfl, z _ F D H (.refl l) (.int _)⟩
    · exact z.elim
theorem ok_mulM : OpW2ok K (rOr (rI CMulW fun i j => .int (i * j)) (rOr (rRepA K) rRep)) mulM := by
  refine ⟨fun a b => ?_, fun a b x y o F D H Q xk l h1 h2 z => ?_⟩
  · unfold mulM
    split <;> first | exact .pure | exact .guard .pure | exact .fail
  · unfold mulM at z
    split at z
    · cases h1; cases h2
      exact .inl ⟨_, _, rfl, rfl, z.1, z.2 _ F D H (.refl l) (.int _)⟩
    · rename_i s j
      refine .inr (.inl ?_)
      cases h1 with
      | tup hp ha =>
        cases h2
        refine ⟨_, _, _, rfl, rfl, SqT.of (l.fh _ _ hp), z.1.1, z.1.2.1, by rw [ha.length]; exact z.1.2.2, fun w => ?_, fun _ p hpn => z.2 _ _ _ _ (.new l hpn) (.tup upd_same ((ha.rep _).same (same_new (l.free hpn).2)))⟩
        have w' : s = [] ∨ j = (1 : Int) := by
          rcases w with w | w
          · subst w; cases ha; exact .inl rfl
          · exact .inr w
        have := z.2
        rw [rep_same w'] at this
        exact this _ F D H (.refl l) (.tup hp ha)
    · refine .inr (.inr ?_)
      cases h1 with
      | lst hp ha =>
        cases h2
        have z1 := z.1
        refine ⟨_, _, _, rfl, rfl, l.fh _ _ hp, by omega, by omega, ?_, fun p hpn => z.2 _ _ _ _ (.new l hpn) (.lst upd_same ((ha.rep _).same (same_new (l.free hpn).2)))⟩
        rw [ha.length]
        rename_i s j _ _
        have : s.length * j.toNat ≤ 1000 * 1000 := Nat.mul_le_mul z1.2.2 (by omega)
        exact Nat.le_trans this (by show 1000 * 1000 ≤ sizeLine; decide)
    · exact z.elim
theorem op_mulA : OpR X (binaryOp .Mult) (rOr (rI CMulW fun i j => .int (i * j)) (rOr (rRepA X.K) rRep)) := op_mulW.or ((op_repA X.K).or op_rep)
theorem okI {C : Int → Int → Prop} {g : Int → Int → Int} {f : PyData → PyData → M PyData} (hf : ∀ i j, f (.int i) (.int j) = guardT (C i j) (pureT (.int (g i j)))) (hn : ∀ a b, (∃ i j, a = .int i ∧ b = .int j) ∨ f a b = failT) : OpW2ok K (rI C fun i j => .int (g i j)) f := by
  refine ⟨fun a b => ?_, fun a b x y o F D H Q xk l h1 h2 z => ?_⟩
  · rcases hn a b with ⟨i, j, rfl, rfl⟩ | e
    · rw [hf]; exact .guard .pure
    · rw [e]; exact .fail
  · rcases hn a b with ⟨i, j, rfl, rfl⟩ | e
    · rw [hf] at z
      cases h1; cases h2
      exact ⟨_, _, rfl, rfl, z.1, z.2 _ F D H (.refl l) (.int _)⟩
    · rw [e] at z; exact z.elim
theorem two_int (f : PyData → PyData → M PyData) (h : ∀ a b, (∀ i j, a = PyData.int i → b = PyData.int j → False) → f a b = failT) (a b : PyData) : (∃ i j, a = .int i ∧ b = .int j) ∨ f a b = failT := by
  by_cases e : ∃ i j, a = .int i ∧ b = .int j
  · exact .inl e
  · exact .inr (h a b fun i j h1 h2 => e ⟨i, j, h1, h2⟩)
theorem ok_fdivM : OpW2ok K (rI CDivW fun i j => .int (i / j)) fdivM := okI (fun _ _ => rfl) (two_int _ fun a b h => by
  unfold fdivM
  split
  · exact (h _ _ rfl rfl).elim
  · rfl)
theorem ok_modM : OpW2ok K (rI (fun _ j => 0 < j) fun i j => .int (i % j)) modM := okI (fun _ _ => rfl) (two_int _ fun a b h => by
  unfold modM
  split
  · exact (h _ _ rfl rfl).elim
  · rfl)
theorem ok_powM : OpW2ok K (rI CPow fun i j => .int (i ^ j.toNat)) powM := okI (fun _ _ => rfl) (two_int _ fun a b h => by
  unfold powM
  split
  · exact (h _ _ rfl rfl).elim
  · rfl)
theorem ok_shlM : OpW2ok K (rI CPow fun i j => .int (i * 2 ^ j.toNat)) shlM := okI (fun _ _ => rfl) (two_int _ fun a b h => by
  unfold shlM
  split
  · exact (h _ _ rfl rfl).elim
  · rfl)
theorem ok_bandM : OpW2ok K (rI0 fun i j => .int (Builtin.bitAnd i j)) bandM := by
  refine ⟨fun a b => ?_, fun a b x y o F D H Q xk l h1 h2 z => ?_⟩
  · unfold bandM
    split <;> first | exact .pure | exact .fail
  · unfold bandM at z
    split at z
    · cases h1; cases h2
      exact ⟨_, _, rfl, rfl, z _ F D H (.refl l) (.int _)⟩
    · exact z.elim
/-! == -/
theorem ok_eqM : OpW2ok K (rOr rEq (rEqD K)) eqM := by
  refine ⟨fun a b => ?_, fun a b x y o F D H Q xk l h1 h2 z => ?_⟩
  · unfold eqM
    split <;> first | exact .pure | exact .guard .pure
  · unfold eqM at z
    split at z
    · rename_i i j
      cases h1; cases h2
      refine .inl ⟨rfl, ?_⟩
      have e : decide (V.int i = V.int j) = decide (i = j) := by rw [dec_int]; by_cases z : i = j <;> simp [z]
      rw [e]
      exact z _ F D H (.refl l) (.bl _)
    · rename_i i j
      cases h1; cases h2
      refine .inl ⟨rfl, ?_⟩
      have e : decide (V.str i = V.str j) = decide (i = j) := by by_cases z : i = j <;> simp [z]
      rw [e]
      exact z _ F D H (.refl l) (.bl _)
    · have sa := z.1.1
      have sb := z.1.2
      unfold SeqAt.shaped at sa sb
      exact .inr ⟨_, _, (h1.same l.fh).dp (Bool.and_eq_true _ _ ▸ sa).1, (h2.same l.fh).dp (Bool.and_eq_true _ _ ▸ sb).1, z.1.1, z.1.2, z.2 _ F D H (.refl l) (.bl _)⟩
theorem ok_neM : OpW2ok K (rOr rNe (rNeD K)) neM := by
  refine ⟨fun a b => ?_, fun a b x y o F D H Q xk l h1 h2 z => ?_⟩
  · unfold neM
    split <;> first | exact .pure | exact .guard .pure
  · unfold neM at z
    split at z
    · rename_i i j
      cases h1; cases h2
      refine .inl ⟨rfl, ?_⟩
      have e : decide (V.int i = V.int j) = decide (i = j) := by rw [dec_int]; by_cases z : i = j <;> simp [z]
      rw [e]
      exact z _ F D H (.refl l) (.bl _)
    · rename_i i j
      cases h1; cases h2
      refine .inl ⟨rfl, ?_⟩
      have e : decide (V.str i = V.str j) = decide (i = j) := by by_cases z : i = j <;> simp [z]
      rw [e]
      exact z _ F D H (.refl l) (.bl _)
    · have sa := z.1.1
      have sb := z.1.2
      unfold SeqAt.shaped at sa sb
      exact .inr ⟨_, _, (h1.same l.fh).dp (Bool.and_eq_true _ _ ▸ sa).1, (h2.same l.fh).dp (Bool.and_eq_true _ _ ▸ sb).1, z.1.1, z.1.2, z.2 _ F D H (.refl l) (.bl _)⟩
theorem op_eqA (hu : X.A.units + 64 < cLine) (hK : X.K = K := by rfl) : OpR X (compareOp .Eq) (rOr rEq (rEqD K)) := op_eq.or (keqD K hu hK)
theorem op_neA (hu : X.A.units + 64 < cLine) (hK : X.K = K := by rfl) : OpR X (compareOp .NotEq) (rOr rNe (rNeD K)) := op_ne.or (kneD K hu hK)
theorem okB {g : Int → Int → Bool} {f : PyData → PyData → M PyData} (hf : ∀ i j, f (.int i) (.int j) = pureT (.bool (g i j))) (hn : ∀ a b, (∃ i j, a = .int i ∧ b = .int j) ∨ f a b = failT) : OpW2ok K (rI0 fun i j => .bl (g i j)) f := by
  refine ⟨fun a b => ?_, fun a b x y o F D H Q xk l h1 h2 z => ?_⟩
  · rcases hn a b with ⟨i, j, rfl, rfl⟩ | e
    · rw [hf]; exact .pure
    · rw [e]; exact .fail
  · rcases hn a b with ⟨i, j, rfl, rfl⟩ | e
    · rw [hf] at z
      cases h1; cases h2
      exact ⟨_, _, rfl, rfl, z _ F D H (.refl l) (.bl _)⟩
    · rw [e] at z; exact z.elim
theorem ok_ltM : OpW2ok K (rI0 fun i j => .bl (decide (i < j))) ltM := okB (fun _ _ => rfl) (two_int _ fun a b h => by
  unfold ltM
  split
  · exact (h _ _ rfl rfl).elim
  · rfl)
theorem ok_leM : OpW2ok K (rI0 fun i j => .bl (decide (i ≤ j))) leM := okB (fun _ _ => rfl) (two_int _ fun a b h => by
  unfold leM
  split
  · exact (h _ _ rfl rfl).elim
  · rfl)
theorem ok_gtM : OpW2ok K (rI0 fun i j => .bl (decide (i > j))) gtM := okB (fun _ _ => rfl) (two_int _ fun a b h => by
  unfold gtM
  split
  · exact (h _ _ rfl rfl).elim
  · rfl)
theorem ok_geM : OpW2ok K (rI0 fun i j => .bl (decide (i ≥ j))) geM := okB (fun _ _ => rfl) (two_int _ fun a b h => by
  unfold geM
  split
  · exact (h _ _ rfl rfl).elim
  · rfl)
theorem isNo_eq {F : Hp} {x : V} {a : PyData} (h : Dq K F x a) : decide (x = .non) = isNo a := by cases h <;> rfl
theorem ok_isNM : OpW2ok K (fun x y H Q => y = .non ∧ Q (.bl (decide (x = .non))) H) isNM := by
  refine ⟨fun a b => ?_, fun a b x y o F D H Q xk l h1 h2 z => ?_⟩
  · unfold isNM
    split <;> first | exact .pure | exact .fail
  · unfold isNM at z
    split at z
    · cases h2
      refine ⟨rfl, ?_⟩
      rw [isNo_eq h1]
      exact z _ F D H (.refl l) (.bl _)
    · exact z.elim
theorem ok_notNM : OpW2ok K (fun x y H Q => y = .non ∧ Q (.bl (!decide (x = .non))) H) notNM := by
  refine ⟨fun a b => ?_, fun a b x y o F D H Q xk l h1 h2 z => ?_⟩
  · unfold notNM
    split <;> first | exact .pure | exact .fail
  · unfold notNM at z
    split at z
    · cases h2
      refine ⟨rfl, ?_⟩
      rw [isNo_eq h1]
      exact z _ F D H (.refl l) (.bl _)
    · exact z.elim
/-! [..] -/
def rIxA (K : PySem.W.Frag) : R2 := rOr (rIxT K) (rIxL K)
theorem ix_A (hK : X.K = K := by rfl) : IxR X (rIxA K) := by
  intro value slice pins s σ H x y v u Q I rx ry h hs
  rcases h with h | h
  · exact kixT K hK value slice pins s σ H x y v u Q I rx ry h hs
  · exact kixL K hK value slice pins s σ H x y v u Q I rx ry h hs
theorem ok_ixM : OpW2ok K (rIxA K) ixM := by
  refine ⟨fun a b => ?_, fun a b x y o F D H Q xk l h1 h2 z => ?_⟩
  · unfold ixM
    split <;> first | exact mono_optT _ | exact .fail
  · unfold ixM at z
    split at z
    · rename_i s j
      cases e : atI s j with
      | none => rw [e] at z; exact z.elim
      | some d =>
        rw [e] at z
        cases h1 with
        | tup hp ha =>
          cases h2
          obtain ⟨v, e2, q⟩ := ha.atI e
          exact .inl ⟨_, _, _, v, rfl, rfl, SqT.of (l.fh _ _ hp), e2, z v F D H (.refl l) q⟩
    · rename_i s j
      cases e : atI s j with
      | none => rw [e] at z; exact z.elim
      | some d =>
        rw [e] at z
        cases h1 with
        | lst hp ha =>
          cases h2
          obtain ⟨v, e2, q⟩ := ha.atI e
          exact .inr ⟨_, _, _, v, rfl, rfl, SqL.of (l.fh _ _ hp), e2, z v F D H (.refl l) q⟩
    · exact z.elim
end
end Nk
set_option Elab.async false
set_option linter.all false
set_option maxRecDepth 100000
set_option maxHeartbeats 4000000
namespace Nk
open PySem L2
/-! slices -/
def partI : PyData → M (Option Int)
  | .int i => pureT (some i)
  | _ => failT
def cutM (d : PyData) (lo hi : Option Int) : M PyData := match d with
  | .tuple s => pureT (.tuple (cutD s lo hi))
  | .list s => pureT (.list (cutD s lo hi))
  | _ => failT
def cutI (d : PyData) (lo hi : Option Int) : M (List PyData) := match d with
  | .list s => pureT (cutD s lo hi)
  | _ => failT
section
variable {K : PySem.W.Frag} {X : Cx} {c : Ct} {Γ : GE} {e a b : Expr} {es : List Expr} {t ta tb : M PyData} {tl th : M (Option Int)} {ts : M (List PyData)} {pos p p2 : Pos}
theorem mono_part (d : PyData) : Mono (partI d) := by cases d <;> first | exact .pure | exact .fail
theorem mono_cutM (d : PyData) (lo hi : Option Int) : Mono (cutM d lo hi) := by cases d <;> first | exact .pure | exact .fail
theorem mono_cutI (d : PyData) (lo hi : Option Int) : Mono (cutI d lo hi) := by cases d <;> first | exact .pure | exact .fail
/-- a part of a slice -/
structure PXo (K : PySem.W.Frag) (X : Cx) (c : Ct) (Γ : GE) (e : Option Expr) (t : M (Option Int)) : Prop where
  mo : Mono t
  po : ∃ to, PO X e to ∧ ∀ o B F0 F D σ H (R : Option Int → Hp → Prop), StW K c Γ o B F0 F D σ H → t (fun l => ∀ F' D' H', Grow o F D F' D' H' → R l H') (XW K X.mg c o B F0) → to σ H R
theorem pxo_none : PXo K X c Γ none (pureT none) := ⟨.pure, tNoPart, po_none, fun o B F0 F D σ H R s z => z F D H (.refl s.lay)⟩
theorem pxo_some (h : PX K X c Γ e t) : PXo K X c Γ (some e) (bindT t partI) := ⟨.bind h.mo mono_part, _, po_some h.pe, fun o B F0 F D σ H R s z => ⟨o, B, F0, F, D, s, h.mo.mono (fun d z1 v F' D' H' g q => by
  cases q with
  | int i => exact ⟨i, rfl, z1 F' D' H' g⟩
  | _ => exact False.elim z1) (fun _ h => h) z⟩⟩
def rSlX (K : PySem.W.Frag) : V → Option Int → Option Int → Hp → VK → Prop := fun x lo hi H Q => rSlA K x lo hi H Q ∨ rSlL K x lo hi H Q
theorem slX (hK : X.K = K := by rfl) : SlR X (rSlX K) := (kslT K hK).or (kslL K hK)
theorem px_slice {lo hi : Option Expr} (h : PX K X c Γ e t) (gl : PXo K X c Γ lo tl) (gh : PXo K X c Γ hi th) : PX K X c Γ (.Subscript e (.Slice lo hi none p2) pos) (bindT t fun d => bindT tl fun l => bindT th fun u => cutM d l u) := by
  obtain ⟨ml, tol, pl, kl⟩ := gl
  obtain ⟨mh, toh, ph, kh⟩ := gh
  refine .of (pe_slice (slX h.hK) h.pe pl ph) (.bind h.mo fun _ => .bind ml fun _ => .bind mh fun _ => mono_cutM _ _ _) (fun o B F0 F D σ H Q s z => ?_) h.hK
  refine ⟨o, B, F0, F, D, s, h.mo.mono (fun d z1 x F1 D1 H1 g1 q1 => kl o B F0 F1 D1 σ H1 _ (s.grow g1) (ml.mono (fun l z2 F2 D2 H2 g2 => kh o B F0 F2 D2 σ H2 _ ((s.grow g1).grow g2) (mh.mono (fun u z3 F3 D3 H3 g3 => ?_) (fun _ h => h) z2)) (fun _ h => h) z1)) (fun _ h => h) z⟩
  have q3 := (q1.same g2.ff).same g3.ff
  have g123 := (g1.trans g2).trans g3
  have ly := g3.lay
  cases q3 with
  | tup hp ha =>
    rename_i a xs ds
    refine .inl ⟨_, _, rfl, SqT.of (ly.fh _ _ hp), fun w => ?_, fun _ p hpn => z3 _ _ _ _ (g123.trans (.new ly hpn)) (.tup upd_same ((ha.cut l u).same (same_new (ly.free hpn).2)))⟩
    have e : cutD ds l u = ds := by
      unfold cutD
      rw [← ha.length, w.1, w.2, List.drop_zero, Nat.sub_zero, ha.length, List.take_length]
    have z : ∀ v F' D' H', Grow o F D F' D' H' → Dq K F' v (.tuple (cutD ds l u)) → Q v H' := z3
    rw [e] at z
    exact z _ _ _ _ g123 (.tup hp ha)
  | lst hp ha => exact .inr ⟨_, _, rfl, SqL.of (ly.fh _ _ hp), fun p hpn => z3 _ _ _ _ (g123.trans (.new ly hpn)) (.lst upd_same ((ha.cut l u).same (same_new (ly.free hpn).2)))⟩
  | _ => exact z3.elim
/-- of a list: a new list -/
theorem pfw_slice {lo hi : Option Expr} (h : PX K X c Γ e t) (gl : PXo K X c Γ lo tl) (gh : PXo K X c Γ hi th) : PXf K X c Γ (.Subscript e (.Slice lo hi none p2) pos) (bindT t fun d => bindT tl fun l => bindT th fun u => cutI d l u) := by
  obtain ⟨ml, tol, pl, kl⟩ := gl
  obtain ⟨mh, toh, ph, kh⟩ := gh
  refine ⟨h.hK, .bind h.mo fun _ => .bind ml fun _ => .bind mh fun _ => mono_cutI _ _ _, pe_imp (pe_slice (kslL K h.hK) h.pe pl ph) fun σ H Q ⟨o, B, F0, F, D, s, z⟩ => ?_⟩
  refine ⟨o, B, F0, F, D, s, h.mo.mono (fun d z1 x F1 D1 H1 g1 q1 => kl o B F0 F1 D1 σ H1 _ (s.grow g1) (ml.mono (fun l z2 F2 D2 H2 g2 => kh o B F0 F2 D2 σ H2 _ ((s.grow g1).grow g2) (mh.mono (fun u z3 F3 D3 H3 g3 => ?_) (fun _ h => h) z2)) (fun _ h => h) z1)) (fun _ h => h) z⟩
  have q3 := (q1.same g2.ff).same g3.ff
  have g123 := (g1.trans g2).trans g3
  have ly := g3.lay
  cases q3 with
  | lst hp ha => exact ⟨_, _, rfl, SqL.of (ly.fh _ _ hp), fun p hpn => FreshQ.push g123 (ha.cut l u) z3 p hpn⟩
  | _ => exact z3.elim
/-- t[::-1] -/
def revM (d : PyData) : M PyData := match d with
  | .tuple s => pureT (.tuple s.reverse)
  | _ => failT
theorem mono_revM (d : PyData) : Mono (revM d) := by cases d <;> first | exact .pure | exact .fail
theorem px_rev {k : Nat} {p1 p2 p3 pos : Pos} (h : PX K X c Γ e t) : PX K X c Γ (.Subscript e (.Slice none none (some (.UnaryOp .USub (.Constant (.int 1) k p1) p2)) p3) pos) (bindT t revM) :=
  .of (pe_revT K h.pe h.hK) (.bind h.mo mono_revM) (fun o B F0 F D σ H Q s z => ⟨o, B, F0, F, D, s, h.mo.mono (fun d z1 v F1 D1 H1 g1 q1 => by
    cases q1 with
    | tup hp ha => exact ⟨_, _, rfl, SqT.of (g1.lay.fh _ _ hp), fun p hq => z1 _ _ _ _ (g1.trans (.new g1.lay hq)) (.tup upd_same ((DqAll.reverse ha).same (same_new (g1.lay.free hq).2)))⟩
    | _ => exact False.elim z1) (fun _ h => h) z⟩) h.hK

/-! built-ins -/
def un1 (f : PyData → M PyData) : List PyData → M PyData
  | [a] => f a
  | _ => failT
def un2 (f : PyData → PyData → M PyData) : List PyData → M PyData
  | [a, b] => f a b
  | _ => failT
theorem mono_un1 {f : PyData → M PyData} (h : ∀ a, Mono (f a)) (as : List PyData) : Mono (un1 f as) := by
  unfold un1
  split <;> first | exact h _ | exact .fail
theorem mono_un2 {f : PyData → PyData → M PyData} (h : ∀ a b, Mono (f a b)) (as : List PyData) : Mono (un2 f as) := by
  unfold un2
  split <;> first | exact h _ _ | exact .fail
theorem ok1 {r : List V → Hp → VK → Prop} {f : PyData → M PyData} (mo : ∀ a, Mono (f a)) (h : ∀ a x o F D H Q xk, Lay o F D H → Dq K F x a → f a (fun d => ∀ v F' D' H', Grow o F D F' D' H' → Dq K F' v d → Q v H') xk → r [x] H Q) : OpWsok K r (un1 f) :=
  ⟨mono_un1 mo, fun as xs o F D H Q xk l q z => by
    unfold un1 at z
    split at z
    · cases q with
      | cons q1 q2 => cases q2; exact h _ _ o F D H Q xk l q1 z
    · exact z.elim⟩
theorem ok2 {r : List V → Hp → VK → Prop} {f : PyData → PyData → M PyData} (mo : ∀ a b, Mono (f a b)) (h : ∀ a b x y o F D H Q xk, Lay o F D H → Dq K F x a → Dq K F y b → f a b (fun d => ∀ v F' D' H', Grow o F D F' D' H' → Dq K F' v d → Q v H') xk → r [x, y] H Q) : OpWsok K r (un2 f) :=
  ⟨mono_un2 mo, fun as xs o F D H Q xk l q z => by
    unfold un2 at z
    split at z
    · cases q with
      | cons q1 q2 =>
        cases q2 with
        | cons q2 q3 => cases q3; exact h _ _ _ _ o F D H Q xk l q1 q2 z
    · exact z.elim⟩
def lenM : PyData → M PyData
  | .list s => pureT (.int (s.length : Nat))
  | .tuple s => pureT (.int (s.length : Nat))
  | _ => failT
theorem ok_lenM : OpWsok K (fun xs H Q => ∃ p ys, xs = [.ref p] ∧ (SqL K H p ys ∨ SqT K H p ys) ∧ Q (.int (ys.length : Nat)) H) (un1 lenM) := ok1 (fun a => by cases a <;> first | exact .pure | exact .fail) fun a x o F D H Q xk l q z => by
  cases q with
  | lst hp ha => exact ⟨_, _, rfl, .inl (SqL.of (l.fh _ _ hp)), by rw [ha.length]; exact z _ F D H (.refl l) (.int _)⟩
  | tup hp ha => exact ⟨_, _, rfl, .inr (SqT.of (l.fh _ _ hp)), by rw [ha.length]; exact z _ F D H (.refl l) (.int _)⟩
  | _ => exact z.elim
def tupleM : PyData → M PyData
  | .list s => pureT (.tuple s)
  | .tuple s => pureT (.tuple s)
  | _ => failT
theorem ok_tupleM : OpWsok K (fun xs H Q => ∃ p ys, xs = [.ref p] ∧ ((SqL K H p ys ∧ ∀ l, H l = none → Q (.ref l) (upd H l (.tup ys))) ∨ (SqT K H p ys ∧ Q (.ref p) H))) (un1 tupleM) := ok1 (fun a => by cases a <;> first | exact .pure | exact .fail) fun a x o F D H Q xk l q z => by
  cases q with
  | lst hp ha => exact ⟨_, _, rfl, .inl ⟨SqL.of (l.fh _ _ hp), fun p hpn => z _ _ _ _ (.new l hpn) (.tup upd_same (ha.same (same_new (l.free hpn).2)))⟩⟩
  | tup hp ha => exact ⟨_, _, rfl, .inr ⟨SqT.of (l.fh _ _ hp), z _ F D H (.refl l) (.tup hp ha)⟩⟩
  | _ => exact z.elim
def absM : PyData → M PyData
  | .int i => pureT (.int (absI i))
  | _ => failT
theorem ok_absM : OpWsok K (fun xs H Q => ∃ i, xs = [.int i] ∧ Q (.int (if i < 0 then -i else i)) H) (un1 absM) := ok1 (fun a => by cases a <;> first | exact .pure | exact .fail) fun a x o F D H Q xk l q z => by
  cases q with
  | int i => exact ⟨_, rfl, z _ F D H (.refl l) (.int _)⟩
  | _ => exact z.elim
def intM : PyData → M PyData
  | .int i => pureT (.int i)
  | .bool k => pureT (.int (if k then 1 else 0))
  | _ => failT
theorem ok_intM : OpWsok K (fun xs H Q => (∃ i, xs = [.int i] ∧ Q (.int i) H) ∨ ∃ k, xs = [.bl k] ∧ Q (.int (if k then 1 else 0)) H) (un1 intM) := ok1 (fun a => by cases a <;> first | exact .pure | exact .fail) fun a x o F D H Q xk l q z => by
  cases q with
  | int i => exact .inl ⟨_, rfl, z _ F D H (.refl l) (.int _)⟩
  | bl k => exact .inr ⟨_, rfl, z _ F D H (.refl l) (.int _)⟩
  | _ => exact z.elim
def boolM : PyData → M PyData
  | .int i => pureT (.bool (i != 0))
  | .bool k => pureT (.bool k)
  | _ => failT
theorem ok_boolM : OpWsok K (fun xs H Q => (∃ i, xs = [.int i] ∧ Q (.bl (i != 0)) H) ∨ ∃ k, xs = [.bl k] ∧ Q (.bl k) H) (un1 boolM) := ok1 (fun a => by cases a <;> first | exact .pure | exact .fail) fun a x o F D H Q xk l q z => by
  cases q with
  | int i => exact .inl ⟨_, rfl, z _ F D H (.refl l) (.bl _)⟩
  | bl k => exact .inr ⟨_, rfl, z _ F D H (.refl l) (.bl _)⟩
  | _ => exact z.elim
/-! lists of numbers, of truths -/
def asInts : List PyData → Option (List Int)
  | [] => some []
  | .int i :: ds => (asInts ds).map (i :: ·)
  | _ :: _ => none
def asBools : List PyData → Option (List Bool)
  | [] => some []
  | .bool i :: ds => (asBools ds).map (i :: ·)
  | _ :: _ => none
theorem asInts_map : ∀ ns : List Int, asInts (ns.map .int) = some ns
  | [] => rfl
  | n :: ns => by
    show (asInts (ns.map .int)).map (n :: ·) = _
    rw [asInts_map ns]
    rfl
theorem asBools_map : ∀ ns : List Bool, asBools (ns.map .bool) = some ns
  | [] => rfl
  | n :: ns => by
    show (asBools (ns.map .bool)).map (n :: ·) = _
    rw [asBools_map ns]
    rfl
theorem asInts_eq : ∀ {ds : List PyData} {ns : List Int}, asInts ds = some ns → ds = ns.map .int
  | [], ns, h => by cases h; rfl
  | .int i :: ds, ns, h => by
    have h : (asInts ds).map (i :: ·) = some ns := h
    cases e : asInts ds with
    | none => rw [e] at h; cases h
    | some ms => rw [e] at h; cases h; rw [asInts_eq e]; rfl
  | .none :: _, _, h => by cases h
  | .bool _ :: _, _, h => by cases h
  | .str _ :: _, _, h => by cases h
  | .list _ :: _, _, h => by cases h
  | .tuple _ :: _, _, h => by cases h
  | .dict _ :: _, _, h => by cases h
theorem asBools_eq : ∀ {ds : List PyData} {ns : List Bool}, asBools ds = some ns → ds = ns.map .bool
  | [], ns, h => by cases h; rfl
  | .bool i :: ds, ns, h => by
    have h : (asBools ds).map (i :: ·) = some ns := h
    cases e : asBools ds with
    | none => rw [e] at h; cases h
    | some ms => rw [e] at h; cases h; rw [asBools_eq e]; rfl
  | .none :: _, _, h => by cases h
  | .int _ :: _, _, h => by cases h
  | .str _ :: _, _, h => by cases h
  | .list _ :: _, _, h => by cases h
  | .tuple _ :: _, _, h => by cases h
  | .dict _ :: _, _, h => by cases h
def intsM (d : PyData) (f : List Int → M PyData) : M PyData := match d with
  | .list s => bindT (optT (asInts s)) f
  | _ => failT
def boolsM (d : PyData) (f : List Bool → M PyData) : M PyData := match d with
  | .list s => bindT (optT (asBools s)) f
  | _ => failT
theorem mono_intsM {f : List Int → M PyData} (h : ∀ a, Mono (f a)) (d : PyData) : Mono (intsM d f) := by
  cases d with
  | list s => exact Mono.bind (t := optT (asInts s)) (mono_optT _) h
  | _ => exact .fail
theorem mono_boolsM {f : List Bool → M PyData} (h : ∀ a, Mono (f a)) (d : PyData) : Mono (boolsM d f) := by
  cases d with
  | list s => exact Mono.bind (t := optT (asBools s)) (mono_optT _) h
  | _ => exact .fail
theorem ok_ints {r : List V → Hp → VK → Prop} {f : List Int → M PyData} (mo : ∀ a, Mono (f a)) (h : ∀ (a : Addr) (ns : List Int) o F D H Q xk, Lay o F D H → SqL K H a (ns.map V.int) → f ns (fun d => ∀ v F' D' H', Grow o F D F' D' H' → Dq K F' v d → Q v H') xk → r [.ref a] H Q) : OpWsok K r (un1 fun d => intsM d f) :=
  ok1 (mono_intsM mo) fun a x o F D H Q xk l q z => by
    cases q with
    | lst hp ha =>
      rename_i p xs ds
      cases e : asInts ds with
      | none =>
        unfold intsM at z
        simp only [e] at z
        exact z.elim
      | some ns =>
        unfold intsM at z
        simp only [e] at z
        obtain rfl := asInts_eq e
        have := Dq.ints_eq ha
        subst this
        exact h _ ns o F D H Q xk l (SqL.of (l.fh _ _ hp)) z
    | _ => exact z.elim
theorem ok_bools {r : List V → Hp → VK → Prop} {f : List Bool → M PyData} (mo : ∀ a, Mono (f a)) (h : ∀ (a : Addr) (ns : List Bool) o F D H Q xk, Lay o F D H → SqL K H a (ns.map V.bl) → f ns (fun d => ∀ v F' D' H', Grow o F D F' D' H' → Dq K F' v d → Q v H') xk → r [.ref a] H Q) : OpWsok K r (un1 fun d => boolsM d f) :=
  ok1 (mono_boolsM mo) fun a x o F D H Q xk l q z => by
    cases q with
    | lst hp ha =>
      rename_i p xs ds
      cases e : asBools ds with
      | none =>
        unfold boolsM at z
        simp only [e] at z
        exact z.elim
      | some ns =>
        unfold boolsM at z
        simp only [e] at z
        obtain rfl := asBools_eq e
        have := Dq.bls_eq ha
        subst this
        exact h _ ns o F D H Q xk l (SqL.of (l.fh _ _ hp)) z
    | _ => exact z.elim
def sumM (d : PyData) : M PyData := intsM d fun ns => pureT (.int ns.sum)
theorem ok_sumM : OpWsok K (rSum K) (un1 sumM) := ok_ints (fun _ => .pure) fun a ns o F D H Q xk l hs z => ⟨a, ns, rfl, hs, z _ F D H (.refl l) (.int _)⟩
def maxM (d : PyData) : M PyData := intsM d fun ns => guardT (ns ≠ []) (pureT (.int (mxD 0 ns)))
theorem ok_maxM : OpWsok K (rMax K) (un1 maxM) := ok_ints (fun _ => .guard .pure) fun a ns o F D H Q xk l hs z => by
  cases ns with
  | nil => exact absurd rfl z.1
  | cons n ns => exact ⟨a, n :: ns, rfl, hs, by simp, fun m h1 h2 => by rw [mxL_eq h1 h2]; exact z.2 _ F D H (.refl l) (.int _)⟩
/-- the least -/
def mnL (x : Int) (ys : List Int) : Int := -(mxL (-x) (ys.map fun y => -y))
def mnD (d : Int) : List Int → Int
  | [] => d
  | x :: xs => mnL x xs
theorem mnL_eq {x m : Int} {ys : List Int} (h1 : m ∈ x :: ys) (h2 : ∀ z ∈ x :: ys, m ≤ z) : m = mnL x ys := by
  unfold mnL
  have := mxL_eq (x := -x) (m := -m) (ys := ys.map fun y => -y) (by
    rcases List.mem_cons.mp h1 with rfl | h
    · exact List.mem_cons_self
    · exact List.mem_cons_of_mem _ (List.mem_map.mpr ⟨m, h, rfl⟩)) (fun z hz => by
    rcases List.mem_cons.mp hz with rfl | h
    · have := h2 x List.mem_cons_self; omega
    · obtain ⟨y, hy, rfl⟩ := List.mem_map.mp h
      have := h2 y (List.mem_cons_of_mem _ hy); omega)
  omega
theorem kmin (hK : X.K = K := by rfl) (hc : X.calm = true := by rfl) : CallR X (.builtin "min") (rMin K) := by subst hK; exact cr_min hc
def minM (d : PyData) : M PyData := intsM d fun ns => guardT (ns ≠ []) (pureT (.int (mnD 0 ns)))
theorem ok_minM : OpWsok K (rMin K) (un1 minM) := ok_ints (fun _ => .guard .pure) fun a ns o F D H Q xk l hs z => by
  cases ns with
  | nil => exact absurd rfl z.1
  | cons n ns => exact ⟨a, n :: ns, rfl, hs, by simp, fun m h1 h2 => by rw [mnL_eq h1 h2]; exact z.2 _ F D H (.refl l) (.int _)⟩
def allM (d : PyData) : M PyData := boolsM d fun ns => pureT (.bool (ns.all id))
theorem ok_allM : OpWsok K (rAll K) (un1 allM) := ok_bools (fun _ => .pure) fun a ns o F D H Q xk l hs z => ⟨a, ns, rfl, hs, z _ F D H (.refl l) (.bl _)⟩
def anyM (d : PyData) : M PyData := boolsM d fun ns => pureT (.bool (ns.any id))
theorem ok_anyM : OpWsok K (rAny K) (un1 anyM) := ok_bools (fun _ => .pure) fun a ns o F D H Q xk l hs z => ⟨a, ns, rfl, hs, z _ F D H (.refl l) (.bl _)⟩
/-- sorted, of numbers -/
def sortM (d : PyData) : M PyData := intsM d fun ns => pureT (.list ((ns.mergeSort fun a b => decide (a ≤ b)).map .int))
def max2M : PyData → PyData → M PyData
  | .int i, .int j => pureT (.int (if j > i then j else i))
  | _, _ => failT
def min2M : PyData → PyData → M PyData
  | .int i, .int j => pureT (.int (if j < i then j else i))
  | _, _ => failT
def gcdM : PyData → PyData → M PyData
  | .int i, .int j => pureT (.int ((Nat.gcd i.natAbs j.natAbs : Nat) : Int))
  | _, _ => failT
def lcmM : PyData → PyData → M PyData
  | .int i, .int j => guardT (i.natAbs < 2 ^ 9000 ∧ j.natAbs < 2 ^ 9000) (pureT (.int ((Nat.lcm i.natAbs j.natAbs : Nat) : Int)))
  | _, _ => failT
theorem ok_max2M : OpWsok K (fun xs H Q => ∃ i j, xs = [.int i, .int j] ∧ Q (.int (if j > i then j else i)) H) (un2 max2M) := ok2 (fun a b => by unfold max2M; split <;> first | exact .pure | exact .fail) fun a b x y o F D H Q xk l h1 h2 z => by
  unfold max2M at z
  split at z
  · cases h1; cases h2; exact ⟨_, _, rfl, z _ F D H (.refl l) (.int _)⟩
  · exact z.elim
theorem ok_min2M : OpWsok K (fun xs H Q => ∃ i j, xs = [.int i, .int j] ∧ Q (.int (if j < i then j else i)) H) (un2 min2M) := ok2 (fun a b => by unfold min2M; split <;> first | exact .pure | exact .fail) fun a b x y o F D H Q xk l h1 h2 z => by
  unfold min2M at z
  split at z
  · cases h1; cases h2; exact ⟨_, _, rfl, z _ F D H (.refl l) (.int _)⟩
  · exact z.elim
theorem ok_gcdM : OpWsok K rGcd (un2 gcdM) := ok2 (fun a b => by unfold gcdM; split <;> first | exact .pure | exact .fail) fun a b x y o F D H Q xk l h1 h2 z => by
  unfold gcdM at z
  split at z
  · cases h1; cases h2; exact ⟨_, _, rfl, z _ F D H (.refl l) (.int _)⟩
  · exact z.elim
theorem ok_lcmM : OpWsok K rLcm (un2 lcmM) := ok2 (fun a b => by unfold lcmM; split <;> first | exact .guard .pure | exact .fail) fun a b x y o F D H Q xk l h1 h2 z => by
  unfold lcmM at z
  split at z
  · cases h1; cases h2; exact ⟨_, _, rfl, z.1.1, z.1.2, z.2 _ F D H (.refl l) (.int _)⟩
  · exact z.elim
theorem px_callBf {x : Str} {id : String} {r : List V → Hp → VK → Prop} {f : List PyData → M PyData} (hc : CallR X (.builtin id) r) (q : OpWsok K r f) (ha : PXs K X c Γ (e :: es) ts) (hm : X.mg x = some (.builtin id)) (hg : Gl X x := by rfl) (hK : X.K = K := by rfl) (hdb : (x == ("__debug__" : Str)) = false := by decide)
    (he : starEach (e :: es) X.env = (false, eval e X.env) :: starEach es X.env := by rfl) (hpl : (backTo pos (starEach es X.env)).any (·.1) = false := by rfl) : PX K X c Γ (.Call (.Name x p) (e :: es) [] pos) (bindT ts f) :=
  .of (pe_callBfun hc hg hm ha.pa hdb he hpl) (.bind ha.mo q.mo) (fun o B F0 F D σ H Q s z => args_w ha q s z) hK
/-! isinstance -/
def tyD' : PyData → String
  | .none => "NoneType"
  | .bool _ => "bool"
  | .int _ => "int"
  | .str _ => "str"
  | .list _ => "list"
  | .tuple _ => "tuple"
  | .dict _ => "dict"
theorem Dq.ty' {F H : Hp} {v : V} {d : PyData} (h : Dq K F v d) (e : Same F H) : TyX K H v (.type (tyD' d)) := by
  cases h with
  | non => exact .base .non
  | bl b => exact .base (.bl b)
  | int i => exact .base (.int i)
  | str x => exact .base (.str x)
  | lst h _ => exact .base (.lst (e _ _ h))
  | tup h _ => exact .base (.tup (e _ _ h))
  | dnil h => exact .base (.dK (e _ _ h))
def isT : PyData → Bool
  | .tuple _ => true
  | _ => false
def isI : PyData → Bool
  | .int _ => true
  | .bool _ => true
  | _ => false
def isB : PyData → Bool
  | .bool _ => true
  | _ => false
def isS : PyData → Bool
  | .str _ => true
  | _ => false
def isL : PyData → Bool
  | .list _ => true
  | _ => false
/-- isinstance(e, T) -/
structure Kit (T : String) (f : PyData → Bool) : Prop where
  ok : ∀ (K : PySem.W.Frag) d, PySem.W.kitOne K (.type (tyD' d)) (.type T) = some (f d)
theorem kit_tuple : Kit "tuple" isT := ⟨fun K d => kit_ty (by cases d <;> (simp only [tyD', isT]; decide +kernel))⟩
theorem kit_int : Kit "int" isI := ⟨fun K d => kit_ty (by cases d <;> (simp only [tyD', isI]; decide +kernel))⟩
theorem kit_bool : Kit "bool" isB := ⟨fun K d => kit_ty (by cases d <;> (simp only [tyD', isB]; decide +kernel))⟩
theorem kit_str : Kit "str" isS := ⟨fun K d => kit_ty (by cases d <;> (simp only [tyD', isS]; decide +kernel))⟩
theorem kit_list : Kit "list" isL := ⟨fun K d => kit_ty (by cases d <;> (simp only [tyD', isL]; decide +kernel))⟩
def isiM (f : PyData → Bool) (d : PyData) : M PyData := pureT (.bool (f d))
theorem px_isi {x y : Str} {T : String} {f : PyData → Bool} (k : Kit T f) (h : PX K X c Γ e t) (hx : x = "isinstance" := by rfl) (hg : Gl X x := by rfl) (hm : X.mg x = none) (hg2 : Gl X y := by rfl) (hm2 : X.mg y = none) (hv2 : bootBuiltins y = some (.type T) := by decide +kernel) (hn2 : y ≠ "__name__" := by decide) (hd2 : (y == ("__debug__" : Str)) = false := by decide) {p1 : Pos}
    (hs : starEach [e, .Name y p1] X.env = (false, eval e X.env) :: starEach [.Name y p1] X.env := by rfl) (hs2 : starEach [.Name y p1] X.env = (false, eval (.Name y p1) X.env) :: starEach [] X.env := by rfl) (hpl : (backTo pos (starEach [.Name y p1] X.env)).any (·.1) = false := by rfl) :
    PX K X c Γ (.Call (.Name x p) [e, .Name y p1] [] pos) (bindT t (isiM f)) := by
  subst hx
  refine .of (pe_callB (kisi K h.hK) hg hm (by decide +kernel) (pa_cons h.pe (pa_cons (pe_bltn (v := .ty T) (u := .type T) hg2 hm2 hv2 rfl hn2 hd2) pa_nil hs2) hs) (by decide) (by decide) hs hpl) (.bind h.mo fun _ => .pure) (fun o B F0 F D σ H Q s z => ⟨o, B, F0, F, D, s, h.mo.mono (fun d z1 v F1 D1 H1 g1 q1 => ?_) (fun _ h => h) z⟩) h.hK
  exact ⟨_, _, _, _, _, rfl, .ty _, q1.ty' g1.lay.fh, k.ok K d, z1 _ F1 D1 H1 g1 (.bl _)⟩
/-! tuple(range(e)), list(range(e)) -/
def rgI (d : PyData) : M (List PyData) := match d with
  | .int i => guardT (0 ≤ i ∧ i ≤ 1000000) (pureT (rgD 0 i.toNat))
  | _ => failT
theorem mono_rgI (d : PyData) : Mono (rgI d) := by cases d <;> first | exact .guard .pure | exact .fail
theorem rgV_data (F : Hp) (i : Int) (h : 0 ≤ i) : DqAll K F (rgV 0 i) (rgD 0 i.toNat) := by
  obtain ⟨m, rfl⟩ : ∃ m : Nat, i = m := ⟨i.toNat, by omega⟩
  rw [rg_ints, Int.toNat_natCast, rgD_nat]
  exact rg_data m F
theorem px_tupRg {p2 pos2 : Pos} (h : PX K X c Γ a t) (hg : Gl X "tuple") (hm : X.mg "tuple" = none) (hg2 : Gl X "range") (hm2 : X.mg "range" = none) (hc : X.calm = true := by rfl)
    (na : starEach [.Call (.Name "range" p2) [a] [] pos2] X.env = (false, eval (.Call (.Name "range" p2) [a] [] pos2) X.env) :: starEach [] X.env := by rfl) (na2 : starEach [a] X.env = (false, eval a X.env) :: starEach [] X.env := by rfl) : PX K X c Γ (.Call (.Name "tuple" p) [.Call (.Name "range" p2) [a] [] pos2] [] pos) (bindT t fun d => bindT (rgI d) fun ds => pureT (.tuple ds)) :=
  .of (pe_tupRg hc hg hm (prg_1 hg2 hm2 h.pe na2) na) (.bind h.mo fun _ => .bind (mono_rgI _) fun _ => .pure) (fun o B F0 F D σ H Q s z => ⟨o, B, F0, F, D, s, h.mo.mono (fun d z1 v F1 D1 H1 g1 q1 => by
    cases q1 with
    | int i => exact ⟨i, rfl, RgOk.of_le (by omega) (by have := z1.1.2; omega) (by omega) z1.1.1, fun q hq => z1.2 _ _ _ _ (g1.trans (.new g1.lay hq)) (.tup upd_same (rgV_data _ i z1.1.1))⟩
    | _ => exact False.elim z1) (fun _ h => h) z⟩) h.hK
theorem pfw_listRg {p2 pos2 : Pos} (h : PX K X c Γ a t) (hg : Gl X "list") (hm : X.mg "list" = none) (hg2 : Gl X "range") (hm2 : X.mg "range" = none) (hc : X.calm = true := by rfl)
    (na : starEach [.Call (.Name "range" p2) [a] [] pos2] X.env = (false, eval (.Call (.Name "range" p2) [a] [] pos2) X.env) :: starEach [] X.env := by rfl) (na2 : starEach [a] X.env = (false, eval a X.env) :: starEach [] X.env := by rfl) : PXf K X c Γ (.Call (.Name "list" p) [.Call (.Name "range" p2) [a] [] pos2] [] pos) (bindT t rgI) :=
  ⟨h.hK, .bind h.mo mono_rgI, pe_imp (pe_listRg hc hg hm (prg_1 hg2 hm2 h.pe na2) na) fun σ H Q ⟨o, B, F0, F, D, s, z⟩ => ⟨o, B, F0, F, D, s, h.mo.mono (fun d z1 v F1 D1 H1 g1 q1 => by
    cases q1 with
    | int i => exact ⟨i, rfl, RgOk.of_le (by omega) (by have := z1.1.2; omega) (by omega) z1.1.1, fun q hq => FreshQ.push g1 (rgV_data F1 i z1.1.1) z1.2 q hq⟩
    | _ => exact False.elim z1) (fun _ h => h) z⟩⟩
/-! truth -/
def truM : PyData → M Bool
  | .none => pureT false
  | .bool b => pureT b
  | .int i => pureT (i != 0)
  | .list s => pureT (!s.isEmpty)
  | .tuple s => pureT (!s.isEmpty)
  | _ => failT
theorem mono_truM (d : PyData) : Mono (truM d) := by cases d <;> first | exact .pure | exact .fail
theorem isEmpty_len {α β : Type} {xs : List α} {ys : List β} (h : xs.length = ys.length) : (!xs.isEmpty) = !ys.isEmpty := by
  cases xs <;> cases ys <;> first | rfl | (simp at h)
theorem PX.truth (h : PX K X c Γ e t) (he : ∀ whole, isTrue e X.env whole = (do let v ← whole; standAt e.pos; holding [v] (truthy v)) := by intro _; rfl) : PXb K X c Γ e (bindT t truM) := by
  have hK := h.hK
  subst hK
  refine ⟨rfl, .bind h.mo mono_truM, pt_imp (pt_truth h.pe he) fun σ H Q ⟨o, B, F0, F, D, s, z⟩ => ⟨o, B, F0, F, D, s, h.mo.mono (fun d z1 v F1 D1 H1 g1 q1 => ?_) (fun _ h => h) z⟩⟩
  cases q1 with
  | non => exact ⟨_, rfl, z1 F1 D1 H1 g1⟩
  | bl b => exact ⟨_, rfl, z1 F1 D1 H1 g1⟩
  | int i => exact ⟨_, rfl, z1 F1 D1 H1 g1⟩
  | lst hp ha => exact ⟨_, .inl ⟨_, SqL.of (g1.lay.fh _ _ hp), rfl⟩, by rw [isEmpty_len ha.length]; exact z1 F1 D1 H1 g1⟩
  | tup hp ha => exact ⟨_, .inr (.inl ⟨_, SqT.of (g1.lay.fh _ _ hp), rfl⟩), by rw [isEmpty_len ha.length]; exact z1 F1 D1 H1 g1⟩
  | _ => exact False.elim z1
/-! a < b < c -/
def chainM (f g : PyData → PyData → M PyData) (x y z : PyData) : M PyData := bindT (boolT (f x y)) fun k => if k = true then bindT (boolT (g y z)) fun l => pureT (.bool l) else pureT (.bool false)
theorem mono_chainM {f g : PyData → PyData → M PyData} (hf : ∀ a b, Mono (f a b)) (hg : ∀ a b, Mono (g a b)) (x y z : PyData) : Mono (chainM f g x y z) := .bind (hf _ _).boolT fun _ => .ite (.bind (hg _ _).boolT fun _ => .pure) .pure
theorem px_chain {cc : Expr} {tc : M PyData} {op op' : CmpOp} {r r' : R2} {f g : PyData → PyData → M PyData} (ho : OpR X (compareOp op) r) (ho' : OpR X (compareOp op') r') (q : OpW2ok K r f) (q' : OpW2ok K r' g) (ha : PX K X c Γ a ta) (hb : PX K X c Γ b tb) (hcc : PX K X c Γ cc tc)
    (hm : lastMarks [op, op'] [b, cc] = false := by with_unfolding_all rfl) : PX K X c Γ (.Compare a [op, op'] [b, cc] pos) (bindT ta fun x => bindT tb fun y => bindT (boolT (f x y)) fun k => if k = true then bindT tc fun z => bindT (boolT (g y z)) fun l => pureT (.bool l) else pureT (.bool false)) := by
  refine .of (pe_chain ho ho' ha.pe hb.pe hcc.pe hm) (.bind ha.mo fun _ => .bind hb.mo fun _ => .bind (q.mo _ _).boolT fun _ => .ite (.bind hcc.mo fun _ => .bind (q'.mo _ _).boolT fun _ => .pure) .pure) (fun o B F0 F D σ H Q s z => ?_) ha.hK
  refine ⟨o, B, F0, F, D, s, ha.mo.mono (fun da z1 x F1 D1 H1 g1 q1 => ⟨o, B, F0, F1, D1, s.grow g1, hb.mo.mono (fun db z2 y F2 D2 H2 g2 q2 => ?_) (fun _ h => h) z1⟩) (fun _ h => h) z⟩
  have q1 := q1.same g2.ff
  have s2 := (s.grow g1).grow g2
  refine q.op da db x y o F2 D2 H2 _ (XW K X.mg c o B F0) g2.lay q1 q2 ((q.mo da db).mono (fun d z3 v F3 D3 H3 g3 q3 => ?_) (fun _ h => h) z2)
  cases q3 with
  | bl k =>
    refine ⟨k, rfl, ?_⟩
    cases k with
    | false => exact z3 _ F3 D3 H3 ((g1.trans g2).trans g3) (.bl false)
    | true =>
      refine ⟨o, B, F0, F3, D3, s2.grow g3, hcc.mo.mono (fun dc z4 w F4 D4 H4 g4 q4 => ?_) (fun _ h => h) z3⟩
      refine q'.op db dc y w o F4 D4 H4 Q (XW K X.mg c o B F0) g4.lay ((q2.same g3.ff).same g4.ff) q4 ((q'.mo db dc).mono (fun d z5 v F5 D5 H5 g5 q5 => ?_) (fun _ h => h) z4)
      cases q5 with
      | bl l => exact z5 _ F5 D5 H5 ((((g1.trans g2).trans g3).trans g4).trans g5) (.bl l)
      | _ => exact False.elim z5
  | _ => exact False.elim z3
end
end Nk
set_option Elab.async false
set_option linter.all false
set_option maxRecDepth 100000
set_option maxHeartbeats 4000000
namespace Nk
open PySem L2
section
variable {K : PySem.W.Frag} {X : Cx} {c : Ct} {Γ : GE} {e a b : Expr} {es : List Expr} {t ta tb : M PyData} {ts : M (List PyData)} {pos p : Pos}
variable {S R : Type} {G : S → GE} {GR : R → GE} {w : M (Fl S R)} {st : Stmt} {rest body orelse : List Stmt}
/-! several names at once -/
theorem off2 {c : Ct} {i j : Nat} (h : c.off [i] = true) (g : c.off [j] = true) : True := trivial
/-- a, b = e -/
theorem pbk_two {i j : Nat} {x y : Str} {k : Nat} {px py tpos : Pos} {w : PyData × PyData → M (Fl S R)} (nd : X.N.Nodup) (hi : X.N[i]? = some x) (hj : X.N[j]? = some y) (hx : Loc X.env.scope x) (hy : Loc X.env.scope y) (hin : i < c.n) (hjn : j < c.n) (hij : i ≠ j) (ho : c.off [i] = true) (ho2 : c.off [j] = true) (hc : X.calm = true) (h : PX K X c Γ e t)
    (g : ∀ d, PBk' K X c (setE j (.dat d.2) (setE i (.dat d.1) Γ)) rest G GR (w d))
    (hs : swapsWithSole [.Tuple [.Name x px, .Name y py] k tpos] e pos.line X.env = pure false := by rfl) (hw : swappedStores [.Tuple [.Name x px, .Name y py] k tpos] e X.env = pure none := by rfl)
    (h1 : (assignEach [.Tuple [.Name x px, .Name y py] k tpos] X.env).map (·.2) = [assign (.Tuple [.Name x px, .Name y py] k tpos) X.env] := by rfl)
    (hl : (assignEach [.Name x px, .Name y py] X.env).length = 2 := by rfl) (hst : (assignEach [.Name x px, .Name y py] X.env).findIdx? (·.1) = none := by rfl)
    (hq1 : (assignEach [.Name x px, .Name y py] X.env).map (·.2) = assign (.Name x px) X.env :: (assignEach [.Name y py] X.env).map (·.2) := by rfl) (hq2 : (assignEach [.Name y py] X.env).map (·.2) = assign (.Name y py) X.env :: (assignEach [] X.env).map (·.2) := by rfl)
    (hf : X.fn x = true ∨ X.env.scope.names.lookup x = some .local := by first | exact .inl rfl | exact .inr rfl | assumption) (hf2 : X.fn y = true ∨ X.env.scope.names.lookup y = some .local := by first | exact .inl rfl | exact .inr rfl | assumption) :
    PBk' K X c Γ (.Assign [.Tuple [.Name x px, .Name y py] k tpos] e pos :: rest) G GR (bindT t fun d => bindT (optT (dec2 d)) w) := by
  have hK := h.hK
  subst hK
  refine ⟨.bind h.mo fun d => .bind (mono_optT _) fun d => (g d).mo, pss_imp (pss_cons (ps_asg h.pe (pg_tup hc (pgs_cons (pg_name (i := i) nd hi hx hf) (pgs_cons (pg_name (i := j) nd hj hy hf2) pgs_nil hq2) hq1) hl hst) hs hw h1) (pss_ex fun d => (g d).ps)) fun E σ H ⟨o, B, F0, F, D, st, z⟩ => ⟨o, B, F0, F, D, st, h.mo.mono (fun d z1 v F' D' H' gr q => ?_) (fun _ h => h) z⟩⟩
  have z1 : bindT (optT (dec2 d)) w (EndW X.K c G GR o B F0 F E) (XW X.K X.mg c o B F0) := z1
  cases e2 : dec2 d with
  | none => rw [e2] at z1; exact z1.elim
  | some pr =>
    rw [e2] at z1
    unfold dec2 at e2
    split at e2
    · cases e2
      cases q with
      | tup hp ha =>
        cases ha with
        | cons q1 ha =>
          cases ha with
          | cons q2 ha =>
            cases ha
            refine ⟨_, _, rfl, SqT.of (gr.lay.fh _ _ hp), rfl, _, _, rfl, _, _, rfl, rfl, ?_⟩
            exact ⟨_, o, B, F0, F', D', ((st.grow gr).setD hin ho q1).setD hjn ho2 q2, (g _).mo.mono (fun _ q => q.up gr.ff) (fun _ h => h) z1⟩
    · cases e2
/-- a, b, c = e -/
def dec3 : PyData → Option (PyData × PyData × PyData)
  | .tuple [a, b, c] => some (a, b, c)
  | _ => none
/-- a, b = e, f: each may be a new list of one's own -/
inductive AK where
  | dat
  | own
def AK.cell : AK → PyData → Cell
  | .dat, d => .dat d
  | .own, .list ds => .own ds
  | .own, d => .dat d
def AKOk (K : PySem.W.Frag) (D F' D' : Hp) (v : V) (d : PyData) : AK → Prop
  | .dat => Dq K F' v d
  | .own => ∃ ds p vs, d = .list ds ∧ v = .ref p ∧ F' p = none ∧ D p = none ∧ D' p = some (.lst vs) ∧ DqAll K F' vs ds
structure PXa (K : PySem.W.Frag) (X : Cx) (c : Ct) (Γ : GE) (k : AK) (e : Expr) (t : M PyData) : Prop where
  hK : X.K = K
  mo : Mono t
  pe : PE X e (fun σ H Q => ∃ o B F0 F D, StW K c Γ o B F0 F D σ H ∧ t (fun d => ∀ v F' D' H', Grow o F D F' D' H' → AKOk K D F' D' v d k → Q v H') (XW K X.mg c o B F0))
theorem PX.ak (h : PX K X c Γ e t) : PXa K X c Γ .dat e t := ⟨h.hK, h.mo, h.pe⟩
theorem PXf.ak {t : M (List PyData)} (h : PXf K X c Γ e t) : PXa K X c Γ .own e (lstV t) := ⟨h.hK, .bind h.mo fun _ => .pure, pe_imp h.pe fun σ H Q ⟨o, B, F0, F, D, s, z⟩ => ⟨o, B, F0, F, D, s, h.mo.mono (fun ds z1 p vs F' D' H' g h1 h2 h3 h4 => z1 _ _ _ _ g ⟨ds, p, vs, rfl, rfl, h1, h2, h3, h4⟩) (fun _ h => h) z⟩⟩
theorem par_set {o : OO} {B F0 F D F1 D1 H1 F2 D2 H2 : Hp} {σ : St} {H : Hp} {i j : Nat} {x y : V} {da db : PyData} {ka kb : AK} (s : StW K c Γ o B F0 F D σ H) (g1 : Grow o F D F1 D1 H1) (g2 : Grow o F1 D1 F2 D2 H2) (hin : i < c.n) (hjn : j < c.n) (hij : i ≠ j) (ho : c.off [i] = true) (ho2 : c.off [j] = true)
    (q1 : AKOk K D F1 D1 x da ka)
    (q2 : AKOk K D1 F2 D2 y db kb) : StW K c (setE j (kb.cell db) (setE i (ka.cell da) Γ)) o B F0 F2 D2 ((σ.set i (some x)).set j (some y)) H2 := by
  have s2 := (s.grow g1).grow g2
  have a1 : StW K c (setE i (ka.cell da) Γ) o B F0 F2 D2 (σ.set i (some x)) H2 ∧ ∀ p, D1 p = none → ∀ r ∈ setE i (ka.cell da) Γ, r.2.isOwn = true → (σ.set i (some x))[r.1]? ≠ some (some (.ref p)) := by
    have rest : ∀ p, D1 p = none → ∀ r ∈ drpE i Γ, r.2.isOwn = true → (σ.set i (some x))[r.1]? ≠ some (some (.ref p)) := fun p hp r hr eo => by
      have hr' := List.mem_filter.mp hr
      have ne : i ≠ r.1 := fun z => by have := hr'.2; rw [← z] at this; simp at this
      rw [List.getElem?_set_ne ne]
      exact s.env.apart g1 (g1.dd.free hp) r hr'.1 eo
    cases ka with
    | dat =>
      refine ⟨s2.setD hin ho (q1.same g2.ff), fun p hp r hr eo => ?_⟩
      rcases mem_setE hr with rfl | hr
      · cases eo
      · exact rest p hp r hr eo
    | own =>
      obtain ⟨ds, q, vs, rfl, rfl, h1, h2, h3, h4⟩ := q1
      have h1' : F2 q = none := by
        cases z : F2 q with
        | none => rfl
        | some u =>
          have := g2.fresh q u z h1
          rw [h3] at this; cases this
      refine ⟨s2.setO hin ho h1' (s.gb.dd.free h2) (g2.dd _ _ h3) (h4.same g2.ff) (s.env.apart g1 h2), fun p hp r hr eo => ?_⟩
      rcases mem_setE hr with rfl | hr
      · show (σ.set i _)[i]? ≠ _
        rw [List.getElem?_set_self (by rw [s.len]; exact hin)]
        intro z
        cases z
        rw [h3] at hp; cases hp
      · exact rest p hp r hr eo
  obtain ⟨s3, n3⟩ := a1
  cases kb with
  | dat => exact s3.setD hjn ho2 q2
  | own =>
    obtain ⟨ds, q, vs, rfl, rfl, h1, h2, h3, h4⟩ := q2
    exact s3.setO hjn ho2 h1 (s.gb.dd.free (g1.dd.free h2)) h3 h4 (n3 q h2)
theorem pbk_par {i j : Nat} {x y : Str} {ka kb : AK} {px py pt : Pos} {kt k2 : Nat} {pt2 : Pos} {w : PyData → PyData → M (Fl S R)} (nd : X.N.Nodup) (hi : X.N[i]? = some x) (hj : X.N[j]? = some y) (hij : i ≠ j) (hx : X.env.scope.names.lookup x = some .local) (hy : X.env.scope.names.lookup y = some .local) (hin : i < c.n) (hjn : j < c.n) (ho : c.off [i] = true) (ho2 : c.off [j] = true) (hc : X.calm = true)
    (h : PXa K X c Γ ka a ta) (h2 : PXa K X c Γ kb b tb) (g : ∀ d d', PBk' K X c (setE j (kb.cell d') (setE i (ka.cell d) Γ)) rest G GR (w d d')) (hw : swappedStores [.Tuple [.Name x px, .Name y py] kt pt] (.Tuple [a, b] k2 pt2) X.env = pure (some [x, y]))
    (hs : swapsWithSole [.Tuple [.Name x px, .Name y py] kt pt] (.Tuple [a, b] k2 pt2) pos.line X.env = pure false := by rfl)
    (hs1 : starEach [a, b] X.env = (false, eval a X.env) :: starEach [b] X.env := by rfl) (hs2 : starEach [b] X.env = (false, eval b X.env) :: starEach [] X.env := by rfl) :
    PBk' K X c Γ (.Assign [.Tuple [.Name x px, .Name y py] kt pt] (.Tuple [a, b] k2 pt2) pos :: rest) G GR (bindT ta fun d => bindT tb fun d' => w d d') := by
  refine ⟨.bind h.mo fun d => .bind h2.mo fun d' => (g d d').mo, pss_imp (pss_cons (ps_par hc nd hi hj hij hx hy (pa_cons h.pe (pa_cons h2.pe pa_nil hs2) hs1) hw hs) (pss_ex fun d => pss_ex fun d' => (g d d').ps)) fun E σ H ⟨o, B, F0, F, D, st, z⟩ => ?_⟩
  refine ⟨o, B, F0, F, D, st, h.mo.mono (fun d z1 v F1 D1 H1 g1 q1 => ⟨o, B, F0, F1, D1, st.grow g1, h2.mo.mono (fun d' z2 v' F2 D2 H2 g2 q2 => ?_) (fun _ h => h) z1⟩) (fun _ h => h) z⟩
  exact ⟨v, v', rfl, d, d', o, B, F0, F2, D2, par_set st g1 g2 hin hjn hij ho ho2 q1 q2, (g d d').mo.mono (fun _ q => q.up (g1.trans g2).ff) (fun _ h => h) z2⟩
/-- while -/
def whileN {L : Type} (cnd : L → M Bool) (bd : L → M (Fl L L)) : Nat → L → M (L ⊕ PyData)
  | 0, _ => failT
  | n + 1, s => bindT (cnd s) fun b => if b = true then bindT (bd s) fun fl => match fl with
      | .nx s' => whileN cnd bd n s'
      | .ct s' => whileN cnd bd n s'
      | .bk s' => pureT (.inl s')
      | .rt d => pureT (.inr d)
    else pureT (.inl s)
/-- some number of turns is enough -/
def whileM {L : Type} (cnd : L → M Bool) (bd : L → M (Fl L L)) (s : L) : M (L ⊕ PyData) := fun k x => ∃ n, whileN cnd bd n s k x
theorem mono_whileN {L : Type} {cnd : L → M Bool} {bd : L → M (Fl L L)} (hc : ∀ s, Mono (cnd s)) (hb : ∀ s, Mono (bd s)) : ∀ n s, Mono (whileN cnd bd n s)
  | 0, s => .fail
  | n + 1, s => by
    refine .bind (hc s) fun b => .ite (.bind (hb s) fun fl => ?_) .pure
    cases fl with
    | nx s' => exact mono_whileN hc hb n s'
    | ct s' => exact mono_whileN hc hb n s'
    | bk s' => exact .pure
    | rt d => exact .pure
theorem mono_whileM {L : Type} {cnd : L → M Bool} {bd : L → M (Fl L L)} (hc : ∀ s, Mono (cnd s)) (hb : ∀ s, Mono (bd s)) (s : L) : Mono (whileM cnd bd s) := ⟨fun hk hx ⟨n, q⟩ => ⟨n, (mono_whileN hc hb n s).mono hk hx q⟩⟩
def WhI (K : PySem.W.Frag) (c : Ct) {L : Type} (GL : L → GE) (cnd : L → M Bool) (bd : L → M (Fl L L)) (o : OO) (B F0 F : Hp) (k : Fl S R → Prop) (xk : Exn → Prop) (w : L → M (Fl S R)) (m : Nat) (σ : St) (H : Hp) : Prop :=
  ∃ s F' D', Same F F' ∧ StW K c (GL s) o B F0 F' D' σ H ∧ whileN cnd bd m s (fun r => match r with | .inl s => w s k xk | .inr d => k (.rt d)) xk
theorem pbk_while {L : Type} {GL : L → GE} {s0 : L} {cx : Expr} {cnd : L → M Bool} {bd : L → M (Fl L L)} {w : L → M (Fl S R)} (Sl : List Nat)
    (hp : PassesOwn (model X.prog X.w) X.A X.env X.xe) (hG : keepE Sl Γ = GL s0) (hcd : ∀ s, PXb K X c (GL s) cx (cnd s)) (hb : ∀ s, PBk' K X c (GL s) body GL GL (bd s)) (hr : ∀ s, PBk' K X c (GL s) rest G GR (w s)) :
    PBk' K X c Γ (.While cx body [] pos :: rest) G GR (onL (whileM cnd bd s0) w) := by
  have mc : ∀ s, Mono (cnd s) := fun s => (hcd s).mo
  have mb : ∀ s, Mono (bd s) := fun s => (hb s).mo
  refine ⟨.onL (mono_whileM mc mb s0) fun s => (hr s).mo, ?_⟩
  refine pss_imp (pss_cons (ps_while hp (show PT X cx (fun σ H Q => ∃ s, tWb K X.mg c (GL s) (cnd s) σ H Q) from pt_ex fun s => (hcd s).pt) (show PSs X body (fun E σ H => ∃ s, tBk K X.mg c (GL s) GL GL (bd s) E σ H) from pss_ex fun s => (hb s).ps)) (pss_ex fun s => (hr s).ps)) fun E σ H ⟨o, B, F0, F, D, st, n, z⟩ => ?_
  have s1 : StW K c (GL s0) o B F0 F D σ H := hG ▸ (st.sub List.filter_sublist)
  refine ⟨WhI K c GL cnd bd o B F0 F (EndW K c G GR o B F0 F E) (XW K X.mg c o B F0) w, ⟨n, s0, F, D, Same.refl _, s1, (mono_whileN mc mb n s0).mono (fun r q => by cases r with | inl s => exact q | inr d => exact q) (fun _ h => h) z⟩, ?_⟩
  rintro m σ2 H2 ⟨s, F2, D2, e2, s2, q⟩
  cases m with
  | zero => exact q.elim
  | succ m =>
    refine ⟨s, o, B, F0, F2, D2, s2, (mc s).mono (fun b z1 F3 D3 H3 g3 => ?_) (fun _ h => h) q⟩
    cases b with
    | false => exact iteF ⟨s, o, B, F0, F3, D3, s2.grow g3, (hr s).mo.mono (fun _ q => q.up (e2.trans g3.ff)) (fun _ h => h) z1⟩
    | true =>
      refine iteT ⟨WhI K c GL cnd bd o B F0 F (EndW K c G GR o B F0 F E) (XW K X.mg c o B F0) w m, fun σ' H' q => ⟨m, Nat.lt_succ_self m, q⟩, s, o, B, F0, F3, D3, s2.grow g3, (mb s).mono (fun fl z2 => ?_) (fun _ h => h) z1⟩
      cases fl with
      | nx s' => exact fun σ F' D' H' e s5 => ⟨s', F', D', (e2.trans g3.ff).trans e, s5, z2⟩
      | ct s' => exact fun σ F' D' H' e s5 => ⟨s', F', D', (e2.trans g3.ff).trans e, s5, z2⟩
      | bk s' => exact fun σ F' D' H' e s5 => ⟨s', o, B, F0, F', D', s5, (hr s').mo.mono (fun _ q => q.up ((e2.trans g3.ff).trans e)) (fun _ h => h) z2⟩
      | rt d => exact z2
end
/-! repr -/
def reprM (d : PyData) : M PyData := guardT (Fit 300000 40 d ∧ Uno d) (pureT (.str d.shown))
theorem ok_reprM {K : PySem.W.Frag} : OpWsok K (rRepr K) (un1 reprM) := ok1 (fun a => .guard .pure) fun a x o F D H Q xk l q z =>
  ⟨x, a, rfl, q.same l.fh, z.1.2, z.1.1.sh, z.1.1.dp, z.1.1.show (Nat.le_refl _), z.2 _ F D H (.refl l) (.str _)⟩
end Nk
set_option Elab.async false
set_option linter.all false
set_option maxRecDepth 100000
set_option maxHeartbeats 4000000
namespace Nk
open PySem L2
/-! calls by keywords alone -/
section
variable {K : PySem.W.Frag} {X : Cx} {c : Ct} {Γ : GE} {e a b : Expr} {es : List Expr} {t ta tb : M PyData} {ts : M (List PyData)} {pos p : Pos} {kws : List Keyword}
structure PXk (K : PySem.W.Frag) (X : Cx) (c : Ct) (Γ : GE) (kws : List Keyword) (t : M (List PyData)) : Prop where
  mo : Mono t
  ln : ∀ k x, t k x → t (fun ds => ds.length = kws.length ∧ k ds) x
  pk : PK X kws (tWs K X.mg c Γ t)
theorem pxk_nil : PXk K X c Γ [] nilT := ⟨.pure, fun _ _ h => ⟨rfl, h⟩, ⟨fun pos pins s σ H Q I ⟨o, B, F0, F, D, st, q⟩ => pk_nil.run pos pins s σ H Q I (q [] F D H (.refl st.lay) .nil)⟩⟩
theorem pxk_cons {nm : Option Str} {kpos : Pos} (h : PX K X c Γ e t) (g : PXk K X c Γ kws ts) : PXk K X c Γ (⟨nm, e, kpos⟩ :: kws) (consT t ts) :=
  ⟨.bind h.mo fun _ => .bind g.mo fun _ => .pure, len_cons h.mo g.ln, ⟨fun pos pins s σ H Q I ⟨o, B, F0, F, D, st, z⟩ => (pk_cons h.pe g.pk).run pos pins s σ H Q I ⟨o, B, F0, F, D, st, h.mo.mono (fun d z1 v F1 D1 H1 g1 q1 => ⟨o, B, F0, F1, D1, st.grow g1, g.mo.mono (fun ds z2 vs F2 D2 H2 g2 q2 =>
    z2 (v :: vs) F2 D2 H2 (g1.trans g2) (.cons (q1.same g2.ff) q2)) (fun _ h => h) z1⟩) (fun _ h => h) z⟩⟩⟩
/-- the values in the parameters' order -/
def permL {α : Type} (π : List Nat) (xs : List α) : List α := π.filterMap fun i => xs[i]?
theorem permL_vals {vs : List V} {us : List Value} (h : Vals vs us) : ∀ π : List Nat, Vals (permL π vs) (permL π us)
  | [] => .nil
  | i :: π => by
    unfold permL
    cases e : vs[i]? with
    | none =>
      have e2 : us[i]? = none := by
        rw [List.getElem?_eq_none_iff] at e ⊢
        rw [← h.length]; exact e
      rw [List.filterMap_cons_none e, List.filterMap_cons_none e2]
      exact permL_vals h π
    | some v =>
      obtain ⟨u, e2, r⟩ := h.get e
      rw [List.filterMap_cons_some e, List.filterMap_cons_some e2]
      exact .cons r (permL_vals h π)
theorem permL_data {F : Hp} {vs : List V} {ds : List PyData} (h : DqAll K F vs ds) : ∀ π : List Nat, DqAll K F (permL π vs) (permL π ds)
  | [] => .nil
  | i :: π => by
    unfold permL
    cases e : vs[i]? with
    | none =>
      have e2 : ds[i]? = none := by
        rw [List.getElem?_eq_none_iff] at e ⊢
        rw [← h.length]; exact e
      rw [List.filterMap_cons_none e, List.filterMap_cons_none e2]
      exact permL_data h π
    | some v =>
      obtain ⟨u, e2, r⟩ := h.get e
      rw [List.filterMap_cons_some e, List.filterMap_cons_some e2]
      exact .cons r (permL_data h π)
theorem px_kw {x : Str} {sf : Stmt} {k : Nat} {ps ks : List Str} {wf : List PyData → M PyData} (π : List Nat) (D : Dw X.prog X.w X.K X.mg X.base k x sf ps false wf) (hr : Room k X.A) (tk : Takes X c.W) (hkw : PXk K X c Γ kws ts)
    (hb : ∀ (kV doc pm : Value) (an : Option Addr) (cdv ct : Value) (ws : List Value), ws.length = kws.length → bindArgs (PySem.W.fnOf x x (defArgs sf) (defBody sf) (defScope sf) .none kV doc pm an cdv ct) ⟨[], ks.zip ws⟩ = pure (ps.zip (permL π ws)))
    (hK : X.K = K := by rfl) (hg : Gl X x := by rfl) (hdb : (x == ("__debug__" : Str)) = false := by decide) (hl : ∀ ws : List V, ws.length = kws.length → (permL π ws).length = ps.length)
    (hall : (backToKw pos (keywordEach kws X.env)).all (·.1.isSome) = true := by rfl) (hks : (backToKw pos (keywordEach kws X.env)).filterMap (·.1) = ks := by rfl)
    (hpl : ((backTo pos (starEach [] X.env)).any (·.1) || (backToKw pos (keywordEach kws X.env)).any (·.1.isNone)) = false := by rfl) : PX K X c Γ (.Call (.Name x p) [] kws pos) (bindT ts fun ds => wf (permL π ds)) := by
  obtain ⟨f, fd, F, m, kp, _, Ff⟩ := D.ex
  obtain ⟨oc, od, kV, doc, pm, an, cdv, ct, osl, efd, lk, hcd⟩ := Ff.ex
  refine ⟨hK, .bind hkw.mo fun _ => D.mo _, ⟨fun pins s σ H Q I ⟨o, B, F0, F', D', st, z⟩ => ?_⟩⟩
  refine wpAny_Call_Name_kw (ld_glob I hg m ?_ hdb)
  refine PySem.W.callWith_KW0 (h₀ := X.base) I.ok.mod.kin kp hall ?_ hpl
  have q : tWs K X.mg c Γ ts σ H fun zs H2 => zs.length = kws.length ∧ spW K X.mg false ps.length wf (permL π zs) H2 Q (WE c.W σ) := by
    refine ⟨o, B, F0, F', D', st, hkw.mo.mono (fun ds z1 vs F1 D1 H1 g1 q1 => ?_) (fun _ h => h) (hkw.ln _ _ z)⟩
    have hvl : vs.length = kws.length := by rw [q1.length, z1.1]
    refine ⟨hvl, .no, F1, H1, permL π ds, permL π vs, ⟨g1.lay.fh, Same.refl _, (fun a z => by cases z), (fun p z => by cases z)⟩, hl vs hvl, ⟨rfl, rfl⟩, permL_data q1 π, (D.mo _).mono (fun d z2 v F2 D2 H2 g2 q2 => ?_) (fun ex z2 cv d F2 D2 H2 g2 r => ?_) z1.2⟩
    · exact z2 v F2 _ H2 (g1.trans (g1.lay.beside g2)) q2
    · exact xw_call st z2 cv d F2 _ H2 (g1.trans (g1.lay.beside g2)) r
  refine thn (hkw.pk.run pos pins s σ H _ I q) fun ws s2 ⟨zs, H2, I2, rz, hzl, q2⟩ => ⟨I2.kIn, ?_⟩
  rw [hks]
  subst hK
  have rp := permL_vals rz π
  refine wpAny_call (codeAny_mono (F.run X.A X.stack s2 H2 ⟨[], ks.zip ws⟩ (permL π ws) (permL π zs) Q (WE c.W σ) hr I2.env0 ?_ rp q2) fun r s' hq => ?_)
  · rw [efd]
    exact .of_eq (hb kV doc pm an cdv ct ws (by rw [← rz.length]; exact hzl))
  · cases r with
    | error e => exact passAt tk σ pins H2 s2 e s' I2 hq
    | ok fl =>
      cases fl with
      | ret u => exact I2.after hq
      | next => exact False.elim hq
      | brk => exact False.elim hq
      | cont => exact False.elim hq
end
/-! from promises that are shown -/
section
variable {P : Program} {wd : World} {K : PySem.W.Frag} {mg : Str → Option Value} {base : Heap}
theorem FnOk.cx {k : Nat} {f : Addr} {fd : FuncData} {ps : List Str} {sp : Sp} (F : FnOk P wd K mg base CX0 k f fd ps sp) : FnOk P wd K mg base (L2.CX P wd) k f fd ps sp :=
  ⟨F.len, fun A outer s H args us vs Q E hr he hb hv hs => codeAny_mono (F.run A outer s H args us vs Q E hr he hb hv hs) fun r s' hq => by
    cases r with
    | error e => exact False.elim hq
    | ok fl =>
      cases fl with
      | ret u => exact hq
      | next => exact False.elim hq
      | brk => exact False.elim hq
      | cont => exact False.elim hq⟩
/-- a number below m, any -/
def drawM : PyData → M PyData
  | .int m => guardT (0 < m ∧ m < 2 ^ 64) (bindT (anyT fun r : Int => 0 ≤ r ∧ r < m) fun r => pureT (.int r))
  | _ => failT
theorem mono_drawM (d : PyData) : Mono (drawM d) := by cases d <;> first | exact .guard (.bind .any fun _ => .pure) | exact .fail
/-- all but the deck's own lists -/
theorem Deck.wide {D H : Hp} {a : Addr} (d : Deck D H a) : ∃ D2, Deck D2 H a ∧ Same D D2 ∧ ∀ b u, H b = some u → (∀ xs, u ≠ .lst xs) → D2 b = some u := by
  obtain ⟨s, na, l0, l1, bs, cs, n, n0, n1, ne, ha, h0, h1, hc, hl⟩ := d
  refine ⟨fun b => if b = a ∨ b = l0 ∨ b = l1 then none else H b, ⟨fun b u e => ?_, if_pos (.inl rfl), l0, l1, bs, cs, n, if_pos (.inr (.inl rfl)), if_pos (.inr (.inr rfl)), ne, ha, h0, h1, hc, hl⟩, fun b u e => ?_, fun b u e nl => ?_⟩
  · split at e
    · cases e
    · exact e
  · dsimp only
    rw [if_neg]
    · exact s _ _ e
    · rintro (z | z | z) <;> subst z
      · rw [na] at e; cases e
      · rw [n0] at e; cases e
      · rw [n1] at e; cases e
  · dsimp only
    rw [if_neg]
    · exact e
    · rintro (z | z | z) <;> subst z
      · rw [ha] at e; cases e; exact nl _ rfl
      · rw [h0] at e; cases e; exact nl _ rfl
      · rw [h1] at e; cases e; exact nl _ rfl
theorem TbAs.keepN {T : List (Addr × Str)} {D H D' H' : Hp} (t : TbAs T D H) (k : ∀ b u, H b = some u → D b = none → (∀ xs, u ≠ .lst xs) → D' b = none ∧ H' b = some u) : TbAs T D' H' := fun p hp => by
  obtain ⟨h1, ps, h2, h3, h4⟩ := t p hp
  obtain ⟨e1, e2⟩ := k _ _ h2 h1 (fun xs z => by cases z)
  refine ⟨e1, ps, e2, h3, fun pos cv hc => ?_⟩
  obtain ⟨c, c1, c2, c3⟩ := h4 pos cv hc
  obtain ⟨f1, f2⟩ := k _ _ c3 c2 (fun xs z => by unfold LamX.CodeO at z; cases z)
  exact ⟨c, c1, f1, f2⟩
theorem draw_imp : ∀ vs H Q E, spW K mg true 2 (un1 drawM) vs H Q E → spDraw vs H Q E := by
  rintro vs H Q E ⟨o, F, D, args, rest, l, hl, ho, hq, z⟩
  obtain ⟨odk, otb⟩ := o
  cases odk with
  | none => cases ho.1
  | some a =>
    obtain ⟨_, rfl⟩ := ho
    unfold un1 at z
    split at z
    · cases hq with
      | cons h1 h2 =>
        cases h2
        unfold drawM at z
        split at z
        · cases h1
          obtain ⟨D2, d2, s2, k2⟩ := (l.dk a rfl).wide
          refine ⟨D2, a, _, rfl, d2, z.1.1, z.1.2, fun H' r dk r0 r1 => z.2 r ⟨r0, r1⟩ _ F D H' ?_ (.int r)⟩
          refine ⟨Same.refl _, Same.refl _, fun p x h h' => (by rw [h] at h'; cases h'), l.fd, s2.trans dk.sub, (fun a' e => by cases e; exact dk.less s2), ?_⟩
          refine l.tb.keepN (fun b u hu hb nl => ⟨hb, dk.sub _ _ (k2 b u hu nl)⟩)
        · exact z.elim
    · exact z.elim
/-! the law's own def -/
theorem deck_empty {H H' : Hp} {p : Addr} {T : List (Addr × Str)} (d : Deck H H' p) (t : TbAs T (fun _ => none) H) (hh : Same H H') : Grow ⟨some p, T⟩ (fun _ => none) (fun _ => none) (fun _ => none) (fun _ => none) H' := by
  have e : Same (fun _ => none) H := fun b o z => by cases z
  exact ⟨(fun b o z => by cases z), (fun b o z => by cases z), (fun b o z => by cases z), ⟨(fun b o z => by cases z), (fun b o z => by cases z), (fun a z => by cases z; exact d.less e), t.same hh⟩⟩
abbrev ctL (T : List (Addr × Str)) (n i : Nat) : Ct := ⟨n, some i, [], fun _ _ _ _ => False, T⟩
def lawQ : Fl Unit Empty → Prop
  | .rt d => d = .bool true
  | _ => False
variable {X : Cx} {rest : List Stmt} {w : M (Fl Unit Empty)}
/-- how the law stands at its start -/
def tLaw0 (K : PySem.W.Frag) (T : List (Addr × Str)) (n : Nat) : TS := fun E σ H => (∃ (a : Addr) (ns : List Int), σ[0]? = some (some (.ref a)) ∧ SqL K H a (ns.map V.int) ∧ ns.length ≤ 63 ∧ σ.length = n) ∧ TbAs T (fun _ => none) H ∧ ∀ H', E.rt (.bl true) H'
theorem law_end {T : List (Addr × Str)} {n i : Nat} {E : Ends} {σ : St} {o : OO} {B F0 F : Hp} (k : ∀ H', E.rt (.bl true) H') : ∀ fl : Fl Unit Empty, lawQ fl → EndW K (ctL T n i) (fun _ : Unit => []) (fun r : Empty => nomatch r) o B F0 F E fl
  | .rt d, z => fun v F D H g q => by
    have z : d = .bool true := z
    subst z
    cases q
    exact k H
  | .nx _, z => z.elim
  | .bk r, _ => nomatch r
  | .ct r, _ => nomatch r
theorem law_deck1 {T : List (Addr × Str)} {i n : Nat} {y x0 : Str} {py p1 p2 p3 pos : Pos} (D : Dk X.prog X.w X.K X.mg X.base 1 "_law_deck" ["script"] (spDeck K)) (hr : Room 1 X.A) (nd : X.N.Nodup) (hy : X.N[i]? = some y) (hx : Loc X.env.scope y) (hin : i < n) (h0 : X.N[0]? = some x0) (hv0 : Vis X.env.scope x0)
    (h : PBk' K X (ctL T n i) [] rest (fun _ : Unit => []) (fun r : Empty => nomatch r) w) (z : w lawQ fun _ => False) (hg : Gl X "_law_deck" := by rfl) (hd : (x0 == ("__debug__" : Str)) = false := by decide) (hcd : (x0 == ("__classdict__" : Str)) = false := by decide)
    (hs : swapsWith (.Call (.Name "_law_deck" p1) [.Name x0 p2] [] p3) (some (.Name y py)) pos.line X.env = pure false := by rfl) (hf : X.fn y = true ∨ X.env.scope.names.lookup y = some .local := by first | exact .inl rfl | exact .inr rfl | assumption)
    (he : starEach [.Name x0 p2] X.env = (false, eval (.Name x0 p2) X.env) :: starEach [] X.env := by rfl) (hpl : (backTo p3 (starEach [] X.env)).any (·.1) = false := by rfl) :
    PSs X (.Assign [.Name y py] (.Call (.Name "_law_deck" p1) [.Name x0 p2] [] p3) pos :: rest) (tLaw0 K T n) := by
  refine pss_imp (pss_cons (ps_set nd hy hx (pe_dk D hr (pa_cons (pe_var h0 hv0 hd hcd) pa_nil he) hg (by decide) he hpl) hs hf) h.ps) fun E σ H ⟨⟨a, ns, e0, hS, hl, hlen⟩, tb, k⟩ => ?_
  refine ⟨.ref a, e0, a, ns, rfl, hS, hl, fun H' p sm dk => ?_⟩
  refine ⟨⟨some p, T⟩, fun _ => none, fun _ => none, fun _ => none, fun _ => none, ⟨by rw [List.length_set]; exact hlen, ⟨by show (σ.set i _)[i]? = _; rw [List.getElem?_set_self (by rw [hlen]; exact hin)], .inr rfl⟩, deck_empty dk tb sm, trivial, trivial⟩, h.mo.mono (fun fl q => law_end (σ := σ) k fl q) (fun _ h => h.elim) z⟩
/-- deck, noted = (_law_deck(script), []) -/
theorem law_deck2 {T : List (Addr × Str)} {i j n : Nat} {y x0 nm : Str} {py px p1 p2 p3 p4 pt pt2 pos : Pos} {kt k2 : Nat} (D : Dk X.prog X.w X.K X.mg X.base 1 "_law_deck" ["script"] (spDeck K)) (hr : Room 1 X.A) (nd : X.N.Nodup) (hy : X.N[i]? = some y) (hj : X.N[j]? = some nm) (hij : i ≠ j) (hx : X.env.scope.names.lookup y = some .local) (hx2 : X.env.scope.names.lookup nm = some .local) (hin : i < n) (hjn : j < n) (h0 : X.N[0]? = some x0) (hv0 : Vis X.env.scope x0) (hc : X.calm = true)
    (h : PBk' K X (ctL T n i) [(j, .own [])] rest (fun _ : Unit => []) (fun r : Empty => nomatch r) w) (z : w lawQ fun _ => False) (hw : swappedStores [.Tuple [.Name y py, .Name nm px] kt pt] (.Tuple [.Call (.Name "_law_deck" p1) [.Name x0 p2] [] p3, .List [] p4] k2 pt2) X.env = pure (some [y, nm]))
    (hg : Gl X "_law_deck" := by rfl) (hd : (x0 == ("__debug__" : Str)) = false := by decide) (hcd : (x0 == ("__classdict__" : Str)) = false := by decide)
    (hs : swapsWithSole [.Tuple [.Name y py, .Name nm px] kt pt] (.Tuple [.Call (.Name "_law_deck" p1) [.Name x0 p2] [] p3, .List [] p4] k2 pt2) pos.line X.env = pure false := by rfl)
    (he : starEach [.Name x0 p2] X.env = (false, eval (.Name x0 p2) X.env) :: starEach [] X.env := by rfl) (hpl : (backTo p3 (starEach [] X.env)).any (·.1) = false := by rfl)
    (hs1 : starEach [.Call (.Name "_law_deck" p1) [.Name x0 p2] [] p3, .List [] p4] X.env = (false, eval (.Call (.Name "_law_deck" p1) [.Name x0 p2] [] p3) X.env) :: starEach [.List [] p4] X.env := by rfl) (hs2 : starEach [.List [] p4] X.env = (false, eval (.List [] p4) X.env) :: starEach [] X.env := by rfl) :
    PSs X (.Assign [.Tuple [.Name y py, .Name nm px] kt pt] (.Tuple [.Call (.Name "_law_deck" p1) [.Name x0 p2] [] p3, .List [] p4] k2 pt2) pos :: rest) (tLaw0 K T n) := by
  refine pss_imp (pss_cons (ps_par hc nd hy hj hij hx hx2 (pa_cons (pe_dk D hr (pa_cons (pe_var h0 hv0 hd hcd) pa_nil he) hg (by decide) he hpl) (pa_cons (pe_lst pa_nil) pa_nil hs2) hs1) hw hs) h.ps) fun E σ H ⟨⟨a, ns, e0, hS, hl, hlen⟩, tb, k⟩ => ?_
  refine ⟨.ref a, e0, a, ns, rfl, hS, hl, fun H' p sm dk => ⟨Nat.zero_le _, fun q hq => ⟨_, _, rfl, ?_⟩⟩⟩
  have g0 := deck_empty dk tb sm
  have dn := (g0.lay.dk p rfl).new (o := .lst []) hq
  refine ⟨⟨some p, T⟩, fun _ => none, fun _ => none, fun _ => none, upd (fun _ => none) q (.lst []), ⟨by rw [List.length_set, List.length_set]; exact hlen, ⟨by
    show ((σ.set i _).set j _)[i]? = _
    rw [List.getElem?_set_ne hij.symm, List.getElem?_set_self (by rw [hlen]; exact hin)], .inr rfl⟩, ⟨fun b o z => (by cases z), fun b o z => (by cases z), fun b o z => (by cases z), ⟨fun b o z => (by cases z), dn.sub, (fun a' e => by cases e; exact dn), g0.lay.tb.new hq⟩⟩, ⟨⟨q, [], by
    show ((σ.set i _).set j _)[j]? = _
    rw [List.getElem?_set_self (by rw [List.length_set, hlen]; exact hjn)], rfl, rfl, upd_same, .nil⟩, (fun _ r hr => nomatch hr), trivial⟩, trivial⟩, h.mo.mono (fun fl q => law_end (σ := σ) k fl q) (fun _ h => h.elim) z⟩
end
def spLawW (K : PySem.W.Frag) (T : List (Addr × Str)) : Sp := fun vs H Q _ => ∃ (a : Addr) (ns : List Int), vs = [.ref a] ∧ SqL K H a (ns.map V.int) ∧ ns.length ≤ 63 ∧ TbAs T (fun _ => none) H ∧ ∀ H', Q (.bl true) H'
/-- the law's own def, by its body; its code object is at hand -/
theorem law_ofC {P : Program} {w : World} {K : PySem.W.Frag} {mg : Str → Option Value} {base : Heap} {k : Nat} {f : Addr} {x qual : Str} {st : Stmt} {fd : FuncData} {N ps : List Str} {sp : Sp} (F : Fun K x qual st f fd) (S : FnScope N ps (defScope st)) (len : ∀ vs H Q E, sp vs H Q E → vs.length = ps.length)
    (body : ∀ (cdv : Value), fd.code = cdv → ∀ (s : Shared) (H : Hp) (vs : List V) (Q : VK), Room k (callerA.deeper (PyProof.Rows.envOfC qual (defScope st) s.heap.objs.size f cdv)) → sp vs H Q E0 →
      ∃ t, PSs (cxOf CX0 P w K mg base N qual (defScope st) f cdv callerA [] s H E0).nox (defBody st) t ∧ t { nx := fun _ H' => Q .non H', rt := Q } (start N vs) H) : LawOk P w K mg base (k + 1) f fd ps sp := by
  obtain ⟨oc, od, kV, doc, pm, an, cdv, ct, osl, efd, lk, hcd⟩ := F.ex
  subst efd
  have body := body cdv rfl
  refine ⟨fun s H args us vs Q hr e0 hb r hsp => ?_⟩
  have inK : K.In s.heap := e0.mod.kin.keeps fun b o z => (e0.bs b o z).1
  have nolim : s.heap.NoLimit := e0.mod.nolimit.keeps fun b o z => (e0.bs b o z).1
  have kinds : ∀ y ∈ ps.zip us, (defScope st).names.lookup y.1 = some .local ∨ ((defScope st).names.lookup y.1 = some .cell ∧ ((PySem.cellsFrom (s.heap.objs.size + 1) (defScope st).names []).lookup y.1).isSome = true) := fun ⟨n, u⟩ hy => by
    rcases S.par n (List.of_mem_zip hy).1 with z | z
    · exact .inl z
    · exact .inr ⟨z, PySem.W.cellsFrom_some _ _ _ (.inl z)⟩
  refine PySem.codeAny_call_function hr.depth (inK _ _ lk) rfl S.co S.gen rfl (PySem.W.codeRec_of inK hcd) (hb _ _ _ _ ?_)
  refine PySem.wpAny_newFunctionEnv_cells S.kind kinds fun env he s1 xx => ?_
  subst he
  refine ⟨nolim.keeps xx.toInCall.keep, PySem.codeAny_func ?_⟩
  obtain ⟨t, ht, hq⟩ := body s H vs Q (hr.deeper _) hsp
  have ln := len _ _ _ _ hsp
  have I : Inv (cxOf CX0 P w K mg base N qual (defScope st) f cdv callerA [] s H E0) [] (start N vs) H s1 := inv_start S hr.hd e0 ln r xx
  have ht2 := ht.nox
  refine PySem.wpAny_mono (ht2.run [] s1 (start N vs) H _ I hq) (fun fl s' hs => ?_) fun e s' hs => hs
  cases fl with
  | ret u =>
    obtain ⟨v, σ', H', J, rv, q⟩ := hs
    exact ⟨v, H', J.os, J.bare, J.base, J.hok, rv, q⟩
  | next =>
    obtain ⟨σ', H', J, q⟩ := hs
    exact ⟨.non, H', J.os, J.bare, J.base, J.hok, rfl, q⟩
  | brk => exact (let ⟨_, _, _, q⟩ := hs; q.elim)
  | cont => exact (let ⟨_, _, _, q⟩ := hs; q.elim)
theorem law_W {P : Program} {w : World} {K : PySem.W.Frag} {mg : Str → Option Value} {base : Heap} {k : Nat} {f : Addr} {x qual : Str} {st : Stmt} {fd : FuncData} {N : List Str} (T : List (Addr × Str)) (F : Fun K x qual st f fd) (S : FnScope N ["script"] (defScope st)) (hN : 1 ≤ N.length)
    (body : ∀ (cdv : Value), fd.code = cdv → ∀ (s : Shared) (H : Hp), Room k (callerA.deeper (PyProof.Rows.envOfC qual (defScope st) s.heap.objs.size f cdv)) → PSs (cxOf CX0 P w K mg base N qual (defScope st) f cdv callerA [] s H E0).nox (defBody st) (tLaw0 K T N.length)) : LawOk P w K mg base (k + 1) f fd ["script"] (spLawW K T) := by
  refine law_ofC F S (fun vs H Q E h => ?_) (fun cdv ec s H vs Q hr h => ?_)
  · obtain ⟨a, ns, rfl, _⟩ := h
    rfl
  · obtain ⟨a, ns, rfl, hS, hl, tb, k⟩ := h
    refine ⟨_, body cdv ec s H hr, ⟨a, ns, rfl, hS, hl, ?_⟩, tb, k⟩
    unfold L2.start
    rw [List.length_append, List.length_map, List.length_replicate]
    show 1 + (N.length - 1) = N.length
    omega
end Nk
set_option Elab.async false
set_option linter.all false
set_option maxRecDepth 100000
set_option maxHeartbeats 4000000
namespace Nk
open PySem PySem.Spec PyProof.Rows L2
/-- what a for walks: a tuple or a list, whichever it is -/
theorem pi_any {X : Cx} {tg ex : Expr} {u : TE} (hu : PE X ex u) : PI X tg ex (fun σ H R => u σ H fun x H1 => ∃ A, x = .ref A ∧ (((∃ ys, SqT X.K H1 A ys) ∧ R (Itt X.K A) H1) ∨ ((∃ ys, SqL X.K H1 A ys) ∧ R (Itl X.K A) H1))) := by
  constructor
  intro pins s0 σ H R J q0
  refine thn (hu.run pins s0 σ H _ J q0) ?_
  rintro v0 s2 ⟨x, H2, J2, rx, A, rfl, w⟩
  cases rx
  have more : ∀ ob : Obj, Inv X pins σ H2 { s2 with heap := s2.heap.push ob } := fun ob => J2.kept (h' := s2.heap.push ob) (t' := s2.toks) fun b o' e' => Heap.get?_push_of_some _ e'
  have fine : ∀ b ∈ [s2.heap.objs.size], FpOk X pins H2 b := fun b hb => by
    obtain rfl := List.mem_singleton.mp hb
    exact J2.fpOk (Nat.le_refl _) (J2.hok.fresh (Nat.le_refl _))
  rcases w with ⟨⟨ys, hy⟩, q⟩ | ⟨⟨ys, hy⟩, q⟩
  · have tp := (J2.tuple hy)
    obtain ⟨is, _, pp, _⟩ := tp
    exact wpAny_pyIter_tuple (show s2.heap.IsTuple A is.toArray from pp) ⟨_, _, _, _, H2, rfl, more _, turn_tuple A _, ⟨_, Heap.get?_push_size _ rfl, rfl, rfl⟩, fine, q⟩
  · have tp := (J2.list hy)
    obtain ⟨is, _, pp, _⟩ := tp
    exact wpAny_pyIter_list pp.isList ⟨_, _, _, _, H2, rfl, more _, turn_list A _, ⟨_, Heap.get?_push_size _ rfl, rfl, rfl⟩, fine, q⟩
section
variable {K : PySem.W.Frag} {X : Cx} {c : Ct} {Γ : GE} {e a b : Expr} {es : List Expr} {t ta tb : M PyData} {ts : M (List PyData)} {pos p : Pos}
theorem it_seq {tg : Expr} (h : PX K X c Γ a t) : PItF K X c Γ tg a (bindT t itemsT) := by
  have hK := h.hK
  subst hK
  refine ⟨rfl, .bind h.mo mono_items, pi_imp (pi_any h.pe) fun σ H R ⟨o, B, F0, F, D, s, z⟩ => ⟨o, B, F0, F, D, s, h.mo.mono (fun d z1 v F1 D1 H1 g1 q1 => ?_) (fun _ h => h) z⟩⟩
  cases q1 with
  | tup hp ha =>
    refine ⟨_, rfl, .inl ⟨⟨_, SqT.of (g1.lay.fh _ _ hp)⟩, z1 _ F1 D1 H1 g1 ?_⟩⟩
    rw [← ha.length]
    refine (walk_tup (K := X.K) (xs := _)).mono (fun H s => SqT.of (s _ _ hp)) fun i H x H' hi s y => ?_
    obtain ⟨rfl, hx⟩ := y
    exact YW.at ha hx
  | lst hp ha =>
    refine ⟨_, rfl, .inr ⟨⟨_, SqL.of (g1.lay.fh _ _ hp)⟩, z1 _ F1 D1 H1 g1 ?_⟩⟩
    rw [← ha.length]
    refine (walk_list (K := X.K) (xs := _)).mono (fun H s => SqL.of (s _ _ hp)) fun i H x H' hi s y => ?_
    obtain ⟨rfl, hx⟩ := y
    exact YW.at ha hx
  | _ => exact False.elim z1
/-! in, not in, of flat items -/
theorem flat_of {F : Hp} {x : V} {d : PyData} (h : Dq K F x d) (f : flatD d = true) : flatV x = true := by
  cases h <;> first | rfl | cases f
theorem flats_of {F : Hp} : ∀ {xs : List V} {ds : List PyData}, DqAll K F xs ds → ds.all flatD = true → xs.all flatV = true
  | _, _, .nil, _ => rfl
  | _, _, .cons h t, f => by
    have f' : (flatD _ && List.all _ flatD) = true := f
    rw [Bool.and_eq_true] at f'
    show (flatV _ && List.all _ flatV) = true
    rw [flat_of h f'.1, flats_of t f'.2]
    rfl
/-- as V's -/
def toV : PyData → V
  | .bool b => .bl b
  | .int i => .int i
  | .str x => .str x
  | _ => .non
theorem toV_of {F : Hp} {x : V} {d : PyData} (h : Dq K F x d) (f : flatD d = true) : x = toV d := by
  cases h <;> first | rfl | cases f
theorem toVs_of {F : Hp} : ∀ {xs : List V} {ds : List PyData}, DqAll K F xs ds → ds.all flatD = true → xs = ds.map toV
  | _, _, .nil, _ => rfl
  | _, _, .cons h t, f => by
    have f' : (flatD _ && List.all _ flatD) = true := f
    rw [Bool.and_eq_true] at f'
    rw [toV_of h f'.1, toVs_of t f'.2]
    rfl
def inB (d : PyData) (ds : List PyData) : Bool := inV (toV d) (ds.map toV)
def inM (d e : PyData) : M PyData := bindT (itemsT e) fun ds => guardT (flatD d = true ∧ ds.all flatD = true) (pureT (.bool (inB d ds)))
def notInM (d e : PyData) : M PyData := bindT (itemsT e) fun ds => guardT (flatD d = true ∧ ds.all flatD = true) (pureT (.bool (!inB d ds)))
theorem ok_inM : OpW2ok K (rIn K false) inM := ⟨fun a b => .bind (mono_items _) fun _ => .guard .pure, fun a b x y o F D H Q xk l h1 h2 z => by
  cases h2 with
  | lst hp ha =>
    obtain ⟨⟨f1, f2⟩, z⟩ := z
    refine ⟨_, _, rfl, .inl (SqL.of (l.fh _ _ hp)), flat_of h1 f1, flats_of ha f2, ?_⟩
    rw [toV_of h1 f1, toVs_of ha f2]
    exact z _ F D H (.refl l) (.bl _)
  | tup hp ha =>
    obtain ⟨⟨f1, f2⟩, z⟩ := z
    refine ⟨_, _, rfl, .inr (SqT.of (l.fh _ _ hp)), flat_of h1 f1, flats_of ha f2, ?_⟩
    rw [toV_of h1 f1, toVs_of ha f2]
    exact z _ F D H (.refl l) (.bl _)
  | _ => exact z.elim⟩
theorem ok_notInM : OpW2ok K (rIn K true) notInM := ⟨fun a b => .bind (mono_items _) fun _ => .guard .pure, fun a b x y o F D H Q xk l h1 h2 z => by
  cases h2 with
  | lst hp ha =>
    obtain ⟨⟨f1, f2⟩, z⟩ := z
    refine ⟨_, _, rfl, .inl (SqL.of (l.fh _ _ hp)), flat_of h1 f1, flats_of ha f2, ?_⟩
    rw [toV_of h1 f1, toVs_of ha f2]
    exact z _ F D H (.refl l) (.bl _)
  | tup hp ha =>
    obtain ⟨⟨f1, f2⟩, z⟩ := z
    refine ⟨_, _, rfl, .inr (SqT.of (l.fh _ _ hp)), flat_of h1 f1, flats_of ha f2, ?_⟩
    rw [toV_of h1 f1, toVs_of ha f2]
    exact z _ F D H (.refl l) (.bl _)
  | _ => exact z.elim⟩
/-- -e -/
def negM : PyData → M PyData
  | .int i => pureT (.int (-i))
  | _ => failT
theorem ok_negM : OpW1ok K (fun x H Q => ∃ i, x = .int i ∧ Q (.int (-i)) H) negM := ⟨fun a => by cases a <;> first | exact .pure | exact .fail, fun a x o F D H Q xk l h z => by
  cases h with
  | int i => exact ⟨i, rfl, z _ F D H (.refl l) (.int _)⟩
  | _ => exact z.elim⟩
/-! found.append(rest.pop(e)), both one's own -/
variable {S R : Type} {G : S → GE} {GR : R → GE} {rest body : List Stmt}
def popAt (ds : List PyData) (j : PyData) : M (PyData × List PyData) := match j with
  | .int i => guardT (0 ≤ i ∧ i < ds.length ∧ ds.length ≤ 100000) (pureT (ds.getD i.toNat .none, ds.eraseIdx i.toNat))
  | _ => failT
theorem mono_popAt (ds : List PyData) (j : PyData) : Mono (popAt ds j) := by cases j <;> first | exact .guard .pure | exact .fail
theorem DqAll.erase {F : Hp} : ∀ {xs : List V} {ds : List PyData} (i : Nat), DqAll K F xs ds → DqAll K F (xs.eraseIdx i) (ds.eraseIdx i)
  | _, _, _, .nil => .nil
  | _, _, 0, .cons h t => t
  | _, _, i + 1, .cons h t => .cons h (DqAll.erase i t)
theorem lookup_drp {i j : Nat} (h : i ≠ j) {x : Cell} : ∀ {Γ : GE}, Γ.lookup j = some x → (drpE i Γ).lookup j = some x
  | [], e => by cases e
  | (m, cm) :: Γ, e => by
    unfold drpE
    rw [List.lookup_cons] at e
    rw [List.filter_cons]
    cases z : j == m with
    | true =>
      rw [z] at e
      have hm : j = m := by simpa using z
      subst hm
      have : (!(j == i)) = true := by simpa using fun q => h q.symm
      rw [if_pos this, List.lookup_cons, z]
      exact e
    | false =>
      rw [z] at e
      by_cases q : (!(m == i)) = true
      · rw [if_pos q, List.lookup_cons, z]; exact lookup_drp h e
      · rw [if_neg q]; exact lookup_drp h e
theorem lookup_ins {i j : Nat} {cl : Cell} (h : i ≠ j) {x : Cell} : ∀ {Γ : GE}, Γ.lookup j = some x → (insE i cl Γ).lookup j = some x
  | [], e => by cases e
  | (m, cm) :: Γ, e => by
    have hne : (j == i) = false := by simpa using fun q => h q.symm
    unfold insE
    split
    · rw [List.lookup_cons, hne]; exact e
    · rw [List.lookup_cons] at e ⊢
      cases z : j == m with
      | true => rw [z] at e; exact e
      | false => rw [z] at e; exact lookup_ins h e
theorem lookup_repl {i j : Nat} {cl : Cell} (h : i ≠ j) {x : Cell} : ∀ {Γ : GE}, Γ.lookup j = some x → (replE i cl Γ).lookup j = some x
  | [], e => by cases e
  | (m, cm) :: Γ, e => by
    have hne : (j == i) = false := by simpa using fun q => h q.symm
    unfold replE
    by_cases q : i = m
    · rw [if_pos q]
      rw [List.lookup_cons] at e ⊢
      subst q
      rw [hne] at e ⊢
      exact lookup_drp h e
    · rw [if_neg q]
      rw [List.lookup_cons] at e ⊢
      cases z : j == m with
      | true => rw [z] at e; exact e
      | false => rw [z] at e; exact lookup_repl h e
theorem lookup_set_ne {i j : Nat} {cl : Cell} (h : i ≠ j) {x : Cell} {Γ : GE} (e : Γ.lookup j = some x) : (setE i cl Γ).lookup j = some x := by
  unfold setE
  split
  · exact lookup_repl h e
  · exact lookup_ins h e
theorem pbk_appPop {i j : Nat} {x y : Str} {px py apos apos2 cpos cpos2 epos : Pos} {ds fs : List PyData} {w : PyData → List PyData → M (Fl S R)} (hi : X.N[i]? = some x) (hv : Vis X.env.scope x) (hj : X.N[j]? = some y) (hv2 : Vis X.env.scope y) (hij : i ≠ j) (hl : Γ.lookup i = some (.own fs)) (hl2 : Γ.lookup j = some (.own ds)) (h : PX K X c Γ e t)
    (g : ∀ d ds', PBk' K X c (setE i (.own (fs ++ [d])) (setE j (.own ds') Γ)) rest G GR (w d ds')) (hd : (x == ("__debug__" : Str)) = false := by decide) (hcd : (x == ("__classdict__" : Str)) = false := by decide) (hd2 : (y == ("__debug__" : Str)) = false := by decide) (hcd2 : (y == ("__classdict__" : Str)) = false := by decide)
    (hb : attributeBase (.Name x px) "append" X.env (eval (.Name x px) X.env) = eval (.Name x px) X.env := by rfl) (hb2 : attributeBase (.Name y py) "pop" X.env (eval (.Name y py) X.env) = eval (.Name y py) X.env := by rfl)
    (hf : ((backTo cpos (starEach [.Call (.Attribute (.Name y py) "pop" apos2) [e] [] cpos2] X.env)).all (fun x => !x.1) && (backToKw cpos (keywordEach [] X.env)).all (fun x => x.1.isSome) && decide (([.Call (.Attribute (.Name y py) "pop" apos2) [e] [] cpos2] : List Expr).length + ([] : List Keyword).length + (if ([] : List Keyword).isEmpty then 0 else 1) < 30)) = true := by rfl)
    (hf2 : ((backTo cpos2 (starEach [e] X.env)).all (fun x => !x.1) && (backToKw cpos2 (keywordEach [] X.env)).all (fun x => x.1.isSome) && decide (([e] : List Expr).length + ([] : List Keyword).length + (if ([] : List Keyword).isEmpty then 0 else 1) < 30)) = true := by rfl)
    (hln : (apos.endLine == cpos.line) = true := by rfl) (hln2 : (apos2.endLine == cpos2.line) = true := by rfl)
    (hs : starEach [.Call (.Attribute (.Name y py) "pop" apos2) [e] [] cpos2] X.env = (false, eval (.Call (.Attribute (.Name y py) "pop" apos2) [e] [] cpos2) X.env) :: starEach [] X.env := by rfl) (hs2 : starEach [e] X.env = (false, eval e X.env) :: starEach [] X.env := by rfl)
    (hp : (backTo cpos (starEach [] X.env)).any (·.1) = false := by rfl) (hp2 : (backTo cpos2 (starEach [] X.env)).any (·.1) = false := by rfl)
    (hsw : swapsWith (.Call (.Attribute (.Name x px) "append" apos) [.Call (.Attribute (.Name y py) "pop" apos2) [e] [] cpos2] [] cpos) none epos.line X.env = pure false := by rfl) :
    PBk' K X c Γ (.Expr (.Call (.Attribute (.Name x px) "append" apos) [.Call (.Attribute (.Name y py) "pop" apos2) [e] [] cpos2] [] cpos) epos :: rest) G GR (bindT t fun k => bindT (popAt ds k) fun q => guardT (fs.length < sizeLine) (w q.1 q.2)) := by
  have hK := h.hK
  subst hK
  have P2 := pe_bm PySem.F.plainAttrs_list PySem.F.slot_list_pop PySem.F.type_list_pop mt_popAt (pe_var hj hv2 hd2 hcd2) (pa_cons h.pe pa_nil hs2) hb2 hf2 hln2 hs2 hp2
  refine ⟨.bind h.mo fun k => .bind (mono_popAt _ _) fun q => .guard (g _ _).mo, pss_imp (pss_cons (ps_expr (pe_bm PySem.F.plainAttrs_list PySem.F.slot_list_append PySem.F.type_list_append mt_append (pe_var hi hv hd hcd) (pa_cons P2 pa_nil hs) hb hf hln hs hp) hsw) (pss_ex fun d => pss_ex fun ds' => (g d ds').ps)) fun E σ H ⟨o, B, F0, F, D, st, z⟩ => ?_⟩
  obtain ⟨A, vs, h1, h4, h5, _⟩ := st.mut (es := fs) hl
  obtain ⟨A2, vs2, y1, y4, y5, _⟩ := st.mut (es := ds) hl2
  have lh := st.lay.sub
  refine ⟨.ref A, h1, .inl ⟨rfl, _, SqL.of (lh _ _ h4)⟩, .ref A2, y1, .inl ⟨rfl, _, SqL.of (lh _ _ y4)⟩, o, B, F0, F, D, st, h.mo.mono (fun k z1 v F1 D1 H1 g1 q => ?_) (fun _ h => h) z⟩
  cases q with
  | int m =>
    obtain ⟨⟨m0, m1, m2⟩, zl, z2⟩ := z1
    have hlen := y5.length
    have hm : m.toNat < vs2.length := by omega
    obtain ⟨d, hd1, hd2'⟩ := y5.get (List.getElem?_eq_getElem hm)
    have hgd : ds.getD m.toNat .none = d := by rw [List.getD_eq_getElem?_getD, hd1]; rfl
    obtain ⟨A2', vs2', y1', y4', y5', k2⟩ := st.mut (es := ds.eraseIdx m.toNat) hl2
    rw [y1] at y1'
    cases y1'
    rw [y4] at y4'
    cases y4'
    refine ⟨A2, vs2, m, m.toNat, vs2[m.toNat], rfl, rfl, g1.lay.sub _ _ (g1.dd _ _ y4), by omega, by omega, ?_, List.getElem?_eq_getElem hm, ?_⟩
    · unfold seqIndex?
      have : ¬ (m < 0) := by omega
      simp [this]
      omega
    have st2 := k2 g1 ((y5.same g1.ff).erase m.toNat)
    have hl' := lookup_set_ne (cl := .own (ds.eraseIdx m.toNat)) (fun z => hij z.symm) hl
    obtain ⟨B1, us, b1, b4, b5, k3⟩ := st2.mut (es := fs ++ [d]) hl'
    rw [h1] at b1
    cases b1
    refine ⟨A, us, vs2[m.toNat], rfl, rfl, st2.lay.sub _ _ b4, by rw [b5.length]; exact zl, ?_⟩
    refine ⟨d, ds.eraseIdx m.toNat, o, B, F0, F1, _, k3 (.refl st2.lay) (b5.append (.cons (hd2'.same g1.ff) .nil)), ?_⟩
    rw [hgd] at z2
    exact (g d _).mo.mono (fun _ q => q.up g1.ff) (fun _ h => h) z2
  | _ => exact False.elim z1
end
end Nk
set_option Elab.async false
set_option linter.all false
set_option maxRecDepth 100000
set_option maxHeartbeats 4000000
namespace Nk
open PySem L2
section
variable {K : PySem.W.Frag} {X : Cx} {c : Ct} {Γ : GE} {e a b : Expr} {es : List Expr} {t ta tb : M PyData} {ts : M (List PyData)} {pos p : Pos}
theorem ltb {i n : Nat} (h : Nat.ble (i + 1) n = true) : i < n := Nat.le_of_ble_eq_true h
theorem pxv (i : Nat) {x : Str} {d : PyData} (hl : Γ.lookup i = some (.dat d)) (hN : X.N[i]? = some x := by rfl) (hv : Vis X.env.scope x := by first | exact Or.inl rfl | exact Or.inr (Or.inl rfl) | exact Or.inr (Or.inr rfl)) (hK : X.K = K := by rfl) (hd : (x == ("__debug__" : Str)) = false := by decide)
    (hcd : (x == ("__classdict__" : Str)) = false := by decide) : PX K X c Γ (.Name x pos) (pureT d) := px_var hN hv hl hK hd hcd
theorem px_ixOv (i : Nat) {x : Str} {px : Pos} {ds : List PyData} (hl : Γ.lookup i = some (.own ds)) (h : PX K X c Γ b t) (hN : X.N[i]? = some x := by rfl) (hv : Vis X.env.scope x := by first | exact Or.inl rfl | exact Or.inr (Or.inl rfl) | exact Or.inr (Or.inr rfl)) (hd : (x == ("__debug__" : Str)) = false := by decide) (hcd : (x == ("__classdict__" : Str)) = false := by decide) (hs : PlainIx b := by exact fun _ _ => rfl) :
    PX K X c Γ (.Subscript (.Name x px) b pos) (bindT t (ixL ds)) := px_ixO hN hv hl h hd hcd hs
theorem it_ownv {tg : Expr} (i : Nat) {x : Str} {ds : List PyData} (hl : Γ.lookup i = some (.own ds)) (hN : X.N[i]? = some x := by rfl) (hv : Vis X.env.scope x := by first | exact Or.inl rfl | exact Or.inr (Or.inl rfl) | exact Or.inr (Or.inr rfl)) (hK : X.K = K := by rfl) (hd : (x == ("__debug__" : Str)) = false := by decide) (hcd : (x == ("__classdict__" : Str)) = false := by decide) : PIt K X c Γ tg (.Name x pos) (pureT ds) := it_own hN hv hl hK hd hcd
theorem pxdv (i : Nat) {x : Str} {q : Pos} (hc : c.dk = some i) (h : PXs K X c Γ es ts) (hN : X.N[i]? = some x := by rfl) (hv : Vis X.env.scope x := by first | exact Or.inl rfl | exact Or.inr (Or.inl rfl) | exact Or.inr (Or.inr rfl)) (hs : starEach (.Name x q :: es) X.env = (false, eval (.Name x q) X.env) :: starEach es X.env := by rfl) (hd : (x == ("__debug__" : Str)) = false := by decide)
    (hcd : (x == ("__classdict__" : Str)) = false := by decide) : PXd K X c Γ (.Name x q :: es) ts := pxd hc hN hv h hs hd hcd
theorem pfw_catOv (i : Nat) {x : Str} {px : Pos} {ds : List PyData} (hl : Γ.lookup i = some (.own ds)) (g : PX K X c Γ b tb) (hN : X.N[i]? = some x := by rfl) (hv : Vis X.env.scope x := by first | exact Or.inl rfl | exact Or.inr (Or.inl rfl) | exact Or.inr (Or.inr rfl)) (hd : (x == ("__debug__" : Str)) = false := by decide) (hcd : (x == ("__classdict__" : Str)) = false := by decide) : PXf K X c Γ (.BinOp (.Name x px) .Add b pos) (bindT tb fun y => catL (.list ds) y) := pfw_catO hN hv hl g hd hcd
theorem px_tupO (i : Nat) {x : Str} {p2 : Pos} {ds : List PyData} (hl : Γ.lookup i = some (.own ds)) (hg : Gl X "tuple") (hm : X.mg "tuple" = none) (hN : X.N[i]? = some x := by rfl) (hv : Vis X.env.scope x := by first | exact Or.inl rfl | exact Or.inr (Or.inl rfl) | exact Or.inr (Or.inr rfl)) (hK : X.K = K := by rfl) (hd : (x == ("__debug__" : Str)) = false := by decide) (hcd : (x == ("__classdict__" : Str)) = false := by decide)
    (na : starEach [.Name x p2] X.env = (false, eval (.Name x p2) X.env) :: starEach [] X.env := by rfl) (hpl : (backTo pos (starEach [] X.env)).any (·.1) = false := by rfl) : PX K X c Γ (.Call (.Name "tuple" p) [.Name x p2] [] pos) (pureT (.tuple ds)) :=
  .of (pe_callTy (ktuple K hK) hg hm (by decide +kernel) (pa_cons (pe_var hN hv hd hcd) pa_nil na) (by decide) (by decide) na hpl) .pure (fun o B F0 F D σ H Q s z => by
    obtain ⟨a, vs, h1, h2, h3, h4, h5⟩ := s.env.getO hl
    exact ⟨.ref a, h1, a, vs, rfl, .inl ⟨SqL.of (s.lay.sub _ _ h4), fun l hl => z _ _ _ _ (.new s.lay hl) (.tup upd_same (h5.same (same_new (s.lay.free hl).2)))⟩⟩) hK
theorem px_keep (Sl : List Nat) (h : PX K X c (keepE Sl Γ) e t) : PX K X c Γ e t := h.sub List.filter_sublist
theorem px_castG {Δ : GE} (h : PX K X c Δ e t) (q : Γ = Δ) : PX K X c Γ e t := q ▸ h
/-- l[::-1] -/
def revL (d : PyData) : M PyData := match d with
  | .list s => pureT (.list s.reverse)
  | _ => failT
theorem mono_revL (d : PyData) : Mono (revL d) := by cases d <;> first | exact .pure | exact .fail
theorem px_revL {k : Nat} {p1 p2 p3 pos : Pos} (h : PX K X c Γ e t) : PX K X c Γ (.Subscript e (.Slice none none (some (.UnaryOp .USub (.Constant (.int 1) k p1) p2)) p3) pos) (bindT t revL) := by
  have hK := h.hK
  subst hK
  refine .of (pe_revL h.pe) (.bind h.mo mono_revL) (fun o B F0 F D σ H Q s z => ⟨o, B, F0, F, D, s, h.mo.mono (fun d z1 v F1 D1 H1 g1 q1 => ?_) (fun _ h => h) z⟩)
  cases q1 with
  | lst hp ha => exact ⟨_, _, rfl, SqL.of (g1.lay.fh _ _ hp), fun p hq => z1 _ _ _ _ (g1.trans (.new g1.lay hq)) (.lst upd_same ((DqAll.reverse ha).same (same_new (g1.lay.free hq).2)))⟩
  | _ => exact False.elim z1
/-- enumerate of a list -/
def enumL (d : PyData) : M (List PyData) := match d with
  | .list s => pureT (enumD s)
  | _ => failT
theorem mono_enumL (d : PyData) : Mono (enumL d) := by cases d <;> first | exact .pure | exact .fail
theorem it_enumL {elts : List Expr} {kk : Nat} {tpos : Pos} (h : PX K X c Γ a t) (hg : Gl X "enumerate") (hm : X.mg "enumerate" = none) (hs : starEach [a] X.env = [(false, eval a X.env)] := by rfl) :
    PItF K X c Γ (.Tuple elts kk tpos) (.Call (.Name "enumerate" p) [a] [] pos) (bindT t enumL) := by
  have hK := h.hK
  subst hK
  refine ⟨rfl, .bind h.mo mono_enumL, pi_imp (pi_enum hg hm (pa_cons h.pe pa_nil hs) hs) fun σ H R ⟨o, B, F0, F, D, s, z⟩ => ⟨o, B, F0, F, D, s, h.mo.mono (fun d z1 v F1 D1 H1 g1 q1 => ?_) (fun _ h => h) z⟩⟩
  cases q1 with
  | lst hp ha =>
    refine ⟨_, _, rfl, SqL.of (g1.lay.fh _ _ hp), z1 _ F1 D1 H1 g1 ?_⟩
    rw [enumD_length, ← ha.length]
    refine walk_enum.mono (fun H s => SqL.of (s _ _ hp)) fun i H v H' hi s y => ?_
    obtain ⟨T, x, y, rfl, hT, rfl, e1, e2⟩ := y
    cases e1
    obtain ⟨d2, k2, f2⟩ := ha.get e2
    refine yw_pair hT (.int _) f2 ?_
    unfold enumD
    rw [List.getElem?_map, List.getElem?_zipIdx, k2]
    simp
  | _ => exact False.elim z1
theorem pxb_of_chain {e1 e2 e3 : Expr} {op op' : CmpOp} (h : PX K X c Γ (.Compare e1 [op, op'] [e2, e3] pos) t) (he : ∀ whole, isTrue (.Compare e1 [op, op'] [e2, e3] pos) X.env whole = (do let v ← whole; standAt (Expr.Compare e1 [op, op'] [e2, e3] pos).pos; holding [v] (truthy v)) := by intro _; rfl) : PXb K X c Γ (.Compare e1 [op, op'] [e2, e3] pos) (boolT t) := h.test he
/-- max(.., default=) -/
def maxDM (d i : PyData) : M PyData := match i with
  | .int i => intsM d fun ns => pureT (.int (mxD i ns))
  | _ => failT
theorem mono_maxDM (d i : PyData) : Mono (maxDM d i) := by cases i <;> first | exact mono_intsM (fun _ => .pure) _ | exact .fail
theorem px_maxD {kp : Pos} (hu : X.A.units + 64 < cLine) (ha : PX K X c Γ e ta) (hk : PX K X c Γ a tb) (hg : Gl X "max") (hm : X.mg "max" = none) (hc : X.calm = true := by rfl) (hv : bootBuiltins "max" = some (.builtin "max") := by decide +kernel)
    (hs : starEach [e] X.env = (false, eval e X.env) :: starEach [] X.env := by rfl)
    (he : backTo pos (starEach [e] X.env) = (false, eval e X.env) :: backTo pos (starEach [] X.env) := by rfl) (hpl : (backTo pos (starEach [e] X.env)).any (·.1) = false := by rfl)
    (hall : (backToKw pos (keywordEach [⟨some (Str.ofString "default"), a, kp⟩] X.env)).all (·.1.isSome) = true := by rfl) (hnone : (backToKw pos (keywordEach [⟨some (Str.ofString "default"), a, kp⟩] X.env)).any (·.1.isNone) = false := by rfl) (hks : (backToKw pos (keywordEach [⟨some (Str.ofString "default"), a, kp⟩] X.env)).filterMap (·.1) = [Str.ofString "default"] := by rfl) :
    PX K X c Γ (.Call (.Name "max" p) [e] [⟨some (Str.ofString "default"), a, kp⟩] pos) (bindT ta fun x => bindT tb fun y => maxDM x y) := by
  refine .of (pe_callBK (cr_maxDef K hu ha.hK hc) hg hm hv (pa_cons ha.pe pa_nil hs) (pk_cons hk.pe pk_nil) (by decide) (by decide) he hpl hall hnone hks) (.bind ha.mo fun _ => .bind hk.mo fun _ => mono_maxDM _ _) (fun o B F0 F D σ H Q s z => ⟨o, B, F0, F, D, s, ha.mo.mono (fun d z1 v F1 D1 H1 g1 q1 => ⟨o, B, F0, F1, D1, s.grow g1, hk.mo.mono (fun d2 z2 v2 F2 D2 H2 g2 q2 => ?_) (fun _ h => h) z1⟩) (fun _ h => h) z⟩) ha.hK
  have q1 := q1.same g2.ff
  cases q2 with
  | int i =>
    cases q1 with
    | lst hp hh =>
      rename_i pp xs ds
      have zz : intsM (.list ds) (fun ns => pureT (.int (mxD i ns))) (fun d => ∀ v F' D' H', Grow o F D F' D' H' → Dq K F' v d → Q v H') (XW K X.mg c o B F0) := z2
      unfold intsM at zz
      cases e : asInts ds with
      | none =>
        simp only [e] at zz
        exact zz.elim
      | some ns =>
        simp only [e] at zz
        obtain rfl := asInts_eq e
        have := Dq.ints_eq hh
        subst this
        exact ⟨_, ns, i, rfl, rfl, SqL.of (g2.lay.fh _ _ hp), zz _ F2 D2 H2 (g1.trans g2) (.int _)⟩
    | _ => exact False.elim z2
  | _ => exact False.elim z2
/-- len(set(t)) of a tuple of numbers -/
def lenSetM (d : PyData) : M PyData := match d with
  | .tuple s => bindT (optT (asInts s)) fun ns => guardT (ns.length ≤ 1000) (bindT (anyT fun L : List Int => L.Nodup ∧ ∀ k, k ∈ ns ↔ k ∈ L) fun L => pureT (.int (L.length : Nat)))
  | _ => failT
theorem mono_lenSetM (d : PyData) : Mono (lenSetM d) := by
  cases d with
  | tuple s => exact Mono.bind (t := optT (asInts s)) (mono_optT _) fun _ => .guard (.bind .any fun _ => .pure)
  | _ => exact .fail
theorem px_lenSet {p2 q : Pos} (hg : Gl X "len") (hm : X.mg "len" = none) (hg2 : Gl X "set") (hm2 : X.mg "set" = none) (ha : PX K X c Γ a t) (hc : X.calm = true := by rfl)
    (na : starEach [a] X.env = (false, eval a X.env) :: starEach [] X.env := by rfl) : PX K X c Γ (.Call (.Name "len" p) [.Call (.Name "set" p2) [a] [] q] [] pos) (bindT t lenSetM) :=
  .of (klenSetT K hg hm hg2 hm2 ha.pe hc na ha.hK) (.bind ha.mo mono_lenSetM) (fun o B F0 F D σ H Q s z => ⟨o, B, F0, F, D, s, ha.mo.mono (fun d z1 v F1 D1 H1 g1 q1 => by
    cases q1 with
    | tup hp hh =>
      rename_i pp xs ds
      unfold lenSetM at z1
      cases e : asInts ds with
      | none =>
        simp only [e] at z1
        exact z1.elim
      | some ns =>
        simp only [e] at z1
        obtain rfl := asInts_eq e
        have := Dq.ints_eq hh
        subst this
        exact ⟨_, ns, rfl, SqT.of (g1.lay.fh _ _ hp), z1.1, fun L h1 h2 => z1.2 L ⟨h1, h2⟩ _ F1 D1 H1 g1 (.int _)⟩
    | _ => exact False.elim z1) (fun _ h => h) z⟩) ha.hK
/-! sorted of numbers -/
theorem ksorted (hK : X.K = K := by rfl) : CallR X (.builtin "sorted") (rSortedI K) := by subst hK; exact cr_sortedI
def seqInts (d : PyData) : M (List Int) := match d with
  | .list s => optT (asInts s)
  | _ => failT
def sortedM (d : PyData) : M PyData := intsM d fun ns => bindT (anyT fun L : List Int => L.Perm ns ∧ L.Pairwise (· ≤ ·)) fun L => pureT (.list (L.map .int))
theorem ok_sortedM : OpWsok K (rSortedI K) (un1 sortedM) := ok_ints (fun _ => .bind .any fun _ => .pure) fun a ns o F D H Q xk l hs z => ⟨a, ns, rfl, hs, fun L q h1 h2 hq => z L ⟨h1, h2⟩ _ _ _ _ (.new l hq) (.lst upd_same (DqAll.ints L))⟩
variable {S R : Type} {G : S → GE} {GR : R → GE} {rest body : List Stmt}
def endE : Fl Empty R → M (Fl S R)
  | .nx s => nomatch s
  | .rt d => pureT (.rt d)
  | .bk r => pureT (.bk r)
  | .ct r => pureT (.ct r)
theorem pbk_ifret' {w : M (Fl S R)} {cnd : Expr} {u : M Bool} {w1 : M (Fl Empty R)} (h : PXb K X c Γ cnd u) (h1 : PBk' K X c Γ body (fun x : Empty => nomatch x) GR w1) (h2 : PBk' K X c Γ rest G GR w) :
    PBk' K X c Γ (.If cnd body [] pos :: rest) G GR (ifR u (bindT w1 endE) w) := by
  have := pbk_ifret (pos := pos) h h1 h2
  exact this.cast (by congr 2)
/-! a, b = e, f with new lists among them -/
def AK.un : AK → PyData → M PyData
  | .dat, d => pureT d
  | .own, d => pureT d
theorem pbk_par_dd {i j : Nat} {x y : Str} {px py pt : Pos} {kt k2 : Nat} {pt2 : Pos} {w : PyData → PyData → M (Fl S R)} (nd : X.N.Nodup) (hi : X.N[i]? = some x) (hj : X.N[j]? = some y) (hij : i ≠ j) (hx : X.env.scope.names.lookup x = some .local) (hy : X.env.scope.names.lookup y = some .local) (hin : i < c.n) (hjn : j < c.n) (ho : c.off [i] = true) (ho2 : c.off [j] = true) (hc : X.calm = true)
    (h : PX K X c Γ a ta) (h2 : PX K X c Γ b tb) (g : ∀ d d', PBk' K X c (setE j (.dat d') (setE i (.dat d) Γ)) rest G GR (w d d')) (hw : swappedStores [.Tuple [.Name x px, .Name y py] kt pt] (.Tuple [a, b] k2 pt2) X.env = pure (some [x, y]))
    (hs : swapsWithSole [.Tuple [.Name x px, .Name y py] kt pt] (.Tuple [a, b] k2 pt2) pos.line X.env = pure false := by rfl)
    (hs1 : starEach [a, b] X.env = (false, eval a X.env) :: starEach [b] X.env := by rfl) (hs2 : starEach [b] X.env = (false, eval b X.env) :: starEach [] X.env := by rfl) :
    PBk' K X c Γ (.Assign [.Tuple [.Name x px, .Name y py] kt pt] (.Tuple [a, b] k2 pt2) pos :: rest) G GR (bindT ta fun d => bindT tb fun d' => w d d') := pbk_par nd hi hj hij hx hy hin hjn ho ho2 hc h.ak h2.ak g hw hs hs1 hs2
end
end Nk
set_option Elab.async false
set_option linter.all false
set_option maxRecDepth 100000
set_option maxHeartbeats 4000000
namespace Nk
open PySem L2
section
variable {K : PySem.W.Frag} {X : Cx} {c : Ct} {Γ : GE} {S R : Type} {G : S → GE} {GR : R → GE} {rest : List Stmt} {pos : Pos} {a b : Expr} {ta tb : M PyData}
theorem AKOk.new {D F D' : Hp} {v : V} {d : PyData} {p : Addr} {k : AK} {u : HO} (q : AKOk K D F D' v d k) (hF : F p = none) (hD : D' p = none) : AKOk K D (upd F p u) (upd D' p u) v d k := by
  cases k with
  | dat => exact q.same (same_new hF)
  | own =>
    obtain ⟨ds, r, vs, h1, h2, h3, h4, h5, h6⟩ := q
    have ne : r ≠ p := fun e => by rw [e, hD] at h5; cases h5
    refine ⟨ds, r, vs, h1, h2, ?_, h4, ?_, h6.same (same_new hF)⟩
    · rw [upd_ne ne]; exact h3
    · rw [upd_ne ne]; exact h5
theorem pbk_parC {i j : Nat} {x y : Str} {ka kb : AK} {px py pt : Pos} {kt k2 : Nat} {pt2 : Pos} {w : PyData → PyData → M (Fl S R)} (nd : X.N.Nodup) (hi : X.N[i]? = some x) (hj : X.N[j]? = some y) (hx : Loc X.env.scope x) (hy : Loc X.env.scope y) (hin : i < c.n) (hjn : j < c.n) (hij : i ≠ j) (ho : c.off [i] = true) (ho2 : c.off [j] = true) (hc : X.calm = true)
    (h : PXa K X c Γ ka a ta) (h2 : PXa K X c Γ kb b tb) (g : ∀ d d', PBk' K X c (setE j (kb.cell d') (setE i (ka.cell d) Γ)) rest G GR (w d d'))
    (hs : swapsWithSole [.Tuple [.Name x px, .Name y py] kt pt] (.Tuple [a, b] k2 pt2) pos.line X.env = pure false := by rfl) (hw : swappedStores [.Tuple [.Name x px, .Name y py] kt pt] (.Tuple [a, b] k2 pt2) X.env = pure none := by rfl)
    (h1 : (assignEach [.Tuple [.Name x px, .Name y py] kt pt] X.env).map (·.2) = [assign (.Tuple [.Name x px, .Name y py] kt pt) X.env] := by rfl)
    (hl : (assignEach [.Name x px, .Name y py] X.env).length = 2 := by rfl) (hst : (assignEach [.Name x px, .Name y py] X.env).findIdx? (·.1) = none := by rfl)
    (hq1 : (assignEach [.Name x px, .Name y py] X.env).map (·.2) = assign (.Name x px) X.env :: (assignEach [.Name y py] X.env).map (·.2) := by rfl) (hq2 : (assignEach [.Name y py] X.env).map (·.2) = assign (.Name y py) X.env :: (assignEach [] X.env).map (·.2) := by rfl)
    (hs1 : starEach [a, b] X.env = (false, eval a X.env) :: starEach [b] X.env := by rfl) (hs2 : starEach [b] X.env = (false, eval b X.env) :: starEach [] X.env := by rfl)
    (hf : X.fn x = true ∨ X.env.scope.names.lookup x = some .local := by first | exact .inl rfl | exact .inr rfl | assumption) (hf2 : X.fn y = true ∨ X.env.scope.names.lookup y = some .local := by first | exact .inl rfl | exact .inr rfl | assumption) :
    PBk' K X c Γ (.Assign [.Tuple [.Name x px, .Name y py] kt pt] (.Tuple [a, b] k2 pt2) pos :: rest) G GR (bindT ta fun d => bindT tb fun d' => w d d') := by
  have hK := h.hK
  subst hK
  refine ⟨.bind h.mo fun d => .bind h2.mo fun d' => (g d d').mo, pss_imp (pss_cons (ps_asg (pe_tup (pa_cons h.pe (pa_cons h2.pe pa_nil hs2) hs1)) (pg_tup hc (pgs_cons (pg_name (i := i) nd hi hx hf) (pgs_cons (pg_name (i := j) nd hj hy hf2) pgs_nil hq2) hq1) hl hst) hs hw h1) (pss_ex fun d => pss_ex fun d' => (g d d').ps)) fun E σ H ⟨o, B, F0, F, D, st, z⟩ => ?_⟩
  refine ⟨o, B, F0, F, D, st, h.mo.mono (fun d z1 v F1 D1 H1 g1 q1 => ⟨o, B, F0, F1, D1, st.grow g1, h2.mo.mono (fun d' z2 v' F2 D2 H2 g2 q2 => ?_) (fun _ h => h) z1⟩) (fun _ h => h) z⟩
  refine ⟨Nat.le_trans (show 2 ≤ 100000 by decide) (by decide), fun p hp => ?_⟩
  have gn := Grow.new (u := .tup [v, v']) g2.lay hp
  have q2' := q2.new (u := .tup [v, v']) (g2.lay.free hp).2 (g2.lay.free hp).1
  refine ⟨_, _, rfl, SqT.of (gn.lay.fh _ _ upd_same), rfl, _, _, rfl, _, _, rfl, rfl, ?_⟩
  exact ⟨d, d', o, B, F0, _, _, par_set st g1 (g2.trans gn) hin hjn hij ho ho2 q1 q2', (g d d').mo.mono (fun _ q => q.up (g1.trans (g2.trans gn)).ff) (fun _ h => h) z2⟩
/-- a < b < c as a test -/
theorem pxb_chain {cc : Expr} {tc : M PyData} {op op' : CmpOp} {r r' : R2} {f g : PyData → PyData → M PyData} (ho : OpR X (compareOp op) r) (ho' : OpR X (compareOp op') r') (q : OpW2ok K r f) (q' : OpW2ok K r' g) (ha : PX K X c Γ a ta) (hb : PX K X c Γ b tb) (hcc : PX K X c Γ cc tc)
    (hm : lastMarks [op, op'] [b, cc] = false := by with_unfolding_all rfl) : PXb K X c Γ (.Compare a [op, op'] [b, cc] pos) (boolT (bindT ta fun x => bindT tb fun y => bindT (boolT (f x y)) fun k => if k = true then bindT tc fun z => bindT (boolT (g y z)) fun l => pureT (PyData.bool l) else pureT (PyData.bool false))) := by
  have mo : Mono (bindT ta fun x => bindT tb fun y => bindT (boolT (f x y)) fun k => if k = true then bindT tc fun z => bindT (boolT (g y z)) fun l => pureT (PyData.bool l) else pureT (PyData.bool false)) := .bind ha.mo fun _ => .bind hb.mo fun _ => .bind (q.mo _ _).boolT fun _ => .ite (.bind hcc.mo fun _ => .bind (q'.mo _ _).boolT fun _ => .pure) .pure
  refine ⟨ha.hK, mo.boolT, pt_imp (pt_chain ho ho' ha.pe hb.pe hcc.pe hm) fun σ H Q ⟨o, B, F0, F, D, s, z⟩ => ?_⟩
  refine ⟨o, B, F0, F, D, s, ha.mo.mono (fun da z1 x F1 D1 H1 g1 q1 => ⟨o, B, F0, F1, D1, s.grow g1, hb.mo.mono (fun db z2 y F2 D2 H2 g2 q2 => ?_) (fun _ h => h) z1⟩) (fun _ h => h) z⟩
  have q1 := q1.same g2.ff
  have s2 := (s.grow g1).grow g2
  refine q.op da db x y o F2 D2 H2 _ (XW K X.mg c o B F0) g2.lay q1 q2 ((q.mo da db).mono (fun d z3 v F3 D3 H3 g3 q3 => ?_) (fun _ h => h) z2)
  cases q3 with
  | bl k =>
    refine ⟨k, rfl, ?_⟩
    cases k with
    | false => exact ⟨false, rfl, z3 F3 D3 H3 ((g1.trans g2).trans g3)⟩
    | true =>
      refine ⟨o, B, F0, F3, D3, s2.grow g3, hcc.mo.mono (fun dc z4 w F4 D4 H4 g4 q4 => ?_) (fun _ h => h) z3⟩
      refine q'.op db dc y w o F4 D4 H4 _ (XW K X.mg c o B F0) g4.lay ((q2.same g3.ff).same g4.ff) q4 ((q'.mo db dc).mono (fun d z5 v F5 D5 H5 g5 q5 => ?_) (fun _ h => h) z4)
      cases q5 with
      | bl l => exact ⟨l, rfl, z5 F5 D5 H5 ((((g1.trans g2).trans g3).trans g4).trans g5)⟩
      | _ => exact False.elim z5
  | _ => exact False.elim z3
/-- a place that is never reached -/
theorem pbk_never {sts : List Stmt} : PBk' K X c Γ sts G GR failT := ⟨.fail, ⟨fun pins s σ H D I ⟨o, B, F0, F, DD, st, z⟩ => z.elim⟩⟩
/-- a value that is a list -/
def onLs {α : Type} (d : PyData) (w : List PyData → M α) : M α := match d with
  | .list ds => w ds
  | _ => failT
@[simp] theorem onLs_lst {α : Type} (ds : List PyData) (w : List PyData → M α) : onLs (.list ds) w = w ds := (rfl)
theorem PBk'.lst {f : Cell → GE} {w : List PyData → M (Fl S R)} (h : ∀ ds, PBk' K X c (f (.own ds)) rest G GR (w ds)) {d : PyData} : PBk' K X c (f (AK.own.cell d)) rest G GR (onLs d w) := by
  cases d with
  | list ds => exact h ds
  | _ => exact ⟨.fail, pss_imp (h []).ps fun E σ H ⟨o, B, F0, F, D, st, z⟩ => z.elim⟩
end
end Nk
namespace Nk
open PySem L2
theorem wipe_same {σ σ2 : St} {vs : List Nat} (hl : σ2.length = σ.length) (h : ∀ j, vs.contains j = false → σ2[j]? = σ[j]?) : wipe σ2 vs = wipe σ vs := by
  apply List.ext_getElem?
  intro j
  cases z : vs.contains j with
  | false => rw [wipe_get z, wipe_get z, h j z]
  | true =>
    by_cases hj : j < σ.length
    · rw [wipe_in z, wipe_in z, if_pos hj, if_pos (by rw [hl]; exact hj)]
    · rw [List.getElem?_eq_none (by rw [wipe_length]; omega), List.getElem?_eq_none (by rw [wipe_length]; omega)]
section
variable {K : PySem.W.Frag} {n i j l : Nat}
theorem tw3 (hi : i < n) (hj : j < n) (hl : l < n) (h1 : i ≠ j) (h2 : i ≠ l) (h3 : j ≠ l) : TgW K n (gTup K 3 (gCons (gName i) (gCons (gName j) (gCons (gName l) gNil)))) [i, j, l] dec3 fun d => [(i, .dat d.1), (j, .dat d.2.1), (l, .dat d.2.2)] := by
  refine ⟨fun x σ F H d z Q hσ s hd e k => ?_, fun _ q hq => by
    simp only [List.mem_cons, List.not_mem_nil, or_false] at hq
    rcases hq with rfl | rfl | rfl <;> rfl⟩
  unfold dec3 at e
  split at e
  · cases e
    cases hd with
    | tup hp ha =>
      cases ha with
      | cons q1 ha =>
        cases ha with
        | cons q2 ha =>
          cases ha with
          | cons q3 ha =>
            cases ha
            have off : ∀ (a b c : V) m, [i, j, l].contains m = false → (((σ.set i (some a)).set j (some b)).set l (some c))[m]? = σ[m]? := fun a b c m hm => by
              have a1 : i ≠ m := fun e => by subst e; simp at hm
              have a2 : j ≠ m := fun e => by subst e; simp at hm
              have a3 : l ≠ m := fun e => by subst e; simp at hm
              rw [List.getElem?_set_ne a3, List.getElem?_set_ne a2, List.getElem?_set_ne a1]
            refine ⟨_, _, rfl, SqT.of (s _ _ hp), rfl, _, _, rfl, _, _, rfl, _, _, rfl, rfl, k _ (wipe_same (by simp) (off _ _ _)) (by simp [hσ]) (off _ _ _) fun B D => ⟨⟨_, ?_, q1⟩, (fun z => by cases z), ⟨_, ?_, q2⟩, (fun z => by cases z), ⟨_, ?_, q3⟩, (fun z => by cases z), trivial⟩⟩
            · rw [List.getElem?_set_ne h2.symm, List.getElem?_set_ne h1.symm, List.getElem?_set_self (by omega)]
            · rw [List.getElem?_set_ne h3.symm, List.getElem?_set_self (by rw [List.length_set]; omega)]
            · rw [List.getElem?_set_self (by rw [List.length_set, List.length_set]; omega)]
  · cases e
/-- a, (b, c) -/
def dec12 : PyData → Option (PyData × PyData × PyData)
  | .tuple [a, .tuple [b, c]] => some (a, b, c)
  | _ => none
theorem tw12 (hi : i < n) (hj : j < n) (hl : l < n) (h1 : i ≠ j) (h2 : i ≠ l) (h3 : j ≠ l) : TgW K n (gTup K 2 (gCons (gName i) (gCons (gTup K 2 (gCons (gName j) (gCons (gName l) gNil))) gNil))) [i, j, l] dec12 fun d => [(i, .dat d.1), (j, .dat d.2.1), (l, .dat d.2.2)] := by
  refine ⟨fun x σ F H d z Q hσ s hd e k => ?_, fun _ q hq => by
    simp only [List.mem_cons, List.not_mem_nil, or_false] at hq
    rcases hq with rfl | rfl | rfl <;> rfl⟩
  unfold dec12 at e
  split at e
  · cases e
    cases hd with
    | tup hp ha =>
      cases ha with
      | cons q1 ha =>
        cases ha with
        | cons qq ha =>
          cases ha
          cases qq with
          | tup hp2 ha =>
            cases ha with
            | cons q2 ha =>
              cases ha with
              | cons q3 ha =>
                cases ha
                have off : ∀ (a b c : V) m, [i, j, l].contains m = false → (((σ.set i (some a)).set j (some b)).set l (some c))[m]? = σ[m]? := fun a b c m hm => by
                  have a1 : i ≠ m := fun e => by subst e; simp at hm
                  have a2 : j ≠ m := fun e => by subst e; simp at hm
                  have a3 : l ≠ m := fun e => by subst e; simp at hm
                  rw [List.getElem?_set_ne a3, List.getElem?_set_ne a2, List.getElem?_set_ne a1]
                refine ⟨_, _, rfl, SqT.of (s _ _ hp), rfl, _, _, rfl, _, _, rfl, ⟨_, _, rfl, SqT.of (s _ _ hp2), rfl, _, _, rfl, _, _, rfl, rfl, rfl, k _ (wipe_same (by simp) (off _ _ _)) (by simp [hσ]) (off _ _ _) fun B D => ⟨⟨_, ?_, q1⟩, (fun z => by cases z), ⟨_, ?_, q2⟩, (fun z => by cases z), ⟨_, ?_, q3⟩, (fun z => by cases z), trivial⟩⟩⟩
                · rw [List.getElem?_set_ne h2.symm, List.getElem?_set_ne h1.symm, List.getElem?_set_self (by omega)]
                · rw [List.getElem?_set_ne h3.symm, List.getElem?_set_self (by rw [List.length_set]; omega)]
                · rw [List.getElem?_set_self (by rw [List.length_set, List.length_set]; omega)]
  · cases e
end
/-! the greatest of a list or a tuple of whole numbers -/
def rMaxA (K : PySem.W.Frag) : List V → Hp → VK → Prop := fun vs H Q => ∃ (a : Addr) (n : Int) (ns : List Int), vs = [V.ref a] ∧ (SqL K H a ((n :: ns).map V.int) ∨ SqT K H a ((n :: ns).map V.int)) ∧ Q (.int (mxL n ns)) H
theorem cr_maxA {X : Cx} (K : PySem.W.Frag) (hu : X.A.units + 64 < cLine) (hK : X.K = K := by rfl) (hc : X.calm = true := by rfl) : CallR X (.builtin "max") (rMaxA K) := by
  subst hK
  intro pins s σ H xs us Q I r h
  obtain ⟨a, n, ns, rfl, hs, q⟩ := h
  rw [Vals.ref1 r]
  have fin : ∀ (i : Nat) (v : Value) (h' : Heap) (tk : Nat), PySem.W.Holds h' v (PySem.W.maxOf n ns) → (∀ b o, s.heap.get? b = some o → h'.get? b = some o) → EP X pins σ Q v { s with heap := h', toks := tk } := fun i v h' tk hv k => by
    obtain ⟨as, hr⟩ := hv
    rw [maxOf_mxL] at hr
    have hr' : PySem.Reads h' v (.int (mxL n ns)) as := hr
    cases hr'
    exact ⟨.int _, H, I.kept k, ⟨_, rfl⟩, q⟩
  rcases hs with hs | hs
  · obtain ⟨its, rv, hl, _⟩ := I.list hs
    have hi := rv.ints
    exact PySem.W.max_list_datum (x := n) (xs := ns) (I.ok.hd hc) hl.isList (PySem.W.HoldAll.of_ints (by simpa using hi)) (by show _ + 1 + 0 < cLine; omega) fun i v h' tk _ hv k => fin i v h' tk hv k
  · obtain ⟨its, rv, hl, _⟩ := I.tuple hs
    have hi := rv.ints
    obtain ⟨oo, g1, g2, nn, g3⟩ := hl
    exact PySem.W.max_tuple_datum (x := n) (xs := ns) (I.ok.hd hc) ⟨oo, g1, g2, nn, g3⟩ (PySem.W.HoldAll.of_ints (by simpa using hi)) (by show _ + 1 + 0 < cLine; omega) fun i v h' tk _ hv k => fin i v h' tk hv k
def maxAI (s : List PyData) : M PyData := match asInts s with
  | some ns => guardT (ns ≠ []) (pureT (.int (mxD 0 ns)))
  | none => failT
def maxAM (d : PyData) : M PyData := match d with
  | .list s => maxAI s
  | .tuple s => maxAI s
  | _ => failT
theorem mono_maxAI (s : List PyData) : Mono (maxAI s) := by
  unfold maxAI
  split
  · exact .guard .pure
  · exact .fail
theorem mono_maxAM (d : PyData) : Mono (maxAM d) := by cases d <;> first | exact mono_maxAI _ | exact .fail
theorem ok_maxAM {K : PySem.W.Frag} : OpWsok K (rMaxA K) (un1 maxAM) :=
  ok1 mono_maxAM fun a x o F D H Q xk l q z => by
    cases q with
    | lst hp ha =>
      rename_i p xs ds
      have z : maxAI ds (fun d => ∀ v F' D' H', Grow o F D F' D' H' → Dq K F' v d → Q v H') xk := z
      unfold maxAI at z
      cases e : asInts ds with
      | none => rw [e] at z; exact z.elim
      | some ns =>
        rw [e] at z
        have zz : guardT (ns ≠ []) (pureT (.int (mxD 0 ns))) (fun d => ∀ v F' D' H', Grow o F D F' D' H' → Dq K F' v d → Q v H') xk := z
        obtain rfl := asInts_eq e
        have := Dq.ints_eq ha
        subst this
        cases ns with
        | nil => exact absurd rfl zz.1
        | cons n ns => exact ⟨_, n, ns, rfl, .inl (SqL.of (l.fh _ _ hp)), zz.2 _ F D H (.refl l) (.int _)⟩
    | tup hp ha =>
      rename_i p xs ds
      have z : maxAI ds (fun d => ∀ v F' D' H', Grow o F D F' D' H' → Dq K F' v d → Q v H') xk := z
      unfold maxAI at z
      cases e : asInts ds with
      | none => rw [e] at z; exact z.elim
      | some ns =>
        rw [e] at z
        have zz : guardT (ns ≠ []) (pureT (.int (mxD 0 ns))) (fun d => ∀ v F' D' H', Grow o F D F' D' H' → Dq K F' v d → Q v H') xk := z
        obtain rfl := asInts_eq e
        have := Dq.ints_eq ha
        subst this
        cases ns with
        | nil => exact absurd rfl zz.1
        | cons n ns => exact ⟨_, n, ns, rfl, .inr (SqT.of (l.fh _ _ hp)), zz.2 _ F D H (.refl l) (.int _)⟩
    | _ => exact z.elim
end Nk
set_option Elab.async false
set_option linter.all false
set_option maxRecDepth 100000
set_option maxHeartbeats 4000000
namespace Nk
open PySem L2
/-! raise X(e), over data -/
section
variable {K : PySem.W.Frag} {X : Cx} {c : Ct} {Γ : GE} {S R : Type} {G : S → GE} {GR : R → GE} {rest : List Stmt} {pos : Pos} {e call : Expr} {te : M PyData}
theorem Grow.mine {o : OO} {F D H : Hp} (l : Lay o F D H) {p : Addr} {u : HO} (h : H p = none) : Grow o F D F (upd D p u) (upd H p u) := by
  have hf := l.free h
  exact ⟨Same.refl F, same_new hf.1, (fun q x h1 h2 => by rw [h2] at h1; cases h1), ⟨l.fd.trans (same_new hf.1), (fun q x hq => by
    by_cases e : q = p
    · subst e; rw [upd_same] at hq ⊢; exact hq
    · rw [upd_ne e] at hq ⊢; exact l.sub q x hq), (fun a ha => (l.dk a ha).new h), l.tb.new h⟩⟩
theorem pbk_raise1 {x fld : Str} {C : Addr} (tk : Takes X c.W) (gC : X.mg x = some (.ref C)) (h : PX K X c Γ e te) (hc : X.calm = true)
    (mk : ∀ {ta : TA}, PA X [e] ta → PMk X call (fun σ H Q => ta σ H fun vs H1 => ∃ v, vs = [v] ∧ ∀ d, H1 d = none → Q (.ref C) (some d) (upd H1 d (.xd [(fld, v)]))))
    (hs : starEach [e] X.env = (false, eval e X.env) :: starEach [] X.env := by rfl) :
    PBk' K X c Γ (.Raise (some call) none pos :: rest) G GR (bindT te fun d => raiseT ⟨x, some (fld, d)⟩) := by
  have hK := h.hK
  subst hK
  refine ⟨.bind h.mo fun _ => .raise, pss_imp (pss_cons (ps_raise hc tk (mk (pa_cons h.pe pa_nil hs))) (show PSs X rest (fun _ _ _ => False) from ⟨fun pins s σ H D I z => z.elim⟩)) fun E σ H ⟨o, B, F0, F, D, st, z⟩ => ?_⟩
  refine ⟨o, B, F0, F, D, st, h.mo.mono (fun d z1 v F1 D1 H1 g1 q1 => ?_) (fun _ h => h) z⟩
  refine ⟨v, rfl, fun p hp => ?_⟩
  have st1 := (st.grow g1).nil
  have gm := Grow.mine (u := .xd [(fld, v)]) g1.lay hp
  have hf := g1.lay.free hp
  exact z1 (.ref C) (some p) σ F1 _ _ (st1.grow gm) ⟨C, gC, rfl, p, v, rfl, upd_same, hf.2, q1⟩
end
end Nk
namespace Nk
open PySem L2
/-! a, b, c = x, y, z: each may be a new list of one's own -/
section
variable {K : PySem.W.Frag} {X : Cx} {c : Ct} {Γ : GE} {o : OO} {B F0 F D F1 D1 H1 F2 D2 H2 H : Hp} {σ : St}
theorem AKOk.later {v : V} {d : PyData} {k : AK} (q : AKOk K D F1 D1 v d k) (g : Grow o F1 D1 F2 D2 H2) : AKOk K D F2 D2 v d k := by
  cases k with
  | dat => exact q.same g.ff
  | own =>
    obtain ⟨ds, r, vs, e1, e2, h1, h2, h3, h4⟩ := q
    refine ⟨ds, r, vs, e1, e2, ?_, h2, g.dd _ _ h3, h4.same g.ff⟩
    cases z : F2 r with
    | none => rfl
    | some u =>
      have := g.fresh r u z h1
      rw [h3] at this; cases this
/-- no own cell of Γ lies at a place that is new beside D -/
def ApartW (σ : St) (Γ : GE) (D : Hp) : Prop := ∀ p, D p = none → ∀ r ∈ Γ, r.2.isOwn = true → σ[r.1]? ≠ some (some (.ref p))
theorem set_ak {i : Nat} {v : V} {d : PyData} {k : AK} (s : StW K c Γ o B F0 F2 D2 σ H) (hin : i < c.n) (ho : c.off [i] = true) (q : AKOk K D F2 D2 v d k) (hB : Same B D) (ap : ApartW σ Γ D) : StW K c (setE i (k.cell d) Γ) o B F0 F2 D2 (σ.set i (some v)) H := by
  cases k with
  | dat => exact s.setD hin ho q
  | own =>
    obtain ⟨ds, r, vs, rfl, rfl, h1, h2, h3, h4⟩ := q
    exact s.setO hin ho h1 (hB.free h2) h3 h4 (ap r h2)
theorem ApartW.next {i : Nat} {v : V} {d : PyData} {k : AK} (ap : ApartW σ Γ D) (hi : i < σ.length) (q : AKOk K D F1 D1 v d k) (dd : Same D D1) : ApartW (σ.set i (some v)) (setE i (k.cell d) Γ) D1 := fun p hp r hr eo => by
  rcases mem_setE hr with rfl | hr
  · cases k with
    | dat => cases eo
    | own =>
      obtain ⟨ds, q', vs, rfl, rfl, h1, h2, h3, h4⟩ := q
      show (σ.set i _)[i]? ≠ _
      rw [List.getElem?_set_self hi]
      intro z
      cases z
      rw [h3] at hp; cases hp
  · have hr' := List.mem_filter.mp hr
    have ne : i ≠ r.1 := fun z => by have := hr'.2; rw [← z] at this; simp at this
    rw [List.getElem?_set_ne ne]
    exact ap p (dd.free hp) r hr'.1 eo
variable {S R : Type} {G : S → GE} {GR : R → GE} {rest : List Stmt} {pos : Pos} {a b e : Expr} {ta tb te : M PyData}
theorem pbk_par3C {i j l : Nat} {x y z : Str} {ka kb ke : AK} {px py pz pt : Pos} {kt k2 : Nat} {pt2 : Pos} {w : PyData → PyData → PyData → M (Fl S R)} (nd : X.N.Nodup) (hi : X.N[i]? = some x) (hj : X.N[j]? = some y) (hl : X.N[l]? = some z) (hx : Loc X.env.scope x) (hy : Loc X.env.scope y) (hz : Loc X.env.scope z) (hin : i < c.n) (hjn : j < c.n) (hln : l < c.n) (ho : c.off [i] = true) (ho2 : c.off [j] = true) (ho3 : c.off [l] = true) (hc : X.calm = true)
    (h : PXa K X c Γ ka a ta) (h2 : PXa K X c Γ kb b tb) (h3 : PXa K X c Γ ke e te) (g : ∀ d d' d'', PBk' K X c (setE l (ke.cell d'') (setE j (kb.cell d') (setE i (ka.cell d) Γ))) rest G GR (w d d' d''))
    (hs : swapsWithSole [.Tuple [.Name x px, .Name y py, .Name z pz] kt pt] (.Tuple [a, b, e] k2 pt2) pos.line X.env = pure false := by rfl) (hw : swappedStores [.Tuple [.Name x px, .Name y py, .Name z pz] kt pt] (.Tuple [a, b, e] k2 pt2) X.env = pure none := by rfl)
    (h1 : (assignEach [.Tuple [.Name x px, .Name y py, .Name z pz] kt pt] X.env).map (·.2) = [assign (.Tuple [.Name x px, .Name y py, .Name z pz] kt pt) X.env] := by rfl)
    (hll : (assignEach [.Name x px, .Name y py, .Name z pz] X.env).length = 3 := by rfl) (hst : (assignEach [.Name x px, .Name y py, .Name z pz] X.env).findIdx? (·.1) = none := by rfl)
    (hq1 : (assignEach [.Name x px, .Name y py, .Name z pz] X.env).map (·.2) = assign (.Name x px) X.env :: (assignEach [.Name y py, .Name z pz] X.env).map (·.2) := by rfl) (hq2 : (assignEach [.Name y py, .Name z pz] X.env).map (·.2) = assign (.Name y py) X.env :: (assignEach [.Name z pz] X.env).map (·.2) := by rfl) (hq3 : (assignEach [.Name z pz] X.env).map (·.2) = assign (.Name z pz) X.env :: (assignEach [] X.env).map (·.2) := by rfl)
    (hs1 : starEach [a, b, e] X.env = (false, eval a X.env) :: starEach [b, e] X.env := by rfl) (hs2 : starEach [b, e] X.env = (false, eval b X.env) :: starEach [e] X.env := by rfl) (hs3 : starEach [e] X.env = (false, eval e X.env) :: starEach [] X.env := by rfl)
    (hf : X.fn x = true ∨ X.env.scope.names.lookup x = some .local := by first | exact .inl rfl | exact .inr rfl | assumption) (hf2 : X.fn y = true ∨ X.env.scope.names.lookup y = some .local := by first | exact .inl rfl | exact .inr rfl | assumption) (hf3 : X.fn z = true ∨ X.env.scope.names.lookup z = some .local := by first | exact .inl rfl | exact .inr rfl | assumption) :
    PBk' K X c Γ (.Assign [.Tuple [.Name x px, .Name y py, .Name z pz] kt pt] (.Tuple [a, b, e] k2 pt2) pos :: rest) G GR (bindT ta fun d => bindT tb fun d' => bindT te fun d'' => w d d' d'') := by
  have hK := h.hK
  subst hK
  refine ⟨.bind h.mo fun d => .bind h2.mo fun d' => .bind h3.mo fun d'' => (g d d' d'').mo, pss_imp (pss_cons (ps_asg (pe_tup (pa_cons h.pe (pa_cons h2.pe (pa_cons h3.pe pa_nil hs3) hs2) hs1)) (pg_tup hc (pgs_cons (pg_name (i := i) nd hi hx hf) (pgs_cons (pg_name (i := j) nd hj hy hf2) (pgs_cons (pg_name (i := l) nd hl hz hf3) pgs_nil hq3) hq2) hq1) hll hst) hs hw h1) (pss_ex fun d => pss_ex fun d' => pss_ex fun d'' => (g d d' d'').ps)) fun E σ H ⟨o, B, F0, F, D, st, zz⟩ => ?_⟩
  refine ⟨o, B, F0, F, D, st, h.mo.mono (fun d z1 v F1 D1 H1 g1 q1 => ⟨o, B, F0, F1, D1, st.grow g1, h2.mo.mono (fun d' z2 v' F2 D2 H2 g2 q2 => ⟨o, B, F0, F2, D2, (st.grow g1).grow g2, h3.mo.mono (fun d'' z3 v'' F3 D3 H3 g3 q3 => ?_) (fun _ h => h) z2⟩) (fun _ h => h) z1⟩) (fun _ h => h) zz⟩
  refine ⟨Nat.le_trans (show 3 ≤ 100000 by decide) (by decide), fun p hp => ?_⟩
  have gn := Grow.new (u := .tup [v, v', v'']) g3.lay hp
  have r3 := q3.new (u := .tup [v, v', v'']) (g3.lay.free hp).2 (g3.lay.free hp).1
  have r2 := (q2.later g3).later gn
  have r1 := ((q1.later g2).later g3).later gn
  have s0 := (((st.grow g1).grow g2).grow g3).grow gn
  have ap0 : ApartW σ Γ D := fun p hp => st.env.apart g1 hp
  have ap1 := ap0.next (i := i) (by rw [st.len]; exact hin) q1 g1.dd
  have ap2 := ap1.next (i := j) (by rw [List.length_set, st.len]; exact hjn) q2 g2.dd
  have t1 := set_ak s0 hin ho r1 st.gb.dd ap0
  have t2 := set_ak t1 hjn ho2 r2 (st.gb.dd.trans g1.dd) ap1
  have t3 := set_ak t2 hln ho3 r3 ((st.gb.dd.trans g1.dd).trans g2.dd) ap2
  refine ⟨_, _, rfl, SqT.of (gn.lay.fh _ _ upd_same), rfl, _, _, rfl, _, _, rfl, _, _, rfl, rfl, ?_⟩
  exact ⟨d, d', d'', o, B, F0, _, _, t3, (g d d' d'').mo.mono (fun _ q => q.up (g1.trans (g2.trans (g3.trans gn))).ff) (fun _ h => h) z3⟩
theorem pbk_par3 {i j l : Nat} {x y z : Str} {ka kb ke : AK} {px py pz pt : Pos} {kt k2 : Nat} {pt2 : Pos} {w : PyData → PyData → PyData → M (Fl S R)} (nd : X.N.Nodup) (hi : X.N[i]? = some x) (hj : X.N[j]? = some y) (hl : X.N[l]? = some z) (hij : i ≠ j) (hil : i ≠ l) (hjl : j ≠ l) (hx : X.env.scope.names.lookup x = some .local) (hy : X.env.scope.names.lookup y = some .local) (hz : X.env.scope.names.lookup z = some .local) (hin : i < c.n) (hjn : j < c.n) (hln : l < c.n) (ho : c.off [i] = true) (ho2 : c.off [j] = true) (ho3 : c.off [l] = true) (hc : X.calm = true)
    (h : PXa K X c Γ ka a ta) (h2 : PXa K X c Γ kb b tb) (h3 : PXa K X c Γ ke e te) (g : ∀ d d' d'', PBk' K X c (setE l (ke.cell d'') (setE j (kb.cell d') (setE i (ka.cell d) Γ))) rest G GR (w d d' d'')) (hw : swappedStores [.Tuple [.Name x px, .Name y py, .Name z pz] kt pt] (.Tuple [a, b, e] k2 pt2) X.env = pure (some [x, y, z]))
    (hs : swapsWithSole [.Tuple [.Name x px, .Name y py, .Name z pz] kt pt] (.Tuple [a, b, e] k2 pt2) pos.line X.env = pure false := by rfl)
    (hs1 : starEach [a, b, e] X.env = (false, eval a X.env) :: starEach [b, e] X.env := by rfl) (hs2 : starEach [b, e] X.env = (false, eval b X.env) :: starEach [e] X.env := by rfl) (hs3 : starEach [e] X.env = (false, eval e X.env) :: starEach [] X.env := by rfl) :
    PBk' K X c Γ (.Assign [.Tuple [.Name x px, .Name y py, .Name z pz] kt pt] (.Tuple [a, b, e] k2 pt2) pos :: rest) G GR (bindT ta fun d => bindT tb fun d' => bindT te fun d'' => w d d' d'') := by
  have hK := h.hK
  subst hK
  refine ⟨.bind h.mo fun d => .bind h2.mo fun d' => .bind h3.mo fun d'' => (g d d' d'').mo, pss_imp (pss_cons (ps_par3 hc nd hi hj hl hij hil hjl hx hy hz (pa_cons h.pe (pa_cons h2.pe (pa_cons h3.pe pa_nil hs3) hs2) hs1) hw hs) (pss_ex fun d => pss_ex fun d' => pss_ex fun d'' => (g d d' d'').ps)) fun E σ H ⟨o, B, F0, F, D, st, zz⟩ => ?_⟩
  refine ⟨o, B, F0, F, D, st, h.mo.mono (fun d z1 v F1 D1 H1 g1 q1 => ⟨o, B, F0, F1, D1, st.grow g1, h2.mo.mono (fun d' z2 v' F2 D2 H2 g2 q2 => ⟨o, B, F0, F2, D2, (st.grow g1).grow g2, h3.mo.mono (fun d'' z3 v'' F3 D3 H3 g3 q3 => ?_) (fun _ h => h) z2⟩) (fun _ h => h) z1⟩) (fun _ h => h) zz⟩
  have r2 := q2.later g3
  have r1 := (q1.later g2).later g3
  have s0 := ((st.grow g1).grow g2).grow g3
  have ap0 : ApartW σ Γ D := fun p hp => st.env.apart g1 hp
  have ap1 := ap0.next (i := i) (by rw [st.len]; exact hin) q1 g1.dd
  have ap2 := ap1.next (i := j) (by rw [List.length_set, st.len]; exact hjn) q2 g2.dd
  have t1 := set_ak s0 hin ho r1 st.gb.dd ap0
  have t2 := set_ak t1 hjn ho2 r2 (st.gb.dd.trans g1.dd) ap1
  have t3 := set_ak t2 hln ho3 q3 ((st.gb.dd.trans g1.dd).trans g2.dd) ap2
  exact ⟨v, v', v'', rfl, d, d', d'', o, B, F0, F3, D3, t3, (g d d' d'').mo.mono (fun _ q => q.up (g1.trans (g2.trans g3)).ff) (fun _ h => h) z3⟩
end
end Nk
set_option Elab.async false
set_option linter.all false
set_option maxRecDepth 100000
set_option maxHeartbeats 4000000
namespace Nk
open PySem PySem.Spec PyProof.Rows L2
/-! the end of a law whose own def makes lambdas: its code object's table is tracked from the start -/
section
variable {P : Program} {w : World} {K : PySem.W.Frag} {mg : Str → Option Value} {base : Heap}
theorem script_laid {a : Addr} {s₁ : Shared} {vs : List Value} {ns : List Int} (KX : K.In s₁.heap)
    (ha : s₁.heap.get? a = some { cls := .type "list", data := .seq vs.toArray }) (hi : IntsAre vs ns) (hl : ns.length ≤ sizeLine) :
    ∃ H : Hp, SqL K H a (ns.map V.int) ∧ HOk P w H s₁.heap ∧ (∀ b, H b = none ∨ (b = a ∧ K.lookup a = none)) ∧ ∀ b u, H b = some u → ∃ o v, u = .frz o (.lst v) := by
  have rv := vals_ints hi
  have lv := hi.length
  cases hk : K.lookup a with
  | some o =>
    have e := KX a o hk
    rw [ha] at e
    cases e
    exact ⟨fun _ => none, .inr ⟨_, vs.toArray, _, hk, rfl, rfl, rfl, by rw [List.size_toArray, lv]; exact hl, by simpa using rv⟩, (fun b u z => by cases z), (fun _ => .inl rfl), fun b u z => by cases z⟩
  | none =>
    let H0 : Hp := fun b => if b = a then some (.frz { cls := .type "list", data := .seq vs.toArray } (.lst (ns.map V.int))) else none
    have at_ : H0 a = some (.frz { cls := .type "list", data := .seq vs.toArray } (.lst (ns.map V.int))) := if_pos rfl
    have off : ∀ b, b ≠ a → H0 b = none := fun b z => if_neg z
    refine ⟨H0, .inl (.inr ⟨_, at_⟩), fun b u z => ?_, fun b => ?_, fun b u z => ?_⟩
    · rcases Decidable.em (b = a) with hb | hb
      · subst hb
        rw [at_] at z
        cases z
        exact ⟨ha, by rw [List.length_map]; exact hl, vs, _, rv, ha⟩
      · rw [off b hb] at z; cases z
    · rcases Decidable.em (b = a) with hb | hb
      · exact .inr ⟨hb, rfl⟩
      · exact .inl (off b hb)
    · rcases Decidable.em (b = a) with hb | hb
      · subst hb
        rw [at_] at z
        cases z
        exact ⟨_, _, rfl⟩
      · rw [off b hb] at z; cases z
theorem law_runT {mb : Str → Option Value} {k : Nat} {fa a c Pt : Addr} {fd : FuncData} {x : Str} {sp : Sp} {s₁ : Shared} {vs : List Value} {ns : List Int}
    (KX : K.In s₁.heap) (hns : s₁.heap.Ns mainGlobals mg) (hb : s₁.heap.Ns builtinsNs mb) (hbb : ∀ x : Str, x ≠ "__name__" → mb x = bootBuiltins x) (hlim : s₁.heap.NoLimit) (hg : s₁.gens = #[])
    (hP : s₁.heap.get? Pt = some { cls := .none, data := .fields #[] }) (nP : K.lookup Pt = none) (cd : PySem.W.CodeHd s₁.heap c Pt)
    (bm : ∃ (m : Addr) (ob : Obj), mg "__builtins__" = some (.ref m) ∧ m ≠ builtinsNs ∧ s₁.heap.get? m = some ob ∧ ob.cls = .type "module" ∧ ob.dict = some builtinsNs ∧ ob.data = .plain)
    (ha : s₁.heap.get? a = some { cls := .type "list", data := .seq vs.toArray }) (hi : IntsAre vs ns) (hl : ns.length ≤ sizeLine) (hr : Room k callerA)
    (F : ∀ base : Heap, K.In base → base.Ns mainGlobals mg → LamX.TabB base mg c Pt → LawOk P w K mg base k fa fd [x] sp) (hbind : ∀ (s : Shared) (u : Value), BindsTo s fd ⟨[u], []⟩ [(x, u)])
    (hsp : ∀ H : Hp, H Pt = some (.tbl #[]) → SqL K H a (ns.map V.int) → sp [.ref a] H (fun v _ => v = .bl true) E0) :
    codeAny (model P w) callerA (.call (.ref fa) ⟨[.ref a], []⟩) (fun r s' => r = .ok (.ret (.bool true)) ∧ OldK s₁.heap s'.heap ∧ s'.os = s₁.os ∧ AllBare s'.gens) s₁ := by
  obtain ⟨Hs, hS, hok, hA, hz⟩ := script_laid (P := P) (w := w) KX ha hi hl
  have PA : Pt ≠ a := fun z => by rw [z, ha] at hP; cases hP
  have sP : Hs Pt = none := (hA Pt).elim id fun z => absurd z.1 PA
  have at_ : upd Hs Pt (.tbl #[]) Pt = some (.tbl #[]) := upd_same
  have off : ∀ b, b ≠ Pt → upd Hs Pt (.tbl #[]) b = Hs b := fun b z => upd_ne z
  have sm : Same Hs (upd Hs Pt (.tbl #[])) := same_new sP
  -- what is of another kind than a list or an empty table is not tracked
  have nt : ∀ {b : Addr} {o : Obj}, s₁.heap.get? b = some o → (∀ us n, o.data ≠ .seq us n) → o.data ≠ .fields #[] → upd Hs Pt (.tbl #[]) b = none := fun {b o} e h1 h2 => by
    rcases Decidable.em (b = Pt) with z | z
    · subst z; rw [hP] at e; cases e; exact absurd rfl h2
    · rw [off b z]
      rcases hA b with y | ⟨y, _⟩
      · exact y
      · subst y; rw [ha] at e; cases e; exact absurd rfl (h1 _ _)
  have low : ∀ {b : Addr} {o : Obj}, s₁.heap.get? b = some o → upd Hs Pt (.tbl #[]) b = none → (hidT s₁.heap (upd Hs Pt (.tbl #[]))).get? b = some o := fun e n => hidT_get e n
  have nsK : ∀ {b : Addr} {m : Str → Option Value}, s₁.heap.Ns b m → (hidT s₁.heap (upd Hs Pt (.tbl #[]))).Ns b m := fun {b m} ⟨o, es, ep, e, d, r⟩ =>
    ⟨o, es, ep, low e (nt e (fun us n z => by rw [d] at z; cases z) (fun z => by rw [d] at z; cases z)), d, r⟩
  have hKb : K.In (hidT s₁.heap (upd Hs Pt (.tbl #[]))) := fun b o e => low (KX b o e) (by
    rcases Decidable.em (b = Pt) with z | z
    · subst z; rw [nP] at e; cases e
    · rw [off b z]
      rcases hA b with y | ⟨y, yk⟩
      · exact y
      · subst y; rw [yk] at e; cases e)
  have TB : LamX.TabB (hidT s₁.heap (upd Hs Pt (.tbl #[]))) mg c Pt := by
    refine ⟨?_, ?_, fun z => ?_⟩
    · obtain ⟨o, us, r1, r2, r3, r4, r5, r6, r7, e1, f1, f2, f3, rest⟩ := cd
      exact ⟨o, us, r1, r2, r3, r4, r5, r6, r7, low e1 (nt e1 (fun us n z => by rw [f2] at z; cases z) (fun z => by rw [f2] at z; cases z; simp at f3)), f1, f2, f3, rest⟩
    · obtain ⟨m, ob, b1, b2, b3, b4, b5, b6⟩ := bm
      refine ⟨m, ob, b1, b2, fun q => ?_, fun q => ?_, low b3 (nt b3 (fun us n z => by rw [b6] at z; cases z) (fun z => by rw [b6] at z; cases z)), b4, b5, b6⟩
      · obtain ⟨o, es, ep, e, hd, _⟩ := hns
        rw [q, e] at b3
        cases b3
        rw [hd] at b6
        cases b6
      · rw [q, hP] at b3
        cases b3
        cases b6
    · obtain ⟨o, es, ep, e, hd, _⟩ := hns
      rw [z, hP] at e
      cases e
      cases hd
  have hok2 : HOk P w (upd Hs Pt (.tbl #[])) s₁.heap := fun b u z => by
    rcases Decidable.em (b = Pt) with y | y
    · subst y
      rw [at_] at z
      cases z
      exact hP
    · rw [off b y] at z
      refine (hok b u z).stay (fun d v _ q => q) (fun d q => ?_) fun d xs q => sm _ _ q
      exact sm _ _ q
  have hM : Mod K mg (hidT s₁.heap (upd Hs Pt (.tbl #[]))) := ⟨hKb, nsK hns, ⟨mb, nsK hb, hbb⟩, let ⟨mc, h1, h2⟩ := hlim; ⟨mc, nsK h1, h2⟩⟩
  have e0 : Env0 P w K mg (hidT s₁.heap (upd Hs Pt (.tbl #[]))) callerA [] s₁ (upd Hs Pt (.tbl #[])) := ⟨rfl, hM, fun b o e => of_hidT e, Nat.le_of_eq (hidT_size _ _), trivial, (fun b hb => nomatch hb), hok2, .of_eq hg⟩
  have S2 : SqL K (upd Hs Pt (.tbl #[])) a (ns.map V.int) := Same.seq sm hS
  refine codeAny_mono ((F _ hKb (nsK hns) TB).run s₁ _ ⟨[.ref a], []⟩ [.ref a] [.ref a] _ hr e0 (hbind s₁ (.ref a)) (.cons rfl .nil) (hsp _ at_ S2)) fun r s' h => ?_
  match r, h with
  | .ok (.ret u), ⟨v, H', os, bare, un, hok', r', q⟩ =>
    have q' : v = .bl true := q
    subst q'
    obtain rfl : u = Value.bool true := r'
    obtain ⟨more, tm⟩ := un.tbls Pt #[] at_
    have grown : s'.heap.get? Pt = some { cls := .none, data := .fields (#[] ++ more) } := hok' Pt _ tm
    have key : ∀ b o, b ≠ Pt → s₁.heap.get? b = some o → s'.heap.get? b = some o := fun b o nb e => by
      cases q : Hs b with
      | none => exact un.keep b o e ((off b nb).trans q) (fun z => nomatch (show b ∈ ([] : List Addr) from z)) (by simp)
      | some u =>
        obtain ⟨ob, xs, rfl⟩ := hz b u q
        have z2 := un.frzs b ob _ ((off b nb).trans q)
        obtain ⟨e1, _⟩ := hok b _ q
        obtain ⟨e2, _⟩ := hok' b _ z2
        rw [e] at e1
        cases e1
        exact e2
    refine ⟨rfl, ⟨fun b o e => ?_, fun b o e => ?_⟩, os, bare⟩
    · rcases Decidable.em (b = Pt) with z | z
      · subst z
        rw [hP] at e
        cases e
        exact .inr (.inl ⟨(cd.tab hP).isCodeTable, rfl, #[], more, rfl, grown⟩)
      · exact .inl (key b o z e)
    · rcases Decidable.em (b = Pt) with z | z
      · subst z
        exact ⟨_, grown⟩
      · exact ⟨o, key b o z e⟩
end
theorem walk_lawT {l : PySem.W.OpenLaw} {n k : Nat} {q : Program} {loose : List Str} {XP : (Str → Option Value) → Heap → Prop} {YP : World → Heap → Prop} {d : DefRec} {K : Params → PySem.W.Frag} {c Pt : Addr} {sp : PySem.W.Frag → Sp} {x : Str}
    (hn : l.most = some n) (hn2 : n ≤ sizeLine) (hdf : d.params.defaults = []) (hr : Room k callerA) (hY : ∀ (w : World) (h : Heap), YP w h → (K w.params).In h)
    (hrec : (recsOf q).find? (fun e => e.name == d.name) = some d)
    (F : ∀ (w : World) (mg : Str → Option Value) (fa : Addr) (h : Heap), (K w.params).In h → h.Ns mainGlobals mg → mg d.name = some (.ref fa) →
      PySem.W.tabIn (K w.params) d.name = some (c, Pt) ∧ (K w.params).lookup Pt = none ∧
      ∃ fd : FuncData, (∀ (s : Shared) (u : Value), BindsTo s fd ⟨[u], []⟩ [(x, u)]) ∧ ∀ base : Heap, (K w.params).In base → base.Ns mainGlobals mg → LamX.TabB base mg c Pt → LawOk l.prog w (K w.params) mg base k fa fd [x] (sp (K w.params)))
    (hsp : ∀ (K : PySem.W.Frag) (H : Hp) (a : Addr) (ns : List Int), ns.length ≤ n → H Pt = some (.tbl #[]) → SqL K H a (ns.map V.int) → sp K [.ref a] H (fun v _ => v = .bl true) E0) :
    PySem.W.WalkO q loose XP YP l.row.toRowW d [] (fun f vs => PySem.call f vs) := by
  refine Att.attach_call hn hdf fun w s₀ s₁ mg mb fa o pm cd doc a vs ns G Y ho hd hcd hmg hobj hints hlen hg => ?_
  have KX := hY w _ Y
  obtain ⟨ht, nP, fd, hb, hF⟩ := F w mg fa _ KX G.T.g hmg
  obtain ⟨C, hP⟩ := PySem.W.tab_of G.T KX hrec ht
  exact law_runT KX G.T.g G.T.b G.T.builtins G.T.nolimit hg hP nP C G.T.bmain hobj hints (Nat.le_trans hlen hn2) hr hF hb fun H hH hS => hsp _ H a ns hlen hH hS
theorem tb_start {D H : Hp} {Pt : Addr} {q : Str} (hD : D Pt = none) (h : H Pt = some (.tbl #[])) : TbAs [(Pt, q)] D H := fun p hp => by
  obtain rfl := List.mem_singleton.mp hp
  exact ⟨hD, #[], h, trivial, fun pos cv hc => by simp [codeAmong] at hc⟩
end Nk
set_option Elab.async false
set_option linter.all false
set_option maxRecDepth 100000
set_option maxHeartbeats 4000000
namespace Nk
open PySem PySem.Spec PyProof.Rows L2
/-! try with several clauses, each with or without a name (goes the steps of the library's own two rules for one clause with a name, and for several without) -/
structure HSp where
  c : Value
  i : Option Nat
  ts : Addr → Value → Option Addr → TS
def delE (D : Ends) (i : Nat) : Ends where
  nx := fun τ J => D.nx (τ.set i none) J
  rt := D.rt
  bk := fun τ J => D.bk (τ.set i none) J
  ct := fun τ J => D.ct (τ.set i none) J
def HSp.go (h : HSp) (D : Ends) (a : Addr) (cls : Value) (d : Option Addr) (σ : L2.St) (H : Hp) : Prop := match h.i with
  | none => h.ts a cls d D σ H
  | some i => h.ts a cls d (delE D i) (σ.set i (some (.ref a))) H
/-- what the clauses wish, one after another -/
def wHands (K : PySem.W.Frag) (n : Nat) (W0 : WX) (D : Ends) : List HSp → WX
  | [] => W0
  | h :: r => fun cls d σ H => ∃ b, PySem.W.exmOne K cls h.c = some b ∧ (b = true → ∀ a, H a = none → σ.length = n → h.go D a cls d σ H) ∧ (b = false → wHands K n W0 D r cls d σ H)
abbrev SuiteOk (X : Cx) (ss : List Stmt) (ts : Addr → Value → Option Addr → TS) : Prop := ∀ (a : Addr) (oe : Obj) (cls : Value) (d : Option Addr) (pn : List (Addr × Obj)), Zc cls d oe → (∃ vs, oe.data = .fields vs) → PSs (X.suite a ((a, oe) :: pn)) ss (ts a cls d)
inductive HandsOk (X : Cx) : List ExceptHandler → List HSp → Prop
  | nil : HandsOk X [] []
  | bare {x : Str} {c : Value} {ts} {st : Stmt} {ss : List Stmt} {np hp : Pos} {hds : List ExceptHandler} {l : List HSp} (hc : Names X x c) (su : SuiteOk X (st :: ss) ts) (r : HandsOk X hds l) :
      HandsOk X (.ExceptHandler (some (.Name x np)) none (st :: ss) hp :: hds) (⟨c, none, ts⟩ :: l)
  | named {x n : Str} {i : Nat} {c : Value} {ts} {st : Stmt} {ss : List Stmt} {np hp : Pos} {hds : List ExceptHandler} {l : List HSp} (hc : Names X x c) (hi : X.N[i]? = some n) (hn : X.env.kindOf n = some .local) (su : SuiteOk X (st :: ss) ts) (r : HandsOk X hds l) :
      HandsOk X (.ExceptHandler (some (.Name x np)) (some n) (st :: ss) hp :: hds) (⟨c, some i, ts⟩ :: l)
section
variable {X : Cx} {body : List Stmt} {h0 : ExceptHandler} {hds : List ExceptHandler} {l : List HSp} {pos : Pos} {tb : WX → TS} {W0 : WX}
theorem ps_hands (nd : X.N.Nodup) (hs : X.stack = X.env :: X.outer) (hf : X.env.frame = some X.env.locals) (tk : Takes X W0)
    (hb : ∀ (W : WX) (pn : List (Addr × Obj)) (xe : Value → Shared → Prop), Takes (X.tr pn xe) W → PassesOwn (model X.prog X.w) X.A X.env xe → PSs (X.tr pn xe) body (tb W))
    (hh : HandsOk X (h0 :: hds) l) : PS X (.Try body (h0 :: hds) [] [] pos) (fun D σ H => tb (wHands X.K X.N.length W0 D l) D σ H) := by
  constructor
  intro pins s σ H D I z
  have ok := I.ok
  have fr : X.A.frames = some (X.env :: X.outer) := by rw [ok.frames, hs]
  let look : Value → Shared → Prop := fun e t => wpAny (model X.prog X.w) X.A (noteFrame e X.env) (fun _ t2 => wpAny (model X.prog X.w) X.A (setFlight e none) (fun _ t3 => wpAny (model X.prog X.w) X.A (handleBy e X.env (h0 :: hds)) (SP X pins D) X.xe t3) X.xe t2) X.xe t
  have caught : Takes (X.tr (X.pn ++ pins) look) (wHands X.K X.N.length W0 D l) := by
    intro u t xx
    obtain ⟨a, B, sI, pins', τ, J, cls, d, rfl, J', nb, up, sky, na, os, ag, w⟩ := xx
    have I1 : Inv X pins τ J sI := J'.ofTry ok
    have sk : Sky B (X.env :: X.outer) a (Zc cls d) X.env.locals t.heap := by rw [← hs]; exact sky
    show wpAny _ X.A (noteFrame (.ref a) X.env) _ _ _
    refine Sky.land Zc.steady fr hf sk fun g fl up1 => ?_
    have I2 : Inv X pins τ J { t with heap := g } := I1.landed nb fl.1 (up.trans up1) os ag
    obtain ⟨oe, fs, ea, hz, hd⟩ := fl.there
    have nfr : a ∉ frs (X.env :: X.outer) := fun m => by
      obtain ⟨_, o', e', n'⟩ := fl.2.2.1.mem m
      rw [ea] at e'
      cases e'
      exact n' _ hd
    have nL : a ≠ X.env.locals := fun y => nfr (List.mem_filterMap.mpr ⟨X.env, List.mem_cons_self, by rw [hf, y]⟩)
    have nF : a ∉ X.fs := fun m => by
      obtain ⟨v, hv, q⟩ := List.mem_filterMap.mp m
      exact nfr (List.mem_filterMap.mpr ⟨v, List.mem_cons_of_mem _ hv, q⟩)
    have SI := I2.suite ea hd na nL nF
    have name : ∀ {x : Str} {c : Value} {np : Pos} {Q E : Value → Shared → Prop}, Names X x c → Q c { t with heap := g } → wpAny (model X.prog X.w) (X.A.mark (some (.ref a))) (eval (.Name x np) X.env) Q E { t with heap := g } := fun {x c np Q E} hc q => by
      rcases hc with ⟨hg, db, m | ⟨m, bv, nn⟩⟩
      · exact ld_glob (X := X.suite a ((a, oe) :: (X.pn ++ pins))) SI hg m q db
      · exact ld_blt (X := X.suite a ((a, oe) :: (X.pn ++ pins))) SI hg m bv q nn db
    have run : ∀ {es : List ExceptHandler} {ws : List HSp}, HandsOk X es ws → wHands X.K X.N.length W0 D ws cls d τ J → wpAny (model X.prog X.w) X.A (handleBy (.ref a) X.env es) (SP X pins D) X.xe { t with heap := g } := by
      intro es ws ho
      induction ho with
      | nil =>
        intro w
        apply wpAny_handleBy_nil
        obtain ⟨k1, k2, k3, o1, v1, T, oT, t1, e1, z1, d1, p1, r1⟩ := id fl
        unfold PySem.passOn
        apply wpAny_bind
        apply wpAny_field e1 d1 p1
        rw [if_neg (show ¬ ((Value.ref T == Value.none) = true) by simp)]
        have out : wpAny (model X.prog X.w) X.A (setFlight (.ref a) X.env.frame) (fun _ t4 => wpAny (model X.prog X.w) X.A (throw (.ref a) : Sem Flow) (SP X pins D) X.xe t4) X.xe { t with heap := g } := by
          rw [hf]
          refine HandSPX.setFlight_upZ fl fun g4 hg4 up4 => wpAny_throw (tk _ _ ?_)
          exact ⟨a, B, sI, pins, τ, J, cls, d, rfl, I1, nb, (up.trans up1).trans up4, .inr (.inr (by rw [hs]; exact hg4)), na, os, ag, w⟩
        first
          | exact wpAny_bind (wpAny_pure (wpAny_bind out))
          | exact wpAny_bind out
      | @bare x c ts st ss np hp es2 l2 hc su r ih =>
        rintro ⟨b, hb1, yes, no⟩
        refine wpAny_handleBy_cons (codeAny_handlers_test ?_) (by intro q; cases q)
        have ty : PySem.W.Looks (model X.prog X.w) g (typeOf (.ref a)) cls := fun A Q E t5 k q => wpAny_typeOf_ref (k _ _ ea) (by rw [hz.1]; exact q)
        refine name hc ((PySem.W.exm_one (M := model X.prog X.w) I2.kIn ty hb1).here ?_)
        cases b
        · exact ih (no rfl)
        · apply codeAny_handlers_suite
          refine HandSPX.lands_againZ fl fun g4 fl4 up4 => ?_
          obtain ⟨o4, v4, e4, z4, d4⟩ := fl4.there
          have I4 : Inv X pins τ J { t with heap := g4 } := I1.landed nb fl4.1 ((up.trans up1).trans up4) os ag
          have S4 := I4.suite e4 d4 na nL nF
          refine wpAny_mono ((su a o4 cls d (X.pn ++ pins) z4 ⟨_, d4⟩).run [] _ _ J _ S4 (yes rfl a na I1.len)) (fun f t6 hp6 => ?_) (fun _ _ y => y.elim)
          match f, hp6 with
          | .next, ⟨τ6, J6, S6, q6⟩ => exact ⟨_, _, S6.unsuite ok, q6⟩
          | .brk, ⟨τ6, J6, S6, q6⟩ => exact ⟨_, _, S6.unsuite ok, q6⟩
          | .cont, ⟨τ6, J6, S6, q6⟩ => exact ⟨_, _, S6.unsuite ok, q6⟩
          | .ret u, ⟨v6, τ6, J6, S6, r6, q6⟩ => exact ⟨_, _, _, S6.unsuite ok, r6, q6⟩
      | @named x n i c ts st ss np hp es2 l2 hc hi hn su r ih =>
        rintro ⟨b, hb1, yes, no⟩
        refine wpAny_handleBy_cons (codeAny_handlers_test ?_) (by intro q; cases q)
        have ty : PySem.W.Looks (model X.prog X.w) g (typeOf (.ref a)) cls := fun A Q E t5 k q => wpAny_typeOf_ref (k _ _ ea) (by rw [hz.1]; exact q)
        refine name hc ((PySem.W.exm_one (M := model X.prog X.w) I2.kIn ty hb1).here ?_)
        cases b
        · exact ih (no rfl)
        · apply codeAny_handlers_suite_as
          refine HandSPX.lands_againZ fl fun g4 fl4 up4 => ?_
          obtain ⟨o4, v4, e4, z4, d4⟩ := fl4.there
          have I4 : Inv X pins τ J { t with heap := g4 } := I1.landed nb fl4.1 ((up.trans up1).trans up4) os ag
          have S4 := I4.suite e4 d4 na nL nF
          refine store_ok (X := X.suite a ((a, o4) :: (X.pn ++ pins))) (v := .ref a) S4 nd hi (.inl hn) rfl (fun t5 S5 => ?_) (.inr hn)
          refine wpAny_mono ((su a o4 cls d (X.pn ++ pins) z4 ⟨_, d4⟩).run [] t5 _ J _ S5 (yes rfl a na I1.len)) (fun f t6 hp6 => ?_) (fun _ _ y => y.elim)
          have off : ∀ {τ6 : L2.St} {J6 : Hp} {Q : Shared → Prop}, Inv (X.suite a ((a, o4) :: (X.pn ++ pins))) [] τ6 J6 t6 → (∀ t7, Inv X pins (τ6.set i none) J6 t7 → Q t7) →
              wpAny (model X.prog X.w) X.A (do bindName X.env n .none; unbindBehindTheSuite X.env n hp) (fun _ t7 => Q t7) X.xe t6 := fun S6 hq => gone_ok (S6.unsuite ok) nd hi hn hq
          match f, hp6 with
          | .next, ⟨τ6, J6, S6, q6⟩ => exact off S6 fun t7 I7 => ⟨_, _, I7, q6⟩
          | .brk, ⟨τ6, J6, S6, q6⟩ => exact off S6 fun t7 I7 => ⟨_, _, I7, q6⟩
          | .cont, ⟨τ6, J6, S6, q6⟩ => exact off S6 fun t7 I7 => ⟨_, _, I7, q6⟩
          | .ret u, ⟨v6, τ6, J6, S6, r6, q6⟩ => exact off S6 fun t7 I7 => ⟨_, _, _, I7, r6, q6⟩
    exact run hh w
  apply wpAny_Try_except
  refine wpAny_mono ((hb (wHands X.K X.N.length W0 D l) (X.pn ++ pins) look caught PassesOwn.looking).run [] s σ H D (I.toTry _) z) (fun f t hp => ?_) (fun e t he => he)
  match f, hp with
  | .next, ⟨τ, J, I', q⟩ => exact wpAny_execs_nil ⟨τ, J, I'.ofTry ok, q⟩
  | .brk, ⟨τ, J, I', q⟩ => exact ⟨τ, J, I'.ofTry ok, q⟩
  | .cont, ⟨τ, J, I', q⟩ => exact ⟨τ, J, I'.ofTry ok, q⟩
  | .ret u, ⟨v, τ, J, I', r, q⟩ => exact ⟨v, τ, J, I'.ofTry ok, r, q⟩
end
end Nk
set_option Elab.async false
set_option linter.all false
set_option maxRecDepth 100000
set_option maxHeartbeats 4000000
namespace Nk
open PySem PySem.Spec PyProof.Rows L2
/-! x(lambda: e): the library's rule lets all tables go; here just the one at P is written (goes the steps of its own rule) -/
section
variable {X : Cx} {pins : List (Addr × Obj)} {σ : L2.St} {H D : Hp} {s : Shared} {c P : Addr}
abbrev lamQ (X : Cx) : Str := X.env.qual ++ "<lambda>"
theorem lam_make3 {params : Arguments} {body : Expr} {scope : Scope} {pos : Pos} {E Q : Value → Shared → Prop} (I : Inv X pins σ H s) (TB : LamX.TabB X.base X.mg c P) (hcode : X.env.code = .ref c)
    (t : TbA D H P (lamQ X)) (sm : Same D H) (hdef : defaultsOf params X.env = ([], [])) (hfree : ∀ y ∈ scope.names, y.2 = .free → ∃ c, X.env.cells.lookup y.1 = some c)
    (h : ∀ (f c' : Addr) (pm ctv : Value) (H1 : Hp) (s' : Shared), Inv X pins σ H1 s' → TbA D H1 P (lamQ X) → Same D H1 → H1 c' = some (LamX.CodeO c' (lamQ X)) → (∀ b, H b = some (.lst []) ∨ (∃ xs, H b = some (.lst xs)) → H1 b = H b) →
      s'.heap.get? f = some (PySem.W.kla_obj "<lambda>" (lamQ X) params body scope (cloFrom X.env.cells scope.names []) pm c' ctv) → H1 f = none → f ∉ frs X.stack → Q (.ref f) s') :
    wpAny (model X.prog X.w) X.A (eval (.Lambda params body scope pos) X.env) Q E s := by
  obtain ⟨dP, ps, hP, tri, cs⟩ := t
  apply PySem.W.kla_eval hdef
  have bP : s.heap.BuiltinsAt X.mg P := TB.bm.keeps I.bk
  have gP : s.heap.get? P = some { cls := .none, data := .fields ps } := I.hok P _ hP
  have far : ∀ f, s.heap.objs.size ≤ f → f ∉ frs X.stack := fun f hf z => by
    rcases List.mem_cons.mp (I.stkSub _ z) with e | e
    · exact absurd (e ▸ I.lt) (Nat.not_lt.mpr hf)
    · exact I.nofs hf e
  cases hc : codeAmong pos ps.toList with
  | some cv =>
    obtain ⟨c', e, n1, hco⟩ := cs pos cv hc
    subst e
    refine PySem.W.kla_makeFunctionHit (mg := X.mg) (c := c) (P := P) (ps := ps) (closure_ok hfree) I.ok.glob (I.mod.glob.keeps I.bk) hcode (TB.code.keeps I.bk) gP tri hc bP fun ctv h' tk hx hsz => ?_
    have J : Inv X pins σ H { s with heap := h'.push (PySem.W.kla_obj "<lambda>" (lamQ X) params body scope (cloFrom X.env.cells scope.names []) ((X.mg "__name__").getD .none) c' ctv), toks := tk } := I.kept fun b o e => Heap.get?_push_of_some _ (hx b o e)
    exact h h'.objs.size c' _ ctv H _ J ⟨dP, ps, hP, tri, cs⟩ sm hco (fun _ _ => rfl) (Heap.get?_push_size _ rfl) (I.hok.fresh hsz) (far _ hsz)
  | none =>
    refine PySem.W.kla_makeFunction (mg := X.mg) (c := c) (P := P) (ps := ps) (closure_ok hfree) I.ok.glob (I.mod.glob.keeps I.bk) hcode (TB.code.keeps I.bk) gP tri hc TB.gP bP fun c' ctv h' tk hx hge hlt hrec htb => ?_
    obtain ⟨c2, oc, vs, tt, e2, hoc, hd, hv⟩ := hrec
    cases e2
    have hsz : s.heap.objs.size ≤ h'.objs.size := Nat.le_trans hge (Nat.le_of_lt hlt)
    have nC : H c' = none := I.hok.fresh hge
    have dC : D c' = none := sm.free nC
    have J := LamX.inv_table (t' := tk) (more := #[rawInt pos.line, rawInt pos.col, .ref c']) (h' := h'.push (PySem.W.kla_obj "<lambda>" (lamQ X) params body scope (cloFrom X.env.cells scope.names []) ((X.mg "__name__").getD .none) c' ctv)) I hP
      (fun b o hb e => Heap.get?_push_of_some _ (hx b o hb e)) (Heap.get?_push_of_some _ htb) hge ⟨oc, vs, tt, Heap.get?_push_of_some _ hoc, hd, hv⟩
    have cP : P ≠ c' := ne_of_none hP nC
    have keep : ∀ b u, H b = some u → b ≠ P → upd (upd H P (.tbl (ps ++ #[rawInt pos.line, rawInt pos.col, .ref c']))) c' (LamX.CodeO c' (lamQ X)) b = some u := fun b u e n => by
      rw [upd_ne (ne_of_none e nC), upd_ne n]
      exact e
    have eL : (ps ++ #[rawInt pos.line, rawInt pos.col, .ref c']).toList = ps.toList ++ [rawInt pos.line, rawInt pos.col, .ref c'] := by simp
    refine h h'.objs.size c' _ ctv _ _ J ⟨dP, _, by rw [upd_ne cP, upd_same], by rw [eL]; exact PySem.TriplesOk_snoc _ _ _ _ tri, fun p' cv hcv => ?_⟩ (fun b u e => keep b u (sm b u e) (fun z => by subst z; rw [dP] at e; cases e)) upd_same (fun b hb => ?_) (Heap.get?_push_size _ rfl) ?_ (far _ hsz)
    · rw [eL] at hcv
      rcases LamX.among_app _ tri hcv with z | z
      · obtain ⟨c0, e1, n0, e2⟩ := cs p' cv z
        exact ⟨c0, e1, n0, keep _ _ e2 (fun y => by rw [y, hP] at e2; unfold LamX.CodeO at e2; cases e2)⟩
      · exact ⟨c', z, dC, upd_same⟩
    · have : ∃ xs, H b = some (.lst xs) := hb.elim (fun z => ⟨_, z⟩) id
      obtain ⟨xs, e⟩ := this
      rw [keep b _ e (fun z => by rw [z, hP] at e; cases e), e]
    · rw [upd_ne (Nat.ne_of_gt hlt), upd_ne (Nat.ne_of_gt (Nat.lt_of_lt_of_le (Heap.lt_size gP) hsz))]
      exact I.hok.fresh hsz
/-- the lambda's reading tl, told what it is asked at a heap; TT: what is made of it -/
def tLam3 (P : Addr) (q : Str) (TT : (XK → Hp → VK → Prop) → Hp → VK → Prop) (t : XK → TE) : TE := fun σ H Q => ∃ D, Same D H ∧ TbA D H P q ∧ ∀ H1, Same D H1 → TbA D H1 P q → (∀ b, H b = some (.lst []) ∨ (∃ xs, H b = some (.lst xs)) → H1 b = H b) → TT (fun E H' Q' => t E σ H' Q') H1 Q
theorem pe_lam3 {TT : (XK → Hp → VK → Prop) → Hp → VK → Prop} {x a : Str} {g : Addr} {k : Nat} {pg : Arguments} {bg : List Stmt} {sg : Scope} {dV kV doc pm cdv ct oc : Value} {an od : Option Addr} {osl : Array (Option Value)} {Ng : List Str}
    {params : Arguments} {body : Expr} {scope : Scope} {t : XK → TE} {p lpos pos : Pos} (hg : Gl X x) (hm : X.mg x = some (.ref g)) (hk : PySem.W.keepIn X.K (.ref g) = true)
    (lk : X.K.lookup g = some ⟨oc, od, .func (PySem.W.fnOf x x pg bg sg dV kV doc pm an cdv ct), osl⟩) (hcg : PySem.W.codeIn X.K cdv x = true) (hb : L2.Binds X.K (PySem.W.fnOf x x pg bg sg dV kV doc pm an cdv ct) [a] []) (Sg : FnScope Ng [a] sg) (hNg : Ng[0]? = some a) (hva : Vis sg a)
    (hG : LamX.GivesTo X Ng x sg g cdv bg a (lamQ X) TT) (TB : LamX.TabB X.base X.mg c P) (hcode : X.env.code = .ref c) (hr : Room (k + 2) X.A) (L : LamX.LamS X.env.scope scope) (hdef : defaultsOf params X.env = ([], []))
    (hbind : ∀ (q : Str) (cl : List (Str × Addr)) (pm cv ctv : Value), bindArgs (PySem.W.kla_fn "<lambda>" q params body scope cl pm cv ctv) ⟨[], []⟩ = pure [])
    (hbody : ∀ (A : Around) (outer : List PySem.Env) (s : Shared) (H : Hp) (E : XK) (f c' : Addr), Room k (A.deeper (LamX.lamEnv X scope s.heap.objs.size f c')) → PE (LamX.lamCx X A outer s H E scope f c') body (t E))
    (hdb : (x == ("__debug__" : Str)) = false := by decide) (hd : (a == ("__debug__" : Str)) = false := by decide) (hcd : (a == ("__classdict__" : Str)) = false := by decide) :
    PE X (.Call (.Name x p) [.Lambda params body scope lpos] [] pos) (tLam3 P (lamQ X) TT t) := by
  constructor
  rintro pins s σ H Q I ⟨D, sm, tb, h⟩
  refine wpAny_Call_Name_kw (ld_glob I hg hm ?_ hdb)
  refine PySem.W.callWith_K (h₀ := X.base) I.ok.mod.kin hk ?_ (by rfl) (by rfl)
  show wpAny _ _ (spliced ((false, eval (.Lambda params body scope lpos) X.env) :: backTo pos (starEach [] X.env))) _ _ s
  refine Calls.spliced_cons (lam_make3 I TB hcode tb sm hdef (L.has I.ok) fun f c' pm' ctv H1 s' I1 tb1 sm1 hco kl hf hfn hfr => Calls.spliced_nil ⟨I1.kIn, ?_⟩)
  have go : codeAny (model X.prog X.w) X.A (.call (.ref g) ⟨[.ref f], []⟩) (CR C8.CX0 X.stack X.prog X.w H1 s' Q C8.E0) s' := by
    refine LamX.run_ofS (N := Ng) (ps := [a]) (us := [.ref f]) (vs := [.ref f]) lk hcg Sg hr I1.env0 (hb s' [.ref f] I1.kIn rfl) (.cons rfl .nil) rfl fun hr' => ?_
    obtain ⟨t', ht', hq'⟩ := hG f c' s' H1 Q (fun E H' Q' => t E σ H' Q') (fun W pn xe E p1 p2 tk hW => LamX.pe_act (i := 0) I1 L hf hfn hfr (hbind _ _ _ _ _) tk hW hr' (fun A outer s H hr2 => hbody A outer s H E f c' hr2) hNg hva hd hcd) hco (h H1 sm1 tb1 kl)
    exact ⟨t', ht'.nox, hq'⟩
  refine wpAny_call (codeAny_mono go fun r s2 hq => ?_)
  match r, hq with
  | .ok (.ret u), hq => exact I1.after hq
end
end Nk
set_option Elab.async false
set_option linter.all false
set_option maxRecDepth 100000
set_option maxHeartbeats 4000000
namespace Nk
open PySem PySem.Spec PyProof.Rows L2
section
variable {mg : Str → Option Value} {K : PySem.W.Frag} {F H F' D' H' F2 D2 H2 : Hp}
theorem Grow.top (g : Grow .no F H F' D' H') : Grow .no F H F' H' H' := ⟨g.ff, g.dd.trans g.lay.sub, g.fresh, ⟨g.lay.fh, Same.refl _, (fun a z => nomatch z), fun p z => nomatch z⟩⟩
theorem lay0 (s : Same F H) : Lay .no F H H := ⟨s, Same.refl _, (fun a z => nomatch z), fun p z => nomatch z⟩
theorem Grow.refl0 (s : Same F H) : Grow .no F H F H H := .refl (lay0 s)
theorem Grow.via (g : Grow .no F H F' D' H') (h : Grow .no F' H' F2 D2 H2) : Grow .no F H F2 D2 H2 := g.top.trans h
theorem ExR.up {e : Exn} {cv : Value} {d : Option Addr} (h : ExR mg K F H e cv d) (g : Grow .no F H F' D' H') : ExR mg K F' H' e cv d := by
  obtain ⟨C, h1, h2, h3⟩ := h
  refine ⟨C, h1, h2, ?_⟩
  cases e with
  | mk x arg =>
    cases arg with
    | none => exact h3
    | some fa =>
      obtain ⟨p, v, e1, e2, e3, e4⟩ := h3
      refine ⟨p, v, e1, g.lay.sub _ _ (g.dd _ _ e2), ?_, e4.same g.ff⟩
      cases q : F' p with
      | none => rfl
      | some y =>
        have := g.fresh _ _ q e3
        rw [e2] at this
        cases this
/-! expressions in a clause's suite: the exception that it holds has the name of slot i -/
def hK (F H : Hp) (K : PySem.W.Frag) (Q : VK) : PyData → Prop := fun r => ∀ v F' D' H', Grow .no F H F' D' H' → Dq K F' v r → Q v H'
def hKs (F H : Hp) (K : PySem.W.Frag) (Q : List V → Hp → Prop) : List PyData → Prop := fun r => ∀ vs F' D' H', Grow .no F H F' D' H' → DqAll K F' vs r → Q vs H'
def no1 : Exn → Prop := fun _ => False
structure HX (X : Cx) (i : Nat) (ex : Expr) (h : Exn → M PyData) : Prop where
  mo : ∀ e, Mono (h e)
  pe : ∀ (a : Addr) (oe : Obj) (cls : Value) (d : Option Addr) (pn : List (Addr × Obj)), Zc cls d oe → (∃ vs, oe.data = .fields vs) → ∃ te, PE (X.suite a ((a, oe) :: pn)) ex te ∧
    ∀ (σ : L2.St) (H F : Hp) (Q : VK) (e : Exn), σ[i]? = some (some (.ref a)) → Same F H → ExR X.mg X.K F H e cls d → h e (hK F H X.K Q) no1 → te σ H Q
structure HXs (X : Cx) (i : Nat) (exs : List Expr) (h : Exn → M (List PyData)) : Prop where
  mo : ∀ e, Mono (h e)
  ln : ∀ e k x, h e k x → h e (fun ds => ds.length = exs.length ∧ k ds) x
  pa : ∀ (a : Addr) (oe : Obj) (cls : Value) (d : Option Addr) (pn : List (Addr × Obj)), Zc cls d oe → (∃ vs, oe.data = .fields vs) → ∃ ta, PA (X.suite a ((a, oe) :: pn)) exs ta ∧
    ∀ (σ : L2.St) (H F : Hp) (Q : List V → Hp → Prop) (e : Exn), σ[i]? = some (some (.ref a)) → Same F H → ExR X.mg X.K F H e cls d → h e (hKs F H X.K Q) no1 → ta σ H Q
end
section
variable {X : Cx} {i : Nat} {ex : Expr} {exs : List Expr} {h : Exn → M PyData} {hs : Exn → M (List PyData)} {pos p : Pos}
theorem hx_str {s : Str} {j : Nat} : HX X i (.Constant (.str s) j pos) (fun _ => pureT (.str s)) :=
  ⟨fun _ => .pure, fun a oe cls d pn hz hf => ⟨_, pe_str, fun σ H F Q e _ sm _ z => z (.str s) F H H (.refl0 sm) (.str _)⟩⟩
theorem hxs_nil : HXs X i [] (fun _ => nilT) := ⟨fun _ => .pure, fun _ _ _ z => ⟨rfl, z⟩, fun a oe cls d pn hz hf => ⟨_, pa_nil, fun σ H F Q e _ sm _ z => z [] F H H (.refl0 sm) .nil⟩⟩
theorem hxs_cons (h1 : HX X i ex h) (h2 : HXs X i exs hs) (he : ∀ a pn, starEach (ex :: exs) (X.suite a pn).env = (false, eval ex (X.suite a pn).env) :: starEach exs (X.suite a pn).env := by intro a pn; rfl) : HXs X i (ex :: exs) (fun e => consT (h e) (hs e)) := by
  refine ⟨fun e => .bind (h1.mo e) fun _ => .bind (h2.mo e) fun _ => .pure, fun e k x z => len_cons (h1.mo e) (h2.ln e) k x z, fun a oe cls d pn hz hf => ?_⟩
  obtain ⟨te, p1, q1⟩ := h1.pe a oe cls d pn hz hf
  obtain ⟨ta, p2, q2⟩ := h2.pa a oe cls d pn hz hf
  refine ⟨_, pa_cons p1 p2 (he _ _), fun σ H F Q e hi sm er z => ?_⟩
  refine q1 σ H F _ e hi sm er ((h1.mo e).mono (fun r z1 v F1 D1 H1 g1 d1 => ?_) (fun _ y => y) z)
  exact q2 σ H1 F1 _ e hi g1.lay.fh (er.up g1) ((h2.mo e).mono (fun rs z2 vs F2 D2 H2 g2 d2 => z2 (v :: vs) F2 D2 H2 (g1.via g2) (.cons (d1.same g2.ff) d2)) (fun _ y => y) z1)
theorem hx_lst (h1 : HXs X i exs hs) (hl : exs.length ≤ 1000 := by decide) : HX X i (.List exs pos) (fun e => bindT (hs e) fun ds => pureT (.list ds)) := by
  refine ⟨fun e => .bind (h1.mo e) fun _ => .pure, fun a oe cls d pn hz hf => ?_⟩
  obtain ⟨ta, p1, q1⟩ := h1.pa a oe cls d pn hz hf
  refine ⟨_, pe_lst p1, fun σ H F Q e hi sm er z => q1 σ H F _ e hi sm er ((h1.mo e).mono (fun rs z1 vs F1 D1 H1 g1 d1 => ?_) (fun _ y => y) (h1.ln e _ _ z))⟩
  refine ⟨by rw [d1.length, z1.1]; exact Nat.le_trans hl (by decide), fun q hq => z1.2 _ _ _ _ (g1.via (.new (lay0 g1.lay.fh) hq)) (.lst upd_same (d1.same (same_new (g1.lay.fh.free hq))))⟩
/-- isinstance(error, C) of an exception of class x without fields -/
theorem hx_is {x y n : Str} {D Am : Addr} {b : Bool} {p1 p2 p3 : Pos} (C : ExcC X.K D) (gD : X.mg x = some (.ref D)) (gA : X.mg y = some (.ref Am)) (hk : PySem.W.kitOne X.K (.ref D) (.ref Am) = some b) (hm : X.mg "isinstance" = none) (hN : X.N[i]? = some n) (hv : Vis X.env.scope n) (hg : Gl X "isinstance" := by rfl) (hgA : Gl X y := by rfl)
    (hd : (n == ("__debug__" : Str)) = false := by decide) (hcd : (n == ("__classdict__" : Str)) = false := by decide) (hdA : (y == ("__debug__" : Str)) = false := by decide)
    (he : ∀ a pn, starEach [.Name n p2, .Name y p3] (X.suite a pn).env = (false, eval (.Name n p2) (X.suite a pn).env) :: starEach [.Name y p3] (X.suite a pn).env := by intro a pn; rfl) (he2 : ∀ a pn, starEach [.Name y p3] (X.suite a pn).env = (false, eval (.Name y p3) (X.suite a pn).env) :: starEach [] (X.suite a pn).env := by intro a pn; rfl)
    (hpl : ∀ a pn, (backTo pos (starEach [.Name y p3] (X.suite a pn).env)).any (·.1) = false := by intro a pn; rfl) : HX X i (.Call (.Name "isinstance" p1) [.Name n p2, .Name y p3] [] pos) (fun e => if e.cls = x ∧ e.arg = none then pureT (.bool b) else failT) := by
  refine ⟨fun e => .ite .pure .fail, fun a oe cls d pn hz hf => ?_⟩
  by_cases hc : cls = .ref D ∧ d = none
  · obtain ⟨rfl, rfl⟩ := hc
    refine ⟨_, pe_callB (call_isE C hz hf) hg hm (by decide +kernel) (pa_cons (pe_var (i := i) hN hv hd hcd) (pa_cons (pe_glob (v := .ref Am) hgA gA rfl hdA) pa_nil (he2 _ _)) (he _ _)) (by decide) (by decide) (he _ _) (hpl _ _), fun σ H F Q e hi sm er z => ?_⟩
    refine ⟨_, hi, .ref Am, .ref Am, b, rfl, (fun u r => r), hk, ?_⟩
    split at z
    · exact z _ _ _ _ (.refl0 sm) (.bl b)
    · exact z.elim
  · refine ⟨fun _ _ _ => False, ⟨fun _ _ _ _ _ _ z => z.elim⟩, fun σ H F Q e hi sm er z => ?_⟩
    split at z
    · rename_i q
      obtain ⟨Cc, h1, h2, h3⟩ := er
      rw [q.1, gD] at h1
      cases h1
      rw [q.2] at h3
      exact hc ⟨h2, h3⟩
    · exact z.elim
end
/-! which clause takes an exception -/
def IsaOk (K : PySem.W.Frag) (mg : Str → Option Value) (isa : Str → Str → Option Bool) : Prop := ∀ x y b, isa x y = some b → ∀ C D, mg x = some (.ref C) → mg y = some (.ref D) → PySem.W.exmOne K (.ref C) (.ref D) = some b
def handT (isa : Str → Str → Option Bool) : List (Str × (Exn → M PyData)) → Exn → M PyData
  | [], _ => failT
  | (y, h) :: r, e => match isa e.cls y with
    | some true => h e
    | some false => handT isa r e
    | none => failT
inductive HdW (X : Cx) : List ExceptHandler → List (Str × (Exn → M PyData)) → Prop
  | nil : HdW X [] []
  | named {y n : Str} {i : Nat} {e : Expr} {h : Exn → M PyData} {np hp p : Pos} {hds l} (hg : Gl X y) (hd : (y == ("__debug__" : Str)) = false) (gm : ∃ D, X.mg y = some (.ref D)) (hi : X.N[i]? = some n) (hn : X.env.kindOf n = some .local) (hx : HX X i e h) (r : HdW X hds l) :
      HdW X (.ExceptHandler (some (.Name y np)) (some n) [.Return (some e) p] hp :: hds) ((y, h) :: l)
  | bare {y s : Str} {j : Nat} {np hp p p2 : Pos} {hds l} (hg : Gl X y) (hd : (y == ("__debug__" : Str)) = false) (gm : ∃ D, X.mg y = some (.ref D)) (r : HdW X hds l) :
      HdW X (.ExceptHandler (some (.Name y np)) none [.Return (some (.Constant (.str s) j p2)) p] hp :: hds) ((y, fun _ => pureT (.str s)) :: l)
theorem HdW.mo {X : Cx} {isa : Str → Str → Option Bool} {hds : List ExceptHandler} {l} (h : HdW X hds l) : ∀ e, Mono (handT isa l e) := by
  induction h with
  | nil => exact fun _ => .fail
  | named hg hd gm hi hn hx r ih =>
    intro e
    unfold handT
    split
    · exact hx.mo e
    · exact ih e
    · exact .fail
  | bare hg hd gm r ih =>
    intro e
    unfold handT
    split
    · exact .pure
    · exact ih e
    · exact .fail
theorem HdW.ok {X : Cx} {isa : Str → Str → Option Bool} (I : IsaOk X.K X.mg isa) {hds : List ExceptHandler} {l} (h : HdW X hds l) : ∃ ls, HandsOk X hds ls ∧ ∀ (D : Ends) (cls : Value) (d : Option Addr) (σ : L2.St) (H F : Hp) (e : Exn), Same F H → ExR X.mg X.K F H e cls d → handT isa l e (hK F H X.K D.rt) no1 → wHands X.K X.N.length (fun _ _ _ _ => False) D ls cls d σ H := by
  induction h with
  | nil => exact ⟨[], .nil, fun D cls d σ H F e sm er z => z.elim⟩
  | @named y n i e h np hp p hds l hg hd gm hi hn hx r ih =>
    obtain ⟨ls, o, q⟩ := ih
    obtain ⟨Dy, gy⟩ := gm
    have hx2 := hx.pe
    refine ⟨⟨.ref Dy, some i, fun a cls d D σ H => ∃ F e0, σ[i]? = some (some (.ref a)) ∧ Same F H ∧ ExR X.mg X.K F H e0 cls d ∧ h e0 (hK F H X.K D.rt) no1⟩ :: ls, .named ⟨hg, hd, .inl gy⟩ hi hn (fun a oe cls d pn hz hf => ?_) o, fun D cls d σ H F e sm er z => ?_⟩
    · obtain ⟨te, p1, q1⟩ := hx.pe a oe cls d pn hz hf
      exact pss_imp (pss_one (ps_ret p1)) fun D σ H ⟨F, e0, z1, z2, z3, z4⟩ => q1 σ H F D.rt e0 z1 z2 z3 z4
    · obtain ⟨Cc, g1, g2, g3⟩ := id er
      rw [handT] at z
      match ei : isa e.cls y with
      | some true =>
        rw [ei] at z
        exact ⟨true, by rw [g2]; exact I _ _ _ ei _ _ g1 gy, fun _ a na hl => ⟨F, e, (by rw [List.getElem?_set_self (by rw [hl]; exact (List.getElem?_eq_some_iff.mp hi).1)]), sm, er, z⟩, fun q => nomatch q⟩
      | some false =>
        rw [ei] at z
        exact ⟨false, by rw [g2]; exact I _ _ _ ei _ _ g1 gy, (fun q => nomatch q), fun _ => q D cls d σ H F e sm er z⟩
      | none =>
        rw [ei] at z
        exact z.elim
  | @bare y s j np hp p p2 hds l hg hd gm r ih =>
    obtain ⟨ls, o, q⟩ := ih
    obtain ⟨Dy, gy⟩ := gm
    refine ⟨⟨.ref Dy, none, fun a cls d D σ H => ∃ F, Same F H ∧ hK F H X.K D.rt (.str s)⟩ :: ls, .bare ⟨hg, hd, .inl gy⟩ (fun a oe cls d pn hz hf => ?_) o, fun D cls d σ H F e sm er z => ?_⟩
    · exact pss_imp (pss_one (ps_ret pe_str)) fun D σ H ⟨F, z1, z2⟩ => z2 (.str s) F H H (.refl0 z1) (.str _)
    · obtain ⟨Cc, g1, g2, g3⟩ := id er
      rw [handT] at z
      match ei : isa e.cls y with
      | some true =>
        rw [ei] at z
        exact ⟨true, by rw [g2]; exact I _ _ _ ei _ _ g1 gy, fun _ a na hl => ⟨F, sm, z⟩, fun q => nomatch q⟩
      | some false =>
        rw [ei] at z
        exact ⟨false, by rw [g2]; exact I _ _ _ ei _ _ g1 gy, (fun q => nomatch q), fun _ => q D cls d σ H F e sm er z⟩
      | none =>
        rw [ei] at z
        exact z.elim
/-! the def that calls what it got: try: return [w, a()] / except .. -/
def toldT (isa : Str → Str → Option Bool) (l : List (Str × (Exn → M PyData))) (w0 : Str) (wb : M PyData) : M PyData := fun k _ => wb (fun d => k (.list [.str w0, d])) (fun e => handT isa l e k no1)
theorem mono_told {isa : Str → Str → Option Bool} {l} {w0 : Str} {wb : M PyData} (hm : Mono wb) (hl : ∀ e, Mono (handT isa l e)) : Mono (toldT isa l w0 wb) :=
  ⟨fun hk hx z => hm.mono (fun d q => hk _ q) (fun e q => (hl e).mono hk (fun _ y => y) q) z⟩
def TTd (mg : Str → Option Value) (K : PySem.W.Frag) (isa : Str → Str → Option Bool) (l : List (Str × (Exn → M PyData))) (w0 : Str) : (XK → Hp → VK → Prop) → Hp → VK → Prop := fun tl H Q => ∃ (F : Hp) (wb : M PyData), Same F H ∧ Mono wb ∧
  (∀ E H' F' Q', Grow .no F H F' H' H' → wb (hK F' H' K Q') (fun e => ∀ cv d F2 D2 H2, Grow .no F' H' F2 D2 H2 → ExR mg K F2 H2 e cv d → E cv d H2) → tl E H' Q') ∧ toldT isa l w0 wb (hK F H K Q) no1
theorem told_run {X : Cx} {Ng : List Str} {x a q w0 : Str} {sg : Scope} {g : Addr} {cdg : Value} {j : Nat} {p1 p2 p3 p4 p5 p8 : Pos} {h0 : ExceptHandler} {hds : List ExceptHandler} {isa : Str → Str → Option Bool} {l : List (Str × (Exn → M PyData))} (I : IsaOk X.K X.mg isa) (nd : Ng.Nodup)
    (hh : ∀ (s : Shared) (H : Hp), HdW (cxOf C8.CX0 X.prog X.w X.K X.mg X.base Ng x sg g cdg X.A X.stack s H C8.E0).nox (h0 :: hds) l) (hst : ∀ f : Addr, (L2.start Ng [V.ref f])[0]? = some (some (V.ref f))) :
    LamX.GivesTo X Ng x sg g cdg [.Try [.Return (some (.List [.Constant (.str w0) j p1, .Call (.Name a p2) [] [] p3] p4)) p5] (h0 :: hds) [] [] p8] a q (TTd X.mg X.K isa l w0) := by
  intro f c' s H Q tl act hc ⟨F, wb, sm, mo, run, z⟩
  obtain ⟨ls, ho, hw⟩ := HdW.ok (X := (cxOf C8.CX0 X.prog X.w X.K X.mg X.base Ng x sg g cdg X.A X.stack s H C8.E0).nox) (isa := isa) I (hh s H)
  have hmo := (hh s H).mo (isa := isa)
  refine ⟨_, pss_one (ps_hands (X := (cxOf C8.CX0 X.prog X.w X.K X.mg X.base Ng x sg g cdg X.A X.stack s H C8.E0).nox) (l := ls) (W0 := fun _ _ _ _ => False)
    (tb := fun W => tRet (tLst (tCons (tC (.str w0)) (tCons (fun σZ HZ Qv => ∃ Ech : XK, (∀ cls d σ' H', Ech cls d H' → W cls d σ' H') ∧ σZ[0]? = some (some (.ref f)) ∧ HZ c' = some (LamX.CodeO c' q) ∧ tl Ech HZ Qv) tNil)))) nd rfl rfl LamX.takes0 (fun W pn xe tk _ => pss_one (ps_ret (pe_lst (pa_cons pe_str (pa_cons ?_ pa_nil))))) ho), ?_⟩
  · exact ⟨fun pins s' σ H' D I' ⟨Ech, hW, h1, h2, h3⟩ => (act W pn xe Ech p2 p3 tk hW).run pins s' σ H' D I' ⟨h1, h2, h3⟩⟩
  · refine ⟨fun cls d H' => ∃ F2 D2 e, Grow .no F H F2 D2 H' ∧ ExR X.mg X.K F2 H' e cls d ∧ handT isa l e (hK F H X.K Q) no1, fun cls d σ' H' ⟨F2, D2, e, g, er, zz⟩ => ?_, hst f, hc, ?_⟩
    · refine hw _ cls d σ' H' F2 e g.lay.fh er ((hmo e).mono (k := hK F H X.K Q) (fun r z1 v F3 D3 H3 g3 d3 => ?_) (fun _ y => y) zz)
      exact z1 v F3 D3 H3 (g.via g3) d3
    · refine run _ H F _ (.refl0 sm) (mo.mono (fun r z1 v F2 D2 H2 g2 d2 => ⟨(show 2 ≤ sizeLine by decide), fun p hp => ?_⟩) (fun e z1 cv d F2 D2 H2 g2 er => ⟨F2, D2, e, g2, er, z1⟩) z)
      exact z1 _ _ _ _ (g2.via (.new (lay0 g2.lay.fh) hp)) (.lst upd_same (.cons (.str _) (.cons (d2.same (same_new (g2.lay.fh.free hp))) .nil)))
/-! x(lambda: e), over data -/
def Ct.lam (c : Ct) (E : XK) : Ct := ⟨c.n, none, [], fun cv d _ H => E cv d H, []⟩
theorem EnvW.data {B F D B' D' : Hp} {σ : L2.St} {K : PySem.W.Frag} : ∀ {Γ : GE}, EnvW K B F D σ Γ → EnvW K B' F D' σ (Γ.filter fun q => !q.2.isOwn)
  | [], _ => trivial
  | (j, .dat d) :: Γ, ⟨h, n, r⟩ => by
    rw [List.filter_cons_of_pos (by rfl)]
    exact ⟨h, (fun z => nomatch z), EnvW.data r⟩
  | (j, .own ds) :: Γ, ⟨h, n, r⟩ => by
    rw [List.filter_cons_of_neg (by simp [Cell.isOwn])]
    exact EnvW.data r
theorem px_told {K : PySem.W.Frag} {X : Cx} {c : Ct} {Γ : GE} {wb : M PyData} {x a w0 : Str} {g cL P : Addr} {k : Nat} {pg : Arguments} {sg : Scope} {dV kV doc pm cdv ct oc : Value} {an od : Option Addr} {osl : Array (Option Value)} {Ng : List Str} {h0 : ExceptHandler} {hds : List ExceptHandler} {isa : Str → Str → Option Bool} {l : List (Str × (Exn → M PyData))}
    {params : Arguments} {body : Expr} {scope : Scope} {p lpos pos p1 p2 p3 p4 p5 p8 : Pos} {j : Nat} (I : IsaOk X.K X.mg isa) (hm : X.mg x = some (.ref g)) (hk : PySem.W.keepIn X.K (.ref g) = true)
    (lk : X.K.lookup g = some ⟨oc, od, .func (PySem.W.fnOf x x pg [.Try [.Return (some (.List [.Constant (.str w0) j p1, .Call (.Name a p2) [] [] p3] p4)) p5] (h0 :: hds) [] [] p8] sg dV kV doc pm an cdv ct), osl⟩) (hcg : PySem.W.codeIn X.K cdv x = true)
    (hb : L2.Binds X.K (PySem.W.fnOf x x pg [.Try [.Return (some (.List [.Constant (.str w0) j p1, .Call (.Name a p2) [] [] p3] p4)) p5] (h0 :: hds) [] [] p8] sg dV kV doc pm an cdv ct) [a] []) (Sg : FnScope Ng [a] sg) (hst : ∀ f : Addr, (L2.start Ng [V.ref f])[0]? = some (some (V.ref f))) (hNg : Ng[0]? = some a) (hva : Vis sg a)
    (hh : ∀ (s : Shared) (H : Hp), HdW (cxOf C8.CX0 X.prog X.w X.K X.mg X.base Ng x sg g cdv X.A X.stack s H C8.E0).nox (h0 :: hds) l)
    (TB : LamX.TabB X.base X.mg cL P) (hcode : X.env.code = .ref cL) (hr : Room (k + 2) X.A) (L : LamX.LamS X.env.scope scope) (hct : c.tb = [(P, lamQ X)])
    (hbody : ∀ (A : Around) (outer : List PySem.Env) (s : Shared) (H : Hp) (E : XK) (f c' : Addr), Room k (A.deeper (LamX.lamEnv X scope s.heap.objs.size f c')) → PX K (LamX.lamCx X A outer s H E scope f c') (c.lam E) (Γ.filter fun q => !q.2.isOwn) body wb)
    (mo : Mono wb) (hK : X.K = K := by rfl) (hg : Gl X x := by rfl) (hdef : defaultsOf params X.env = ([], []) := by rfl)
    (hbind : ∀ (q : Str) (cl : List (Str × Addr)) (pm cv ctv : Value), bindArgs (PySem.W.kla_fn "<lambda>" q params body scope cl pm cv ctv) ⟨[], []⟩ = pure [] := by intros; rfl)
    (hdb : (x == ("__debug__" : Str)) = false := by decide) (hd : (a == ("__debug__" : Str)) = false := by decide) (hcd : (a == ("__classdict__" : Str)) = false := by decide) :
    PX K X c Γ (.Call (.Name x p) [.Lambda params body scope lpos] [] pos) (toldT isa l w0 wb) := by
  subst hK
  have hmo := (hh {} (fun _ => none)).mo (isa := isa)
  refine .of (pe_lam3 (t := fun E => tW X.K X.mg (c.lam E) (Γ.filter fun q => !q.2.isOwn) wb) hg hm hk lk hcg hb Sg hNg hva (told_run I Sg.nd hh hst) TB hcode hr L hdef hbind (fun A outer s H E f c' h => (hbody A outer s H E f c' h).pe) hdb hd hcd) (mono_told mo hmo) (fun o B F0 F D σ H Q s z => ?_) rfl
  have et : o.tb = [(P, lamQ X)] := by
    rcases s.dek.2 with e | e
    · rw [hct] at e; cases e
    · rw [e, hct]
  refine ⟨D, s.lay.sub, s.lay.tb (P, lamQ X) (by rw [et]; exact List.mem_cons_self), fun H1 sm1 tb1 kl => ?_⟩
  have l1 : Lay o F D H1 := ⟨s.lay.fd, sm1, fun b hb => ?_, fun p hp => ?_⟩
  · refine ⟨F, wb, l1.fh, mo, fun E H' F' Q' g zz => ?_, ?_⟩
    · have g2 : Grow .no F D F' H' H' := ⟨g.ff, sm1.trans g.dd, (fun p y e1 e2 => sm1.free (g.fresh p y e1 e2)), lay0 g.lay.fh⟩
      refine ⟨.no, H', F', F', H', ⟨s.len, ⟨trivial, .inl rfl⟩, .refl0 g.lay.fh, (s.env.grow (B := B) (o := .no) g2).data, trivial⟩, mo.mono (fun r z1 => z1) (fun e z1 cv d σ2 F2 D2 H2 s2 er => z1 cv d F2 D2 H2 s2.gb er) zz⟩
    · exact (mono_told mo hmo).mono (k := fun d => ∀ v F' D' H', Grow o F D F' D' H' → Dq X.K F' v d → Q v H') (fun r z1 v F' D' H' g d => z1 v F' _ H' (l1.beside g) d) (x := no1) (x' := no1) (fun e y => y) (show toldT isa l w0 wb _ no1 from z)
  · have dk := s.lay.dk b hb
    obtain ⟨e1, na, l0, l1, bs, cs, n, n0, n1, ne, h1, h2, h3, hc, hl⟩ := dk
    refine ⟨sm1, na, l0, l1, bs, cs, n, n0, n1, ne, ?_, ?_, ?_, hc, hl⟩
    · rw [kl _ (.inr ⟨_, h1⟩), h1]
    · rw [kl _ (.inr ⟨_, h2⟩), h2]
    · rw [kl _ (.inr ⟨_, h3⟩), h3]
  · rw [et] at hp
    obtain rfl := List.mem_singleton.mp hp
    exact tb1
end Nk
set_option Elab.async false
set_option linter.all false
set_option maxRecDepth 100000
set_option maxHeartbeats 4000000
namespace Nk
open PySem PySem.Spec PyProof.Rows L2
/-! own classes of exceptions: with an __init__(self, f): self.f = f; without one -/
def clsBody : Stmt → List Stmt
  | .ClassDef _ _ _ b .. => b
  | _ => []
def spInit (K : PySem.W.Frag) (f : Str) : Sp := fun vs H Q _ => ∃ (a C : Addr) (v : V), vs = [.ref a, v] ∧ OexC K C ∧ PySem.W.findIn K (.ref C) f = some none ∧ H a = some (exo a C none) ∧ ∀ dx, H dx = none → dx ≠ a → Q .non (upd (upd H dx (exd dx [(f, v)])) a (exo a C (some dx)))
section
variable {P : Program} {wd : World} {K : PySem.W.Frag} {mg : Str → Option Value} {base : Heap}
theorem ok_init {f : Str} {fI : Addr} {qual : Str} {st : Stmt} {fd : FuncData} {p1 p2 p3 p4 : Pos} (F : Fun K "__init__" qual st fI fd) (S : FnScope ["self", f] ["self", f] (defScope st)) (hb : defBody st = [.Assign [.Attribute (.Name "self" p1) f p2] (.Name f p3) p4])
    (v0 : Vis (defScope st) "self") (v1 : Vis (defScope st) f) (hd : (f == ("__debug__" : Str)) = false) (hcd : (f == ("__classdict__" : Str)) = false) : FnOk P wd K mg base CX0 1 fI fd ["self", f] (spInit K f) := by
  refine F.ok S (fun vs H Q E h => ?_) (fun cdv A outer s H vs Q E hr h => ⟨tOst K f (tVar 0) (tVar 1), ?_, ?_⟩)
  · obtain ⟨a, C, v, rfl, _⟩ := h
    rfl
  · rw [hb]
    exact pss_one (ps_ost (pe_var (i := 0) rfl v0) (pe_var (i := 1) rfl v1 hd hcd))
  · obtain ⟨a, C, v, rfl, T, hno, ha, k⟩ := h
    exact ⟨v, rfl, .ref a, rfl, a, C, rfl, T, hno, .inl ⟨ha, fun dx n ne => k dx n ne⟩⟩
structure ExI (P : Program) (wd : World) (K : PySem.W.Frag) (mg : Str → Option Value) (base : Heap) (x f : Str) : Prop where
  ex : ∃ (C fI : Addr) (fd : FuncData), mg x = some (.ref C) ∧ OexC K C ∧ XfC K C ∧ PySem.W.findIn K (.ref C) f = some none ∧ PySem.W.findIn K (.ref C) "__init__" = some (some (.ref fI)) ∧ PySem.W.typeIn K (.ref fI) = some (.type "function") ∧ Binds K fd ["self", f] [] ∧
    FnOk P wd K mg base CX0 1 fI fd ["self", f] (spInit K f)
structure Ex0 (K : PySem.W.Frag) (mg : Str → Option Value) (x : Str) : Prop where
  ex : ∃ (C : Addr), mg x = some (.ref C) ∧ PySem.W.excIn K C [.type "ValueError", .type "Exception", .type "BaseException", .type "object"] "ValueError.__new__" = true ∧ PySem.W.keepIn K (.ref C) = true ∧ PySem.W.subIn K (.ref C) (.type "BaseException") = some true ∧ PySem.W.typeIn K (.ref C) = some (.type "type") ∧ ExcC K C
end
section
variable {K : PySem.W.Frag} {X : Cx} {c : Ct} {Γ : GE} {S R : Type} {G : S → GE} {GR : R → GE} {rest : List Stmt} {pos pos2 p : Pos} {e : Expr} {te : M PyData} {x f : Str}
theorem passes0 {X : Cx} : Passes CX0 X (fun _ _ _ => False) := fun pins σ H s e s' I h => False.elim h
theorem del_upd' {H : Hp} {a d : Addr} {o1 o2 o3 o4 : HO} (ha : H a = none) (hd : d ≠ a) : upd (del (upd (upd (upd H a o1) d o2) a o3) a) d o4 = upd H d o4 := by
  funext b
  by_cases h1 : b = d
  · subst h1; rw [upd_same, upd_same]
  · rw [upd_ne h1, upd_ne h1]
    by_cases h2 : b = a
    · subst h2; rw [del_same, ha]
    · rw [del_ne h2, upd_ne h2, upd_ne h1, upd_ne h2]
theorem pbk_raiseI (E : ExI X.prog X.w X.K X.mg X.base x f) (hr : Room 2 X.A) (tk : Takes X c.W) (h : PX K X c Γ e te) (hc : X.calm = true := by rfl) (hg : Gl X x := by rfl) (hdb : (x == ("__debug__" : Str)) = false := by decide)
    (hs : starEach [e] X.env = (false, eval e X.env) :: starEach [] X.env := by rfl) (hpl : (backTo pos (starEach [] X.env)).any (·.1) = false := by rfl) :
    PBk' K X c Γ (.Raise (some (.Call (.Name x p) [e] [] pos)) none pos2 :: rest) G GR (bindT te fun d => raiseT ⟨x, some (f, d)⟩) := by
  have hK := h.hK
  subst hK
  obtain ⟨C, fI, fd, gC, T, _, hno, iC, tI, hb, F⟩ := E.ex
  refine ⟨.bind h.mo fun _ => .raise, pss_imp (pss_cons (ps_raise hc tk (pmk_oex (ds := []) (dvs := []) T iC tI F hr hb .nil passes0 hg gC (pa_cons h.pe pa_nil hs) hdb hs hpl)) (show PSs X rest (fun _ _ _ => False) from ⟨fun pins s σ H D I z => z.elim⟩)) fun E σ H ⟨o, B, F0, F, D, st, z⟩ => ?_⟩
  refine ⟨o, B, F0, F, D, st, h.mo.mono (fun d z1 v F1 D1 H1 g1 q1 => ⟨(by show 1 ≤ 1000; decide), fun a ha => ?_⟩) (fun _ h => h) z⟩
  refine ⟨a, C, v, rfl, T, hno, upd_same, fun dx hdx ne => ⟨rfl, dx, [(f, v)], upd_same, ?_, ?_, ?_⟩⟩
  · rw [upd_ne ne, upd_same]
  · rw [upd_ne ne] at hdx; exact hdx
  · rw [upd_ne ne] at hdx
    rw [del_upd' ha ne]
    have gm := Grow.mine (u := .xd [(f, v)]) g1.lay hdx
    exact z1 (.ref C) (some dx) σ F1 _ _ ((st.grow g1).nil.grow gm) ⟨C, gC, rfl, dx, v, rfl, upd_same, (g1.lay.free hdx).2, q1⟩
/-- X(), without arguments -/
theorem pmk_none {x : Str} {C : Addr} (q : PySem.W.excIn X.K C [.type "ValueError", .type "Exception", .type "BaseException", .type "object"] "ValueError.__new__" = true) (gC : X.mg x = some (.ref C)) (kC : PySem.W.keepIn X.K (.ref C) = true) (r : Raises X (.ref C)) (hg : Gl X x)
    (hdb : (x == ("__debug__" : Str)) = false := by decide) : PMk X (.Call (.Name x p) [] [] pos) (fun _ H Q => Q (.ref C) none H) := by
  intro pins s σ H Q I z
  refine wpAny_Call_Name_kw (ld_glob I hg gC (PySem.W.callWith_K0 I.kIn kC ?_) hdb)
  obtain ⟨bm, N, nm, qn, bs, hdct, sn, sub, ab, col, dd, k0, k1, k2, k3, k5, mN, hC, hN, hni, T⟩ := exc_obj I.kIn q
  exact wpAny_call_exc_subT PySem.F.excBase_ValueError T hC hN hni (fun h' e hm => mk_of I hm r z (I.hok.gone hm.new)) (by show 0 ≤ sizeLine; exact Nat.zero_le _)
theorem pbk_raise0 (E : Ex0 X.K X.mg x) (tk : Takes X c.W) (hK : X.K = K := by rfl) (hc : X.calm = true := by rfl) (hg : Gl X x := by rfl) (hdb : (x == ("__debug__" : Str)) = false := by decide) :
    PBk' K X c Γ (.Raise (some (.Call (.Name x p) [] [] pos)) none pos2 :: rest) G GR (raiseT ⟨x, none⟩) := by
  subst hK
  obtain ⟨C, gC, q, kC, eC, tC, _⟩ := E.ex
  refine ⟨.raise, pss_imp (pss_cons (ps_raise hc tk (pmk_none q gC kC (raises_own eC tC) hg hdb)) (show PSs X rest (fun _ _ _ => False) from ⟨fun pins s σ H D I z => z.elim⟩)) fun E σ H ⟨o, B, F0, F, D, st, z⟩ => ?_⟩
  exact z (.ref C) none σ F D H st.nil ⟨C, gC, rfl, rfl⟩
/-- error.f in a clause's suite -/
theorem hx_fld {X : Cx} {i : Nat} {n : Str} {p1 : Pos} (E : ExI X.prog X.w X.K X.mg X.base x f) (hN : X.N[i]? = some n) (hv : Vis X.env.scope n) (hd : (n == ("__debug__" : Str)) = false := by decide) (hcd : (n == ("__classdict__" : Str)) = false := by decide)
    (hb : attributeBase (.Name n p1) f X.env (eval (.Name n p1) X.env) = eval (.Name n p1) X.env := by rfl) : HX X i (.Attribute (.Name n p1) f pos) (fun e => match e.arg with
      | some (g, d) => if e.cls = x ∧ g = f then pureT d else failT
      | none => failT) := by
  obtain ⟨C, fI, fd, gC, T, Tx, hno, iC, tI, hb', F⟩ := E.ex
  refine ⟨fun e => ?_, fun a oe cls d pn hz hf => ⟨_, pe_xf Tx hno hz hf (pe_var (i := i) hN hv hd hcd) hb, fun σ H FH Q e hi sm er z => ?_⟩⟩
  · split
    · exact .ite .pure .fail
    · exact .fail
  · obtain ⟨ec, arg⟩ := e
    cases arg with
    | none => exact z.elim
    | some fa =>
      obtain ⟨g, v⟩ := fa
      dsimp only at z
      split at z
      · rename_i q
        obtain ⟨rfl, rfl⟩ := q
        obtain ⟨C2, h1, h2, pp, w, h3, h4, h5, h6⟩ := er
        rw [show X.mg ec = some (.ref C) from gC] at h1
        cases h1
        exact ⟨_, hi, rfl, h2, pp, _, w, h3, h4, (by simp [List.lookup]), z w FH H H (.refl0 sm) h6⟩
      · exact z.elim
end
end Nk
set_option Elab.async false
set_option linter.all false
set_option maxRecDepth 100000
set_option maxHeartbeats 4000000
namespace Nk
open PySem PySem.Spec PyProof.Rows L2
/-- a def of the kind: try: return [w, call()] / except .. as error: return .. -/
structure ToldOk (P : Program) (wd : World) (K : PySem.W.Frag) (mg : Str → Option Value) (base : Heap) (x : Str) (isa : Str → Str → Option Bool) (l : List (Str × (Exn → M PyData))) (w0 : Str) : Prop where
  isa : IsaOk K mg isa
  ex : ∃ (st : Stmt) (g : Addr) (a : Str) (fd : FuncData) (Ng : List Str) (h0 : ExceptHandler) (hds : List ExceptHandler) (j : Nat) (p1 p2 p3 p4 p5 p8 : Pos), Fun K x x st g fd ∧ mg x = some (.ref g) ∧ PySem.W.keepIn K (.ref g) = true ∧ L2.Binds K fd [a] [] ∧ FnScope Ng [a] (defScope st) ∧
    (∀ f : Addr, (L2.start Ng [V.ref f])[0]? = some (some (V.ref f))) ∧ Ng[0]? = some a ∧ Vis (defScope st) a ∧ (x == ("__debug__" : Str)) = false ∧ (a == ("__debug__" : Str)) = false ∧ (a == ("__classdict__" : Str)) = false ∧
    defBody st = [.Try [.Return (some (.List [.Constant (.str w0) j p1, .Call (.Name a p2) [] [] p3] p4)) p5] (h0 :: hds) [] [] p8] ∧
    ∀ (cdv : Value) (A : Around) (outer : List PySem.Env) (s : Shared) (H : Hp), HdW (cxOf C8.CX0 P wd K mg base Ng x (defScope st) g cdv A outer s H C8.E0).nox (h0 :: hds) l
theorem px_toldW {K : PySem.W.Frag} {X : Cx} {c : Ct} {Γ : GE} {wb : M PyData} {x w0 : Str} {cL P : Addr} {isa : Str → Str → Option Bool} {l : List (Str × (Exn → M PyData))}
    {params : Arguments} {body : Expr} {scope : Scope} {p lpos pos : Pos} (k : Nat) (T : ToldOk X.prog X.w X.K X.mg X.base x isa l w0)
    (TB : LamX.TabB X.base X.mg cL P) (hcode : X.env.code = .ref cL) (hr : Room (k + 2) X.A) (L : LamX.lamSB X.env.scope scope = true) (hct : c.tb = [(P, lamQ X)])
    (hbody : ∀ (A : Around) (outer : List PySem.Env) (s : Shared) (H : Hp) (E : XK) (f c' : Addr), Room k (A.deeper (LamX.lamEnv X scope s.heap.objs.size f c')) → PX K (LamX.lamCx X A outer s H E scope f c') (c.lam E) (Γ.filter fun q => !q.2.isOwn) body wb)
    (hK : X.K = K := by rfl) (hg : Gl X x := by rfl) (hdef : defaultsOf params X.env = ([], []) := by rfl)
    (hbind : ∀ (q : Str) (cl : List (Str × Addr)) (pm cv ctv : Value), bindArgs (PySem.W.kla_fn "<lambda>" q params body scope cl pm cv ctv) ⟨[], []⟩ = pure [] := by intros; rfl) :
    PX K X c Γ (.Call (.Name x p) [.Lambda params body scope lpos] [] pos) (toldT isa l w0 wb) := by
  obtain ⟨I, st, g, a, fd, Ng, h0, hds, j, p1, p2, p3, p4, p5, p8, F, hm, hk, hb, S, hst, hN, hv, d1, d2, d3, hbd, hh⟩ := T
  obtain ⟨oc, od, kV, doc, pm, an, cdv, ct, osl, efd, lk, hcd⟩ := F.ex
  subst efd
  rw [hbd] at lk hb
  exact px_told I hm hk lk hcd hb S hst hN hv (fun s H => hh cdv X.A X.stack s H) TB hcode hr (LamX.lamS_by L) hct hbody (hbody X.A [] {} (fun _ => none) (fun _ _ _ => False) 0 0 ((hr.mono (by omega)).deeper _)).mo hK hg hdef hbind d1 d2 d3
theorem tabIn_of {K : PySem.W.Frag} {x : Str} {f c P : Addr} {oc o2 : Value} {od d2 : Option Addr} {fd : FuncData} {sl sl2 : Array (Option Value)} {vs : Array Value} (a : PySem.W.nsIn K mainGlobals x = some (some (.ref f))) (l : K.lookup f = some ⟨oc, od, .func fd, sl⟩) (hc : fd.code = .ref c)
    (lc : K.lookup c = some ⟨o2, d2, .fields vs, sl2⟩) (v : (vs[11]? : Option Value) = some (.ref P)) : PySem.W.tabIn K x = some (c, P) := by
  unfold PySem.W.tabIn
  rw [a]
  dsimp only
  rw [l]
  dsimp only
  rw [hc]
  dsimp only
  rw [lc]
  dsimp only
  rw [v]
@[simp] theorem fnT_raise (e : Exn) : fnT (raiseT e) = raiseT e := (rfl)
@[simp] theorem goFl_raise {S S' R : Type} (e : Exn) (w : S' → M (Fl S R)) : goFl (raiseT e) w = raiseT e := (rfl)
@[simp] theorem onL_raise {S R L : Type} (e : Exn) (w : L → M (Fl S R)) : onL (raiseT e) w = raiseT e := (rfl)
@[simp] theorem told_pure (isa : Str → Str → Option Bool) (l : List (Str × (Exn → M PyData))) (w0 : Str) (d : PyData) : toldT isa l w0 (pureT d) = pureT (.list [.str w0, d]) := (rfl)
theorem told_raise (isa : Str → Str → Option Bool) (l : List (Str × (Exn → M PyData))) (w0 : Str) (e : Exn) {d : PyData} (h : handT isa l e = pureT d) : toldT isa l w0 (raiseT e) = pureT d := by
  funext k x
  show handT isa l e k no1 = k d
  rw [h]
  rfl
end Nk
set_option Elab.async false
set_option linter.all false
set_option maxRecDepth 100000
set_option maxHeartbeats 4000000
namespace Nk
open PySem L2
/-! try as a statement: its body returns, or asks something; its clauses return -/
section
variable {S R : Type}
def tryR (isa : Str → Str → Option Bool) (l : List (Str × (Exn → M PyData))) (t : M PyData) : M (Fl S R) := fun k _ => t (fun d => k (.rt d)) (fun e => handT isa l e (fun d => k (.rt d)) no1)
def tryE (isa : Str → Str → Option Bool) (l : List (Str × (Exn → M PyData))) (t : M PyData) (w : M (Fl S R)) : M (Fl S R) := fun k x => t (fun _ => w k x) (fun e => handT isa l e (fun d => k (.rt d)) no1)
variable {K : PySem.W.Frag} {X : Cx} {c : Ct} {Γ : GE} {G : S → GE} {GR : R → GE} {w : M (Fl S R)} {e : Expr} {t : M PyData} {rest : List Stmt} {pos p : Pos} {h0 : ExceptHandler} {hds : List ExceptHandler} {isa : Str → Str → Option Bool} {l : List (Str × (Exn → M PyData))}
abbrev Ct.to (c : Ct) (W : WX) : Ct := { c with W := W }
theorem StW.to {o : OO} {B F0 F D H : Hp} {σ : L2.St} {W : WX} (s : StW K c Γ o B F0 F D σ H) : StW K (c.to W) Γ o B F0 F D σ H := ⟨s.len, s.dek, s.gb, s.env, s.gx⟩
theorem StW.ofTo {o : OO} {B F0 F D H : Hp} {σ : L2.St} {W : WX} (s : StW K (c.to W) Γ o B F0 F D σ H) : StW K c Γ o B F0 F D σ H := ⟨s.len, s.dek, s.gb, s.env, s.gx⟩
theorem hands_w {ls : List HSp} {n : Nat} {o : OO} {B F0 F2 D2 H2 Fs : Hp} {σ2 : L2.St} {E D : Ends} {e : Exn} {cv : Value} {d : Option Addr} (mo : Mono (handT isa l e))
    (hw : ∀ (D : Ends) (cls : Value) (d : Option Addr) (σ : L2.St) (H F : Hp) (e : Exn), Same F H → ExR X.mg X.K F H e cls d → handT isa l e (hK F H X.K D.rt) no1 → wHands X.K n (fun _ _ _ _ => False) D ls cls d σ H)
    (er : D.rt = E.rt) (s2 : StW X.K c [] o B F0 F2 D2 σ2 H2) (ex : ExR X.mg X.K F2 H2 e cv d) (z : handT isa l e (fun d => EndW X.K c G GR o B F0 Fs E (.rt d)) no1) : wHands X.K n (fun _ _ _ _ => False) D ls cv d σ2 H2 := by
  refine hw D cv d σ2 H2 F2 e s2.lay.fh ex (mo.mono (fun r q v F' D' H' g q2 => ?_) (fun _ y => y) z)
  rw [er]
  exact q v F' _ H' (s2.gb.trans (s2.lay.beside g)) q2
theorem pbk_tryR (I : IsaOk X.K X.mg isa) (nd : X.N.Nodup) (hd : HdW X (h0 :: hds) l) (hb : ∀ (W : WX) (pn : List (Addr × Obj)) (xe : Value → Shared → Prop), Takes (X.tr pn xe) W → PX K (X.tr pn xe) (c.to W) Γ e t)
    (hs : X.stack = X.env :: X.outer := by rfl) (hf : X.env.frame = some X.env.locals := by rfl) : PBk' K X c Γ (.Try [.Return (some e) p] (h0 :: hds) [] [] pos :: rest) G GR (tryR isa l t) := by
  have h1 := hb (fun _ _ _ _ => False) [] (fun _ _ => False) LamX.takes0
  have hK : X.K = K := h1.hK
  subst hK
  have hmo := hd.mo (isa := isa)
  obtain ⟨ls, ho, hw⟩ := HdW.ok I hd
  refine ⟨⟨fun hk hx z => h1.mo.mono (fun d q => hk _ q) (fun e q => (hmo e).mono (fun d q => hk _ q) (fun _ y => y) q) z⟩, pss_imp (pss_cons (ps_hands (W0 := fun _ _ _ _ => False) (tb := fun W => tRet (tW X.K X.mg (c.to W) Γ t)) nd hs hf LamX.takes0 (fun W pn xe tk _ => pss_one (ps_ret (hb W pn xe tk).pe)) ho) pss_never) fun E σ H ⟨o, B, F0, F, D, st, z⟩ => ?_⟩
  refine ⟨o, B, F0, F, D, st.to, h1.mo.mono (fun d z1 v F' D' H' g q => z1 v F' D' H' (st.gb.trans g) q) (fun e z1 cv d σ2 F2 D2 H2 s2 ex => ?_) z⟩
  exact hands_w (c := c) (S := S) (R := R) (G := G) (GR := GR) (Fs := F) (E := E) (hmo e) hw rfl s2.ofTo ex z1
theorem pbk_tryE (I : IsaOk X.K X.mg isa) (nd : X.N.Nodup) (hd : HdW X (h0 :: hds) l) (hb : ∀ (W : WX) (pn : List (Addr × Obj)) (xe : Value → Shared → Prop), Takes (X.tr pn xe) W → PX K (X.tr pn xe) (c.to W) Γ e t) (g : PBk' K X c Γ rest G GR w)
    (hsw : ∀ pn xe, swapsWith e none p.line (X.tr pn xe).env = pure false := by intros; rfl) (hs : X.stack = X.env :: X.outer := by rfl) (hf : X.env.frame = some X.env.locals := by rfl) : PBk' K X c Γ (.Try [.Expr e p] (h0 :: hds) [] [] pos :: rest) G GR (tryE isa l t w) := by
  have h1 := hb (fun _ _ _ _ => False) [] (fun _ _ => False) LamX.takes0
  have hK : X.K = K := h1.hK
  subst hK
  have hmo := hd.mo (isa := isa)
  obtain ⟨ls, ho, hw⟩ := HdW.ok I hd
  refine ⟨⟨fun hk hx z => h1.mo.mono (fun d q => g.mo.mono hk hx q) (fun e q => (hmo e).mono (fun d q => hk _ q) (fun _ y => y) q) z⟩, pss_imp (pss_cons (ps_hands (W0 := fun _ _ _ _ => False) (tb := fun W => tDrop (tW X.K X.mg (c.to W) Γ t)) nd hs hf LamX.takes0 (fun W pn xe tk _ => pss_one (ps_expr (hb W pn xe tk).pe (hsw pn xe))) ho) g.ps) fun E σ H ⟨o, B, F0, F, D, st, z⟩ => ?_⟩
  refine ⟨o, B, F0, F, D, st.to, h1.mo.mono (fun d z1 v F' D' H' gr q => ⟨o, B, F0, F', D', st.grow gr, g.mo.mono (fun _ q => q.up gr.ff) (fun _ h => h) z1⟩) (fun e z1 cv d σ2 F2 D2 H2 s2 ex => ?_) z⟩
  exact hands_w (c := c) (S := S) (R := R) (G := G) (GR := GR) (Fs := F) (E := E) (hmo e) hw rfl s2.ofTo ex z1
@[simp] theorem tryR_pure (d : PyData) : (tryR isa l (pureT d) : M (Fl S R)) = pureT (.rt d) := (rfl)
@[simp] theorem tryE_pure (d : PyData) (w : M (Fl S R)) : tryE isa l (pureT d) w = w := (rfl)
theorem tryR_raise {e : Exn} {d : PyData} (h : handT isa l e = pureT d) : (tryR isa l (raiseT e) : M (Fl S R)) = pureT (.rt d) := by
  funext k x
  show handT isa l e (fun d => k (.rt d)) no1 = k (.rt d)
  rw [h]
  rfl
theorem tryE_raise {e : Exn} {d : PyData} {w : M (Fl S R)} (h : handT isa l e = pureT d) : tryE isa l (raiseT e) w = pureT (.rt d) := by
  funext k x
  show handT isa l e (fun d => k (.rt d)) no1 = k (.rt d)
  rw [h]
  rfl
end
end Nk
set_option Elab.async false
set_option linter.all false
set_option maxRecDepth 100000
set_option maxHeartbeats 4000000
namespace Nk
open PySem PySem.Spec PyProof.Rows L2
/-! isinstance(error, Y) of an exception with a field; a if .. else b in a clause -/
def rIsX (K : PySem.W.Frag) (D a : Addr) (d : Option Addr) : List V → Hp → VK → Prop := fun xs H Q => ∃ (c : V) (cv : Value) (b : Bool) (p : Addr) (fs : List (Str × V)), xs = [.ref a, c] ∧ (∀ u, RelV c u → u = cv) ∧ PySem.W.kitOne K (.ref D) cv = some b ∧ d = some p ∧ H p = some (.xd fs) ∧ Q (.bl b) H
theorem call_isX {X : Cx} {a D : Addr} {oe : Obj} {d : Option Addr} {pn : List (Addr × Obj)} (C : ExcC X.K D) (hcl : (PySem.W.clsIn X.K D).isSome = true) (hz : Zc (.ref D) d oe) (hf : ∃ vs, oe.data = .fields vs) : CallR (X.suite a ((a, oe) :: pn)) (.builtin "isinstance") (rIsX X.K D a d) := by
  intro pins s σ H xs us Q I r h
  obtain ⟨c, cv, b, p, fs, rfl, hcv, e, ed, hp, q⟩ := h
  match us, r with
  | [ux, uc], .cons rx (.cons rt .nil) =>
    obtain rfl : ux = Value.ref a := rx
    have ec := hcv _ rt
    subst ec
    obtain ⟨hget, _⟩ := I.pin (a, oe) (List.mem_append.mpr (.inl List.mem_cons_self))
    obtain ⟨vs, hv⟩ := hf
    have hx : ObjOk X.prog X.w H s.heap p (.xd fs) := I.hok p _ hp
    obtain ⟨mA, hns, hr⟩ := hx
    obtain ⟨od, ho, hl⟩ := lookIn_ns hns
    have J : PySem.W.InstAt s.heap a oe D (some od) := ⟨hget, hz.1, by unfold PySem.W.notCls; rw [hv] <;> rfl, by rw [hz.2, ed]; exact ho⟩
    exact PySem.W.kia_one (PySem.W.kitx_exc hcl C.hg C.hk C.hs C.ha C.hn C.ht C.hm) I.kIn J e (fun z => nomatch z) fun tk => ⟨.bl b, H, I.kept (t' := tk) fun _ _ z => z, rfl, q⟩
section
variable {X : Cx} {i : Nat} {ex : Expr} {exs : List Expr} {h : Exn → M PyData} {hs : Exn → M (List PyData)} {pos p : Pos}
theorem hx_isX {x y n : Str} {D Am : Addr} {b : Bool} {p1 p2 p3 : Pos} (C : ExcC X.K D) (hcl : (PySem.W.clsIn X.K D).isSome = true) (gD : X.mg x = some (.ref D)) (gA : X.mg y = some (.ref Am)) (hk : PySem.W.kitOne X.K (.ref D) (.ref Am) = some b) (hm : X.mg "isinstance" = none) (hN : X.N[i]? = some n) (hv : Vis X.env.scope n) (hg : Gl X "isinstance" := by rfl) (hgA : Gl X y := by rfl)
    (hd : (n == ("__debug__" : Str)) = false := by decide) (hcd : (n == ("__classdict__" : Str)) = false := by decide) (hdA : (y == ("__debug__" : Str)) = false := by decide)
    (he : ∀ a pn, starEach [.Name n p2, .Name y p3] (X.suite a pn).env = (false, eval (.Name n p2) (X.suite a pn).env) :: starEach [.Name y p3] (X.suite a pn).env := by intro a pn; rfl) (he2 : ∀ a pn, starEach [.Name y p3] (X.suite a pn).env = (false, eval (.Name y p3) (X.suite a pn).env) :: starEach [] (X.suite a pn).env := by intro a pn; rfl)
    (hpl : ∀ a pn, (backTo pos (starEach [.Name y p3] (X.suite a pn).env)).any (·.1) = false := by intro a pn; rfl) : HX X i (.Call (.Name "isinstance" p1) [.Name n p2, .Name y p3] [] pos) (fun e => if e.cls = x ∧ e.arg.isSome = true then pureT (.bool b) else failT) := by
  refine ⟨fun e => .ite .pure .fail, fun a oe cls d pn hz hf => ?_⟩
  by_cases hc : cls = .ref D
  · subst hc
    refine ⟨_, pe_callB (call_isX C hcl hz hf) hg hm (by decide +kernel) (pa_cons (pe_var (i := i) hN hv hd hcd) (pa_cons (pe_glob (v := .ref Am) hgA gA rfl hdA) pa_nil (he2 _ _)) (he _ _)) (by decide) (by decide) (he _ _) (hpl _ _), fun σ H F Q e hi sm er z => ?_⟩
    split at z
    · rename_i q
      obtain ⟨ec, arg⟩ := e
      cases arg with
      | none => exact absurd q.2 (by simp)
      | some fa =>
        obtain ⟨Cc, h1, h2, pp, w, h3, h4, h5, h6⟩ := er
        exact ⟨_, hi, .ref Am, .ref Am, b, pp, _, rfl, (fun u r => r), hk, h3, h4, z _ _ _ _ (.refl0 sm) (.bl b)⟩
    · exact z.elim
  · refine ⟨fun _ _ _ => False, ⟨fun _ _ _ _ _ _ z => z.elim⟩, fun σ H F Q e hi sm er z => ?_⟩
    split at z
    · rename_i q
      obtain ⟨Cc, h1, h2, h3⟩ := er
      rw [q.1, gD] at h1
      cases h1
      exact hc h2
    · exact z.elim
theorem hx_bool {b : Bool} {j : Nat} : HX X i (.Constant (.bool b) j pos) (fun _ => pureT (.bool b)) :=
  ⟨fun _ => .pure, fun a oe cls d pn hz hf => ⟨_, pe_bl, fun σ H F Q e _ sm _ z => z (.bl b) F H H (.refl0 sm) (.bl _)⟩⟩
/-- a if isinstance(..) else b -/
theorem hx_if {c a b : Expr} {hc ha hb : Exn → M PyData} (h1 : HX X i c hc) (h2 : HX X i a ha) (h3 : HX X i b hb) (he : ∀ q pn whole, isTrue c (X.suite q pn).env whole = (do let v ← whole; standAt c.pos; holding [v] (truthy v)) := by intro _ _ _; rfl) :
    HX X i (.IfExp c a b pos) (fun e => bindT (boolT (hc e)) fun k => if k = true then ha e else hb e) := by
  refine ⟨fun e => .bind (h1.mo e).boolT fun _ => .ite (h2.mo e) (h3.mo e), fun q oe cls d pn hz hf => ?_⟩
  obtain ⟨tc, p1, q1⟩ := h1.pe q oe cls d pn hz hf
  obtain ⟨ta, p2, q2⟩ := h2.pe q oe cls d pn hz hf
  obtain ⟨tb, p3, q3⟩ := h3.pe q oe cls d pn hz hf
  refine ⟨_, pe_ifExp (pt_val p1 (he _ _)) p2 p3, fun σ H F Q e hi sm er z => ?_⟩
  refine q1 σ H F _ e hi sm er ((h1.mo e).mono (fun r z1 v F1 D1 H1 g1 d1 => ?_) (fun _ y => y) z)
  cases d1 with
  | bl k =>
    refine ⟨k, rfl, ?_⟩
    cases k with
    | true => exact iteT (q2 σ H1 F1 _ e hi g1.lay.fh (er.up g1) ((h2.mo e).mono (fun r z2 v F2 D2 H2 g2 d2 => z2 v F2 D2 H2 (g1.via g2) d2) (fun _ y => y) z1))
    | false => exact iteF (q3 σ H1 F1 _ e hi g1.lay.fh (er.up g1) ((h3.mo e).mono (fun r z2 v F2 D2 H2 g2 d2 => z2 v F2 D2 H2 (g1.via g2) d2) (fun _ y => y) z1))
  | _ => exact z1.elim
end
end Nk
set_option Elab.async false
set_option linter.all false
set_option maxRecDepth 100000
set_option maxHeartbeats 4000000
namespace Nk
open PySem L2
section
variable {K : PySem.W.Frag} {X : Cx} {c : Ct} {Γ : GE} {S R : Type} {G : S → GE} {GR : R → GE} {e e2 a b : Expr} {t t2 ta tb : M PyData} {rest : List Stmt} {pos p : Pos}
/-- x.insert(i, e) -/
def insAt (ds : List PyData) (i d : PyData) : M (List PyData) := match i with
  | .int j => guardT (0 ≤ j ∧ j < 2 ^ 62 ∧ ds.length < sizeLine) (pureT (ds.take j.toNat ++ [d] ++ ds.drop j.toNat))
  | _ => failT
theorem mono_insAt (ds : List PyData) (i d : PyData) : Mono (insAt ds i d) := by cases i <;> first | exact .guard .pure | exact .fail
theorem pbk_ins {i : Nat} {x : Str} {px apos cpos epos : Pos} {ds : List PyData} {w : List PyData → M (Fl S R)} (hi : X.N[i]? = some x) (hv : Vis X.env.scope x) (hl : Γ.lookup i = some (.own ds)) (h : PX K X c Γ e t) (h2 : PX K X c Γ e2 t2) (g : ∀ es, PBk' K X c (setE i (.own es) Γ) rest G GR (w es)) (hd : (x == ("__debug__" : Str)) = false := by decide) (hcd : (x == ("__classdict__" : Str)) = false := by decide)
    (hbase : attributeBase (.Name x px) "insert" X.env (eval (.Name x px) X.env) = eval (.Name x px) X.env := by rfl)
    (hfew : ((backTo cpos (starEach [e, e2] X.env)).all (fun x => !x.1) && (backToKw cpos (keywordEach [] X.env)).all (fun x => x.1.isSome)
      && decide (([e, e2] : List Expr).length + ([] : List Keyword).length + (if ([] : List Keyword).isEmpty then 0 else 1) < 30)) = true := by rfl)
    (hline : (apos.endLine == cpos.line) = true := by rfl) (hs : starEach [e, e2] X.env = (false, eval e X.env) :: starEach [e2] X.env := by rfl) (hs2 : starEach [e2] X.env = (false, eval e2 X.env) :: starEach [] X.env := by rfl) (hplain : (backTo cpos (starEach [e2] X.env)).any (·.1) = false := by rfl)
    (hsw : swapsWith (.Call (.Attribute (.Name x px) "insert" apos) [e, e2] [] cpos) none epos.line X.env = pure false := by rfl) :
    PBk' K X c Γ (.Expr (.Call (.Attribute (.Name x px) "insert" apos) [e, e2] [] cpos) epos :: rest) G GR (bindT t fun j => bindT t2 fun d => bindT (insAt ds j d) w) := by
  have hK := h.hK
  subst hK
  refine ⟨.bind h.mo fun d => .bind h2.mo fun _ => .bind (mono_insAt _ _ _) fun es => (g es).mo, pss_imp (pss_cons (ps_expr (pe_bm PySem.F.plainAttrs_list PySem.F.slot_list_insert PySem.F.type_list_insert mt_insert (pe_var hi hv hd hcd) (pa_cons h.pe (pa_cons h2.pe pa_nil hs2) hs) hbase hfew hline hs hplain) hsw) (pss_ex fun d => (g d).ps)) fun E σ H ⟨o, B, F0, F, D, st, z⟩ => ?_⟩
  obtain ⟨a, vs, h1, h4, h5, k⟩ := st.mut (es := ds) hl
  refine ⟨.ref a, h1, .inl ⟨rfl, _, SqL.of (st.lay.sub _ _ h4)⟩, o, B, F0, F, D, st, h.mo.mono (fun dj z1 vj F1 D1 H1 g1 q1 => ?_) (fun _ h => h) z⟩
  refine ⟨o, B, F0, F1, D1, st.grow g1, h2.mo.mono (fun d z2 v F' D' H' g2 q2 => ?_) (fun _ h => h) z1⟩
  have gr := g1.trans g2
  cases q1 with
  | int j =>
    obtain ⟨⟨j0, j1, jl⟩, z2⟩ := z2
    obtain ⟨a', vs', h1', h4', h5', k'⟩ := st.mut (es := ds.take j.toNat ++ [d] ++ ds.drop j.toNat) hl
    rw [h1] at h1'
    cases h1'
    rw [h4] at h4'
    cases h4'
    refine ⟨a, vs, j, v, rfl, rfl, gr.lay.sub _ _ (gr.dd _ _ h4), by rw [h5.length]; exact jl, j0, Int.lt_trans j1 (by decide), ?_⟩
    have hq : DqAll _ F' (vs.take j.toNat ++ [v] ++ vs.drop j.toNat) (ds.take j.toNat ++ [d] ++ ds.drop j.toNat) := (((h5.same gr.ff).take _).append (.cons q2 .nil)).append ((h5.same gr.ff).drop _)
    exact ⟨_, o, B, F0, F', _, k' gr hq, (g _).mo.mono (fun _ q => q.up gr.ff) (fun _ h => h) z2⟩
  | _ => exact z2.elim
/-- x.extend(e), e a list -/
def extM (ds : List PyData) (d : PyData) : M (List PyData) := match d with
  | .list es => guardT (ds.length + es.length ≤ sizeLine) (pureT (ds ++ es))
  | _ => failT
theorem mono_extM (ds : List PyData) (d : PyData) : Mono (extM ds d) := by cases d <;> first | exact .guard .pure | exact .fail
theorem pbk_ext {i : Nat} {x : Str} {px apos cpos epos : Pos} {ds : List PyData} {w : List PyData → M (Fl S R)} (hi : X.N[i]? = some x) (hv : Vis X.env.scope x) (hl : Γ.lookup i = some (.own ds)) (h : PX K X c Γ e t) (g : ∀ es, PBk' K X c (setE i (.own es) Γ) rest G GR (w es)) (hd : (x == ("__debug__" : Str)) = false := by decide) (hcd : (x == ("__classdict__" : Str)) = false := by decide)
    (hbase : attributeBase (.Name x px) "extend" X.env (eval (.Name x px) X.env) = eval (.Name x px) X.env := by rfl)
    (hfew : ((backTo cpos (starEach [e] X.env)).all (fun x => !x.1) && (backToKw cpos (keywordEach [] X.env)).all (fun x => x.1.isSome)
      && decide (([e] : List Expr).length + ([] : List Keyword).length + (if ([] : List Keyword).isEmpty then 0 else 1) < 30)) = true := by rfl)
    (hline : (apos.endLine == cpos.line) = true := by rfl) (hs : starEach [e] X.env = (false, eval e X.env) :: starEach [] X.env := by rfl) (hplain : (backTo cpos (starEach [] X.env)).any (·.1) = false := by rfl)
    (hsw : swapsWith (.Call (.Attribute (.Name x px) "extend" apos) [e] [] cpos) none epos.line X.env = pure false := by rfl) :
    PBk' K X c Γ (.Expr (.Call (.Attribute (.Name x px) "extend" apos) [e] [] cpos) epos :: rest) G GR (bindT t fun d => bindT (extM ds d) w) := by
  have hK := h.hK
  subst hK
  refine ⟨.bind h.mo fun d => .bind (mono_extM _ _) fun es => (g es).mo, pss_imp (pss_cons (ps_expr (pe_bm PySem.F.plainAttrs_list PySem.F.slot_list_extend PySem.F.type_list_extend mt_extend (pe_var hi hv hd hcd) (pa_cons h.pe pa_nil hs) hbase hfew hline hs hplain) hsw) (pss_ex fun d => (g d).ps)) fun E σ H ⟨o, B, F0, F, D, st, z⟩ => ?_⟩
  obtain ⟨a, vs, h1, h4, h5, k⟩ := st.mut (es := ds) hl
  refine ⟨.ref a, h1, .inl ⟨rfl, _, SqL.of (st.lay.sub _ _ h4)⟩, o, B, F0, F, D, st, h.mo.mono (fun d z2 v F' D' H' gr q2 => ?_) (fun _ h => h) z⟩
  cases q2 with
  | @lst b ys es hp ha =>
    obtain ⟨jl, z2⟩ := z2
    obtain ⟨a', vs', h1', h4', h5', k'⟩ := st.mut (es := ds ++ es) hl
    rw [h1] at h1'
    cases h1'
    rw [h4] at h4'
    cases h4'
    refine ⟨a, b, vs, ys, rfl, rfl, gr.lay.sub _ _ (gr.dd _ _ h4), gr.lay.fh _ _ hp, by rw [h5.length, ha.length]; exact jl, ?_⟩
    exact ⟨_, o, B, F0, F', _, k' gr ((h5.same gr.ff).append ha), (g _).mo.mono (fun _ q => q.up gr.ff) (fun _ h => h) z2⟩
  | _ => exact z2.elim
/-- for x in reversed(range(a, b)) -/
def revRangeI (d d' : PyData) : M (List PyData) := match d, d' with
  | .int i, .int j => guardT (-(2 ^ 62) ≤ i ∧ i < 2 ^ 62 ∧ -(2 ^ 62) ≤ j ∧ j < 2 ^ 62) (pureT (rgD i (j - i).toNat).reverse)
  | _, _ => failT
end
end Nk
set_option Elab.async false
set_option linter.all false
set_option maxRecDepth 100000
set_option maxHeartbeats 4000000
namespace Nk
open PySem L2
/-! t ends, and tells something of P; nothing is raised -/
def Does {α : Type} (t : M α) (P : α → Prop) : Prop := ∀ k x, (∀ a, P a → k a) → t k x
section
variable {α β : Type} {t : M α} {P Q : α → Prop} {f : α → M β} {R : β → Prop}
theorem Does.pure {a : α} (h : P a) : Does (pureT a) P := fun _ _ q => q a h
theorem Does.bind (h : Does t P) (g : ∀ a, P a → Does (f a) R) : Does (bindT t f) R := fun k x q => h _ x fun a pa => g a pa k x q
theorem Does.imp (h : Does t P) (i : ∀ a, P a → Q a) : Does t Q := fun k x q => h k x fun a pa => q a (i a pa)
theorem Does.guard {p : Prop} (hp : p) (h : Does t P) : Does (guardT p t) P := fun k x q => ⟨hp, h k x q⟩
theorem Does.any {P' : α → Prop} (h : ∀ a, P' a → P a) : Does (anyT P') P := fun k _ q a pa => q a (h a pa)
theorem Does.ite {c : Prop} [Decidable c] {u : M α} (h1 : c → Does t P) (h2 : ¬ c → Does u P) : Does (if c then t else u) P := by
  by_cases h : c
  · rw [if_pos h]; exact h1 h
  · rw [if_neg h]; exact h2 h
theorem Does.eq {a : α} (h : t = pureT a) (p : P a) : Does t P := h ▸ .pure p
theorem Does.of {a : α} (h : t = pureT a) : Does t (· = a) := h ▸ .pure rfl
theorem Does.nox (h : Does t P) : Does (noxT t) P := fun k _ q => h k _ q
theorem Does.run {k : α → Prop} {x : Exn → Prop} (h : Does t k) : t k x := h k x fun _ q => q
end
/-! the pieces, told short -/
theorem small_le {n : Nat} (h : n ≤ 100000) : n ≤ sizeLine := Nat.le_trans h (by decide)
theorem consT_pure (d : PyData) (ds : List PyData) : consT (pureT d) (pureT ds) = pureT (d :: ds) := rfl
@[simp] theorem nilT_eq : nilT = pureT [] := (rfl)
theorem tupT_pure {ds : List PyData} (h : ds.length ≤ sizeLine) : tupT (pureT ds) = pureT (.tuple ds) := by unfold tupT; rw [pure_bindT, guard_ok h]
theorem lstV_pure (ds : List PyData) : lstV (pureT ds) = pureT (.list ds) := rfl
@[simp] theorem boolT_pure (b : Bool) : boolT (pureT (.bool b)) = pureT b := (rfl)
@[simp] theorem ifR_pure {α : Type} (b : Bool) (t u : M α) : ifR (pureT b) t u = if b = true then t else u := (rfl)
@[simp] theorem ifT_pure {α : Type} (b : Bool) (t u : M α) : ifT (pureT b) t u = if b = true then t else u := (rfl)
@[simp] theorem andB_pure (b : Bool) (u : M Bool) : andB (pureT b) u = if b = true then u else pureT false := (rfl)
@[simp] theorem orB_pure (b : Bool) (u : M Bool) : orB (pureT b) u = if b = true then pureT true else u := (rfl)
@[simp] theorem notB_pure (b : Bool) : notB (pureT b) = pureT (!b) := (rfl)
@[simp] theorem andV_pure (b : Bool) (u : M PyData) : andV (pureT (.bool b)) u = if b = true then u else pureT (.bool false) := (rfl)
@[simp] theorem orV_pure (b : Bool) (u : M PyData) : orV (pureT (.bool b)) u = if b = true then pureT (.bool true) else u := (rfl)
@[simp] theorem notV_pure (b : Bool) : notV (pureT (.bool b)) = pureT (.bool (!b)) := (rfl)
@[simp] theorem goFl_nx {S S' R : Type} (s : S') (w : S' → M (Fl S R)) : goFl (pureT (.nx s)) w = w s := (rfl)
@[simp] theorem onL_inl {S R L : Type} (s : L) (w : L → M (Fl S R)) : onL (pureT (.inl s)) w = w s := (rfl)
@[simp] theorem onL_inr {S R L : Type} (d : PyData) (w : L → M (Fl S R)) : onL (pureT (.inr d)) w = pureT (.rt d) := (rfl)
@[simp] theorem fnT_rt (d : PyData) : fnT (pureT (.rt d)) = pureT d := (rfl)
@[simp] theorem fnT_bind {α : Type} (t : M α) (f : α → M (Fl Unit Empty)) : fnT (bindT t f) = bindT t fun a => fnT (f a) := (rfl)
@[simp] theorem fnT_nx : fnT (pureT (.nx ())) = pureT .none := (rfl)
theorem fnT_ite {c : Prop} [Decidable c] (t u : M (Fl Unit Empty)) : fnT (if c then t else u) = if c then fnT t else fnT u := by split <;> rfl
@[simp] theorem onL_bind {S R L α : Type} (t : M α) (f : α → M (L ⊕ PyData)) (w : L → M (Fl S R)) : onL (bindT t f) w = bindT t fun a => onL (f a) w := (rfl)
@[simp] theorem consT_eq (t : M PyData) (ts : M (List PyData)) : consT t ts = bindT t fun d => bindT ts fun ds => pureT (d :: ds) := (rfl)
@[simp] theorem lstV_eq (t : M (List PyData)) : lstV t = bindT t fun ds => pureT (.list ds) := (rfl)
section
variable {α β : Type} (t : M α)
@[simp] theorem tupT_bind (f : α → M (List PyData)) : tupT (bindT t f) = bindT t fun a => tupT (f a) := (rfl)
@[simp] theorem boolT_bind (f : α → M PyData) : boolT (bindT t f) = bindT t fun a => boolT (f a) := (rfl)
@[simp] theorem notB_bind (f : α → M Bool) : notB (bindT t f) = bindT t fun a => notB (f a) := (rfl)
@[simp] theorem notV_bind (f : α → M PyData) : notV (bindT t f) = bindT t fun a => notV (f a) := (rfl)
@[simp] theorem andB_bind (f : α → M Bool) (u : M Bool) : andB (bindT t f) u = bindT t fun a => andB (f a) u := (rfl)
@[simp] theorem orB_bind (f : α → M Bool) (u : M Bool) : orB (bindT t f) u = bindT t fun a => orB (f a) u := (rfl)
@[simp] theorem andV_bind (f : α → M PyData) (u : M PyData) : andV (bindT t f) u = bindT t fun a => andV (f a) u := (rfl)
@[simp] theorem orV_bind (f : α → M PyData) (u : M PyData) : orV (bindT t f) u = bindT t fun a => orV (f a) u := (rfl)
@[simp] theorem ifR_bind (f : α → M Bool) (u v : M β) : ifR (bindT t f) u v = bindT t fun a => ifR (f a) u v := (rfl)
@[simp] theorem ifT_bind (f : α → M Bool) (u v : M β) : ifT (bindT t f) u v = bindT t fun a => ifT (f a) u v := (rfl)
@[simp] theorem goFl_bind {S S' R : Type} (f : α → M (Fl S' R)) (w : S' → M (Fl S R)) : goFl (bindT t f) w = bindT t fun a => goFl (f a) w := (rfl)
@[simp] theorem lcF_bind {ι : Type} (f : α → M (List PyData)) (dec : PyData → Option ι) (cc : ι → M Bool) (ee : ι → M PyData) : lcF (bindT t f) dec cc ee = bindT t fun a => lcF (f a) dec cc ee := (rfl)
@[simp] theorem tup_0 : tupT (pureT []) = pureT (.tuple []) := tupT_pure (by decide)
@[simp] theorem tup_1 (a : PyData) : tupT (pureT [a]) = pureT (.tuple [a]) := tupT_pure (small_le (by show 1 ≤ 100000; decide))
@[simp] theorem tup_2 (a b : PyData) : tupT (pureT [a, b]) = pureT (.tuple [a, b]) := tupT_pure (small_le (by show 2 ≤ 100000; decide))
@[simp] theorem tup_3 (a b c : PyData) : tupT (pureT [a, b, c]) = pureT (.tuple [a, b, c]) := tupT_pure (small_le (by show 3 ≤ 100000; decide))
@[simp] theorem tup_4 (a b c d : PyData) : tupT (pureT [a, b, c, d]) = pureT (.tuple [a, b, c, d]) := tupT_pure (small_le (by show 4 ≤ 100000; decide))
end
@[simp] theorem guard_small {α : Type} {n : Nat} {t : M α} (h : n ≤ 1000) : guardT (n ≤ sizeLine) t = t := guard_ok (small_le (by omega))
@[simp] theorem tupT_guard (p : Prop) (t : M (List PyData)) : tupT (guardT p t) = guardT p (tupT t) := (rfl)
@[simp] theorem boolT_guard (p : Prop) (t : M PyData) : boolT (guardT p t) = guardT p (boolT t) := (rfl)
@[simp] theorem endE_rt {S R : Type} (d : PyData) : (endE (.rt d) : M (Fl S R)) = pureT (.rt d) := (rfl)
theorem thawT_pure {d : PyData} (h : noL d = true) : thawT (pureT d) = pureT d := by unfold thawT; rw [nox_pureT, pure_bindT, guard_ok h]
@[simp] theorem optT_some {α : Type} (a : α) : optT (some a) = pureT a := (rfl)
@[simp] theorem un1_one (f : PyData → M PyData) (a : PyData) : un1 f [a] = f a := (rfl)
@[simp] theorem un2_two (f : PyData → PyData → M PyData) (a b : PyData) : un2 f [a, b] = f a b := (rfl)
@[simp] theorem isiM_eq (f : PyData → Bool) (d : PyData) : isiM f d = pureT (.bool (f d)) := (rfl)
@[simp] theorem len_tup (s : List PyData) : lenM (.tuple s) = pureT (.int (s.length : Nat)) := (rfl)
@[simp] theorem len_lst (s : List PyData) : lenM (.list s) = pureT (.int (s.length : Nat)) := (rfl)
@[simp] theorem addM_int (i j : Int) : addM (.int i) (.int j) = pureT (.int (i + j)) := (rfl)
@[simp] theorem subM_int (i j : Int) : subM (.int i) (.int j) = pureT (.int (i - j)) := (rfl)
theorem addM_tup {s t : List PyData} (h : s.length + t.length ≤ sizeLine) : addM (.tuple s) (.tuple t) = pureT (.tuple (s ++ t)) := by
  show guardT _ _ = _
  rw [guard_ok h]
theorem addM_lst {s t : List PyData} (h : s.length + t.length ≤ sizeLine) : addM (.list s) (.list t) = pureT (.list (s ++ t)) := by
  show guardT _ _ = _
  rw [guard_ok h]
theorem catL_lst {s t : List PyData} (h : s.length + t.length ≤ sizeLine) : catL (.list s) (.list t) = pureT (s ++ t) := by
  show guardT _ _ = _
  rw [guard_ok h]
theorem mul_wide {i j : Int} {a b : Nat} (ha : i.natAbs < 2 ^ a) (hb : j.natAbs < 2 ^ b) (h0 : 0 < a) (h1 : 0 < b) (h : a + b ≤ 1000000) : mulM (.int i) (.int j) = pureT (.int (i * j)) := by
  show guardT _ _ = _
  rw [guard_ok (wide_mul ha hb h0 h1 h)]
/-- factors of at most 64 bits -/
theorem mul64 {i j : Int} (ha : i.natAbs < 2 ^ 64) (hb : j.natAbs < 2 ^ 64) : mulM (.int i) (.int j) = pureT (.int (i * j)) := mul_wide ha hb (by decide) (by decide) (by decide)
theorem mulM_tup {s : List PyData} {j : Int} (h0 : -1000 ≤ j) (h1 : j ≤ 1000) (h : s.length ≤ 1000) : mulM (.tuple s) (.int j) = pureT (.tuple (List.replicate j.toNat s).flatten) := by
  show guardT _ _ = _
  rw [guard_ok ⟨h0, h1, h⟩]
theorem mulM_lst {s : List PyData} {j : Int} (h0 : -1000 ≤ j) (h1 : j ≤ 1000) (h : s.length ≤ 1000) : mulM (.list s) (.int j) = pureT (.list (List.replicate j.toNat s).flatten) := by
  show guardT _ _ = _
  rw [guard_ok ⟨h0, h1, h⟩]
theorem modM_int {i j : Int} (h : 0 < j) : modM (.int i) (.int j) = pureT (.int (i % j)) := by
  show guardT _ _ = _
  rw [guard_ok h]
theorem fdiv64 {i j : Int} (h : 0 < j) (hb : j.natAbs < 2 ^ 64) : fdivM (.int i) (.int j) = pureT (.int (i / j)) := by
  show guardT _ _ = _
  rw [guard_ok (wide_div (b := 64) h hb (by decide) (by decide))]
theorem pow_small {i j : Int} (h : 0 ≤ j) (h1 : j ≤ 1000000) (h2 : i.natAbs < 2 ^ 64) : powM (.int i) (.int j) = pureT (.int (i ^ j.toNat)) := by
  show guardT _ _ = _
  rw [guard_ok ⟨h, h1, h2⟩]
@[simp] theorem eq_int (i j : Int) : eqM (.int i) (.int j) = pureT (.bool (decide (i = j))) := (rfl)
@[simp] theorem ne_int (i j : Int) : neM (.int i) (.int j) = pureT (.bool (!decide (i = j))) := (rfl)
@[simp] theorem eq_str (i j : Str) : eqM (.str i) (.str j) = pureT (.bool (decide (i = j))) := (rfl)
@[simp] theorem ne_str (i j : Str) : neM (.str i) (.str j) = pureT (.bool (!decide (i = j))) := (rfl)
@[simp] theorem lt_int (i j : Int) : ltM (.int i) (.int j) = pureT (.bool (decide (i < j))) := (rfl)
@[simp] theorem le_int (i j : Int) : leM (.int i) (.int j) = pureT (.bool (decide (i ≤ j))) := (rfl)
@[simp] theorem gt_int (i j : Int) : gtM (.int i) (.int j) = pureT (.bool (decide (i > j))) := (rfl)
@[simp] theorem ge_int (i j : Int) : geM (.int i) (.int j) = pureT (.bool (decide (i ≥ j))) := (rfl)
theorem ixT_at {s : List PyData} {i : Nat} {d : PyData} (h : s[i]? = some d) : ixM (.tuple s) (.int (i : Nat)) = pureT d := by
  show optT _ = _
  rw [atI_nat h]; rfl
theorem ixLst_at {s : List PyData} {i : Nat} {d : PyData} (h : s[i]? = some d) : ixM (.list s) (.int (i : Nat)) = pureT d := by
  show optT _ = _
  rw [atI_nat h]; rfl
@[simp] theorem ix_0 (d : PyData) (s : List PyData) : ixM (.tuple (d :: s)) (.int 0) = pureT d := ixT_at (i := 0) rfl
@[simp] theorem ix_1 (d e : PyData) (s : List PyData) : ixM (.tuple (d :: e :: s)) (.int 1) = pureT e := ixT_at (i := 1) rfl
@[simp] theorem items_tup (s : List PyData) : itemsT (.tuple s) = pureT s := (rfl)
@[simp] theorem items_lst (s : List PyData) : itemsT (.list s) = pureT s := (rfl)
@[simp] theorem tuple_lst (s : List PyData) : tupleM (.list s) = pureT (.tuple s) := (rfl)
@[simp] theorem tuple_tup (s : List PyData) : tupleM (.tuple s) = pureT (.tuple s) := (rfl)
theorem range_int {i : Int} (h0 : -(2 ^ 62) ≤ i) (h1 : i < 2 ^ 62) : rangeI (.int i) = pureT (rgD 0 i.toNat) := by
  show guardT _ _ = _
  rw [guard_ok ⟨h0, h1⟩]
theorem range_nat {n : Nat} (h : n ≤ 1000000) : rangeI (.int (n : Nat)) = pureT ((List.range n).map fun (k : Nat) => .int (k : Int)) := by
  rw [range_int (by omega) (by omega), Int.toNat_natCast, rgD_nat]
theorem rg_nat {n : Nat} (h : n ≤ 1000000) : rgI (.int (n : Nat)) = pureT ((List.range n).map fun (k : Nat) => .int (k : Int)) := by
  show guardT _ _ = _
  rw [guard_ok ⟨by omega, by omega⟩, Int.toNat_natCast, rgD_nat]
@[simp] theorem isN_eq (a : PyData) : isNM a .none = pureT (.bool (isNo a)) := by cases a <;> rfl
@[simp] theorem notN_eq (a : PyData) : notNM a .none = pureT (.bool (!isNo a)) := by cases a <;> rfl
@[simp] theorem sum_ints (ns : List Int) : sumM (.list (ns.map .int)) = pureT (.int ns.sum) := by
  show bindT (optT (asInts _)) _ = _
  rw [asInts_map]; rfl
theorem max_ints {ns : List Int} (h : ns ≠ []) : maxM (.list (ns.map .int)) = pureT (.int (mxD 0 ns)) := by
  show bindT (optT (asInts _)) _ = _
  rw [asInts_map]
  show guardT _ _ = _
  rw [guard_ok h]
@[simp] theorem maxD_ints (ns : List Int) (i : Int) : maxDM (.list (ns.map .int)) (.int i) = pureT (.int (mxD i ns)) := by
  show bindT (optT (asInts _)) _ = _
  rw [asInts_map]; rfl
@[simp] theorem all_bools (bs : List Bool) : allM (.list (bs.map .bool)) = pureT (.bool (bs.all id)) := by
  show bindT (optT (asBools _)) _ = _
  rw [asBools_map]; rfl
@[simp] theorem abs_int (i : Int) : absM (.int i) = pureT (.int (absI i)) := (rfl)
theorem enumD_mem {s : List PyData} {x : PyData} (h : x ∈ enumD s) : ∃ (i : Nat) (d : PyData), x = .tuple [.int (i : Nat), d] ∧ s[i]? = some d := by
  unfold enumD at h
  obtain ⟨⟨d, i⟩, hq, rfl⟩ := List.mem_map.mp h
  have := List.mem_zipIdx hq
  exact ⟨i, d, rfl, by rw [List.mem_zipIdx_iff_getElem?] at hq; simpa using hq⟩
theorem repr_ok {d : PyData} (f : Fit 300000 40 d) (u : Uno d) : reprM d = pureT (.str d.shown) := by unfold reprM; rw [guard_ok ⟨f, u⟩]
/-- the rules that are always wanted -/
theorem onE_ok {m : Nat} {w : List PyData → M PyData} {as : List PyData} (h : as.length = m) : onE m w as = w as := by unfold onE; rw [if_pos h]
/-! comprehensions -/
inductive All2 {α β : Type} (R : α → β → Prop) : List α → List β → Prop
  | nil : All2 R [] []
  | cons {a : α} {b : β} {as : List α} {bs : List β} : R a b → All2 R as bs → All2 R (a :: as) (b :: bs)
theorem All2.length {α β : Type} {R : α → β → Prop} : ∀ {as : List α} {bs : List β}, All2 R as bs → as.length = bs.length
  | _, _, .nil => rfl
  | _, _, .cons _ t => by rw [List.length_cons, List.length_cons, All2.length t]
section
variable {ι α : Type} {dec : PyData → Option ι} {cc : ι → M Bool} {ee : ι → M PyData}
/-- each element a value -/
theorem lcM_map {enc : α → PyData} {j : α → ι} {g : α → PyData} : ∀ (as : List α), (∀ a ∈ as, dec (enc a) = some (j a) ∧ cc (j a) = pureT true ∧ ee (j a) = pureT (g a)) → lcM dec cc ee (as.map enc) = pureT (as.map g)
  | [], _ => rfl
  | a :: as, h => by
    obtain ⟨h1, h2, h3⟩ := h a List.mem_cons_self
    rw [List.map_cons]
    unfold lcM
    rw [h1]
    simp only [h2, h3, nox_pureT, pure_bindT, if_true]
    rw [lcM_map as fun x hx => h x (List.mem_cons_of_mem _ hx)]
    rfl
/-- those of keep -/
theorem lcM_filter {enc : α → PyData} {j : α → ι} {keep : α → Bool} {g : α → PyData} : ∀ (as : List α), (∀ a ∈ as, dec (enc a) = some (j a) ∧ cc (j a) = pureT (keep a) ∧ (keep a = true → ee (j a) = pureT (g a))) → lcM dec cc ee (as.map enc) = pureT ((as.filter keep).map g)
  | [], _ => rfl
  | a :: as, h => by
    obtain ⟨h1, h2, h3⟩ := h a List.mem_cons_self
    rw [List.map_cons]
    unfold lcM
    rw [h1]
    have ih := lcM_filter as fun x hx => h x (List.mem_cons_of_mem _ hx)
    cases hk : keep a with
    | false =>
      simp only [h2, hk, nox_pureT, pure_bindT]
      rw [List.filter_cons, hk, if_neg Bool.false_ne_true, if_neg Bool.false_ne_true]
      exact ih
    | true =>
      simp only [h2, hk, h3 hk, nox_pureT, pure_bindT, if_true]
      rw [ih, List.filter_cons, hk, if_pos rfl]
      rfl
/-- each element something of P -/
theorem lcM_does {enc : α → PyData} {j : α → ι} {P : α → PyData → Prop} : ∀ (as : List α), (∀ a ∈ as, dec (enc a) = some (j a) ∧ cc (j a) = pureT true ∧ Does (ee (j a)) (P a)) → Does (lcM dec cc ee (as.map enc)) (All2 P as)
  | [], _ => .pure .nil
  | a :: as, h => by
    obtain ⟨h1, h2, h3⟩ := h a List.mem_cons_self
    rw [List.map_cons]
    unfold lcM
    rw [h1]
    simp only [h2, nox_pureT, pure_bindT, if_true]
    refine h3.nox.bind fun d hd => ?_
    exact (lcM_does as fun x hx => h x (List.mem_cons_of_mem _ hx)).bind fun ds hds => .pure (.cons hd hds)
theorem lcF_eq {it : M (List PyData)} {xs ds : List PyData} (hi : it = pureT xs) (hl : xs.length ≤ 100000) (h : lcM dec cc ee xs = pureT ds) : lcF it dec cc ee = pureT ds := by
  unfold lcF
  rw [hi, pure_bindT, guard_ok hl, h]
theorem lcF_does {it : M (List PyData)} {xs : List PyData} {P : List PyData → Prop} (hi : it = pureT xs) (hl : xs.length ≤ 100000) (h : Does (lcM dec cc ee xs) P) : Does (lcF it dec cc ee) P := by
  unfold lcF
  rw [hi, pure_bindT, guard_ok hl]
  exact h
end
/-! loops -/
section
variable {ι L : Type} {dec : PyData → Option ι} {bd : ι → L → M (Fl L L)}
/-- by what holds ahead of each turn -/
theorem for_does {Post : L ⊕ PyData → Prop} (Inv : Nat → L → Prop) : ∀ (xs : List PyData) (n : Nat) (s : L), Inv n s →
    (∀ i x s, xs[i]? = some x → Inv (n + i) s → ∃ j, dec x = some j ∧ Does (bd j s) fun fl => match fl with
      | .nx s' => Inv (n + i + 1) s'
      | .ct s' => Inv (n + i + 1) s'
      | .bk s' => Post (.inl s')
      | .rt d => Post (.inr d)) → (∀ s, Inv (n + xs.length) s → Post (.inl s)) → Does (forM' dec bd xs s) Post
  | [], n, s, h, _, e => .pure (e s h)
  | x :: xs, n, s, h, st, e => by
    obtain ⟨j, h1, h2⟩ := st 0 x s rfl h
    unfold forM'
    rw [h1]
    refine Does.bind h2 fun fl hfl => ?_
    have next : ∀ s', Inv (n + 1) s' → Does (forM' dec bd xs s') Post := fun s' hs => for_does Inv xs (n + 1) s' hs (fun i y s2 hy hi => by
      have := st (i + 1) y s2 (by simpa using hy) (by rw [show n + (i + 1) = n + 1 + i by omega]; exact hi)
      rw [show n + (i + 1) + 1 = n + 1 + i + 1 by omega] at this
      exact this) fun s2 h2 => e s2 (by rw [List.length_cons, show n + (xs.length + 1) = n + 1 + xs.length by omega]; exact h2)
    cases fl with
    | nx s' => exact next s' hfl
    | ct s' => exact next s' hfl
    | bk s' => exact .pure hfl
    | rt d => exact .pure hfl
/-- over encoded things, without a way out -/
theorem for_inv {α : Type} {enc : α → PyData} {j : α → ι} (Inv : Nat → L → Prop) (as : List α) (s : L) (h0 : Inv 0 s)
    (st : ∀ i a s, as[i]? = some a → Inv i s → dec (enc a) = some (j a) ∧ Does (bd (j a) s) fun fl => ∃ s', (fl = .nx s' ∨ fl = .ct s') ∧ Inv (i + 1) s') : Does (forM' dec bd (as.map enc) s) fun r => ∃ s', r = .inl s' ∧ Inv as.length s' := by
  refine for_does Inv (as.map enc) 0 s h0 (fun i x s2 hx hi => ?_) fun s2 h2 => ⟨s2, rfl, by rw [List.length_map, Nat.zero_add] at h2; exact h2⟩
  rw [List.getElem?_map] at hx
  cases ha : as[i]? with
  | none => rw [ha] at hx; cases hx
  | some a =>
    rw [ha] at hx
    cases hx
    rw [Nat.zero_add] at hi ⊢
    obtain ⟨h1, h2⟩ := st i a s2 ha hi
    refine ⟨_, h1, h2.imp fun fl ⟨s', e, hs⟩ => ?_⟩
    rcases e with rfl | rfl <;> exact hs
/-- no turn changes anything -/
theorem for_same {s : L} : ∀ (xs : List PyData), (∀ x ∈ xs, ∃ j, dec x = some j ∧ bd j s = pureT (.nx s)) → forM' dec bd xs s = pureT (.inl s)
  | [], _ => rfl
  | x :: xs, h => by
    obtain ⟨j, h1, h2⟩ := h x List.mem_cons_self
    unfold forM'
    rw [h1]
    simp only [h2, pure_bindT]
    exact for_same xs fun y hy => h y (List.mem_cons_of_mem _ hy)
theorem while_does {cnd : L → M Bool} {bd : L → M (Fl L L)} {Post : L ⊕ PyData → Prop} (Inv : L → Prop) (μ : L → Nat) (s : L) (h : Inv s)
    (st : ∀ s, Inv s → Does (cnd s) fun b => if b = true then Does (bd s) fun fl => match fl with
      | .nx s' => Inv s' ∧ μ s' < μ s
      | .ct s' => Inv s' ∧ μ s' < μ s
      | .bk s' => Post (.inl s')
      | .rt d => Post (.inr d) else Post (.inl s)) : Does (whileM cnd bd s) Post := by
  have key : ∀ n s, μ s < n → Inv s → Does (whileN cnd bd n s) Post := by
    intro n
    induction n with
    | zero => intro s hs; exact absurd hs (Nat.not_lt_zero _)
    | succ n ih =>
      intro s hs hi
      unfold whileN
      refine (st s hi).bind fun b hb => ?_
      cases b with
      | false => rw [if_neg Bool.false_ne_true] at hb ⊢; exact .pure hb
      | true =>
        rw [if_pos rfl] at hb ⊢
        refine hb.bind fun fl hfl => ?_
        cases fl with
        | nx s' => exact ih s' (by have := hfl.2; omega) hfl.1
        | ct s' => exact ih s' (by have := hfl.2; omega) hfl.1
        | bk s' => exact .pure hfl
        | rt d => exact .pure hfl
  exact fun k x q => ⟨μ s + 1, key (μ s + 1) s (Nat.lt_succ_self _) h k x q⟩
end
end Nk
set_option Elab.async false
set_option linter.all false
set_option maxRecDepth 100000
set_option maxHeartbeats 4000000
namespace Nk
open PySem L2
/-! shown data: small, and without a dict -/
structure Sm (n m : Nat) (d : PyData) : Prop where
  fit : Fit n m d
  nod : d.hasDict = false
structure Sms (n m : Nat) (ds : List PyData) : Prop where
  fits : Fits n m ds
  nod : PyData.hasDictAll ds = false
section
variable {n m n' m' : Nat} {d : PyData} {ds es : List PyData}
theorem Sm.repr (h : Sm n m d) (h1 : n ≤ 300000) (h2 : m ≤ 40) : reprM d = pureT (.str d.shown) := repr_ok (h.fit.mono h1 h2) (.noD h.nod)
theorem Sm.mono (h : Sm n m d) (h1 : n ≤ n') (h2 : m ≤ m') : Sm n' m' d := ⟨h.fit.mono h1 h2, h.nod⟩
theorem Sms.mono (h : Sms n m ds) (h1 : n ≤ n') (h2 : m ≤ m') : Sms n' m' ds := ⟨h.fits.mono h1 h2, h.nod⟩
theorem Sms.tup (h : Sms n m ds) : Sm n (m + 1) (.tuple ds) := ⟨h.fits.tup, by simpa [PyData.hasDict] using h.nod⟩
theorem Sms.lst (h : Sms n m ds) : Sm n (m + 1) (.list ds) := ⟨h.fits.lst, by simpa [PyData.hasDict] using h.nod⟩
theorem Sms.nil : Sms 0 0 [] := ⟨.nil, by simp [PyData.hasDictAll]⟩
theorem Sms.cons (h : Sm n m d) (g : Sms n' m' ds) : Sms (n + 1 + n') (max m m') (d :: ds) := ⟨Fits.cons h.fit g.fits, by simp [PyData.hasDictAll, h.nod, g.nod]⟩
theorem Sms.append (h : Sms n m ds) (g : Sms n' m' es) : Sms (n + n') (max m m') (ds ++ es) := ⟨h.fits.append g.fits, by
  have := g.nod
  have := h.nod
  clear h g
  induction ds with
  | nil => simpa
  | cons d ds ih => simp [PyData.hasDictAll] at *; exact ⟨this.1, ih this.2⟩⟩
theorem Sms.all (h : ∀ d ∈ ds, Sm n m d) : Sms ((n + 1) * ds.length) m ds := ⟨.all fun d hd => (h d hd).fit, by
  induction ds with
  | nil => simp [PyData.hasDictAll]
  | cons d ds ih => simp [PyData.hasDictAll]; exact ⟨(h d List.mem_cons_self).nod, ih fun e he => h e (List.mem_cons_of_mem _ he)⟩⟩
theorem Sm.int {i : Int} (h0 : -(10 ^ 7) ≤ i) (h1 : i ≤ 10 ^ 7) : Sm 25 0 (.int i) := ⟨.int h0 h1, rfl⟩
theorem Sm.intB {i : Int} (h0 : -(10 ^ 15) ≤ i) (h1 : i ≤ 10 ^ 15) : Sm 60 0 (.int i) := ⟨.intB h0 h1, rfl⟩
theorem Sm.nat {i : Nat} (h1 : i ≤ 10 ^ 7) : Sm 25 0 (.int (i : Nat)) := .int (by omega) (by omega)
theorem Sm.bool (b : Bool) : Sm 0 0 (.bool b) := ⟨.bool b, rfl⟩
theorem Sm.none : Sm 0 0 .none := ⟨.none, rfl⟩
theorem Sms.ints {ns : List Int} (h : ∀ x ∈ ns, -(10 ^ 7) ≤ x ∧ x ≤ 10 ^ 7) : Sms (26 * ns.length) 0 (ns.map .int) := by
  have := Sms.all (n := 25) (m := 0) (ds := ns.map .int) fun d hd => by
    obtain ⟨x, hx, rfl⟩ := List.mem_map.mp hd
    exact .int (h x hx).1 (h x hx).2
  simpa using this
theorem Sms.intsB {ns : List Int} (h : ∀ x ∈ ns, -(10 ^ 15) ≤ x ∧ x ≤ 10 ^ 15) : Sms (61 * ns.length) 0 (ns.map .int) := by
  have := Sms.all (n := 60) (m := 0) (ds := ns.map .int) fun d hd => by
    obtain ⟨x, hx, rfl⟩ := List.mem_map.mp hd
    exact .intB (h x hx).1 (h x hx).2
  simpa using this
theorem Sms.mapAll {α : Type} {f : α → PyData} {as : List α} (h : ∀ a ∈ as, Sm n m (f a)) : Sms ((n + 1) * as.length) m (as.map f) := by
  have := Sms.all (n := n) (m := m) (ds := as.map f) fun d hd => by
    obtain ⟨x, hx, rfl⟩ := List.mem_map.mp hd
    exact h x hx
  simpa using this
end
/-! comprehensions over encoded things, without a test -/
section
variable {α : Type} {it : M (List PyData)} {ee : PyData → M PyData} {enc : α → PyData} {as : List α}
theorem lcF_map {g : α → PyData} (hi : it = pureT (as.map enc)) (hl : as.length ≤ 100000) (h : ∀ a ∈ as, ee (enc a) = pureT (g a)) : lcF it dec1 (fun _ => pureT true) ee = pureT (as.map g) :=
  lcF_eq hi (by rw [List.length_map]; exact hl) (lcM_map as fun a ha => ⟨rfl, rfl, h a ha⟩)
theorem lcF_mapD {P : α → PyData → Prop} (hi : it = pureT (as.map enc)) (hl : as.length ≤ 100000) (h : ∀ a ∈ as, Does (ee (enc a)) (P a)) : Does (lcF it dec1 (fun _ => pureT true) ee) (All2 P as) :=
  lcF_does hi (by rw [List.length_map]; exact hl) (lcM_does as fun a ha => ⟨rfl, rfl, h a ha⟩)
theorem lcF_keep {g : α → PyData} {cc : PyData → M Bool} {keep : α → Bool} (hi : it = pureT (as.map enc)) (hl : as.length ≤ 100000) (hc : ∀ a ∈ as, cc (enc a) = pureT (keep a)) (h : ∀ a ∈ as, keep a = true → ee (enc a) = pureT (g a)) : lcF it dec1 cc ee = pureT ((as.filter keep).map g) :=
  lcF_eq hi (by rw [List.length_map]; exact hl) (lcM_filter as fun a ha => ⟨rfl, hc a ha, h a ha⟩)
end
/-! a loop that lays one thing more on a list at each turn -/
theorem for_app {α ι : Type} {dec : PyData → Option ι} {bd : ι → List PyData → M (Fl (List PyData) (List PyData))} {enc : α → PyData} {j : α → ι} {g : α → PyData} : ∀ (as : List α) (s : List PyData), s.length + as.length ≤ 100000 →
    (∀ a ∈ as, dec (enc a) = some (j a)) → (∀ a ∈ as, ∀ s, s.length < sizeLine → bd (j a) s = pureT (.nx (s ++ [g a]))) → forM' dec bd (as.map enc) s = pureT (.inl (s ++ as.map g))
  | [], s, _, _, _ => by rw [List.map_nil, List.map_nil, List.append_nil]; rfl
  | a :: as, s, hl, h1, h2 => by
    rw [List.map_cons]
    unfold forM'
    rw [h1 a List.mem_cons_self]
    have hn : s.length < sizeLine := Nat.lt_of_lt_of_le (show s.length < 100000 by rw [List.length_cons] at hl; omega) (by decide)
    simp only [h2 a List.mem_cons_self s hn, pure_bindT]
    rw [for_app as (s ++ [g a]) (by rw [List.length_append]; simp only [List.length_cons, List.length_nil] at hl ⊢; omega) (fun x hx => h1 x (List.mem_cons_of_mem _ hx)) fun x hx => h2 x (List.mem_cons_of_mem _ hx)]
    rw [List.map_cons, List.append_assoc]
    rfl
/-! a loop that is a fold -/
theorem for_fold {α β ι L : Type} {dec : PyData → Option ι} {bd : ι → L → M (Fl L L)} {enc : α → PyData} {j : α → ι} {emb : β → L} {step : β → α → β} (I : Nat → β → Prop) : ∀ (as : List α) (n : Nat) (x : β), I n x →
    (∀ i a x, as[i]? = some a → I (n + i) x → dec (enc a) = some (j a) ∧ (bd (j a) (emb x) = pureT (.nx (emb (step x a))) ∨ bd (j a) (emb x) = pureT (.ct (emb (step x a)))) ∧ I (n + i + 1) (step x a)) → forM' dec bd (as.map enc) (emb x) = pureT (.inl (emb (as.foldl step x)))
  | [], _, _, _, _ => rfl
  | a :: as, n, x, h, st => by
    obtain ⟨h1, h2, h3⟩ := st 0 a x rfl h
    rw [List.map_cons]
    unfold forM'
    rw [h1]
    have ih := for_fold I as (n + 1) (step x a) h3 fun i b y hb hi => by
      have := st (i + 1) b y (by simpa using hb) (by rw [show n + (i + 1) = n + 1 + i by omega]; exact hi)
      rw [show n + (i + 1) + 1 = n + 1 + i + 1 by omega] at this
      exact this
    rcases h2 with h2 | h2 <;> simp only [h2, pure_bindT] <;> exact ih
abbrev num (n : Nat) : PyData := .int (n : Int)
theorem enumD_enc {α : Type} (enc : α → PyData) (as : List α) : enumD (as.map enc) = as.zipIdx.map fun p => PyData.tuple [num p.2, enc p.1] := by
  unfold enumD
  rw [List.zipIdx_map, List.map_map]
  rfl
theorem zipD_enc {α β : Type} (f : α → PyData) (g : β → PyData) (as : List α) (bs : List β) : zipD (as.map f) (bs.map g) = (as.zip bs).map fun p => PyData.tuple [f p.1, g p.2] := by
  unfold zipD
  rw [List.zip_map, List.map_map]
  rfl
theorem rangeN {n : Nat} (h : n ≤ 1000000) : rangeI (num n) = pureT ((List.range n).map num) := range_nat h
theorem max2_nat (a b : Nat) : max2M (num a) (num b) = pureT (num (max a b)) := by
  show pureT _ = _
  congr 2
  split <;> omega
theorem add_nat (a b : Nat) : addM (num a) (num b) = pureT (num (a + b)) := by
  rw [addM_int]
  rfl
theorem pure_inj_small {n : Nat} (h : n ≤ 100000) : n ≤ sizeLine := small_le h
theorem lt_small {n : Nat} (h : n < 100000) : n < sizeLine := Nat.lt_of_lt_of_le h (by decide)
end Nk
set_option Elab.async false
set_option linter.all false
set_option maxRecDepth 100000
set_option maxHeartbeats 4000000
namespace Nk
open PySem L2
def isaL (x y : Str) : Option Bool := if x = "Uneven" ∧ y = "Uneven" then some true else none
def H__law_told : List (Str × (Exn → M PyData)) := [("Uneven", fun _ => pureT (.str "uneven"))]
def W__law_draw : List PyData → M PyData := un1 drawM
def wb_added : List PyData → M (Fl Unit Empty)
  | [a_one, a_other] => (bindT (bindT (consT (lstV (lcF (bindT (pureT a_one) fun u1 => bindT (pureT a_other) fun v2 => zipI u1 v2) dec2 (fun p3 => (pureT true)) (fun p3 => (bindT (pureT p3.1) fun u4 => bindT (pureT p3.2) fun v5 => addM u4 v5)))) nilT) (un1 tupleM)) fun u6 => pureT (.rt u6))
  | _ => failT
def W_added : List PyData → M PyData := onE 2 fun as => fnT (wb_added as)
def wb_along : List PyData → M (Fl Unit Empty)
  | [a_load, a_order] => (bindT (pureT a_load) fun u2 => bindT (optT (dec2 u2)) fun r1 => (bindT (tupT (consT (pureT r1.1) (consT (bindT (consT (lstV (lcF (bindT (pureT a_order) itemsT) dec1 (fun p3 => (pureT true)) (fun p3 => (bindT (pureT r1.2) fun u4 => bindT (pureT p3) fun v5 => ixM u4 v5)))) nilT) (un1 tupleM)) nilT))) fun u6 => pureT (.rt u6)))
  | _ => failT
def W_along : List PyData → M PyData := onE 2 fun as => fnT (wb_along as)
def wb__law_sum : List PyData → M (Fl Unit Empty)
  | [a_kinds, a_rows] => (bindT (bindT (consT (lstV (lcF (bindT (pureT a_kinds) rangeI) dec1 (fun p1 => (pureT true)) (fun p1 => (bindT (consT (lstV (lcF (bindT (pureT a_rows) itemsT) dec1 (fun p2 => (pureT true)) (fun p2 => (bindT (pureT p2) fun u3 => bindT (pureT p1) fun v4 => ixM u3 v4)))) nilT) (un1 sumM))))) nilT) (un1 tupleM)) fun u5 => pureT (.rt u5))
  | _ => failT
def W__law_sum : List PyData → M PyData := onE 2 fun as => fnT (wb__law_sum as)
def wb__law_halved : List PyData → M (Fl Unit Empty)
  | [a_order, a_signs] => (bindT (lstV (bindT nilT fun u1 => guardT (u1.length ≤ sizeLine) (pureT u1))) fun d21 => bindT (lstV (bindT nilT fun u2 => guardT (u2.length ≤ sizeLine) (pureT u2))) fun d22 => onLs d21 fun x_first3 => onLs d22 fun x_last4 => (onL (bindT (bindT (pureT a_order) fun u7 => bindT (pureT a_signs) fun v8 => zipI u7 v8) fun u20 => forM' dec2 (fun p9 (s6 : List PyData × List PyData) => (goFl (ifR (boolT (bindT (pureT p9.2) fun u10 => bindT (pureT (.int 1)) fun v11 => eqM u10 v11)) (bindT (pureT p9.1) fun d13 => guardT (s6.1.length < sizeLine) (pureT (.nx ((s6.1 ++ [d13]), s6.2)))) (bindT (pureT (.int 0)) fun j14 => bindT (pureT p9.1) fun d15 => bindT (insAt s6.2 j14 d15) fun x_last16 => (pureT (.nx (s6.1, x_last16))))) fun s12 : List PyData × List PyData => (pureT (.nx (s12.1, s12.2))))) u20 (x_first3, x_last4)) fun s5 => (bindT (bindT (consT (lstV (bindT (pureT (PyData.list s5.1)) fun u17 => bindT (pureT (PyData.list s5.2)) fun v18 => catL u17 v18)) nilT) (un1 tupleM)) fun u19 => pureT (.rt u19))))
  | _ => failT
def W__law_halved : List PyData → M PyData := onE 2 fun as => fnT (wb__law_halved as)
def wb_sums : List PyData → M (Fl Unit Empty)
  | [a_kinds, a_rows] => (bindT (bindT (tupT (consT (pureT (.int 0)) nilT)) fun u2 => bindT (pureT a_kinds) fun v3 => mulM u2 v3) fun x_total1 => (bindT (bindT (consT (pureT x_total1) nilT) fun u5 => guardT (u5.length ≤ sizeLine) (pureT u5)) fun x_found4 => (onL (bindT (bindT (pureT a_rows) itemsT) fun u12 => forM' dec1 (fun p8 (s7 : PyData × List PyData) => (bindT (bindT (consT (pureT s7.1) (consT (pureT p8) nilT)) W_added) fun x_total9 => (bindT (pureT x_total9) fun d10 => guardT (s7.2.length < sizeLine) (pureT (.nx (x_total9, (s7.2 ++ [d10]))))))) u12 (x_total1, x_found4)) fun s6 => (bindT (bindT (consT (pureT (PyData.list s6.2)) nilT) (un1 tupleM)) fun u11 => pureT (.rt u11)))))
  | _ => failT
def W_sums : List PyData → M PyData := onE 2 fun as => fnT (wb_sums as)
def wb__law_one : List PyData → M (Fl Unit Empty)
  | [a_items] => (bindT (bindT (pureT a_items) fun u1 => bindT (bindT (consT (bindT (consT (pureT a_items) nilT) (un1 lenM)) nilT) W__law_draw) fun v2 => ixM u1 v2) fun u3 => pureT (.rt u3))
  | _ => failT
def W__law_one : List PyData → M PyData := onE 1 fun as => fnT (wb__law_one as)
def wb__law_mixed : List PyData → M (Fl Unit Empty)
  | [a_items] => (bindT (lstV (bindT (pureT a_items) itemsT)) fun d13 => bindT (lstV (bindT nilT fun u1 => guardT (u1.length ≤ sizeLine) (pureT u1))) fun d14 => onLs d13 fun x_rest2 => onLs d14 fun x_found3 => (onL (bindT (bindT (bindT (consT (pureT a_items) nilT) (un1 lenM)) rangeI) fun u12 => forM' dec1 (fun p6 (s5 : List PyData × List PyData) => (bindT (bindT (consT (thawT (bindT (consT (pureT (PyData.list s5.1)) nilT) (un1 lenM))) nilT) W__law_draw) fun k7 => bindT (popAt s5.1 k7) fun q8 => guardT (s5.2.length < sizeLine) ((fun d9 r10 => (pureT (.nx (r10, (s5.2 ++ [d9]))))) q8.1 q8.2))) u12 (x_rest2, x_found3)) fun s4 => (bindT (pureT (PyData.list s4.2)) fun u11 => pureT (.rt u11))))
  | _ => failT
def W__law_mixed : List PyData → M PyData := onE 1 fun as => fnT (wb__law_mixed as)
def wb__law_row : List PyData → M (Fl Unit Empty)
  | [a_kinds, a_most] => (bindT (bindT (consT (lstV (lcF (bindT (pureT a_kinds) rangeI) dec1 (fun p1 => (pureT true)) (fun p1 => (bindT (bindT (consT (bindT (bindT (pureT (.int 2)) fun u2 => bindT (pureT a_most) fun v3 => mulM u2 v3) fun u4 => bindT (pureT (.int 1)) fun v5 => addM u4 v5) nilT) W__law_draw) fun u6 => bindT (pureT a_most) fun v7 => subM u6 v7)))) nilT) (un1 tupleM)) fun u8 => pureT (.rt u8))
  | _ => failT
def W__law_row : List PyData → M PyData := onE 2 fun as => fnT (wb__law_row as)
def wb_is_even : List PyData → M (Fl Unit Empty)
  | [a_load] => (bindT (pureT a_load) fun u2 => bindT (optT (dec2 u2)) fun r1 => (bindT (bindT (bindT (bindT (consT (pureT r1.1) (consT (pureT r1.2) nilT)) W_sums) fun u3 => bindT (bindT (pureT (.int 1)) negM) fun v4 => ixM u3 v4) fun u7 => bindT (bindT (tupT (consT (pureT (.int 0)) nilT)) fun u5 => bindT (pureT r1.1) fun v6 => mulM u5 v6) fun v8 => eqM u7 v8) fun u9 => pureT (.rt u9)))
  | _ => failT
def W_is_even : List PyData → M PyData := onE 1 fun as => fnT (wb_is_even as)
def wb__law_load : List PyData → M (Fl Unit Empty)
  | [a_rows] => (bindT (tupT (consT (bindT (pureT (.int 1)) fun u4 => bindT (bindT (consT (pureT (.int 4)) nilT) W__law_draw) fun v5 => addM u4 v5) (consT (bindT (consT (lstV (bindT (consT (pureT (.int 1)) (consT (pureT (.int 2)) (consT (pureT (.int 3)) (consT (pureT (.int 9)) (consT (pureT (.int 1000)) (consT (bindT (pureT (.int 10)) fun u1 => bindT (pureT (.int 6)) fun v2 => powM u1 v2) nilT)))))) fun u3 => guardT (u3.length ≤ sizeLine) (pureT u3))) nilT) W__law_one) nilT))) fun u7 => bindT (optT (dec2 u7)) fun r6 => (bindT (tupT (consT (pureT r6.1) (consT (bindT (consT (lstV (lcF (bindT (bindT (consT (bindT (pureT a_rows) fun u8 => bindT (pureT (.int 1)) fun v9 => addM u8 v9) nilT) W__law_draw) rangeI) dec1 (fun p10 => (pureT true)) (fun p10 => (bindT (consT (pureT r6.1) (consT (pureT r6.2) nilT)) W__law_row)))) nilT) (un1 tupleM)) nilT))) fun u11 => pureT (.rt u11)))
  | _ => failT
def W__law_load : List PyData → M PyData := onE 1 fun as => fnT (wb__law_load as)
def wb__law_even : List PyData → M (Fl Unit Empty)
  | [a_rows] => (bindT (tupT (consT (bindT (pureT (.int 1)) fun u2 => bindT (bindT (consT (pureT (.int 4)) nilT) W__law_draw) fun v3 => addM u2 v3) (consT (bindT (consT (lstV (bindT (consT (pureT (.int 1)) (consT (pureT (.int 2)) (consT (pureT (.int 3)) (consT (pureT (.int 9)) (consT (pureT (.int 1000)) (consT (pureT (.int 40000)) nilT)))))) fun u1 => guardT (u1.length ≤ sizeLine) (pureT u1))) nilT) W__law_one) nilT))) fun u5 => bindT (optT (dec2 u5)) fun r4 => (bindT (lcF (bindT (bindT (consT (pureT a_rows) nilT) W__law_draw) rangeI) dec1 (fun p7 => (pureT true)) (fun p7 => (bindT (consT (pureT r4.1) (consT (pureT r4.2) nilT)) W__law_row))) fun x_found6 => (ifR (noxT (boolT (bindT (pureT (PyData.list x_found6)) fun u9 => bindT (lstV (bindT nilT fun u8 => guardT (u8.length ≤ sizeLine) (pureT u8))) fun v10 => eqM u9 v10))) (bindT (bindT (tupT (consT (pureT r4.1) (consT (tupT nilT) nilT))) fun u11 => pureT (.rt u11)) endE) (goFl (ifR (andB (boolT (bindT (bindT (consT (pureT (.int 3)) nilT) W__law_draw) fun u16 => bindT (pureT (.int 0)) fun v17 => eqM u16 v17)) (boolT (bindT (bindT (pureT (.int 2)) fun u12 => bindT (thawT (bindT (consT (pureT (PyData.list x_found6)) nilT) (un1 lenM))) fun v13 => mulM u12 v13) fun u14 => bindT (pureT a_rows) fun v15 => leM u14 v15))) (bindT (lstV (bindT (pureT (PyData.list x_found6)) fun u24 => bindT (lstV (lcF (bindT (pureT (PyData.list x_found6)) itemsT) dec1 (fun p20 => (pureT true)) (fun p20 => (bindT (consT (lstV (lcF (bindT (pureT p20) itemsT) dec1 (fun p21 => (pureT true)) (fun p21 => (bindT (pureT (.int 0)) fun u22 => bindT (pureT p21) fun v23 => subM u22 v23)))) nilT) (un1 tupleM))))) fun v25 => catL u24 v25)) fun x_found19 => (pureT (.nx x_found19))) (bindT (thawT (bindT (consT (lstV (lcF (bindT (bindT (consT (pureT r4.1) (consT (pureT (PyData.list x_found6)) nilT)) W__law_sum) itemsT) dec1 (fun p26 => (pureT true)) (fun p26 => (bindT (pureT (.int 0)) fun u27 => bindT (pureT p26) fun v28 => subM u27 v28)))) nilT) (un1 tupleM))) fun d29 => guardT (x_found6.length < sizeLine) (pureT (.nx (PyData.list (x_found6 ++ [d29])))))) fun s18 : PyData => (bindT (tupT (consT (pureT r4.1) (consT (bindT (consT (bindT (consT (pureT s18) nilT) W__law_mixed) nilT) (un1 tupleM)) nilT))) fun u30 => pureT (.rt u30))))))
  | _ => failT
def W__law_even : List PyData → M PyData := onE 1 fun as => fnT (wb__law_even as)
def wb__law_great_even : List PyData → M (Fl Unit Empty)
  | [] => (bindT (bindT (pureT (.int 1)) fun u1 => bindT (bindT (consT (pureT (.int 4)) nilT) W__law_draw) fun v2 => addM u1 v2) fun x_kinds4 => bindT (lstV (bindT nilT fun u3 => guardT (u3.length ≤ sizeLine) (pureT u3))) fun d42 => onLs d42 fun x_found5 => (onL (bindT (bindT (bindT (pureT (.int 6)) fun u8 => bindT (bindT (consT (pureT (.int 7)) nilT) W__law_draw) fun v9 => addM u8 v9) rangeI) fun u40 => forM' dec1 (fun p10 (s7 : List PyData) => (bindT (bindT nilT fun u12 => guardT (u12.length ≤ sizeLine) (pureT u12)) fun x_row11 => (onL (bindT (bindT (pureT x_kinds4) rangeI) fun u38 => forM' dec1 (fun p15 (s14 : List PyData) => (bindT (bindT (consT (lstV (bindT (consT (bindT (pureT (.int 10)) fun u28 => bindT (pureT (.int 6)) fun v29 => powM u28 v29) (consT (bindT (bindT (pureT (.int 10)) fun u26 => bindT (pureT (.int 6)) fun v27 => powM u26 v27) negM) (consT (bindT (bindT (consT (bindT (bindT (pureT (.int 2)) fun u18 => bindT (bindT (pureT (.int 10)) fun u16 => bindT (pureT (.int 6)) fun v17 => powM u16 v17) fun v19 => mulM u18 v19) fun u20 => bindT (pureT (.int 1)) fun v21 => addM u20 v21) nilT) W__law_draw) fun u24 => bindT (bindT (pureT (.int 10)) fun u22 => bindT (pureT (.int 6)) fun v23 => powM u22 v23) fun v25 => subM u24 v25) nilT))) fun u30 => guardT (u30.length ≤ sizeLine) (pureT u30))) nilT) W__law_one) fun d31 => guardT (s14.length < sizeLine) (pureT (.nx (s14 ++ [d31]))))) u38 x_row11) fun s13 => (bindT (lstV (bindT (consT (bindT (consT (pureT (PyData.list s13)) nilT) (un1 tupleM)) (consT (bindT (consT (lstV (lcF (bindT (pureT (PyData.list s13)) itemsT) dec1 (fun p32 => (pureT true)) (fun p32 => (bindT (pureT (.int 0)) fun u33 => bindT (pureT p32) fun v34 => subM u33 v34)))) nilT) (un1 tupleM)) nilT)) fun u35 => guardT (u35.length ≤ sizeLine) (pureT u35))) fun v37 => bindT (extM s7 v37) fun d36 => (pureT (.nx d36)))))) u40 x_found5) fun s6 => (bindT (tupT (consT (pureT x_kinds4) (consT (bindT (consT (bindT (consT (pureT (PyData.list s6)) nilT) W__law_mixed) nilT) (un1 tupleM)) nilT))) fun u39 => pureT (.rt u39))))
  | _ => failT
def W__law_great_even : List PyData → M PyData := onE 0 fun as => fnT (wb__law_great_even as)
def wb__law_hard_even : List PyData → M (Fl Unit Empty)
  | [] => (bindT (bindT (pureT (.int 1)) fun u2 => bindT (bindT (consT (pureT (.int 4)) nilT) W__law_draw) fun v3 => addM u2 v3) fun x_kinds1 => (bindT (bindT (consT (lstV (lcF (bindT (pureT x_kinds1) rangeI) dec1 (fun p5 => (pureT true)) (fun p5 => (bindT (pureT (.int 1)) fun u6 => bindT (bindT (consT (pureT (.int 9)) nilT) W__law_draw) fun v7 => addM u6 v7)))) nilT) (un1 tupleM)) fun x_row4 => (bindT (bindT (pureT (.int 2)) fun u9 => bindT (bindT (consT (pureT (.int 20)) nilT) W__law_draw) fun v10 => addM u9 v10) fun x_many8 => (bindT (lstV (bindT (consT (bindT (consT (lstV (lcF (bindT (pureT x_row4) itemsT) dec1 (fun p12 => (pureT true)) (fun p12 => (bindT (pureT (.int 0)) fun u15 => bindT (bindT (pureT p12) fun u13 => bindT (pureT x_many8) fun v14 => mulM u13 v14) fun v16 => subM u15 v16)))) nilT) (un1 tupleM)) nilT) fun u17 => guardT (u17.length ≤ sizeLine) (pureT u17))) fun x_back11 => (goFl (ifR (boolT (bindT (bindT (consT (pureT (.int 2)) nilT) W__law_draw) fun u18 => bindT (pureT (.int 0)) fun v19 => eqM u18 v19)) (bindT (bindT (consT (lstV (lcF (bindT (pureT x_kinds1) rangeI) dec1 (fun p22 => (pureT true)) (fun p22 => (bindT (bindT (consT (pureT (.int 7)) nilT) W__law_draw) fun u23 => bindT (pureT (.int 3)) fun v24 => subM u23 v24)))) nilT) (un1 tupleM)) fun x_first21 => (bindT (lstV (bindT (consT (pureT x_first21) (consT (bindT (consT (lstV (lcF (bindT (pureT x_row4) fun u26 => bindT (pureT x_first21) fun v27 => zipI u26 v27) dec2 (fun p28 => (pureT true)) (fun p28 => (bindT (bindT (pureT (.int 0)) fun u31 => bindT (bindT (pureT p28.1) fun u29 => bindT (pureT x_many8) fun v30 => mulM u29 v30) fun v32 => subM u31 v32) fun u33 => bindT (pureT p28.2) fun v34 => subM u33 v34)))) nilT) (un1 tupleM)) nilT)) fun u35 => guardT (u35.length ≤ sizeLine) (pureT u35))) fun x_back25 => (pureT (.nx x_back25)))) (pureT (.nx x_back11))) fun s20 : PyData => (bindT (tupT (consT (pureT x_kinds1) (consT (bindT (consT (bindT (consT (lstV (bindT (bindT (lstV (bindT (consT (pureT x_row4) nilT) fun u36 => guardT (u36.length ≤ sizeLine) (pureT u36))) fun u37 => bindT (pureT x_many8) fun v38 => mulM u37 v38) fun u39 => bindT (pureT s20) fun v40 => catL u39 v40)) nilT) W__law_mixed) nilT) (un1 tupleM)) nilT))) fun u41 => pureT (.rt u41)))))))
  | _ => failT
def W__law_hard_even : List PyData → M PyData := onE 0 fun as => fnT (wb__law_hard_even as)
def wb_must_be_even : List PyData → M (Fl Unit Empty)
  | [a_load] => (ifR (notB (boolT (bindT (consT (pureT a_load) nilT) W_is_even))) (bindT (raiseT ⟨"Uneven", none⟩) endE) (pureT (.nx ())))
  | _ => failT
def W_must_be_even : List PyData → M PyData := onE 1 fun as => fnT (wb_must_be_even as)
def wb__law_any_even : List PyData → M (Fl Unit Empty)
  | [a_rows] => (bindT (ifT (boolT (bindT (pureT a_rows) fun u2 => bindT (pureT (.int 23)) fun v3 => gtM u2 v3)) (bindT (consT (pureT (.int 5)) nilT) W__law_draw) (pureT (.int 4))) fun x_way1 => (ifR (boolT (bindT (pureT x_way1) fun u4 => bindT (pureT (.int 0)) fun v5 => eqM u4 v5)) (bindT (bindT (bindT nilT W__law_great_even) fun u6 => pureT (.rt u6)) endE) (bindT (ifT (boolT (bindT (pureT x_way1) fun u7 => bindT (pureT (.int 1)) fun v8 => eqM u7 v8)) (bindT nilT W__law_hard_even) (bindT (consT (pureT a_rows) nilT) W__law_even)) fun u9 => pureT (.rt u9))))
  | _ => failT
def W__law_any_even : List PyData → M PyData := onE 1 fun as => fnT (wb__law_any_even as)
def wb__law_any_load : List PyData → M (Fl Unit Empty)
  | [a_rows] => (bindT (ifT (boolT (bindT (pureT a_rows) fun u2 => bindT (pureT (.int 23)) fun v3 => gtM u2 v3)) (bindT (consT (pureT (.int 4)) nilT) W__law_draw) (pureT (.int 3))) fun x_way1 => (ifR (boolT (bindT (pureT x_way1) fun u4 => bindT (pureT (.int 0)) fun v5 => eqM u4 v5)) (bindT (bindT (bindT nilT W__law_great_even) fun u6 => pureT (.rt u6)) endE) (ifR (boolT (bindT (pureT x_way1) fun u7 => bindT (pureT (.int 1)) fun v8 => eqM u7 v8)) (bindT (bindT (bindT nilT W__law_hard_even) fun u10 => bindT (optT (dec2 u10)) fun r9 => (bindT (tupT (consT (pureT r9.1) (consT (bindT (consT (lstV (lcF (bindT (pureT r9.2) itemsT) dec1 (fun p11 => (boolT (bindT (bindT (consT (pureT (.int 9)) nilT) W__law_draw) fun u12 => bindT (pureT (.int 0)) fun v13 => gtM u12 v13))) (fun p11 => (pureT p11)))) nilT) (un1 tupleM)) nilT))) fun u14 => pureT (.rt u14))) endE) (bindT (bindT (consT (pureT a_rows) nilT) W__law_load) fun u15 => pureT (.rt u15)))))
  | _ => failT
def W__law_any_load : List PyData → M PyData := onE 1 fun as => fnT (wb__law_any_load as)
def wb_halved : List PyData → M (Fl Unit Empty)
  | [a_load, a_order, a_signs] => (bindT (bindT (consT (pureT a_load) nilT) W_must_be_even) fun _ => (bindT (lcF (bindT (pureT a_order) fun u2 => bindT (pureT a_signs) fun v3 => zipI u2 v3) dec2 (fun p4 => (boolT (bindT (pureT p4.2) fun u5 => bindT (pureT (.int 1)) fun v6 => eqM u5 v6))) (fun p4 => (pureT p4.1))) fun x_onward1 => (bindT (lcF (bindT (pureT a_order) fun u8 => bindT (pureT a_signs) fun v9 => zipI u8 v9) dec2 (fun p10 => (boolT (bindT (pureT p10.2) fun u11 => bindT (bindT (pureT (.int 1)) negM) fun v12 => eqM u11 v12))) (fun p10 => (pureT p10.1))) fun x_back7 => (bindT (bindT (consT (lstV (bindT (pureT (PyData.list x_onward1)) fun u13 => bindT (bindT (pureT (PyData.list x_back7)) revL) fun v14 => catL u13 v14)) nilT) (un1 tupleM)) fun u15 => pureT (.rt u15)))))
  | _ => failT
def W_halved : List PyData → M PyData := onE 3 fun as => fnT (wb_halved as)
def wb__law_told : List PyData → M (Fl Unit Empty)
  | [a_load, a_order, a_signs] => (tryR isaL H__law_told (bindT (consT (pureT a_load) (consT (pureT a_order) (consT (pureT a_signs) nilT))) W_halved))
  | _ => failT
def W__law_told : List PyData → M PyData := onE 3 fun as => fnT (wb__law_told as)
def wb_law : M (Fl Unit Empty) := (onL (bindT (bindT (pureT (.int 10)) rangeI) fun u61 => forM' dec1 (fun p3 (s2 : Unit) => (bindT (ifT (boolT (bindT (bindT (pureT p3) fun u5 => bindT (pureT (.int 3)) fun v6 => modM u5 v6) fun u7 => bindT (pureT (.int 2)) fun v8 => ltM u7 v8)) (bindT (consT (bindT (consT (lstV (bindT (consT (pureT (.int 3)) (consT (pureT (.int 9)) (consT (pureT (.int 24)) nilT))) fun u9 => guardT (u9.length ≤ sizeLine) (pureT u9))) nilT) W__law_one) nilT) W__law_any_even) (bindT (consT (pureT (.int 24)) nilT) W__law_any_load)) fun x_load4 => (bindT (bindT (consT (bindT (pureT x_load4) fun u11 => bindT (pureT (.int 1)) fun v12 => ixM u11 v12) nilT) (un1 lenM)) fun x_many10 => (onL (bindT (bindT (pureT (.int 4)) rangeI) fun u59 => forM' dec1 (fun p15 (s14 : Unit) => (bindT (bindT (consT (bindT (consT (lstV (bindT (pureT x_many10) rgI)) nilT) W__law_mixed) nilT) (un1 tupleM)) fun x_order16 => (bindT (bindT (consT (lstV (lcF (bindT (pureT x_many10) rangeI) dec1 (fun p18 => (pureT true)) (fun p18 => (bindT (consT (lstV (bindT (consT (pureT (.int 1)) (consT (bindT (pureT (.int 1)) negM) nilT)) fun u19 => guardT (u19.length ≤ sizeLine) (pureT u19))) nilT) W__law_one)))) nilT) (un1 tupleM)) fun x_signs17 => (bindT (bindT (lstV (bindT (consT (pureT x_signs17) (consT (pureT x_signs17) (consT (bindT (tupT (consT (pureT (.int 1)) nilT)) fun u23 => bindT (pureT x_many10) fun v24 => mulM u23 v24) (consT (bindT (tupT (consT (bindT (pureT (.int 1)) negM) nilT)) fun u21 => bindT (pureT x_many10) fun v22 => mulM u21 v22) nilT)))) fun u25 => guardT (u25.length ≤ sizeLine) (pureT u25))) fun u26 => bindT (pureT p15) fun v27 => ixM u26 v27) fun x_signs20 => (bindT (bindT (consT (lstV (bindT (consT (pureT x_load4) (consT (pureT x_order16) (consT (pureT x_signs20) nilT))) fun u29 => guardT (u29.length ≤ sizeLine) (pureT u29))) nilT) (un1 reprM)) fun x_shown28 => (bindT (tupT (consT (bindT (pureT x_load4) fun u36 => bindT (pureT (.int 0)) fun v37 => ixM u36 v37) (consT (bindT (consT (lstV (lcF (bindT (pureT x_order16) itemsT) dec1 (fun p31 => (pureT true)) (fun p31 => (bindT (bindT (pureT x_load4) fun u32 => bindT (pureT (.int 1)) fun v33 => ixM u32 v33) fun u34 => bindT (pureT p31) fun v35 => ixM u34 v35)))) nilT) (un1 tupleM)) nilT))) fun x_moved30 => (bindT (bindT (bindT (consT (bindT (pureT x_load4) fun u41 => bindT (pureT (.int 0)) fun v42 => ixM u41 v42) (consT (bindT (pureT x_load4) fun u39 => bindT (pureT (.int 1)) fun v40 => ixM u39 v40) nilT)) W__law_sum) fun u47 => bindT (bindT (tupT (consT (pureT (.int 0)) nilT)) fun u45 => bindT (bindT (pureT x_load4) fun u43 => bindT (pureT (.int 0)) fun v44 => ixM u43 v44) fun v46 => mulM u45 v46) fun v48 => eqM u47 v48) fun x_is_even_v38 => (bindT (ifT (bindT (pureT x_is_even_v38) truM) (bindT (consT (pureT x_order16) (consT (pureT x_signs20) nilT)) W__law_halved) (pureT (.str "uneven"))) fun x_due49 => (ifR (boolT (bindT (bindT (consT (lstV (bindT (consT (bindT (consT (pureT x_load4) (consT (pureT x_order16) nilT)) W_along) (consT (bindT (consT (pureT x_load4) (consT (pureT x_order16) (consT (pureT x_signs20) nilT))) W__law_told) nilT)) fun u50 => guardT (u50.length ≤ sizeLine) (pureT u50))) nilT) (un1 reprM)) fun u52 => bindT (bindT (consT (lstV (bindT (consT (pureT x_moved30) (consT (pureT x_due49) nilT)) fun u51 => guardT (u51.length ≤ sizeLine) (pureT u51))) nilT) (un1 reprM)) fun v53 => neM u52 v53)) (bindT (bindT (pureT (.bool false)) fun u54 => pureT (.rt u54)) endE) (ifR (boolT (bindT (bindT (consT (lstV (bindT (consT (pureT x_load4) (consT (pureT x_order16) (consT (pureT x_signs20) nilT))) fun u55 => guardT (u55.length ≤ sizeLine) (pureT u55))) nilT) (un1 reprM)) fun u56 => bindT (pureT x_shown28) fun v57 => neM u56 v57)) (bindT (bindT (pureT (.bool false)) fun u58 => pureT (.rt u58)) endE) (pureT (.nx ())))))))))))) u59 ()) fun s13 => (pureT (.nx ())))))) u61 ()) fun s1 => (bindT (pureT (.bool true)) fun u60 => pureT (.rt u60)))
end Nk
set_option Elab.async false
set_option linter.all false
set_option maxRecDepth 100000
set_option maxHeartbeats 4000000
namespace Nk
open PySem L2
def topS (i : Nat) : Stmt := PySem.Challenge.pw_nearnought_k18_rows_along_orders_and_hal.main.body.getD i (.Pass ⟨0, 0, 0, 0⟩)
abbrev Nadded : List Str := ["one", "other", "item", "more"]
abbrev sadded : Stmt := topS 5
theorem scadded : FnScope Nadded ["one", "other"] (defScope sadded) := ⟨rfl, rfl, rfl, by decide +kernel, rfl, by decide +kernel, by decide +kernel⟩
abbrev Nalong : List Str := ["load", "order", "kinds", "rows", "index"]
abbrev salong : Stmt := topS 10
theorem scalong : FnScope Nalong ["load", "order"] (defScope salong) := ⟨rfl, rfl, rfl, by decide +kernel, rfl, by decide +kernel, by decide +kernel⟩
abbrev N_law_sum : List Str := ["kinds", "rows", "k", "row"]
abbrev s_law_sum : Stmt := topS 17
theorem sc_law_sum : FnScope N_law_sum ["kinds", "rows"] (defScope s_law_sum) := ⟨rfl, rfl, rfl, by decide +kernel, rfl, by decide +kernel, by decide +kernel⟩
abbrev N_law_halved : List Str := ["order", "signs", "first", "last", "index", "sign"]
abbrev s_law_halved : Stmt := topS 26
theorem sc_law_halved : FnScope N_law_halved ["order", "signs"] (defScope s_law_halved) := ⟨rfl, rfl, rfl, by decide +kernel, rfl, by decide +kernel, by decide +kernel⟩
abbrev Nsums : List Str := ["kinds", "rows", "total", "found", "row"]
abbrev ssums : Stmt := topS 6
theorem scsums : FnScope Nsums ["kinds", "rows"] (defScope ssums) := ⟨rfl, rfl, rfl, by decide +kernel, rfl, by decide +kernel, by decide +kernel⟩
abbrev N_law_one : List Str := ["deck", "items"]
abbrev s_law_one : Stmt := topS 15
theorem sc_law_one : FnScope N_law_one ["deck", "items"] (defScope s_law_one) := ⟨rfl, rfl, rfl, by decide +kernel, rfl, by decide +kernel, by decide +kernel⟩
abbrev N_law_mixed : List Str := ["deck", "items", "rest", "found", "turn"]
abbrev s_law_mixed : Stmt := topS 16
theorem sc_law_mixed : FnScope N_law_mixed ["deck", "items"] (defScope s_law_mixed) := ⟨rfl, rfl, rfl, by decide +kernel, rfl, by decide +kernel, by decide +kernel⟩
abbrev N_law_row : List Str := ["deck", "kinds", "most", "k"]
abbrev s_law_row : Stmt := topS 18
theorem sc_law_row : FnScope N_law_row ["deck", "kinds", "most"] (defScope s_law_row) := ⟨rfl, rfl, rfl, by decide +kernel, rfl, by decide +kernel, by decide +kernel⟩
abbrev Nis_even : List Str := ["load", "kinds", "rows"]
abbrev sis_even : Stmt := topS 7
theorem scis_even : FnScope Nis_even ["load"] (defScope sis_even) := ⟨rfl, rfl, rfl, by decide +kernel, rfl, by decide +kernel, by decide +kernel⟩
abbrev N_law_load : List Str := ["deck", "rows", "kinds", "most", "k"]
abbrev s_law_load : Stmt := topS 19
theorem sc_law_load : FnScope N_law_load ["deck", "rows"] (defScope s_law_load) := ⟨rfl, rfl, rfl, by decide +kernel, rfl, by decide +kernel, by decide +kernel⟩
abbrev N_law_even : List Str := ["deck", "rows", "kinds", "most", "found", "k", "row", "item"]
abbrev s_law_even : Stmt := topS 20
theorem sc_law_even : FnScope N_law_even ["deck", "rows"] (defScope s_law_even) := ⟨rfl, rfl, rfl, by decide +kernel, rfl, by decide +kernel, by decide +kernel⟩
abbrev N_law_great_even : List Str := ["deck", "kinds", "found", "k", "row", "own", "item"]
abbrev s_law_great_even : Stmt := topS 21
theorem sc_law_great_even : FnScope N_law_great_even ["deck"] (defScope s_law_great_even) := ⟨rfl, rfl, rfl, by decide +kernel, rfl, by decide +kernel, by decide +kernel⟩
abbrev N_law_hard_even : List Str := ["deck", "kinds", "row", "many", "back", "first", "k", "item", "own"]
abbrev s_law_hard_even : Stmt := topS 22
theorem sc_law_hard_even : FnScope N_law_hard_even ["deck"] (defScope s_law_hard_even) := ⟨rfl, rfl, rfl, by decide +kernel, rfl, by decide +kernel, by decide +kernel⟩
abbrev Nmust_be_even : List Str := ["load"]
abbrev smust_be_even : Stmt := topS 8
theorem scmust_be_even : FnScope Nmust_be_even ["load"] (defScope smust_be_even) := ⟨rfl, rfl, rfl, by decide +kernel, rfl, by decide +kernel, by decide +kernel⟩
abbrev N_law_any_even : List Str := ["deck", "rows", "way"]
abbrev s_law_any_even : Stmt := topS 23
theorem sc_law_any_even : FnScope N_law_any_even ["deck", "rows"] (defScope s_law_any_even) := ⟨rfl, rfl, rfl, by decide +kernel, rfl, by decide +kernel, by decide +kernel⟩
abbrev N_law_any_load : List Str := ["deck", "rows", "way", "kinds", "rest", "row"]
abbrev s_law_any_load : Stmt := topS 24
theorem sc_law_any_load : FnScope N_law_any_load ["deck", "rows"] (defScope s_law_any_load) := ⟨rfl, rfl, rfl, by decide +kernel, rfl, by decide +kernel, by decide +kernel⟩
abbrev Nhalved : List Str := ["load", "order", "signs", "onward", "back", "index", "sign"]
abbrev shalved : Stmt := topS 11
theorem schalved : FnScope Nhalved ["load", "order", "signs"] (defScope shalved) := ⟨rfl, rfl, rfl, by decide +kernel, rfl, by decide +kernel, by decide +kernel⟩
abbrev N_law_told : List Str := ["load", "order", "signs"]
abbrev s_law_told : Stmt := topS 25
theorem sc_law_told : FnScope N_law_told ["load", "order", "signs"] (defScope s_law_told) := ⟨rfl, rfl, rfl, by decide +kernel, rfl, by decide +kernel, by decide +kernel⟩
abbrev N_law_deck : List Str := ["script", "cells", "cell"]
abbrev s_law_deck : Stmt := topS 13
theorem sc_law_deck : FnScope N_law_deck ["script"] (defScope s_law_deck) := ⟨rfl, rfl, rfl, by decide +kernel, rfl, by decide +kernel, by decide +kernel⟩
abbrev N_law_draw : List Str := ["deck", "many", "rest", "cell", "mixed"]
abbrev s_law_draw : Stmt := topS 14
theorem sc_law_draw : FnScope N_law_draw ["deck", "many"] (defScope s_law_draw) := ⟨rfl, rfl, rfl, by decide +kernel, rfl, by decide +kernel, by decide +kernel⟩
abbrev Nlaw : List Str := ["script", "deck", "turn", "load", "many", "k", "order", "signs", "shown", "moved", "is_even_v", "due", "own", "index"]
abbrev slaw : Stmt := topS 27
theorem sclaw : FnScope Nlaw ["script"] (defScope slaw) := ⟨rfl, rfl, rfl, by decide +kernel, rfl, by decide +kernel, by decide +kernel⟩
section
variable {P : Program} {w : World} {K : PySem.W.Frag} {mg : Str → Option Value} {base : Heap}
theorem ixN_nat {n j : Nat} (h : j < n) : ixN n (j : Int) = some j := by
  unfold ixN
  rw [if_pos (by omega), if_pos (by omega)]
  simp
theorem Deck.set0 {D H : Hp} {a l0 l1 : Addr} {bs cs : List Int} {n : Int} (d : Deck D H a) (ha : H a = some (.lst [.ref l0, .ref l1, .int n])) (h0 : H l0 = some (.lst (bs.map V.int))) (bs' : List Int) (n0 : D l0 = none) (n1 : D l1 = none) (ne : l0 ≠ l1) (a0 : a ≠ l0)
    (h1 : H l1 = some (.lst (cs.map V.int))) (hc : cs ≠ []) (hl : cs.length ≤ 1000) : Deck D (upd H l0 (.lst (bs'.map V.int))) a ∧ upd H l0 (.lst (bs'.map V.int)) l0 = some (.lst (bs'.map V.int)) ∧ upd H l0 (.lst (bs'.map V.int)) a = some (.lst [.ref l0, .ref l1, .int n]) := by
  have ea : upd H l0 (.lst (bs'.map V.int)) a = some (.lst [.ref l0, .ref l1, .int n]) := by rw [upd_ne a0]; exact ha
  refine ⟨⟨fun b o e => ?_, d.na, l0, l1, bs', cs, n, n0, n1, ne, ea, upd_same, by rw [upd_ne ne.symm]; exact h1, hc, hl⟩, upd_same, ea⟩
  rw [upd_ne (fun q => by subst q; rw [n0] at e; cases e)]
  exact d.sub _ _ e
theorem seqIndex_0 {n : Nat} (h : 0 < n) : seqIndex? 0 n = some 0 := by
  unfold seqIndex?
  simp
  omega
theorem Deck.setn {D H : Hp} {a l0 l1 : Addr} {bs cs : List Int} {n n' : Int} (d : Deck D H a) (ha : H a = some (.lst [.ref l0, .ref l1, .int n])) (h0 : H l0 = some (.lst (bs.map V.int))) (n0 : D l0 = none) (n1 : D l1 = none) (ne : l0 ≠ l1) (a0 : a ≠ l0) (a1 : a ≠ l1)
    (h1 : H l1 = some (.lst (cs.map V.int))) (hc : cs ≠ []) (hl : cs.length ≤ 1000) : Deck D (upd H a (.lst [.ref l0, .ref l1, .int n'])) a ∧ upd H a (.lst [.ref l0, .ref l1, .int n']) a = some (.lst [.ref l0, .ref l1, .int n']) ∧ upd H a (.lst [.ref l0, .ref l1, .int n']) l1 = some (.lst (cs.map V.int)) := by
  have e1 : upd H a (.lst [.ref l0, .ref l1, .int n']) l1 = some (.lst (cs.map V.int)) := by rw [upd_ne a1.symm]; exact h1
  refine ⟨⟨fun b o e => ?_, d.na, l0, l1, bs, cs, n', n0, n1, ne, upd_same, by rw [upd_ne a0.symm]; exact h0, e1, hc, hl⟩, upd_same, e1⟩
  rw [upd_ne (fun q => by subst q; rw [d.na] at e; cases e)]
  exact d.sub _ _ e
theorem ok_draw {f : Addr} {fd : FuncData} (F : Fun K "_law_draw" "_law_draw" s_law_draw f fd) (B : Bl mg) : FnOk P w K mg base CX0 1 f fd ["deck", "many"] spDraw := by
  refine F.ok sc_law_draw (fun vs H Q E h => ?_) (fun cdv A outer s H vs Q E hr h => ?_)
  · obtain ⟨D, a, m, rfl, _⟩ := h
    rfl
  · obtain ⟨D, a, m, rfl, dk, m0, m1, k⟩ := h
    have nd := sc_law_draw.nd
    refine ⟨_, (pss_cons (ps_if (pt_cmpR (kneD K hr.units) (pe_ix (kixL K) (pv 0) pe_int (fun _ _ => rfl)) (pe_lst pa_nil) (nomark _)) (pss_cons (ps_set (i := 2) nd rfl (Or.inl rfl) (pe_ix (kixL K) (pe_ix (kixL K) (pv 0) pe_int (fun _ _ => rfl)) pe_int (fun _ _ => rfl))) (pss_cons (ps_asg (pe_op op_fdivW (pv 2) (pv 1)) (pg_sub (pe_ix (kixL K) (pv 0) pe_int (fun _ _ => rfl)) pe_int set_list)) (pss_cons (ps_if (pt_cmpR op_eq (pe_ix (kixL K) (pe_ix (kixL K) (pv 0) pe_int (fun _ _ => rfl)) pe_int (fun _ _ => rfl)) pe_int (nomark _)) (pss_one (ps_expr (pe_bm PySem.F.plainAttrs_list PySem.F.slot_list_pop PySem.F.type_list_pop mt_popAt (pe_ix (kixL K) (pv 0) pe_int (fun _ _ => rfl)) (pa_cons pe_int pa_nil)))) pss_nil) (pss_one (ps_ret (pe_op op_mod (pe_callTy call_int1 (by rfl) B.int_ (by decide +kernel) (pa_cons (pv 2) pa_nil)) (pv 1))))))) pss_nil) (pss_cons (ps_asg (pe_op op_add (pe_ix (kixL K) (pv 0) pe_int (fun _ _ => rfl)) pe_int) (pg_sub (pv 0) pe_int set_list)) (pss_cons (ps_set (i := 3) nd rfl (Or.inl rfl) (pe_ix (kixL K) (pe_ix (kixL K) (pv 0) pe_int (fun _ _ => rfl)) (pe_op op_mod (pe_callTy call_int1 (by rfl) B.int_ (by decide +kernel) (pa_cons (pe_ix (kixL K) (pv 0) pe_int (fun _ _ => rfl)) pa_nil)) (pe_callB (klen K) (by rfl) B.len_ PySem.boot_len (pa_cons (pe_ix (kixL K) (pv 0) pe_int (fun _ _ => rfl)) pa_nil))) (fun _ _ => rfl))) (pss_cons (ps_set (i := 4) nd rfl (Or.inl rfl) (pe_op op_mod (pe_callTy call_int1 (by rfl) B.int_ (by decide +kernel) (pa_cons (pe_op op_add (pe_op op_mod (pe_callTy call_int1 (by rfl) B.int_ (by decide +kernel) (pa_cons (pv 3) pa_nil)) pe_int) (pe_op op_mul pe_int (pe_ix (kixL K) (pv 0) pe_int (fun _ _ => rfl)))) pa_nil)) pe_int)) (pss_cons (ps_set (i := 4) nd rfl (Or.inl rfl) (pe_op op_mod (pe_callTy call_int1 (by rfl) B.int_ (by decide +kernel) (pa_cons (pe_op op_add (pe_op op_mul (pv 4) (pv 4)) (pe_op op_mul pe_int (pe_ix (kixL K) (pv 0) pe_int (fun _ _ => rfl)))) pa_nil)) pe_int)) (pss_one (ps_ret (pe_op op_mod (pe_op op_fdivW (pe_op op_mod (pe_callTy call_int1 (by rfl) B.int_ (by decide +kernel) (pa_cons (pe_op op_mul (pv 4) (pv 4)) pa_nil)) pe_int) pe_int) (pv 1))))))))), ?_⟩
    obtain ⟨sD, na, l0, l1, bs, cs, n, n0, n1, ne, ha, h0, h1, hc, hl⟩ := id dk
    have a0 : a ≠ l0 := fun q => by
      subst q
      rw [h0] at ha
      cases bs with
      | nil => cases ha
      | cons b bs => cases ha
    have a1 : a ≠ l1 := fun q => by
      subst q
      rw [h1] at ha
      cases cs with
      | nil => cases ha
      | cons b bs => cases ha
    refine ⟨_, rfl, a, _, _, _, rfl, rfl, SqL.of ha, atI_0 rfl, Nat.zero_le _, fun p hp => ?_⟩
    have p0 : l0 ≠ p := ne_of_none h0 hp
    have pa : a ≠ p := ne_of_none ha hp
    have p1 : l1 ≠ p := ne_of_none h1 hp
    have dk1 : Deck D (upd H p (.lst [])) a := (dk.new hp).less (same_new (dk.free hp))
    have ha1 : upd H p (.lst []) a = some (.lst [.ref l0, .ref l1, .int n]) := by rw [upd_ne pa]; exact ha
    have h01 : upd H p (.lst []) l0 = some (.lst (bs.map V.int)) := by rw [upd_ne p0]; exact h0
    have h11 : upd H p (.lst []) l1 = some (.lst (cs.map V.int)) := by rw [upd_ne p1]; exact h1
    generalize hH : upd H p (.lst []) = H1 at dk1 ha1 h01 h11 ⊢
    refine ne_nilL h01 (DqAll.ints bs) (lay_ints bs) (by rw [depth_ints]; decide) (by rw [← hH]; exact upd_same) ⟨_, rfl, ?_⟩
    cases bs with
    | cons b bs =>
      refine iteT ?_
      -- rest = deck[0][0]; deck[0][0] = rest // many
      refine ⟨_, rfl, a, _, _, _, rfl, rfl, SqL.of ha1, atI_0 rfl, l0, _, _, _, rfl, rfl, SqL.of h01, atI_0 rfl, ?_⟩
      refine ⟨_, rfl, _, rfl, _, _, rfl, rfl, wide_div (b := 64) m0 (by omega) (by decide) (by decide), ?_⟩
      refine ⟨_, rfl, a, _, _, _, rfl, rfl, SqL.of ha1, atI_0 rfl, l0, _, 0, 0, rfl, rfl, h01, ixN_nat (j := 0) (by simp), ?_⟩
      obtain ⟨dk2, h02, ha2⟩ := dk1.set0 ha1 h01 (b / m :: bs) n0 n1 ne a0 h11 hc hl
      rw [show (List.map V.int (b :: bs)).set 0 (V.int (b / m)) = (b / m :: bs).map V.int from rfl]
      generalize hH2 : upd H1 l0 (.lst ((b / m :: bs).map V.int)) = H2 at dk2 h02 ha2
      refine ⟨_, rfl, a, _, _, _, rfl, rfl, SqL.of ha2, atI_0 rfl, l0, _, _, _, rfl, rfl, SqL.of h02, atI_0 rfl, rfl, _, rfl, ?_⟩
      refine ite2 (fun _ => ?_) (fun _ => ?_)
      · refine ⟨_, rfl, a, _, _, _, rfl, rfl, SqL.of ha2, atI_0 rfl, .inl ⟨rfl, _, SqL.of h02⟩, l0, _, 0, 0, _, rfl, rfl, h02, by decide, by decide, seqIndex_0 (by simp), rfl, ?_⟩
        obtain ⟨dk3, _, _⟩ := dk2.set0 ha2 h02 bs n0 n1 ne a0 (by rw [← hH2, upd_ne ne.symm]; exact h11) hc hl
        refine ⟨_, rfl, .inl ⟨_, rfl, _, rfl, _, _, rfl, rfl, m0, k _ _ dk3 (Int.emod_nonneg _ (by omega)) (Int.emod_lt_of_pos _ m0)⟩⟩
      · refine ⟨_, rfl, .inl ⟨_, rfl, _, rfl, _, _, rfl, rfl, m0, k _ _ dk2 (Int.emod_nonneg _ (by omega)) (Int.emod_lt_of_pos _ m0)⟩⟩
    | nil =>
      refine iteF ?_
      refine ⟨_, rfl, a, _, _, _, rfl, rfl, SqL.of ha1, atI_2 rfl, _, _, rfl, rfl, _, rfl, a, _, 2, 2, rfl, rfl, ha1, ixN_nat (j := 2) (Nat.lt_succ_self 2), ?_⟩
      obtain ⟨dk2, ha2, h12⟩ := dk1.setn (n' := n + 1) ha1 h01 n0 n1 ne a0 a1 h11 hc hl
      rw [show ([V.ref l0, V.ref l1, V.int n] : List V).set 2 (V.int (n + 1)) = [V.ref l0, V.ref l1, V.int (n + 1)] from rfl]
      generalize upd H1 a (.lst [V.ref l0, V.ref l1, V.int (n + 1)]) = H2 at dk2 ha2 h12 ⊢
      have c0 : (0 : Int) < ((cs.map V.int).length : Nat) := by
        rw [List.length_map]
        have := List.length_pos_iff.mpr hc
        omega
      obtain ⟨x, hx, hxm, _⟩ := atI_in (xs := cs.map V.int) (Int.emod_nonneg (n + 1) (show (((cs.map V.int).length : Nat) : Int) ≠ 0 by omega)) (Int.emod_lt_of_pos _ c0)
      obtain ⟨c, _, rfl⟩ := List.mem_map.mp hxm
      -- cell = deck[1][int(deck[2]) % len(deck[1])]
      refine ⟨_, rfl, a, _, _, _, rfl, rfl, SqL.of ha2, atI_1 rfl, _, rfl, a, _, _, _, rfl, rfl, SqL.of ha2, atI_2 rfl, .inl ⟨_, rfl, _, rfl, a, _, _, _, rfl, rfl, SqL.of ha2, atI_1 rfl, l1, _, rfl, .inl (SqL.of h12), _, _, rfl, rfl, c0, l1, _, _, _, rfl, rfl, SqL.of h12, hx, ?_⟩⟩
      -- mixed
      refine ⟨_, rfl, .inl ⟨_, rfl, _, _, rfl, rfl, (by show (0 : Int) < 4294966297; decide), _, rfl, a, _, _, _, rfl, rfl, SqL.of ha2, atI_2 rfl, _, _, rfl, rfl, .inl ⟨by decide, by decide⟩, _, _, rfl, rfl, .inl ⟨_, rfl, _, _, rfl, rfl, (by show (0 : Int) < 4294966297; decide), ?_⟩⟩⟩
      generalize hu : (c % 4294966297 + 1640531527 * (n + 1)) % 4294966297 = u
      have u0 : 0 ≤ u := by omega
      have u1 : u < 4294966297 := by omega
      refine ⟨_, rfl, _, rfl, _, _, rfl, rfl, .inl ⟨by omega, by omega⟩, _, rfl, a, _, _, _, rfl, rfl, SqL.of ha2, atI_2 rfl, _, _, rfl, rfl, .inl ⟨by decide, by decide⟩, _, _, rfl, rfl, .inl ⟨_, rfl, _, _, rfl, rfl, (by show (0 : Int) < 4294966237; decide), ?_⟩⟩
      generalize hv : (u * u + 122949823 * (n + 1)) % 4294966237 = v
      have v0 : 0 ≤ v := by omega
      have v1 : v < 4294966237 := by omega
      refine ⟨_, rfl, _, rfl, _, _, rfl, rfl, .inl ⟨by omega, by omega⟩, .inl ⟨_, rfl, _, _, rfl, rfl, (by show (0 : Int) < 4294966187; decide), _, _, rfl, rfl, wide_div (b := 11) (by decide) (by decide) (by decide) (by decide), _, rfl, _, _, rfl, rfl, m0, ?_⟩⟩
      exact k _ _ dk2 (Int.emod_nonneg _ (by omega)) (Int.emod_lt_of_pos _ m0)
theorem ok_deck {f : Addr} {fd : FuncData} (F : Fun K "_law_deck" "_law_deck" s_law_deck f fd) (B : Bl mg) : FnOk P w K mg base CX0 1 f fd ["script"] (spDeck K) := by
  refine F.ok sc_law_deck (fun vs H Q E h => ?_) (fun cdv A outer s H vs Q E hr h => ?_)
  · obtain ⟨a, ns, rfl, _⟩ := h
    rfl
  · obtain ⟨a, ns, rfl, hS, hl, k⟩ := h
    have nd := sc_law_deck.nd
    refine ⟨_, (pss_cons (ps_setLc (i := 1) (own := [("cell", 2)]) rfl nd rfl rfl (sw_true rfl rfl rfl (by decide +kernel)) (kpiL K (pe_slice (kslL K) (pv 0) po_none (po_some pe_int))) (blkOk_by (N := N_law_deck) (sc := defScope s_law_deck) (by decide +kernel)) (fun _ _ _ _ _ => (pg_name (i := 2) nd rfl (Or.inl rfl))) (fun _ _ _ _ _ => pts_nil) (fun _ _ _ _ _ => (pe_callB call_abs (by rfl) B.abs_ (by decide +kernel) (pa_cons (pv 2) pa_nil)))) (pss_one (ps_ret (pe_lst (pa_cons (pe_lc (own := [("cell", 2)]) rfl nd (kpiL K (pv 1)) (blkOk_by (N := N_law_deck) (sc := defScope s_law_deck) (by decide +kernel)) (fun _ _ _ _ _ => (pg_name (i := 2) nd rfl (Or.inl rfl))) (fun _ _ _ _ _ => (pts_one (pt_cmpR op_ge (pv 2) (pe_op op_pow pe_int pe_int) (nomark _)))) (fun _ _ _ _ _ => (pv 2))) (pa_cons (pe_op op_cat (pv 1) (pe_lst (pa_cons (pe_op op_add pe_int (pe_callB (klen K) (by rfl) B.len_ PySem.boot_len (pa_cons (pv 1) pa_nil))) pa_nil))) (pa_cons pe_int pa_nil))))))), ?_⟩
    refine ⟨_, rfl, 63, rfl, a, _, rfl, hS, fun p hp => ?_⟩
    obtain ⟨ms, hms, hml⟩ : ∃ ms : List Int, cutV (ns.map V.int) none (some 63) = ms.map V.int ∧ ms.length ≤ 63 := by
      refine ⟨(ns.drop (HT.sIx (ns.map V.int).length 0 none)).take (HT.sIx (ns.map V.int).length (ns.map V.int).length (some 63) - HT.sIx (ns.map V.int).length 0 none), ?_, ?_⟩
      · unfold cutV
        rw [← List.map_drop, ← List.map_take]
      · rw [List.length_take, List.length_drop]
        omega
    rw [hms]
    have s1 : Same H (upd H p (.lst (ms.map V.int))) := same_new hp
    have e1 : upd H p (.lst (ms.map V.int)) p = some (.lst (ms.map V.int)) := upd_same
    generalize upd H p (.lst (ms.map V.int)) = H1 at s1 e1 ⊢
    refine ⟨p, rfl, ⟨_, SqL.of e1⟩, fun C hC => lc_list (K := K) (a := p) (xs := ms.map V.int) (fun i H' => ∃ acc : List Int, Same H1 H' ∧ H' C = some (.lst (acc.map V.int)) ∧ acc.length = i) ⟨[], same_new hC, upd_same, rfl⟩ (fun i H' _ ⟨_, s2, _⟩ => SqL.of (s2 _ _ e1)) ?_ ?_⟩
    · rintro i x H' hx ⟨acc, s2, eC, ha⟩
      obtain ⟨c, _, rfl⟩ := List.mem_map.mp (List.mem_of_getElem? hx)
      have hi : i < ms.length := by
        have := (List.getElem?_eq_some_iff.mp hx).1
        rwa [List.length_map] at this
      refine ⟨rfl, _, rfl, _, rfl, _, eC, small1000 (by rw [List.length_map]; omega), acc ++ [if c < 0 then -c else c], fun b o e => ?_, ?_, by rw [List.length_append, ha]; rfl⟩
      · rw [upd_ne (fun z => by subst z; rw [hC] at e; cases e)]
        exact s2 _ _ e
      · rw [upd_same, List.map_append]
        rfl
    rintro H2 ⟨cs, s2, eC, hcs⟩
    rw [List.length_map] at hcs
    refine ⟨_, rfl, C, rfl, ⟨_, SqL.of eC⟩, fun G hG => lc_list (K := K) (a := C) (xs := cs.map V.int) (fun i H' => ∃ acc : List Int, Same H2 H' ∧ H' G = some (.lst (acc.map V.int)) ∧ acc.length ≤ i) ⟨[], same_new hG, upd_same, Nat.le_refl _⟩ (fun i H' _ ⟨_, s3, _⟩ => SqL.of (s3 _ _ eC)) ?_ ?_⟩
    · rintro i x H' hx ⟨acc, s3, eG, ha⟩
      obtain ⟨c, _, rfl⟩ := List.mem_map.mp (List.mem_of_getElem? hx)
      have hi : i < cs.length := by
        have := (List.getElem?_eq_some_iff.mp hx).1
        rwa [List.length_map] at this
      refine ⟨rfl, _, rfl, _, _, rfl, rfl, ⟨by decide, by decide, by decide⟩, _, _, rfl, rfl, _, rfl, ?_⟩
      refine ite2 (fun _ => ?_) (fun _ => ?_)
      · refine ⟨_, rfl, _, eG, small1000 (by rw [List.length_map]; omega), acc ++ [c], fun b o e => ?_, ?_, by rw [List.length_append]; exact Nat.succ_le_succ ha⟩
        · rw [upd_ne (fun z => by subst z; rw [hG] at e; cases e)]
          exact s3 _ _ e
        · rw [upd_same, List.map_append]
          rfl
      · exact ⟨acc, s3, eG, Nat.le_succ_of_le ha⟩
    rintro H3 ⟨bs, s3, eG, hbs⟩
    have nCG : C ≠ G := ne_of_none eC hG
    refine ⟨_, rfl, _, rfl, C, _, rfl, .inl (SqL.of (s3 _ _ eC)), _, _, rfl, rfl, (by show 1 ≤ sizeLine; decide), fun p2 hp2 => ?_⟩
    refine ⟨_, _, _, _, rfl, rfl, by rw [upd_ne (ne_of_none (s3 _ _ eC) hp2)]; exact s3 _ _ eC, upd_same, Nat.le_of_lt (small1000 (by rw [List.length_map]; show cs.length + 1 ≤ 1000; omega)), fun p3 hp3 => ?_⟩
    refine ⟨(by show 3 ≤ sizeLine; decide), fun p4 hp4 => ?_⟩
    have np32 : p2 ≠ p3 := ne_of_none upd_same hp3
    have np43 : p3 ≠ p4 := ne_of_none upd_same hp4
    have nG2 : G ≠ p2 := ne_of_none eG hp2
    have hp3' : H3 p3 = none := by rwa [upd_ne np32.symm] at hp3
    have nG3 : G ≠ p3 := ne_of_none eG hp3'
    have hp4' : H3 p4 = none := by
      rw [upd_ne np43.symm] at hp4
      by_cases z : p4 = p2
      · rw [z, upd_same] at hp4; cases hp4
      · rwa [upd_ne z] at hp4
    have nG4 : G ≠ p4 := ne_of_none eG hp4'
    have sH : Same H H3 := (s1.trans s2).trans s3
    have free2 : H1 C = none := hC
    refine k _ p4 (fun b o e => ?_) ⟨fun b o e => ?_, sH.free hp4', G, p3, bs, cs ++ [(11247 : Int) + (((cs.map V.int).length : Nat) : Int)], 0, s1.free (s2.free hG), sH.free hp3', nG3, upd_same, ?_, ?_, by simp, by rw [List.length_append]; show cs.length + 1 ≤ 1000; omega⟩
    · have q := sH _ _ e
      rw [upd_ne (ne_of_none q hp4'), upd_ne (ne_of_none q hp3'), upd_ne (ne_of_none q hp2)]
      exact q
    · have q := sH _ _ e
      rw [upd_ne (ne_of_none q hp4'), upd_ne (ne_of_none q hp3'), upd_ne (ne_of_none q hp2)]
      exact q
    · rw [upd_ne nG4, upd_ne nG3, upd_ne nG2]
      exact eG
    · rw [upd_ne np43, upd_same, List.map_append]
      rfl
end
end Nk
set_option Elab.async false
set_option linter.all false
set_option maxRecDepth 100000
set_option maxHeartbeats 4000000
namespace Nk
open PySem L2
section
variable {P : Program} {wd : World} {K : PySem.W.Frag} {mg : Str → Option Value} {base : Heap}
theorem D__law_draw {f : Addr} {fd : FuncData} (F : Fun K "_law_draw" "_law_draw" s_law_draw f fd) (B : Bl mg) (m : mg "_law_draw" = some (.ref f)) (kp : PySem.W.keepIn K (.ref f) = true) (b : Binds K fd ["deck", "many"] []) : Dw P wd K mg base 1 "_law_draw" s_law_draw ["deck", "many"] true W__law_draw :=
  ⟨⟨f, fd, (Nk.FnOk.cx (ok_draw F B)).imp draw_imp, m, kp, b, F⟩, mono_un1 mono_drawM⟩
theorem D_added {f : Addr} {fd : FuncData} (F : Fun K "added" "added" sadded f fd) (m : mg "added" = some (.ref f)) (kp : PySem.W.keepIn K (.ref f) = true) (b : Binds K fd ["one", "other"] []) (h_tuple : mg "tuple" = none) (h_zip : mg "zip" = none) : Dw P wd K mg base 1 "added" sadded ["one", "other"] false W_added := by
  have body : ∀ (cdv : Value) (A : Around) (outer : List PySem.Env) (s : Shared) (H : Hp) (E : XK), Room 0 (A.deeper (PyProof.Rows.envOfC "added" (defScope sadded) s.heap.objs.size f cdv)) → ∀ as : List PyData, as.length + (if false then 1 else 0) = (["one", "other"] : List Str).length →
      PBk' K (cxOf (L2.CX P wd) P wd K mg base Nadded "added" (defScope sadded) f cdv A outer s H E) (ctOf Nadded false E) (argE (if false then 1 else 0) as) (defBody sadded) (fun _ : Unit => []) (fun r : Empty => nomatch r) (wb_added as) := by
    intro cdv A outer s H E hr as hl
    have nd := scadded.nd
    match as, hl with
    | [a_one, a_other], _ => exact (PBk'.castG (Δ := [(0, .dat a_one), (1, .dat a_other)]) (pbk_ret (px_callTy (ktuple K) ok_tupleM (pxs_cons (PXf.px (pfw_lc (own := [("item", 2), ("more", 3)]) rfl nd (PItF.it (it_zip (pxv 0 rfl) (pxv 1 rfl) (by rfl) h_zip)) (blkOk_by (N := Nadded) (sc := defScope sadded) (by decide +kernel)) (fun _ _ _ _ _ => (pg_tup rfl (pgs_cons (pg_name (i := 2) nd rfl (Or.inl rfl)) (pgs_cons (pg_name (i := 3) nd rfl (Or.inl rfl)) pgs_nil)))) (tw2 (ltb rfl) (ltb rfl) (by decide)) rfl rfl (fun p3 _ _ _ _ _ => pxt_nil) (fun p3 _ _ _ _ _ => (px_op op_addA ok_addM (pxv 2 rfl) (pxv 3 rfl))))) pxs_nil) (by rfl) h_tuple (by decide +kernel))) rfl)
  exact ⟨⟨f, fd, ok_W false wb_added F scadded (by decide) (by decide) body, m, kp, b, F⟩, mono_of_body (ps := ["one", "other"]) false wb_added (by decide) body (by decide)⟩
theorem D_along {f : Addr} {fd : FuncData} (F : Fun K "along" "along" salong f fd) (m : mg "along" = some (.ref f)) (kp : PySem.W.keepIn K (.ref f) = true) (b : Binds K fd ["load", "order"] []) (h_tuple : mg "tuple" = none) : Dw P wd K mg base 1 "along" salong ["load", "order"] false W_along := by
  have body : ∀ (cdv : Value) (A : Around) (outer : List PySem.Env) (s : Shared) (H : Hp) (E : XK), Room 0 (A.deeper (PyProof.Rows.envOfC "along" (defScope salong) s.heap.objs.size f cdv)) → ∀ as : List PyData, as.length + (if false then 1 else 0) = (["load", "order"] : List Str).length →
      PBk' K (cxOf (L2.CX P wd) P wd K mg base Nalong "along" (defScope salong) f cdv A outer s H E) (ctOf Nalong false E) (argE (if false then 1 else 0) as) (defBody salong) (fun _ : Unit => []) (fun r : Empty => nomatch r) (wb_along as) := by
    intro cdv A outer s H E hr as hl
    have nd := scalong.nd
    match as, hl with
    | [a_load, a_order], _ => exact (PBk'.castG (Δ := [(0, .dat a_load), (1, .dat a_order)]) (pbk_two (i := 2) (j := 3) nd rfl rfl (Or.inl rfl) (Or.inr rfl) (ltb rfl) (ltb rfl) (by decide) rfl rfl rfl (pxv 0 rfl) (fun r1 => (PBk'.castG (Δ := [(0, .dat a_load), (1, .dat a_order), (2, .dat r1.1), (3, .dat r1.2)]) (pbk_ret (px_tup (pxs_cons (pxv 2 rfl) (pxs_cons (px_callTy (ktuple K) ok_tupleM (pxs_cons (PXf.px (pfw_lc (own := [("index", 4)]) rfl nd (PItF.it (it_seq (pxv 1 rfl))) (blkOk_by (N := Nalong) (sc := defScope salong) (by decide +kernel)) (fun _ _ _ _ _ => (pg_name (i := 4) nd rfl (Or.inl rfl))) (tw1 (ltb rfl)) rfl rfl (fun p3 _ _ _ _ _ => pxt_nil) (fun p3 _ _ _ _ _ => (px_ix ix_A ok_ixM (pxv 3 rfl) (pxv 4 rfl))))) pxs_nil) (by rfl) h_tuple (by decide +kernel)) pxs_nil)))) rfl))) rfl)
  exact ⟨⟨f, fd, ok_W false wb_along F scalong (by decide) (by decide) body, m, kp, b, F⟩, mono_of_body (ps := ["load", "order"]) false wb_along (by decide) body (by decide)⟩
theorem D__law_sum {f : Addr} {fd : FuncData} (F : Fun K "_law_sum" "_law_sum" s_law_sum f fd) (m : mg "_law_sum" = some (.ref f)) (kp : PySem.W.keepIn K (.ref f) = true) (b : Binds K fd ["kinds", "rows"] []) (h_range : mg "range" = none) (h_sum : mg "sum" = none) (h_tuple : mg "tuple" = none) : Dw P wd K mg base 1 "_law_sum" s_law_sum ["kinds", "rows"] false W__law_sum := by
  have body : ∀ (cdv : Value) (A : Around) (outer : List PySem.Env) (s : Shared) (H : Hp) (E : XK), Room 0 (A.deeper (PyProof.Rows.envOfC "_law_sum" (defScope s_law_sum) s.heap.objs.size f cdv)) → ∀ as : List PyData, as.length + (if false then 1 else 0) = (["kinds", "rows"] : List Str).length →
      PBk' K (cxOf (L2.CX P wd) P wd K mg base N_law_sum "_law_sum" (defScope s_law_sum) f cdv A outer s H E) (ctOf N_law_sum false E) (argE (if false then 1 else 0) as) (defBody s_law_sum) (fun _ : Unit => []) (fun r : Empty => nomatch r) (wb__law_sum as) := by
    intro cdv A outer s H E hr as hl
    have nd := sc_law_sum.nd
    match as, hl with
    | [a_kinds, a_rows], _ => exact (PBk'.castG (Δ := [(0, .dat a_kinds), (1, .dat a_rows)]) (pbk_ret (px_callTy (ktuple K) ok_tupleM (pxs_cons (PXf.px (pfw_lc (own := [("k", 2)]) rfl nd (PItF.it (it_range (pxv 0 rfl) (by rfl) h_range)) (blkOk_by (N := N_law_sum) (sc := defScope s_law_sum) (by decide +kernel)) (fun _ _ _ _ _ => (pg_name (i := 2) nd rfl (Or.inr rfl))) (tw1 (ltb rfl)) rfl rfl (fun p1 _ _ _ _ _ => pxt_nil) (fun p1 _ _ _ _ _ => (px_callB (ksum K) ok_sumM (pxs_cons (PXf.px (pfw_lc (own := [("row", 3)]) rfl nd (PItF.it (it_seq (pxv 1 rfl))) (blkOk_by (by kernel_rfl)) (fun _ _ _ _ _ => (pg_name (i := 3) nd rfl (Or.inl rfl))) (tw1 (ltb rfl)) rfl rfl (fun p2 _ _ _ _ _ => pxt_nil) (fun p2 _ _ _ _ _ => (px_ix ix_A ok_ixM (pxv 3 rfl) (pxv 2 rfl))))) pxs_nil) (by rfl) h_sum (by decide +kernel))))) pxs_nil) (by rfl) h_tuple (by decide +kernel))) rfl)
  exact ⟨⟨f, fd, ok_W false wb__law_sum F sc_law_sum (by decide) (by decide) body, m, kp, b, F⟩, mono_of_body (ps := ["kinds", "rows"]) false wb__law_sum (by decide) body (by decide)⟩
theorem D__law_halved {f : Addr} {fd : FuncData} (F : Fun K "_law_halved" "_law_halved" s_law_halved f fd) (m : mg "_law_halved" = some (.ref f)) (kp : PySem.W.keepIn K (.ref f) = true) (b : Binds K fd ["order", "signs"] []) (h_tuple : mg "tuple" = none) (h_zip : mg "zip" = none) : Dw P wd K mg base 1 "_law_halved" s_law_halved ["order", "signs"] false W__law_halved := by
  have body : ∀ (cdv : Value) (A : Around) (outer : List PySem.Env) (s : Shared) (H : Hp) (E : XK), Room 0 (A.deeper (PyProof.Rows.envOfC "_law_halved" (defScope s_law_halved) s.heap.objs.size f cdv)) → ∀ as : List PyData, as.length + (if false then 1 else 0) = (["order", "signs"] : List Str).length →
      PBk' K (cxOf (L2.CX P wd) P wd K mg base N_law_halved "_law_halved" (defScope s_law_halved) f cdv A outer s H E) (ctOf N_law_halved false E) (argE (if false then 1 else 0) as) (defBody s_law_halved) (fun _ : Unit => []) (fun r : Empty => nomatch r) (wb__law_halved as) := by
    intro cdv A outer s H E hr as hl
    have nd := sc_law_halved.nd
    match as, hl with
    | [a_order, a_signs], _ => exact (PBk'.castG (Δ := [(0, .dat a_order), (1, .dat a_signs)]) (pbk_par (i := 2) (j := 3) nd rfl rfl (by decide) rfl rfl (ltb rfl) (ltb rfl) rfl rfl rfl (PXf.ak (pfw_lst pxs_nil)) (PXf.ak (pfw_lst pxs_nil)) (fun d21 d22 => (by refine PBk'.lst (f := fun z => setE 3 (AK.cell .own d22) (setE 2 z [(0, .dat a_order), (1, .dat a_signs)])) (fun x_first3 => ?_); exact (by refine PBk'.lst (f := fun z => setE 3 z (setE 2 (.own x_first3) [(0, .dat a_order), (1, .dat a_signs)])) (fun x_last4 => ?_); exact (PBk'.castG (Δ := [(0, .dat a_order), (1, .dat a_signs), (2, .own x_first3), (3, .own x_last4)]) (pbk_for (GL := fun s5 : List PyData × List PyData => [(0, .dat a_order), (1, .dat a_signs), (2, .own s5.1), (3, .own s5.2)]) (s0 := (x_first3, x_last4)) [0, 1, 2, 3] (passes_of rfl) rfl (it_zip (pxv 0 rfl) (pxv 1 rfl) (by rfl) h_zip) (pg_tup rfl (pgs_cons (pg_name (i := 4) nd rfl (Or.inl rfl)) (pgs_cons (pg_name (i := 5) nd rfl (Or.inl rfl)) pgs_nil))) (tw2 (ltb rfl) (ltb rfl) (by decide)) rfl (fun _ => rfl) rfl (fun p9 s6 => (pbk_if (G' := fun s12 : List PyData × List PyData => [(0, .dat a_order), (1, .dat a_signs), (2, .own s12.1), (3, .own s12.2), (4, .dat p9.1), (5, .dat p9.2)]) (pxb_cmp (op_eqA hr.units) ok_eqM (pxv 5 rfl) px_int (by rfl)) (pbk_app (i := 2) rfl (by first | exact Or.inl rfl | exact Or.inr (Or.inl rfl) | exact Or.inr (Or.inr rfl)) rfl (pxv 4 rfl) (fun d13 => (PBk'.castG (Δ := [(0, .dat a_order), (1, .dat a_signs), (2, .own (s6.1 ++ [d13])), (3, .own s6.2), (4, .dat p9.1), (5, .dat p9.2)]) (pbk_end (s := ((s6.1 ++ [d13]), s6.2)) [0, 1, 2, 3, 4, 5] rfl) rfl))) (pbk_ins (i := 3) rfl (by first | exact Or.inl rfl | exact Or.inr (Or.inl rfl) | exact Or.inr (Or.inr rfl)) rfl px_int (pxv 4 rfl) (fun x_last16 => (PBk'.castG (Δ := [(0, .dat a_order), (1, .dat a_signs), (2, .own s6.1), (3, .own x_last16), (4, .dat p9.1), (5, .dat p9.2)]) (pbk_end (s := (s6.1, x_last16)) [0, 1, 2, 3, 4, 5] rfl) rfl))) (fun s12 => (pbk_end (s := (s12.1, s12.2)) [0, 1, 2, 3] rfl)))) (fun s5 => (pbk_frz (i := 2) rfl (PBk'.castG (Δ := [(0, .dat a_order), (1, .dat a_signs), (2, .dat (PyData.list s5.1)), (3, .own s5.2)]) (pbk_frz (i := 3) rfl (PBk'.castG (Δ := [(0, .dat a_order), (1, .dat a_signs), (2, .dat (PyData.list s5.1)), (3, .dat (PyData.list s5.2))]) (pbk_ret (px_callTy (ktuple K) ok_tupleM (pxs_cons (PXf.px (pfw_cat (pxv 2 rfl) (pxv 3 rfl))) pxs_nil) (by rfl) h_tuple (by decide +kernel))) rfl)) rfl)))) rfl)))) (by rfl)) rfl)
  exact ⟨⟨f, fd, ok_W false wb__law_halved F sc_law_halved (by decide) (by decide) body, m, kp, b, F⟩, mono_of_body (ps := ["order", "signs"]) false wb__law_halved (by decide) body (by decide)⟩
theorem D_sums {f : Addr} {fd : FuncData} (F : Fun K "sums" "sums" ssums f fd) (m : mg "sums" = some (.ref f)) (kp : PySem.W.keepIn K (.ref f) = true) (b : Binds K fd ["kinds", "rows"] []) (h_tuple : mg "tuple" = none) (D_added : Dw P wd K mg base 1 "added" sadded ["one", "other"] false W_added) : Dw P wd K mg base 2 "sums" ssums ["kinds", "rows"] false W_sums := by
  have body : ∀ (cdv : Value) (A : Around) (outer : List PySem.Env) (s : Shared) (H : Hp) (E : XK), Room 1 (A.deeper (PyProof.Rows.envOfC "sums" (defScope ssums) s.heap.objs.size f cdv)) → ∀ as : List PyData, as.length + (if false then 1 else 0) = (["kinds", "rows"] : List Str).length →
      PBk' K (cxOf (L2.CX P wd) P wd K mg base Nsums "sums" (defScope ssums) f cdv A outer s H E) (ctOf Nsums false E) (argE (if false then 1 else 0) as) (defBody ssums) (fun _ : Unit => []) (fun r : Empty => nomatch r) (wb_sums as) := by
    intro cdv A outer s H E hr as hl
    have nd := scsums.nd
    match as, hl with
    | [a_kinds, a_rows], _ => exact (PBk'.castG (Δ := [(0, .dat a_kinds), (1, .dat a_rows)]) (pbk_set (i := 2) nd rfl (Or.inl rfl) (ltb rfl) rfl (px_op op_mulA ok_mulM (px_tup (pxs_cons px_int pxs_nil)) (pxv 0 rfl)) (fun x_total1 => (PBk'.castG (Δ := [(0, .dat a_kinds), (1, .dat a_rows), (2, .dat x_total1)]) (pbk_own (i := 3) nd rfl (Or.inl rfl) (ltb rfl) rfl (pfw_lst (pxs_cons (pxv 2 rfl) pxs_nil)) (fun x_found4 => (PBk'.castG (Δ := [(0, .dat a_kinds), (1, .dat a_rows), (2, .dat x_total1), (3, .own x_found4)]) (pbk_for (GL := fun s6 : PyData × List PyData => [(0, .dat a_kinds), (1, .dat a_rows), (2, .dat s6.1), (3, .own s6.2)]) (s0 := (x_total1, x_found4)) [0, 1, 2, 3] (passes_of rfl) rfl (it_seq (pxv 1 rfl)) (pg_name (i := 4) nd rfl (Or.inl rfl)) (tw1 (ltb rfl)) rfl (fun _ => rfl) rfl (fun p8 s7 => (pbk_set (i := 2) nd rfl (Or.inl rfl) (ltb rfl) rfl (px_call D_added (hr.mono (by first | decide | omega)) (takes_of rfl rfl rfl rfl) (pxs_cons (pxv 2 rfl) (pxs_cons (pxv 4 rfl) pxs_nil))) (fun x_total9 => (PBk'.castG (Δ := [(0, .dat a_kinds), (1, .dat a_rows), (2, .dat x_total9), (3, .own s7.2), (4, .dat p8)]) (pbk_app (i := 3) rfl (by first | exact Or.inl rfl | exact Or.inr (Or.inl rfl) | exact Or.inr (Or.inr rfl)) rfl (pxv 2 rfl) (fun d10 => (PBk'.castG (Δ := [(0, .dat a_kinds), (1, .dat a_rows), (2, .dat x_total9), (3, .own (s7.2 ++ [d10])), (4, .dat p8)]) (pbk_end (s := (x_total9, (s7.2 ++ [d10]))) [0, 1, 2, 3] rfl) rfl))) rfl)))) (fun s6 => (pbk_frz (i := 3) rfl (PBk'.castG (Δ := [(0, .dat a_kinds), (1, .dat a_rows), (2, .dat s6.1), (3, .dat (PyData.list s6.2))]) (pbk_ret (px_callTy (ktuple K) ok_tupleM (pxs_cons (pxv 3 rfl) pxs_nil) (by rfl) h_tuple (by decide +kernel))) rfl)))) rfl))) rfl))) rfl)
  exact ⟨⟨f, fd, ok_W false wb_sums F scsums (by decide) (by decide) body, m, kp, b, F⟩, mono_of_body (ps := ["kinds", "rows"]) false wb_sums (by decide) body (by decide)⟩
theorem D__law_one {f : Addr} {fd : FuncData} (F : Fun K "_law_one" "_law_one" s_law_one f fd) (m : mg "_law_one" = some (.ref f)) (kp : PySem.W.keepIn K (.ref f) = true) (b : Binds K fd ["deck", "items"] []) (h_len : mg "len" = none) (D__law_draw : Dw P wd K mg base 1 "_law_draw" s_law_draw ["deck", "many"] true W__law_draw) : Dw P wd K mg base 2 "_law_one" s_law_one ["deck", "items"] true W__law_one := by
  have body : ∀ (cdv : Value) (A : Around) (outer : List PySem.Env) (s : Shared) (H : Hp) (E : XK), Room 1 (A.deeper (PyProof.Rows.envOfC "_law_one" (defScope s_law_one) s.heap.objs.size f cdv)) → ∀ as : List PyData, as.length + (if true then 1 else 0) = (["deck", "items"] : List Str).length →
      PBk' K (cxOf (L2.CX P wd) P wd K mg base N_law_one "_law_one" (defScope s_law_one) f cdv A outer s H E) (ctOf N_law_one true E) (argE (if true then 1 else 0) as) (defBody s_law_one) (fun _ : Unit => []) (fun r : Empty => nomatch r) (wb__law_one as) := by
    intro cdv A outer s H E hr as hl
    have nd := sc_law_one.nd
    match as, hl with
    | [a_items], _ => exact (PBk'.castG (Δ := [(1, .dat a_items)]) (pbk_ret (px_ix ix_A ok_ixM (pxv 1 rfl) (px_callD D__law_draw (hr.mono (by first | decide | omega)) (takes_of rfl rfl rfl rfl) (pxdv 0 rfl (pxs_cons (px_callB (klen K) ok_lenM (pxs_cons (pxv 1 rfl) pxs_nil) (by rfl) h_len (by decide +kernel)) pxs_nil))))) rfl)
  exact ⟨⟨f, fd, ok_W true wb__law_one F sc_law_one (by decide) (by decide) body, m, kp, b, F⟩, mono_of_body (ps := ["deck", "items"]) true wb__law_one (by decide) body (by decide)⟩
theorem D__law_mixed {f : Addr} {fd : FuncData} (F : Fun K "_law_mixed" "_law_mixed" s_law_mixed f fd) (m : mg "_law_mixed" = some (.ref f)) (kp : PySem.W.keepIn K (.ref f) = true) (b : Binds K fd ["deck", "items"] []) (h_len : mg "len" = none) (h_list : mg "list" = none) (h_range : mg "range" = none) (D__law_draw : Dw P wd K mg base 1 "_law_draw" s_law_draw ["deck", "many"] true W__law_draw) : Dw P wd K mg base 2 "_law_mixed" s_law_mixed ["deck", "items"] true W__law_mixed := by
  have body : ∀ (cdv : Value) (A : Around) (outer : List PySem.Env) (s : Shared) (H : Hp) (E : XK), Room 1 (A.deeper (PyProof.Rows.envOfC "_law_mixed" (defScope s_law_mixed) s.heap.objs.size f cdv)) → ∀ as : List PyData, as.length + (if true then 1 else 0) = (["deck", "items"] : List Str).length →
      PBk' K (cxOf (L2.CX P wd) P wd K mg base N_law_mixed "_law_mixed" (defScope s_law_mixed) f cdv A outer s H E) (ctOf N_law_mixed true E) (argE (if true then 1 else 0) as) (defBody s_law_mixed) (fun _ : Unit => []) (fun r : Empty => nomatch r) (wb__law_mixed as) := by
    intro cdv A outer s H E hr as hl
    have nd := sc_law_mixed.nd
    match as, hl with
    | [a_items], _ => exact (PBk'.castG (Δ := [(1, .dat a_items)]) (pbk_par (i := 2) (j := 3) nd rfl rfl (by decide) rfl rfl (ltb rfl) (ltb rfl) rfl rfl rfl (PXf.ak (pfw_list (pxv 1 rfl) h_list)) (PXf.ak (pfw_lst pxs_nil)) (fun d13 d14 => (by refine PBk'.lst (f := fun z => setE 3 (AK.cell .own d14) (setE 2 z [(1, .dat a_items)])) (fun x_rest2 => ?_); exact (by refine PBk'.lst (f := fun z => setE 3 z (setE 2 (.own x_rest2) [(1, .dat a_items)])) (fun x_found3 => ?_); exact (PBk'.castG (Δ := [(1, .dat a_items), (2, .own x_rest2), (3, .own x_found3)]) (pbk_for (GL := fun s4 : List PyData × List PyData => [(1, .dat a_items), (2, .own s4.1), (3, .own s4.2)]) (s0 := (x_rest2, x_found3)) [1, 2, 3] (passes_of rfl) rfl (it_range (px_callB (klen K) ok_lenM (pxs_cons (pxv 1 rfl) pxs_nil) (by rfl) h_len (by decide +kernel)) (by rfl) h_range) (pg_name (i := 4) nd rfl (Or.inl rfl)) (tw1 (ltb rfl)) rfl (fun _ => rfl) rfl (fun p6 s5 => (pbk_appPop (i := 3) (j := 2) rfl (by first | exact Or.inl rfl | exact Or.inr (Or.inl rfl) | exact Or.inr (Or.inr rfl)) rfl (by first | exact Or.inl rfl | exact Or.inr (Or.inl rfl) | exact Or.inr (Or.inr rfl)) (by decide) rfl rfl (px_callD D__law_draw (hr.mono (by first | decide | omega)) (takes_of rfl rfl rfl rfl) (pxdv 0 rfl (pxs_cons (px_thaw (i := 2) rfl (px_callB (klen K) ok_lenM (pxs_cons (pxv 2 rfl) pxs_nil) (by rfl) h_len (by decide +kernel))) pxs_nil))) (fun d9 r10 => PBk'.castG (Δ := [(1, .dat a_items), (2, .own r10), (3, .own (s5.2 ++ [d9])), (4, .dat p6)]) (pbk_end (s := (r10, (s5.2 ++ [d9]))) [1, 2, 3] rfl) rfl))) (fun s4 => (pbk_frz (i := 3) rfl (PBk'.castG (Δ := [(1, .dat a_items), (2, .own s4.1), (3, .dat (PyData.list s4.2))]) (pbk_ret (pxv 3 rfl)) rfl)))) rfl)))) (by rfl)) rfl)
  exact ⟨⟨f, fd, ok_W true wb__law_mixed F sc_law_mixed (by decide) (by decide) body, m, kp, b, F⟩, mono_of_body (ps := ["deck", "items"]) true wb__law_mixed (by decide) body (by decide)⟩
theorem D__law_row {f : Addr} {fd : FuncData} (F : Fun K "_law_row" "_law_row" s_law_row f fd) (m : mg "_law_row" = some (.ref f)) (kp : PySem.W.keepIn K (.ref f) = true) (b : Binds K fd ["deck", "kinds", "most"] []) (h_range : mg "range" = none) (h_tuple : mg "tuple" = none) (D__law_draw : Dw P wd K mg base 1 "_law_draw" s_law_draw ["deck", "many"] true W__law_draw) : Dw P wd K mg base 2 "_law_row" s_law_row ["deck", "kinds", "most"] true W__law_row := by
  have body : ∀ (cdv : Value) (A : Around) (outer : List PySem.Env) (s : Shared) (H : Hp) (E : XK), Room 1 (A.deeper (PyProof.Rows.envOfC "_law_row" (defScope s_law_row) s.heap.objs.size f cdv)) → ∀ as : List PyData, as.length + (if true then 1 else 0) = (["deck", "kinds", "most"] : List Str).length →
      PBk' K (cxOf (L2.CX P wd) P wd K mg base N_law_row "_law_row" (defScope s_law_row) f cdv A outer s H E) (ctOf N_law_row true E) (argE (if true then 1 else 0) as) (defBody s_law_row) (fun _ : Unit => []) (fun r : Empty => nomatch r) (wb__law_row as) := by
    intro cdv A outer s H E hr as hl
    have nd := sc_law_row.nd
    match as, hl with
    | [a_kinds, a_most], _ => exact (PBk'.castG (Δ := [(1, .dat a_kinds), (2, .dat a_most)]) (pbk_ret (px_callTy (ktuple K) ok_tupleM (pxs_cons (PXf.px (pfw_lc (own := [("k", 3)]) rfl nd (PItF.it (it_range (pxv 1 rfl) (by rfl) h_range)) (blkOk_by (N := N_law_row) (sc := defScope s_law_row) (by decide +kernel)) (fun _ _ _ _ _ => (pg_name (i := 3) nd rfl (Or.inl rfl))) (tw1 (ltb rfl)) rfl rfl (fun p1 _ _ _ _ _ => pxt_nil) (fun p1 _ _ _ _ _ => (px_op op_sub ok_subM (px_callD D__law_draw (hr.mono (by first | decide | omega)) takes0 (pxdv 0 rfl (pxs_cons (px_op op_addA ok_addM (px_op op_mulA ok_mulM px_int (pxv 2 rfl)) px_int) pxs_nil))) (pxv 2 rfl))))) pxs_nil) (by rfl) h_tuple (by decide +kernel))) rfl)
  exact ⟨⟨f, fd, ok_W true wb__law_row F sc_law_row (by decide) (by decide) body, m, kp, b, F⟩, mono_of_body (ps := ["deck", "kinds", "most"]) true wb__law_row (by decide) body (by decide)⟩
theorem D_is_even {f : Addr} {fd : FuncData} (F : Fun K "is_even" "is_even" sis_even f fd) (m : mg "is_even" = some (.ref f)) (kp : PySem.W.keepIn K (.ref f) = true) (b : Binds K fd ["load"] []) (D_sums : Dw P wd K mg base 2 "sums" ssums ["kinds", "rows"] false W_sums) : Dw P wd K mg base 3 "is_even" sis_even ["load"] false W_is_even := by
  have body : ∀ (cdv : Value) (A : Around) (outer : List PySem.Env) (s : Shared) (H : Hp) (E : XK), Room 2 (A.deeper (PyProof.Rows.envOfC "is_even" (defScope sis_even) s.heap.objs.size f cdv)) → ∀ as : List PyData, as.length + (if false then 1 else 0) = (["load"] : List Str).length →
      PBk' K (cxOf (L2.CX P wd) P wd K mg base Nis_even "is_even" (defScope sis_even) f cdv A outer s H E) (ctOf Nis_even false E) (argE (if false then 1 else 0) as) (defBody sis_even) (fun _ : Unit => []) (fun r : Empty => nomatch r) (wb_is_even as) := by
    intro cdv A outer s H E hr as hl
    have nd := scis_even.nd
    match as, hl with
    | [a_load], _ => exact (PBk'.castG (Δ := [(0, .dat a_load)]) (pbk_two (i := 1) (j := 2) nd rfl rfl (Or.inl rfl) (Or.inl rfl) (ltb rfl) (ltb rfl) (by decide) rfl rfl rfl (pxv 0 rfl) (fun r1 => (PBk'.castG (Δ := [(0, .dat a_load), (1, .dat r1.1), (2, .dat r1.2)]) (pbk_ret (px_cmp (op_eqA hr.units) ok_eqM (px_ix ix_A ok_ixM (px_call D_sums (hr.mono (by first | decide | omega)) (takes_of rfl rfl rfl rfl) (pxs_cons (pxv 1 rfl) (pxs_cons (pxv 2 rfl) pxs_nil))) (px_un un_neg ok_negM px_int)) (px_op op_mulA ok_mulM (px_tup (pxs_cons px_int pxs_nil)) (pxv 1 rfl)) (by rfl))) rfl))) rfl)
  exact ⟨⟨f, fd, ok_W false wb_is_even F scis_even (by decide) (by decide) body, m, kp, b, F⟩, mono_of_body (ps := ["load"]) false wb_is_even (by decide) body (by decide)⟩
theorem D__law_load {f : Addr} {fd : FuncData} (F : Fun K "_law_load" "_law_load" s_law_load f fd) (m : mg "_law_load" = some (.ref f)) (kp : PySem.W.keepIn K (.ref f) = true) (b : Binds K fd ["deck", "rows"] []) (h_range : mg "range" = none) (h_tuple : mg "tuple" = none) (D__law_draw : Dw P wd K mg base 1 "_law_draw" s_law_draw ["deck", "many"] true W__law_draw) (D__law_one : Dw P wd K mg base 2 "_law_one" s_law_one ["deck", "items"] true W__law_one) (D__law_row : Dw P wd K mg base 2 "_law_row" s_law_row ["deck", "kinds", "most"] true W__law_row) : Dw P wd K mg base 3 "_law_load" s_law_load ["deck", "rows"] true W__law_load := by
  have body : ∀ (cdv : Value) (A : Around) (outer : List PySem.Env) (s : Shared) (H : Hp) (E : XK), Room 2 (A.deeper (PyProof.Rows.envOfC "_law_load" (defScope s_law_load) s.heap.objs.size f cdv)) → ∀ as : List PyData, as.length + (if true then 1 else 0) = (["deck", "rows"] : List Str).length →
      PBk' K (cxOf (L2.CX P wd) P wd K mg base N_law_load "_law_load" (defScope s_law_load) f cdv A outer s H E) (ctOf N_law_load true E) (argE (if true then 1 else 0) as) (defBody s_law_load) (fun _ : Unit => []) (fun r : Empty => nomatch r) (wb__law_load as) := by
    intro cdv A outer s H E hr as hl
    have nd := sc_law_load.nd
    match as, hl with
    | [a_rows], _ => exact (PBk'.castG (Δ := [(1, .dat a_rows)]) (pbk_two (i := 2) (j := 3) nd rfl rfl (Or.inr rfl) (Or.inr rfl) (ltb rfl) (ltb rfl) (by decide) rfl rfl rfl (px_tup (pxs_cons (px_op op_addA ok_addM px_int (px_callD D__law_draw (hr.mono (by first | decide | omega)) (takes_of rfl rfl rfl rfl) (pxdv 0 rfl (pxs_cons px_int pxs_nil)))) (pxs_cons (px_callD D__law_one (hr.mono (by first | decide | omega)) (takes_of rfl rfl rfl rfl) (pxdv 0 rfl (pxs_cons (PXf.px (pfw_lst (pxs_cons px_int (pxs_cons px_int (pxs_cons px_int (pxs_cons px_int (pxs_cons px_int (pxs_cons (px_op op_pow ok_powM px_int px_int) pxs_nil)))))))) pxs_nil))) pxs_nil))) (fun r6 => (PBk'.castG (Δ := [(1, .dat a_rows), (2, .dat r6.1), (3, .dat r6.2)]) (pbk_ret (px_tup (pxs_cons (pxv 2 rfl) (pxs_cons (px_callTy (ktuple K) ok_tupleM (pxs_cons (PXf.px (pfw_lc (own := [("k", 4)]) rfl nd (PItF.it (it_range (px_callD D__law_draw (hr.mono (by first | decide | omega)) (takes_of rfl rfl rfl rfl) (pxdv 0 rfl (pxs_cons (px_op op_addA ok_addM (pxv 1 rfl) px_int) pxs_nil))) (by rfl) h_range)) (blkOk_by (N := N_law_load) (sc := defScope s_law_load) (by decide +kernel)) (fun _ _ _ _ _ => (pg_name (i := 4) nd rfl (Or.inl rfl))) (tw1 (ltb rfl)) rfl rfl (fun p10 _ _ _ _ _ => pxt_nil) (fun p10 _ _ _ _ _ => (px_callD D__law_row (hr.mono (by first | decide | omega)) takes0 (pxdv 0 rfl (pxs_cons (pxv 2 rfl) (pxs_cons (pxv 3 rfl) pxs_nil))))))) pxs_nil) (by rfl) h_tuple (by decide +kernel)) pxs_nil)))) rfl))) rfl)
  exact ⟨⟨f, fd, ok_W true wb__law_load F sc_law_load (by decide) (by decide) body, m, kp, b, F⟩, mono_of_body (ps := ["deck", "rows"]) true wb__law_load (by decide) body (by decide)⟩
theorem D__law_even {f : Addr} {fd : FuncData} (F : Fun K "_law_even" "_law_even" s_law_even f fd) (m : mg "_law_even" = some (.ref f)) (kp : PySem.W.keepIn K (.ref f) = true) (b : Binds K fd ["deck", "rows"] []) (h_len : mg "len" = none) (h_range : mg "range" = none) (h_tuple : mg "tuple" = none) (D__law_draw : Dw P wd K mg base 1 "_law_draw" s_law_draw ["deck", "many"] true W__law_draw) (D__law_mixed : Dw P wd K mg base 2 "_law_mixed" s_law_mixed ["deck", "items"] true W__law_mixed) (D__law_one : Dw P wd K mg base 2 "_law_one" s_law_one ["deck", "items"] true W__law_one) (D__law_row : Dw P wd K mg base 2 "_law_row" s_law_row ["deck", "kinds", "most"] true W__law_row) (D__law_sum : Dw P wd K mg base 1 "_law_sum" s_law_sum ["kinds", "rows"] false W__law_sum) : Dw P wd K mg base 3 "_law_even" s_law_even ["deck", "rows"] true W__law_even := by
  have body : ∀ (cdv : Value) (A : Around) (outer : List PySem.Env) (s : Shared) (H : Hp) (E : XK), Room 2 (A.deeper (PyProof.Rows.envOfC "_law_even" (defScope s_law_even) s.heap.objs.size f cdv)) → ∀ as : List PyData, as.length + (if true then 1 else 0) = (["deck", "rows"] : List Str).length →
      PBk' K (cxOf (L2.CX P wd) P wd K mg base N_law_even "_law_even" (defScope s_law_even) f cdv A outer s H E) (ctOf N_law_even true E) (argE (if true then 1 else 0) as) (defBody s_law_even) (fun _ : Unit => []) (fun r : Empty => nomatch r) (wb__law_even as) := by
    intro cdv A outer s H E hr as hl
    have nd := sc_law_even.nd
    match as, hl with
    | [a_rows], _ => exact (PBk'.castG (Δ := [(1, .dat a_rows)]) (pbk_two (i := 2) (j := 3) nd rfl rfl (Or.inr rfl) (Or.inr rfl) (ltb rfl) (ltb rfl) (by decide) rfl rfl rfl (px_tup (pxs_cons (px_op op_addA ok_addM px_int (px_callD D__law_draw (hr.mono (by first | decide | omega)) (takes_of rfl rfl rfl rfl) (pxdv 0 rfl (pxs_cons px_int pxs_nil)))) (pxs_cons (px_callD D__law_one (hr.mono (by first | decide | omega)) (takes_of rfl rfl rfl rfl) (pxdv 0 rfl (pxs_cons (PXf.px (pfw_lst (pxs_cons px_int (pxs_cons px_int (pxs_cons px_int (pxs_cons px_int (pxs_cons px_int (pxs_cons px_int pxs_nil)))))))) pxs_nil))) pxs_nil))) (fun r4 => (PBk'.castG (Δ := [(1, .dat a_rows), (2, .dat r4.1), (3, .dat r4.2)]) (pbk_setL (i := 4) (own := [("k", 5)]) rfl nd rfl rfl (ltb rfl) rfl (sw_true rfl rfl rfl (by decide +kernel)) (PItF.it (it_range (px_callD D__law_draw (hr.mono (by first | decide | omega)) (takes_of rfl rfl rfl rfl) (pxdv 0 rfl (pxs_cons (pxv 1 rfl) pxs_nil))) (by rfl) h_range)) (blkOk_by (N := N_law_even) (sc := defScope s_law_even) (by decide +kernel)) (fun _ _ _ _ _ => (pg_name (i := 5) nd rfl (Or.inl rfl))) (tw1 (ltb rfl)) rfl rfl (fun p7 _ _ _ _ _ => pxt_nil) (fun p7 _ _ _ _ _ => (px_callD D__law_row (hr.mono (by first | decide | omega)) takes0 (pxdv 0 rfl (pxs_cons (pxv 2 rfl) (pxs_cons (pxv 3 rfl) pxs_nil))))) (fun x_found6 => (PBk'.castG (Δ := [(1, .dat a_rows), (2, .dat r4.1), (3, .dat r4.2), (4, .own x_found6)]) (pbk_ifret' (pxb_thaw (i := 4) rfl (pxb_cmp (op_eqA hr.units) ok_eqM (pxv 4 rfl) (PXf.px (pfw_lst pxs_nil)) (by rfl))) (pbk_ret (px_tup (pxs_cons (pxv 2 rfl) (pxs_cons (px_tup pxs_nil) pxs_nil)))) (pbk_if (G' := fun s18 : PyData => [(1, .dat a_rows), (2, .dat r4.1), (3, .dat r4.2), (4, .dat s18)]) (PXw.toB (pxb_and (pxb_cmp (op_eqA hr.units) ok_eqM (px_callD D__law_draw (hr.mono (by first | decide | omega)) (takes_of rfl rfl rfl rfl) (pxdv 0 rfl (pxs_cons px_int pxs_nil))) px_int (by rfl)) (pxb_and1 (pxb_cmp op_le ok_leM (px_op op_mulA ok_mulM px_int (px_thaw (i := 4) rfl (px_callB (klen K) ok_lenM (pxs_cons (pxv 4 rfl) pxs_nil) (by rfl) h_len (by decide +kernel)))) (pxv 1 rfl) (by rfl))))) (pbk_frz (i := 4) rfl (PBk'.castG (Δ := [(1, .dat a_rows), (2, .dat r4.1), (3, .dat r4.2), (4, .dat (PyData.list x_found6))]) (pbk_set (i := 4) nd rfl (Or.inl rfl) (ltb rfl) rfl (PXf.px (pfw_cat (pxv 4 rfl) (PXf.px (pfw_lc (own := [("row", 6)]) rfl nd (PItF.it (it_seq (pxv 4 rfl))) (blkOk_by (N := N_law_even) (sc := defScope s_law_even) (by decide +kernel)) (fun _ _ _ _ _ => (pg_name (i := 6) nd rfl (Or.inl rfl))) (tw1 (ltb rfl)) rfl rfl (fun p20 _ _ _ _ _ => pxt_nil) (fun p20 _ _ _ _ _ => (px_callTy (ktuple K) ok_tupleM (pxs_cons (PXf.px (pfw_lc (own := [("item", 7)]) rfl nd (PItF.it (it_seq (pxv 6 rfl))) (blkOk_by (by kernel_rfl)) (fun _ _ _ _ _ => (pg_name (i := 7) nd rfl (Or.inl rfl))) (tw1 (ltb rfl)) rfl rfl (fun p21 _ _ _ _ _ => pxt_nil) (fun p21 _ _ _ _ _ => (px_op op_sub ok_subM px_int (pxv 7 rfl))))) pxs_nil) (by rfl) h_tuple (by decide +kernel))))))) (fun x_found19 => (PBk'.castG (Δ := [(1, .dat a_rows), (2, .dat r4.1), (3, .dat r4.2), (4, .dat x_found19)]) (pbk_end (s := x_found19) [1, 2, 3, 4] rfl) rfl))) rfl)) (pbk_app (i := 4) rfl (by first | exact Or.inl rfl | exact Or.inr (Or.inl rfl) | exact Or.inr (Or.inr rfl)) rfl (px_thaw (i := 4) rfl (px_callTy (ktuple K) ok_tupleM (pxs_cons (PXf.px (pfw_lc (own := [("item", 7)]) rfl nd (PItF.it (it_seq (px_call D__law_sum (hr.mono (by first | decide | omega)) (takes_of rfl rfl rfl rfl) (pxs_cons (pxv 2 rfl) (pxs_cons (pxv 4 rfl) pxs_nil))))) (blkOk_by (N := N_law_even) (sc := defScope s_law_even) (by decide +kernel)) (fun _ _ _ _ _ => (pg_name (i := 7) nd rfl (Or.inl rfl))) (tw1 (ltb rfl)) rfl rfl (fun p26 _ _ _ _ _ => pxt_nil) (fun p26 _ _ _ _ _ => (px_op op_sub ok_subM px_int (pxv 7 rfl))))) pxs_nil) (by rfl) h_tuple (by decide +kernel))) (fun d29 => (PBk'.castG (Δ := [(1, .dat a_rows), (2, .dat r4.1), (3, .dat r4.2), (4, .own (x_found6 ++ [d29]))]) (pbk_frz (i := 4) rfl (PBk'.castG (Δ := [(1, .dat a_rows), (2, .dat r4.1), (3, .dat r4.2), (4, .dat (PyData.list (x_found6 ++ [d29])))]) (pbk_end (s := (PyData.list (x_found6 ++ [d29]))) [1, 2, 3, 4] rfl) rfl)) rfl))) (fun s18 => (pbk_ret (px_tup (pxs_cons (pxv 2 rfl) (pxs_cons (px_callTy (ktuple K) ok_tupleM (pxs_cons (px_callD D__law_mixed (hr.mono (by first | decide | omega)) (takes_of rfl rfl rfl rfl) (pxdv 0 rfl (pxs_cons (pxv 4 rfl) pxs_nil))) pxs_nil) (by rfl) h_tuple (by decide +kernel)) pxs_nil))))))) rfl))) rfl))) rfl)
  exact ⟨⟨f, fd, ok_W true wb__law_even F sc_law_even (by decide) (by decide) body, m, kp, b, F⟩, mono_of_body (ps := ["deck", "rows"]) true wb__law_even (by decide) body (by decide)⟩
theorem D__law_great_even {f : Addr} {fd : FuncData} (F : Fun K "_law_great_even" "_law_great_even" s_law_great_even f fd) (m : mg "_law_great_even" = some (.ref f)) (kp : PySem.W.keepIn K (.ref f) = true) (b : Binds K fd ["deck"] []) (h_range : mg "range" = none) (h_tuple : mg "tuple" = none) (D__law_draw : Dw P wd K mg base 1 "_law_draw" s_law_draw ["deck", "many"] true W__law_draw) (D__law_mixed : Dw P wd K mg base 2 "_law_mixed" s_law_mixed ["deck", "items"] true W__law_mixed) (D__law_one : Dw P wd K mg base 2 "_law_one" s_law_one ["deck", "items"] true W__law_one) : Dw P wd K mg base 3 "_law_great_even" s_law_great_even ["deck"] true W__law_great_even := by
  have body : ∀ (cdv : Value) (A : Around) (outer : List PySem.Env) (s : Shared) (H : Hp) (E : XK), Room 2 (A.deeper (PyProof.Rows.envOfC "_law_great_even" (defScope s_law_great_even) s.heap.objs.size f cdv)) → ∀ as : List PyData, as.length + (if true then 1 else 0) = (["deck"] : List Str).length →
      PBk' K (cxOf (L2.CX P wd) P wd K mg base N_law_great_even "_law_great_even" (defScope s_law_great_even) f cdv A outer s H E) (ctOf N_law_great_even true E) (argE (if true then 1 else 0) as) (defBody s_law_great_even) (fun _ : Unit => []) (fun r : Empty => nomatch r) (wb__law_great_even as) := by
    intro cdv A outer s H E hr as hl
    have nd := sc_law_great_even.nd
    match as, hl with
    | [], _ => exact (PBk'.castG (Δ := []) (pbk_par (i := 1) (j := 2) nd rfl rfl (by decide) rfl rfl (ltb rfl) (ltb rfl) rfl rfl rfl (PX.ak (px_op op_addA ok_addM px_int (px_callD D__law_draw (hr.mono (by first | decide | omega)) (takes_of rfl rfl rfl rfl) (pxdv 0 rfl (pxs_cons px_int pxs_nil))))) (PXf.ak (pfw_lst pxs_nil)) (fun x_kinds4 d42 => (by refine PBk'.lst (f := fun z => setE 2 z (setE 1 (.dat x_kinds4) [])) (fun x_found5 => ?_); exact (PBk'.castG (Δ := [(1, .dat x_kinds4), (2, .own x_found5)]) (pbk_for (GL := fun s6 : List PyData => [(1, .dat x_kinds4), (2, .own s6)]) (s0 := x_found5) [1, 2] (passes_of rfl) rfl (it_range (px_op op_addA ok_addM px_int (px_callD D__law_draw (hr.mono (by first | decide | omega)) (takes_of rfl rfl rfl rfl) (pxdv 0 rfl (pxs_cons px_int pxs_nil)))) (by rfl) h_range) (pg_name (i := 3) nd rfl (Or.inl rfl)) (tw1 (ltb rfl)) rfl (fun _ => rfl) rfl (fun p10 s7 => (pbk_own (i := 4) nd rfl (Or.inl rfl) (ltb rfl) rfl (pfw_lst pxs_nil) (fun x_row11 => (PBk'.castG (Δ := [(1, .dat x_kinds4), (2, .own s7), (3, .dat p10), (4, .own x_row11)]) (pbk_for (GL := fun s13 : List PyData => [(1, .dat x_kinds4), (2, .own s7), (3, .dat p10), (4, .own s13)]) (s0 := x_row11) [1, 2, 3, 4] (passes_of rfl) rfl (it_range (pxv 1 rfl) (by rfl) h_range) (pg_name (i := 5) nd rfl (Or.inl rfl)) (tw1 (ltb rfl)) rfl (fun _ => rfl) rfl (fun p15 s14 => (pbk_app (i := 4) rfl (by first | exact Or.inl rfl | exact Or.inr (Or.inl rfl) | exact Or.inr (Or.inr rfl)) rfl (px_callD D__law_one (hr.mono (by first | decide | omega)) (takes_of rfl rfl rfl rfl) (pxdv 0 rfl (pxs_cons (PXf.px (pfw_lst (pxs_cons (px_op op_pow ok_powM px_int px_int) (pxs_cons (px_un un_neg ok_negM (px_op op_pow ok_powM px_int px_int)) (pxs_cons (px_op op_sub ok_subM (px_callD D__law_draw (hr.mono (by first | decide | omega)) (takes_of rfl rfl rfl rfl) (pxdv 0 rfl (pxs_cons (px_op op_addA ok_addM (px_op op_mulA ok_mulM px_int (px_op op_pow ok_powM px_int px_int)) px_int) pxs_nil))) (px_op op_pow ok_powM px_int px_int)) pxs_nil))))) pxs_nil))) (fun d31 => (PBk'.castG (Δ := [(1, .dat x_kinds4), (2, .own s7), (3, .dat p10), (4, .own (s14 ++ [d31])), (5, .dat p15)]) (pbk_end (s := (s14 ++ [d31])) [1, 2, 3, 4] rfl) rfl)))) (fun s13 => (pbk_frz (i := 4) rfl (PBk'.castG (Δ := [(1, .dat x_kinds4), (2, .own s7), (3, .dat p10), (4, .dat (PyData.list s13))]) (pbk_ext (i := 2) rfl (by first | exact Or.inl rfl | exact Or.inr (Or.inl rfl) | exact Or.inr (Or.inr rfl)) rfl (PXf.px (pfw_lst (pxs_cons (px_callTy (ktuple K) ok_tupleM (pxs_cons (pxv 4 rfl) pxs_nil) (by rfl) h_tuple (by decide +kernel)) (pxs_cons (px_callTy (ktuple K) ok_tupleM (pxs_cons (PXf.px (pfw_lc (own := [("item", 6)]) rfl nd (PItF.it (it_seq (pxv 4 rfl))) (blkOk_by (N := N_law_great_even) (sc := defScope s_law_great_even) (by decide +kernel)) (fun _ _ _ _ _ => (pg_name (i := 6) nd rfl (Or.inl rfl))) (tw1 (ltb rfl)) rfl rfl (fun p32 _ _ _ _ _ => pxt_nil) (fun p32 _ _ _ _ _ => (px_op op_sub ok_subM px_int (pxv 6 rfl))))) pxs_nil) (by rfl) h_tuple (by decide +kernel)) pxs_nil)))) (fun d36 => (PBk'.castG (Δ := [(1, .dat x_kinds4), (2, .own d36), (3, .dat p10), (4, .dat (PyData.list s13))]) (pbk_end (s := d36) [1, 2] rfl) rfl))) rfl)))) rfl)))) (fun s6 => (pbk_frz (i := 2) rfl (PBk'.castG (Δ := [(1, .dat x_kinds4), (2, .dat (PyData.list s6))]) (pbk_ret (px_tup (pxs_cons (pxv 1 rfl) (pxs_cons (px_callTy (ktuple K) ok_tupleM (pxs_cons (px_callD D__law_mixed (hr.mono (by first | decide | omega)) (takes_of rfl rfl rfl rfl) (pxdv 0 rfl (pxs_cons (pxv 2 rfl) pxs_nil))) pxs_nil) (by rfl) h_tuple (by decide +kernel)) pxs_nil)))) rfl)))) rfl))) (by rfl)) rfl)
  exact ⟨⟨f, fd, ok_W true wb__law_great_even F sc_law_great_even (by decide) (by decide) body, m, kp, b, F⟩, mono_of_body (ps := ["deck"]) true wb__law_great_even (by decide) body (by decide)⟩
theorem D__law_hard_even {f : Addr} {fd : FuncData} (F : Fun K "_law_hard_even" "_law_hard_even" s_law_hard_even f fd) (m : mg "_law_hard_even" = some (.ref f)) (kp : PySem.W.keepIn K (.ref f) = true) (b : Binds K fd ["deck"] []) (h_range : mg "range" = none) (h_tuple : mg "tuple" = none) (h_zip : mg "zip" = none) (D__law_draw : Dw P wd K mg base 1 "_law_draw" s_law_draw ["deck", "many"] true W__law_draw) (D__law_mixed : Dw P wd K mg base 2 "_law_mixed" s_law_mixed ["deck", "items"] true W__law_mixed) : Dw P wd K mg base 3 "_law_hard_even" s_law_hard_even ["deck"] true W__law_hard_even := by
  have body : ∀ (cdv : Value) (A : Around) (outer : List PySem.Env) (s : Shared) (H : Hp) (E : XK), Room 2 (A.deeper (PyProof.Rows.envOfC "_law_hard_even" (defScope s_law_hard_even) s.heap.objs.size f cdv)) → ∀ as : List PyData, as.length + (if true then 1 else 0) = (["deck"] : List Str).length →
      PBk' K (cxOf (L2.CX P wd) P wd K mg base N_law_hard_even "_law_hard_even" (defScope s_law_hard_even) f cdv A outer s H E) (ctOf N_law_hard_even true E) (argE (if true then 1 else 0) as) (defBody s_law_hard_even) (fun _ : Unit => []) (fun r : Empty => nomatch r) (wb__law_hard_even as) := by
    intro cdv A outer s H E hr as hl
    have nd := sc_law_hard_even.nd
    match as, hl with
    | [], _ => exact (PBk'.castG (Δ := []) (pbk_set (i := 1) nd rfl (Or.inl rfl) (ltb rfl) rfl (px_op op_addA ok_addM px_int (px_callD D__law_draw (hr.mono (by first | decide | omega)) (takes_of rfl rfl rfl rfl) (pxdv 0 rfl (pxs_cons px_int pxs_nil)))) (fun x_kinds1 => (PBk'.castG (Δ := [(1, .dat x_kinds1)]) (pbk_set (i := 2) nd rfl (Or.inl rfl) (ltb rfl) rfl (px_callTy (ktuple K) ok_tupleM (pxs_cons (PXf.px (pfw_lc (own := [("k", 6)]) rfl nd (PItF.it (it_range (pxv 1 rfl) (by rfl) h_range)) (blkOk_by (N := N_law_hard_even) (sc := defScope s_law_hard_even) (by decide +kernel)) (fun _ _ _ _ _ => (pg_name (i := 6) nd rfl (Or.inl rfl))) (tw1 (ltb rfl)) rfl rfl (fun p5 _ _ _ _ _ => pxt_nil) (fun p5 _ _ _ _ _ => (px_op op_addA ok_addM px_int (px_callD D__law_draw (hr.mono (by first | decide | omega)) takes0 (pxdv 0 rfl (pxs_cons px_int pxs_nil))))))) pxs_nil) (by rfl) h_tuple (by decide +kernel)) (fun x_row4 => (PBk'.castG (Δ := [(1, .dat x_kinds1), (2, .dat x_row4)]) (pbk_set (i := 3) nd rfl (Or.inr rfl) (ltb rfl) rfl (px_op op_addA ok_addM px_int (px_callD D__law_draw (hr.mono (by first | decide | omega)) (takes_of rfl rfl rfl rfl) (pxdv 0 rfl (pxs_cons px_int pxs_nil)))) (fun x_many8 => (PBk'.castG (Δ := [(1, .dat x_kinds1), (2, .dat x_row4), (3, .dat x_many8)]) (pbk_set (i := 4) nd rfl (Or.inl rfl) (ltb rfl) rfl (PXf.px (pfw_lst (pxs_cons (px_callTy (ktuple K) ok_tupleM (pxs_cons (PXf.px (pfw_lc (own := [("item", 7)]) rfl nd (PItF.it (it_seq (pxv 2 rfl))) (blkOk_by (N := N_law_hard_even) (sc := defScope s_law_hard_even) (by decide +kernel)) (fun _ _ _ _ _ => (pg_name (i := 7) nd rfl (Or.inl rfl))) (tw1 (ltb rfl)) rfl rfl (fun p12 _ _ _ _ _ => pxt_nil) (fun p12 _ _ _ _ _ => (px_op op_sub ok_subM px_int (px_op op_mulA ok_mulM (pxv 7 rfl) (pxv 3 rfl)))))) pxs_nil) (by rfl) h_tuple (by decide +kernel)) pxs_nil))) (fun x_back11 => (PBk'.castG (Δ := [(1, .dat x_kinds1), (2, .dat x_row4), (3, .dat x_many8), (4, .dat x_back11)]) (pbk_if (G' := fun s20 : PyData => [(1, .dat x_kinds1), (2, .dat x_row4), (3, .dat x_many8), (4, .dat s20)]) (pxb_cmp (op_eqA hr.units) ok_eqM (px_callD D__law_draw (hr.mono (by first | decide | omega)) (takes_of rfl rfl rfl rfl) (pxdv 0 rfl (pxs_cons px_int pxs_nil))) px_int (by rfl)) (pbk_set (i := 5) nd rfl (Or.inl rfl) (ltb rfl) rfl (px_callTy (ktuple K) ok_tupleM (pxs_cons (PXf.px (pfw_lc (own := [("k", 6)]) rfl nd (PItF.it (it_range (pxv 1 rfl) (by rfl) h_range)) (blkOk_by (N := N_law_hard_even) (sc := defScope s_law_hard_even) (by decide +kernel)) (fun _ _ _ _ _ => (pg_name (i := 6) nd rfl (Or.inl rfl))) (tw1 (ltb rfl)) rfl rfl (fun p22 _ _ _ _ _ => pxt_nil) (fun p22 _ _ _ _ _ => (px_op op_sub ok_subM (px_callD D__law_draw (hr.mono (by first | decide | omega)) takes0 (pxdv 0 rfl (pxs_cons px_int pxs_nil))) px_int)))) pxs_nil) (by rfl) h_tuple (by decide +kernel)) (fun x_first21 => (PBk'.castG (Δ := [(1, .dat x_kinds1), (2, .dat x_row4), (3, .dat x_many8), (4, .dat x_back11), (5, .dat x_first21)]) (pbk_set (i := 4) nd rfl (Or.inl rfl) (ltb rfl) rfl (PXf.px (pfw_lst (pxs_cons (pxv 5 rfl) (pxs_cons (px_callTy (ktuple K) ok_tupleM (pxs_cons (PXf.px (pfw_lc (own := [("item", 7), ("own", 8)]) rfl nd (PItF.it (it_zip (pxv 2 rfl) (pxv 5 rfl) (by rfl) h_zip)) (blkOk_by (N := N_law_hard_even) (sc := defScope s_law_hard_even) (by decide +kernel)) (fun _ _ _ _ _ => (pg_tup rfl (pgs_cons (pg_name (i := 7) nd rfl (Or.inl rfl)) (pgs_cons (pg_name (i := 8) nd rfl (Or.inl rfl)) pgs_nil)))) (tw2 (ltb rfl) (ltb rfl) (by decide)) rfl rfl (fun p28 _ _ _ _ _ => pxt_nil) (fun p28 _ _ _ _ _ => (px_op op_sub ok_subM (px_op op_sub ok_subM px_int (px_op op_mulA ok_mulM (pxv 7 rfl) (pxv 3 rfl))) (pxv 8 rfl))))) pxs_nil) (by rfl) h_tuple (by decide +kernel)) pxs_nil)))) (fun x_back25 => (PBk'.castG (Δ := [(1, .dat x_kinds1), (2, .dat x_row4), (3, .dat x_many8), (4, .dat x_back25), (5, .dat x_first21)]) (pbk_end (s := x_back25) [1, 2, 3, 4] rfl) rfl))) rfl))) (pbk_end (s := x_back11) [1, 2, 3, 4] rfl) (fun s20 => (pbk_ret (px_tup (pxs_cons (pxv 1 rfl) (pxs_cons (px_callTy (ktuple K) ok_tupleM (pxs_cons (px_callD D__law_mixed (hr.mono (by first | decide | omega)) (takes_of rfl rfl rfl rfl) (pxdv 0 rfl (pxs_cons (PXf.px (pfw_cat (px_op op_mulA ok_mulM (PXf.px (pfw_lst (pxs_cons (pxv 2 rfl) pxs_nil))) (pxv 3 rfl)) (pxv 4 rfl))) pxs_nil))) pxs_nil) (by rfl) h_tuple (by decide +kernel)) pxs_nil)))))) rfl))) rfl))) rfl))) rfl))) rfl)
  exact ⟨⟨f, fd, ok_W true wb__law_hard_even F sc_law_hard_even (by decide) (by decide) body, m, kp, b, F⟩, mono_of_body (ps := ["deck"]) true wb__law_hard_even (by decide) body (by decide)⟩
theorem D_must_be_even {f : Addr} {fd : FuncData} (F : Fun K "must_be_even" "must_be_even" smust_be_even f fd) (m : mg "must_be_even" = some (.ref f)) (kp : PySem.W.keepIn K (.ref f) = true) (b : Binds K fd ["load"] []) (X_Uneven : Ex0 K mg "Uneven") (D_is_even : Dw P wd K mg base 3 "is_even" sis_even ["load"] false W_is_even) : Dw P wd K mg base 4 "must_be_even" smust_be_even ["load"] false W_must_be_even := by
  have body : ∀ (cdv : Value) (A : Around) (outer : List PySem.Env) (s : Shared) (H : Hp) (E : XK), Room 3 (A.deeper (PyProof.Rows.envOfC "must_be_even" (defScope smust_be_even) s.heap.objs.size f cdv)) → ∀ as : List PyData, as.length + (if false then 1 else 0) = (["load"] : List Str).length →
      PBk' K (cxOf (L2.CX P wd) P wd K mg base Nmust_be_even "must_be_even" (defScope smust_be_even) f cdv A outer s H E) (ctOf Nmust_be_even false E) (argE (if false then 1 else 0) as) (defBody smust_be_even) (fun _ : Unit => []) (fun r : Empty => nomatch r) (wb_must_be_even as) := by
    intro cdv A outer s H E hr as hl
    have nd := scmust_be_even.nd
    match as, hl with
    | [a_load], _ => exact (PBk'.castG (Δ := [(0, .dat a_load)]) (pbk_ifret' (pxb_not (PX.test (px_call D_is_even (hr.mono (by first | decide | omega)) (takes_of rfl rfl rfl rfl) (pxs_cons (pxv 0 rfl) pxs_nil)))) (pbk_raise0 X_Uneven (takes_of rfl rfl rfl rfl)) (pbk_end (s := ()) [] rfl)) rfl)
  exact ⟨⟨f, fd, ok_W false wb_must_be_even F scmust_be_even (by decide) (by decide) body, m, kp, b, F⟩, mono_of_body (ps := ["load"]) false wb_must_be_even (by decide) body (by decide)⟩
theorem D__law_any_even {f : Addr} {fd : FuncData} (F : Fun K "_law_any_even" "_law_any_even" s_law_any_even f fd) (m : mg "_law_any_even" = some (.ref f)) (kp : PySem.W.keepIn K (.ref f) = true) (b : Binds K fd ["deck", "rows"] []) (D__law_draw : Dw P wd K mg base 1 "_law_draw" s_law_draw ["deck", "many"] true W__law_draw) (D__law_even : Dw P wd K mg base 3 "_law_even" s_law_even ["deck", "rows"] true W__law_even) (D__law_great_even : Dw P wd K mg base 3 "_law_great_even" s_law_great_even ["deck"] true W__law_great_even) (D__law_hard_even : Dw P wd K mg base 3 "_law_hard_even" s_law_hard_even ["deck"] true W__law_hard_even) : Dw P wd K mg base 4 "_law_any_even" s_law_any_even ["deck", "rows"] true W__law_any_even := by
  have body : ∀ (cdv : Value) (A : Around) (outer : List PySem.Env) (s : Shared) (H : Hp) (E : XK), Room 3 (A.deeper (PyProof.Rows.envOfC "_law_any_even" (defScope s_law_any_even) s.heap.objs.size f cdv)) → ∀ as : List PyData, as.length + (if true then 1 else 0) = (["deck", "rows"] : List Str).length →
      PBk' K (cxOf (L2.CX P wd) P wd K mg base N_law_any_even "_law_any_even" (defScope s_law_any_even) f cdv A outer s H E) (ctOf N_law_any_even true E) (argE (if true then 1 else 0) as) (defBody s_law_any_even) (fun _ : Unit => []) (fun r : Empty => nomatch r) (wb__law_any_even as) := by
    intro cdv A outer s H E hr as hl
    have nd := sc_law_any_even.nd
    match as, hl with
    | [a_rows], _ => exact (PBk'.castG (Δ := [(1, .dat a_rows)]) (pbk_set (i := 2) nd rfl (Or.inl rfl) (ltb rfl) rfl (px_if (pxb_cmp op_gt ok_gtM (pxv 1 rfl) px_int (by rfl)) (px_callD D__law_draw (hr.mono (by first | decide | omega)) (takes_of rfl rfl rfl rfl) (pxdv 0 rfl (pxs_cons px_int pxs_nil))) px_int) (fun x_way1 => (PBk'.castG (Δ := [(1, .dat a_rows), (2, .dat x_way1)]) (pbk_ifret' (pxb_cmp (op_eqA hr.units) ok_eqM (pxv 2 rfl) px_int (by rfl)) (pbk_ret (px_callD D__law_great_even (hr.mono (by first | decide | omega)) (takes_of rfl rfl rfl rfl) (pxdv 0 rfl pxs_nil))) (pbk_ret (px_if (pxb_cmp (op_eqA hr.units) ok_eqM (pxv 2 rfl) px_int (by rfl)) (px_callD D__law_hard_even (hr.mono (by first | decide | omega)) (takes_of rfl rfl rfl rfl) (pxdv 0 rfl pxs_nil)) (px_callD D__law_even (hr.mono (by first | decide | omega)) (takes_of rfl rfl rfl rfl) (pxdv 0 rfl (pxs_cons (pxv 1 rfl) pxs_nil)))))) rfl))) rfl)
  exact ⟨⟨f, fd, ok_W true wb__law_any_even F sc_law_any_even (by decide) (by decide) body, m, kp, b, F⟩, mono_of_body (ps := ["deck", "rows"]) true wb__law_any_even (by decide) body (by decide)⟩
theorem D__law_any_load {f : Addr} {fd : FuncData} (F : Fun K "_law_any_load" "_law_any_load" s_law_any_load f fd) (m : mg "_law_any_load" = some (.ref f)) (kp : PySem.W.keepIn K (.ref f) = true) (b : Binds K fd ["deck", "rows"] []) (h_tuple : mg "tuple" = none) (D__law_draw : Dw P wd K mg base 1 "_law_draw" s_law_draw ["deck", "many"] true W__law_draw) (D__law_great_even : Dw P wd K mg base 3 "_law_great_even" s_law_great_even ["deck"] true W__law_great_even) (D__law_hard_even : Dw P wd K mg base 3 "_law_hard_even" s_law_hard_even ["deck"] true W__law_hard_even) (D__law_load : Dw P wd K mg base 3 "_law_load" s_law_load ["deck", "rows"] true W__law_load) : Dw P wd K mg base 4 "_law_any_load" s_law_any_load ["deck", "rows"] true W__law_any_load := by
  have body : ∀ (cdv : Value) (A : Around) (outer : List PySem.Env) (s : Shared) (H : Hp) (E : XK), Room 3 (A.deeper (PyProof.Rows.envOfC "_law_any_load" (defScope s_law_any_load) s.heap.objs.size f cdv)) → ∀ as : List PyData, as.length + (if true then 1 else 0) = (["deck", "rows"] : List Str).length →
      PBk' K (cxOf (L2.CX P wd) P wd K mg base N_law_any_load "_law_any_load" (defScope s_law_any_load) f cdv A outer s H E) (ctOf N_law_any_load true E) (argE (if true then 1 else 0) as) (defBody s_law_any_load) (fun _ : Unit => []) (fun r : Empty => nomatch r) (wb__law_any_load as) := by
    intro cdv A outer s H E hr as hl
    have nd := sc_law_any_load.nd
    match as, hl with
    | [a_rows], _ => exact (PBk'.castG (Δ := [(1, .dat a_rows)]) (pbk_set (i := 2) nd rfl (Or.inl rfl) (ltb rfl) rfl (px_if (pxb_cmp op_gt ok_gtM (pxv 1 rfl) px_int (by rfl)) (px_callD D__law_draw (hr.mono (by first | decide | omega)) (takes_of rfl rfl rfl rfl) (pxdv 0 rfl (pxs_cons px_int pxs_nil))) px_int) (fun x_way1 => (PBk'.castG (Δ := [(1, .dat a_rows), (2, .dat x_way1)]) (pbk_ifret' (pxb_cmp (op_eqA hr.units) ok_eqM (pxv 2 rfl) px_int (by rfl)) (pbk_ret (px_callD D__law_great_even (hr.mono (by first | decide | omega)) (takes_of rfl rfl rfl rfl) (pxdv 0 rfl pxs_nil))) (pbk_ifret' (pxb_cmp (op_eqA hr.units) ok_eqM (pxv 2 rfl) px_int (by rfl)) (pbk_two (i := 3) (j := 4) nd rfl rfl (Or.inl rfl) (Or.inl rfl) (ltb rfl) (ltb rfl) (by decide) rfl rfl rfl (px_callD D__law_hard_even (hr.mono (by first | decide | omega)) (takes_of rfl rfl rfl rfl) (pxdv 0 rfl pxs_nil)) (fun r9 => (PBk'.castG (Δ := [(1, .dat a_rows), (2, .dat x_way1), (3, .dat r9.1), (4, .dat r9.2)]) (pbk_ret (px_tup (pxs_cons (pxv 3 rfl) (pxs_cons (px_callTy (ktuple K) ok_tupleM (pxs_cons (PXf.px (pfw_lc (own := [("row", 5)]) rfl nd (PItF.it (it_seq (pxv 4 rfl))) (blkOk_by (N := N_law_any_load) (sc := defScope s_law_any_load) (by decide +kernel)) (fun _ _ _ _ _ => (pg_name (i := 5) nd rfl (Or.inl rfl))) (tw1 (ltb rfl)) rfl rfl (fun p11 _ _ _ _ _ => (pxt_one (pxb_cmp op_gt ok_gtM (px_callD D__law_draw (hr.mono (by first | decide | omega)) takes0 (pxdv 0 rfl (pxs_cons px_int pxs_nil))) px_int (by rfl)))) (fun p11 _ _ _ _ _ => (pxv 5 rfl)))) pxs_nil) (by rfl) h_tuple (by decide +kernel)) pxs_nil)))) rfl))) (pbk_ret (px_callD D__law_load (hr.mono (by first | decide | omega)) (takes_of rfl rfl rfl rfl) (pxdv 0 rfl (pxs_cons (pxv 1 rfl) pxs_nil)))))) rfl))) rfl)
  exact ⟨⟨f, fd, ok_W true wb__law_any_load F sc_law_any_load (by decide) (by decide) body, m, kp, b, F⟩, mono_of_body (ps := ["deck", "rows"]) true wb__law_any_load (by decide) body (by decide)⟩
theorem D_halved {f : Addr} {fd : FuncData} (F : Fun K "halved" "halved" shalved f fd) (m : mg "halved" = some (.ref f)) (kp : PySem.W.keepIn K (.ref f) = true) (b : Binds K fd ["load", "order", "signs"] []) (h_tuple : mg "tuple" = none) (h_zip : mg "zip" = none) (D_must_be_even : Dw P wd K mg base 4 "must_be_even" smust_be_even ["load"] false W_must_be_even) : Dw P wd K mg base 5 "halved" shalved ["load", "order", "signs"] false W_halved := by
  have body : ∀ (cdv : Value) (A : Around) (outer : List PySem.Env) (s : Shared) (H : Hp) (E : XK), Room 4 (A.deeper (PyProof.Rows.envOfC "halved" (defScope shalved) s.heap.objs.size f cdv)) → ∀ as : List PyData, as.length + (if false then 1 else 0) = (["load", "order", "signs"] : List Str).length →
      PBk' K (cxOf (L2.CX P wd) P wd K mg base Nhalved "halved" (defScope shalved) f cdv A outer s H E) (ctOf Nhalved false E) (argE (if false then 1 else 0) as) (defBody shalved) (fun _ : Unit => []) (fun r : Empty => nomatch r) (wb_halved as) := by
    intro cdv A outer s H E hr as hl
    have nd := schalved.nd
    match as, hl with
    | [a_load, a_order, a_signs], _ => exact (PBk'.castG (Δ := [(0, .dat a_load), (1, .dat a_order), (2, .dat a_signs)]) (pbk_expr (px_call D_must_be_even (hr.mono (by first | decide | omega)) (takes_of rfl rfl rfl rfl) (pxs_cons (pxv 0 rfl) pxs_nil)) (pbk_setL (i := 3) (own := [("index", 5), ("sign", 6)]) rfl nd rfl rfl (ltb rfl) rfl (sw_true rfl rfl rfl (by decide +kernel)) (PItF.it (it_zip (pxv 1 rfl) (pxv 2 rfl) (by rfl) h_zip)) (blkOk_by (N := Nhalved) (sc := defScope shalved) (by decide +kernel)) (fun _ _ _ _ _ => (pg_tup rfl (pgs_cons (pg_name (i := 5) nd rfl (Or.inl rfl)) (pgs_cons (pg_name (i := 6) nd rfl (Or.inl rfl)) pgs_nil)))) (tw2 (ltb rfl) (ltb rfl) (by decide)) rfl rfl (fun p4 _ _ _ _ _ => (pxt_one (pxb_cmp (op_eqA hr.units) ok_eqM (pxv 6 rfl) px_int (by rfl)))) (fun p4 _ _ _ _ _ => (pxv 5 rfl)) (fun x_onward1 => (PBk'.castG (Δ := [(0, .dat a_load), (1, .dat a_order), (2, .dat a_signs), (3, .own x_onward1)]) (pbk_setL (i := 4) (own := [("index", 5), ("sign", 6)]) rfl nd rfl rfl (ltb rfl) rfl (sw_true rfl rfl rfl (by decide +kernel)) (PItF.it (it_zip (pxv 1 rfl) (pxv 2 rfl) (by rfl) h_zip)) (blkOk_by (N := Nhalved) (sc := defScope shalved) (by decide +kernel)) (fun _ _ _ _ _ => (pg_tup rfl (pgs_cons (pg_name (i := 5) nd rfl (Or.inl rfl)) (pgs_cons (pg_name (i := 6) nd rfl (Or.inl rfl)) pgs_nil)))) (tw2 (ltb rfl) (ltb rfl) (by decide)) rfl rfl (fun p10 _ _ _ _ _ => (pxt_one (pxb_cmp (op_eqA hr.units) ok_eqM (pxv 6 rfl) (px_un un_neg ok_negM px_int) (by rfl)))) (fun p10 _ _ _ _ _ => (pxv 5 rfl)) (fun x_back7 => (PBk'.castG (Δ := [(0, .dat a_load), (1, .dat a_order), (2, .dat a_signs), (3, .own x_onward1), (4, .own x_back7)]) (pbk_frz (i := 3) rfl (PBk'.castG (Δ := [(0, .dat a_load), (1, .dat a_order), (2, .dat a_signs), (3, .dat (PyData.list x_onward1)), (4, .own x_back7)]) (pbk_frz (i := 4) rfl (PBk'.castG (Δ := [(0, .dat a_load), (1, .dat a_order), (2, .dat a_signs), (3, .dat (PyData.list x_onward1)), (4, .dat (PyData.list x_back7))]) (pbk_ret (px_callTy (ktuple K) ok_tupleM (pxs_cons (PXf.px (pfw_cat (pxv 3 rfl) (px_revL (pxv 4 rfl)))) pxs_nil) (by rfl) h_tuple (by decide +kernel))) rfl)) rfl)) rfl))) rfl)))) rfl)
  exact ⟨⟨f, fd, ok_W false wb_halved F schalved (by decide) (by decide) body, m, kp, b, F⟩, mono_of_body (ps := ["load", "order", "signs"]) false wb_halved (by decide) body (by decide)⟩
theorem D__law_told {f : Addr} {fd : FuncData} (F : Fun K "_law_told" "_law_told" s_law_told f fd) (m : mg "_law_told" = some (.ref f)) (kp : PySem.W.keepIn K (.ref f) = true) (b : Binds K fd ["load", "order", "signs"] []) (I : IsaOk K mg isaL) (g_Uneven_ : ∃ D, mg "Uneven" = some (.ref D)) (D_halved : Dw P wd K mg base 5 "halved" shalved ["load", "order", "signs"] false W_halved) : Dw P wd K mg base 6 "_law_told" s_law_told ["load", "order", "signs"] false W__law_told := by
  have body : ∀ (cdv : Value) (A : Around) (outer : List PySem.Env) (s : Shared) (H : Hp) (E : XK), Room 5 (A.deeper (PyProof.Rows.envOfC "_law_told" (defScope s_law_told) s.heap.objs.size f cdv)) → ∀ as : List PyData, as.length + (if false then 1 else 0) = (["load", "order", "signs"] : List Str).length →
      PBk' K (cxOf (L2.CX P wd) P wd K mg base N_law_told "_law_told" (defScope s_law_told) f cdv A outer s H E) (ctOf N_law_told false E) (argE (if false then 1 else 0) as) (defBody s_law_told) (fun _ : Unit => []) (fun r : Empty => nomatch r) (wb__law_told as) := by
    intro cdv A outer s H E hr as hl
    have nd := sc_law_told.nd
    match as, hl with
    | [a_load, a_order, a_signs], _ => exact (PBk'.castG (Δ := [(0, .dat a_load), (1, .dat a_order), (2, .dat a_signs)]) (pbk_tryR I nd (show HdW _ _ H__law_told from (HdW.bare (by rfl) (by decide) g_Uneven_ HdW.nil)) (fun W pn xe tkB => (px_call D_halved (hr.mono (by first | decide | omega)) tkB (pxs_cons (pxv 0 rfl) (pxs_cons (pxv 1 rfl) (pxs_cons (pxv 2 rfl) pxs_nil)))))) rfl)
  exact ⟨⟨f, fd, ok_W false wb__law_told F sc_law_told (by decide) (by decide) body, m, kp, b, F⟩, mono_of_body (ps := ["load", "order", "signs"]) false wb__law_told (by decide) body (by decide)⟩
end
end Nk
set_option Elab.async false
set_option linter.all false
set_option maxRecDepth 100000
set_option maxHeartbeats 4000000
namespace Nk
open PySem L2
section
variable {P : Program} {wd : World} {K : PySem.W.Frag} {mg : Str → Option Value} {base : Heap}
theorem ok_lawW {f : Addr} {fd : FuncData} (F : Fun K "law" "law" slaw f fd) (D__law_deck : Dk P wd K mg base 1 "_law_deck" ["script"] (spDeck K)) (h_len : mg "len" = none) (h_list : mg "list" = none) (h_range : mg "range" = none) (h_repr : mg "repr" = none) (h_tuple : mg "tuple" = none) (D__law_any_even : Dw P wd K mg base 4 "_law_any_even" s_law_any_even ["deck", "rows"] true W__law_any_even) (D__law_any_load : Dw P wd K mg base 4 "_law_any_load" s_law_any_load ["deck", "rows"] true W__law_any_load) (D__law_halved : Dw P wd K mg base 1 "_law_halved" s_law_halved ["order", "signs"] false W__law_halved) (D__law_mixed : Dw P wd K mg base 2 "_law_mixed" s_law_mixed ["deck", "items"] true W__law_mixed) (D__law_one : Dw P wd K mg base 2 "_law_one" s_law_one ["deck", "items"] true W__law_one) (D__law_sum : Dw P wd K mg base 1 "_law_sum" s_law_sum ["kinds", "rows"] false W__law_sum) (D__law_told : Dw P wd K mg base 6 "_law_told" s_law_told ["load", "order", "signs"] false W__law_told) (D_along : Dw P wd K mg base 1 "along" salong ["load", "order"] false W_along) (z : wb_law lawQ fun _ => False) : LawOk P wd K mg base 7 f fd ["script"] (spLawW K []) := by
  refine law_W [] F sclaw (by decide) fun cdv ec s H hr => ?_
  have nd := sclaw.nd
  exact law_deck1 (i := 1) (n := Nlaw.length) D__law_deck (hr.mono (by first | decide | omega)) sclaw.nd rfl (Or.inr rfl) (ltb rfl) rfl (by first | exact Or.inl rfl | exact Or.inr (Or.inl rfl) | exact Or.inr (Or.inr rfl)) (pbk_for (GL := fun s1 : Unit => []) (s0 := ()) [] PassesOwn.never rfl (it_range px_int (by rfl) h_range) (pg_name (i := 2) nd rfl (Or.inl rfl)) (tw1 (ltb rfl)) rfl (fun _ => rfl) rfl (fun p3 s2 => (pbk_set (i := 3) nd rfl (Or.inr rfl) (ltb rfl) rfl (px_if (pxb_cmp op_lt ok_ltM (px_op op_mod ok_modM (pxv 2 rfl) px_int) px_int (by rfl)) (px_callD D__law_any_even (hr.mono (by first | decide | omega)) takes0 (pxdv 1 rfl (pxs_cons (px_callD D__law_one (hr.mono (by first | decide | omega)) takes0 (pxdv 1 rfl (pxs_cons (PXf.px (pfw_lst (pxs_cons px_int (pxs_cons px_int (pxs_cons px_int pxs_nil))))) pxs_nil))) pxs_nil))) (px_callD D__law_any_load (hr.mono (by first | decide | omega)) takes0 (pxdv 1 rfl (pxs_cons px_int pxs_nil)))) (fun x_load4 => (PBk'.castG (Δ := [(2, .dat p3), (3, .dat x_load4)]) (pbk_set (i := 4) nd rfl (Or.inl rfl) (ltb rfl) rfl (px_callB (klen K) ok_lenM (pxs_cons (px_ix ix_A ok_ixM (pxv 3 rfl) px_int) pxs_nil) (by rfl) h_len (by decide +kernel)) (fun x_many10 => (PBk'.castG (Δ := [(2, .dat p3), (3, .dat x_load4), (4, .dat x_many10)]) (pbk_for (GL := fun s13 : Unit => [(2, .dat p3), (3, .dat x_load4), (4, .dat x_many10)]) (s0 := ()) [2, 3, 4] PassesOwn.never rfl (it_range px_int (by rfl) h_range) (pg_name (i := 5) nd rfl (Or.inl rfl)) (tw1 (ltb rfl)) rfl (fun _ => rfl) rfl (fun p15 s14 => (pbk_set (i := 6) nd rfl (Or.inl rfl) (ltb rfl) rfl (px_callTy (ktuple K) ok_tupleM (pxs_cons (px_callD D__law_mixed (hr.mono (by first | decide | omega)) takes0 (pxdv 1 rfl (pxs_cons (PXf.px (pfw_listRg (pxv 4 rfl) (by rfl) h_list (by rfl) h_range)) pxs_nil))) pxs_nil) (by rfl) h_tuple (by decide +kernel)) (fun x_order16 => (PBk'.castG (Δ := [(2, .dat p3), (3, .dat x_load4), (4, .dat x_many10), (5, .dat p15), (6, .dat x_order16)]) (pbk_set (i := 7) nd rfl (Or.inl rfl) (ltb rfl) rfl (px_callTy (ktuple K) ok_tupleM (pxs_cons (PXf.px (pfw_lc (own := [("own", 12)]) rfl nd (PItF.it (it_range (pxv 4 rfl) (by rfl) h_range)) (blkOk_by (N := Nlaw) (sc := defScope slaw) (by decide +kernel)) (fun _ _ _ _ _ => (pg_name (i := 12) nd rfl (Or.inl rfl))) (tw1 (ltb rfl)) rfl rfl (fun p18 _ _ _ _ _ => pxt_nil) (fun p18 _ _ _ _ _ => (px_callD D__law_one (hr.mono (by first | decide | omega)) takes0 (pxdv 1 rfl (pxs_cons (PXf.px (pfw_lst (pxs_cons px_int (pxs_cons (px_un un_neg ok_negM px_int) pxs_nil)))) pxs_nil)))))) pxs_nil) (by rfl) h_tuple (by decide +kernel)) (fun x_signs17 => (PBk'.castG (Δ := [(2, .dat p3), (3, .dat x_load4), (4, .dat x_many10), (5, .dat p15), (6, .dat x_order16), (7, .dat x_signs17)]) (pbk_set (i := 7) nd rfl (Or.inl rfl) (ltb rfl) rfl (px_ix ix_A ok_ixM (PXf.px (pfw_lst (pxs_cons (pxv 7 rfl) (pxs_cons (pxv 7 rfl) (pxs_cons (px_op op_mulA ok_mulM (px_tup (pxs_cons px_int pxs_nil)) (pxv 4 rfl)) (pxs_cons (px_op op_mulA ok_mulM (px_tup (pxs_cons (px_un un_neg ok_negM px_int) pxs_nil)) (pxv 4 rfl)) pxs_nil)))))) (pxv 5 rfl)) (fun x_signs20 => (PBk'.castG (Δ := [(2, .dat p3), (3, .dat x_load4), (4, .dat x_many10), (5, .dat p15), (6, .dat x_order16), (7, .dat x_signs20)]) (pbk_set (i := 8) nd rfl (Or.inl rfl) (ltb rfl) rfl (px_callB (krepr K rfl hr.units) ok_reprM (pxs_cons (PXf.px (pfw_lst (pxs_cons (pxv 3 rfl) (pxs_cons (pxv 6 rfl) (pxs_cons (pxv 7 rfl) pxs_nil))))) pxs_nil) (by rfl) h_repr (by decide +kernel)) (fun x_shown28 => (PBk'.castG (Δ := [(2, .dat p3), (3, .dat x_load4), (4, .dat x_many10), (5, .dat p15), (6, .dat x_order16), (7, .dat x_signs20), (8, .dat x_shown28)]) (pbk_set (i := 9) nd rfl (Or.inl rfl) (ltb rfl) rfl (px_tup (pxs_cons (px_ix ix_A ok_ixM (pxv 3 rfl) px_int) (pxs_cons (px_callTy (ktuple K) ok_tupleM (pxs_cons (PXf.px (pfw_lc (own := [("index", 13)]) rfl nd (PItF.it (it_seq (pxv 6 rfl))) (blkOk_by (N := Nlaw) (sc := defScope slaw) (by decide +kernel)) (fun _ _ _ _ _ => (pg_name (i := 13) nd rfl (Or.inl rfl))) (tw1 (ltb rfl)) rfl rfl (fun p31 _ _ _ _ _ => pxt_nil) (fun p31 _ _ _ _ _ => (px_ix ix_A ok_ixM (px_ix ix_A ok_ixM (pxv 3 rfl) px_int) (pxv 13 rfl))))) pxs_nil) (by rfl) h_tuple (by decide +kernel)) pxs_nil))) (fun x_moved30 => (PBk'.castG (Δ := [(2, .dat p3), (3, .dat x_load4), (4, .dat x_many10), (5, .dat p15), (6, .dat x_order16), (7, .dat x_signs20), (8, .dat x_shown28), (9, .dat x_moved30)]) (pbk_set (i := 10) nd rfl (Or.inl rfl) (ltb rfl) rfl (px_cmp (op_eqA hr.units) ok_eqM (px_call D__law_sum (hr.mono (by first | decide | omega)) takes0 (pxs_cons (px_ix ix_A ok_ixM (pxv 3 rfl) px_int) (pxs_cons (px_ix ix_A ok_ixM (pxv 3 rfl) px_int) pxs_nil))) (px_op op_mulA ok_mulM (px_tup (pxs_cons px_int pxs_nil)) (px_ix ix_A ok_ixM (pxv 3 rfl) px_int)) (by rfl)) (fun x_is_even_v38 => (PBk'.castG (Δ := [(2, .dat p3), (3, .dat x_load4), (4, .dat x_many10), (5, .dat p15), (6, .dat x_order16), (7, .dat x_signs20), (8, .dat x_shown28), (9, .dat x_moved30), (10, .dat x_is_even_v38)]) (pbk_set (i := 11) nd rfl (Or.inl rfl) (ltb rfl) rfl (px_if (PX.truth (pxv 10 rfl)) (px_call D__law_halved (hr.mono (by first | decide | omega)) takes0 (pxs_cons (pxv 6 rfl) (pxs_cons (pxv 7 rfl) pxs_nil))) px_str) (fun x_due49 => (PBk'.castG (Δ := [(2, .dat p3), (3, .dat x_load4), (4, .dat x_many10), (5, .dat p15), (6, .dat x_order16), (7, .dat x_signs20), (8, .dat x_shown28), (9, .dat x_moved30), (10, .dat x_is_even_v38), (11, .dat x_due49)]) (pbk_ifret' (pxb_cmp (op_neA hr.units) ok_neM (px_callB (krepr K rfl hr.units) ok_reprM (pxs_cons (PXf.px (pfw_lst (pxs_cons (px_call D_along (hr.mono (by first | decide | omega)) takes0 (pxs_cons (pxv 3 rfl) (pxs_cons (pxv 6 rfl) pxs_nil))) (pxs_cons (px_call D__law_told (hr.mono (by first | decide | omega)) takes0 (pxs_cons (pxv 3 rfl) (pxs_cons (pxv 6 rfl) (pxs_cons (pxv 7 rfl) pxs_nil)))) pxs_nil)))) pxs_nil) (by rfl) h_repr (by decide +kernel)) (px_callB (krepr K rfl hr.units) ok_reprM (pxs_cons (PXf.px (pfw_lst (pxs_cons (pxv 9 rfl) (pxs_cons (pxv 11 rfl) pxs_nil)))) pxs_nil) (by rfl) h_repr (by decide +kernel)) (by rfl)) (pbk_ret px_bl) (pbk_ifret' (pxb_cmp (op_neA hr.units) ok_neM (px_callB (krepr K rfl hr.units) ok_reprM (pxs_cons (PXf.px (pfw_lst (pxs_cons (pxv 3 rfl) (pxs_cons (pxv 6 rfl) (pxs_cons (pxv 7 rfl) pxs_nil))))) pxs_nil) (by rfl) h_repr (by decide +kernel)) (pxv 8 rfl) (by rfl)) (pbk_ret px_bl) (pbk_end (s := ()) [2, 3, 4] rfl))) rfl))) rfl))) rfl))) rfl))) rfl))) rfl))) rfl)))) (fun s13 => (pbk_end (s := ()) [] rfl))) rfl))) rfl)))) (fun s1 => (pbk_ret px_bl))) z
end
end Nk
set_option Elab.async false
set_option linter.all false
set_option maxRecDepth 100000
set_option maxHeartbeats 4000000
namespace Nk
open PySem L2
/-! rows, loads -/
def rowD (r : List Int) : PyData := .tuple (r.map .int)
def rowsD (rs : List (List Int)) : List PyData := rs.map rowD
def loadD (kinds : Nat) (rs : List (List Int)) : PyData := .tuple [.int kinds, .tuple (rowsD rs)]
theorem rowsD_length (rs : List (List Int)) : (rowsD rs).length = rs.length := List.length_map ..
structure RowOk (kinds : Nat) (b : Int) (r : List Int) : Prop where
  len : r.length = kinds
  bd : ∀ x ∈ r, -b ≤ x ∧ x ≤ b
structure LoadOk (n : Nat) (b : Int) (kinds : Nat) (rs : List (List Int)) : Prop where
  k1 : 1 ≤ kinds
  k4 : kinds ≤ 4
  len : rs.length ≤ n
  rows : ∀ r ∈ rs, RowOk kinds b r
theorem draw_does {m : Int} (h : 0 < m) (h2 : m < 2 ^ 64) : Does (W__law_draw [.int m]) fun d => ∃ r : Int, d = .int r ∧ 0 ≤ r ∧ r < m :=
  fun k x q => ⟨⟨h, h2⟩, fun r hr => q _ ⟨r, rfl, hr.1, hr.2⟩⟩
theorem all2_ints {α : Type} {P : Int → Prop} : ∀ {as : List α} {ds : List PyData}, All2 (fun _ d => ∃ x : Int, d = .int x ∧ P x) as ds → ∃ r : List Int, ds = r.map .int ∧ r.length = as.length ∧ ∀ x ∈ r, P x
  | _, _, .nil => ⟨[], rfl, rfl, fun _ h => nomatch h⟩
  | _, _, .cons ⟨x, rfl, hx⟩ t => by
    obtain ⟨r, rfl, h2, h3⟩ := all2_ints t
    refine ⟨x :: r, rfl, by rw [List.length_cons, List.length_cons, h2], fun y hy => ?_⟩
    rcases List.mem_cons.mp hy with rfl | hy
    · exact hx
    · exact h3 y hy
theorem all2_rows {α : Type} {P : List Int → Prop} : ∀ {as : List α} {ds : List PyData}, All2 (fun _ d => ∃ x : List Int, d = rowD x ∧ P x) as ds → ∃ rs : List (List Int), ds = rowsD rs ∧ rs.length = as.length ∧ ∀ x ∈ rs, P x
  | _, _, .nil => ⟨[], rfl, rfl, fun _ h => nomatch h⟩
  | _, _, .cons ⟨x, rfl, hx⟩ t => by
    obtain ⟨r, rfl, h2, h3⟩ := all2_rows t
    refine ⟨x :: r, rfl, by rw [List.length_cons, List.length_cons, h2], fun y hy => ?_⟩
    rcases List.mem_cons.mp hy with rfl | hy
    · exact hx
    · exact h3 y hy
theorem one_does (ds : List PyData) (h : ds ≠ []) (h2 : ds.length ≤ 100000) : Does (W__law_one [.list ds]) (· ∈ ds) := by
  have h0 : 0 < ds.length := List.length_pos_iff.mpr h
  simp [W__law_one, onE, wb__law_one]
  refine Does.bind (draw_does (by omega) (by omega)) fun d hd => ?_
  obtain ⟨r, rfl, r0, r1⟩ := hd
  obtain ⟨x, hx⟩ : ∃ x, ds[r.toNat]? = some x := ⟨ds[r.toNat]'(by omega), List.getElem?_eq_getElem _⟩
  have : r = ((r.toNat : Nat) : Int) := by omega
  rw [this, ixLst_at hx]
  exact .pure (List.mem_of_getElem? hx)
theorem row_does {kinds : Nat} {most : Int} (h1 : kinds ≤ 1000) (h0 : 0 ≤ most) (h2 : most ≤ 10 ^ 9) : Does (W__law_row [.int kinds, .int most]) fun d => ∃ r, d = rowD r ∧ RowOk kinds most r := by
  simp [W__law_row, onE, wb__law_row]
  rw [mul64 (by omega) (by omega), range_nat (by omega)]
  simp
  refine Does.bind (lcF_does rfl (by simp; omega) (lcM_does (enc := fun (k : Nat) => PyData.int (k : Int)) (j := fun (k : Nat) => PyData.int (k : Int)) (P := fun _ d => ∃ x : Int, d = .int x ∧ -most ≤ x ∧ x ≤ most) (List.range kinds) fun a _ => ⟨rfl, rfl, ?_⟩)) fun ds hds => ?_
  · refine Does.bind (draw_does (by omega) (by omega)) fun d hd => ?_
    obtain ⟨r, rfl, r0, r1⟩ := hd
    exact .pure ⟨_, rfl, by omega, by omega⟩
  · obtain ⟨r, rfl, hl, hb⟩ := all2_ints hds
    exact .pure ⟨r, rfl, by simpa using hl, hb⟩
theorem load_does {rows : Nat} (h : rows ≤ 1000) : Does (W__law_load [.int rows]) fun d => ∃ kinds rs, d = loadD kinds rs ∧ LoadOk rows 1000000 kinds rs := by
  simp [W__law_load, onE, wb__law_load]
  rw [pow_small (by decide) (by decide) (by decide)]
  refine Does.bind (draw_does (by decide) (by decide)) fun d1 h1 => ?_
  obtain ⟨r1, rfl, r10, r11⟩ := h1
  obtain ⟨k, rfl⟩ : ∃ k : Nat, r1 = k := ⟨r1.toNat, by omega⟩
  simp
  refine Does.bind (one_does _ (by simp) (by decide)) fun d2 h2 => ?_
  have hm : ∃ m : Int, d2 = .int m ∧ 0 ≤ m ∧ m ≤ 1000000 := by
    simp at h2
    rcases h2 with rfl | rfl | rfl | rfl | rfl | rfl <;> exact ⟨_, rfl, by decide, by decide⟩
  obtain ⟨m, rfl, m0, m1⟩ := hm
  simp [dec2]
  refine Does.bind (draw_does (by omega) (by omega)) fun d3 h3 => ?_
  obtain ⟨r3, rfl, r30, r31⟩ := h3
  obtain ⟨n, rfl⟩ : ∃ n : Nat, r3 = n := ⟨r3.toNat, by omega⟩
  rw [range_nat (by omega)]
  have e : (1 : Int) + (k : Int) = ((1 + k : Nat) : Int) := by omega
  rw [e]
  refine Does.bind (lcF_does rfl (by simp; omega) (lcM_does (enc := fun (k : Nat) => PyData.int (k : Int)) (j := fun (k : Nat) => PyData.int (k : Int)) (P := fun _ d => ∃ r : List Int, d = rowD r ∧ RowOk (1 + k) 1000000 r) (List.range n) fun a _ => ⟨rfl, rfl, (row_does (by omega) m0 (by omega)).imp fun d ⟨r, e, hr⟩ => ⟨r, e, hr.len, fun x hx => ⟨by have := (hr.bd x hx).1; omega, by have := (hr.bd x hx).2; omega⟩⟩⟩)) fun ds hds => ?_
  obtain ⟨rs, rfl, hl, hb⟩ := all2_rows hds
  exact .pure ⟨1 + k, rs, rfl, by omega, by omega, by simp at hl; omega, hb⟩
end Nk
set_option Elab.async false
set_option linter.all false
set_option maxRecDepth 100000
set_option maxHeartbeats 4000000
namespace Nk
open PySem L2
/-! rows of whole numbers: size, sum -/
theorem maxAI_ints {ns : List Int} (h : ns ≠ []) : maxAI (ns.map .int) = pureT (.int (mxD 0 ns)) := by
  unfold maxAI
  rw [asInts_map]
  show guardT _ _ = _
  rw [guard_ok h]
theorem natsD_row {r : List Int} {p : Nat} (h : p < r.length) : ixM (rowD r) (.int (p : Nat)) = pureT (.int (r.getD p 0)) := by
  unfold rowD
  refine ixT_at ?_
  rw [List.getElem?_map, List.getElem?_eq_getElem h, List.getD_eq_getElem?_getD, List.getElem?_eq_getElem h]
  rfl
def sizeR (r : List Int) : Int := mxD 0 (r.map absI)
theorem itemsR (r : List Int) : itemsT (rowD r) = pureT (r.map .int) := rfl
theorem abs_items (r : List Int) (hl : r.length ≤ 100000) : lcF (itemsT (rowD r)) dec1 (fun _ => pureT true) (fun p => absM p) = pureT ((r.map absI).map .int) := by
  rw [lcF_map (it := itemsT (rowD r)) (enc := PyData.int) (as := r) (g := fun i => .int (absI i)) rfl hl fun i _ => rfl]
  rw [List.map_map]
  rfl
theorem mxL_cons (x : Int) (ys : List Int) (h : 0 ≤ x) : mxL 0 (x :: ys) = mxL x ys := by
  unfold mxL
  by_cases z : x > 0
  · rw [if_pos z]; cases ys <;> rfl
  · have : x = 0 := by omega
    rw [if_neg z, this]; cases ys <;> rfl
theorem absI_nn (i : Int) : 0 ≤ absI i := by unfold absI; split <;> omega
def addR (a b : List Int) : List Int := List.zipWith (· + ·) a b
theorem added_eq {a b : List Int} (hl : a.length ≤ 1000) : W_added [rowD a, rowD b] = pureT (rowD (addR a b)) := by
  have e1 : zipI (rowD a) (rowD b) = pureT ((a.zip b).map fun p => PyData.tuple [.int p.1, .int p.2]) := by
    show pureT (zipD _ _) = _
    rw [zipD_enc]
  simp only [W_added, onE, wb_added, e1, pure_bindT, bind_pureT, bind_bindT, raise_bindT, fail_bindT, guard_bindT, nox_pureT, nox_bindT, nox_guardT, nox_failT, nox_anyT, nox_noxT, onLs_lst, fnT_raise, goFl_raise, onL_raise, told_pure, tryR_pure, tryE_pure, nilT_eq, boolT_pure, ifR_pure, ifT_pure, andB_pure, orB_pure, notB_pure, andV_pure, orV_pure, notV_pure, goFl_nx, onL_inl, onL_inr, fnT_rt, fnT_bind, fnT_nx, onL_bind, consT_eq, lstV_eq, tupT_bind, boolT_bind, notB_bind, notV_bind, andB_bind, orB_bind, andV_bind, orV_bind, ifR_bind, ifT_bind, goFl_bind, lcF_bind, tup_0, tup_1, tup_2, tup_3, tup_4, guard_small, tupT_guard, boolT_guard, endE_rt, optT_some, un1_one, un2_two, isiM_eq, len_tup, len_lst, addM_int, subM_int, eq_int, ne_int, eq_str, ne_str, lt_int, le_int, gt_int, ge_int, ix_0, ix_1, items_tup, items_lst, tuple_lst, tuple_tup, isN_eq, notN_eq, sum_ints, maxD_ints, all_bools, abs_int, List.length_cons, List.length_nil, Nat.zero_add, Nat.reduceAdd, Nat.reduceLeDiff, if_true, if_false, Bool.false_eq_true, reduceIte]
  rw [lcF_eq (ds := (a.zip b).map fun p => .int (p.1 + p.2)) rfl (by rw [List.length_map, List.length_zip]; omega) (lcM_map (enc := fun (p : Int × Int) => PyData.tuple [.int p.1, .int p.2]) (j := fun p => (.int p.1, .int p.2)) (a.zip b) fun p _ => ⟨rfl, rfl, rfl⟩)]
  simp only [pure_bindT, bind_pureT, bind_bindT, raise_bindT, fail_bindT, guard_bindT, nox_pureT, nox_bindT, nox_guardT, nox_failT, nox_anyT, nox_noxT, onLs_lst, fnT_raise, goFl_raise, onL_raise, told_pure, tryR_pure, tryE_pure, nilT_eq, boolT_pure, ifR_pure, ifT_pure, andB_pure, orB_pure, notB_pure, andV_pure, orV_pure, notV_pure, goFl_nx, onL_inl, onL_inr, fnT_rt, fnT_bind, fnT_nx, onL_bind, consT_eq, lstV_eq, tupT_bind, boolT_bind, notB_bind, notV_bind, andB_bind, orB_bind, andV_bind, orV_bind, ifR_bind, ifT_bind, goFl_bind, lcF_bind, tup_0, tup_1, tup_2, tup_3, tup_4, guard_small, tupT_guard, boolT_guard, endE_rt, optT_some, un1_one, un2_two, isiM_eq, len_tup, len_lst, addM_int, subM_int, eq_int, ne_int, eq_str, ne_str, lt_int, le_int, gt_int, ge_int, ix_0, ix_1, items_tup, items_lst, tuple_lst, tuple_tup, isN_eq, notN_eq, sum_ints, maxD_ints, all_bools, abs_int, List.length_cons, List.length_nil, Nat.zero_add, Nat.reduceAdd, Nat.reduceLeDiff, if_true, if_false, Bool.false_eq_true, reduceIte]
  unfold rowD addR
  congr 2
  clear hl e1
  induction a generalizing b with
  | nil => rfl
  | cons x a ih =>
    cases b with
    | nil => rfl
    | cons y b => rw [List.zip_cons_cons, List.map_cons, ih, List.zipWith_cons_cons, List.map_cons]
def sumR (kinds : Nat) (rs : List (List Int)) : List Int := (List.range kinds).map fun k => (rs.map fun r => r.getD k 0).sum
theorem law_sum_eq {kinds : Nat} {rs : List (List Int)} {d : PyData} (hd : itemsT d = pureT (rowsD rs)) (h : ∀ r ∈ rs, r.length = kinds) (hk : kinds ≤ 1000) (hl : rs.length ≤ 1000) : W__law_sum [.int (kinds : Nat), d] = pureT (rowD (sumR kinds rs)) := by
  simp only [W__law_sum, onE, wb__law_sum, range_nat (show kinds ≤ 1000000 by omega), pure_bindT, bind_pureT, bind_bindT, raise_bindT, fail_bindT, guard_bindT, nox_pureT, nox_bindT, nox_guardT, nox_failT, nox_anyT, nox_noxT, onLs_lst, fnT_raise, goFl_raise, onL_raise, told_pure, tryR_pure, tryE_pure, nilT_eq, boolT_pure, ifR_pure, ifT_pure, andB_pure, orB_pure, notB_pure, andV_pure, orV_pure, notV_pure, goFl_nx, onL_inl, onL_inr, fnT_rt, fnT_bind, fnT_nx, onL_bind, consT_eq, lstV_eq, tupT_bind, boolT_bind, notB_bind, notV_bind, andB_bind, orB_bind, andV_bind, orV_bind, ifR_bind, ifT_bind, goFl_bind, lcF_bind, tup_0, tup_1, tup_2, tup_3, tup_4, guard_small, tupT_guard, boolT_guard, endE_rt, optT_some, un1_one, un2_two, isiM_eq, len_tup, len_lst, addM_int, subM_int, eq_int, ne_int, eq_str, ne_str, lt_int, le_int, gt_int, ge_int, ix_0, ix_1, items_tup, items_lst, tuple_lst, tuple_tup, isN_eq, notN_eq, sum_ints, maxD_ints, all_bools, abs_int, List.length_cons, List.length_nil, Nat.zero_add, Nat.reduceAdd, Nat.reduceLeDiff, if_true, if_false, Bool.false_eq_true, reduceIte]
  rw [lcF_map (it := pureT ((List.range kinds).map fun (k : Nat) => PyData.int (k : Int))) (enc := fun (k : Nat) => PyData.int (k : Int)) (as := List.range kinds) (g := fun k => .int ((rs.map fun r => r.getD k 0).sum)) rfl (by rw [List.length_range]; omega) fun k hk2 => ?_]
  · simp only [pure_bindT, bind_pureT, bind_bindT, raise_bindT, fail_bindT, guard_bindT, nox_pureT, nox_bindT, nox_guardT, nox_failT, nox_anyT, nox_noxT, onLs_lst, fnT_raise, goFl_raise, onL_raise, told_pure, tryR_pure, tryE_pure, nilT_eq, boolT_pure, ifR_pure, ifT_pure, andB_pure, orB_pure, notB_pure, andV_pure, orV_pure, notV_pure, goFl_nx, onL_inl, onL_inr, fnT_rt, fnT_bind, fnT_nx, onL_bind, consT_eq, lstV_eq, tupT_bind, boolT_bind, notB_bind, notV_bind, andB_bind, orB_bind, andV_bind, orV_bind, ifR_bind, ifT_bind, goFl_bind, lcF_bind, tup_0, tup_1, tup_2, tup_3, tup_4, guard_small, tupT_guard, boolT_guard, endE_rt, optT_some, un1_one, un2_two, isiM_eq, len_tup, len_lst, addM_int, subM_int, eq_int, ne_int, eq_str, ne_str, lt_int, le_int, gt_int, ge_int, ix_0, ix_1, items_tup, items_lst, tuple_lst, tuple_tup, isN_eq, notN_eq, sum_ints, maxD_ints, all_bools, abs_int, List.length_cons, List.length_nil, Nat.zero_add, Nat.reduceAdd, Nat.reduceLeDiff, if_true, if_false, Bool.false_eq_true, reduceIte]
    unfold rowD sumR
    rw [List.map_map]
    rfl
  · rw [lcF_map (it := itemsT d) (enc := rowD) (as := rs) (g := fun r => .int (r.getD k 0)) (by rw [hd]; rfl) (by omega) fun r hr => ?_]
    · have := sum_ints (rs.map fun r => r.getD k 0)
      rw [List.map_map] at this
      simp only [pure_bindT, bind_pureT, bind_bindT, raise_bindT, fail_bindT, guard_bindT, nox_pureT, nox_bindT, nox_guardT, nox_failT, nox_anyT, nox_noxT, onLs_lst, fnT_raise, goFl_raise, onL_raise, told_pure, tryR_pure, tryE_pure, nilT_eq, boolT_pure, ifR_pure, ifT_pure, andB_pure, orB_pure, notB_pure, andV_pure, orV_pure, notV_pure, goFl_nx, onL_inl, onL_inr, fnT_rt, fnT_bind, fnT_nx, onL_bind, consT_eq, lstV_eq, tupT_bind, boolT_bind, notB_bind, notV_bind, andB_bind, orB_bind, andV_bind, orV_bind, ifR_bind, ifT_bind, goFl_bind, lcF_bind, tup_0, tup_1, tup_2, tup_3, tup_4, guard_small, tupT_guard, boolT_guard, endE_rt, optT_some, un1_one, un2_two, isiM_eq, len_tup, len_lst, addM_int, subM_int, eq_int, ne_int, eq_str, ne_str, lt_int, le_int, gt_int, ge_int, ix_0, ix_1, items_tup, items_lst, tuple_lst, tuple_tup, isN_eq, notN_eq, sum_ints, maxD_ints, all_bools, abs_int, List.length_cons, List.length_nil, Nat.zero_add, Nat.reduceAdd, Nat.reduceLeDiff, if_true, if_false, Bool.false_eq_true, reduceIte]
      exact this
    · have hkr : k < r.length := by rw [h r hr]; exact List.mem_range.mp hk2
      exact natsD_row hkr
theorem er_perm {α : Type} : ∀ (l : List α) (i : Nat) (h : i < l.length), (l[i] :: l.eraseIdx i).Perm l
  | a :: l, 0, _ => List.Perm.refl _
  | a :: l, i + 1, h => by
    rw [List.eraseIdx_cons_succ]
    have hi : i < l.length := by simpa using h
    exact (List.Perm.swap a l[i] _).trans ((er_perm l i hi).cons a)
theorem mixed_any {l : List PyData} (h : l.length ≤ 1000) : Does (W__law_mixed [.list l]) fun d => ∃ o : List PyData, d = .list o ∧ o.Perm l := by
  simp only [W__law_mixed, onE, wb__law_mixed, pure_bindT, bind_pureT, bind_bindT, raise_bindT, fail_bindT, guard_bindT, nox_pureT, nox_bindT, nox_guardT, nox_failT, nox_anyT, nox_noxT, onLs_lst, fnT_raise, goFl_raise, onL_raise, told_pure, tryR_pure, tryE_pure, nilT_eq, boolT_pure, ifR_pure, ifT_pure, andB_pure, orB_pure, notB_pure, andV_pure, orV_pure, notV_pure, goFl_nx, onL_inl, onL_inr, fnT_rt, fnT_bind, fnT_nx, onL_bind, consT_eq, lstV_eq, tupT_bind, boolT_bind, notB_bind, notV_bind, andB_bind, orB_bind, andV_bind, orV_bind, ifR_bind, ifT_bind, goFl_bind, lcF_bind, tup_0, tup_1, tup_2, tup_3, tup_4, guard_small, tupT_guard, boolT_guard, endE_rt, optT_some, un1_one, un2_two, isiM_eq, len_tup, len_lst, addM_int, subM_int, eq_int, ne_int, eq_str, ne_str, lt_int, le_int, gt_int, ge_int, ix_0, ix_1, items_tup, items_lst, tuple_lst, tuple_tup, isN_eq, notN_eq, sum_ints, maxD_ints, all_bools, abs_int, List.length_cons, List.length_nil, Nat.zero_add, Nat.reduceAdd, Nat.reduceLeDiff, if_true, if_false, Bool.false_eq_true, reduceIte]
  rw [range_nat (show l.length ≤ 1000000 by omega), pure_bindT]
  have main : Does (onL (forM' dec1 (fun p6 (s5 : List PyData × List PyData) => bindT (thawT (pureT (PyData.int (s5.1.length : Nat)))) fun a => bindT (W__law_draw [a]) fun k7 => bindT (popAt s5.1 k7) fun q8 => guardT (s5.2.length < sizeLine) (pureT (Fl.nx (q8.2, s5.2 ++ [q8.1])))) ((List.range l.length).map fun (k : Nat) => PyData.int (k : Int)) (l, [])) fun s4 => pureT (Fl.rt (PyData.list s4.2) : Fl Unit Empty)) fun fl => ∃ o : List PyData, fl = .rt (.list o) ∧ o.Perm l := by
    refine Does.bind (for_inv (enc := fun (k : Nat) => PyData.int (k : Int)) (j := fun (k : Nat) => PyData.int (k : Int)) (fun i (s : List PyData × List PyData) => s.1.length + i = l.length ∧ s.2.length = i ∧ (s.2 ++ s.1).Perm l) (List.range l.length) (l, []) ⟨rfl, rfl, List.Perm.refl _⟩ fun i a s hi hs => ⟨rfl, ?_⟩) fun q hq => ?_
    · obtain ⟨r, f⟩ := s
      obtain ⟨h1, h2, h3⟩ := hs
      have hil : i < l.length := by have := (List.getElem?_eq_some_iff.mp hi).1; rwa [List.length_range] at this
      rw [thawT_pure rfl, pure_bindT]
      refine Does.bind (draw_does (m := (r.length : Nat)) (by simp only at h1; omega) (by simp only at h1; omega)) fun d hd => ?_
      obtain ⟨z, rfl, z0, z1⟩ := hd
      obtain ⟨k, rfl⟩ : ∃ k : Nat, z = k := ⟨z.toNat, by omega⟩
      have hk : k < r.length := by omega
      show Does (bindT (guardT _ _) _) _
      rw [guard_ok ⟨by omega, z1, (show r.length ≤ 100000 by simp only at h1; omega)⟩, pure_bindT, guard_ok (Nat.lt_of_lt_of_le (show f.length < 100000 by simp only at h2; omega) (by decide))]
      have e1 : r.getD (k : Int).toNat .none = r[k] := by
        rw [Int.toNat_natCast, List.getD_eq_getElem?_getD, List.getElem?_eq_getElem hk]; rfl
      refine .pure ⟨_, .inl rfl, ?_, ?_, ?_⟩
      · show (r.eraseIdx (k : Int).toNat).length + (i + 1) = l.length
        rw [Int.toNat_natCast, List.length_eraseIdx_of_lt hk]; simp only at h1; omega
      · show (f ++ [r.getD (k : Int).toNat .none]).length = i + 1
        rw [List.length_append, List.length_singleton]; simp only at h2; omega
      · show ((f ++ [r.getD (k : Int).toNat .none]) ++ r.eraseIdx (k : Int).toNat).Perm l
        refine List.Perm.trans ?_ h3
        rw [e1, Int.toNat_natCast, List.append_assoc]
        exact List.Perm.append_left f (er_perm r k hk)
    · obtain ⟨s', rfl, h1, h2, h3⟩ := hq
      rw [List.length_range] at h1 h2
      have : s'.1 = [] := List.length_eq_zero_iff.mp (by omega)
      rw [this, List.append_nil] at h3
      exact .pure ⟨_, rfl, h3⟩
  refine Does.bind main fun fl hfl => ?_
  obtain ⟨o, rfl, ho⟩ := hfl
  exact .pure ⟨o, rfl, ho⟩
theorem fnD {w : M (Fl Unit Empty)} {P : PyData → Prop} (h : Does w fun fl => ∃ d, fl = .rt d ∧ P d) : Does (fnT w) P := by
  refine Does.bind h fun fl hfl => ?_
  obtain ⟨d, rfl, hd⟩ := hfl
  exact .pure hd
theorem onD {S R L : Type} {t : M (L ⊕ PyData)} {w : L → M (Fl S R)} {Q : L → Prop} {P : Fl S R → Prop} (h : Does t fun r => ∃ s, r = .inl s ∧ Q s) (g : ∀ s, Q s → Does (w s) P) : Does (onL t w) P := by
  refine Does.bind h fun r hr => ?_
  obtain ⟨s, rfl, hs⟩ := hr
  exact g s hs
theorem goD {S S' R : Type} {t : M (Fl S' R)} {w : S' → M (Fl S R)} {P : S' → Prop} {Q : Fl S R → Prop} (h : Does t fun fl => ∃ s, fl = .nx s ∧ P s) (g : ∀ s, P s → Does (w s) Q) : Does (goFl t w) Q := by
  refine Does.bind h fun fl hfl => ?_
  obtain ⟨s, rfl, hs⟩ := hfl
  exact g s hs
theorem er_mapL {α β : Type} (f : α → β) : ∀ (l : List α) (i : Nat), (l.map f).eraseIdx i = (l.eraseIdx i).map f
  | [], _ => rfl
  | _ :: _, 0 => rfl
  | a :: l, i + 1 => by rw [List.map_cons, List.eraseIdx_cons_succ, List.eraseIdx_cons_succ, er_mapL f l i, List.map_cons]
theorem mixed_enc {α : Type} (enc : α → PyData) {l : List α} (h : l.length ≤ 1000) : Does (W__law_mixed [.list (l.map enc)]) fun d => ∃ o : List α, d = .list (o.map enc) ∧ o.Perm l := by
  simp only [W__law_mixed, onE, wb__law_mixed, pure_bindT, bind_pureT, bind_bindT, raise_bindT, fail_bindT, guard_bindT, nox_pureT, nox_bindT, nox_guardT, nox_failT, nox_anyT, nox_noxT, onLs_lst, fnT_raise, goFl_raise, onL_raise, told_pure, tryR_pure, tryE_pure, nilT_eq, boolT_pure, ifR_pure, ifT_pure, andB_pure, orB_pure, notB_pure, andV_pure, orV_pure, notV_pure, goFl_nx, onL_inl, onL_inr, fnT_rt, fnT_bind, fnT_nx, onL_bind, consT_eq, lstV_eq, tupT_bind, boolT_bind, notB_bind, notV_bind, andB_bind, orB_bind, andV_bind, orV_bind, ifR_bind, ifT_bind, goFl_bind, lcF_bind, tup_0, tup_1, tup_2, tup_3, tup_4, guard_small, tupT_guard, boolT_guard, endE_rt, optT_some, un1_one, un2_two, isiM_eq, len_tup, len_lst, addM_int, subM_int, eq_int, ne_int, eq_str, ne_str, lt_int, le_int, gt_int, ge_int, ix_0, ix_1, items_tup, items_lst, tuple_lst, tuple_tup, isN_eq, notN_eq, sum_ints, maxD_ints, all_bools, abs_int, List.length_cons, List.length_nil, Nat.zero_add, Nat.reduceAdd, Nat.reduceLeDiff, if_true, if_false, Bool.false_eq_true, reduceIte]
  rw [List.length_map, range_nat (show l.length ≤ 1000000 by omega), pure_bindT]
  refine fnD (onD (for_inv (enc := fun (k : Nat) => PyData.int (k : Int)) (j := fun (k : Nat) => PyData.int (k : Int)) (fun i (s : List PyData × List PyData) => ∃ r f : List α, s = (r.map enc, f.map enc) ∧ r.length + i = l.length ∧ f.length = i ∧ (f ++ r).Perm l) (List.range l.length) (l.map enc, []) ⟨l, [], rfl, rfl, rfl, List.Perm.refl _⟩ fun i a s hi hs => ⟨rfl, ?_⟩) fun s' hq => ?_)
  · obtain ⟨r, f, rfl, h1, h2, h3⟩ := hs
    have hil : i < l.length := by have := (List.getElem?_eq_some_iff.mp hi).1; rwa [List.length_range] at this
    rw [List.length_map, thawT_pure rfl, pure_bindT]
    refine Does.bind (draw_does (m := (r.length : Nat)) (by omega) (by omega)) fun d hd => ?_
    obtain ⟨z, rfl, z0, z1⟩ := hd
    obtain ⟨k, rfl⟩ : ∃ k : Nat, z = k := ⟨z.toNat, by omega⟩
    have hk : k < r.length := by omega
    show Does (bindT (guardT _ _) _) _
    rw [guard_ok ⟨by omega, by rw [List.length_map]; omega, by rw [List.length_map]; omega⟩, pure_bindT, guard_ok (lt_small (by rw [List.length_map]; omega))]
    have e1 : (r.map enc).getD (k : Int).toNat .none = enc r[k] := by
      rw [Int.toNat_natCast, List.getD_eq_getElem?_getD, List.getElem?_map, List.getElem?_eq_getElem hk]; rfl
    have e2 : (r.map enc).eraseIdx (k : Int).toNat = (r.eraseIdx k).map enc := by
      rw [Int.toNat_natCast, er_mapL]
    refine .pure ⟨_, .inl rfl, r.eraseIdx k, f ++ [r[k]], ?_, ?_, ?_, ?_⟩
    · show ((r.map enc).eraseIdx (k : Int).toNat, f.map enc ++ [(r.map enc).getD (k : Int).toNat .none]) = _
      rw [e1, e2, List.map_append]
      rfl
    · rw [List.length_eraseIdx_of_lt hk]; omega
    · rw [List.length_append, h2]; rfl
    · refine List.Perm.trans ?_ h3
      rw [List.append_assoc]
      exact List.Perm.append_left f (er_perm r k hk)
  · obtain ⟨r, f, rfl, h1, h2, h3⟩ := hq
    rw [List.length_range] at h1 h2
    have : r = [] := List.length_eq_zero_iff.mp (by omega)
    subst this
    rw [List.append_nil] at h3
    exact .pure ⟨_, rfl, f, rfl, h3⟩
end Nk
set_option Elab.async false
set_option linter.all false
set_option maxRecDepth 100000
set_option maxHeartbeats 4000000
namespace Nk
open PySem L2
structure EvenR (kinds : Nat) (rs : List (List Int)) : Prop where
  ev : ∀ k, k < kinds → (rs.map fun r => r.getD k 0).sum = 0
theorem perm_sum {l l' : List Int} (h : l.Perm l') : l.sum = l'.sum := by
  induction h with
  | nil => rfl
  | cons x _ ih => rw [List.sum_cons, List.sum_cons, ih]
  | swap x y l => rw [List.sum_cons, List.sum_cons, List.sum_cons, List.sum_cons]; omega
  | trans _ _ h1 h2 => rw [h1, h2]
theorem EvenR.perm {kinds : Nat} {rs rs' : List (List Int)} (h : EvenR kinds rs) (p : rs'.Perm rs) : EvenR kinds rs' := ⟨fun k hk => by rw [perm_sum (p.map fun r => r.getD k 0)]; exact h.ev k hk⟩
def negR (r : List Int) : List Int := r.map fun x => 0 - x
theorem negR_at (r : List Int) (k : Nat) : (negR r).getD k 0 = - r.getD k 0 := by
  unfold negR
  rw [List.getD_eq_getElem?_getD, List.getD_eq_getElem?_getD, List.getElem?_map]
  cases r[k]? with
  | none => rfl
  | some x => show 0 - x = -x; omega
theorem sum_neg (f : List Int → Int) : ∀ rs : List (List Int), (rs.map fun r => - f r).sum = - (rs.map f).sum
  | [] => rfl
  | r :: rs => by rw [List.map_cons, List.map_cons, List.sum_cons, List.sum_cons, sum_neg f rs]; omega
theorem even_negs (kinds : Nat) (rs : List (List Int)) : EvenR kinds (rs ++ rs.map negR) := ⟨fun k _ => by
  rw [List.map_append, List.sum_append, List.map_map]
  have : ((fun r : List Int => r.getD k 0) ∘ negR) = fun r => - r.getD k 0 := by funext r; exact negR_at r k
  rw [this, sum_neg]
  omega⟩
theorem even_last {kinds : Nat} (rs : List (List Int)) : EvenR kinds (rs ++ [negR (sumR kinds rs)]) := ⟨fun k hk => by
  rw [List.map_append, List.sum_append, List.map_singleton, List.sum_singleton, negR_at]
  have : (sumR kinds rs).getD k 0 = (rs.map fun r => r.getD k 0).sum := by
    unfold sumR
    rw [List.getD_eq_getElem?_getD, List.getElem?_map, List.getElem?_range hk]
    rfl
  rw [this]
  omega⟩
theorem neg_items (r : List Int) (hl : r.length ≤ 1000) : lcF (itemsT (rowD r)) dec1 (fun _ => pureT true) (fun p => subM (.int 0) p) = pureT ((negR r).map .int) := by
  rw [lcF_map (it := itemsT (rowD r)) (enc := PyData.int) (as := r) (g := fun i => .int (0 - i)) rfl (by omega) fun i _ => rfl]
  unfold negR
  rw [List.map_map]
  rfl
theorem shaped_rowsL (rs : List (List Int)) : SeqAt.shaped (.list (rowsD rs)) = true := by
  have hd : ∀ r, (rowD r).canLay0 = true ∧ (rowD r).depth ≤ 1 := fun r => ⟨SeqAt.canLay_of_shaped (shaped_ints r), by unfold rowD; simp only [PyData.depth, depth_ints]; decide⟩
  refine shaped_of ?_ ?_
  · simp only [PyData.canLay0]
    unfold rowsD
    induction rs with
    | nil => rfl
    | cons r rs ih => simp [PyData.canLayAll0, ih, (hd r).1]
  · simp only [PyData.depth]
    have : PyData.depthAll (rowsD rs) ≤ 1 := by
      unfold rowsD
      induction rs with
      | nil => simp [PyData.depthAll]
      | cons r rs ih => simp only [List.map_cons, PyData.depthAll]; have := (hd r).2; omega
    omega
theorem eq_rowsL (rs : List (List Int)) : eqM (.list (rowsD rs)) (.list []) = pureT (.bool rs.isEmpty) := by
  show guardT _ _ = _
  rw [guard_ok ⟨shaped_rowsL rs, by decide +kernel⟩]
  cases rs <;> simp [rowsD, PyData.eqv, PyData.eqvAll]
theorem sum_bdI {A : Int} : ∀ (l : List Int), (∀ x ∈ l, -A ≤ x ∧ x ≤ A) → -((l.length : Int) * A) ≤ l.sum ∧ l.sum ≤ (l.length : Int) * A
  | [], _ => by simp
  | x :: l, h => by
    obtain ⟨h1, h2⟩ := sum_bdI l fun y hy => h y (List.mem_cons_of_mem _ hy)
    obtain ⟨h3, h4⟩ := h x List.mem_cons_self
    rw [List.sum_cons, List.length_cons, Int.natCast_add, Int.add_mul]
    omega
theorem RowOk.neg {kinds : Nat} {b : Int} {r : List Int} (h : RowOk kinds b r) : RowOk kinds b (negR r) := ⟨by unfold negR; rw [List.length_map]; exact h.len, fun x hx => by
  obtain ⟨y, hy, rfl⟩ := List.mem_map.mp hx
  have := h.bd y hy
  omega⟩
theorem RowOk.mono {kinds : Nat} {b b' : Int} {r : List Int} (h : RowOk kinds b r) (hb : b ≤ b') : RowOk kinds b' r := ⟨h.len, fun x hx => by have := h.bd x hx; omega⟩
theorem sumR_ok {kinds : Nat} {m : Int} {rs : List (List Int)} (h : ∀ r ∈ rs, RowOk kinds m r) (m0 : 0 ≤ m) (m1 : m ≤ 40000) (hl : rs.length ≤ 24) : RowOk kinds 1000000 (sumR kinds rs) := by
  refine ⟨by unfold sumR; rw [List.length_map, List.length_range], fun x hx => ?_⟩
  obtain ⟨k, hk, rfl⟩ := List.mem_map.mp hx
  have hk := List.mem_range.mp hk
  have := sum_bdI (A := m) (rs.map fun r => r.getD k 0) fun y hy => by
    obtain ⟨r, hr, rfl⟩ := List.mem_map.mp hy
    have hkr : k < r.length := by rw [(h r hr).len]; exact hk
    rw [List.getD_eq_getElem?_getD, List.getElem?_eq_getElem hkr]
    exact (h r hr).bd _ (List.getElem_mem hkr)
  rw [List.length_map] at this
  have hm : (rs.length : Int) * m ≤ 24 * 40000 := Int.mul_le_mul (by omega) m1 m0 (by omega)
  omega
theorem even_does {rows : Nat} (h0 : 1 ≤ rows) (h : rows ≤ 24) : Does (W__law_even [.int (rows : Nat)]) fun d => ∃ kinds rs, d = loadD kinds rs ∧ LoadOk rows 1000000 kinds rs ∧ EvenR kinds rs := by
  simp only [W__law_even, onE, wb__law_even, pure_bindT, bind_pureT, bind_bindT, raise_bindT, fail_bindT, guard_bindT, nox_pureT, nox_bindT, nox_guardT, nox_failT, nox_anyT, nox_noxT, onLs_lst, fnT_raise, goFl_raise, onL_raise, told_pure, tryR_pure, tryE_pure, nilT_eq, boolT_pure, ifR_pure, ifT_pure, andB_pure, orB_pure, notB_pure, andV_pure, orV_pure, notV_pure, goFl_nx, onL_inl, onL_inr, fnT_rt, fnT_bind, fnT_nx, onL_bind, consT_eq, lstV_eq, tupT_bind, boolT_bind, notB_bind, notV_bind, andB_bind, orB_bind, andV_bind, orV_bind, ifR_bind, ifT_bind, goFl_bind, lcF_bind, tup_0, tup_1, tup_2, tup_3, tup_4, guard_small, tupT_guard, boolT_guard, endE_rt, optT_some, un1_one, un2_two, isiM_eq, len_tup, len_lst, addM_int, subM_int, eq_int, ne_int, eq_str, ne_str, lt_int, le_int, gt_int, ge_int, ix_0, ix_1, items_tup, items_lst, tuple_lst, tuple_tup, isN_eq, notN_eq, sum_ints, maxD_ints, all_bools, abs_int, List.length_cons, List.length_nil, Nat.zero_add, Nat.reduceAdd, Nat.reduceLeDiff, if_true, if_false, Bool.false_eq_true, reduceIte]
  refine Does.bind (draw_does (by decide) (by decide)) fun d1 h1 => ?_
  obtain ⟨r1, rfl, r10, r11⟩ := h1
  obtain ⟨k, rfl⟩ : ∃ k : Nat, r1 = k := ⟨r1.toNat, by omega⟩
  simp only [pure_bindT, bind_pureT, bind_bindT, raise_bindT, fail_bindT, guard_bindT, nox_pureT, nox_bindT, nox_guardT, nox_failT, nox_anyT, nox_noxT, onLs_lst, fnT_raise, goFl_raise, onL_raise, told_pure, tryR_pure, tryE_pure, nilT_eq, boolT_pure, ifR_pure, ifT_pure, andB_pure, orB_pure, notB_pure, andV_pure, orV_pure, notV_pure, goFl_nx, onL_inl, onL_inr, fnT_rt, fnT_bind, fnT_nx, onL_bind, consT_eq, lstV_eq, tupT_bind, boolT_bind, notB_bind, notV_bind, andB_bind, orB_bind, andV_bind, orV_bind, ifR_bind, ifT_bind, goFl_bind, lcF_bind, tup_0, tup_1, tup_2, tup_3, tup_4, guard_small, tupT_guard, boolT_guard, endE_rt, optT_some, un1_one, un2_two, isiM_eq, len_tup, len_lst, addM_int, subM_int, eq_int, ne_int, eq_str, ne_str, lt_int, le_int, gt_int, ge_int, ix_0, ix_1, items_tup, items_lst, tuple_lst, tuple_tup, isN_eq, notN_eq, sum_ints, maxD_ints, all_bools, abs_int, List.length_cons, List.length_nil, Nat.zero_add, Nat.reduceAdd, Nat.reduceLeDiff, if_true, if_false, Bool.false_eq_true, reduceIte]
  refine Does.bind (one_does _ (by simp) (by decide)) fun d2 h2 => ?_
  have hm : ∃ m : Int, d2 = .int m ∧ 0 ≤ m ∧ m ≤ 40000 := by
    simp at h2
    rcases h2 with rfl | rfl | rfl | rfl | rfl | rfl <;> exact ⟨_, rfl, by decide, by decide⟩
  obtain ⟨m, rfl, m0, m1⟩ := hm
  simp only [dec2, pure_bindT, bind_pureT, bind_bindT, raise_bindT, fail_bindT, guard_bindT, nox_pureT, nox_bindT, nox_guardT, nox_failT, nox_anyT, nox_noxT, onLs_lst, fnT_raise, goFl_raise, onL_raise, told_pure, tryR_pure, tryE_pure, nilT_eq, boolT_pure, ifR_pure, ifT_pure, andB_pure, orB_pure, notB_pure, andV_pure, orV_pure, notV_pure, goFl_nx, onL_inl, onL_inr, fnT_rt, fnT_bind, fnT_nx, onL_bind, consT_eq, lstV_eq, tupT_bind, boolT_bind, notB_bind, notV_bind, andB_bind, orB_bind, andV_bind, orV_bind, ifR_bind, ifT_bind, goFl_bind, lcF_bind, tup_0, tup_1, tup_2, tup_3, tup_4, guard_small, tupT_guard, boolT_guard, endE_rt, optT_some, un1_one, un2_two, isiM_eq, len_tup, len_lst, addM_int, subM_int, eq_int, ne_int, eq_str, ne_str, lt_int, le_int, gt_int, ge_int, ix_0, ix_1, items_tup, items_lst, tuple_lst, tuple_tup, isN_eq, notN_eq, sum_ints, maxD_ints, all_bools, abs_int, List.length_cons, List.length_nil, Nat.zero_add, Nat.reduceAdd, Nat.reduceLeDiff, if_true, if_false, Bool.false_eq_true, reduceIte]
  have e : (1 : Int) + (k : Int) = ((1 + k : Nat) : Int) := by omega
  rw [e]
  refine Does.bind (draw_does (m := (rows : Nat)) (by omega) (by omega)) fun d3 h3 => ?_
  obtain ⟨r3, rfl, r30, r31⟩ := h3
  obtain ⟨n, rfl⟩ : ∃ n : Nat, r3 = n := ⟨r3.toNat, by omega⟩
  rw [range_nat (by omega)]
  refine Does.bind (lcF_mapD (it := pureT _) (enc := fun (k : Nat) => PyData.int (k : Int)) (as := List.range n) (P := fun _ d => ∃ r : List Int, d = rowD r ∧ RowOk (1 + k) m r) rfl (by rw [List.length_range]; omega) fun a _ => row_does (by omega) m0 (by omega)) fun ds hds => ?_
  obtain ⟨rs, rfl, hl, hb⟩ := all2_rows hds
  rw [List.length_range] at hl
  rw [eq_rowsL, boolT_pure, nox_pureT, ifR_pure]
  refine fnD (Does.ite (fun hz => ?_) fun hz => ?_)
  · exact .pure ⟨_, rfl, 1 + k, [], rfl, ⟨by omega, by omega, by simp, fun _ h => nomatch h⟩, ⟨fun _ _ => rfl⟩⟩
  · have hk1 : 1 + k ≤ 4 := by omega
    refine Does.bind (draw_does (m := 3) (by decide) (by decide)) fun d4 h4 => ?_
    obtain ⟨w, rfl, w0, w1⟩ := h4
    refine goD (P := fun s => ∃ fs, s = .list (rowsD fs) ∧ fs.length ≤ rows ∧ (∀ r ∈ fs, RowOk (1 + k) 1000000 r) ∧ EvenR (1 + k) fs) ?_ fun s hs => ?_
    · have q1 : thawT (pureT (PyData.int ((rowsD rs).length : Nat))) = pureT (.int (rs.length : Nat)) := by rw [rowsD_length]; exact thawT_pure rfl
      have q2 : mulM (.int 2) (.int (rs.length : Nat)) = pureT (.int (2 * (rs.length : Int))) := mul64 (by decide) (by omega)
      have two : Does (bindT (lcF (pureT (rowsD rs)) dec1 (fun p7 => pureT true) fun p20 => bindT (lcF (itemsT p20) dec1 (fun p7 => pureT true) fun p21 => subM (PyData.int 0) p21) fun a => pureT (PyData.tuple a)) fun a => bindT (catL (PyData.list (rowsD rs)) (PyData.list a)) fun a => pureT (Fl.nx (PyData.list a) : Fl PyData Empty)) fun fl => ∃ s, fl = .nx s ∧ ∃ fs, s = .list (rowsD fs) ∧ (2 * rs.length ≤ rows → fs.length ≤ rows) ∧ (∀ r ∈ fs, RowOk (1 + k) 1000000 r) ∧ EvenR (1 + k) fs := by
        rw [lcF_map (it := pureT (rowsD rs)) (enc := rowD) (as := rs) (g := fun r => rowD (negR r)) rfl (by omega) fun r hr => by rw [neg_items r (by rw [(hb r hr).len]; omega)]; rfl, pure_bindT, catL_lst (small_le (by rw [rowsD_length, List.length_map]; omega)), pure_bindT]
        refine .pure ⟨_, rfl, rs ++ rs.map negR, ?_, fun hh => by rw [List.length_append, List.length_map]; omega, fun r hr => ?_, even_negs _ _⟩
        · unfold rowsD
          rw [List.map_append, List.map_map]
          rfl
        · rcases List.mem_append.mp hr with hr | hr
          · exact (hb r hr).mono (by omega)
          · obtain ⟨q, hq, rfl⟩ := List.mem_map.mp hr
            exact ((hb q hq).mono (by omega)).neg
      have one : Does (bindT (thawT (bindT (W__law_sum [PyData.int ((1 + k : Nat) : Int), PyData.list (rowsD rs)]) fun p20 => bindT (lcF (itemsT p20) dec1 (fun p7 => pureT true) fun p21 => subM (PyData.int 0) p21) fun a => pureT (PyData.tuple a))) fun d29 => guardT ((rowsD rs).length < sizeLine) (pureT (Fl.nx (PyData.list (rowsD rs ++ [d29])) : Fl PyData Empty))) fun fl => ∃ s, fl = .nx s ∧ ∃ fs, s = .list (rowsD fs) ∧ fs.length ≤ rows ∧ (∀ r ∈ fs, RowOk (1 + k) 1000000 r) ∧ EvenR (1 + k) fs := by
        have so := sumR_ok hb m0 m1 (by omega)
        rw [law_sum_eq rfl (fun r hr => (hb r hr).len) (by omega) (by omega), pure_bindT, neg_items _ (by rw [so.len]; omega), pure_bindT, thawT_pure (by
          show noLs ((negR (sumR (1 + k) rs)).map .int) = true
          induction negR (sumR (1 + k) rs) with
          | nil => rfl
          | cons x l ih => simp [noLs, noL, ih]), pure_bindT, guard_ok (lt_small (by rw [rowsD_length]; omega))]
        refine .pure ⟨_, rfl, rs ++ [negR (sumR (1 + k) rs)], ?_, by rw [List.length_append, List.length_singleton]; omega, fun r hr => ?_, even_last _⟩
        · unfold rowsD
          rw [List.map_append]
          rfl
        · rcases List.mem_append.mp hr with hr | hr
          · exact (hb r hr).mono (by omega)
          · rw [List.mem_singleton.mp hr]; exact so.neg
      rw [q1, pure_bindT, q2, pure_bindT, eq_int, boolT_pure, andB_pure, le_int, boolT_pure]
      have tail : ∀ b : Bool, (b = true → 2 * rs.length ≤ rows) → Does (ifR (pureT b) _ _) _ := fun b hbb => by
        rw [ifR_pure]
        exact Does.ite (fun ht => two.imp fun fl ⟨s, e1, fs, e2, e3, e4, e5⟩ => ⟨s, e1, fs, e2, e3 (hbb ht), e4, e5⟩) fun _ => one
      split
      · exact tail _ fun z => by simp at z; omega
      · exact tail _ fun z => by cases z
    · obtain ⟨fs, rfl, f1, f2, f3⟩ := hs
      refine Does.bind (mixed_enc rowD (l := fs) (by omega)) fun d hd => ?_
      obtain ⟨o, rfl, ho⟩ := hd
      rw [tuple_lst, pure_bindT]
      exact .pure ⟨_, rfl, 1 + k, o, rfl, ⟨by omega, hk1, by rw [ho.length_eq]; exact f1, fun r hr => f2 r (ho.mem_iff.mp hr)⟩, f3.perm ho⟩
end Nk
set_option Elab.async false
set_option linter.all false
set_option maxRecDepth 100000
set_option maxHeartbeats 4000000
namespace Nk
open PySem L2
/-! loads made of loads -/
theorem sizeR_le {r : List Int} {b : Int} (hb : 0 ≤ b) : sizeR r ≤ b ↔ ∀ x ∈ r, -b ≤ x ∧ x ≤ b := by
  constructor
  · intro h x hx
    have h1 : absI x ≤ sizeR r := by
      unfold sizeR
      cases r with
      | nil => nomatch hx
      | cons y r => exact mxL_ge _ _ _ (List.mem_map.mpr ⟨x, hx, rfl⟩)
    have h2 : absI x ≤ b := Int.le_trans h1 h
    unfold absI at h2
    split at h2 <;> omega
  · intro h
    unfold sizeR
    refine mxD_bd (fun x hx => ?_) hb
    obtain ⟨y, hy, rfl⟩ := List.mem_map.mp hx
    have := h y hy
    unfold absI
    split <;> omega
theorem len_row (r : List Int) : lenM (rowD r) = pureT (num r.length) := by
  unfold rowD
  rw [len_tup, List.length_map]
/-! rows left out -/
def natsD (o : List Nat) : PyData := .tuple (o.map num)
theorem eqV_num (i j : Nat) : eqV (toV (num i)) (toV (num j)) = decide (i = j) := by
  show decide ((i : Int) = (j : Int)) = _
  by_cases h : i = j
  · subst h; simp
  · rw [decide_eq_false h, decide_eq_false (by omega)]
theorem inB_num (i : Nat) (o : List Nat) : inB (num i) (o.map num) = o.contains i := by
  unfold inB inV
  rw [List.map_map, List.any_map]
  induction o with
  | nil => rfl
  | cons j o ih =>
    rw [List.any_cons, ih, List.contains_cons]
    congr 1
    show eqV (toV (num j)) (toV (num i)) = (i == j)
    rw [eqV_num]
    by_cases h : i = j
    · subst h; simp
    · rw [decide_eq_false (fun z => h z.symm)]; simp [h]
theorem notIn_num (i : Nat) (o : List Nat) : notInM (num i) (natsD o) = pureT (.bool (!o.contains i)) := by
  unfold notInM natsD
  rw [items_tup, pure_bindT, guard_ok ⟨rfl, by rw [List.all_map]; exact List.all_eq_true.mpr fun x _ => rfl⟩, inB_num]
def outR (o : List Nat) (rs : List (List Int)) : List (List Int) := (rs.zipIdx.filter fun p => !o.contains p.2).map (·.1)
theorem enumI_rows (rs : List (List Int)) : enumI (.tuple (rowsD rs)) = pureT (rs.zipIdx.map fun p => PyData.tuple [num p.2, rowD p.1]) := by
  show pureT (enumD _) = _
  unfold rowsD
  rw [enumD_enc]
theorem two_load (kinds : Nat) (rs : List (List Int)) : dec2 (loadD kinds rs) = some (num kinds, .tuple (rowsD rs)) := rfl
theorem cut_to {s : List PyData} {k : Nat} (h : k ≤ s.length) : cutM (.tuple s) none (some (k : Int)) = pureT (.tuple (s.take k)) := by
  show pureT (PyData.tuple (cutD s none (some (k : Int)))) = _
  rw [cutD_to] <;> first | rfl | omega
theorem cut_from (s : List PyData) (k : Nat) : cutM (.tuple s) (some (k : Int)) none = pureT (.tuple (s.drop k)) := by
  show pureT (PyData.tuple (cutD s (some (k : Int)) none)) = _
  rw [cutD_from]
theorem outR_one (hi : Nat) (rs : List (List Int)) : outR [hi] rs = rs.eraseIdx hi := by
  have main : ∀ (rs : List (List Int)) (k hi : Nat), ((rs.zipIdx k).filter fun p => ![k + hi].contains p.2).map (·.1) = rs.eraseIdx hi := by
    intro rs
    induction rs with
    | nil => intro k hi; rfl
    | cons r rs ih =>
      intro k hi
      rw [List.zipIdx_cons]
      cases hi with
      | zero =>
        rw [List.filter_cons_of_neg (by simp), List.eraseIdx_cons_zero]
        have : (rs.zipIdx (k + 1)).filter (fun p => ![k + 0].contains p.2) = rs.zipIdx (k + 1) := by
          refine List.filter_eq_self.mpr fun p hp => ?_
          have := List.le_snd_of_mem_zipIdx hp
          simp
          omega
        rw [this]
        exact List.zipIdx_map_fst _ _
      | succ hi =>
        rw [List.filter_cons_of_pos (by simp), List.map_cons, List.eraseIdx_cons_succ, ← ih (k + 1) hi]
        have e : k + (hi + 1) = k + 1 + hi := by omega
        rw [e]
  have := main rs 0 hi
  rw [Nat.zero_add] at this
  exact this
/-! sizes for repr -/
theorem sm_row {kinds : Nat} {r : List Int} (h : RowOk kinds 1000000 r) (hk : kinds ≤ 10) : Sm 260 1 (rowD r) := by
  have := h.len
  exact (Sms.ints fun x hx => ⟨by have := (h.bd x hx).1; omega, by have := (h.bd x hx).2; omega⟩).tup.mono (by omega) (by omega)
theorem sm_load {n kinds : Nat} {rs : List (List Int)} (h : LoadOk n 1000000 kinds rs) (hn : n ≤ 24) : Sm 7000 3 (loadD kinds rs) := by
  have := h.len
  have h4 := h.k4
  exact (Sms.cons (Sm.nat (by omega)) (Sms.cons (Sms.mapAll fun r hr => sm_row (h.rows r hr) (by omega)).tup .nil)).tup.mono (by omega) (by decide)
/-! .. and more -/
theorem row_at {rs : List (List Int)} {i : Nat} (h : i < rs.length) : ixM (.tuple (rowsD rs)) (num i) = pureT (rowD (rs.getD i [])) := by
  refine ixT_at ?_
  unfold rowsD
  rw [List.getElem?_map, List.getElem?_eq_getElem h, List.getD_eq_getElem?_getD, List.getElem?_eq_getElem h]
  rfl
theorem ixN_at {n j : Nat} (h : j < n) : ixN n (j : Int) = some j := by
  unfold ixN
  rw [if_pos (by omega), if_pos (by omega), Int.toNat_natCast]
theorem min_num (i j : Nat) : min2M (num i) (num j) = pureT (num (min i j)) := by
  show pureT _ = _
  congr 2
  split <;> omega
theorem getD_len {kinds : Nat} {rs : List (List Int)} {i : Nat} (h : ∀ r ∈ rs, r.length = kinds) (hi : i < rs.length) : (rs.getD i []).length = kinds := by
  rw [List.getD_eq_getElem?_getD, List.getElem?_eq_getElem hi]
  exact h _ (List.getElem_mem hi)
theorem set_cut {α : Type} (l : List α) (i : Nat) (x : α) (h : i < l.length) : l.take i ++ [x] ++ l.drop (i + 1) = l.set i x := by
  rw [List.set_eq_take_append_cons_drop, if_pos h, List.append_assoc]
  rfl
theorem ld1 (kinds : Nat) (rs : List (List Int)) : ixM (loadD kinds rs) (.int 1) = pureT (.tuple (rowsD rs)) := ix_1 ..
theorem ld0 (kinds : Nat) (rs : List (List Int)) : ixM (loadD kinds rs) (.int 0) = pureT (num kinds) := ix_0 ..
def sameR (kinds : Nat) (x : Int) : List Int := List.replicate kinds x
theorem mul_one (x : Int) (kinds : Nat) (hk : kinds ≤ 1000) : mulM (.tuple [.int x]) (num kinds) = pureT (rowD (sameR kinds x)) := by
  rw [mulM_tup (by omega) (by omega) (by show 1 ≤ 1000; decide)]
  congr 1
  unfold rowD sameR
  rw [Int.toNat_natCast, List.map_replicate]
  congr 1
  induction kinds with
  | zero => rfl
  | succ k ih => rw [List.replicate_succ, List.flatten_cons, ih (by omega), List.replicate_succ]; rfl
theorem same_ok {kinds : Nat} {x : Int} (h : -1000000 ≤ x ∧ x ≤ 1000000) : RowOk kinds 1000000 (sameR kinds x) :=
  ⟨List.length_replicate, fun y hy => by rw [(List.mem_replicate.mp hy).2]; exact h⟩
theorem pw6 : powM (.int 10) (.int 6) = pureT (.int 1000000) := pow_small (by decide) (by decide) (by decide)
theorem sm_ok : Sm 60 0 (.str "ok") := ⟨⟨by decide +kernel, by decide +kernel, by decide +kernel, by decide +kernel⟩, rfl⟩
theorem sm_great : Sm 60 0 (.str "great") := ⟨⟨by decide +kernel, by decide +kernel, by decide +kernel, by decide +kernel⟩, rfl⟩
theorem ne_num (i j : Nat) : neM (num i) (num j) = pureT (.bool (!decide (i = j))) := by
  rw [ne_int]
  congr 3
  by_cases h : i = j
  · rw [decide_eq_true h, decide_eq_true (by omega)]
  · rw [decide_eq_false h, decide_eq_false (by omega)]
def mulR (t : Int) (r : List Int) : List Int := r.map fun x => t * x
theorem mulR_len (t : Int) (r : List Int) : (mulR t r).length = r.length := List.length_map ..
theorem mapT_row {r : List Int} {f : Int → Int} {ee : PyData → M PyData} (hl : r.length ≤ 100000) (h : ∀ x ∈ r, ee (.int x) = pureT (.int (f x))) : lcF (itemsT (rowD r)) dec1 (fun _ => pureT true) ee = pureT ((r.map f).map .int) := by
  rw [lcF_map (it := itemsT (rowD r)) (enc := PyData.int) (as := r) (g := fun x => .int (f x)) rfl hl h]
  rw [List.map_map]
  rfl
theorem lay_row (r : List Int) : (rowD r).canLay0 = true ∧ (rowD r).depth ≤ 1 := ⟨SeqAt.canLay_of_shaped (shaped_ints r), by unfold rowD; simp only [PyData.depth, depth_ints]; decide⟩
theorem shaped_rowsT (rs : List (List Int)) : SeqAt.shaped (.tuple (rowsD rs)) = true := by
  refine shaped_of ?_ ?_
  · simp only [PyData.canLay0]
    unfold rowsD
    induction rs with
    | nil => rfl
    | cons r rs ih => simp [PyData.canLayAll0, ih, (lay_row r).1]
  · simp only [PyData.depth]
    have : PyData.depthAll (rowsD rs) ≤ 1 := by
      unfold rowsD
      induction rs with
      | nil => simp [PyData.depthAll]
      | cons r rs ih => simp only [List.map_cons, PyData.depthAll]; have := (lay_row r).2; omega
    omega
theorem eq_rowsT (rs : List (List Int)) : eqM (.tuple (rowsD rs)) (.tuple []) = pureT (.bool rs.isEmpty) := by
  show guardT _ _ = _
  rw [guard_ok ⟨shaped_rowsT rs, shaped_rowsT []⟩]
  cases rs <;> simp [rowsD, PyData.eqv, PyData.eqvAll]
theorem sm_many : Sm 60 0 (.str "many") := ⟨⟨by decide +kernel, by decide +kernel, by decide +kernel, by decide +kernel⟩, rfl⟩
theorem zip_range : ∀ (rs : List (List Int)) (k : Nat), rs.zipIdx k = (List.range rs.length).map fun i => (rs.getD i [], k + i)
  | [], _ => rfl
  | r :: rs, k => by
    rw [List.zipIdx_cons, List.length_cons, List.range_succ_eq_map, List.map_cons, zip_range rs (k + 1), List.map_map]
    congr 1
    refine List.map_congr_left fun i _ => ?_
    show ((rs.getD i [], k + 1 + i) : List Int × Nat) = (rs.getD i [], k + (i + 1))
    rw [show k + 1 + i = k + (i + 1) by omega]
theorem outR_range (o : List Nat) (rs : List (List Int)) : outR o rs = ((List.range rs.length).filter fun i => !o.contains i).map fun i => rs.getD i [] := by
  unfold outR
  rw [zip_range rs 0, List.filter_map, List.map_map]
  have : (fun p : List Int × Nat => !o.contains p.2) ∘ (fun i => (rs.getD i [], 0 + i)) = fun i => !o.contains i := by
    funext i
    show (!o.contains (0 + i)) = _
    rw [Nat.zero_add]
  rw [this]
  rfl
/-- some of the items, as the draws will have it -/
theorem lcM_some {ι α : Type} {dec : PyData → Option ι} {cc : ι → M Bool} {ee : ι → M PyData} {enc : α → PyData} {j : α → ι} : ∀ (as : List α), (∀ a ∈ as, dec (enc a) = some (j a) ∧ Does (cc (j a)) (fun _ => True) ∧ ee (j a) = pureT (enc a)) → Does (lcM dec cc ee (as.map enc)) fun ds => ∃ bs : List α, ds = bs.map enc ∧ bs.Sublist as
  | [], _ => .pure ⟨[], rfl, .slnil⟩
  | a :: as, h => by
    obtain ⟨h1, h2, h3⟩ := h a List.mem_cons_self
    have ih := lcM_some as fun x hx => h x (List.mem_cons_of_mem _ hx)
    rw [List.map_cons]
    unfold lcM
    rw [h1]
    refine h2.nox.bind fun b _ => .ite (fun _ => ?_) (fun _ => ih.imp fun ds ⟨bs, e, m⟩ => ⟨bs, e, .cons _ m⟩)
    rw [h3, nox_pureT, pure_bindT]
    exact ih.bind fun ds ⟨bs, e, m⟩ => .pure ⟨a :: bs, by rw [e]; rfl, .cons₂ _ m⟩
end Nk
set_option Elab.async false
set_option linter.all false
set_option maxRecDepth 100000
set_option maxHeartbeats 4000000
namespace Nk
open PySem L2
/-! loads of any sort, drawn -/
theorem kinds_draw {P : PyData → Prop} {f : PyData → M PyData} (h : ∀ k : Nat, 1 ≤ k → k ≤ 4 → Does (f (num k)) P) : Does (bindT (W__law_draw [.int 4]) fun v => bindT (addM (.int 1) v) f) P := by
  refine Does.bind (draw_does (by decide) (by decide)) fun d1 h1 => ?_
  obtain ⟨r1, rfl, r10, r11⟩ := h1
  obtain ⟨k, rfl⟩ : ∃ k : Nat, r1 = k := ⟨r1.toNat, by omega⟩
  have ek : addM (.int 1) (.int (k : Int)) = pureT (num (1 + k)) := by rw [addM_int]; congr 2
  rw [ek, pure_bindT]
  exact h (1 + k) (by omega) (by omega)
theorem great_does : Does (W__law_great_even []) fun d => ∃ kinds rs, d = loadD kinds rs ∧ LoadOk 24 1000000 kinds rs ∧ EvenR kinds rs := by
  simp only [W__law_great_even, onE, wb__law_great_even, pw6, pure_bindT, bind_pureT, bind_bindT, raise_bindT, fail_bindT, guard_bindT, nox_pureT, nox_bindT, nox_guardT, nox_failT, nox_anyT, nox_noxT, onLs_lst, fnT_raise, goFl_raise, onL_raise, told_pure, tryR_pure, tryE_pure, nilT_eq, boolT_pure, ifR_pure, ifT_pure, andB_pure, orB_pure, notB_pure, andV_pure, orV_pure, notV_pure, goFl_nx, onL_inl, onL_inr, fnT_rt, fnT_bind, fnT_nx, onL_bind, consT_eq, lstV_eq, tupT_bind, boolT_bind, notB_bind, notV_bind, andB_bind, orB_bind, andV_bind, orV_bind, ifR_bind, ifT_bind, goFl_bind, lcF_bind, tup_0, tup_1, tup_2, tup_3, tup_4, guard_small, tupT_guard, boolT_guard, endE_rt, optT_some, un1_one, un2_two, isiM_eq, len_tup, len_lst, addM_int, subM_int, eq_int, ne_int, eq_str, ne_str, lt_int, le_int, gt_int, ge_int, ix_0, ix_1, items_tup, items_lst, tuple_lst, tuple_tup, isN_eq, notN_eq, sum_ints, maxD_ints, all_bools, abs_int, List.length_cons, List.length_nil, Nat.zero_add, Nat.reduceAdd, Nat.reduceLeDiff, if_true, if_false, Bool.false_eq_true, reduceIte]
  refine kinds_draw fun kinds hk1 hk4 => ?_
  refine Does.bind (draw_does (by decide) (by decide)) fun d1 h1 => ?_
  obtain ⟨r1, rfl, r10, r11⟩ := h1
  obtain ⟨n, rfl⟩ : ∃ n : Nat, r1 = n := ⟨r1.toNat, by omega⟩
  have en : addM (.int 6) (.int (n : Int)) = pureT (num (6 + n)) := by rw [addM_int]; congr 2
  simp only [en, rangeN (show 6 + n ≤ 1000000 by omega), pure_bindT, bind_pureT, bind_bindT, raise_bindT, fail_bindT, guard_bindT, nox_pureT, nox_bindT, nox_guardT, nox_failT, nox_anyT, nox_noxT, onLs_lst, fnT_raise, goFl_raise, onL_raise, told_pure, tryR_pure, tryE_pure, nilT_eq, boolT_pure, ifR_pure, ifT_pure, andB_pure, orB_pure, notB_pure, andV_pure, orV_pure, notV_pure, goFl_nx, onL_inl, onL_inr, fnT_rt, fnT_bind, fnT_nx, onL_bind, consT_eq, lstV_eq, tupT_bind, boolT_bind, notB_bind, notV_bind, andB_bind, orB_bind, andV_bind, orV_bind, ifR_bind, ifT_bind, goFl_bind, lcF_bind, tup_0, tup_1, tup_2, tup_3, tup_4, guard_small, tupT_guard, boolT_guard, endE_rt, optT_some, un1_one, un2_two, isiM_eq, len_tup, len_lst, addM_int, subM_int, eq_int, ne_int, eq_str, ne_str, lt_int, le_int, gt_int, ge_int, ix_0, ix_1, items_tup, items_lst, tuple_lst, tuple_tup, isN_eq, notN_eq, sum_ints, maxD_ints, all_bools, abs_int, List.length_cons, List.length_nil, Nat.zero_add, Nat.reduceAdd, Nat.reduceLeDiff, if_true, if_false, Bool.false_eq_true, reduceIte]
  have ng : negM (.int 1000000) = pureT (.int (-1000000)) := rfl
  have m2 : mulM (.int 2) (.int 1000000) = pureT (.int 2000000) := mul64 (by decide) (by decide)
  refine fnD (onD (Q := fun s => ∃ fs : List (List Int), s = rowsD fs ∧ fs.length ≤ 24 ∧ (∀ r ∈ fs, RowOk kinds 1000000 r) ∧ EvenR kinds fs) (Does.imp (for_inv (enc := num) (j := num) (fun i (s : List PyData) => ∃ fs : List (List Int), s = rowsD fs ∧ fs.length = 2 * i ∧ (∀ r ∈ fs, RowOk kinds 1000000 r) ∧ EvenR kinds fs) (List.range (6 + n)) [] ⟨[], rfl, rfl, (fun _ h => nomatch h), ⟨fun _ _ => rfl⟩⟩ fun i b s hi hs => ⟨rfl, ?_⟩) fun r hr => ?_) fun s hs => ?_)
  · obtain ⟨fs, rfl, hl, hb, he⟩ := hs
    have hil : i < 6 + n := by have := (List.getElem?_eq_some_iff.mp hi).1; rwa [List.length_range] at this
    rw [rangeN (by omega), pure_bindT]
    -- the inner loop, then the two rows
    refine Does.bind (P := fun r => ∃ q : List Int, r = .inl (q.map .int) ∧ RowOk kinds 1000000 q) ?_ fun r hr => ?_
    · refine Does.imp (for_inv (enc := num) (j := num) (fun i (s : List PyData) => ∃ r : List Int, s = r.map .int ∧ r.length = i ∧ ∀ x ∈ r, -1000000 ≤ x ∧ x ≤ 1000000) (List.range kinds) [] ⟨[], rfl, rfl, fun _ h => nomatch h⟩ fun i b s hi hs => ⟨rfl, ?_⟩) fun r hr => ?_
      · obtain ⟨r, rfl, hl, hb⟩ := hs
        have hil : i < kinds := by have := (List.getElem?_eq_some_iff.mp hi).1; rwa [List.length_range] at this
        rw [ng, pure_bindT, m2, pure_bindT, addM_int, pure_bindT]
        refine Does.bind (draw_does (by decide) (by decide)) fun d hd => ?_
        obtain ⟨z, rfl, z0, z1⟩ := hd
        rw [subM_int, pure_bindT]
        refine Does.bind (one_does _ (by simp) (by show 3 ≤ 100000; decide)) fun d hd => ?_
        obtain ⟨x, rfl, hx⟩ : ∃ x : Int, d = .int x ∧ -1000000 ≤ x ∧ x ≤ 1000000 := by
          simp only [List.mem_cons, List.not_mem_nil, or_false] at hd
          rcases hd with rfl | rfl | rfl
          · exact ⟨_, rfl, by decide, by decide⟩
          · exact ⟨_, rfl, by decide, by decide⟩
          · exact ⟨_, rfl, by omega, by omega⟩
        rw [guard_ok (lt_small (by rw [List.length_map]; omega))]
        refine .pure ⟨_, .inl rfl, r ++ [x], by rw [List.map_append]; rfl, by rw [List.length_append]; show _ + 1 = _; omega, fun y hy => ?_⟩
        rcases List.mem_append.mp hy with hy | hy
        · exact hb y hy
        · obtain rfl := List.mem_singleton.mp hy; exact hx
      · obtain ⟨s', rfl, r, rfl, hl, hb⟩ := hr
        exact ⟨r, rfl, by rw [hl, List.length_range], hb⟩
    · obtain ⟨q, rfl, hq⟩ := hr
      have n1 : lcF (pureT (q.map .int)) dec1 (fun _ => pureT true) (fun p32 => subM (.int 0) p32) = pureT ((negR q).map .int) := neg_items q (by rw [hq.len]; omega)
      have e1 : extM (rowsD fs) (.list [.tuple (q.map .int), .tuple ((negR q).map .int)]) = pureT (rowsD (fs ++ [q, negR q])) := by
        show guardT _ _ = _
        rw [guard_ok (small_le (by rw [rowsD_length]; show _ + 2 ≤ _; omega))]
        unfold rowsD
        rw [List.map_append]
        rfl
      show Does (bindT (lcF _ _ _ _) _) _
      rw [n1, pure_bindT, e1, pure_bindT]
      refine .pure ⟨_, .inl rfl, fs ++ [q, negR q], rfl, by rw [List.length_append, hl]; show _ + 2 = _; omega, fun r hr => ?_, ⟨fun k hk => ?_⟩⟩
      · rcases List.mem_append.mp hr with hr | hr
        · exact hb r hr
        · simp only [List.mem_cons, List.not_mem_nil, or_false] at hr
          rcases hr with rfl | rfl
          · exact hq
          · exact hq.neg
      · rw [List.map_append, List.sum_append, he.ev k hk]
        show 0 + (q.getD k 0 + ((negR q).getD k 0 + 0)) = 0
        rw [negR_at]
        omega
  · obtain ⟨s', rfl, fs, rfl, hl, hb, he⟩ := hr
    rw [List.length_range] at hl
    exact ⟨_, rfl, fs, rfl, by omega, hb, he⟩
  · obtain ⟨fs, rfl, hl, hb, he⟩ := hs
    refine Does.bind (mixed_enc rowD (l := fs) (by omega)) fun d hd => ?_
    obtain ⟨o, rfl, ho⟩ := hd
    rw [tuple_lst, pure_bindT]
    exact .pure ⟨_, rfl, kinds, o, rfl, ⟨hk1, hk4, by rw [ho.length_eq]; exact hl, fun r hr => hb r (ho.mem_iff.mp hr)⟩, he.perm ho⟩

/-- many rows that are alike, and what takes them off again -/
theorem rep_rows (r : List Int) (n : Nat) (h : n ≤ 1000) : mulM (.list [rowD r]) (num n) = pureT (.list (rowsD (List.replicate n r))) := by
  rw [mulM_lst (by omega) (by omega) (by show 1 ≤ 1000; decide)]
  congr 2
  rw [Int.toNat_natCast]
  unfold rowsD
  clear h
  induction n with
  | zero => rfl
  | succ n ih => rw [List.replicate_succ, List.flatten_cons, ih, List.replicate_succ]; rfl
theorem rep_sum (n : Nat) (x : Int) : (List.replicate n x).sum = (n : Int) * x := by
  induction n with
  | zero => simp
  | succ n ih => rw [List.replicate_succ, List.sum_cons, ih, Int.natCast_add, Int.add_mul]; omega
def backR (n : Nat) (r : List Int) : List Int := r.map fun x => 0 - x * (n : Int)
def backR2 (n : Nat) (r f : List Int) : List Int := List.zipWith (fun x y => 0 - x * (n : Int) - y) r f
theorem map_at (f : Int → Int) (h0 : f 0 = 0) (r : List Int) (k : Nat) : (r.map f).getD k 0 = f (r.getD k 0) := by
  rw [List.getD_eq_getElem?_getD, List.getD_eq_getElem?_getD, List.getElem?_map]
  cases r[k]? with
  | none => exact h0.symm
  | some x => rfl
theorem zip_at (g : Int → Int → Int) {r f : List Int} {k : Nat} (h1 : k < r.length) (h2 : k < f.length) : (List.zipWith g r f).getD k 0 = g (r.getD k 0) (f.getD k 0) := by
  rw [List.getD_eq_getElem?_getD, List.getD_eq_getElem?_getD, List.getD_eq_getElem?_getD, List.getElem?_zipWith, List.getElem?_eq_getElem h1, List.getElem?_eq_getElem h2]
  rfl
theorem even_back {kinds n : Nat} {r : List Int} : EvenR kinds (List.replicate n r ++ [backR n r]) := ⟨fun k _ => by
  rw [List.map_append, List.sum_append, List.map_replicate, rep_sum]
  show _ + ((backR n r).getD k 0 + 0) = 0
  unfold backR
  rw [map_at _ (by simp), Int.mul_comm]
  omega⟩
theorem even_back2 {kinds n : Nat} {r f : List Int} (h1 : r.length = kinds) (h2 : f.length = kinds) : EvenR kinds (List.replicate n r ++ [f, backR2 n r f]) := ⟨fun k hk => by
  rw [List.map_append, List.sum_append, List.map_replicate, rep_sum]
  show _ + (f.getD k 0 + ((backR2 n r f).getD k 0 + 0)) = 0
  unfold backR2
  rw [zip_at _ (by omega) (by omega), Int.mul_comm]
  omega⟩
theorem mem_zw {g : Int → Int → Int} : ∀ {r f : List Int} {z : Int}, z ∈ List.zipWith g r f → ∃ x y, x ∈ r ∧ y ∈ f ∧ z = g x y
  | [], _, _, h => by simp at h
  | _ :: _, [], _, h => by simp at h
  | x :: r, y :: f, z, h => by
    rw [List.zipWith_cons_cons] at h
    rcases List.mem_cons.mp h with h | h
    · exact ⟨x, y, List.mem_cons_self, List.mem_cons_self, h⟩
    · obtain ⟨a, b, ha, hb, e⟩ := mem_zw h
      exact ⟨a, b, List.mem_cons_of_mem _ ha, List.mem_cons_of_mem _ hb, e⟩
theorem lcM_ints {kinds : Nat} {ee : PyData → M PyData} {lo hi : Int} (h : kinds ≤ 1000) (he : ∀ k : Nat, Does (ee (num k)) fun d => ∃ x : Int, d = .int x ∧ lo ≤ x ∧ x ≤ hi) : Does (lcF (rangeI (num kinds)) dec1 (fun _ => pureT true) ee) fun ds => ∃ r : List Int, ds = r.map .int ∧ r.length = kinds ∧ ∀ x ∈ r, lo ≤ x ∧ x ≤ hi := by
  refine (lcF_does (xs := (List.range kinds).map num) (rangeN (by omega)) (by simp; omega) (lcM_does (enc := num) (j := num) (P := fun _ d => ∃ x : Int, d = .int x ∧ lo ≤ x ∧ x ≤ hi) (List.range kinds) fun a _ => ⟨rfl, rfl, he a⟩)).imp fun ds hds => ?_
  obtain ⟨r, rfl, hl, hb⟩ := all2_ints hds
  exact ⟨r, rfl, by simpa using hl, hb⟩
theorem hard_does : Does (W__law_hard_even []) fun d => ∃ kinds rs, d = loadD kinds rs ∧ LoadOk 24 1000000 kinds rs ∧ EvenR kinds rs := by
  simp only [W__law_hard_even, onE, wb__law_hard_even, pw6, pure_bindT, bind_pureT, bind_bindT, raise_bindT, fail_bindT, guard_bindT, nox_pureT, nox_bindT, nox_guardT, nox_failT, nox_anyT, nox_noxT, onLs_lst, fnT_raise, goFl_raise, onL_raise, told_pure, tryR_pure, tryE_pure, nilT_eq, boolT_pure, ifR_pure, ifT_pure, andB_pure, orB_pure, notB_pure, andV_pure, orV_pure, notV_pure, goFl_nx, onL_inl, onL_inr, fnT_rt, fnT_bind, fnT_nx, onL_bind, consT_eq, lstV_eq, tupT_bind, boolT_bind, notB_bind, notV_bind, andB_bind, orB_bind, andV_bind, orV_bind, ifR_bind, ifT_bind, goFl_bind, lcF_bind, tup_0, tup_1, tup_2, tup_3, tup_4, guard_small, tupT_guard, boolT_guard, endE_rt, optT_some, un1_one, un2_two, isiM_eq, len_tup, len_lst, addM_int, subM_int, eq_int, ne_int, eq_str, ne_str, lt_int, le_int, gt_int, ge_int, ix_0, ix_1, items_tup, items_lst, tuple_lst, tuple_tup, isN_eq, notN_eq, sum_ints, maxD_ints, all_bools, abs_int, List.length_cons, List.length_nil, Nat.zero_add, Nat.reduceAdd, Nat.reduceLeDiff, if_true, if_false, Bool.false_eq_true, reduceIte]
  refine kinds_draw fun kinds hk1 hk4 => ?_
  refine Does.bind (lcM_ints (lo := 1) (hi := 9) (by omega) fun k => ?_) fun ds hds => ?_
  · refine Does.bind (draw_does (by decide) (by decide)) fun d hd => ?_
    obtain ⟨z, rfl, z0, z1⟩ := hd
    exact .pure ⟨_, rfl, by omega, by omega⟩
  obtain ⟨r, rfl, hr, hb⟩ := hds
  refine Does.bind (draw_does (by decide) (by decide)) fun d1 h1 => ?_
  obtain ⟨r1, rfl, r10, r11⟩ := h1
  obtain ⟨n, rfl⟩ : ∃ n : Nat, r1 = n := ⟨r1.toNat, by omega⟩
  have en : addM (.int 2) (.int (n : Int)) = pureT (num (2 + n)) := by rw [addM_int]; congr 2
  have bd : ∀ x ∈ r, 0 ≤ x * ((2 + n : Nat) : Int) ∧ x * ((2 + n : Nat) : Int) ≤ 9 * 21 := fun x hx => by
    obtain ⟨a, b⟩ := hb x hx
    exact ⟨Int.mul_nonneg (by omega) (by omega), Int.mul_le_mul b (by omega) (by omega) (by decide)⟩
  have mu : ∀ x ∈ r, mulM (.int x) (num (2 + n)) = pureT (.int (x * ((2 + n : Nat) : Int))) := fun x hx => mul64 (by have := hb x hx; omega) (by omega)
  have b1 : lcF (pureT (r.map .int)) dec1 (fun _ => pureT true) (fun p12 => bindT (mulM p12 (num (2 + n))) fun v16 => subM (.int 0) v16) = pureT ((backR (2 + n) r).map .int) := mapT_row (r := r) (by omega) fun x hx => by rw [mu x hx]; rfl
  simp only [en, b1, pure_bindT, bind_pureT, bind_bindT, raise_bindT, fail_bindT, guard_bindT, nox_pureT, nox_bindT, nox_guardT, nox_failT, nox_anyT, nox_noxT, onLs_lst, fnT_raise, goFl_raise, onL_raise, told_pure, tryR_pure, tryE_pure, nilT_eq, boolT_pure, ifR_pure, ifT_pure, andB_pure, orB_pure, notB_pure, andV_pure, orV_pure, notV_pure, goFl_nx, onL_inl, onL_inr, fnT_rt, fnT_bind, fnT_nx, onL_bind, consT_eq, lstV_eq, tupT_bind, boolT_bind, notB_bind, notV_bind, andB_bind, orB_bind, andV_bind, orV_bind, ifR_bind, ifT_bind, goFl_bind, lcF_bind, tup_0, tup_1, tup_2, tup_3, tup_4, guard_small, tupT_guard, boolT_guard, endE_rt, optT_some, un1_one, un2_two, isiM_eq, len_tup, len_lst, addM_int, subM_int, eq_int, ne_int, eq_str, ne_str, lt_int, le_int, gt_int, ge_int, ix_0, ix_1, items_tup, items_lst, tuple_lst, tuple_tup, isN_eq, notN_eq, sum_ints, maxD_ints, all_bools, abs_int, List.length_cons, List.length_nil, Nat.zero_add, Nat.reduceAdd, Nat.reduceLeDiff, if_true, if_false, Bool.false_eq_true, reduceIte]
  refine Does.bind (draw_does (by decide) (by decide)) fun d2 h2 => ?_
  obtain ⟨w, rfl, w0, w1⟩ := h2
  simp only [pure_bindT, bind_pureT, bind_bindT, raise_bindT, fail_bindT, guard_bindT, nox_pureT, nox_bindT, nox_guardT, nox_failT, nox_anyT, nox_noxT, onLs_lst, fnT_raise, goFl_raise, onL_raise, told_pure, tryR_pure, tryE_pure, nilT_eq, boolT_pure, ifR_pure, ifT_pure, andB_pure, orB_pure, notB_pure, andV_pure, orV_pure, notV_pure, goFl_nx, onL_inl, onL_inr, fnT_rt, fnT_bind, fnT_nx, onL_bind, consT_eq, lstV_eq, tupT_bind, boolT_bind, notB_bind, notV_bind, andB_bind, orB_bind, andV_bind, orV_bind, ifR_bind, ifT_bind, goFl_bind, lcF_bind, tup_0, tup_1, tup_2, tup_3, tup_4, guard_small, tupT_guard, boolT_guard, endE_rt, optT_some, un1_one, un2_two, isiM_eq, len_tup, len_lst, addM_int, subM_int, eq_int, ne_int, eq_str, ne_str, lt_int, le_int, gt_int, ge_int, ix_0, ix_1, items_tup, items_lst, tuple_lst, tuple_tup, isN_eq, notN_eq, sum_ints, maxD_ints, all_bools, abs_int, List.length_cons, List.length_nil, Nat.zero_add, Nat.reduceAdd, Nat.reduceLeDiff, if_true, if_false, Bool.false_eq_true, reduceIte]
  refine fnD (goD (P := fun s => ∃ fs : List (List Int), s = .list (rowsD fs) ∧ fs.length ≤ 2 ∧ (∀ q ∈ fs, RowOk kinds 1000000 q) ∧ EvenR kinds (List.replicate (2 + n) r ++ fs)) ?_ fun s hs => ?_)
  · refine .ite (fun _ => ?_) (fun _ => .pure ⟨_, rfl, [backR (2 + n) r], rfl, by show 1 ≤ 2; decide, fun q hq => ?_, even_back⟩)
    · refine Does.bind (lcM_ints (lo := -3) (hi := 3) (by omega) fun k => ?_) fun ds hds => ?_
      · refine Does.bind (draw_does (by decide) (by decide)) fun d hd => ?_
        obtain ⟨z, rfl, z0, z1⟩ := hd
        exact .pure ⟨_, rfl, by omega, by omega⟩
      obtain ⟨f, rfl, hf, hfb⟩ := hds
      have ez : zipI (.tuple (r.map .int)) (.tuple (f.map .int)) = pureT ((r.zip f).map fun p => PyData.tuple [.int p.1, .int p.2]) := by
        show pureT (zipD _ _) = _
        rw [zipD_enc]
      have b2 : lcF (zipI (.tuple (r.map .int)) (.tuple (f.map .int))) dec2 (fun _ => pureT true) (fun p28 => bindT (mulM p28.1 (num (2 + n))) fun v32 => bindT (subM (.int 0) v32) fun u33 => subM u33 p28.2) = pureT ((backR2 (2 + n) r f).map .int) := by
        rw [lcF_eq (ds := (r.zip f).map fun p => PyData.int (0 - p.1 * ((2 + n : Nat) : Int) - p.2)) ez (by rw [List.length_map, List.length_zip]; omega) (lcM_map (enc := fun (p : Int × Int) => PyData.tuple [.int p.1, .int p.2]) (j := fun p => (.int p.1, .int p.2)) _ fun p hp => ⟨rfl, rfl, by rw [mu p.1 (List.of_mem_zip hp).1]; rfl⟩)]
        congr 1
        unfold backR2
        clear ez b1 mu bd hb hr hf hfb
        induction r generalizing f with
        | nil => rfl
        | cons x r ih =>
          cases f with
          | nil => rfl
          | cons y f => rw [List.zip_cons_cons, List.map_cons, ih, List.zipWith_cons_cons, List.map_cons]
      simp only [b2, pure_bindT, bind_pureT, bind_bindT, raise_bindT, fail_bindT, guard_bindT, nox_pureT, nox_bindT, nox_guardT, nox_failT, nox_anyT, nox_noxT, onLs_lst, fnT_raise, goFl_raise, onL_raise, told_pure, tryR_pure, tryE_pure, nilT_eq, boolT_pure, ifR_pure, ifT_pure, andB_pure, orB_pure, notB_pure, andV_pure, orV_pure, notV_pure, goFl_nx, onL_inl, onL_inr, fnT_rt, fnT_bind, fnT_nx, onL_bind, consT_eq, lstV_eq, tupT_bind, boolT_bind, notB_bind, notV_bind, andB_bind, orB_bind, andV_bind, orV_bind, ifR_bind, ifT_bind, goFl_bind, lcF_bind, tup_0, tup_1, tup_2, tup_3, tup_4, guard_small, tupT_guard, boolT_guard, endE_rt, optT_some, un1_one, un2_two, isiM_eq, len_tup, len_lst, addM_int, subM_int, eq_int, ne_int, eq_str, ne_str, lt_int, le_int, gt_int, ge_int, ix_0, ix_1, items_tup, items_lst, tuple_lst, tuple_tup, isN_eq, notN_eq, sum_ints, maxD_ints, all_bools, abs_int, List.length_cons, List.length_nil, Nat.zero_add, Nat.reduceAdd, Nat.reduceLeDiff, if_true, if_false, Bool.false_eq_true, reduceIte]
      refine .pure ⟨_, rfl, [f, backR2 (2 + n) r f], rfl, by show 2 ≤ 2; decide, fun q hq => ?_, even_back2 hr hf⟩
      simp only [List.mem_cons, List.not_mem_nil, or_false] at hq
      rcases hq with rfl | rfl
      · exact ⟨hf, fun x hx => by have := hfb x hx; omega⟩
      · refine ⟨by unfold backR2; rw [List.length_zipWith]; omega, fun y hy => ?_⟩
        unfold backR2 at hy
        obtain ⟨a, b, ha, hb2, rfl⟩ := mem_zw hy
        have := bd a ha
        have := hfb b hb2
        omega
    · obtain rfl := List.mem_singleton.mp hq
      refine ⟨by unfold backR; rw [List.length_map]; exact hr, fun y hy => ?_⟩
      obtain ⟨x, hx, rfl⟩ := List.mem_map.mp hy
      have := bd x hx
      omega
  · obtain ⟨fs, rfl, hl, hq, he⟩ := hs
    have hrow : RowOk kinds 1000000 r := ⟨hr, fun x hx => by have := hb x hx; omega⟩
    have ec : catL (.list (rowsD (List.replicate (2 + n) r))) (.list (rowsD fs)) = pureT ((List.replicate (2 + n) r ++ fs).map rowD) := by
      rw [catL_lst (small_le (by rw [rowsD_length, rowsD_length, List.length_replicate]; omega)), List.map_append]
      rfl
    have er : PyData.tuple (r.map .int) = rowD r := rfl
    simp only [er, rep_rows r (2 + n) (by omega), ec, pure_bindT, bind_pureT, bind_bindT, raise_bindT, fail_bindT, guard_bindT, nox_pureT, nox_bindT, nox_guardT, nox_failT, nox_anyT, nox_noxT, onLs_lst, fnT_raise, goFl_raise, onL_raise, told_pure, tryR_pure, tryE_pure, nilT_eq, boolT_pure, ifR_pure, ifT_pure, andB_pure, orB_pure, notB_pure, andV_pure, orV_pure, notV_pure, goFl_nx, onL_inl, onL_inr, fnT_rt, fnT_bind, fnT_nx, onL_bind, consT_eq, lstV_eq, tupT_bind, boolT_bind, notB_bind, notV_bind, andB_bind, orB_bind, andV_bind, orV_bind, ifR_bind, ifT_bind, goFl_bind, lcF_bind, tup_0, tup_1, tup_2, tup_3, tup_4, guard_small, tupT_guard, boolT_guard, endE_rt, optT_some, un1_one, un2_two, isiM_eq, len_tup, len_lst, addM_int, subM_int, eq_int, ne_int, eq_str, ne_str, lt_int, le_int, gt_int, ge_int, ix_0, ix_1, items_tup, items_lst, tuple_lst, tuple_tup, isN_eq, notN_eq, sum_ints, maxD_ints, all_bools, abs_int, List.length_cons, List.length_nil, Nat.zero_add, Nat.reduceAdd, Nat.reduceLeDiff, if_true, if_false, Bool.false_eq_true, reduceIte]
    refine Does.bind (mixed_enc rowD (by rw [List.length_append, List.length_replicate]; omega)) fun d hd => ?_
    obtain ⟨o, rfl, ho⟩ := hd
    rw [tuple_lst, pure_bindT]
    refine .pure ⟨_, rfl, kinds, o, rfl, ⟨hk1, hk4, by rw [ho.length_eq, List.length_append, List.length_replicate]; omega, fun q hq2 => ?_⟩, he.perm ho⟩
    rcases List.mem_append.mp (ho.mem_iff.mp hq2) with h | h
    · rw [(List.mem_replicate.mp h).2]; exact hrow
    · exact hq q h

theorem up_ok {n m kinds : Nat} {rs : List (List Int)} (h : LoadOk n 1000000 kinds rs) (hm : n ≤ m) : LoadOk m 1000000 kinds rs := ⟨h.k1, h.k4, Nat.le_trans h.len hm, h.rows⟩
theorem anyeven_does {rows : Nat} (h0 : 1 ≤ rows) (h : rows ≤ 24) : Does (W__law_any_even [.int (rows : Nat)]) fun d => ∃ kinds rs, d = loadD kinds rs ∧ LoadOk 24 1000000 kinds rs ∧ EvenR kinds rs := by
  simp only [W__law_any_even, onE, wb__law_any_even, pure_bindT, bind_pureT, bind_bindT, raise_bindT, fail_bindT, guard_bindT, nox_pureT, nox_bindT, nox_guardT, nox_failT, nox_anyT, nox_noxT, onLs_lst, fnT_raise, goFl_raise, onL_raise, told_pure, tryR_pure, tryE_pure, nilT_eq, boolT_pure, ifR_pure, ifT_pure, andB_pure, orB_pure, notB_pure, andV_pure, orV_pure, notV_pure, goFl_nx, onL_inl, onL_inr, fnT_rt, fnT_bind, fnT_nx, onL_bind, consT_eq, lstV_eq, tupT_bind, boolT_bind, notB_bind, notV_bind, andB_bind, orB_bind, andV_bind, orV_bind, ifR_bind, ifT_bind, goFl_bind, lcF_bind, tup_0, tup_1, tup_2, tup_3, tup_4, guard_small, tupT_guard, boolT_guard, endE_rt, optT_some, un1_one, un2_two, isiM_eq, len_tup, len_lst, addM_int, subM_int, eq_int, ne_int, eq_str, ne_str, lt_int, le_int, gt_int, ge_int, ix_0, ix_1, items_tup, items_lst, tuple_lst, tuple_tup, isN_eq, notN_eq, sum_ints, maxD_ints, all_bools, abs_int, List.length_cons, List.length_nil, Nat.zero_add, Nat.reduceAdd, Nat.reduceLeDiff, if_true, if_false, Bool.false_eq_true, reduceIte]
  have ev : Does (W__law_even [.int (rows : Nat)]) fun d => ∃ kinds rs, d = loadD kinds rs ∧ LoadOk 24 1000000 kinds rs ∧ EvenR kinds rs := (even_does h0 h).imp fun d ⟨kinds, rs, e, o, v⟩ => ⟨kinds, rs, e, up_ok o h, v⟩
  refine Does.bind (P := fun d => ∃ w : Int, d = .int w) (.ite (fun _ => (draw_does (by decide) (by decide)).imp fun d ⟨w, e, _⟩ => ⟨w, e⟩) (fun _ => .pure ⟨_, rfl⟩)) fun d hd => ?_
  obtain ⟨w, rfl⟩ := hd
  simp only [pure_bindT, bind_pureT, bind_bindT, raise_bindT, fail_bindT, guard_bindT, nox_pureT, nox_bindT, nox_guardT, nox_failT, nox_anyT, nox_noxT, onLs_lst, fnT_raise, goFl_raise, onL_raise, told_pure, tryR_pure, tryE_pure, nilT_eq, boolT_pure, ifR_pure, ifT_pure, andB_pure, orB_pure, notB_pure, andV_pure, orV_pure, notV_pure, goFl_nx, onL_inl, onL_inr, fnT_rt, fnT_bind, fnT_nx, onL_bind, consT_eq, lstV_eq, tupT_bind, boolT_bind, notB_bind, notV_bind, andB_bind, orB_bind, andV_bind, orV_bind, ifR_bind, ifT_bind, goFl_bind, lcF_bind, tup_0, tup_1, tup_2, tup_3, tup_4, guard_small, tupT_guard, boolT_guard, endE_rt, optT_some, un1_one, un2_two, isiM_eq, len_tup, len_lst, addM_int, subM_int, eq_int, ne_int, eq_str, ne_str, lt_int, le_int, gt_int, ge_int, ix_0, ix_1, items_tup, items_lst, tuple_lst, tuple_tup, isN_eq, notN_eq, sum_ints, maxD_ints, all_bools, abs_int, List.length_cons, List.length_nil, Nat.zero_add, Nat.reduceAdd, Nat.reduceLeDiff, if_true, if_false, Bool.false_eq_true, reduceIte]
  refine fnD (.ite (fun _ => ?_) (fun _ => ?_))
  · exact great_does.bind fun d hd => .pure ⟨d, rfl, hd⟩
  · exact (Does.ite (fun _ => hard_does) (fun _ => ev)).bind fun d hd => .pure ⟨d, rfl, hd⟩
/-- rows that the draws will have -/
theorem anyload_does {rows : Nat} (h : rows ≤ 24) : Does (W__law_any_load [.int (rows : Nat)]) fun d => ∃ kinds rs, d = loadD kinds rs ∧ LoadOk 24 1000000 kinds rs := by
  simp only [W__law_any_load, onE, wb__law_any_load, pure_bindT, bind_pureT, bind_bindT, raise_bindT, fail_bindT, guard_bindT, nox_pureT, nox_bindT, nox_guardT, nox_failT, nox_anyT, nox_noxT, onLs_lst, fnT_raise, goFl_raise, onL_raise, told_pure, tryR_pure, tryE_pure, nilT_eq, boolT_pure, ifR_pure, ifT_pure, andB_pure, orB_pure, notB_pure, andV_pure, orV_pure, notV_pure, goFl_nx, onL_inl, onL_inr, fnT_rt, fnT_bind, fnT_nx, onL_bind, consT_eq, lstV_eq, tupT_bind, boolT_bind, notB_bind, notV_bind, andB_bind, orB_bind, andV_bind, orV_bind, ifR_bind, ifT_bind, goFl_bind, lcF_bind, tup_0, tup_1, tup_2, tup_3, tup_4, guard_small, tupT_guard, boolT_guard, endE_rt, optT_some, un1_one, un2_two, isiM_eq, len_tup, len_lst, addM_int, subM_int, eq_int, ne_int, eq_str, ne_str, lt_int, le_int, gt_int, ge_int, ix_0, ix_1, items_tup, items_lst, tuple_lst, tuple_tup, isN_eq, notN_eq, sum_ints, maxD_ints, all_bools, abs_int, List.length_cons, List.length_nil, Nat.zero_add, Nat.reduceAdd, Nat.reduceLeDiff, if_true, if_false, Bool.false_eq_true, reduceIte]
  refine Does.bind (P := fun d => ∃ w : Int, d = .int w) (.ite (fun _ => (draw_does (by decide) (by decide)).imp fun d ⟨w, e, _⟩ => ⟨w, e⟩) (fun _ => .pure ⟨_, rfl⟩)) fun d hd => ?_
  obtain ⟨w, rfl⟩ := hd
  simp only [pure_bindT, bind_pureT, bind_bindT, raise_bindT, fail_bindT, guard_bindT, nox_pureT, nox_bindT, nox_guardT, nox_failT, nox_anyT, nox_noxT, onLs_lst, fnT_raise, goFl_raise, onL_raise, told_pure, tryR_pure, tryE_pure, nilT_eq, boolT_pure, ifR_pure, ifT_pure, andB_pure, orB_pure, notB_pure, andV_pure, orV_pure, notV_pure, goFl_nx, onL_inl, onL_inr, fnT_rt, fnT_bind, fnT_nx, onL_bind, consT_eq, lstV_eq, tupT_bind, boolT_bind, notB_bind, notV_bind, andB_bind, orB_bind, andV_bind, orV_bind, ifR_bind, ifT_bind, goFl_bind, lcF_bind, tup_0, tup_1, tup_2, tup_3, tup_4, guard_small, tupT_guard, boolT_guard, endE_rt, optT_some, un1_one, un2_two, isiM_eq, len_tup, len_lst, addM_int, subM_int, eq_int, ne_int, eq_str, ne_str, lt_int, le_int, gt_int, ge_int, ix_0, ix_1, items_tup, items_lst, tuple_lst, tuple_tup, isN_eq, notN_eq, sum_ints, maxD_ints, all_bools, abs_int, List.length_cons, List.length_nil, Nat.zero_add, Nat.reduceAdd, Nat.reduceLeDiff, if_true, if_false, Bool.false_eq_true, reduceIte]
  refine fnD (.ite (fun _ => ?_) (fun _ => .ite (fun _ => ?_) (fun _ => ?_)))
  · exact great_does.bind fun d ⟨kinds, rs, e, o, _⟩ => .pure ⟨d, rfl, kinds, rs, e, o⟩
  · refine hard_does.bind fun d hd => ?_
    obtain ⟨kinds, rs, rfl, o, _⟩ := hd
    simp only [two_load, pure_bindT, bind_pureT, bind_bindT, raise_bindT, fail_bindT, guard_bindT, nox_pureT, nox_bindT, nox_guardT, nox_failT, nox_anyT, nox_noxT, onLs_lst, fnT_raise, goFl_raise, onL_raise, told_pure, tryR_pure, tryE_pure, nilT_eq, boolT_pure, ifR_pure, ifT_pure, andB_pure, orB_pure, notB_pure, andV_pure, orV_pure, notV_pure, goFl_nx, onL_inl, onL_inr, fnT_rt, fnT_bind, fnT_nx, onL_bind, consT_eq, lstV_eq, tupT_bind, boolT_bind, notB_bind, notV_bind, andB_bind, orB_bind, andV_bind, orV_bind, ifR_bind, ifT_bind, goFl_bind, lcF_bind, tup_0, tup_1, tup_2, tup_3, tup_4, guard_small, tupT_guard, boolT_guard, endE_rt, optT_some, un1_one, un2_two, isiM_eq, len_tup, len_lst, addM_int, subM_int, eq_int, ne_int, eq_str, ne_str, lt_int, le_int, gt_int, ge_int, ix_0, ix_1, items_tup, items_lst, tuple_lst, tuple_tup, isN_eq, notN_eq, sum_ints, maxD_ints, all_bools, abs_int, List.length_cons, List.length_nil, Nat.zero_add, Nat.reduceAdd, Nat.reduceLeDiff, if_true, if_false, Bool.false_eq_true, reduceIte]
    refine Does.bind (lcF_does (xs := rs.map rowD) rfl (by rw [List.length_map]; have := o.len; omega) (lcM_some (enc := rowD) (j := rowD) rs fun r _ => ⟨rfl, ?_, rfl⟩)) fun ds hds => ?_
    · refine Does.bind (draw_does (by decide) (by decide)) fun d hd => ?_
      obtain ⟨z, rfl, _⟩ := hd
      simp only [pure_bindT, bind_pureT, bind_bindT, raise_bindT, fail_bindT, guard_bindT, nox_pureT, nox_bindT, nox_guardT, nox_failT, nox_anyT, nox_noxT, onLs_lst, fnT_raise, goFl_raise, onL_raise, told_pure, tryR_pure, tryE_pure, nilT_eq, boolT_pure, ifR_pure, ifT_pure, andB_pure, orB_pure, notB_pure, andV_pure, orV_pure, notV_pure, goFl_nx, onL_inl, onL_inr, fnT_rt, fnT_bind, fnT_nx, onL_bind, consT_eq, lstV_eq, tupT_bind, boolT_bind, notB_bind, notV_bind, andB_bind, orB_bind, andV_bind, orV_bind, ifR_bind, ifT_bind, goFl_bind, lcF_bind, tup_0, tup_1, tup_2, tup_3, tup_4, guard_small, tupT_guard, boolT_guard, endE_rt, optT_some, un1_one, un2_two, isiM_eq, len_tup, len_lst, addM_int, subM_int, eq_int, ne_int, eq_str, ne_str, lt_int, le_int, gt_int, ge_int, ix_0, ix_1, items_tup, items_lst, tuple_lst, tuple_tup, isN_eq, notN_eq, sum_ints, maxD_ints, all_bools, abs_int, List.length_cons, List.length_nil, Nat.zero_add, Nat.reduceAdd, Nat.reduceLeDiff, if_true, if_false, Bool.false_eq_true, reduceIte]
      exact .pure trivial
    · obtain ⟨bs, rfl, hb⟩ := hds
      exact .pure ⟨_, rfl, kinds, bs, rfl, o.k1, o.k4, Nat.le_trans hb.length_le o.len, fun r hr => o.rows r (hb.subset hr)⟩
  · exact (load_does (by omega)).bind fun d ⟨kinds, rs, e, o⟩ => .pure ⟨d, rfl, kinds, rs, e, up_ok o h⟩
end Nk
set_option Elab.async false
set_option linter.all false
set_option maxRecDepth 100000
set_option maxHeartbeats 4000000
namespace Nk
open PySem L2
/-! evenness, by sums -/
def zeroR (kinds : Nat) : List Int := sameR kinds 0
def evB (kinds : Nat) (rs : List (List Int)) : Bool := PyData.eqv (rowD (sumR kinds rs)) (rowD (zeroR kinds))
theorem eq_row (a b : List Int) : eqM (rowD a) (rowD b) = pureT (.bool (PyData.eqv (rowD a) (rowD b))) := by
  show guardT _ _ = _
  rw [guard_ok ⟨shaped_ints a, shaped_ints b⟩]
theorem addR_len {kinds : Nat} {a b : List Int} (h1 : a.length = kinds) (h2 : b.length = kinds) : (addR a b).length = kinds := by
  unfold addR; rw [List.length_zipWith]; omega
theorem fold_len {kinds : Nat} : ∀ {rs : List (List Int)} {t : List Int}, t.length = kinds → (∀ r ∈ rs, r.length = kinds) → (rs.foldl addR t).length = kinds
  | [], _, h, _ => h
  | r :: rs, t, h, hr => fold_len (rs := rs) (addR_len h (hr r List.mem_cons_self)) fun q hq => hr q (List.mem_cons_of_mem _ hq)
theorem fold_at {kinds k : Nat} (hk : k < kinds) : ∀ {rs : List (List Int)} {t : List Int}, t.length = kinds → (∀ r ∈ rs, r.length = kinds) → (rs.foldl addR t).getD k 0 = t.getD k 0 + (rs.map fun r => r.getD k 0).sum
  | [], t, _, _ => by simp
  | r :: rs, t, h, hr => by
    have h2 := hr r List.mem_cons_self
    rw [List.foldl_cons, fold_at hk (addR_len h h2) fun q hq => hr q (List.mem_cons_of_mem _ hq)]
    unfold addR
    rw [zip_at _ (by omega) (by omega), List.map_cons, List.sum_cons]
    omega
theorem fold_sum {kinds : Nat} {rs : List (List Int)} (hr : ∀ r ∈ rs, r.length = kinds) : rs.foldl addR (zeroR kinds) = sumR kinds rs := by
  have h0 : (zeroR kinds).length = kinds := List.length_replicate
  apply List.ext_getElem
  · rw [fold_len h0 hr]; unfold sumR; rw [List.length_map, List.length_range]
  · intro k h1 h2
    rw [fold_len h0 hr] at h1
    have e1 : (rs.foldl addR (zeroR kinds))[k] = (rs.foldl addR (zeroR kinds)).getD k 0 := by rw [List.getD_eq_getElem?_getD, List.getElem?_eq_getElem (by rw [fold_len h0 hr]; exact h1)]; rfl
    rw [e1, fold_at h1 h0 hr]
    have e2 : (sumR kinds rs)[k] = (sumR kinds rs).getD k 0 := by rw [List.getD_eq_getElem?_getD, List.getElem?_eq_getElem h2]; rfl
    have e3 : (sumR kinds rs).getD k 0 = (rs.map fun r => r.getD k 0).sum := by
      unfold sumR
      rw [List.getD_eq_getElem?_getD, List.getElem?_map, List.getElem?_range h1]
      rfl
    have e4 : (zeroR kinds).getD k 0 = 0 := by
      unfold zeroR sameR
      rw [List.getD_eq_getElem?_getD, List.getElem?_replicate, if_pos h1]
      rfl
    rw [e2, e3, e4]
    omega
theorem ix_last (s : List PyData) (d : PyData) : ixM (.tuple (s ++ [d])) (.int (-1)) = pureT d := by
  have hl : (s ++ [d]).length = s.length + 1 := by rw [List.length_append]; rfl
  have h : ixN (s ++ [d]).length (-1) = some s.length := by
    unfold ixN
    rw [hl, if_neg (by decide), if_pos (by omega)]
    congr 1
    omega
  show optT (atI (s ++ [d]) (-1)) = _
  unfold atI
  rw [h]
  show optT ((s ++ [d])[s.length]?) = _
  rw [List.getElem?_append_right (Nat.le_refl _), Nat.sub_self]
  rfl
theorem sums_eq {kinds : Nat} {rs : List (List Int)} (hk : kinds ≤ 100) (hl : rs.length ≤ 100) (hr : ∀ r ∈ rs, r.length = kinds) : ∃ s : List PyData, W_sums [num kinds, .tuple (rowsD rs)] = pureT (.tuple (s ++ [rowD (sumR kinds rs)])) := by
  have h0 : (zeroR kinds).length = kinds := List.length_replicate
  have main : ∀ (as : List (List Int)) (t : List Int) (s : List PyData), t.length = kinds → (∀ r ∈ as, r.length = kinds) → s.length + as.length ≤ 1000 → ∃ s', forM' dec1 (fun p8 (s7 : PyData × List PyData) => bindT (W_added [s7.1, p8]) fun x => guardT (s7.2.length < sizeLine) (pureT (Fl.nx (x, s7.2 ++ [x])))) (as.map rowD) (rowD t, s ++ [rowD t]) = pureT (.inl (rowD (as.foldl addR t), s' ++ [rowD (as.foldl addR t)])) := by
    intro as
    induction as with
    | nil => exact fun t s _ _ _ => ⟨s, rfl⟩
    | cons r as ih =>
      intro t s ht hr hs
      have h2 := hr r List.mem_cons_self
      rw [List.length_cons] at hs
      obtain ⟨s', e⟩ := ih (addR t r) (s ++ [rowD t]) (addR_len ht h2) (fun q hq => hr q (List.mem_cons_of_mem _ hq)) (by rw [List.length_append]; show _ + 1 + _ ≤ _; omega)
      refine ⟨s', ?_⟩
      rw [List.map_cons]
      show bindT (bindT (W_added [rowD t, rowD r]) _) _ = _
      rw [added_eq (by omega), pure_bindT, guard_ok (lt_small (by rw [List.length_append]; show _ + 1 < _; omega)), pure_bindT]
      exact e
  obtain ⟨s', e⟩ := main rs (zeroR kinds) [] h0 hr (by rw [List.length_nil]; omega)
  refine ⟨s', ?_⟩
  have e0 : mulM (.tuple [.int 0]) (num kinds) = pureT (rowD (zeroR kinds)) := mul_one 0 kinds (by omega)
  have e1 : forM' dec1 (fun p8 (s7 : PyData × List PyData) => bindT (W_added [s7.1, p8]) fun x => guardT (s7.2.length < sizeLine) (pureT (Fl.nx (x, s7.2 ++ [x])))) (rowsD rs) (rowD (zeroR kinds), [rowD (zeroR kinds)]) = _ := e
  simp only [W_sums, onE, wb_sums, e0, e1, pure_bindT, bind_pureT, bind_bindT, raise_bindT, fail_bindT, guard_bindT, nox_pureT, nox_bindT, nox_guardT, nox_failT, nox_anyT, nox_noxT, onLs_lst, fnT_raise, goFl_raise, onL_raise, told_pure, tryR_pure, tryE_pure, nilT_eq, boolT_pure, ifR_pure, ifT_pure, andB_pure, orB_pure, notB_pure, andV_pure, orV_pure, notV_pure, goFl_nx, onL_inl, onL_inr, fnT_rt, fnT_bind, fnT_nx, onL_bind, consT_eq, lstV_eq, tupT_bind, boolT_bind, notB_bind, notV_bind, andB_bind, orB_bind, andV_bind, orV_bind, ifR_bind, ifT_bind, goFl_bind, lcF_bind, tup_0, tup_1, tup_2, tup_3, tup_4, guard_small, tupT_guard, boolT_guard, endE_rt, optT_some, un1_one, un2_two, isiM_eq, len_tup, len_lst, addM_int, subM_int, eq_int, ne_int, eq_str, ne_str, lt_int, le_int, gt_int, ge_int, ix_0, ix_1, items_tup, items_lst, tuple_lst, tuple_tup, isN_eq, notN_eq, sum_ints, maxD_ints, all_bools, abs_int, List.length_cons, List.length_nil, Nat.zero_add, Nat.reduceAdd, Nat.reduceLeDiff, if_true, if_false, Bool.false_eq_true, reduceIte]
  rw [fold_sum hr]
theorem is_even_eq {kinds : Nat} {rs : List (List Int)} (hk : kinds ≤ 100) (hl : rs.length ≤ 100) (hr : ∀ r ∈ rs, r.length = kinds) : W_is_even [loadD kinds rs] = pureT (.bool (evB kinds rs)) := by
  obtain ⟨s, e⟩ := sums_eq hk hl hr
  have n1 : negM (.int 1) = pureT (.int (-1)) := rfl
  have e0 : mulM (.tuple [.int 0]) (num kinds) = pureT (rowD (zeroR kinds)) := mul_one 0 kinds (by omega)
  simp only [W_is_even, onE, wb_is_even, two_load, e, n1, ix_last, e0, eq_row, pure_bindT, bind_pureT, bind_bindT, raise_bindT, fail_bindT, guard_bindT, nox_pureT, nox_bindT, nox_guardT, nox_failT, nox_anyT, nox_noxT, onLs_lst, fnT_raise, goFl_raise, onL_raise, told_pure, tryR_pure, tryE_pure, nilT_eq, boolT_pure, ifR_pure, ifT_pure, andB_pure, orB_pure, notB_pure, andV_pure, orV_pure, notV_pure, goFl_nx, onL_inl, onL_inr, fnT_rt, fnT_bind, fnT_nx, onL_bind, consT_eq, lstV_eq, tupT_bind, boolT_bind, notB_bind, notV_bind, andB_bind, orB_bind, andV_bind, orV_bind, ifR_bind, ifT_bind, goFl_bind, lcF_bind, tup_0, tup_1, tup_2, tup_3, tup_4, guard_small, tupT_guard, boolT_guard, endE_rt, optT_some, un1_one, un2_two, isiM_eq, len_tup, len_lst, addM_int, subM_int, eq_int, ne_int, eq_str, ne_str, lt_int, le_int, gt_int, ge_int, ix_0, ix_1, items_tup, items_lst, tuple_lst, tuple_tup, isN_eq, notN_eq, sum_ints, maxD_ints, all_bools, abs_int, List.length_cons, List.length_nil, Nat.zero_add, Nat.reduceAdd, Nat.reduceLeDiff, if_true, if_false, Bool.false_eq_true, reduceIte]
  rfl
theorem must_even_eq {kinds : Nat} {rs : List (List Int)} (hk : kinds ≤ 100) (hl : rs.length ≤ 100) (hr : ∀ r ∈ rs, r.length = kinds) : W_must_be_even [loadD kinds rs] = if evB kinds rs = true then pureT .none else raiseT ⟨"Uneven", none⟩ := by
  simp only [W_must_be_even, onE, wb_must_be_even, is_even_eq hk hl hr, pure_bindT, bind_pureT, bind_bindT, raise_bindT, fail_bindT, guard_bindT, nox_pureT, nox_bindT, nox_guardT, nox_failT, nox_anyT, nox_noxT, onLs_lst, fnT_raise, goFl_raise, onL_raise, told_pure, tryR_pure, tryE_pure, nilT_eq, boolT_pure, ifR_pure, ifT_pure, andB_pure, orB_pure, notB_pure, andV_pure, orV_pure, notV_pure, goFl_nx, onL_inl, onL_inr, fnT_rt, fnT_bind, fnT_nx, onL_bind, consT_eq, lstV_eq, tupT_bind, boolT_bind, notB_bind, notV_bind, andB_bind, orB_bind, andV_bind, orV_bind, ifR_bind, ifT_bind, goFl_bind, lcF_bind, tup_0, tup_1, tup_2, tup_3, tup_4, guard_small, tupT_guard, boolT_guard, endE_rt, optT_some, un1_one, un2_two, isiM_eq, len_tup, len_lst, addM_int, subM_int, eq_int, ne_int, eq_str, ne_str, lt_int, le_int, gt_int, ge_int, ix_0, ix_1, items_tup, items_lst, tuple_lst, tuple_tup, isN_eq, notN_eq, sum_ints, maxD_ints, all_bools, abs_int, List.length_cons, List.length_nil, Nat.zero_add, Nat.reduceAdd, Nat.reduceLeDiff, if_true, if_false, Bool.false_eq_true, reduceIte]
  cases evB kinds rs with
  | true => rfl
  | false => rfl
/-! orders halved -/
def onR (o : List Nat) (g : List Int) (v : Int) : List Nat := ((o.zip g).filter fun p => decide (p.2 = v)).map (·.1)
def halvR (o : List Nat) (g : List Int) : List Nat := onR o g 1 ++ (onR o g (-1)).reverse
theorem zip_og (o : List Nat) (g : List Int) : zipI (natsD o) (rowD g) = pureT ((o.zip g).map fun p => PyData.tuple [num p.1, .int p.2]) := by
  show pureT (zipD _ _) = _
  rw [zipD_enc]
theorem on_eq {o : List Nat} {g : List Int} (v : Int) (hl : o.length ≤ 1000) : lcF (zipI (natsD o) (rowD g)) dec2 (fun p => boolT (eqM p.2 (.int v))) (fun p => pureT p.1) = pureT ((onR o g v).map num) := by
  rw [lcF_eq (ds := ((o.zip g).filter fun p => decide (p.2 = v)).map fun p => num p.1) (zip_og o g) (by rw [List.length_map, List.length_zip]; omega) (lcM_filter (enc := fun (p : Nat × Int) => PyData.tuple [num p.1, .int p.2]) (j := fun p => (num p.1, .int p.2)) (keep := fun p => decide (p.2 = v)) (g := fun p => num p.1) _ fun p _ => ⟨rfl, rfl, fun _ => rfl⟩)]
  unfold onR
  rw [List.map_map]
  rfl
theorem on_len (o : List Nat) (g : List Int) (v : Int) : (onR o g v).length ≤ o.length := by
  unfold onR
  rw [List.length_map]
  exact Nat.le_trans (List.length_filter_le ..) (by rw [List.length_zip]; omega)
theorem halved_eq {kinds : Nat} {rs : List (List Int)} {o : List Nat} {g : List Int} (hk : kinds ≤ 100) (hl : rs.length ≤ 100) (hr : ∀ r ∈ rs, r.length = kinds) (ho : o.length ≤ 1000) :
    W_halved [loadD kinds rs, natsD o, rowD g] = if evB kinds rs = true then pureT (natsD (halvR o g)) else raiseT ⟨"Uneven", none⟩ := by
  have n1 : negM (.int 1) = pureT (.int (-1)) := rfl
  have o1 := on_eq (o := o) (g := g) 1 ho
  have o2 := on_eq (o := o) (g := g) (-1) ho
  have rv : revL (.list ((onR o g (-1)).map num)) = pureT (.list ((onR o g (-1)).reverse.map num)) := by
    show pureT (PyData.list _) = _
    rw [List.map_reverse]
  have l1 := on_len o g 1
  have l2 := on_len o g (-1)
  have ct : catL (.list ((onR o g 1).map num)) (.list ((onR o g (-1)).reverse.map num)) = pureT ((halvR o g).map num) := by
    rw [catL_lst (small_le (by rw [List.length_map, List.length_map, List.length_reverse]; omega)), ← List.map_append]
    rfl
  simp only [W_halved, onE, wb_halved, must_even_eq hk hl hr, n1, o1, o2, rv, ct, pure_bindT, bind_pureT, bind_bindT, raise_bindT, fail_bindT, guard_bindT, nox_pureT, nox_bindT, nox_guardT, nox_failT, nox_anyT, nox_noxT, onLs_lst, fnT_raise, goFl_raise, onL_raise, told_pure, tryR_pure, tryE_pure, nilT_eq, boolT_pure, ifR_pure, ifT_pure, andB_pure, orB_pure, notB_pure, andV_pure, orV_pure, notV_pure, goFl_nx, onL_inl, onL_inr, fnT_rt, fnT_bind, fnT_nx, onL_bind, consT_eq, lstV_eq, tupT_bind, boolT_bind, notB_bind, notV_bind, andB_bind, orB_bind, andV_bind, orV_bind, ifR_bind, ifT_bind, goFl_bind, lcF_bind, tup_0, tup_1, tup_2, tup_3, tup_4, guard_small, tupT_guard, boolT_guard, endE_rt, optT_some, un1_one, un2_two, isiM_eq, len_tup, len_lst, addM_int, subM_int, eq_int, ne_int, eq_str, ne_str, lt_int, le_int, gt_int, ge_int, ix_0, ix_1, items_tup, items_lst, tuple_lst, tuple_tup, isN_eq, notN_eq, sum_ints, maxD_ints, all_bools, abs_int, List.length_cons, List.length_nil, Nat.zero_add, Nat.reduceAdd, Nat.reduceLeDiff, if_true, if_false, Bool.false_eq_true, reduceIte]
  cases evB kinds rs with
  | true => simp only [pure_bindT, bind_pureT, bind_bindT, raise_bindT, fail_bindT, guard_bindT, nox_pureT, nox_bindT, nox_guardT, nox_failT, nox_anyT, nox_noxT, onLs_lst, fnT_raise, goFl_raise, onL_raise, told_pure, tryR_pure, tryE_pure, nilT_eq, boolT_pure, ifR_pure, ifT_pure, andB_pure, orB_pure, notB_pure, andV_pure, orV_pure, notV_pure, goFl_nx, onL_inl, onL_inr, fnT_rt, fnT_bind, fnT_nx, onL_bind, consT_eq, lstV_eq, tupT_bind, boolT_bind, notB_bind, notV_bind, andB_bind, orB_bind, andV_bind, orV_bind, ifR_bind, ifT_bind, goFl_bind, lcF_bind, tup_0, tup_1, tup_2, tup_3, tup_4, guard_small, tupT_guard, boolT_guard, endE_rt, optT_some, un1_one, un2_two, isiM_eq, len_tup, len_lst, addM_int, subM_int, eq_int, ne_int, eq_str, ne_str, lt_int, le_int, gt_int, ge_int, ix_0, ix_1, items_tup, items_lst, tuple_lst, tuple_tup, isN_eq, notN_eq, sum_ints, maxD_ints, all_bools, abs_int, List.length_cons, List.length_nil, Nat.zero_add, Nat.reduceAdd, Nat.reduceLeDiff, if_true, if_false, Bool.false_eq_true, reduceIte]; rfl
  | false => simp only [pure_bindT, bind_pureT, bind_bindT, raise_bindT, fail_bindT, guard_bindT, nox_pureT, nox_bindT, nox_guardT, nox_failT, nox_anyT, nox_noxT, onLs_lst, fnT_raise, goFl_raise, onL_raise, told_pure, tryR_pure, tryE_pure, nilT_eq, boolT_pure, ifR_pure, ifT_pure, andB_pure, orB_pure, notB_pure, andV_pure, orV_pure, notV_pure, goFl_nx, onL_inl, onL_inr, fnT_rt, fnT_bind, fnT_nx, onL_bind, consT_eq, lstV_eq, tupT_bind, boolT_bind, notB_bind, notV_bind, andB_bind, orB_bind, andV_bind, orV_bind, ifR_bind, ifT_bind, goFl_bind, lcF_bind, tup_0, tup_1, tup_2, tup_3, tup_4, guard_small, tupT_guard, boolT_guard, endE_rt, optT_some, un1_one, un2_two, isiM_eq, len_tup, len_lst, addM_int, subM_int, eq_int, ne_int, eq_str, ne_str, lt_int, le_int, gt_int, ge_int, ix_0, ix_1, items_tup, items_lst, tuple_lst, tuple_tup, isN_eq, notN_eq, sum_ints, maxD_ints, all_bools, abs_int, List.length_cons, List.length_nil, Nat.zero_add, Nat.reduceAdd, Nat.reduceLeDiff, if_true, if_false, Bool.false_eq_true, reduceIte]
theorem along_eq {kinds : Nat} {rs : List (List Int)} {o : List Nat} (ho : ∀ i ∈ o, i < rs.length) (hl : o.length ≤ 1000) : W_along [loadD kinds rs, natsD o] = pureT (loadD kinds (o.map fun i => rs.getD i [])) := by
  have e1 : lcF (itemsT (natsD o)) dec1 (fun _ => pureT true) (fun p => ixM (.tuple (rowsD rs)) p) = pureT (rowsD (o.map fun i => rs.getD i [])) := by
    rw [lcF_map (it := itemsT (natsD o)) (enc := num) (as := o) (g := fun i => rowD (rs.getD i [])) rfl (by omega) fun i hi => row_at (ho i hi)]
    unfold rowsD
    rw [List.map_map]
    rfl
  simp only [W_along, onE, wb_along, two_load, e1, pure_bindT, bind_pureT, bind_bindT, raise_bindT, fail_bindT, guard_bindT, nox_pureT, nox_bindT, nox_guardT, nox_failT, nox_anyT, nox_noxT, onLs_lst, fnT_raise, goFl_raise, onL_raise, told_pure, tryR_pure, tryE_pure, nilT_eq, boolT_pure, ifR_pure, ifT_pure, andB_pure, orB_pure, notB_pure, andV_pure, orV_pure, notV_pure, goFl_nx, onL_inl, onL_inr, fnT_rt, fnT_bind, fnT_nx, onL_bind, consT_eq, lstV_eq, tupT_bind, boolT_bind, notB_bind, notV_bind, andB_bind, orB_bind, andV_bind, orV_bind, ifR_bind, ifT_bind, goFl_bind, lcF_bind, tup_0, tup_1, tup_2, tup_3, tup_4, guard_small, tupT_guard, boolT_guard, endE_rt, optT_some, un1_one, un2_two, isiM_eq, len_tup, len_lst, addM_int, subM_int, eq_int, ne_int, eq_str, ne_str, lt_int, le_int, gt_int, ge_int, ix_0, ix_1, items_tup, items_lst, tuple_lst, tuple_tup, isN_eq, notN_eq, sum_ints, maxD_ints, all_bools, abs_int, List.length_cons, List.length_nil, Nat.zero_add, Nat.reduceAdd, Nat.reduceLeDiff, if_true, if_false, Bool.false_eq_true, reduceIte]
  rfl
theorem told_eq {kinds : Nat} {rs : List (List Int)} {o : List Nat} {g : List Int} (hk : kinds ≤ 100) (hl : rs.length ≤ 100) (hr : ∀ r ∈ rs, r.length = kinds) (ho : o.length ≤ 1000) :
    W__law_told [loadD kinds rs, natsD o, rowD g] = pureT (if evB kinds rs = true then natsD (halvR o g) else .str "uneven") := by
  have hh : handT isaL H__law_told ⟨"Uneven", none⟩ = pureT (.str "uneven") := by
    unfold H__law_told
    rw [handT, show isaL "Uneven" "Uneven" = some true by decide]
  have tr : (tryR isaL H__law_told (raiseT ⟨"Uneven", none⟩) : M (Fl Unit Empty)) = pureT (.rt (.str "uneven")) := tryR_raise hh
  simp only [W__law_told, onE, wb__law_told, halved_eq hk hl hr ho, pure_bindT, bind_pureT, bind_bindT, raise_bindT, fail_bindT, guard_bindT, nox_pureT, nox_bindT, nox_guardT, nox_failT, nox_anyT, nox_noxT, onLs_lst, fnT_raise, goFl_raise, onL_raise, told_pure, tryR_pure, tryE_pure, nilT_eq, boolT_pure, ifR_pure, ifT_pure, andB_pure, orB_pure, notB_pure, andV_pure, orV_pure, notV_pure, goFl_nx, onL_inl, onL_inr, fnT_rt, fnT_bind, fnT_nx, onL_bind, consT_eq, lstV_eq, tupT_bind, boolT_bind, notB_bind, notV_bind, andB_bind, orB_bind, andV_bind, orV_bind, ifR_bind, ifT_bind, goFl_bind, lcF_bind, tup_0, tup_1, tup_2, tup_3, tup_4, guard_small, tupT_guard, boolT_guard, endE_rt, optT_some, un1_one, un2_two, isiM_eq, len_tup, len_lst, addM_int, subM_int, eq_int, ne_int, eq_str, ne_str, lt_int, le_int, gt_int, ge_int, ix_0, ix_1, items_tup, items_lst, tuple_lst, tuple_tup, isN_eq, notN_eq, sum_ints, maxD_ints, all_bools, abs_int, List.length_cons, List.length_nil, Nat.zero_add, Nat.reduceAdd, Nat.reduceLeDiff, if_true, if_false, Bool.false_eq_true, reduceIte]
  cases evB kinds rs with
  | true => simp only [pure_bindT, bind_pureT, bind_bindT, raise_bindT, fail_bindT, guard_bindT, nox_pureT, nox_bindT, nox_guardT, nox_failT, nox_anyT, nox_noxT, onLs_lst, fnT_raise, goFl_raise, onL_raise, told_pure, tryR_pure, tryE_pure, nilT_eq, boolT_pure, ifR_pure, ifT_pure, andB_pure, orB_pure, notB_pure, andV_pure, orV_pure, notV_pure, goFl_nx, onL_inl, onL_inr, fnT_rt, fnT_bind, fnT_nx, onL_bind, consT_eq, lstV_eq, tupT_bind, boolT_bind, notB_bind, notV_bind, andB_bind, orB_bind, andV_bind, orV_bind, ifR_bind, ifT_bind, goFl_bind, lcF_bind, tup_0, tup_1, tup_2, tup_3, tup_4, guard_small, tupT_guard, boolT_guard, endE_rt, optT_some, un1_one, un2_two, isiM_eq, len_tup, len_lst, addM_int, subM_int, eq_int, ne_int, eq_str, ne_str, lt_int, le_int, gt_int, ge_int, ix_0, ix_1, items_tup, items_lst, tuple_lst, tuple_tup, isN_eq, notN_eq, sum_ints, maxD_ints, all_bools, abs_int, List.length_cons, List.length_nil, Nat.zero_add, Nat.reduceAdd, Nat.reduceLeDiff, if_true, if_false, Bool.false_eq_true, reduceIte]
  | false => simp only [tr, pure_bindT, bind_pureT, bind_bindT, raise_bindT, fail_bindT, guard_bindT, nox_pureT, nox_bindT, nox_guardT, nox_failT, nox_anyT, nox_noxT, onLs_lst, fnT_raise, goFl_raise, onL_raise, told_pure, tryR_pure, tryE_pure, nilT_eq, boolT_pure, ifR_pure, ifT_pure, andB_pure, orB_pure, notB_pure, andV_pure, orV_pure, notV_pure, goFl_nx, onL_inl, onL_inr, fnT_rt, fnT_bind, fnT_nx, onL_bind, consT_eq, lstV_eq, tupT_bind, boolT_bind, notB_bind, notV_bind, andB_bind, orB_bind, andV_bind, orV_bind, ifR_bind, ifT_bind, goFl_bind, lcF_bind, tup_0, tup_1, tup_2, tup_3, tup_4, guard_small, tupT_guard, boolT_guard, endE_rt, optT_some, un1_one, un2_two, isiM_eq, len_tup, len_lst, addM_int, subM_int, eq_int, ne_int, eq_str, ne_str, lt_int, le_int, gt_int, ge_int, ix_0, ix_1, items_tup, items_lst, tuple_lst, tuple_tup, isN_eq, notN_eq, sum_ints, maxD_ints, all_bools, abs_int, List.length_cons, List.length_nil, Nat.zero_add, Nat.reduceAdd, Nat.reduceLeDiff, if_true, if_false, Bool.false_eq_true, reduceIte]

def stepH (x : List Nat × List Nat) (p : Nat × Int) : List Nat × List Nat := if p.2 = 1 then (x.1 ++ [p.1], x.2) else (x.1, p.1 :: x.2)
theorem fold_half : ∀ (as : List (Nat × Int)) (x : List Nat × List Nat), (∀ p ∈ as, p.2 = 1 ∨ p.2 = -1) → as.foldl stepH x = (x.1 ++ (as.filter fun p => decide (p.2 = 1)).map (·.1), ((as.filter fun p => decide (p.2 = -1)).map (·.1)).reverse ++ x.2)
  | [], x, _ => by simp
  | p :: as, x, h => by
    rw [List.foldl_cons, fold_half as _ fun q hq => h q (List.mem_cons_of_mem _ hq)]
    rcases h p List.mem_cons_self with z | z
    · unfold stepH
      rw [if_pos z, List.filter_cons_of_pos (by simp [z]), List.filter_cons_of_neg (by simp [z])]
      simp
    · unfold stepH
      rw [if_neg (by omega), List.filter_cons_of_neg (by simp [z]), List.filter_cons_of_pos (by simp [z])]
      simp
theorem law_halved_eq {o : List Nat} {g : List Int} (ho : o.length ≤ 1000) (hg : ∀ x ∈ g, x = 1 ∨ x = -1) : W__law_halved [natsD o, rowD g] = pureT (natsD (halvR o g)) := by
  have lp : forM' dec2 (fun p9 (s6 : List PyData × List PyData) => goFl (ifR (boolT (eqM p9.2 (.int 1))) (guardT (s6.1.length < sizeLine) (pureT (.nx (s6.1 ++ [p9.1], s6.2)))) (bindT (insAt s6.2 (.int 0) p9.1) fun x_last16 => pureT (.nx (s6.1, x_last16)))) fun s12 : List PyData × List PyData => pureT (Fl.nx (s12.1, s12.2))) ((o.zip g).map fun p => PyData.tuple [num p.1, .int p.2]) ([], []) = pureT (.inl ((onR o g 1).map num, (onR o g (-1)).reverse.map num)) := by
    have ff := for_fold (dec := dec2) (bd := fun p9 (s6 : List PyData × List PyData) => goFl (ifR (boolT (eqM p9.2 (.int 1))) (guardT (s6.1.length < sizeLine) (pureT (.nx (s6.1 ++ [p9.1], s6.2)))) (bindT (insAt s6.2 (.int 0) p9.1) fun x_last16 => pureT (.nx (s6.1, x_last16)))) fun s12 : List PyData × List PyData => pureT (Fl.nx (s12.1, s12.2)))
      (enc := fun (p : Nat × Int) => PyData.tuple [num p.1, .int p.2]) (j := fun p => (num p.1, .int p.2)) (emb := fun (x : List Nat × List Nat) => (x.1.map num, x.2.map num)) (step := stepH) (fun i x => x.1.length + x.2.length = i) (o.zip g) 0 ([], []) rfl fun i p x hp hi => ?_
    · rw [fold_half _ _ fun p hp => hg p.2 (List.of_mem_zip hp).2] at ff
      rw [List.nil_append, List.append_nil] at ff
      exact ff
    · have hil : i < 1000 := by
        have := (List.getElem?_eq_some_iff.mp hp).1
        rw [List.length_zip] at this
        omega
      refine ⟨rfl, .inl ?_, ?_⟩
      · show goFl (ifR (pureT (decide (p.2 = 1))) _ _) _ = _
        rw [ifR_pure]
        unfold stepH
        by_cases z : p.2 = 1
        · rw [if_pos (decide_eq_true z), if_pos z, guard_ok (lt_small (by rw [List.length_map]; omega)), goFl_nx, List.map_append]
          rfl
        · rw [if_neg (by rw [decide_eq_false z]; exact Bool.false_ne_true), if_neg z]
          have ei : insAt (x.2.map num) (.int 0) (num p.1) = pureT ((p.1 :: x.2).map num) := by
            show guardT _ _ = _
            rw [guard_ok ⟨by decide, by decide, lt_small (by rw [List.length_map]; omega)⟩]
            rfl
          rw [ei, pure_bindT, goFl_nx]
      · unfold stepH
        split
        · show (x.1 ++ [p.1]).length + x.2.length = _; rw [List.length_append]; show x.1.length + 1 + _ = _; omega
        · show x.1.length + (p.1 :: x.2).length = _; rw [List.length_cons]; omega
  have l1 := on_len o g 1
  have l2 := on_len o g (-1)
  have ct : catL (.list ((onR o g 1).map num)) (.list ((onR o g (-1)).reverse.map num)) = pureT ((halvR o g).map num) := by
    rw [catL_lst (small_le (by rw [List.length_map, List.length_map, List.length_reverse]; omega)), ← List.map_append]
    rfl
  simp only [W__law_halved, onE, wb__law_halved, zip_og, lp, ct, onLs, pure_bindT, bind_pureT, bind_bindT, raise_bindT, fail_bindT, guard_bindT, nox_pureT, nox_bindT, nox_guardT, nox_failT, nox_anyT, nox_noxT, onLs_lst, fnT_raise, goFl_raise, onL_raise, told_pure, tryR_pure, tryE_pure, nilT_eq, boolT_pure, ifR_pure, ifT_pure, andB_pure, orB_pure, notB_pure, andV_pure, orV_pure, notV_pure, goFl_nx, onL_inl, onL_inr, fnT_rt, fnT_bind, fnT_nx, onL_bind, consT_eq, lstV_eq, tupT_bind, boolT_bind, notB_bind, notV_bind, andB_bind, orB_bind, andV_bind, orV_bind, ifR_bind, ifT_bind, goFl_bind, lcF_bind, tup_0, tup_1, tup_2, tup_3, tup_4, guard_small, tupT_guard, boolT_guard, endE_rt, optT_some, un1_one, un2_two, isiM_eq, len_tup, len_lst, addM_int, subM_int, eq_int, ne_int, eq_str, ne_str, lt_int, le_int, gt_int, ge_int, ix_0, ix_1, items_tup, items_lst, tuple_lst, tuple_tup, isN_eq, notN_eq, sum_ints, maxD_ints, all_bools, abs_int, List.length_cons, List.length_nil, Nat.zero_add, Nat.reduceAdd, Nat.reduceLeDiff, if_true, if_false, Bool.false_eq_true, reduceIte]
  rfl
theorem sm_nats {o : List Nat} (h : o.length ≤ 24) (hp : ∀ p ∈ o, p < 24) : Sm 700 1 (natsD o) :=
  (Sms.mapAll (f := num) fun p hq => Sm.nat (by have := hp p hq; omega)).tup.mono (by omega) (by omega)
theorem sm_signs {g : List Int} (h : g.length ≤ 24) (hg : ∀ x ∈ g, x = 1 ∨ x = -1) : Sm 700 1 (rowD g) :=
  (Sms.ints fun x hx => by rcases hg x hx with rfl | rfl <;> decide).tup.mono (by omega) (by omega)
structure SgOk (n : Nat) (g : List Int) : Prop where
  len : g.length = n
  pm : ∀ x ∈ g, x = 1 ∨ x = -1
theorem sm_uneven : Sm 60 0 (.str "uneven") := ⟨⟨by decide +kernel, by decide +kernel, by decide +kernel, by decide +kernel⟩, rfl⟩
theorem on_mem {o : List Nat} {g : List Int} {v : Int} : ∀ i ∈ onR o g v, i ∈ o := fun i hi => by
  unfold onR at hi
  obtain ⟨p, hp, rfl⟩ := List.mem_map.mp hi
  exact (List.of_mem_zip (List.mem_filter.mp hp).1).1
theorem half_len {o : List Nat} {g : List Int} (h : o.length ≤ 24) : (halvR o g).length ≤ 48 := by
  have l1 := on_len o g 1
  have l2 := on_len o g (-1)
  unfold halvR
  rw [List.length_append, List.length_reverse]
  omega
theorem sm_half {o : List Nat} {g : List Int} (h : o.length ≤ 24) (hp : ∀ p ∈ o, p < 24) : Sm 1400 1 (natsD (halvR o g)) := by
  have hl := half_len (g := g) h
  refine (Sms.mapAll (f := num) fun p hq => Sm.nat ?_).tup.mono (by omega) (by omega)
  have : p ∈ o := by
    unfold halvR at hq
    rcases List.mem_append.mp hq with hq | hq
    · exact on_mem p hq
    · exact on_mem p (List.mem_reverse.mp hq)
  have := hp p this
  omega
theorem law_does : Does wb_law fun fl => fl = .rt (.bool true) := by
  have n1 : negM (.int 1) = pureT (.int (-1)) := rfl
  simp only [wb_law, n1, pure_bindT, bind_pureT, bind_bindT, raise_bindT, fail_bindT, guard_bindT, nox_pureT, nox_bindT, nox_guardT, nox_failT, nox_anyT, nox_noxT, onLs_lst, fnT_raise, goFl_raise, onL_raise, told_pure, tryR_pure, tryE_pure, nilT_eq, boolT_pure, ifR_pure, ifT_pure, andB_pure, orB_pure, notB_pure, andV_pure, orV_pure, notV_pure, goFl_nx, onL_inl, onL_inr, fnT_rt, fnT_bind, fnT_nx, onL_bind, consT_eq, lstV_eq, tupT_bind, boolT_bind, notB_bind, notV_bind, andB_bind, orB_bind, andV_bind, orV_bind, ifR_bind, ifT_bind, goFl_bind, lcF_bind, tup_0, tup_1, tup_2, tup_3, tup_4, guard_small, tupT_guard, boolT_guard, endE_rt, optT_some, un1_one, un2_two, isiM_eq, len_tup, len_lst, addM_int, subM_int, eq_int, ne_int, eq_str, ne_str, lt_int, le_int, gt_int, ge_int, ix_0, ix_1, items_tup, items_lst, tuple_lst, tuple_tup, isN_eq, notN_eq, sum_ints, maxD_ints, all_bools, abs_int, List.length_cons, List.length_nil, Nat.zero_add, Nat.reduceAdd, Nat.reduceLeDiff, if_true, if_false, Bool.false_eq_true, reduceIte]
  rw [show (10:Int) = ((10:Nat):Int) from rfl, rangeN (by decide), pure_bindT]
  refine Does.bind (for_inv (enc := num) (j := num) (fun _ _ => True) (List.range 10) () trivial fun t a s _ _ => ⟨rfl, ?_⟩) ?_
  · have md : modM (num a) (.int 3) = pureT (.int ((a : Int) % 3)) := modM_int (by decide)
    simp only [md, pure_bindT, bind_pureT, bind_bindT, raise_bindT, fail_bindT, guard_bindT, nox_pureT, nox_bindT, nox_guardT, nox_failT, nox_anyT, nox_noxT, onLs_lst, fnT_raise, goFl_raise, onL_raise, told_pure, tryR_pure, tryE_pure, nilT_eq, boolT_pure, ifR_pure, ifT_pure, andB_pure, orB_pure, notB_pure, andV_pure, orV_pure, notV_pure, goFl_nx, onL_inl, onL_inr, fnT_rt, fnT_bind, fnT_nx, onL_bind, consT_eq, lstV_eq, tupT_bind, boolT_bind, notB_bind, notV_bind, andB_bind, orB_bind, andV_bind, orV_bind, ifR_bind, ifT_bind, goFl_bind, lcF_bind, tup_0, tup_1, tup_2, tup_3, tup_4, guard_small, tupT_guard, boolT_guard, endE_rt, optT_some, un1_one, un2_two, isiM_eq, len_tup, len_lst, addM_int, subM_int, eq_int, ne_int, eq_str, ne_str, lt_int, le_int, gt_int, ge_int, ix_0, ix_1, items_tup, items_lst, tuple_lst, tuple_tup, isN_eq, notN_eq, sum_ints, maxD_ints, all_bools, abs_int, List.length_cons, List.length_nil, Nat.zero_add, Nat.reduceAdd, Nat.reduceLeDiff, if_true, if_false, Bool.false_eq_true, reduceIte]
    refine Does.bind (P := fun d => ∃ kinds rs, d = loadD kinds rs ∧ LoadOk 24 1000000 kinds rs) (.ite (fun _ => ?_) (fun _ => anyload_does (rows := 24) (by decide))) fun d hd => ?_
    · refine Does.bind (one_does _ (by simp) (by show 3 ≤ 100000; decide)) fun d hd => ?_
      simp only [List.mem_cons, List.not_mem_nil, or_false] at hd
      rcases hd with rfl | rfl | rfl
      · exact (anyeven_does (rows := 3) (by decide) (by decide)).imp fun d ⟨kinds, rs, e, o, _⟩ => ⟨kinds, rs, e, o⟩
      · exact (anyeven_does (rows := 9) (by decide) (by decide)).imp fun d ⟨kinds, rs, e, o, _⟩ => ⟨kinds, rs, e, o⟩
      · exact (anyeven_does (rows := 24) (by decide) (by decide)).imp fun d ⟨kinds, rs, e, o, _⟩ => ⟨kinds, rs, e, o⟩
    · obtain ⟨kinds, rs, rfl, h⟩ := hd
      have hk1 := h.k1
      have hk4 := h.k4
      have hl := h.len
      have hr : ∀ r ∈ rs, r.length = kinds := fun r hr => (h.rows r hr).len
      have sl := sm_load h (by decide)
      have es : W__law_sum [num kinds, .tuple (rowsD rs)] = pureT (rowD (sumR kinds rs)) := law_sum_eq rfl hr (by omega) (by omega)
      have ez : mulM (.tuple [.int 0]) (num kinds) = pureT (rowD (zeroR kinds)) := mul_one 0 kinds (by omega)
      have e6 : rgI (num rs.length) = pureT ((List.range rs.length).map num) := rg_nat (by omega)
      simp only [ld0, ld1, rowsD_length, es, ez, e6, eq_row, pure_bindT, bind_pureT, bind_bindT, raise_bindT, fail_bindT, guard_bindT, nox_pureT, nox_bindT, nox_guardT, nox_failT, nox_anyT, nox_noxT, onLs_lst, fnT_raise, goFl_raise, onL_raise, told_pure, tryR_pure, tryE_pure, nilT_eq, boolT_pure, ifR_pure, ifT_pure, andB_pure, orB_pure, notB_pure, andV_pure, orV_pure, notV_pure, goFl_nx, onL_inl, onL_inr, fnT_rt, fnT_bind, fnT_nx, onL_bind, consT_eq, lstV_eq, tupT_bind, boolT_bind, notB_bind, notV_bind, andB_bind, orB_bind, andV_bind, orV_bind, ifR_bind, ifT_bind, goFl_bind, lcF_bind, tup_0, tup_1, tup_2, tup_3, tup_4, guard_small, tupT_guard, boolT_guard, endE_rt, optT_some, un1_one, un2_two, isiM_eq, len_tup, len_lst, addM_int, subM_int, eq_int, ne_int, eq_str, ne_str, lt_int, le_int, gt_int, ge_int, ix_0, ix_1, items_tup, items_lst, tuple_lst, tuple_tup, isN_eq, notN_eq, sum_ints, maxD_ints, all_bools, abs_int, List.length_cons, List.length_nil, Nat.zero_add, Nat.reduceAdd, Nat.reduceLeDiff, if_true, if_false, Bool.false_eq_true, reduceIte]
      rw [show (4:Int) = ((4:Nat):Int) from rfl, rangeN (by decide), pure_bindT]
      refine onD (Q := fun _ => True) (Does.imp (for_inv (enc := num) (j := num) (fun _ _ => True) (List.range 4) () trivial fun t i s hi _ => ⟨rfl, ?_⟩) fun r hr => (let ⟨s', e, _⟩ := hr; ⟨s', e, trivial⟩)) fun _ _ => .pure ⟨_, .inl rfl, trivial⟩
      have hi4 : i < 4 := List.mem_range.mp (List.mem_of_getElem? hi)
      refine Does.bind (mixed_enc num (l := List.range rs.length) (by rw [List.length_range]; omega)) fun d hd => ?_
      obtain ⟨o, rfl, ho⟩ := hd
      have hol : o.length = rs.length := by rw [ho.length_eq, List.length_range]
      have hom : ∀ i ∈ o, i < rs.length := fun i hi => List.mem_range.mp (ho.mem_iff.mp hi)
      have eo : PyData.tuple (o.map num) = natsD o := rfl
      simp only [eo, pure_bindT, bind_pureT, bind_bindT, raise_bindT, fail_bindT, guard_bindT, nox_pureT, nox_bindT, nox_guardT, nox_failT, nox_anyT, nox_noxT, onLs_lst, fnT_raise, goFl_raise, onL_raise, told_pure, tryR_pure, tryE_pure, nilT_eq, boolT_pure, ifR_pure, ifT_pure, andB_pure, orB_pure, notB_pure, andV_pure, orV_pure, notV_pure, goFl_nx, onL_inl, onL_inr, fnT_rt, fnT_bind, fnT_nx, onL_bind, consT_eq, lstV_eq, tupT_bind, boolT_bind, notB_bind, notV_bind, andB_bind, orB_bind, andV_bind, orV_bind, ifR_bind, ifT_bind, goFl_bind, lcF_bind, tup_0, tup_1, tup_2, tup_3, tup_4, guard_small, tupT_guard, boolT_guard, endE_rt, optT_some, un1_one, un2_two, isiM_eq, len_tup, len_lst, addM_int, subM_int, eq_int, ne_int, eq_str, ne_str, lt_int, le_int, gt_int, ge_int, ix_0, ix_1, items_tup, items_lst, tuple_lst, tuple_tup, isN_eq, notN_eq, sum_ints, maxD_ints, all_bools, abs_int, List.length_cons, List.length_nil, Nat.zero_add, Nat.reduceAdd, Nat.reduceLeDiff, if_true, if_false, Bool.false_eq_true, reduceIte]
      have sg1 : Does (lcF (rangeI (num rs.length)) dec1 (fun _ => pureT true) fun _ => W__law_one [.list [.int 1, .int (-1)]]) fun ds => ∃ g : List Int, ds = g.map .int ∧ SgOk rs.length g := by
        refine (lcF_does (xs := (List.range rs.length).map num) (rangeN (by omega)) (by simp; omega) (lcM_does (enc := num) (j := num) (P := fun _ d => ∃ x : Int, d = .int x ∧ (x = 1 ∨ x = -1)) (List.range rs.length) fun a _ => ⟨rfl, rfl, ?_⟩)).imp fun ds hds => ?_
        · refine (one_does _ (by simp) (by show 2 ≤ 100000; decide)).imp fun d hd => ?_
          simp only [List.mem_cons, List.not_mem_nil, or_false] at hd
          rcases hd with rfl | rfl
          · exact ⟨1, rfl, .inl rfl⟩
          · exact ⟨-1, rfl, .inr rfl⟩
        · obtain ⟨g, rfl, hl2, hg⟩ := all2_ints hds
          exact ⟨g, rfl, by simpa using hl2, hg⟩
      refine Does.bind sg1 fun ds hds => ?_
      obtain ⟨g0, rfl, hg0⟩ := hds
      have e1 : mulM (.tuple [.int 1]) (num rs.length) = pureT (rowD (sameR rs.length 1)) := mul_one 1 _ (by omega)
      have e2 : mulM (.tuple [.int (-1)]) (num rs.length) = pureT (rowD (sameR rs.length (-1))) := mul_one (-1) _ (by omega)
      have e3 : PyData.tuple (g0.map .int) = rowD g0 := rfl
      simp only [e1, e2, e3, pure_bindT, bind_pureT, bind_bindT, raise_bindT, fail_bindT, guard_bindT, nox_pureT, nox_bindT, nox_guardT, nox_failT, nox_anyT, nox_noxT, onLs_lst, fnT_raise, goFl_raise, onL_raise, told_pure, tryR_pure, tryE_pure, nilT_eq, boolT_pure, ifR_pure, ifT_pure, andB_pure, orB_pure, notB_pure, andV_pure, orV_pure, notV_pure, goFl_nx, onL_inl, onL_inr, fnT_rt, fnT_bind, fnT_nx, onL_bind, consT_eq, lstV_eq, tupT_bind, boolT_bind, notB_bind, notV_bind, andB_bind, orB_bind, andV_bind, orV_bind, ifR_bind, ifT_bind, goFl_bind, lcF_bind, tup_0, tup_1, tup_2, tup_3, tup_4, guard_small, tupT_guard, boolT_guard, endE_rt, optT_some, un1_one, un2_two, isiM_eq, len_tup, len_lst, addM_int, subM_int, eq_int, ne_int, eq_str, ne_str, lt_int, le_int, gt_int, ge_int, ix_0, ix_1, items_tup, items_lst, tuple_lst, tuple_tup, isN_eq, notN_eq, sum_ints, maxD_ints, all_bools, abs_int, List.length_cons, List.length_nil, Nat.zero_add, Nat.reduceAdd, Nat.reduceLeDiff, if_true, if_false, Bool.false_eq_true, reduceIte]
      have pick : ∃ g, SgOk rs.length g ∧ ixM (.list [rowD g0, rowD g0, rowD (sameR rs.length 1), rowD (sameR rs.length (-1))]) (num i) = pureT (rowD g) := by
        have h1 : SgOk rs.length (sameR rs.length 1) := ⟨List.length_replicate, fun x hx => .inl (List.mem_replicate.mp hx).2⟩
        have h2 : SgOk rs.length (sameR rs.length (-1)) := ⟨List.length_replicate, fun x hx => .inr (List.mem_replicate.mp hx).2⟩
        have : i = 0 ∨ i = 1 ∨ i = 2 ∨ i = 3 := by omega
        rcases this with rfl | rfl | rfl | rfl
        · exact ⟨g0, hg0, ixLst_at rfl⟩
        · exact ⟨g0, hg0, ixLst_at rfl⟩
        · exact ⟨_, h1, ixLst_at rfl⟩
        · exact ⟨_, h2, ixLst_at rfl⟩
      obtain ⟨g, hg, eg⟩ := pick
      have so := sm_nats (o := o) (by omega) (fun p hp => by have := hom p hp; omega)
      have sg := sm_signs (g := g) (by rw [hg.len]; omega) hg.pm
      have r0 : reprM (.list [loadD kinds rs, natsD o, rowD g]) = _ := (Sms.cons sl (Sms.cons so (Sms.cons sg .nil))).lst.repr (by decide) (by decide)
      have em : lcF (itemsT (natsD o)) dec1 (fun _ => pureT true) (fun p => ixM (.tuple (rowsD rs)) p) = pureT (rowsD (o.map fun i => rs.getD i [])) := by
        rw [lcF_map (it := itemsT (natsD o)) (enc := num) (as := o) (g := fun i => rowD (rs.getD i [])) rfl (by omega) fun i hi => row_at (hom i hi)]
        unfold rowsD
        rw [List.map_map]
        rfl
      have tr : truM (PyData.bool (PyData.eqv (rowD (sumR kinds rs)) (rowD (zeroR kinds)))) = pureT (evB kinds rs) := rfl
      have hmv : LoadOk 24 1000000 kinds (o.map fun i => rs.getD i []) := ⟨hk1, hk4, by rw [List.length_map]; omega, fun r hr2 => by
        obtain ⟨i, hi, rfl⟩ := List.mem_map.mp hr2
        rw [List.getD_eq_getElem?_getD, List.getElem?_eq_getElem (hom i hi)]
        exact h.rows _ (List.getElem_mem _)⟩
      have sm := sm_load hmv (by decide)
      have el : PyData.tuple [num kinds, .tuple (rowsD (o.map fun i => rs.getD i []))] = loadD kinds (o.map fun i => rs.getD i []) := rfl
      have lh : (if evB kinds rs = true then W__law_halved [natsD o, rowD g] else pureT (.str "uneven")) = pureT (if evB kinds rs = true then natsD (halvR o g) else .str "uneven") := by
        rw [law_halved_eq (by omega) hg.pm]
        cases evB kinds rs <;> rfl
      have sd : Sm 1400 1 (if evB kinds rs = true then natsD (halvR o g) else .str "uneven") := by
        split
        · exact sm_half (by omega) (fun p hp => by have := hom p hp; omega)
        · exact sm_uneven.mono (by omega) (by omega)
      have r2 : reprM (.list [loadD kinds (o.map fun i => rs.getD i []), if evB kinds rs = true then natsD (halvR o g) else .str "uneven"]) = _ := (Sms.cons sm (Sms.cons sd .nil)).lst.repr (by decide) (by decide)
      simp only [eg, r0, em, tr, el, lh, along_eq hom (by omega), told_eq (by omega) (by omega) hr (show o.length ≤ 1000 by omega), r2, decide_true, Bool.not_true, pure_bindT, bind_pureT, bind_bindT, raise_bindT, fail_bindT, guard_bindT, nox_pureT, nox_bindT, nox_guardT, nox_failT, nox_anyT, nox_noxT, onLs_lst, fnT_raise, goFl_raise, onL_raise, told_pure, tryR_pure, tryE_pure, nilT_eq, boolT_pure, ifR_pure, ifT_pure, andB_pure, orB_pure, notB_pure, andV_pure, orV_pure, notV_pure, goFl_nx, onL_inl, onL_inr, fnT_rt, fnT_bind, fnT_nx, onL_bind, consT_eq, lstV_eq, tupT_bind, boolT_bind, notB_bind, notV_bind, andB_bind, orB_bind, andV_bind, orV_bind, ifR_bind, ifT_bind, goFl_bind, lcF_bind, tup_0, tup_1, tup_2, tup_3, tup_4, guard_small, tupT_guard, boolT_guard, endE_rt, optT_some, un1_one, un2_two, isiM_eq, len_tup, len_lst, addM_int, subM_int, eq_int, ne_int, eq_str, ne_str, lt_int, le_int, gt_int, ge_int, ix_0, ix_1, items_tup, items_lst, tuple_lst, tuple_tup, isN_eq, notN_eq, sum_ints, maxD_ints, all_bools, abs_int, List.length_cons, List.length_nil, Nat.zero_add, Nat.reduceAdd, Nat.reduceLeDiff, if_true, if_false, Bool.false_eq_true, reduceIte]
      exact .pure ⟨(), .inl rfl, trivial⟩
  · intro r hr
    obtain ⟨s', rfl, _⟩ := hr
    simp only [pure_bindT, bind_pureT, bind_bindT, raise_bindT, fail_bindT, guard_bindT, nox_pureT, nox_bindT, nox_guardT, nox_failT, nox_anyT, nox_noxT, onLs_lst, fnT_raise, goFl_raise, onL_raise, told_pure, tryR_pure, tryE_pure, nilT_eq, boolT_pure, ifR_pure, ifT_pure, andB_pure, orB_pure, notB_pure, andV_pure, orV_pure, notV_pure, goFl_nx, onL_inl, onL_inr, fnT_rt, fnT_bind, fnT_nx, onL_bind, consT_eq, lstV_eq, tupT_bind, boolT_bind, notB_bind, notV_bind, andB_bind, orB_bind, andV_bind, orV_bind, ifR_bind, ifT_bind, goFl_bind, lcF_bind, tup_0, tup_1, tup_2, tup_3, tup_4, guard_small, tupT_guard, boolT_guard, endE_rt, optT_some, un1_one, un2_two, isiM_eq, len_tup, len_lst, addM_int, subM_int, eq_int, ne_int, eq_str, ne_str, lt_int, le_int, gt_int, ge_int, ix_0, ix_1, items_tup, items_lst, tuple_lst, tuple_tup, isN_eq, notN_eq, sum_ints, maxD_ints, all_bools, abs_int, List.length_cons, List.length_nil, Nat.zero_add, Nat.reduceAdd, Nat.reduceLeDiff, if_true, if_false, Bool.false_eq_true, reduceIte]
    exact .pure rfl
theorem law_shown : wb_law lawQ fun _ => False := law_does _ _ fun _ e => by rw [e]; rfl
end Nk
set_option Elab.async false
set_option linter.all false
set_option maxRecDepth 100000
set_option maxHeartbeats 8000000
namespace Nk
open PySem L2
theorem isa_ok {K : PySem.W.Frag} {mg : Str → Option Value} {C_Uneven : Addr} (m_Uneven : mg "Uneven" = some (.ref C_Uneven)) (e_Uneven_Uneven : PySem.W.exmOne K (.ref C_Uneven) (.ref C_Uneven) = some true) : IsaOk K mg isaL := by
  intro x y b h C D gC gD
  unfold isaL at h
  by_cases z : x = "Uneven" ∧ y = "Uneven"
  · rw [if_pos z] at h; cases h; obtain ⟨rfl, rfl⟩ := z; rw [m_Uneven] at gC; rw [m_Uneven] at gD; cases gC; cases gD; exact e_Uneven_Uneven
  rw [if_neg z] at h
  clear z
  cases h
theorem all_mk {l : PySem.W.OpenLaw} {w : World} {K : PySem.W.Frag} {h : Heap} {mg : Str → Option Value} {fa : Addr} (X : K.In h) (G : h.Ns mainGlobals mg) (hfa : mg "law" = some (.ref fa))
    {f0 : Addr} {od0 an0 : Option Addr} {sl0 : Array (Option Value)} {oc0 kV0 dc0 pm0 cd0 ct0 : Value}
    {f1 : Addr} {od1 an1 : Option Addr} {sl1 : Array (Option Value)} {oc1 kV1 dc1 pm1 cd1 ct1 : Value}
    {f2 : Addr} {od2 an2 : Option Addr} {sl2 : Array (Option Value)} {oc2 kV2 dc2 pm2 cd2 ct2 : Value}
    {f3 : Addr} {od3 an3 : Option Addr} {sl3 : Array (Option Value)} {oc3 kV3 dc3 pm3 cd3 ct3 : Value}
    {f4 : Addr} {od4 an4 : Option Addr} {sl4 : Array (Option Value)} {oc4 kV4 dc4 pm4 cd4 ct4 : Value}
    {f5 : Addr} {od5 an5 : Option Addr} {sl5 : Array (Option Value)} {oc5 kV5 dc5 pm5 cd5 ct5 : Value}
    {f6 : Addr} {od6 an6 : Option Addr} {sl6 : Array (Option Value)} {oc6 kV6 dc6 pm6 cd6 ct6 : Value}
    {f7 : Addr} {od7 an7 : Option Addr} {sl7 : Array (Option Value)} {oc7 kV7 dc7 pm7 cd7 ct7 : Value}
    {f8 : Addr} {od8 an8 : Option Addr} {sl8 : Array (Option Value)} {oc8 kV8 dc8 pm8 cd8 ct8 : Value}
    {f9 : Addr} {od9 an9 : Option Addr} {sl9 : Array (Option Value)} {oc9 kV9 dc9 pm9 cd9 ct9 : Value}
    {f10 : Addr} {od10 an10 : Option Addr} {sl10 : Array (Option Value)} {oc10 kV10 dc10 pm10 cd10 ct10 : Value}
    {f11 : Addr} {od11 an11 : Option Addr} {sl11 : Array (Option Value)} {oc11 kV11 dc11 pm11 cd11 ct11 : Value}
    {f12 : Addr} {od12 an12 : Option Addr} {sl12 : Array (Option Value)} {oc12 kV12 dc12 pm12 cd12 ct12 : Value}
    {f13 : Addr} {od13 an13 : Option Addr} {sl13 : Array (Option Value)} {oc13 kV13 dc13 pm13 cd13 ct13 : Value}
    {f14 : Addr} {od14 an14 : Option Addr} {sl14 : Array (Option Value)} {oc14 kV14 dc14 pm14 cd14 ct14 : Value}
    {f15 : Addr} {od15 an15 : Option Addr} {sl15 : Array (Option Value)} {oc15 kV15 dc15 pm15 cd15 ct15 : Value}
    {f16 : Addr} {od16 an16 : Option Addr} {sl16 : Array (Option Value)} {oc16 kV16 dc16 pm16 cd16 ct16 : Value}
    {f17 : Addr} {od17 an17 : Option Addr} {sl17 : Array (Option Value)} {oc17 kV17 dc17 pm17 cd17 ct17 : Value}
    {f18 : Addr} {od18 an18 : Option Addr} {sl18 : Array (Option Value)} {oc18 kV18 dc18 pm18 cd18 ct18 : Value}
    {f19 : Addr} {od19 an19 : Option Addr} {sl19 : Array (Option Value)} {oc19 kV19 dc19 pm19 cd19 ct19 : Value}
    {f20 : Addr} {od20 an20 : Option Addr} {sl20 : Array (Option Value)} {oc20 kV20 dc20 pm20 cd20 ct20 : Value}
    (a0 : PySem.W.nsIn K mainGlobals "_law_deck" = some (some (.ref f0))) (l0 : K.lookup f0 = some ⟨oc0, od0, .func (PySem.W.fnOf "_law_deck" "_law_deck" (defArgs s_law_deck) (defBody s_law_deck) (defScope s_law_deck) .none kV0 dc0 pm0 an0 cd0 ct0), sl0⟩) (c0 : PySem.W.codeIn K cd0 "_law_deck" = true) (k0 : PySem.W.keepIn K (.ref f0) = true)
    (a1 : PySem.W.nsIn K mainGlobals "_law_draw" = some (some (.ref f1))) (l1 : K.lookup f1 = some ⟨oc1, od1, .func (PySem.W.fnOf "_law_draw" "_law_draw" (defArgs s_law_draw) (defBody s_law_draw) (defScope s_law_draw) .none kV1 dc1 pm1 an1 cd1 ct1), sl1⟩) (c1 : PySem.W.codeIn K cd1 "_law_draw" = true) (k1 : PySem.W.keepIn K (.ref f1) = true)
    (a2 : PySem.W.nsIn K mainGlobals "added" = some (some (.ref f2))) (l2 : K.lookup f2 = some ⟨oc2, od2, .func (PySem.W.fnOf "added" "added" (defArgs sadded) (defBody sadded) (defScope sadded) .none kV2 dc2 pm2 an2 cd2 ct2), sl2⟩) (c2 : PySem.W.codeIn K cd2 "added" = true) (k2 : PySem.W.keepIn K (.ref f2) = true)
    (a3 : PySem.W.nsIn K mainGlobals "along" = some (some (.ref f3))) (l3 : K.lookup f3 = some ⟨oc3, od3, .func (PySem.W.fnOf "along" "along" (defArgs salong) (defBody salong) (defScope salong) .none kV3 dc3 pm3 an3 cd3 ct3), sl3⟩) (c3 : PySem.W.codeIn K cd3 "along" = true) (k3 : PySem.W.keepIn K (.ref f3) = true)
    (a4 : PySem.W.nsIn K mainGlobals "_law_sum" = some (some (.ref f4))) (l4 : K.lookup f4 = some ⟨oc4, od4, .func (PySem.W.fnOf "_law_sum" "_law_sum" (defArgs s_law_sum) (defBody s_law_sum) (defScope s_law_sum) .none kV4 dc4 pm4 an4 cd4 ct4), sl4⟩) (c4 : PySem.W.codeIn K cd4 "_law_sum" = true) (k4 : PySem.W.keepIn K (.ref f4) = true)
    (a5 : PySem.W.nsIn K mainGlobals "_law_halved" = some (some (.ref f5))) (l5 : K.lookup f5 = some ⟨oc5, od5, .func (PySem.W.fnOf "_law_halved" "_law_halved" (defArgs s_law_halved) (defBody s_law_halved) (defScope s_law_halved) .none kV5 dc5 pm5 an5 cd5 ct5), sl5⟩) (c5 : PySem.W.codeIn K cd5 "_law_halved" = true) (k5 : PySem.W.keepIn K (.ref f5) = true)
    (a6 : PySem.W.nsIn K mainGlobals "sums" = some (some (.ref f6))) (l6 : K.lookup f6 = some ⟨oc6, od6, .func (PySem.W.fnOf "sums" "sums" (defArgs ssums) (defBody ssums) (defScope ssums) .none kV6 dc6 pm6 an6 cd6 ct6), sl6⟩) (c6 : PySem.W.codeIn K cd6 "sums" = true) (k6 : PySem.W.keepIn K (.ref f6) = true)
    (a7 : PySem.W.nsIn K mainGlobals "_law_one" = some (some (.ref f7))) (l7 : K.lookup f7 = some ⟨oc7, od7, .func (PySem.W.fnOf "_law_one" "_law_one" (defArgs s_law_one) (defBody s_law_one) (defScope s_law_one) .none kV7 dc7 pm7 an7 cd7 ct7), sl7⟩) (c7 : PySem.W.codeIn K cd7 "_law_one" = true) (k7 : PySem.W.keepIn K (.ref f7) = true)
    (a8 : PySem.W.nsIn K mainGlobals "_law_mixed" = some (some (.ref f8))) (l8 : K.lookup f8 = some ⟨oc8, od8, .func (PySem.W.fnOf "_law_mixed" "_law_mixed" (defArgs s_law_mixed) (defBody s_law_mixed) (defScope s_law_mixed) .none kV8 dc8 pm8 an8 cd8 ct8), sl8⟩) (c8 : PySem.W.codeIn K cd8 "_law_mixed" = true) (k8 : PySem.W.keepIn K (.ref f8) = true)
    (a9 : PySem.W.nsIn K mainGlobals "_law_row" = some (some (.ref f9))) (l9 : K.lookup f9 = some ⟨oc9, od9, .func (PySem.W.fnOf "_law_row" "_law_row" (defArgs s_law_row) (defBody s_law_row) (defScope s_law_row) .none kV9 dc9 pm9 an9 cd9 ct9), sl9⟩) (c9 : PySem.W.codeIn K cd9 "_law_row" = true) (k9 : PySem.W.keepIn K (.ref f9) = true)
    (a10 : PySem.W.nsIn K mainGlobals "is_even" = some (some (.ref f10))) (l10 : K.lookup f10 = some ⟨oc10, od10, .func (PySem.W.fnOf "is_even" "is_even" (defArgs sis_even) (defBody sis_even) (defScope sis_even) .none kV10 dc10 pm10 an10 cd10 ct10), sl10⟩) (c10 : PySem.W.codeIn K cd10 "is_even" = true) (k10 : PySem.W.keepIn K (.ref f10) = true)
    (a11 : PySem.W.nsIn K mainGlobals "_law_load" = some (some (.ref f11))) (l11 : K.lookup f11 = some ⟨oc11, od11, .func (PySem.W.fnOf "_law_load" "_law_load" (defArgs s_law_load) (defBody s_law_load) (defScope s_law_load) .none kV11 dc11 pm11 an11 cd11 ct11), sl11⟩) (c11 : PySem.W.codeIn K cd11 "_law_load" = true) (k11 : PySem.W.keepIn K (.ref f11) = true)
    (a12 : PySem.W.nsIn K mainGlobals "_law_even" = some (some (.ref f12))) (l12 : K.lookup f12 = some ⟨oc12, od12, .func (PySem.W.fnOf "_law_even" "_law_even" (defArgs s_law_even) (defBody s_law_even) (defScope s_law_even) .none kV12 dc12 pm12 an12 cd12 ct12), sl12⟩) (c12 : PySem.W.codeIn K cd12 "_law_even" = true) (k12 : PySem.W.keepIn K (.ref f12) = true)
    (a13 : PySem.W.nsIn K mainGlobals "_law_great_even" = some (some (.ref f13))) (l13 : K.lookup f13 = some ⟨oc13, od13, .func (PySem.W.fnOf "_law_great_even" "_law_great_even" (defArgs s_law_great_even) (defBody s_law_great_even) (defScope s_law_great_even) .none kV13 dc13 pm13 an13 cd13 ct13), sl13⟩) (c13 : PySem.W.codeIn K cd13 "_law_great_even" = true) (k13 : PySem.W.keepIn K (.ref f13) = true)
    (a14 : PySem.W.nsIn K mainGlobals "_law_hard_even" = some (some (.ref f14))) (l14 : K.lookup f14 = some ⟨oc14, od14, .func (PySem.W.fnOf "_law_hard_even" "_law_hard_even" (defArgs s_law_hard_even) (defBody s_law_hard_even) (defScope s_law_hard_even) .none kV14 dc14 pm14 an14 cd14 ct14), sl14⟩) (c14 : PySem.W.codeIn K cd14 "_law_hard_even" = true) (k14 : PySem.W.keepIn K (.ref f14) = true)
    (a15 : PySem.W.nsIn K mainGlobals "must_be_even" = some (some (.ref f15))) (l15 : K.lookup f15 = some ⟨oc15, od15, .func (PySem.W.fnOf "must_be_even" "must_be_even" (defArgs smust_be_even) (defBody smust_be_even) (defScope smust_be_even) .none kV15 dc15 pm15 an15 cd15 ct15), sl15⟩) (c15 : PySem.W.codeIn K cd15 "must_be_even" = true) (k15 : PySem.W.keepIn K (.ref f15) = true)
    (a16 : PySem.W.nsIn K mainGlobals "_law_any_even" = some (some (.ref f16))) (l16 : K.lookup f16 = some ⟨oc16, od16, .func (PySem.W.fnOf "_law_any_even" "_law_any_even" (defArgs s_law_any_even) (defBody s_law_any_even) (defScope s_law_any_even) .none kV16 dc16 pm16 an16 cd16 ct16), sl16⟩) (c16 : PySem.W.codeIn K cd16 "_law_any_even" = true) (k16 : PySem.W.keepIn K (.ref f16) = true)
    (a17 : PySem.W.nsIn K mainGlobals "_law_any_load" = some (some (.ref f17))) (l17 : K.lookup f17 = some ⟨oc17, od17, .func (PySem.W.fnOf "_law_any_load" "_law_any_load" (defArgs s_law_any_load) (defBody s_law_any_load) (defScope s_law_any_load) .none kV17 dc17 pm17 an17 cd17 ct17), sl17⟩) (c17 : PySem.W.codeIn K cd17 "_law_any_load" = true) (k17 : PySem.W.keepIn K (.ref f17) = true)
    (a18 : PySem.W.nsIn K mainGlobals "halved" = some (some (.ref f18))) (l18 : K.lookup f18 = some ⟨oc18, od18, .func (PySem.W.fnOf "halved" "halved" (defArgs shalved) (defBody shalved) (defScope shalved) .none kV18 dc18 pm18 an18 cd18 ct18), sl18⟩) (c18 : PySem.W.codeIn K cd18 "halved" = true) (k18 : PySem.W.keepIn K (.ref f18) = true)
    (a19 : PySem.W.nsIn K mainGlobals "_law_told" = some (some (.ref f19))) (l19 : K.lookup f19 = some ⟨oc19, od19, .func (PySem.W.fnOf "_law_told" "_law_told" (defArgs s_law_told) (defBody s_law_told) (defScope s_law_told) .none kV19 dc19 pm19 an19 cd19 ct19), sl19⟩) (c19 : PySem.W.codeIn K cd19 "_law_told" = true) (k19 : PySem.W.keepIn K (.ref f19) = true)
    (a20 : PySem.W.nsIn K mainGlobals "law" = some (some (.ref f20))) (l20 : K.lookup f20 = some ⟨oc20, od20, .func (PySem.W.fnOf "law" "law" (defArgs slaw) (defBody slaw) (defScope slaw) .none kV20 dc20 pm20 an20 cd20 ct20), sl20⟩) (c20 : PySem.W.codeIn K cd20 "law" = true) (k20 : PySem.W.keepIn K (.ref f20) = true)
    (zlen : PySem.W.nsIn K mainGlobals "len" = some none)
    (zint : PySem.W.nsIn K mainGlobals "int" = some none)
    (zabs : PySem.W.nsIn K mainGlobals "abs" = some none)
    (zrange : PySem.W.nsIn K mainGlobals "range" = some none)
    (zlist : PySem.W.nsIn K mainGlobals "list" = some none)
    (ztuple : PySem.W.nsIn K mainGlobals "tuple" = some none)
    (zisinstance : PySem.W.nsIn K mainGlobals "isinstance" = some none)
    (zbool : PySem.W.nsIn K mainGlobals "bool" = some none)
    (zstr : PySem.W.nsIn K mainGlobals "str" = some none)
    (zsum : PySem.W.nsIn K mainGlobals "sum" = some none)
    (zall : PySem.W.nsIn K mainGlobals "all" = some none)
    (zset : PySem.W.nsIn K mainGlobals "set" = some none)
    (zrepr : PySem.W.nsIn K mainGlobals "repr" = some none)
    (zzip : PySem.W.nsIn K mainGlobals "zip" = some none)
    {C_Uneven : Addr} (aC_Uneven : PySem.W.nsIn K mainGlobals "Uneven" = some (some (.ref C_Uneven)))
    (eC_Uneven : PySem.W.subIn K (.ref C_Uneven) (.type "BaseException") = some true) (hD_Uneven : PySem.W.hasDictIn K C_Uneven = true) (tC_Uneven : PySem.W.typeIn K (.ref C_Uneven) = some (.type "type"))
    (kC_Uneven : PySem.W.keepIn K (.ref C_Uneven) = true) (ga_Uneven : PySem.W.findIn K (.ref C_Uneven) "__getattribute__" = some (some (.builtin "BaseException.__getattribute__"))) (gg_Uneven : PySem.W.findIn K (.ref C_Uneven) "__getattr__" = some none)
    (xn_Uneven : PySem.W.excIn K C_Uneven [.type "ValueError", .type "Exception", .type "BaseException", .type "object"] "ValueError.__new__" = true)
    (ha_Uneven : PySem.W.findIn K (.ref C_Uneven) "__class__" = some (some (.builtin "object.__class__"))) (hn_Uneven : PySem.W.specialIn K (.builtin "object.__class__") "__get__" = some (some (.builtin "getset_descriptor.__get__"))) (ht_Uneven : PySem.W.takesIn K (.builtin "object.__class__") = some true) (hm_Uneven : PySem.W.mroIn K C_Uneven (.type "object") = some true) (lc_Uneven : (PySem.W.clsIn K C_Uneven).isSome = true)
    (s_Uneven_Uneven : PySem.W.subIn K (.ref C_Uneven) (.ref C_Uneven) = some true)
    :
    ∃ fd : FuncData, (∀ (s : Shared) (v : Value), BindsTo s fd ⟨[v], []⟩ [("script", v)]) ∧ ∀ base : Heap, K.In base → base.Ns mainGlobals mg → LawOk l.prog w K mg base 7 fa fd ["script"] (spLawW K []) := by
  have e := hfa.symm.trans (PySem.W.mg_of X G a20)
  cases e
  have B : Bl mg := ⟨PySem.W.mg_none_of X G zlen, PySem.W.mg_none_of X G zint, PySem.W.mg_none_of X G zabs, PySem.W.mg_none_of X G zrange, PySem.W.mg_none_of X G zlist, PySem.W.mg_none_of X G ztuple, PySem.W.mg_none_of X G zisinstance, PySem.W.mg_none_of X G zbool, PySem.W.mg_none_of X G zstr, PySem.W.mg_none_of X G zsum, PySem.W.mg_none_of X G zall, PySem.W.mg_none_of X G zset, PySem.W.mg_none_of X G zrepr⟩
  have h_len := PySem.W.mg_none_of X G zlen
  have h_int := PySem.W.mg_none_of X G zint
  have h_abs := PySem.W.mg_none_of X G zabs
  have h_range := PySem.W.mg_none_of X G zrange
  have h_list := PySem.W.mg_none_of X G zlist
  have h_tuple := PySem.W.mg_none_of X G ztuple
  have h_isinstance := PySem.W.mg_none_of X G zisinstance
  have h_bool := PySem.W.mg_none_of X G zbool
  have h_str := PySem.W.mg_none_of X G zstr
  have h_sum := PySem.W.mg_none_of X G zsum
  have h_all := PySem.W.mg_none_of X G zall
  have h_set := PySem.W.mg_none_of X G zset
  have h_repr := PySem.W.mg_none_of X G zrepr
  have h_zip := PySem.W.mg_none_of X G zzip
  have m_Uneven := PySem.W.mg_of X G aC_Uneven
  have F0 := fun_mk (st := s_law_deck) l0 c0 k0
  have m0 := PySem.W.mg_of X G a0
  have F1 := fun_mk (st := s_law_draw) l1 c1 k1
  have m1 := PySem.W.mg_of X G a1
  have F2 := fun_mk (st := sadded) l2 c2 k2
  have m2 := PySem.W.mg_of X G a2
  have F3 := fun_mk (st := salong) l3 c3 k3
  have m3 := PySem.W.mg_of X G a3
  have F4 := fun_mk (st := s_law_sum) l4 c4 k4
  have m4 := PySem.W.mg_of X G a4
  have F5 := fun_mk (st := s_law_halved) l5 c5 k5
  have m5 := PySem.W.mg_of X G a5
  have F6 := fun_mk (st := ssums) l6 c6 k6
  have m6 := PySem.W.mg_of X G a6
  have F7 := fun_mk (st := s_law_one) l7 c7 k7
  have m7 := PySem.W.mg_of X G a7
  have F8 := fun_mk (st := s_law_mixed) l8 c8 k8
  have m8 := PySem.W.mg_of X G a8
  have F9 := fun_mk (st := s_law_row) l9 c9 k9
  have m9 := PySem.W.mg_of X G a9
  have F10 := fun_mk (st := sis_even) l10 c10 k10
  have m10 := PySem.W.mg_of X G a10
  have F11 := fun_mk (st := s_law_load) l11 c11 k11
  have m11 := PySem.W.mg_of X G a11
  have F12 := fun_mk (st := s_law_even) l12 c12 k12
  have m12 := PySem.W.mg_of X G a12
  have F13 := fun_mk (st := s_law_great_even) l13 c13 k13
  have m13 := PySem.W.mg_of X G a13
  have F14 := fun_mk (st := s_law_hard_even) l14 c14 k14
  have m14 := PySem.W.mg_of X G a14
  have F15 := fun_mk (st := smust_be_even) l15 c15 k15
  have m15 := PySem.W.mg_of X G a15
  have F16 := fun_mk (st := s_law_any_even) l16 c16 k16
  have m16 := PySem.W.mg_of X G a16
  have F17 := fun_mk (st := s_law_any_load) l17 c17 k17
  have m17 := PySem.W.mg_of X G a17
  have F18 := fun_mk (st := shalved) l18 c18 k18
  have m18 := PySem.W.mg_of X G a18
  have F19 := fun_mk (st := s_law_told) l19 c19 k19
  have m19 := PySem.W.mg_of X G a19
  have F20 := fun_mk (st := slaw) l20 c20 k20
  have m20 := PySem.W.mg_of X G a20
  have b0 := F0.binds (ps := ["script"]) fun _ _ _ _ _ _ us hl => match us, hl with | [_], _ => rfl
  have b1 := F1.binds (ps := ["deck", "many"]) fun _ _ _ _ _ _ us hl => match us, hl with | [_, _], _ => rfl
  have b2 := F2.binds (ps := ["one", "other"]) fun _ _ _ _ _ _ us hl => match us, hl with | [_, _], _ => rfl
  have b3 := F3.binds (ps := ["load", "order"]) fun _ _ _ _ _ _ us hl => match us, hl with | [_, _], _ => rfl
  have b4 := F4.binds (ps := ["kinds", "rows"]) fun _ _ _ _ _ _ us hl => match us, hl with | [_, _], _ => rfl
  have b5 := F5.binds (ps := ["order", "signs"]) fun _ _ _ _ _ _ us hl => match us, hl with | [_, _], _ => rfl
  have b6 := F6.binds (ps := ["kinds", "rows"]) fun _ _ _ _ _ _ us hl => match us, hl with | [_, _], _ => rfl
  have b7 := F7.binds (ps := ["deck", "items"]) fun _ _ _ _ _ _ us hl => match us, hl with | [_, _], _ => rfl
  have b8 := F8.binds (ps := ["deck", "items"]) fun _ _ _ _ _ _ us hl => match us, hl with | [_, _], _ => rfl
  have b9 := F9.binds (ps := ["deck", "kinds", "most"]) fun _ _ _ _ _ _ us hl => match us, hl with | [_, _, _], _ => rfl
  have b10 := F10.binds (ps := ["load"]) fun _ _ _ _ _ _ us hl => match us, hl with | [_], _ => rfl
  have b11 := F11.binds (ps := ["deck", "rows"]) fun _ _ _ _ _ _ us hl => match us, hl with | [_, _], _ => rfl
  have b12 := F12.binds (ps := ["deck", "rows"]) fun _ _ _ _ _ _ us hl => match us, hl with | [_, _], _ => rfl
  have b13 := F13.binds (ps := ["deck"]) fun _ _ _ _ _ _ us hl => match us, hl with | [_], _ => rfl
  have b14 := F14.binds (ps := ["deck"]) fun _ _ _ _ _ _ us hl => match us, hl with | [_], _ => rfl
  have b15 := F15.binds (ps := ["load"]) fun _ _ _ _ _ _ us hl => match us, hl with | [_], _ => rfl
  have b16 := F16.binds (ps := ["deck", "rows"]) fun _ _ _ _ _ _ us hl => match us, hl with | [_, _], _ => rfl
  have b17 := F17.binds (ps := ["deck", "rows"]) fun _ _ _ _ _ _ us hl => match us, hl with | [_, _], _ => rfl
  have b18 := F18.binds (ps := ["load", "order", "signs"]) fun _ _ _ _ _ _ us hl => match us, hl with | [_, _, _], _ => rfl
  have b19 := F19.binds (ps := ["load", "order", "signs"]) fun _ _ _ _ _ _ us hl => match us, hl with | [_, _, _], _ => rfl
  refine ⟨PySem.W.fnOf "law" "law" (defArgs slaw) (defBody slaw) (defScope slaw) .none kV20 dc20 pm20 an20 cd20 ct20, fun s v => .of_eq rfl, fun base _ _ => ?_⟩
  have D__law_deck : Dk l.prog w K mg base 1 "_law_deck" ["script"] (spDeck K) := ⟨f0, _, ok_deck F0 B, m0, k0, b0⟩
  have D__law_draw := D__law_draw (P := l.prog) (wd := w) (base := base) F1 B m1 k1 b1
  have C_Uneven_ : ExcC K C_Uneven := ⟨ga_Uneven, gg_Uneven, eC_Uneven, hD_Uneven, ha_Uneven, hn_Uneven, ht_Uneven, hm_Uneven⟩
  have X_Uneven : Ex0 K mg "Uneven" := ⟨C_Uneven, m_Uneven, xn_Uneven, kC_Uneven, eC_Uneven, tC_Uneven, C_Uneven_⟩
  have I := isa_ok (K := K) m_Uneven (PySem.W.exm_ref eC_Uneven hD_Uneven tC_Uneven s_Uneven_Uneven)
  have D_added := D_added (P := l.prog) (wd := w) (base := base) F2 m2 k2 b2 h_tuple h_zip
  have D_along := D_along (P := l.prog) (wd := w) (base := base) F3 m3 k3 b3 h_tuple
  have D__law_sum := D__law_sum (P := l.prog) (wd := w) (base := base) F4 m4 k4 b4 h_range h_sum h_tuple
  have D__law_halved := D__law_halved (P := l.prog) (wd := w) (base := base) F5 m5 k5 b5 h_tuple h_zip
  have D_sums := D_sums (P := l.prog) (wd := w) (base := base) F6 m6 k6 b6 h_tuple D_added
  have D__law_one := D__law_one (P := l.prog) (wd := w) (base := base) F7 m7 k7 b7 h_len D__law_draw
  have D__law_mixed := D__law_mixed (P := l.prog) (wd := w) (base := base) F8 m8 k8 b8 h_len h_list h_range D__law_draw
  have D__law_row := D__law_row (P := l.prog) (wd := w) (base := base) F9 m9 k9 b9 h_range h_tuple D__law_draw
  have D_is_even := D_is_even (P := l.prog) (wd := w) (base := base) F10 m10 k10 b10 D_sums
  have D__law_load := D__law_load (P := l.prog) (wd := w) (base := base) F11 m11 k11 b11 h_range h_tuple D__law_draw D__law_one D__law_row
  have D__law_even := D__law_even (P := l.prog) (wd := w) (base := base) F12 m12 k12 b12 h_len h_range h_tuple D__law_draw D__law_mixed D__law_one D__law_row D__law_sum
  have D__law_great_even := D__law_great_even (P := l.prog) (wd := w) (base := base) F13 m13 k13 b13 h_range h_tuple D__law_draw D__law_mixed D__law_one
  have D__law_hard_even := D__law_hard_even (P := l.prog) (wd := w) (base := base) F14 m14 k14 b14 h_range h_tuple h_zip D__law_draw D__law_mixed
  have D_must_be_even := D_must_be_even (P := l.prog) (wd := w) (base := base) F15 m15 k15 b15 X_Uneven D_is_even
  have D__law_any_even := D__law_any_even (P := l.prog) (wd := w) (base := base) F16 m16 k16 b16 D__law_draw D__law_even D__law_great_even D__law_hard_even
  have D__law_any_load := D__law_any_load (P := l.prog) (wd := w) (base := base) F17 m17 k17 b17 h_tuple D__law_draw D__law_great_even D__law_hard_even D__law_load
  have D_halved := D_halved (P := l.prog) (wd := w) (base := base) F18 m18 k18 b18 h_tuple h_zip D_must_be_even
  have D__law_told := D__law_told (P := l.prog) (wd := w) (base := base) F19 m19 k19 b19 I ⟨_, m_Uneven⟩ D_halved
  exact ok_lawW F20 D__law_deck h_len h_list h_range h_repr h_tuple D__law_any_even D__law_any_load D__law_halved D__law_mixed D__law_one D__law_sum D__law_told D_along law_shown
end Nk
open PySem PySem.W PyProof.Rows in
set_option maxRecDepth 100000 in
set_option maxHeartbeats 0 in
theorem PySem.Challenge.cw_nearnought_k18_rows_along_orders_and_hal_holds : PySem.Challenge.rw_nearnought_k18_rows_along_orders_and_hal.Holds := by
  w_on; o_law; k_head; (case hw => w_witness2)
  k_fill
  refine Nk.walk_law (l := PySem.Challenge.rw_nearnought_k18_rows_along_orders_and_hal) (n := 63) (k := 7) (sp := fun K => Nk.spLawW K []) (x := "script") rfl (by decide) rfl ⟨rfl, by decide, by decide⟩ (fun w h Y => PySem.W.kIn_of Y) ?F (fun K H a ns hl hS => ⟨a, ns, rfl, hS, hl, (fun p hp => nomatch hp), fun _ => rfl⟩)
  case F =>
    intro w mg fa h KX G hmg
    refine' Nk.all_mk KX G hmg ?a0 ?l0 ?c0 ?k0 ?a1 ?l1 ?c1 ?k1 ?a2 ?l2 ?c2 ?k2 ?a3 ?l3 ?c3 ?k3 ?a4 ?l4 ?c4 ?k4 ?a5 ?l5 ?c5 ?k5 ?a6 ?l6 ?c6 ?k6 ?a7 ?l7 ?c7 ?k7 ?a8 ?l8 ?c8 ?k8 ?a9 ?l9 ?c9 ?k9 ?a10 ?l10 ?c10 ?k10 ?a11 ?l11 ?c11 ?k11 ?a12 ?l12 ?c12 ?k12 ?a13 ?l13 ?c13 ?k13 ?a14 ?l14 ?c14 ?k14 ?a15 ?l15 ?c15 ?k15 ?a16 ?l16 ?c16 ?k16 ?a17 ?l17 ?c17 ?k17 ?a18 ?l18 ?c18 ?k18 ?a19 ?l19 ?c19 ?k19 ?a20 ?l20 ?c20 ?k20 ?zlen ?zint ?zabs ?zrange ?zlist ?ztuple ?zisinstance ?zbool ?zstr ?zsum ?zall ?zset ?zrepr ?zzip ?aC_Uneven ?eC_Uneven ?hD_Uneven ?tC_Uneven ?kC_Uneven ?ga_Uneven ?gg_Uneven ?xn_Uneven ?ha_Uneven ?hn_Uneven ?ht_Uneven ?hm_Uneven ?lc_Uneven ?s_Uneven_Uneven
    (case a0 => k_is)
    (case l0 => k_is)
    (case c0 => k_is)
    (case k0 => k_is)
    (case a1 => k_is)
    (case l1 => k_is)
    (case c1 => k_is)
    (case k1 => k_is)
    (case a2 => k_is)
    (case l2 => k_is)
    (case c2 => k_is)
    (case k2 => k_is)
    (case a3 => k_is)
    (case l3 => k_is)
    (case c3 => k_is)
    (case k3 => k_is)
    (case a4 => k_is)
    (case l4 => k_is)
    (case c4 => k_is)
    (case k4 => k_is)
    (case a5 => k_is)
    (case l5 => k_is)
    (case c5 => k_is)
    (case k5 => k_is)
    (case a6 => k_is)
    (case l6 => k_is)
    (case c6 => k_is)
    (case k6 => k_is)
    (case a7 => k_is)
    (case l7 => k_is)
    (case c7 => k_is)
    (case k7 => k_is)
    (case a8 => k_is)
    (case l8 => k_is)
    (case c8 => k_is)
    (case k8 => k_is)
    (case a9 => k_is)
    (case l9 => k_is)
    (case c9 => k_is)
    (case k9 => k_is)
    (case a10 => k_is)
    (case l10 => k_is)
    (case c10 => k_is)
    (case k10 => k_is)
    (case a11 => k_is)
    (case l11 => k_is)
    (case c11 => k_is)
    (case k11 => k_is)
    (case a12 => k_is)
    (case l12 => k_is)
    (case c12 => k_is)
    (case k12 => k_is)
    (case a13 => k_is)
    (case l13 => k_is)
    (case c13 => k_is)
    (case k13 => k_is)
    (case a14 => k_is)
    (case l14 => k_is)
    (case c14 => k_is)
    (case k14 => k_is)
    (case a15 => k_is)
    (case l15 => k_is)
    (case c15 => k_is)
    (case k15 => k_is)
    (case a16 => k_is)
    (case l16 => k_is)
    (case c16 => k_is)
    (case k16 => k_is)
    (case a17 => k_is)
    (case l17 => k_is)
    (case c17 => k_is)
    (case k17 => k_is)
    (case a18 => k_is)
    (case l18 => k_is)
    (case c18 => k_is)
    (case k18 => k_is)
    (case a19 => k_is)
    (case l19 => k_is)
    (case c19 => k_is)
    (case k19 => k_is)
    (case a20 => k_is)
    (case l20 => k_is)
    (case c20 => k_is)
    (case k20 => k_is)
    (case zlen => k_is)
    (case zint => k_is)
    (case zabs => k_is)
    (case zrange => k_is)
    (case zlist => k_is)
    (case ztuple => k_is)
    (case zisinstance => k_is)
    (case zbool => k_is)
    (case zstr => k_is)
    (case zsum => k_is)
    (case zall => k_is)
    (case zset => k_is)
    (case zrepr => k_is)
    (case zzip => k_is)
    (case aC_Uneven => k_is)
    (case eC_Uneven => k_is)
    (case hD_Uneven => k_is)
    (case tC_Uneven => k_is)
    (case kC_Uneven => k_is)
    (case ga_Uneven => k_is)
    (case gg_Uneven => k_is)
    (case xn_Uneven => first | k_is | k_exc | kernel_rfl | rfl | decide +kernel)
    (case ha_Uneven => k_is)
    (case hn_Uneven => k_is)
    (case ht_Uneven => k_is)
    (case hm_Uneven => k_is)
    (case lc_Uneven => first | k_is | k_exc | kernel_rfl | rfl | decide +kernel)
    (case s_Uneven_Uneven => first | k_is | k_exc | kernel_rfl | rfl | decide +kernel)
