import PyProof.Rows.All
import Wide.All
import OpenK.AllK
import Wide.FinOn
import HandS.ForMost
import HandS.IsInst
import HandS.TupAny
import HandS.TupMul
import HandS.Wide
import HandS.Style
import HandS.Zip
import HandS.RaiseMore
import HandS.SetFor
import PyProof.ReprLen
import PyProof.Rows.ReprOcc
import HandS.Conv
import KE.GoesEnum
import HandS.Walk
import HandS.SortKw
import KE.DatumOrd
import KE.KEqDeep
import PySem.Challenge.RW_nearnought_k03_beginnings_and_heights
set_option Elab.async false
set_option linter.all false
set_option maxRecDepth 100000
set_option maxHeartbeats 4000000
namespace Nk
open PySem L2

/-! data at any depth, the empty dict too -/
mutual
inductive Dq (K : PySem.W.Frag) (H : Hp) : V → PyData → Prop
  | non : Dq K H .non .none
  | bl (b : Bool) : Dq K H (.bl b) (.bool b)
  | int (i : Int) : Dq K H (.int i) (.int i)
  | str (x : Str) : Dq K H (.str x) (.str x)
  | lst {a : Addr} {xs : List V} {ds : List PyData} : H a = some (.lst xs) → DqAll K H xs ds → Dq K H (.ref a) (.list ds)
  | tup {a : Addr} {xs : List V} {ds : List PyData} : H a = some (.tup xs) → DqAll K H xs ds → Dq K H (.ref a) (.tuple ds)
  | dnil {a : Addr} : H a = some (.dK []) → Dq K H (.ref a) (.dict [])
inductive DqAll (K : PySem.W.Frag) (H : Hp) : List V → List PyData → Prop
  | nil : DqAll K H [] []
  | cons {v : V} {vs : List V} {d : PyData} {ds : List PyData} : Dq K H v d → DqAll K H vs ds → DqAll K H (v :: vs) (d :: ds)
end

/-! data without a list -/
mutual
def noL : PyData → Bool
  | .list _ => false
  | .tuple xs => noLs xs
  | _ => true
def noLs : List PyData → Bool
  | [] => true
  | x :: xs => noL x && noLs xs
end
section
variable {X : Cx} {pins : List (Addr × Obj)} {σ : St} {H : Hp} {s : Shared}

mutual
theorem Dq.rd (I : Inv X pins σ H s) : ∀ (d : PyData) (v : V) (u : Value), Dq X.K H v d → RelV v u → ∃ as, PySem.Reads s.heap u d as ∧ (noL d = true → sysModules ∉ as)
  | .none, _, _, h, r => by
    cases h; cases r
    exact ⟨[], .none, fun _ z => nomatch z⟩
  | .bool b, _, _, h, r => by
    cases h; cases r
    exact ⟨[], .bool b, fun _ z => nomatch z⟩
  | .int i, _, _, h, r => by
    cases h
    obtain ⟨t, q⟩ := r
    subst q
    exact ⟨[], .int i t, fun _ z => nomatch z⟩
  | .str x, _, _, h, r => by
    cases h
    obtain ⟨t, q⟩ := r
    subst q
    exact ⟨[], .str x t, fun _ z => nomatch z⟩
  | .list ds, _, _, h, r => by
    cases h with
    | lst hs ha =>
      cases r
      obtain ⟨z, its, n, rv, e⟩ := I.hok _ _ hs
      obtain ⟨as, hr, hn⟩ := Dq.rdAll I ds _ its ha rv
      exact ⟨_, .list e rfl rfl hr, fun q => by simp [noL] at q⟩
  | .tuple ds, _, _, h, r => by
    cases h with
    | tup hs ha =>
      cases r
      obtain ⟨z, its, rv, o, ho, hc, n, hd⟩ := I.hok _ _ hs
      obtain ⟨as, hr, hn⟩ := Dq.rdAll I ds _ its ha rv
      exact ⟨_, .tuple ho hc hd hr, fun q => hn (by simpa [noL] using q)⟩
  | .dict kvs, _, _, h, r => by
    cases h with
    | dnil hs =>
      cases r
      obtain ⟨z, y, vs, rv, o, es, ep, ho, hx, hd, hl, hp, hrest⟩ := I.hok _ _ hs
      cases rv
      obtain ⟨es⟩ := es
      have hes : es = [] := by
        cases es with
        | nil => rfl
        | cons e es => cases hp
      subst hes
      have hc : o.cls = .type "dict" := hx.1
      exact ⟨_, .dict (kvs := []) ho hc hd .nil .nil, fun _ q => by
        have q' := List.mem_singleton.mp q
        rw [← q'] at y
        exact absurd y (by decide)⟩
theorem Dq.rdAll (I : Inv X pins σ H s) : ∀ (ds : List PyData) (vs : List V) (us : List Value), DqAll X.K H vs ds → Vals vs us → ∃ as, PySem.ReadsAll s.heap us ds as ∧ (noLs ds = true → sysModules ∉ as)
  | [], _, _, h, r => by
    cases h; cases r
    exact ⟨[], .nil, fun _ z => nomatch z⟩
  | d :: ds, _, _, h, r => by
    cases h with
    | cons h1 h2 =>
      cases r with
      | cons r1 r2 =>
        obtain ⟨as, q1, n1⟩ := Dq.rd I d _ _ h1 r1
        obtain ⟨bs, q2, n2⟩ := Dq.rdAll I ds _ _ h2 r2
        refine ⟨_, .cons q1 q2, fun c z => ?_⟩
        have c' : noL d = true ∧ noLs ds = true := by simpa [noLs] using c
        exact (List.mem_append.mp z).elim (n1 c'.1) (n2 c'.2)
end
end
/-- where a dict stands within, no list does (the list of all modules is a dict that no list must be taken for) -/
def Uno (d : PyData) : Prop := d.hasDict = true → noL d = true

/-- repr(x) of data: the text is a function of the data -/
def rRepr (K : PySem.W.Frag) : List V → Hp → VK → Prop := fun xs H Q => ∃ v d, xs = [v] ∧ Dq K H v d ∧ Uno d ∧ d.showable = true ∧ d.depth ≤ 40 ∧ d.shown.length ≤ sizeLine ∧ Q (.str d.shown) H
theorem call_reprD {X : Cx} (hg : X.A.guards = some []) (hu : X.A.units + 64 < cLine) : CallR X (.builtin "repr") (rRepr X.K) := by
  intro pins s σ H xs us Q I r h
  obtain ⟨v, d, e1, hd, hone, hsh, hdep, hlen, q⟩ := h
  subst e1
  cases r with
  | cons r1 r2 =>
    cases r2
    rename_i u
    obtain ⟨as, hr, hn⟩ := Dq.rd I d v u hd r1
    cases hd with
    | non =>
      cases r1
      exact PySem.P.repr_of_none ⟨.str _, H, I.tok _, ⟨_, rfl⟩, q⟩
    | bl b =>
      cases r1
      exact PySem.P.repr_of_bool ⟨.str _, H, I.tok _, ⟨_, rfl⟩, q⟩
    | int i =>
      obtain ⟨t, q1⟩ := r1
      subst q1
      have hi : i.natAbs.log2 < 1920 := by simpa [PyData.showable] using hsh
      exact PySem.P.repr_of_int hi ⟨.str _, H, I.tok _, ⟨_, rfl⟩, q⟩
    | str x =>
      obtain ⟨t, q1⟩ := r1
      subst q1
      exact PySem.P.repr_of_str ⟨.str _, H, I.tok _, ⟨_, rfl⟩, q⟩ hlen
    | lst hs ha =>
      cases r1
      exact PySem.repr_of_reads' hr hsh (fun z => hn (hone z)) hg (by omega) (fun _ _ e => e) (fun h' u tk hk => ⟨.str _, H, I.kept (t' := tk) hk, ⟨_, rfl⟩, q⟩) hlen
    | tup hs ha =>
      cases r1
      exact PySem.repr_of_reads' hr hsh (fun z => hn (hone z)) hg (by omega) (fun _ _ e => e) (fun h' u tk hk => ⟨.str _, H, I.kept (t' := tk) hk, ⟨_, rfl⟩, q⟩) hlen
    | dnil hs =>
      cases r1
      exact PySem.repr_of_reads' hr hsh (fun z => hn (hone z)) hg (by omega) (fun _ _ e => e) (fun h' u tk hk => ⟨.str _, H, I.kept (t' := tk) hk, ⟨_, rfl⟩, q⟩) hlen

/-! len(set(t)), t a tuple of ints -/
def tLenSetT (K : PySem.W.Frag) (ta : TE) : TE := fun σ H Q => ta σ H fun x H1 => ∃ (l : Addr) (ns : List Int), x = .ref l ∧ SqT K H1 l (ns.map V.int) ∧ ns.length ≤ 1000 ∧
  ∀ L : List Int, L.Nodup → (∀ k, k ∈ ns ↔ k ∈ L) → Q (.int (L.length : Nat)) H1
theorem pe_lenSetT {X : Cx} {a : Expr} {ta : TE} {p p2 q pos : Pos} (hg : Gl X "len") (hm : X.mg "len" = none) (hg2 : Gl X "set") (hm2 : X.mg "set" = none) (ha : PE X a ta) (hc : X.calm = true := by rfl)
    (na : starEach [a] X.env = (false, eval a X.env) :: starEach [] X.env := by rfl) : PE X (.Call (.Name "len" p) [.Call (.Name "set" p2) [a] [] q] [] pos) (tLenSetT X.K ta) := by
  refine ⟨fun pins s σ H Q I h => ?_⟩
  refine PyProof.Rows.Call_ (ld_blt I hg hm PySem.boot_len ?_)
  refine PyProof.Rows.callWith_builtin1 (PyProof.Rows.args_cons ?_ rfl) rfl rfl
  refine PyProof.Rows.Call_ (ld_blt I hg2 hm2 PyProof.Rows.boot_set ?_)
  refine PyProof.Rows.callWith_type1 (PyProof.Rows.args_cons (thn (ha.run pins s σ H _ I h) fun v s1 ⟨x, H1, I1, r1, q1⟩ => PyProof.Rows.args_nil ?_) na) na rfl
  obtain ⟨l, ns, e1, hq, hl, q1⟩ := q1
  subst e1
  cases r1
  obtain ⟨its, r, pl, hz⟩ := I1.tuple hq
  have hi : PyProof.Rows.IntsAre its.toArray.toList ns := ints_of_vals r
  refine call_set_tupI ns (I1.ok.hd hc) (show s1.heap.IsTuple l its.toArray from pl) hi (by unfold scanBound; omega) fun h' tk c R1 hcn k => ?_
  refine PyProof.Rows.args_nil ?_
  obtain ⟨o, es, ep, t, ho, hx, hd, g, nd, hm3, hb, hf, hn, _⟩ := R1
  have I2 : Inv X pins σ H1 { s1 with heap := h', toks := tk } := I1.kept fun b o e => k b o e
  have hz : (es.toList.map keyOf).length = es.size := by simp
  refine PySem.call_len_set ho hx hd hf (by omega) ⟨.int es.size, H1, I2.tok _, ⟨_, rfl⟩, ?_⟩
  have := q1 (es.toList.map keyOf) nd fun k => by
    rw [← hm3 k]
    exact (decide_eq_true_iff).symm
  rw [hz] at this
  exact this

/-! a call of a def of the text: all that is known of it in one fact -/
structure Dk (P : Program) (w : World) (K : PySem.W.Frag) (mg : Str → Option Value) (base : Heap) (k : Nat) (x : Str) (ps : List Str) (sp : Sp) : Prop where
  ex : ∃ (f : Addr) (fd : FuncData), FnOk P w K mg base CX0 k f fd ps sp ∧ mg x = some (.ref f) ∧ PySem.W.keepIn K (.ref f) = true ∧ Binds K fd ps []
section
variable {X : Cx} {x : Str} {k : Nat} {ps : List Str} {sp : Sp} {e : Expr} {es : List Expr} {t : TA} {p pos : Pos}
theorem pe_dk (D : Dk X.prog X.w X.K X.mg X.base k x ps sp) (hr : Room k X.A) (ha : PA X (e :: es) t) (hg : Gl X x := by rfl) (hdb : (x == ("__debug__" : Str)) = false := by decide)
    (he : starEach (e :: es) X.env = (false, eval e X.env) :: starEach es X.env := by rfl) (hpl : (backTo pos (starEach es X.env)).any (·.1) = false := by rfl) : PE X (.Call (.Name x p) (e :: es) [] pos) (tCall sp [] E0 t) := by
  obtain ⟨f, fd, F, m, kp, b⟩ := D.ex
  exact pe_call F hr hg m kp b .nil pass0 ha hdb he hpl
theorem pe_dk0 (D : Dk X.prog X.w X.K X.mg X.base k x ps sp) (hr : Room k X.A) (hg : Gl X x := by rfl) (hdb : (x == ("__debug__" : Str)) = false := by decide) : PE X (.Call (.Name x p) [] [] pos) (tCall sp [] E0 tNil) := by
  obtain ⟨f, fd, F, m, kp, b⟩ := D.ex
  exact pe_call0 F hr hg m kp b .nil pass0 hdb
end
end Nk
set_option Elab.async false
set_option linter.all false
set_option maxRecDepth 100000
set_option maxHeartbeats 4000000
namespace Nk
open PySem L2

/-! more data on a larger heap -/
mutual
theorem Dq.same {K : PySem.W.Frag} {H H' : Hp} (e : Same H H') : ∀ {v : V} {d : PyData}, Dq K H v d → Dq K H' v d
  | _, _, .non => .non
  | _, _, .bl b => .bl b
  | _, _, .int i => .int i
  | _, _, .str x => .str x
  | _, _, .lst h t => .lst (e _ _ h) (DqAll.same e t)
  | _, _, .tup h t => .tup (e _ _ h) (DqAll.same e t)
  | _, _, .dnil h => .dnil (e _ _ h)
theorem DqAll.same {K : PySem.W.Frag} {H H' : Hp} (e : Same H H') : ∀ {vs : List V} {ds : List PyData}, DqAll K H vs ds → DqAll K H' vs ds
  | _, _, .nil => .nil
  | _, _, .cons h t => .cons (Dq.same e h) (DqAll.same e t)
end
section
variable {K : PySem.W.Frag} {H : Hp}
theorem DqAll.length : ∀ {vs : List V} {ds : List PyData}, DqAll K H vs ds → vs.length = ds.length
  | _, _, .nil => rfl
  | _, _, .cons _ t => by rw [List.length_cons, List.length_cons, DqAll.length t]
theorem DqAll.get : ∀ {vs : List V} {ds : List PyData} {i : Nat} {x : V}, DqAll K H vs ds → vs[i]? = some x → ∃ d, ds[i]? = some d ∧ Dq K H x d
  | _, _, _, _, .nil, e => by simp at e
  | _, _, 0, _, .cons h _, e => by simp at e; subst e; exact ⟨_, rfl, h⟩
  | _, _, i + 1, x, .cons _ t, e => by
    obtain ⟨d, h1, h2⟩ := DqAll.get (i := i) (x := x) t (by simpa using e)
    exact ⟨d, by simpa using h1, h2⟩
theorem DqAll.mem {vs : List V} {ds : List PyData} {x : V} (h : DqAll K H vs ds) (hx : x ∈ vs) : ∃ d, d ∈ ds ∧ Dq K H x d := by
  obtain ⟨i, hi⟩ := List.mem_iff_getElem?.mp hx
  obtain ⟨d, h1, h2⟩ := h.get hi
  exact ⟨d, List.mem_of_getElem? h1, h2⟩
theorem DqAll.append : ∀ {vs ws : List V} {ds es : List PyData}, DqAll K H vs ds → DqAll K H ws es → DqAll K H (vs ++ ws) (ds ++ es)
  | _, _, _, _, .nil, h => h
  | _, _, _, _, .cons a t, h => .cons a (DqAll.append t h)
theorem DqAll.take : ∀ {vs : List V} {ds : List PyData} (n : Nat), DqAll K H vs ds → DqAll K H (vs.take n) (ds.take n)
  | _, _, 0, _ => .nil
  | _, _, _ + 1, .nil => .nil
  | _, _, n + 1, .cons a t => .cons a (DqAll.take n t)
theorem DqAll.drop : ∀ {vs : List V} {ds : List PyData} (n : Nat), DqAll K H vs ds → DqAll K H (vs.drop n) (ds.drop n)
  | _, _, 0, h => h
  | _, _, _ + 1, .nil => .nil
  | _, _, n + 1, .cons _ t => DqAll.drop n t
theorem DqAll.reverse : ∀ {vs : List V} {ds : List PyData}, DqAll K H vs ds → DqAll K H vs.reverse ds.reverse
  | _, _, .nil => .nil
  | _, _, .cons a t => by
    rw [List.reverse_cons, List.reverse_cons]
    exact DqAll.append (DqAll.reverse t) (.cons a .nil)
theorem DqAll.ints : ∀ (ns : List Int), DqAll K H (ns.map V.int) (ns.map PyData.int)
  | [] => .nil
  | n :: ns => .cons (.int n) (DqAll.ints ns)
theorem DqAll.bls : ∀ (ns : List Bool), DqAll K H (ns.map V.bl) (ns.map PyData.bool)
  | [] => .nil
  | n :: ns => .cons (.bl n) (DqAll.bls ns)
end

/-! the heap H' is H with the new objects of N -/
structure Ext (N H H' : Hp) : Prop where
  new : ∀ b o, N b = some o → H' b = some o ∧ H b = none
  old : ∀ b, N b = none → H' b = H b
theorem Ext.nil0 (H : Hp) : Ext (fun _ => none) H H := by
  refine ⟨fun b o z => ?_, fun _ _ => rfl⟩
  cases z
theorem Ext.sub {N H H' : Hp} (e : Ext N H H') : Same N H' := fun b o h => (e.new b o h).1
theorem Ext.same {N H H' : Hp} (e : Ext N H H') : Same H H' := fun b o h => by
  cases q : N b with
  | none => rw [e.old b q]; exact h
  | some u =>
    rw [(e.new b u q).2] at h
    cases h
def joinH (N M : Hp) : Hp := fun b => match N b with
  | some o => some o
  | none => M b
theorem joinH_left {N M : Hp} {b : Addr} {o : HO} (h : N b = some o) : joinH N M b = some o := by unfold joinH; rw [h]
theorem joinH_right {N M : Hp} {b : Addr} (h : N b = none) : joinH N M b = M b := by unfold joinH; rw [h]
theorem Ext.trans {N M H H1 H2 : Hp} (a : Ext N H H1) (b : Ext M H1 H2) : Ext (joinH N M) H H2 ∧ Same N (joinH N M) ∧ Same M (joinH N M) := by
  have key : ∀ c o, M c = some o → N c = Option.none := fun c o h => by
    cases q : N c with
    | none => rfl
    | some u =>
      have h1 := (b.new c o h).2
      rw [(a.new c u q).1] at h1
      cases h1
  refine ⟨⟨fun c o h => ?_, fun c h => ?_⟩, fun c o h => joinH_left h, fun c o h => by rw [joinH_right (key c o h)]; exact h⟩
  · cases q : N c with
    | some u =>
      have h2 : o = u := Option.some.inj (h.symm.trans (joinH_left q))
      subst h2
      exact ⟨b.same _ _ (a.new c o q).1, (a.new c o q).2⟩
    | none =>
      rw [joinH_right q] at h
      exact ⟨(b.new c o h).1, by rw [← a.old c q]; exact (b.new c o h).2⟩
  · cases q : N c with
    | some u => rw [joinH_left q] at h; cases h
    | none =>
      rw [joinH_right q] at h
      rw [b.old c h, a.old c q]
theorem Ext.one {H : Hp} {p : Addr} {o : HO} (h : H p = none) : Ext (upd (fun _ => none) p o) H (upd H p o) := by
  refine ⟨fun b u e => ?_, fun b e => ?_⟩
  · by_cases hb : b = p
    · subst hb
      rw [upd_same] at e
      exact ⟨by rw [upd_same]; exact e, h⟩
    · rw [upd_ne hb] at e
      cases e
  · by_cases hb : b = p
    · subst hb; rw [upd_same] at e; cases e
    · rw [upd_ne hb]

/-! written data, whole -/
def tLit (K : PySem.W.Frag) (d : PyData) : TE := fun _ H Q => ∀ v N H', Ext N H H' → Dq K N v d → Q v H'
def tLits (K : PySem.W.Frag) (ds : List PyData) : TA := fun _ H Q => ∀ vs N H', Ext N H H' → DqAll K N vs ds → Q vs H'
section
variable {X : Cx} {e : Expr} {es : List Expr} {pos : Pos}
theorem pe_imp {t t' : TE} (h : PE X e t) (i : ∀ σ H Q, t' σ H Q → t σ H Q) : PE X e t' := ⟨fun pins s σ H Q I q => h.run pins s σ H Q I (i σ H Q q)⟩
theorem pa_imp {t t' : TA} (h : PA X es t) (i : ∀ σ H Q, t' σ H Q → t σ H Q) : PA X es t' := ⟨fun ps pins s σ H Q I q => h.run ps pins s σ H Q I (i σ H Q q)⟩
theorem pl_int {i j} : PE X (.Constant (.int i) j pos) (tLit X.K (.int i)) := pe_imp pe_int fun σ H Q h => h _ _ _ (Ext.nil0 H) (.int i)
theorem pl_bl {b j} : PE X (.Constant (.bool b) j pos) (tLit X.K (.bool b)) := pe_imp pe_bl fun σ H Q h => h _ _ _ (Ext.nil0 H) (.bl b)
theorem pl_non {j} : PE X (.Constant .none j pos) (tLit X.K .none) := pe_imp pe_non fun σ H Q h => h _ _ _ (Ext.nil0 H) .non
theorem pl_str {x j} : PE X (.Constant (.str x) j pos) (tLit X.K (.str x)) := pe_imp pe_str fun σ H Q h => h _ _ _ (Ext.nil0 H) (.str x)
theorem pl_of {te : TE} {i : Int} (h : PE X e te) (q : ∀ σ H Q, Q (.int i) H → te σ H Q) : PE X e (tLit X.K (.int i)) := pe_imp h fun σ H Q z => q σ H Q (z _ _ _ (Ext.nil0 H) (.int i))
theorem pls_nil : PA X [] (tLits X.K []) := pa_imp pa_nil fun σ H Q h => h _ _ _ (Ext.nil0 H) .nil
theorem pls_cons {d : PyData} {ds : List PyData} (a : PE X e (tLit X.K d)) (b : PA X es (tLits X.K ds)) (hs : starEach (e :: es) X.env = (false, eval e X.env) :: starEach es X.env := by rfl) : PA X (e :: es) (tLits X.K (d :: ds)) :=
  pa_imp (pa_cons a b hs) fun σ H Q h v N H1 e1 q1 vs M H2 e2 q2 => by
    obtain ⟨x, y, z⟩ := e1.trans e2
    exact h _ _ _ x (.cons (q1.same y) (q2.same z))
theorem pl_tup {ds : List PyData} {x1} (a : PA X es (tLits X.K ds)) (hz : ds.length ≤ 1000 := by decide) : PE X (.Tuple es x1 pos) (tLit X.K (.tuple ds)) :=
  pe_imp (pe_tup a) fun σ H Q h vs N H1 e1 q1 => by
    refine ⟨Nat.le_of_lt (small1000 (by rw [q1.length]; exact hz)), fun p hp => ?_⟩
    obtain ⟨x, y, z⟩ := e1.trans (Ext.one (o := .tup vs) hp)
    exact h _ _ _ x (.tup (z _ _ upd_same) (q1.same y))
theorem pl_lst {ds : List PyData} (a : PA X es (tLits X.K ds)) (hz : ds.length ≤ 1000 := by decide) : PE X (.List es pos) (tLit X.K (.list ds)) :=
  pe_imp (pe_lst a) fun σ H Q h vs N H1 e1 q1 => by
    refine ⟨Nat.le_of_lt (small1000 (by rw [q1.length]; exact hz)), fun p hp => ?_⟩
    obtain ⟨x, y, z⟩ := e1.trans (Ext.one (o := .lst vs) hp)
    exact h _ _ _ x (.lst (z _ _ upd_same) (q1.same y))
theorem pl_dnil : PE X (.Dict [] [] pos) (tLit X.K (.dict [])) := pe_imp pe_dnewK fun σ H Q h p hp => h _ _ _ (.one hp) (.dnil upd_same)
end

/-! the deck: a list of two lists of numbers and a number, beside all else (D) that is known of the heap -/
structure Deck (D H : Hp) (a : Addr) : Prop where
  sub : Same D H
  na : D a = none
  ex : ∃ (l0 l1 : Addr) (bs cs : List Int) (n : Int), D l0 = none ∧ D l1 = none ∧ l0 ≠ l1 ∧ H a = some (.lst [.ref l0, .ref l1, .int n]) ∧ H l0 = some (.lst (bs.map V.int)) ∧ H l1 = some (.lst (cs.map V.int)) ∧ cs ≠ [] ∧ cs.length ≤ 1000
section
variable {D H H' N : Hp} {a p : Addr} {o u : HO}
theorem Deck.new (d : Deck D H a) (hp : H p = none) : Deck (upd D p o) (upd H p o) a := by
  obtain ⟨s, na, l0, l1, bs, cs, n, n0, n1, ne, ha, h0, h1, hc, hl⟩ := d
  have pa : a ≠ p := ne_of_none ha hp
  have p0 : l0 ≠ p := ne_of_none h0 hp
  have p1 : l1 ≠ p := ne_of_none h1 hp
  refine ⟨fun b w e => ?_, by rw [upd_ne pa]; exact na, l0, l1, bs, cs, n, by rw [upd_ne p0]; exact n0, by rw [upd_ne p1]; exact n1, ne, by rw [upd_ne pa]; exact ha, by rw [upd_ne p0]; exact h0, by rw [upd_ne p1]; exact h1, hc, hl⟩
  by_cases hb : b = p
  · subst hb; rw [upd_same] at e ⊢; exact e
  · rw [upd_ne hb] at e ⊢; exact s _ _ e
theorem Deck.put (d : Deck D H a) (hp : D p = some u) : Deck (upd D p o) (upd H p o) a := by
  obtain ⟨s, na, l0, l1, bs, cs, n, n0, n1, ne, ha, h0, h1, hc, hl⟩ := d
  have pa : a ≠ p := fun q => by subst q; rw [na] at hp; cases hp
  have p0 : l0 ≠ p := fun q => by subst q; rw [n0] at hp; cases hp
  have p1 : l1 ≠ p := fun q => by subst q; rw [n1] at hp; cases hp
  refine ⟨fun b w e => ?_, by rw [upd_ne pa]; exact na, l0, l1, bs, cs, n, by rw [upd_ne p0]; exact n0, by rw [upd_ne p1]; exact n1, ne, by rw [upd_ne pa]; exact ha, by rw [upd_ne p0]; exact h0, by rw [upd_ne p1]; exact h1, hc, hl⟩
  by_cases hb : b = p
  · subst hb; rw [upd_same] at e ⊢; exact e
  · rw [upd_ne hb] at e ⊢; exact s _ _ e
theorem Deck.ext (d : Deck D H a) (e : Ext N H H') : ∃ D', Deck D' H' a ∧ Same D D' ∧ Same N D' := by
  obtain ⟨s, na, l0, l1, bs, cs, n, n0, n1, ne, ha, h0, h1, hc, hl⟩ := d
  have no : ∀ b w, H b = some w → N b = none := fun b w h => by
    cases q : N b with
    | none => rfl
    | some z => rw [(e.new b z q).2] at h; cases h
  refine ⟨joinH N D, ⟨fun b w h => ?_, by rw [joinH_right (no _ _ ha)]; exact na, l0, l1, bs, cs, n, by rw [joinH_right (no _ _ h0)]; exact n0, by rw [joinH_right (no _ _ h1)]; exact n1, ne, e.same _ _ ha, e.same _ _ h0, e.same _ _ h1, hc, hl⟩, fun b w h => ?_, fun b w h => joinH_left h⟩
  · cases q : N b with
    | some z =>
      rw [joinH_left q] at h
      cases h
      exact e.sub _ _ q
    | none =>
      rw [joinH_right q] at h
      exact e.same _ _ (s _ _ h)
  · rw [joinH_right (no b w (s _ _ h))]; exact h
theorem Deck.less {D0 : Hp} (d : Deck D H a) (s : Same D0 D) : Deck D0 H a := by
  obtain ⟨s', na, l0, l1, bs, cs, n, n0, n1, r⟩ := d
  exact ⟨s.trans s', s.free na, l0, l1, bs, cs, n, s.free n0, s.free n1, r⟩
theorem same_new (hp : D p = none) : Same D (upd D p o) := fun b w e => by rw [upd_ne (ne_of_none e hp)]; exact e
theorem Deck.free (d : Deck D H a) (hp : H p = none) : D p = none := d.sub.free hp
end

/-! the same, no list of it at a place of Z -/
mutual
inductive Dz (K : PySem.W.Frag) (Z : Addr → Prop) (H : Hp) : V → PyData → Prop
  | non : Dz K Z H .non .none
  | bl (b : Bool) : Dz K Z H (.bl b) (.bool b)
  | int (i : Int) : Dz K Z H (.int i) (.int i)
  | str (x : Str) : Dz K Z H (.str x) (.str x)
  | lst {a : Addr} {xs : List V} {ds : List PyData} : H a = some (.lst xs) → ¬ Z a → DzAll K Z H xs ds → Dz K Z H (.ref a) (.list ds)
  | tup {a : Addr} {xs : List V} {ds : List PyData} : H a = some (.tup xs) → DzAll K Z H xs ds → Dz K Z H (.ref a) (.tuple ds)
  | dnil {a : Addr} : H a = some (.dK []) → Dz K Z H (.ref a) (.dict [])
inductive DzAll (K : PySem.W.Frag) (Z : Addr → Prop) (H : Hp) : List V → List PyData → Prop
  | nil : DzAll K Z H [] []
  | cons {v : V} {vs : List V} {d : PyData} {ds : List PyData} : Dz K Z H v d → DzAll K Z H vs ds → DzAll K Z H (v :: vs) (d :: ds)
end
section
variable {K : PySem.W.Frag} {Z Z' : Addr → Prop} {H H' : Hp}
mutual
theorem Dz.q : ∀ {v : V} {d : PyData}, Dz K Z H v d → Dq K H v d
  | _, _, .non => .non
  | _, _, .bl b => .bl b
  | _, _, .int i => .int i
  | _, _, .str x => .str x
  | _, _, .lst h _ t => .lst h (DzAll.q t)
  | _, _, .tup h t => .tup h (DzAll.q t)
  | _, _, .dnil h => .dnil h
theorem DzAll.q : ∀ {vs : List V} {ds : List PyData}, DzAll K Z H vs ds → DqAll K H vs ds
  | _, _, .nil => .nil
  | _, _, .cons h t => .cons (Dz.q h) (DzAll.q t)
end
mutual
theorem Dz.same (e : Same H H') : ∀ {v : V} {d : PyData}, Dz K Z H v d → Dz K Z H' v d
  | _, _, .non => .non
  | _, _, .bl b => .bl b
  | _, _, .int i => .int i
  | _, _, .str x => .str x
  | _, _, .lst h z t => .lst (e _ _ h) z (DzAll.same e t)
  | _, _, .tup h t => .tup (e _ _ h) (DzAll.same e t)
  | _, _, .dnil h => .dnil (e _ _ h)
theorem DzAll.same (e : Same H H') : ∀ {vs : List V} {ds : List PyData}, DzAll K Z H vs ds → DzAll K Z H' vs ds
  | _, _, .nil => .nil
  | _, _, .cons h t => .cons (Dz.same e h) (DzAll.same e t)
end
mutual
theorem Dz.mono (e : ∀ a, Z' a → Z a) : ∀ {v : V} {d : PyData}, Dz K Z H v d → Dz K Z' H v d
  | _, _, .non => .non
  | _, _, .bl b => .bl b
  | _, _, .int i => .int i
  | _, _, .str x => .str x
  | _, _, .lst h z t => .lst h (fun q => z (e _ q)) (DzAll.mono e t)
  | _, _, .tup h t => .tup h (DzAll.mono e t)
  | _, _, .dnil h => .dnil h
theorem DzAll.mono (e : ∀ a, Z' a → Z a) : ∀ {vs : List V} {ds : List PyData}, DzAll K Z H vs ds → DzAll K Z' H vs ds
  | _, _, .nil => .nil
  | _, _, .cons h t => .cons (Dz.mono e h) (DzAll.mono e t)
end
mutual
theorem Dq.z : ∀ {v : V} {d : PyData}, noL d = true → Dq K H v d → Dz K Z H v d
  | _, _, _, .non => .non
  | _, _, _, .bl b => .bl b
  | _, _, _, .int i => .int i
  | _, _, _, .str x => .str x
  | _, _, c, .lst _ _ => by simp [noL] at c
  | _, _, c, .tup h t => .tup h (DqAll.z (by simpa [noL] using c) t)
  | _, _, _, .dnil h => .dnil h
theorem DqAll.z : ∀ {vs : List V} {ds : List PyData}, noLs ds = true → DqAll K H vs ds → DzAll K Z H vs ds
  | _, _, _, .nil => .nil
  | _, _, c, .cons h t => by
    have c' := by simpa [noLs] using c
    exact .cons (Dq.z c'.1 h) (DqAll.z c'.2 t)
end
mutual
theorem Dq.lit (e : ∀ a o, H a = some o → ¬ Z a) : ∀ {v : V} {d : PyData}, Dq K H v d → Dz K Z H v d
  | _, _, .non => .non
  | _, _, .bl b => .bl b
  | _, _, .int i => .int i
  | _, _, .str x => .str x
  | _, _, .lst h t => .lst h (e _ _ h) (DqAll.lit e t)
  | _, _, .tup h t => .tup h (DqAll.lit e t)
  | _, _, .dnil h => .dnil h
theorem DqAll.lit (e : ∀ a o, H a = some o → ¬ Z a) : ∀ {vs : List V} {ds : List PyData}, DqAll K H vs ds → DzAll K Z H vs ds
  | _, _, .nil => .nil
  | _, _, .cons h t => .cons (Dq.lit e h) (DqAll.lit e t)
end
mutual
theorem Dz.putL {C : Addr} {xs : List V} {o : HO} (hC : H C = some (.lst xs)) (zC : Z C) : ∀ {v : V} {d : PyData}, Dz K Z H v d → Dz K Z (upd H C o) v d
  | _, _, .non => .non
  | _, _, .bl b => .bl b
  | _, _, .int i => .int i
  | _, _, .str x => .str x
  | _, _, .lst h z t => .lst (by rw [upd_ne (fun q => by subst q; exact z zC)]; exact h) z (DzAll.putL hC zC t)
  | _, _, .tup h t => .tup (by rw [upd_ne (ne_of h hC (by intro z; cases z))]; exact h) (DzAll.putL hC zC t)
  | _, _, .dnil h => .dnil (by rw [upd_ne (ne_of h hC (by intro z; cases z))]; exact h)
theorem DzAll.putL {C : Addr} {xs : List V} {o : HO} (hC : H C = some (.lst xs)) (zC : Z C) : ∀ {vs : List V} {ds : List PyData}, DzAll K Z H vs ds → DzAll K Z (upd H C o) vs ds
  | _, _, .nil => .nil
  | _, _, .cons h t => .cons (Dz.putL hC zC h) (DzAll.putL hC zC t)
end
theorem DzAll.append : ∀ {vs ws : List V} {ds es : List PyData}, DzAll K Z H vs ds → DzAll K Z H ws es → DzAll K Z H (vs ++ ws) (ds ++ es)
  | _, _, _, _, .nil, h => h
  | _, _, _, _, .cons a t, h => .cons a (DzAll.append t h)
theorem DzAll.mem : ∀ {vs : List V} {ds : List PyData} {x : V}, DzAll K Z H vs ds → x ∈ vs → ∃ d, d ∈ ds ∧ Dz K Z H x d
  | _, _, _, .nil, h => nomatch h
  | _, _, _, .cons a t, h => by
    rcases List.mem_cons.mp h with e | h
    · subst e
      exact ⟨_, List.mem_cons_self, a⟩
    · obtain ⟨d, h1, h2⟩ := DzAll.mem t h
      exact ⟨d, List.mem_cons_of_mem _ h1, h2⟩
theorem DzAll.length : ∀ {vs : List V} {ds : List PyData}, DzAll K Z H vs ds → vs.length = ds.length
  | _, _, .nil => rfl
  | _, _, .cons _ t => by rw [List.length_cons, List.length_cons, DzAll.length t]
end
/-- at the places of a heap -/
abbrev Pl (D : Hp) : Addr → Prop := fun b => D b ≠ none
theorem Same.pl {D D' : Hp} (s : Same D D') : ∀ b, Pl D b → Pl D' b := fun b h z => h (s.free z)
end Nk
set_option Elab.async false
set_option linter.all false
set_option maxRecDepth 100000
set_option maxHeartbeats 4000000
namespace Nk
open PySem L2
/-- the built-ins that the text calls are still the built-ins -/
structure Bl (mg : Str → Option Value) : Prop where
  len_ : mg "len" = none
  int_ : mg "int" = none
  abs_ : mg "abs" = none
  range_ : mg "range" = none
  list_ : mg "list" = none
  tuple_ : mg "tuple" = none
  isinstance_ : mg "isinstance" = none
  bool_ : mg "bool" = none
  str_ : mg "str" = none
  sum_ : mg "sum" = none
  all_ : mg "all" = none
  set_ : mg "set" = none
  repr_ : mg "repr" = none

/-! promises of the helpers -/
def spDeck (K : PySem.W.Frag) : Sp := fun vs H Q _ => ∃ (a : Addr) (ns : List Int), vs = [.ref a] ∧ SqL K H a (ns.map V.int) ∧ ns.length ≤ 63 ∧ ∀ H' p, Same H H' → Deck H H' p → Q (.ref p) H'
def spDraw : Sp := fun vs H Q _ => ∃ (D : Hp) (a : Addr) (m : Int), vs = [.ref a, .int m] ∧ Deck D H a ∧ 0 < m ∧ m < 2 ^ 64 ∧ ∀ H' r, Deck D H' a → 0 ≤ r → r < m → Q (.int r) H'
def spOne : Sp := fun vs H Q _ => ∃ (D : Hp) (a p : Addr) (xs : List V), vs = [.ref a, .ref p] ∧ Deck D H a ∧ D p = some (.lst xs) ∧ xs ≠ [] ∧ xs.length ≤ 1000 ∧ ∀ H' x, Deck D H' a → x ∈ xs → Q x H'

theorem dp_ints {K : PySem.W.Frag} {H : Hp} : ∀ (ns : List Int), DpAll K H (ns.map V.int) (ns.map PyData.int)
  | [] => .nil
  | n :: ns => .cons (.int n) (dp_ints ns)
theorem atI_0 {α : Type} {xs : List α} {x : α} (h : xs[0]? = some x) : atI xs 0 = some x := atI_nat (j := 0) h
theorem atI_1 {α : Type} {xs : List α} {x : α} (h : xs[1]? = some x) : atI xs 1 = some x := atI_nat (j := 1) h
theorem atI_2 {α : Type} {xs : List α} {x : α} (h : xs[2]? = some x) : atI xs 2 = some x := atI_nat (j := 2) h
theorem atI_in {α : Type} {xs : List α} {i : Int} (h0 : 0 ≤ i) (h1 : i < xs.length) : ∃ x, atI xs i = some x ∧ x ∈ xs ∧ xs[i.toNat]? = some x := by
  have hl : i.toNat < xs.length := by omega
  have e : ((i.toNat : Nat) : Int) = i := by omega
  have q : xs[i.toNat]? = some xs[i.toNat] := List.getElem?_eq_getElem hl
  refine ⟨xs[i.toNat], ?_, List.getElem_mem hl, q⟩
  have := atI_nat (xs := xs) (j := i.toNat) q
  rw [e] at this
  exact this
theorem lay_ints : ∀ (ns : List Int), PyData.canLayAll0 (ns.map PyData.int) = true
  | [] => by simp [PyData.canLayAll0]
  | n :: ns => by simp [PyData.canLayAll0, PyData.canLay0, lay_ints ns]
theorem depth_ints : ∀ (ns : List Int), PyData.depthAll (ns.map PyData.int) = 0
  | [] => by simp [PyData.depthAll]
  | n :: ns => by simp [PyData.depthAll, PyData.depth, depth_ints ns]
mutual
theorem Dq.dp {K : PySem.W.Frag} {H : Hp} : ∀ {v : V} {d : PyData}, d.canLay0 = true → Dq K H v d → Dp K H v d
  | _, _, _, .non => .non
  | _, _, _, .bl b => .bl b
  | _, _, _, .int i => .int i
  | _, _, _, .str x => .str x
  | _, _, c, .lst h t => .lst (SqL.of h) (DqAll.dp (by simpa [PyData.canLay0] using c) t)
  | _, _, c, .tup h t => .tup (SqT.of h) (DqAll.dp (by simpa [PyData.canLay0] using c) t)
  | _, _, c, .dnil h => by simp [PyData.canLay0] at c
theorem DqAll.dp {K : PySem.W.Frag} {H : Hp} : ∀ {vs : List V} {ds : List PyData}, PyData.canLayAll0 ds = true → DqAll K H vs ds → DpAll K H vs ds
  | _, _, _, .nil => .nil
  | _, _, c, .cons h t => by
    have c' := by simpa [PyData.canLayAll0] using c
    exact .cons (Dq.dp c'.1 h) (DqAll.dp c'.2 t)
end
theorem eqv_nil_list (ds : List PyData) : PyData.eqv (.list ds) (.list []) = ds.isEmpty := by
  cases ds <;> simp [PyData.eqv, PyData.eqvAll]
theorem eqv_nil_tup (ds : List PyData) : PyData.eqv (.tuple ds) (.tuple []) = ds.isEmpty := by
  cases ds <;> simp [PyData.eqv, PyData.eqvAll]
theorem shaped_of {d : PyData} (c : d.canLay0 = true) (h : d.depth ≤ 64) : SeqAt.shaped d = true := by
  unfold SeqAt.shaped
  rw [c, decide_eq_true h]
  rfl
section
variable {K : PySem.W.Frag} {H : Hp} {Q : VK} {p a : Addr} {xs : List V} {ds : List PyData}
theorem ne_nilL (ha : H a = some (.lst xs)) (hx : DqAll K H xs ds) (c : PyData.canLayAll0 ds = true) (dp : PyData.depthAll ds ≤ 50) (hp : H p = some (.lst [])) (q : Q (.bl (!xs.isEmpty)) H) : rNeD K (.ref a) (.ref p) H Q := by
  have e : xs.isEmpty = ds.isEmpty := by
    have := hx.length
    cases xs <;> cases ds <;> first | rfl | simp at this
  refine ⟨.list ds, .list [], Dq.dp (by simpa [PyData.canLay0] using c) (.lst ha hx), .lst (SqL.of hp) .nil, shaped_of (by simpa [PyData.canLay0] using c) (by simp only [PyData.depth]; omega), by decide +kernel, ?_⟩
  rw [eqv_nil_list, ← e]
  exact q
theorem eq_nilL (ha : H a = some (.lst xs)) (hx : DqAll K H xs ds) (c : PyData.canLayAll0 ds = true) (dp : PyData.depthAll ds ≤ 50) (hp : H p = some (.lst [])) (q : Q (.bl xs.isEmpty) H) : rEqD K (.ref a) (.ref p) H Q := by
  have e : xs.isEmpty = ds.isEmpty := by
    have := hx.length
    cases xs <;> cases ds <;> first | rfl | simp at this
  refine ⟨.list ds, .list [], Dq.dp (by simpa [PyData.canLay0] using c) (.lst ha hx), .lst (SqL.of hp) .nil, shaped_of (by simpa [PyData.canLay0] using c) (by simp only [PyData.depth]; omega), by decide +kernel, ?_⟩
  rw [eqv_nil_list, ← e]
  exact q
theorem ne_nilT (ha : H a = some (.tup xs)) (hx : DqAll K H xs ds) (c : PyData.canLayAll0 ds = true) (dp : PyData.depthAll ds ≤ 50) (hp : H p = some (.tup [])) (q : Q (.bl (!xs.isEmpty)) H) : rNeD K (.ref a) (.ref p) H Q := by
  have e : xs.isEmpty = ds.isEmpty := by
    have := hx.length
    cases xs <;> cases ds <;> first | rfl | simp at this
  refine ⟨.tuple ds, .tuple [], Dq.dp (by simpa [PyData.canLay0] using c) (.tup ha hx), .tup (SqT.of hp) .nil, shaped_of (by simpa [PyData.canLay0] using c) (by simp only [PyData.depth]; omega), by decide +kernel, ?_⟩
  rw [eqv_nil_tup, ← e]
  exact q
end
end Nk
set_option Elab.async false
set_option linter.all false
set_option maxRecDepth 100000
set_option maxHeartbeats 4000000
namespace Nk
open PySem L2
/-! the rules with the written part named, for a comprehension's block too -/
section
variable {X : Cx} (K : PySem.W.Frag)
theorem kixL (hK : X.K = K := by rfl) : IxR X (rIxL K) := by subst hK; exact ix_list
theorem kixT (hK : X.K = K := by rfl) : IxR X (rIxT K) := by subst hK; exact ix_tup
theorem kslL (hK : X.K = K := by rfl) : SlR X (rSlL K) := by subst hK; exact sl_list
theorem kslT (hK : X.K = K := by rfl) : SlR X (rSlA K) := by subst hK; exact sl_tupA
theorem kisi (hK : X.K = K := by rfl) : CallR X (.builtin "isinstance") (rIsi K) := by subst hK; exact call_isi
theorem ksum (hK : X.K = K := by rfl) (hc : X.calm = true := by rfl) : CallR X (.builtin "sum") (rSum K) := by subst hK; exact cr_sum hc
theorem kall (hK : X.K = K := by rfl) (hc : X.calm = true := by rfl) : CallR X (.builtin "all") (rAll K) := by subst hK; exact cr_all hc
theorem kany (hK : X.K = K := by rfl) (hc : X.calm = true := by rfl) : CallR X (.builtin "any") (rAny K) := by subst hK; exact cr_any hc
theorem kneD (hu : X.A.units + 64 < cLine) (hK : X.K = K := by rfl) : OpR X (compareOp .NotEq) (rNeD K) := by subst hK; exact op_neD hu
theorem keqD (hu : X.A.units + 64 < cLine) (hK : X.K = K := by rfl) : OpR X (compareOp .Eq) (rEqD K) := by subst hK; exact op_eqD hu
theorem kin (hK : X.K = K := by rfl) : OpR X (compareOp .In) (rIn K false) := by subst hK; exact op_in_seq
theorem knin (hK : X.K = K := by rfl) : OpR X (compareOp .NotIn) (rIn K true) := by subst hK; exact op_notIn_seq
theorem kcatT (hK : X.K = K := by rfl) : OpR X (binaryOp .Add) (rCatA K) := by subst hK; exact op_catA
theorem krepT (hK : X.K = K := by rfl) : OpR X (binaryOp .Mult) (rRepT K) := by subst hK; exact op_repT
theorem klist (hK : X.K = K := by rfl) : CallR X (.type "list") (fun xs H Q => ∃ p ys, xs = [.ref p] ∧ (SqL K H p ys ∨ SqT K H p ys) ∧ ∀ l, H l = none → Q (.ref l) (upd H l (.lst ys))) := by subst hK; exact call_list_of
theorem ktuple (hK : X.K = K := by rfl) : CallR X (.type "tuple") (fun xs H Q => ∃ p ys, xs = [.ref p] ∧ ((SqL K H p ys ∧ ∀ l, H l = none → Q (.ref l) (upd H l (.tup ys))) ∨ (SqT K H p ys ∧ Q (.ref p) H))) := by subst hK; exact call_tuple_of
theorem klen (hK : X.K = K := by rfl) : CallR X (.builtin "len") (fun xs H Q => ∃ p ys, xs = [.ref p] ∧ (SqL K H p ys ∨ SqT K H p ys) ∧ Q (.int (ys.length : Nat)) H) := by subst hK; exact call_len_seq
theorem krepr (hg : X.A.guards = some []) (hu : X.A.units + 64 < cLine) (hK : X.K = K := by rfl) : CallR X (.builtin "repr") (rRepr K) := by subst hK; exact call_reprD hg hu
theorem kpiL {tg l : Expr} {tl : TE} (h : PE X l tl) (hK : X.K = K := by rfl) : PI X tg l (iList K tl) := by subst hK; exact pi_list h
theorem kpiT {tg l : Expr} {tl : TE} (h : PE X l tl) (hK : X.K = K := by rfl) : PI X tg l (iTup K tl) := by subst hK; exact pi_tup h
theorem klenSetT {a : Expr} {ta : TE} {p p2 q pos : Pos} (hg : Gl X "len") (hm : X.mg "len" = none) (hg2 : Gl X "set") (hm2 : X.mg "set" = none) (ha : PE X a ta) (hc : X.calm = true := by rfl)
    (na : starEach [a] X.env = (false, eval a X.env) :: starEach [] X.env := by rfl) (hK : X.K = K := by rfl) : PE X (.Call (.Name "len" p) [.Call (.Name "set" p2) [a] [] q] [] pos) (tLenSetT K ta) := by subst hK; exact pe_lenSetT hg hm hg2 hm2 ha hc na
end
end Nk
set_option Elab.async false
set_option linter.all false
set_option maxRecDepth 100000
set_option maxHeartbeats 4000000
namespace Nk
open PySem PySem.Spec PyProof.Rows L2
/-! t[::-1] -/
theorem range_all {α : Type} : ∀ l : List α, (List.range l.length).filterMap (fun k => l[k]?) = l
  | [] => rfl
  | a :: l => by
    rw [List.length_cons, List.range_succ_eq_map, List.filterMap_cons, List.filterMap_map]
    show a :: (List.range l.length).filterMap (fun k => l[k]?) = a :: l
    rw [range_all l]
theorem fmap_congr {α β : Type} {f g : α → Option β} : ∀ {l : List α}, (∀ x ∈ l, f x = g x) → l.filterMap f = l.filterMap g
  | [], _ => rfl
  | a :: l, h => by
    rw [List.filterMap_cons, List.filterMap_cons, h a List.mem_cons_self, fmap_congr fun x hx => h x (List.mem_cons_of_mem _ hx)]
theorem back_all (xs : Array Value) : ((List.range xs.size).filterMap fun (k : Nat) => xs[(((xs.size : Nat) : Int) - 1 + (k : Int) * -1).toNat]?).toArray = xs.toList.reverse.toArray := by
  have e1 : (List.range xs.size).filterMap (fun (k : Nat) => xs[(((xs.size : Nat) : Int) - 1 + (k : Int) * -1).toNat]?) = (List.range xs.size).filterMap (fun k => xs.toList.reverse[k]?) := by
    refine fmap_congr fun k hk => ?_
    have hk := List.mem_range.mp hk
    rw [List.getElem?_reverse (by simpa using hk), Array.length_toList, Array.getElem?_toList]
    have : (((xs.size : Nat) : Int) - 1 + (k : Int) * -1).toNat = xs.size - 1 - k := by omega
    rw [this]
  have e2 := range_all xs.toList.reverse
  rw [List.length_reverse, Array.length_toList] at e2
  rw [e1, e2]
section
variable {prog : Program} {w : World} {A : Around} {E : Value → Shared → Prop} {s : Shared}
theorem applied_back {sl : Addr} {vl vu vs : Value} {n : Nat} {Q : Int × Int × Nat → Shared → Prop} (hs : s.heap.IsSliceOf sl vl vu vs) (pl : IsPart vl none) (pu : IsPart vu none) (ps : IsPart vs (some (-1)))
    (h : Q ((n : Int) - 1, -1, n) s) : wpAny (model prog w) A (Builtin.Slice.sliceApplied (.ref sl) (pure (n : Int))) Q E s := by
  obtain ⟨ob, hob, hcl, hdt⟩ := id hs
  unfold Builtin.Slice.sliceApplied Builtin.Slice.sliceFields
  refine wpAny_bind (wpAny_bind (wpAny_field hob hdt (x := vl) rfl (wpAny_bind (wpAny_field hob hdt (x := vu) rfl (wpAny_bind (wpAny_field hob hdt (x := vs) rfl (wpAny_pure ?_)))))))
  refine wpAny_bind (HT.slicePart_ ps ?_)
  show wpAny _ _ (if ((-1 : Int) == 0) = true then _ else _) _ _ s
  rw [if_neg (by decide)]
  refine wpAny_bind (HT.slicePart_ pl (wpAny_bind (HT.slicePart_ pu (wpAny_bind (wpAny_pure ?_)))))
  have e1 : Builtin.Slice.sliceAdjust none none (-1) (n : Int) = ((n : Int) - 1, -1) := by
    simp [Builtin.Slice.sliceAdjust]
  have e2 : Builtin.Slice.slicePlaces ((n : Int) - 1) (-1) (-1) = n := by
    unfold Builtin.Slice.slicePlaces
    simp
    omega
  show wpAny _ _ (match Builtin.Slice.sliceAdjust none none (-1) (n : Int) with | (x, y) => pure (x, (-1 : Int), Builtin.Slice.slicePlaces x y (-1))) _ _ s
  rw [e1]
  show wpAny _ _ (pure ((n : Int) - 1, (-1 : Int), Builtin.Slice.slicePlaces ((n : Int) - 1) (-1) (-1))) _ _ s
  rw [e2]
  exact wpAny_pure h
theorem item_back {t sl : Addr} {items : Array Value} {vl vu vs : Value} {Q : Value → Shared → Prop} (hT : IsTup s.heap t items) (hs : s.heap.IsSliceOf sl vl vu vs) (pl : IsPart vl none) (pu : IsPart vu none) (ps : IsPart vs (some (-1)))
    (h : Q (.ref s.heap.objs.size) { s with heap := s.heap.push { cls := .type "tuple", data := .seq items.toList.reverse.toArray } }) (hz : items.size ≤ sizeLine) : wpAny (model prog w) A (getItem (.ref t) (.ref sl)) Q E s := by
  have hfit : sizeOk (.seq items.toList.reverse.toArray) := by
    show items.toList.reverse.toArray.size ≤ sizeLine
    simpa using hz
  obtain ⟨ob, hob, hcl, hdt⟩ := id hs
  have hTs : s.TypeIs (.ref sl) "slice" := ⟨ob, hob, hcl⟩
  unfold getItem
  first
    | with_reducible refine wpAny_holding ?_
    | skip
  first
    | refine wpAny_bind (wpAny_pure ?_)
    | skip
  refine wpAny_bind (wpAny_sequenceKey hT.typeIs (by decide) ?_)
  refine wpAny_bind (wpAny_callSpecial?_slot (name := Str.ofString "__getitem__") hT.typeIs PyProof.Rows.slot_tuple_getitem (wpAny_call_entry PyProof.Rows.slot_tuple_getitem hT.typeIs entry_tuple_getitem ?_ (args_tuple_getitem _ _)))
  show wpAny _ _ (Builtin.Tuple.tupleItemsOf (.ref t) >>= _) _ _ s
  refine wpAny_bind (tupleItemsOf_ hT ?_)
  refine wpAny_bind (wpAny_typeOf hTs ?_)
  rw [if_pos (by decide)]
  refine wpAny_bind (applied_back hs pl pu ps ?_)
  show wpAny _ _ (if (((items.size : Nat) : Int) - 1 == 0 && (-1 : Int) == 1 && items.size == items.size) = true then _ else _) _ _ s
  rw [if_neg (by simp), back_all]
  first
    | exact wpAny_bind (m := Builtin.Tuple.tupleExact _) (wpAny_newObj_type (wpAny_pure ⟨_, rfl, wpAny_pure h⟩) hfit)
    | exact wpAny_bind (m := Builtin.Tuple.tupleExact _) (wpAny_newObj_type (wpAny_bind (wpAny_pure (wpAny_pure ⟨_, rfl, wpAny_pure h⟩))) hfit)
    | exact wpAny_bind (wpAny_bind (m := Builtin.Tuple.tupleExact _) (wpAny_newObj_type (wpAny_pure (wpAny_pure ⟨_, rfl, wpAny_pure h⟩)) hfit))
    | exact wpAny_bind (wpAny_bind (m := Builtin.Tuple.tupleExact _) (wpAny_newObj_type (wpAny_pure ⟨_, rfl, wpAny_pure h⟩) hfit))
end
def tRevT (K : PySem.W.Frag) (te : TE) : TE := fun σ H Q => te σ H fun x H1 => ∃ a xs, x = .ref a ∧ SqT K H1 a xs ∧ ∀ p, H1 p = none → Q (.ref p) (upd H1 p (.tup xs.reverse))
theorem pe_revT {X : Cx} (K : PySem.W.Frag) {e : Expr} {te : TE} {k : Nat} {p1 p2 p3 pos : Pos} (he : PE X e te) (hK : X.K = K := by rfl) : PE X (.Subscript e (.Slice none none (some (.UnaryOp .USub (.Constant (.int 1) k p1) p2)) p3) pos) (tRevT K te) := by
  subst hK
  refine ⟨fun pins s σ H Q I h => ?_⟩
  refine Subscript_ (thn (he.run pins s σ H _ I h) fun v s1 ⟨x, H1, I1, r1, a, xs, ex, hx, q⟩ => ?_)
  subst ex
  cases r1
  have hb : PO X (some (.UnaryOp .USub (.Constant (.int 1) k p1) p2)) (tPart (tUn (rU fun i => .int (-i)) (tC (.int 1)))) := po_some (pe_un un_neg pe_int)
  refine wpAny_Slice (thn (po_none.run pins s1 σ H1 (fun o H2 => o = none ∧ H2 = H1) I1 ⟨rfl, rfl⟩) fun vl s2 ⟨o1, H2, I2, ql, c1, c2⟩ => ?_)
  subst c1 c2
  refine thn (po_none.run pins s2 σ H2 (fun o H3 => o = none ∧ H3 = H2) I2 ⟨rfl, rfl⟩) fun vu s3 ⟨o2, H3, I3, qu, c1, c2⟩ => ?_
  subst c1 c2
  refine thn (hb.run pins s3 σ H3 (fun o H4 => o = some (-1) ∧ H4 = H3) I3 ⟨1, rfl, -1, rfl, rfl, rfl⟩) fun vs s4 ⟨o3, H4, I4, qs, c1, c2⟩ => ?_
  subst c1 c2
  have I5 : Inv X pins σ H4 { s4 with heap := s4.heap.push { cls := .type "slice", data := .fields #[vl, vu, vs] } } := I4.kept (t' := s4.toks) fun b ob z => Heap.get?_push_of_some _ z
  obtain ⟨its, rv, hT, hz⟩ := I5.tuple hx
  have hlen := rv.length
  show wpAny (model X.prog X.w) X.A (subscriptTail e (.Slice none none (some (.UnaryOp .USub (.Constant (.int 1) k p1) p2)) p3) (.ref a) (.ref s4.heap.objs.size)) (EP X pins σ Q) X.xe { s4 with heap := s4.heap.push { cls := .type "slice", data := .fields #[vl, vu, vs] } }
  refine tail_any (ops := [.ref a, .ref s4.heap.objs.size]) hT.typeIs (PyProof.Rows.slot_tuple_getitem.lookup) ?_ (by with_unfolding_all rfl)
  refine item_back hT (Heap.IsSliceOf.new _ vl vu vs) ql qu qs ?_ (by rw [List.size_toArray]; omega)
  refine ⟨.ref _, _, I5.laid (t' := s4.toks) (o := .tup xs.reverse) (fun b ob z => Heap.get?_push_of_some _ z) (Nat.le_refl _) ?_, rfl, q _ (I5.hok.fresh (Nat.le_refl _))⟩
  refine ⟨by rw [List.length_reverse]; exact hz, its.reverse, rv.reverse, ⟨_, Heap.get?_push_size _ rfl, rfl, _, rfl⟩⟩
end Nk
set_option Elab.async false
set_option linter.all false
set_option maxRecDepth 100000
set_option maxHeartbeats 4000000
namespace Nk
open PySem L2
/-! how large data are -/
structure Fit (n m : Nat) (d : PyData) : Prop where
  sh : d.showable = true
  lf : d.leavesShort 40 = true
  wt : d.weight ≤ n
  dp : d.depth ≤ m
structure Fits (n m : Nat) (ds : List PyData) : Prop where
  sh : PyData.showableAll ds = true
  lf : PyData.leavesShortAll 40 ds = true
  wt : PyData.weightAll ds ≤ n
  dp : PyData.depthAll ds ≤ m
section
variable {n m n' m' : Nat} {d : PyData} {ds es : List PyData}
theorem Fit.mono (f : Fit n m d) (h : n ≤ n') (g : m ≤ m') : Fit n' m' d := ⟨f.sh, f.lf, Nat.le_trans f.wt h, Nat.le_trans f.dp g⟩
theorem Fits.mono (f : Fits n m ds) (h : n ≤ n') (g : m ≤ m') : Fits n' m' ds := ⟨f.sh, f.lf, Nat.le_trans f.wt h, Nat.le_trans f.dp g⟩
theorem Fits.tup (f : Fits n m ds) : Fit n (m + 1) (.tuple ds) := ⟨by simpa [PyData.showable] using f.sh, by simpa [PyData.leavesShort] using f.lf, by simpa [PyData.weight] using f.wt, by simpa [PyData.depth] using f.dp⟩
theorem Fits.lst (f : Fits n m ds) : Fit n (m + 1) (.list ds) := ⟨by simpa [PyData.showable] using f.sh, by simpa [PyData.leavesShort] using f.lf, by simpa [PyData.weight] using f.wt, by simpa [PyData.depth] using f.dp⟩
theorem Fit.items (f : Fit n m (.tuple ds)) : Fits n (m - 1) ds ∧ 1 ≤ m := by
  have h := f.dp
  simp only [PyData.depth] at h
  exact ⟨⟨by simpa [PyData.showable] using f.sh, by simpa [PyData.leavesShort] using f.lf, by simpa [PyData.weight] using f.wt, by omega⟩, by omega⟩
theorem Fits.nil : Fits 0 0 [] := ⟨by simp [PyData.showableAll], by simp [PyData.leavesShortAll], by simp [PyData.weightAll], by simp [PyData.depthAll]⟩
theorem Fits.cons (f : Fit n m d) (g : Fits n' m' ds) : Fits (n + 1 + n') (max m m') (d :: ds) := by
  refine ⟨by simp [PyData.showableAll, f.sh, g.sh], by simp [PyData.leavesShortAll, f.lf, g.lf], ?_, ?_⟩
  · have h1 := f.wt
    have h2 := g.wt
    simp only [PyData.weightAll]
    omega
  · have h1 := f.dp
    have h2 := g.dp
    simp only [PyData.depthAll]
    omega
theorem Fits.uncons (f : Fits n m (d :: ds)) : ∃ a b, a + 1 + b ≤ n ∧ Fit a m d ∧ Fits b m ds := by
  obtain ⟨s, l, w, p⟩ := f
  simp only [PyData.showableAll, PyData.leavesShortAll, PyData.weightAll, PyData.depthAll, Bool.and_eq_true] at s l w p
  exact ⟨d.weight, PyData.weightAll ds, w, ⟨s.1, l.1, Nat.le_refl _, by omega⟩, ⟨s.2, l.2, Nat.le_refl _, by omega⟩⟩
theorem Fits.append : ∀ {n m n' m' : Nat} {ds es : List PyData}, Fits n m ds → Fits n' m' es → Fits (n + n') (max m m') (ds ++ es)
  | n, m, n', m', [], es, _, g => g.mono (by omega) (by omega)
  | n, m, n', m', d :: ds, es, f, g => by
    obtain ⟨a, b, h, fa, fb⟩ := f.uncons
    have ih := fb.append g
    exact (Fits.cons fa ih).mono (by omega) (by omega)
theorem Fits.split : ∀ {n m : Nat} {ds es : List PyData}, Fits n m (ds ++ es) → ∃ a b, a + b ≤ n ∧ Fits a m ds ∧ Fits b m es
  | n, m, [], es, f => ⟨0, n, by omega, Fits.nil.mono (Nat.le_refl _) (Nat.zero_le _), f⟩
  | n, m, d :: ds, es, f => by
    obtain ⟨a, b, h, fa, fb⟩ := Fits.uncons (d := d) (ds := ds ++ es) f
    obtain ⟨x, y, h2, fx, fy⟩ := fb.split
    exact ⟨a + 1 + x, y, by omega, (Fits.cons fa fx).mono (Nat.le_refl _) (by omega), fy⟩
theorem Fits.take (f : Fits n m ds) (k : Nat) : Fits n m (ds.take k) := by
  have h := f
  rw [← List.take_append_drop k ds] at h
  obtain ⟨a, b, h, fa, _⟩ := h.split
  exact fa.mono (by omega) (Nat.le_refl _)
theorem Fits.drop (f : Fits n m ds) (k : Nat) : Fits n m (ds.drop k) := by
  have h := f
  rw [← List.take_append_drop k ds] at h
  obtain ⟨a, b, h, _, fb⟩ := h.split
  exact fb.mono (by omega) (Nat.le_refl _)
theorem Fits.reverse : ∀ {n m : Nat} {ds : List PyData}, Fits n m ds → Fits n m ds.reverse
  | n, m, [], f => f
  | n, m, d :: ds, f => by
    obtain ⟨a, b, h, fa, fb⟩ := f.uncons
    rw [List.reverse_cons]
    exact (fb.reverse.append (Fits.cons fa Fits.nil)).mono (by omega) (by omega)
theorem Fits.mem : ∀ {n m : Nat} {ds : List PyData} {d : PyData}, Fits n m ds → d ∈ ds → Fit n m d
  | n, m, e :: ds, d, f, h => by
    obtain ⟨a, b, hab, fa, fb⟩ := f.uncons
    rcases List.mem_cons.mp h with rfl | h
    · exact fa.mono (by omega) (Nat.le_refl _)
    · exact (fb.mem h).mono (by omega) (Nat.le_refl _)
theorem Fits.length : ∀ {n m : Nat} {ds : List PyData}, Fits n m ds → ds.length ≤ n
  | n, m, [], _ => Nat.zero_le _
  | n, m, d :: ds, f => by
    obtain ⟨a, b, h, _, fb⟩ := f.uncons
    have := fb.length
    rw [List.length_cons]
    omega
theorem int_short {i : Int} (h0 : -(10 ^ 38) < i) (h1 : i < 10 ^ 38) : (PyData.shown (.int i)).length ≤ 40 := by
  show (Str.ofString (toString i)).length ≤ 40
  by_cases h : 0 ≤ i
  · have := PyProof.Rows.toString_length_le (v := i) h (k := 38) (by decide) h1
    omega
  · have e := PyProof.Rows.len_text_negI (n := i) (by omega)
    have := PyProof.Rows.toString_length_le (v := 0 - i) (by omega) (k := 38) (by decide) (by omega)
    omega
theorem Fit.int {i : Int} (h0 : -(10 ^ 7) ≤ i) (h1 : i ≤ 10 ^ 7) : Fit 25 0 (.int i) := by
  have hn : i.natAbs < 2 ^ 24 := by omega
  have hl : i.natAbs.log2 < 24 := by
    by_cases h : i.natAbs = 0
    · rw [h]; decide
    · exact (Nat.log2_lt h).mpr hn
  refine ⟨by simp only [PyData.showable, decide_eq_true_eq]; omega, by simp only [PyData.leavesShort, decide_eq_true_eq]; exact int_short (by omega) (by omega), ?_, by simp [PyData.depth]⟩
  simp only [PyData.weight]
  split <;> omega
theorem Fit.bool (b : Bool) : Fit 0 0 (.bool b) := ⟨by simp [PyData.showable], by simp [PyData.leavesShort], by simp [PyData.weight], by simp [PyData.depth]⟩
theorem Fit.none : Fit 0 0 .none := ⟨by simp [PyData.showable], by simp [PyData.leavesShort], by simp [PyData.weight], by simp [PyData.depth]⟩
theorem codes_small (x : String) : ∀ c ∈ (Str.ofString x).cps.toList, c < 16 ^ 8 := by
  intro c hc
  rw [PyProof.Rows.signs_ofString] at hc
  obtain ⟨ch, _, rfl⟩ := List.mem_map.mp hc
  have := ch.val.toNat_lt
  show ch.val.toNat < 16 ^ 8
  omega
theorem Fit.text {i : Int} (h0 : -(10 ^ 38) < i) (h1 : i < 10 ^ 38) : Fit 40 0 (.str (Str.ofString (toString i))) := by
  refine ⟨by simp [PyData.showable], ?_, ?_, by simp [PyData.depth]⟩
  · simp only [PyData.leavesShort, List.all_eq_true, decide_eq_true_eq]
    exact codes_small _
  · simp only [PyData.weight]
    exact int_short h0 h1
theorem Fits.ints : ∀ {ns : List Int}, (∀ x ∈ ns, -(10 ^ 7) ≤ x ∧ x ≤ 10 ^ 7) → Fits (26 * ns.length) 0 (ns.map .int)
  | [], _ => Fits.nil
  | x :: ns, h => by
    have h1 := h x List.mem_cons_self
    have ih := Fits.ints (ns := ns) fun y hy => h y (List.mem_cons_of_mem _ hy)
    exact (Fits.cons (Fit.int h1.1 h1.2) ih).mono (by rw [List.length_cons]; omega) (by omega)
theorem Fit.show (f : Fit n m d) (h : n ≤ 300000) : d.shown.length ≤ sizeLine := by
  have := PyData.shown_le 40 (by decide) d f.lf
  have hw := f.wt
  have h2 : 42 * d.weight ≤ 42 * 300000 := Nat.mul_le_mul_left _ (by omega)
  have : d.shown.length ≤ 42 * d.weight + 40 := this
  rw [sizeLine_eq]
  omega
end
/-! plain data: integers and tuples of such -/
mutual
def plain : PyData → Bool
  | .int i => decide (-(10 ^ 7) ≤ i) && decide (i ≤ 10 ^ 7)
  | .tuple xs => plains xs
  | _ => false
def plains : List PyData → Bool
  | [] => true
  | x :: xs => plain x && plains xs
end
mutual
theorem plain_lay : ∀ {d : PyData}, plain d = true → d.canLay0 = true
  | .int _, _ => by simp [PyData.canLay0]
  | .tuple xs, h => by
    simp only [PyData.canLay0]
    exact plains_lay (by simpa [plain] using h)
  | .none, h => by simp [plain] at h
  | .bool _, h => by simp [plain] at h
  | .str _, h => by simp [plain] at h
  | .list _, h => by simp [plain] at h
  | .dict _, h => by simp [plain] at h
theorem plains_lay : ∀ {ds : List PyData}, plains ds = true → PyData.canLayAll0 ds = true
  | [], _ => by simp [PyData.canLayAll0]
  | d :: ds, h => by
    have h' := by simpa [plains] using h
    simp [PyData.canLayAll0, plain_lay h'.1, plains_lay h'.2]
end
theorem plains_get {ds : List PyData} (h : plains ds = true) : ∀ d ∈ ds, plain d = true := by
  induction ds with
  | nil => intro d hd; cases hd
  | cons e ds ih =>
    intro d hd
    have h' : plain e = true ∧ plains ds = true := by simpa [plains] using h
    rcases List.mem_cons.mp hd with rfl | hd
    · exact h'.1
    · exact ih h'.2 d hd
theorem plains_ints : ∀ {ns : List Int}, (∀ x ∈ ns, -(10 ^ 7) ≤ x ∧ x ≤ 10 ^ 7) → plains (ns.map .int) = true
  | [], _ => by simp [plains]
  | x :: ns, h => by
    have h1 := h x List.mem_cons_self
    have ih := plains_ints (ns := ns) fun y hy => h y (List.mem_cons_of_mem _ hy)
    simp only [List.map_cons, plains, plain, ih, Bool.and_true, Bool.and_eq_true, decide_eq_true_eq]
    exact h1
theorem noLs_append : ∀ {a b : List PyData}, noLs (a ++ b) = (noLs a && noLs b)
  | [], b => by simp [noLs]
  | x :: a, b => by
    show (noL x && noLs (a ++ b)) = ((noL x && noLs a) && noLs b)
    rw [noLs_append, Bool.and_assoc]
theorem hasDs_append : ∀ {a b : List PyData}, PyData.hasDictAll (a ++ b) = (PyData.hasDictAll a || PyData.hasDictAll b)
  | [], b => by simp [PyData.hasDictAll]
  | x :: a, b => by
    show (x.hasDict || PyData.hasDictAll (a ++ b)) = ((x.hasDict || PyData.hasDictAll a) || PyData.hasDictAll b)
    rw [hasDs_append, Bool.or_assoc]
mutual
theorem plain_no : ∀ {d : PyData}, plain d = true → d.hasDict = false ∧ noL d = true
  | .int _, _ => by simp [PyData.hasDict, noL]
  | .tuple xs, h => by
    have := plains_no (ds := xs) (by simpa [plain] using h)
    simpa [PyData.hasDict, noL] using this
  | .none, h => by simp [plain] at h
  | .bool _, h => by simp [plain] at h
  | .str _, h => by simp [plain] at h
  | .list _, h => by simp [plain] at h
  | .dict _, h => by simp [plain] at h
theorem plains_no : ∀ {ds : List PyData}, plains ds = true → PyData.hasDictAll ds = false ∧ noLs ds = true
  | [], _ => by simp [PyData.hasDictAll, noLs]
  | d :: ds, h => by
    have h' : plain d = true ∧ plains ds = true := by simpa [plains] using h
    have h1 := plain_no h'.1
    have h2 := plains_no h'.2
    simp [PyData.hasDictAll, noLs, h1.1, h1.2, h2.1, h2.2]
end
theorem Uno.noD {d : PyData} (h : d.hasDict = false) : Uno d := fun z => by rw [h] at z; cases z
theorem Uno.plainL {ds : List PyData} (h : plains ds = true) : Uno (.list ds) := .noD (by simp only [PyData.hasDict]; exact (plains_no h).1)
theorem Uno.plainT {ds : List PyData} (h : plains ds = true) : Uno (.tuple ds) := .noD (by simp only [PyData.hasDict]; exact (plains_no h).1)
theorem Uno.mid {a b : List PyData} {x : PyData} (ha : plains a = true) (hx : Uno x) (hb : plains b = true) : Uno (.tuple (a ++ [x] ++ b)) := fun z => by
  have h1 := plains_no ha
  have h2 := plains_no hb
  simp only [PyData.hasDict, hasDs_append, PyData.hasDictAll, h1.1, h2.1, Bool.or_false, Bool.false_or] at z
  simp only [noL, noLs_append, noLs, h1.2, h2.2, hx z, Bool.and_true]
theorem plains_append : ∀ {a b : List PyData}, plains (a ++ b) = (plains a && plains b)
  | [], b => by simp [plains]
  | x :: a, b => by
    show (plain x && plains (a ++ b)) = ((plain x && plains a) && plains b)
    rw [plains_append, Bool.and_assoc]
theorem plains_take {ds : List PyData} (h : plains ds = true) (k : Nat) : plains (ds.take k) = true := by
  have e := List.take_append_drop k ds
  rw [← e, plains_append, Bool.and_eq_true] at h
  exact h.1
theorem plains_drop {ds : List PyData} (h : plains ds = true) (k : Nat) : plains (ds.drop k) = true := by
  have e := List.take_append_drop k ds
  rw [← e, plains_append, Bool.and_eq_true] at h
  exact h.2
theorem plains_rev {ds : List PyData} (h : plains ds = true) : plains ds.reverse = true := by
  induction ds with
  | nil => rfl
  | cons d ds ih =>
    have h' : plain d = true ∧ plains ds = true := by simpa [plains] using h
    rw [List.reverse_cons, plains_append, ih h'.2]
    simp [plains, h'.1]
end Nk
set_option Elab.async false
set_option linter.all false
set_option maxRecDepth 100000
set_option maxHeartbeats 4000000
namespace Nk
open PySem PySem.Spec PyProof.Rows L2
/-! t * n, n any small number -/
theorem mul_same (l : Addr) (items : Array Value) (n : Nat) (dd : Option Addr) (sl : Array (Option Value)) (x : Int) (u : Tok) (c0 : (decide (x < -(2 ^ 63)) || decide (x ≥ 2 ^ 63)) = false) (c1 : (items.isEmpty || x == 1) = true) :
    Meets (Builtin.«tuple.__mul__» ⟨[.ref l, .int x u], []⟩) (fun _ R s => s.heap.get? l = some { cls := .type "tuple", dict := dd, data := .seq items n, slots := sl } ∧ R (.ok (.ret (Value.ref l))) s) :=
  .of_wp fun prog w A R s h => by
    obtain ⟨hp, g, d, tk, os⟩ := s
    obtain ⟨hl, h⟩ := h
    have f1 := AutoSeq1.idx_int
    have hT : Shared.TypeIs { heap := hp, gens := g, drawn := d, toks := tk, os := os } (.ref l) "tuple" := ⟨_, hl, rfl⟩
    wp_walk using wpAny_loadPart' hl
    repeat (first
      | (refine wpAny_ite_false (decide_eq_false (by rw [c0]; exact Bool.false_ne_true)) ?_; wp_walk using wpAny_loadPart' hl)
      | (refine wpAny_ite_true (decide_eq_true (by rw [c1])) ?_; wp_walk using wpAny_loadPart' hl))
    all_goals exact ⟨_, rfl, h⟩
theorem mul_none (l : Addr) (items : Array Value) (n : Nat) (dd : Option Addr) (sl : Array (Option Value)) (x : Int) (u : Tok) (c0 : (decide (x < -(2 ^ 63)) || decide (x ≥ 2 ^ 63)) = false) (c1 : (items.isEmpty || x == 1) = false) (c2 : (decide (x ≤ 0) || items.isEmpty) = true) :
    Meets (Builtin.«tuple.__mul__» ⟨[.ref l, .int x u], []⟩) (fun _ R s => s.heap.get? l = some { cls := .type "tuple", dict := dd, data := .seq items n, slots := sl } ∧
      R (.ok (.ret (Value.ref s.heap.objs.size))) { s with heap := s.heap.push { cls := Value.type "tuple", data := Data.seq #[] }, toks := s.toks }) :=
  .of_wp fun prog w A R s h => by
    obtain ⟨hp, g, d, tk, os⟩ := s
    obtain ⟨hl, h⟩ := h
    have f1 := AutoSeq1.idx_int
    wp_walk using wpAny_loadPart' hl
    repeat (first
      | (refine wpAny_ite_false (decide_eq_false (by rw [c0]; exact Bool.false_ne_true)) ?_; wp_walk using wpAny_loadPart' hl)
      | (refine wpAny_ite_false (decide_eq_false (by rw [c1]; exact Bool.false_ne_true)) ?_; wp_walk using wpAny_loadPart' hl)
      | (refine wpAny_ite_true (decide_eq_true (by rw [c2])) ?_; wp_walk using wpAny_loadPart' hl))
    all_goals exact ⟨_, rfl, h⟩
def rRepA (K : PySem.W.Frag) : R2 := fun x y H Q => ∃ (l : Addr) (k : Int) (xs : List V), x = .ref l ∧ y = .int k ∧ SqT K H l xs ∧ -1000 ≤ k ∧ k ≤ 1000 ∧ xs.length ≤ 1000 ∧
  ((xs = [] ∨ k = 1) → Q (.ref l) H) ∧ (¬ (xs = [] ∨ k = 1) → ∀ p, H p = none → Q (.ref p) (upd H p (.tup (List.replicate k.toNat xs).flatten)))
theorem op_repA {X : Cx} (K : PySem.W.Frag) (hK : X.K = K := by rfl) : OpR X (binaryOp .Mult) (rRepA K) := by
  subst hK
  intro pins s σ H x y v u Q I rx ry h
  obtain ⟨l, k, xs, e1, e2, hT, h1, h2, hz, q1, q2⟩ := h
  subst e1 e2
  by_cases hsame : xs = [] ∨ k = 1
  · cases rx
    obtain ⟨t, e⟩ := ry
    subst e
    obtain ⟨its, r, ⟨⟨cls, dd, data, sl⟩, ho, hc, n, hd⟩, hs⟩ := I.tuple hT
    simp only at hc hd
    subst hc hd
    have c0 : (decide (k < -(2 ^ 63)) || decide (k ≥ 2 ^ 63)) = false := by
      rw [decide_eq_false (by omega), decide_eq_false (by omega)]
      rfl
    have c1 : (its.toArray.isEmpty || k == 1) = true := by
      rcases hsame with z | z
      · subst z
        cases r
        rfl
      · subst z
        simp
    refine wpAny_binaryOp_repeat_ref (T := "tuple") (U := "int") (by decide) ⟨_, ho, rfl⟩ (fun s' => typeIs_int s' k t) noFill_tuple_mul F.fills_int_mul F.slot_int_rmul repeat_tuple F.slot_int_index.lookup ?_
    refine call_meets F.slot_int_rmul (typeIs_int s k t) F.entry_int_rmul (F.args_int_rmul_2 _ _) (int_rmul_tuple k t l its.toArray n dd sl) ⟨ho, rfl, ⟨_, ho, rfl⟩, ?_⟩
    exact call_meets F.slot_tuple_mul ⟨_, ho, rfl⟩ F.entry_tuple_mul (F.args_tuple_mul_2 _ _) (mul_same l its.toArray n dd sl k t c0 c1) ⟨ho, .ref l, H, I, rfl, q1 hsame⟩
  · have q := q2 hsame
    by_cases hk : k ≤ 0
    · cases rx
      obtain ⟨t, e⟩ := ry
      subst e
      obtain ⟨its, r, ⟨⟨cls, dd, data, sl⟩, ho, hc, n, hd⟩, hs⟩ := I.tuple hT
      simp only at hc hd
      subst hc hd
      have c0 : (decide (k < -(2 ^ 63)) || decide (k ≥ 2 ^ 63)) = false := by
        rw [decide_eq_false (by omega), decide_eq_false (by omega)]
        rfl
      have c1 : (its.toArray.isEmpty || k == 1) = false := by
        have e1 : its.toArray.isEmpty = false := by
          cases r with
          | nil => exact absurd (.inl rfl) hsame
          | cons _ _ => rfl
        rw [e1, Bool.false_or]
        exact beq_eq_false_iff_ne.mpr (by omega)
      have c2 : (decide (k ≤ 0) || its.toArray.isEmpty) = true := by
        rw [decide_eq_true hk]
        rfl
      have hk0 : k.toNat = 0 := by omega
      rw [hk0] at q
      refine wpAny_binaryOp_repeat_ref (T := "tuple") (U := "int") (by decide) ⟨_, ho, rfl⟩ (fun s' => typeIs_int s' k t) noFill_tuple_mul F.fills_int_mul F.slot_int_rmul repeat_tuple F.slot_int_index.lookup ?_
      refine call_meets F.slot_int_rmul (typeIs_int s k t) F.entry_int_rmul (F.args_int_rmul_2 _ _) (int_rmul_tuple k t l its.toArray n dd sl) ⟨ho, rfl, ⟨_, ho, rfl⟩, ?_⟩
      refine call_meets F.slot_tuple_mul ⟨_, ho, rfl⟩ F.entry_tuple_mul (F.args_tuple_mul_2 _ _) (mul_none l its.toArray n dd sl k t c0 c1 c2) ⟨ho, ?_⟩
      exact ⟨.ref s.heap.objs.size, _, I.laid (t' := s.toks) (o := .tup []) (fun b o z => Heap.get?_push_of_some _ z) (Nat.le_refl _) ⟨Nat.zero_le _, [], .nil, ⟨_, Heap.get?_push_size _ rfl, rfl, _, rfl⟩⟩, rfl, q _ (I.hok.fresh (Nat.le_refl _))⟩
    · exact op_repT pins s σ H _ _ v u Q I rx ry ⟨l, k, xs, rfl, rfl, hT, fun z => hsame (.inl z), by omega, h2, hz, q⟩
theorem repA_deck {K : PySem.W.Frag} {D H : Hp} {a p : Addr} {xs : List V} {Q : VK} {k : Int} (dk : Deck D H a) (hp : D p = some (.tup xs)) (h0 : 0 ≤ k) (h1 : k ≤ 1000) (hz : xs.length ≤ 1000)
    (q : ∀ r H' D', Deck D' H' a → Same D D' → D' r = some (.tup (List.replicate k.toNat xs).flatten) → Q (.ref r) H') : rRepA K (.ref p) (.int k) H Q := by
  refine ⟨p, k, xs, rfl, rfl, SqT.of (dk.sub _ _ hp), by omega, h1, hz, fun h => ?_, fun _ r hr => q r _ _ (dk.new hr) (same_new (dk.free hr)) upd_same⟩
  refine q p H D dk (Same.refl _) ?_
  rcases h with z | z
  · subst z
    rw [hp]
    have : (List.replicate k.toNat ([] : List V)).flatten = [] := by
      induction k.toNat with
      | zero => rfl
      | succ n ih => rw [List.replicate_succ, List.flatten_cons, ih]; rfl
    rw [this]
  · subst z
    rw [hp]
    simp
end Nk
set_option Elab.async false
set_option linter.all false
set_option maxRecDepth 100000
set_option maxHeartbeats 4000000
namespace Nk
open PySem PySem.Spec PyProof.Rows L2
/-! The law's own def is called by the caller alone, within which nothing is being shown: so repr may be asked there -/
structure LawOk (P : Program) (w : World) (K : PySem.W.Frag) (mg : Str → Option Value) (base : Heap) (k : Nat) (f : Addr) (fd : FuncData) (ps : List Str) (sp : Sp) : Prop where
  run : ∀ (s : Shared) (H : Hp) (args : Args) (us : List Value) (vs : List V) (Q : VK), Room k callerA → Env0 P w K mg base callerA [] s H → BindsTo s fd args (ps.zip us) → Vals vs us → sp vs H Q E0 →
    codeAny (model P w) callerA (.call (.ref f) args) (CR CX0 [] P w H s Q E0) s
section
variable {P : Program} {w : World} {K : PySem.W.Frag} {mg : Str → Option Value} {base : Heap}
theorem law_of {k : Nat} {f : Addr} {x qual : Str} {st : Stmt} {fd : FuncData} {N ps : List Str} {sp : Sp} (F : Fun K x qual st f fd) (S : FnScope N ps (defScope st)) (len : ∀ vs H Q E, sp vs H Q E → vs.length = ps.length)
    (body : ∀ (cdv : Value) (s : Shared) (H : Hp) (vs : List V) (Q : VK), Room k (callerA.deeper (envOfC qual (defScope st) s.heap.objs.size f cdv)) → sp vs H Q E0 →
      ∃ t, PSs (cxOf CX0 P w K mg base N qual (defScope st) f cdv callerA [] s H E0).nox (defBody st) t ∧ t { nx := fun _ H' => Q .non H', rt := Q } (start N vs) H) : LawOk P w K mg base (k + 1) f fd ps sp := by
  obtain ⟨oc, od, kV, doc, pm, an, cdv, ct, osl, efd, lk, hcd⟩ := F.ex
  subst efd
  refine ⟨fun s H args us vs Q hr e0 hb r hsp => ?_⟩
  have ln := len _ _ _ _ hsp
  have inK : K.In s.heap := e0.mod.kin.keeps fun b o z => (e0.bs b o z).1
  have nolim : s.heap.NoLimit := e0.mod.nolimit.keeps fun b o z => (e0.bs b o z).1
  have kinds : ∀ y ∈ ps.zip us, (defScope st).names.lookup y.1 = some .local ∨ ((defScope st).names.lookup y.1 = some .cell ∧ ((cellsFrom (s.heap.objs.size + 1) (defScope st).names []).lookup y.1).isSome = true) := fun ⟨n, u⟩ hy => by
    rcases S.par n (List.of_mem_zip hy).1 with z | z
    · exact .inl z
    · exact .inr ⟨z, PySem.W.cellsFrom_some _ _ _ (.inl z)⟩
  refine codeAny_call_function hr.depth (inK _ _ lk) rfl S.co S.gen rfl (PySem.W.codeRec_of inK hcd) (hb _ _ _ _ ?_)
  refine wpAny_newFunctionEnv_cells S.kind kinds fun env he s1 xx => ?_
  subst he
  refine ⟨nolim.keeps xx.toInCall.keep, codeAny_func ?_⟩
  obtain ⟨t, ht, hq⟩ := body cdv s H vs Q (hr.deeper _) hsp
  have I : Inv (cxOf CX0 P w K mg base N qual (defScope st) f cdv callerA [] s H E0) [] (start N vs) H s1 := inv_start S hr.hd e0 ln r xx
  have ht2 := ht.nox
  refine wpAny_mono (ht2.run [] s1 (start N vs) H _ I hq) (fun fl s' hs => ?_) fun e s' hs => hs
  cases fl with
  | ret u =>
    obtain ⟨v, σ', H', J, rv, q⟩ := hs
    exact ⟨v, H', J.os, J.bare, J.base, J.hok, rv, q⟩
  | next =>
    obtain ⟨σ', H', J, q⟩ := hs
    exact ⟨.non, H', J.os, J.bare, J.base, J.hok, rfl, q⟩
  | brk =>
    obtain ⟨_, _, _, q⟩ := hs
    exact q.elim
  | cont =>
    obtain ⟨_, _, _, q⟩ := hs
    exact q.elim
theorem law_run {mb : Str → Option Value} {k : Nat} {fa a : Addr} {fd : FuncData} {x : Str} {sp : Sp} {s₁ : Shared} {vs : List Value} {ns : List Int}
    (KX : K.In s₁.heap) (hns : s₁.heap.Ns mainGlobals mg) (hb : s₁.heap.Ns builtinsNs mb) (hbb : ∀ x : Str, x ≠ "__name__" → mb x = bootBuiltins x) (hlim : s₁.heap.NoLimit) (hg : s₁.gens = #[])
    (ha : s₁.heap.get? a = some { cls := .type "list", data := .seq vs.toArray }) (hi : IntsAre vs ns) (hl : ns.length ≤ sizeLine) (hr : Room k callerA)
    (F : ∀ base : Heap, K.In base → base.Ns mainGlobals mg → LawOk P w K mg base k fa fd [x] sp) (hbind : ∀ (s : Shared) (u : Value), BindsTo s fd ⟨[u], []⟩ [(x, u)])
    (hsp : ∀ H : Hp, SqL K H a (ns.map V.int) → sp [.ref a] H (fun v _ => v = .bl true) E0) :
    codeAny (model P w) callerA (.call (.ref fa) ⟨[.ref a], []⟩) (fun r s' => r = .ok (.ret (.bool true)) ∧ OldK s₁.heap s'.heap ∧ s'.os = s₁.os ∧ AllBare s'.gens) s₁ := by
  have rv := vals_ints hi
  have lenV := hi.length
  -- what is tracked: the script, unless the module holds it
  obtain ⟨H, hS, hok, hA, hz⟩ : ∃ H : Hp, SqL K H a (ns.map V.int) ∧ HOk P w H s₁.heap ∧ (∀ b, H b = none ∨ (b = a ∧ K.lookup a = none)) ∧ ∀ b u, H b = some u → ∃ o v, u = .frz o (.lst v) := by
    cases hk : K.lookup a with
    | some o =>
      have e := KX a o hk
      rw [ha] at e
      cases e
      refine ⟨fun _ => none, .inr ⟨_, vs.toArray, _, hk, rfl, rfl, rfl, by rw [List.size_toArray, lenV]; exact hl, by simpa using rv⟩, fun b u z => ?_, fun _ => .inl rfl, fun b u z => ?_⟩
      all_goals
        have z2 : (none : Option HO) = some u := z
        cases z2
    | none =>
      refine ⟨fun b => if b = a then some (.frz { cls := .type "list", data := .seq vs.toArray } (.lst (ns.map V.int))) else none, .inl (.inr ⟨_, if_pos rfl⟩), fun b u z => ?_, fun b => ?_, fun b u z => ?_⟩
      · by_cases hb : b = a
        · subst hb
          have z2 := (if_pos rfl).symm.trans z
          cases z2
          exact ⟨ha, by rw [List.length_map]; exact hl, vs, _, rv, ha⟩
        · have z2 := (if_neg hb).symm.trans z
          cases z2
      · by_cases hb : b = a
        · exact .inr ⟨hb, rfl⟩
        · exact .inl (if_neg hb)
      · by_cases hb : b = a
        · have z2 := (if_pos hb).symm.trans z
          cases z2
          exact ⟨_, _, rfl⟩
        · have z2 := (if_neg hb).symm.trans z
          cases z2
  have dict0 : ∀ {b : Addr} {o : Obj} {es : Array DictEntry} {ep : Nat}, s₁.heap.get? b = some o → o.data = .dict es ep → H b = none := fun {b o es ep} e d => by
    rcases hA b with z | ⟨z, _⟩
    · exact z
    · subst z
      rw [ha] at e
      cases e
      have d' : Data.seq vs.toArray _ = Data.dict es ep := d
      cases d'
  have nsK : ∀ {b : Addr} {m : Str → Option Value}, s₁.heap.Ns b m → (hidT s₁.heap H).Ns b m := fun {b m} ⟨o, es, ep, e, d, r⟩ => ⟨o, es, ep, hidT_get e (dict0 e d), d, r⟩
  have hKb : K.In (hidT s₁.heap H) := fun b o e => hidT_get (KX b o e) (by
    rcases hA b with z | ⟨z, zk⟩
    · exact z
    · subst z
      rw [zk] at e
      cases e)
  have hM : Mod K mg (hidT s₁.heap H) := ⟨hKb, nsK hns, ⟨mb, nsK hb, hbb⟩, let ⟨mc, h1, h2⟩ := hlim; ⟨mc, nsK h1, h2⟩⟩
  have e0 : Env0 P w K mg (hidT s₁.heap H) callerA [] s₁ H := ⟨rfl, hM, fun b o e => of_hidT e, Nat.le_of_eq (hidT_size _ _), trivial, fun b hb => absurd (show b ∈ ([] : List Addr) from hb) (by simp), hok, .of_eq hg⟩
  refine codeAny_mono ((F _ hKb (nsK hns)).run s₁ H ⟨[.ref a], []⟩ [.ref a] [.ref a] _ hr e0 (hbind s₁ (.ref a)) (.cons rfl .nil) (hsp H hS)) fun r s' h => ?_
  cases r with
  | error e => exact False.elim h
  | ok fl =>
    cases fl with
    | next => exact False.elim h
    | brk => exact False.elim h
    | cont => exact False.elim h
    | ret u =>
      obtain ⟨v, H', os, bare, un, hok', r', q⟩ := h
      have q' : v = .bl true := q
      subst q'
      obtain rfl : u = Value.bool true := r'
      refine ⟨rfl, OldK.of_keep fun b o e => ?_, os, bare⟩
      cases q : H b with
      | none => exact un.keep b o e q (fun z => absurd (show b ∈ ([] : List Addr) from z) (by simp)) (by simp)
      | some u =>
        obtain ⟨ob, xs, rfl⟩ := hz b u q
        have z2 := un.frzs b ob _ q
        obtain ⟨e1, _⟩ := hok b _ q
        obtain ⟨e2, _⟩ := hok' b _ z2
        rw [e] at e1
        cases e1
        exact e2
end
theorem walk_law {l : PySem.W.OpenLaw} {n k : Nat} {q : Program} {loose : List Str} {XP : (Str → Option Value) → Heap → Prop} {YP : World → Heap → Prop} {d : DefRec} {K : Params → PySem.W.Frag} {sp : PySem.W.Frag → Sp} {x : Str}
    (hn : l.most = some n) (hn2 : n ≤ sizeLine) (hdf : d.params.defaults = []) (hr : Room k callerA) (hY : ∀ (w : World) (h : Heap), YP w h → (K w.params).In h)
    (F : ∀ (w : World) (mg : Str → Option Value) (fa : Addr) (h : Heap), (K w.params).In h → h.Ns mainGlobals mg → mg d.name = some (.ref fa) →
      ∃ fd : FuncData, (∀ (s : Shared) (u : Value), BindsTo s fd ⟨[u], []⟩ [(x, u)]) ∧ ∀ base : Heap, (K w.params).In base → base.Ns mainGlobals mg → LawOk l.prog w (K w.params) mg base k fa fd [x] (sp (K w.params)))
    (hsp : ∀ (K : PySem.W.Frag) (H : Hp) (a : Addr) (ns : List Int), ns.length ≤ n → SqL K H a (ns.map V.int) → sp K [.ref a] H (fun v _ => v = .bl true) E0) :
    PySem.W.WalkO q loose XP YP l.row.toRowW d [] (fun f vs => PySem.call f vs) := by
  refine Att.attach_call hn hdf fun w s₀ s₁ mg mb fa o pm cd doc a vs ns G Y ho hd hcd hmg hobj hints hlen hg => ?_
  have KX := hY w _ Y
  obtain ⟨fd, hb, hF⟩ := F w mg fa _ KX G.T.g hmg
  exact law_run KX G.T.g G.T.b G.T.builtins G.T.nolimit hg hobj hints (Nat.le_trans hlen hn2) hr hF hb fun H hS => hsp _ H a ns hlen hS
end Nk
set_option Elab.async false
set_option linter.all false
set_option maxRecDepth 100000
set_option maxHeartbeats 4000000
namespace Nk
open PySem PySem.Spec PyProof.Rows L2
/-! enumerate over a tuple, without a start -/
theorem en_new {v : Value} {ob : Obj} {Hh : Heap → Prop} (B : Begins v ob Hh) :
    Meets (Builtin.«enumerate.__new__» ⟨[.type "enumerate", v], []⟩) (fun _ R s => Hh s.heap ∧
      R (.ok (.ret (.ref (s.heap.push ob).objs.size))) { s with heap := (s.heap.push ob).push { cls := .type "enumerate", data := .fields #[.none, .bool false, .ref s.heap.objs.size, rawInt 0, .none, .none] } }) :=
  .of_wp fun prog w A R s z => by
    obtain ⟨hp, gl, dd, tc, oo⟩ := s
    obtain ⟨za, zb⟩ := z
    have sb := sub_enumerate
    have step : ∀ {A' : Around} {E : Value → Shared → Prop} {Q : Value → Shared → Prop}, Q (.ref hp.objs.size) ⟨hp.push ob, gl, dd, tc, oo⟩ → wpAny (model prog w) A' (pyIter v) Q E ⟨hp, gl, dd, tc, oo⟩ :=
      fun q => B.iter prog w _ _ ⟨hp, gl, dd, tc, oo⟩ _ za q
    wp_walk using step
    refine wpAny_stack_any fun _ => wpAny_pure ?_
    split
    · rename_i cl _ _ _ _ _
      cases (cl == Value.type "enumerate") <;>
      · wp_walk using step
        exact ⟨_, rfl, zb⟩
    · wp_walk using step
      exact ⟨_, rfl, zb⟩
theorem en_call {prog : Program} {w : World} {A : Around} {E : Value → Shared → Prop} {s : Shared} {v : Value} {ob : Obj} {Hh : Heap → Prop} {Q : Value → Shared → Prop} (B : Begins v ob Hh) (z : Hh s.heap)
    (k : ∀ h', IsEnum h' (s.heap.objs.size + 1) s.heap.objs.size 0 .none → h'.get? s.heap.objs.size = some ob → (∀ b o, s.heap.get? b = some o → h'.get? b = some o) → Q (.ref (s.heap.objs.size + 1)) { s with heap := h' }) :
    wpAny (model prog w) A (call (.type "enumerate") [v]) Q E s := by
  refine callType_new F.called_enumerate (by decide) (F.typeCall_enumerate_1 _) (F.newCall_enumerate_1 _) (fun x => F.args_object_init_2 x _) F.entry_enumerate_new (en_new B) ⟨z, ?_⟩
  have e1 : (s.heap.push ob).objs.size = s.heap.objs.size + 1 := Heap.size_push ..
  show _ ∧ _
  rw [e1]
  have e2 := Heap.get?_push_size (s.heap.push ob) (o := { cls := .type "enumerate", data := .fields #[.none, .bool false, .ref s.heap.objs.size, rawInt 0, .none, .none] }) rfl
  rw [e1] at e2
  exact ⟨⟨_, e2, rfl⟩, k _ e2 (Heap.get?_push_of_some _ (Heap.get?_push_size _ B.free)) fun b o x => Heap.get?_push_of_some _ (Heap.get?_push_of_some _ x)⟩
/-- the tuple at a, each item with its index in a new pair -/
def IteT (K : PySem.W.Frag) (a : Addr) : It :=
  ⟨fun i H => ∃ (xs : List V) (x : V), SqT K H a xs ∧ xs[i]? = some x,
   fun i H v H' => ∃ T x, v = .ref T ∧ H T = none ∧ H' = upd H T (.tup [.int (i : Nat), x]) ∧ ∀ xs, SqT K H a xs → xs[i]? = some x,
   fun i H => ∃ xs : List V, SqT K H a xs ∧ xs.length ≤ i⟩
theorem turn_enT {P : Program} {w : World} {K : PySem.W.Frag} {elts : List Expr} {kk : Nat} {tpos : Pos} (a e it : Addr) :
    Turn P w K (.Tuple elts kk tpos) (IteT K a) [e, it] e (fun i h => (∃ old, IsEnum h e it ((i : Nat) : Int) old) ∧ h.IsTupleIter it a i ∧ e ≠ it) where
  mem := by simp
  obj := fun i h st b hb => by
    obtain ⟨⟨old, he⟩, ⟨o, ho, hc, hd⟩, _⟩ := st
    rcases (by simpa using hb : b = e ∨ b = it) with z | z
    · subst z; exact ⟨_, he, fun v q => nomatch q⟩
    · subst z; exact ⟨o, ho, fun v q => by rw [hd] at q; cases q⟩
  keep := fun i h h' st k => let ⟨⟨old, he⟩, hi, hne⟩ := st; ⟨⟨old, k e (by simp) _ he⟩, hi.at fun o q => k it (by simp) o q, hne⟩
  item := by
    intro X hP hw hK hc i pins s σ H E I hf st hg
    subst hP hw hK
    obtain ⟨⟨old, he⟩, hit, hne⟩ := st
    obtain ⟨xs, x, hq, hx⟩ := hg
    obtain ⟨its, rv, p, hz⟩ := I.tuple hq
    obtain ⟨u, hu, ru⟩ := rv.get hx
    have pt : s.heap.IsTuple a its.toArray := p
    have hea : a ≠ e := fun z => by
      obtain ⟨o, ho, hcl, _⟩ := pt
      subst z
      have := ho.symm.trans he
      injection this with this
      subst this
      have q : Value.type "enumerate" = Value.type "tuple" := hcl
      injection q with q
      exact absurd q (by decide)
    have hia : a ≠ it := fun z => by
      obtain ⟨o, ho, hcl, _⟩ := pt
      obtain ⟨o2, ho2, hc2, _⟩ := hit
      subst z
      have := ho.symm.trans ho2
      injection this with this
      subst this
      rw [hcl] at hc2
      injection hc2 with q
      exact absurd q (by decide)
    have hel : e < s.heap.objs.size := Heap.lt_size he
    have hil : it < s.heap.objs.size := by obtain ⟨_, q, _⟩ := hit; exact Heap.lt_size q
    have hin : i < its.toArray.size := by
      have := (List.getElem?_eq_some_iff.mp hu).1
      simpa using this
    have D := Draws.tuple (prog := X.prog) (w := X.w) (A := X.A.in1) (I.ok.hd hc) it a hia its.toArray
    refine wpAny_pyNext_enum_itemC D he ⟨hit, pt⟩ hin hne (by simp [hne, Ne.symm hea]) fun x' h' tk hP ho hst hT hsz hk => ?_
    obtain ⟨hit', pt'⟩ := hst
    have ex : x' = u := by
      have h1 : its.toArray[i]? = some x' := hP
      simp at h1
      rw [hu] at h1
      injection h1 with h1
      exact h1.symm
    subst ex
    refine ⟨_, rfl, wpAny_letOwnedTupleGo_enum (s := { s with heap := h', toks := tk + 1 }) ho fun h'' he' sb => ?_⟩
    have hT2 : h''.get? s.heap.objs.size = some { cls := .type "tuple", data := .seq #[.int i tk, x'] } := (sb.2 _ (Nat.ne_of_gt hel)).trans hT
    have new : ObjOk X.prog X.w (upd H s.heap.objs.size (.tup [.int (i : Nat), x])) h'' s.heap.objs.size (.tup [.int (i : Nat), x]) :=
      ⟨by show 2 ≤ sizeLine; decide, [.int i tk, x'], .cons ⟨_, rfl⟩ (.cons ru .nil), ⟨_, hT2, rfl, _, rfl⟩⟩
    have I1 : Inv X pins σ (upd H s.heap.objs.size (.tup [.int (i : Nat), x])) { s with heap := h'', toks := tk + 1 } :=
      I.turnedNew (ch := [e, it]) (fun b ob hb q => (sb.2 b (fun z => hb (by simp [z]))).trans (hk b ob (fun z => hb (by simp [z])) (fun z => hb (by simp [z])) q)) hf (Nat.le_refl _) new
    refine ⟨.ref s.heap.objs.size, _, I1, rfl, ⟨_, x, rfl, I.hok.fresh (Nat.le_refl _), rfl, fun ys hy => by rw [I.tuple_inj hy hq]; exact hx⟩, ⟨⟨x', ?_⟩, hit'.at fun o q => (sb.2 it (Ne.symm hne)).trans q, hne⟩, fun b hb => ?_⟩
    · rw [show ((i + 1 : Nat) : Int) = (i : Int) + 1 by omega]
      exact he'
    · have hb' : b < s.heap.objs.size := by
        rcases (by simpa using hb : b = e ∨ b = it) with z | z
        · rw [z]; exact hel
        · rw [z]; exact hil
      rw [upd_ne (Nat.ne_of_lt hb')]
      exact (hf b hb).1
  done := by
    intro X hP hw hK hc i pins s σ H E I hf st hg
    subst hP hw hK
    obtain ⟨⟨old, he⟩, hit, hne⟩ := st
    obtain ⟨xs, hq, hx⟩ := hg
    obtain ⟨its, rv, p, hz⟩ := I.tuple hq
    have pt : s.heap.IsTuple a its.toArray := p
    obtain ⟨f0, f1, f2, f3, f4, f5⟩ := hf it (by simp)
    have hl := rv.length
    have hT : s.TypeIs (.ref e) "enumerate" := ⟨_, he, rfl⟩
    unfold pyNext
    refine wpAny_bind (wpAny_attempt (wpAny_callSpecial?_slot (name := Str.ofString "__next__") hT F.slot_enumerate_next
      (wpAny_call_entry F.slot_enumerate_next hT F.entry_enumerate_next ?_ (F.args_enumerate_next_1 _))))
    show wpAny _ _ (field (.ref e) 2 >>= _) _ _ _
    refine wpAny_bind (wpAny_field he rfl (x := .ref it) rfl ?_)
    refine wpAny_bind (wpAny_nextOf_tuple_end (I.ok.hd hc) hit pt (by simp; omega) fun h' x hx' hy => ?_)
    obtain ⟨o, ho, hcl⟩ := hy
    refine wpAny_bind (wpAny_isInstance (T := "StopIteration") (b := true) ⟨o, ho, hcl⟩ isSubtype_stop ?_)
    exact wpAny_pure ⟨rfl, I.turned (t' := s.toks) (fun b o hb q => hx' b o hb q) f0 f1 f3 f4 f5⟩
  self := fun A i s Q E st h => let ⟨⟨_, he⟩, _⟩ := st; wpAny_pyIter_enum he h
def iEnumT (K : PySem.W.Frag) (ta : TA) : TI := fun σ H R => ta σ H fun vs H1 => ∃ a xs, vs = [.ref a] ∧ SqT K H1 a xs ∧ R (IteT K a) H1
theorem pi_enumT {X : Cx} {K : PySem.W.Frag} {e : Expr} {ta : TA} {p pos tpos : Pos} {elts : List Expr} {kk : Nat} (hg : Gl X "enumerate") (hm : X.mg "enumerate" = none) (ha : PA X [e] ta) (hs : starEach [e] X.env = [(false, eval e X.env)] := by rfl) (hK : X.K = K := by rfl) :
    PI X (.Tuple elts kk tpos) (.Call (.Name "enumerate" p) [e] [] pos) (iEnumT K ta) := by
  subst hK
  refine ⟨fun pins s σ H R I h => ?_⟩
  refine Call_ (ld_blt I hg hm boot_enumerate (PyProof.Rows.callWith_type1 (thn (ha.run pos pins s σ H _ I h) fun us s1 ⟨vs, H1, I1, r1, q1⟩ => ?_) hs rfl))
  obtain ⟨a, xs, ex, hq, q⟩ := q1
  subst ex
  cases r1 with
  | cons r rr =>
    cases rr
    cases r
    obtain ⟨its, rv, p', hz⟩ := I1.tuple hq
    refine en_call (begins_tuple a its.toArray) (show s1.heap.IsTuple a its.toArray from p') fun h' he hit hk => wpAny_pyIter_enum he ?_
    refine ⟨s1.heap.objs.size + 1, [s1.heap.objs.size + 1, s1.heap.objs.size], _, _, H1, rfl, I1.kept (t' := s1.toks) hk, turn_enT a (s1.heap.objs.size + 1) s1.heap.objs.size, ⟨⟨.none, he⟩, ⟨_, hit, rfl, rfl⟩, Nat.succ_ne_self _⟩, fun b hb => ?_, q⟩
    have hle : s1.heap.objs.size ≤ b := by
      rcases (by simpa using hb : b = s1.heap.objs.size + 1 ∨ b = s1.heap.objs.size) with z | z
      · rw [z]; exact Nat.le_add_right _ _
      · rw [z]; exact Nat.le_refl _
    exact I1.fpOk hle (I1.hok.fresh hle)
theorem walk_enT {K : PySem.W.Frag} {a : Addr} {xs : List V} : Walk (IteT K a) xs.length (fun H => SqT K H a xs) (YPair (fun i => some (.int (i : Nat))) (fun i => xs[i]?)) := by
  refine ⟨fun i _ hi q => ⟨xs, xs[i], q, by simp [hi]⟩, fun _ q => ⟨xs, q, Nat.le_refl _⟩, fun i H v H' _ q y => ?_⟩
  obtain ⟨T, x, ha, hb, hc, hd⟩ := y
  exact ⟨T, .int (i : Nat), x, ha, hb, hc, rfl, hd xs q⟩
theorem pe_globE {X : Cx} {x : Str} {i : Int} {pos : Pos} (hg : Gl X x) (h : ∃ t, X.mg x = some (.int i t)) (hd : (x == ("__debug__" : Str)) = false := by decide) : PE X (.Name x pos) (tC (.int i)) := by
  obtain ⟨t, h⟩ := h
  exact pe_glob hg h ⟨t, rfl⟩ hd
/-- the bounds of the program -/
structure Cst (mg : Str → Option Value) : Prop where
  c_MAX_KINDS : ∃ t, mg "MAX_KINDS" = some (.int 4 t)
  c_MAX_ROWS : ∃ t, mg "MAX_ROWS" = some (.int 24 t)
  c_MAX_AMOUNT : ∃ t, mg "MAX_AMOUNT" = some (.int 1000000 t)
end Nk
set_option Elab.async false
set_option linter.all false
set_option maxRecDepth 100000
set_option maxHeartbeats 4000000
namespace Nk
open PySem L2

/-! slots that hold data -/
def EnvL (K : PySem.W.Frag) : List (Nat × PyData) → St → Hp → Prop
  | [], _, _ => True
  | p :: Γ, σ, H => (∃ v, σ[p.1]? = some (some v) ∧ Dq K H v p.2) ∧ EnvL K Γ σ H
def Env (K : PySem.W.Frag) (n : Nat) (Γ : List (Nat × PyData)) (σ : St) (H : Hp) : Prop := σ.length = n ∧ EnvL K Γ σ H
section
variable {K : PySem.W.Frag} {n : Nat} {Γ Δ : List (Nat × PyData)} {σ : St} {H H' : Hp}
theorem EnvL.same (e : Same H H') : ∀ {Γ : List (Nat × PyData)}, EnvL K Γ σ H → EnvL K Γ σ H'
  | [], _ => trivial
  | _ :: _, ⟨⟨v, h, q⟩, r⟩ => ⟨⟨v, h, q.same e⟩, EnvL.same e r⟩
theorem Env.same (e : Same H H') (h : Env K n Γ σ H) : Env K n Γ σ H' := ⟨h.1, h.2.same e⟩
theorem EnvL.get {i : Nat} {d : PyData} : ∀ {Γ : List (Nat × PyData)}, EnvL K Γ σ H → Γ.lookup i = some d → ∃ v, σ[i]? = some (some v) ∧ Dq K H v d
  | [], _, e => by cases e
  | (j, x) :: Γ, ⟨⟨v, h, q⟩, r⟩, e => by
    rw [List.lookup_cons] at e
    cases z : i == j with
    | true =>
      rw [z] at e
      cases e
      have : i = j := by simpa using z
      subst this
      exact ⟨v, h, q⟩
    | false =>
      rw [z] at e
      exact EnvL.get r e
theorem EnvL.append : ∀ {Γ Δ : List (Nat × PyData)}, EnvL K Γ σ H → EnvL K Δ σ H → EnvL K (Γ ++ Δ) σ H
  | [], _, _, h => h
  | _ :: _, _, ⟨a, r⟩, h => ⟨a, EnvL.append r h⟩
/-- the keys are none of vs -/
def offK (Γ : List (Nat × PyData)) (vs : List Nat) : Bool := (Γ.map (·.1)).all fun j => !vs.contains j
theorem wipe_get {σ : St} {j : Nat} : ∀ {vs : List Nat}, vs.contains j = false → (wipe σ vs)[j]? = σ[j]?
  | [], _ => rfl
  | v :: vs, h => by
    unfold wipe
    have h1 : ¬ v = j := fun e => by subst e; simp at h
    have h2 : vs.contains j = false := by
      cases z : vs.contains j with
      | false => rfl
      | true =>
        have : (v :: vs).contains j = true := by
          rw [List.contains_cons, z, Bool.or_true]
        rw [this] at h
        cases h
    rw [List.getElem?_set_ne h1]
    exact wipe_get h2
theorem EnvL.off {σ' : St} {vs : List Nat} (hs : ∀ j, vs.contains j = false → σ'[j]? = σ[j]?) : ∀ {Γ : List (Nat × PyData)}, offK Γ vs = true → EnvL K Γ σ H → EnvL K Γ σ' H
  | [], _, _ => trivial
  | (j, x) :: Γ, o, ⟨⟨v, h, q⟩, r⟩ => by
    have o' : (!vs.contains j && offK Γ vs) = true := o
    rw [Bool.and_eq_true] at o'
    exact ⟨⟨v, by rw [hs j (by simpa using o'.1)]; exact h, q⟩, EnvL.off hs o'.2 r⟩
theorem EnvL.start (l : List (V × PyData)) : True := trivial
end

/-! e gives the data d, whatever is new; tests; arguments -/
def tD (K : PySem.W.Frag) (n : Nat) (Γ : List (Nat × PyData)) (d : PyData) : TE := fun σ H Q => Env K n Γ σ H ∧ ∀ v H', Same H H' → Dq K H' v d → Q v H'
def tDs (K : PySem.W.Frag) (n : Nat) (Γ : List (Nat × PyData)) (ds : List PyData) : TA := fun σ H Q => Env K n Γ σ H ∧ ∀ vs H', Same H H' → DqAll K H' vs ds → Q vs H'
def tDb (K : PySem.W.Frag) (n : Nat) (Γ : List (Nat × PyData)) (b : Bool) : TT := fun σ H Q => Env K n Γ σ H ∧ ∀ H', Same H H' → Q b H'
structure PD (K : PySem.W.Frag) (X : Cx) (n : Nat) (Γ : List (Nat × PyData)) (e : Expr) (d : PyData) : Prop where
  hK : X.K = K
  pe : PE X e (tD K n Γ d)
structure PDs (K : PySem.W.Frag) (X : Cx) (n : Nat) (Γ : List (Nat × PyData)) (es : List Expr) (ds : List PyData) : Prop where
  pa : PA X es (tDs K n Γ ds)
structure PB (K : PySem.W.Frag) (X : Cx) (n : Nat) (Γ : List (Nat × PyData)) (e : Expr) (b : Bool) : Prop where
  pt : PT X e (tDb K n Γ b)
/-- on values -/
def Op2 (K : PySem.W.Frag) (r : R2) (a b d : PyData) : Prop := ∀ x y H Q, Dq K H x a → Dq K H y b → (∀ v H', Same H H' → Dq K H' v d → Q v H') → r x y H Q
def OpN (K : PySem.W.Frag) (r : List V → Hp → VK → Prop) (ds : List PyData) (d : PyData) : Prop := ∀ xs H Q, DqAll K H xs ds → (∀ v H', Same H H' → Dq K H' v d → Q v H') → r xs H Q
section
variable {K : PySem.W.Frag} {X : Cx} {n : Nat} {Γ Δ : List (Nat × PyData)} {e a b c : Expr} {es : List Expr} {d da db dc : PyData} {ds : List PyData} {pos p : Pos}
theorem pe_or_ex {ι : Sort _} {t : ι → TE} (h : ∀ i, PE X e (t i)) : PE X e (fun σ H Q => ∃ i, t i σ H Q) := ⟨fun pins s σ H Q I ⟨i, q⟩ => (h i).run pins s σ H Q I q⟩
theorem pt_imp {t t' : TT} (h : PT X e t) (i : ∀ σ H Q, t' σ H Q → t σ H Q) : PT X e t' := ⟨fun pins s σ H Q I q => h.run pins s σ H Q I (i σ H Q q)⟩
theorem pt_ex {ι : Sort _} {t : ι → TT} (h : ∀ i, PT X e (t i)) : PT X e (fun σ H Q => ∃ i, t i σ H Q) := ⟨fun pins s σ H Q I ⟨i, q⟩ => (h i).run pins s σ H Q I q⟩
theorem PD.of {t : TE} (h : PE X e t) (i : ∀ σ H Q, Env K n Γ σ H → (∀ v H', Same H H' → Dq K H' v d → Q v H') → t σ H Q) (hK : X.K = K := by rfl) : PD K X n Γ e d := ⟨hK, pe_imp h fun σ H Q q => i σ H Q q.1 q.2⟩
theorem PD.cast (h : PD K X n Γ e d) (q : d = db) : PD K X n Γ e db := q ▸ h
theorem PB.cast {p q : Bool} (h : PB K X n Γ e p) (z : p = q) : PB K X n Γ e q := z ▸ h
theorem PDs.nil : PDs K X n Γ [] [] := ⟨pa_imp pa_nil fun σ H Q q => q.2 [] H (Same.refl H) .nil⟩
theorem PDs.cons (h : PD K X n Γ e d) (g : PDs K X n Γ es ds) (hs : starEach (e :: es) X.env = (false, eval e X.env) :: starEach es X.env := by rfl) : PDs K X n Γ (e :: es) (d :: ds) :=
  ⟨pa_imp (pa_cons h.pe g.pa hs) fun σ H Q q => ⟨q.1, fun v H1 s1 q1 => ⟨q.1.same s1, fun vs H2 s2 q2 => q.2 (v :: vs) H2 (s1.trans s2) (.cons (q1.same s2) q2)⟩⟩⟩
theorem pd_var {i : Nat} {x : Str} (hN : X.N[i]? = some x) (hv : Vis X.env.scope x) (hl : Γ.lookup i = some d) (hK : X.K = K := by rfl) (hd : (x == ("__debug__" : Str)) = false := by decide) (hcd : (x == ("__classdict__" : Str)) = false := by decide) : PD K X n Γ (.Name x pos) d :=
  .of (pe_var hN hv hd hcd) (fun σ H Q g q => let ⟨v, h, z⟩ := g.2.get hl; ⟨v, h, q v H (Same.refl H) z⟩) hK
theorem pd_int {i j} (hK : X.K = K := by rfl) : PD K X n Γ (.Constant (.int i) j pos) (.int i) := .of pe_int (fun σ H Q _ q => q _ H (Same.refl H) (.int i)) hK
theorem pd_bl {i j} (hK : X.K = K := by rfl) : PD K X n Γ (.Constant (.bool i) j pos) (.bool i) := .of pe_bl (fun σ H Q _ q => q _ H (Same.refl H) (.bl i)) hK
theorem pd_non {j} (hK : X.K = K := by rfl) : PD K X n Γ (.Constant .none j pos) .none := .of pe_non (fun σ H Q _ q => q _ H (Same.refl H) .non) hK
theorem pd_str {i j} (hK : X.K = K := by rfl) : PD K X n Γ (.Constant (.str i) j pos) (.str i) := .of pe_str (fun σ H Q _ q => q _ H (Same.refl H) (.str i)) hK
theorem pd_cst {x : Str} {i : Int} (hg : Gl X x) (h : ∃ t, X.mg x = some (.int i t)) (hK : X.K = K := by rfl) (hd : (x == ("__debug__" : Str)) = false := by decide) : PD K X n Γ (.Name x pos) (.int i) :=
  .of (pe_globE hg h hd) (fun σ H Q _ q => q _ H (Same.refl H) (.int i)) hK
theorem pd_op {op : Operator} {r : R2} (ho : OpR X (binaryOp op) r) (ha : PD K X n Γ a da) (hb : PD K X n Γ b db) (q : Op2 K r da db d) : PD K X n Γ (.BinOp a op b pos) d :=
  .of (pe_op ho ha.pe hb.pe) (fun σ H Q g k => ⟨g, fun x H1 s1 q1 => ⟨g.same s1, fun y H2 s2 q2 => q x y H2 Q (q1.same s2) q2 fun v H' s3 q3 => k v H' ((s1.trans s2).trans s3) q3⟩⟩) ha.hK
theorem pd_cmp {op : CmpOp} {r : R2} (ho : OpR X (compareOp op) r) (ha : PD K X n Γ a da) (hb : PD K X n Γ b db) (q : Op2 K r da db d) (hm : behindInMarks op b = false) : PD K X n Γ (.Compare a [op] [b] pos) d :=
  .of (pe_cmpR ho ha.pe hb.pe hm) (fun σ H Q g k => ⟨g, fun x H1 s1 q1 => ⟨g.same s1, fun y H2 s2 q2 => q x y H2 Q (q1.same s2) q2 fun v H' s3 q3 => k v H' ((s1.trans s2).trans s3) q3⟩⟩) ha.hK
theorem pd_chain {op op' : CmpOp} {r r' : R2} {k1 k2 : Bool} (ho : OpR X (compareOp op) r) (ho' : OpR X (compareOp op') r') (ha : PD K X n Γ a da) (hb : PD K X n Γ b db) (hc : PD K X n Γ c dc) (q1 : Op2 K r da db (.bool k1)) (q2 : Op2 K r' db dc (.bool k2))
    (hm : lastMarks [op, op'] [b, c] = false := by with_unfolding_all rfl) : PD K X n Γ (.Compare a [op, op'] [b, c] pos) (.bool (k1 && k2)) :=
  .of (pe_chain ho ho' ha.pe hb.pe hc.pe hm) (fun σ H Q g k => ⟨g, fun x H1 s1 z1 => ⟨g.same s1, fun y H2 s2 z2 => q1 x y H2 _ (z1.same s2) z2 fun v H3 s3 z3 => by
    cases z3
    refine ⟨k1, rfl, ?_⟩
    cases k1 with
    | false => exact k _ _ ((s1.trans s2).trans s3) (.bl false)
    | true => exact ⟨((g.same s1).same s2).same s3, fun w' H4 s4 z4 => q2 y w' H4 Q ((z2.same s3).same s4) z4 fun v H' s5 z5 => k v H' ((((s1.trans s2).trans s3).trans s4).trans s5) (by rw [Bool.true_and]; exact z5)⟩⟩⟩) ha.hK
theorem pd_un {op : UnaryOp} {r : V → Hp → VK → Prop} (ho : UnR X (unaryOp op) r) (ha : PD K X n Γ a da) (q : ∀ x H Q, Dq K H x da → (∀ v H', Same H H' → Dq K H' v d → Q v H') → r x H Q) : PD K X n Γ (.UnaryOp op a pos) d :=
  .of (pe_un ho ha.pe) (fun σ H Q g k => ⟨g, fun x H1 s1 q1 => q x H1 Q q1 fun v H' s3 q3 => k v H' (s1.trans s3) q3⟩) ha.hK
theorem pd_neg {i : Int} (ha : PD K X n Γ a (.int i)) : PD K X n Γ (.UnaryOp .USub a pos) (.int (-i)) := pd_un un_neg ha fun x H Q h k => by cases h; exact ⟨i, rfl, k _ H (Same.refl H) (.int _)⟩
theorem pd_ix {r : R2} (hr : IxR X r) (ha : PD K X n Γ a da) (hb : PD K X n Γ b db) (q : Op2 K r da db d) (hs : PlainIx b := by exact fun _ _ => rfl) : PD K X n Γ (.Subscript a b pos) d :=
  .of (pe_ix hr ha.pe hb.pe hs) (fun σ H Q g k => ⟨g, fun x H1 s1 q1 => ⟨g.same s1, fun y H2 s2 q2 => q x y H2 Q (q1.same s2) q2 fun v H' s3 q3 => k v H' ((s1.trans s2).trans s3) q3⟩⟩) ha.hK
theorem pd_callB {x : Str} {id : String} {r : List V → Hp → VK → Prop} (hc : CallR X (.builtin id) r) (hg : Gl X x) (hm : X.mg x = none) (hv : bootBuiltins x = some (.builtin id)) (ha : PDs K X n Γ (e :: es) ds) (q : OpN K r ds d) (hK : X.K = K := by rfl) (hn : x ≠ "__name__" := by decide) (hdb : (x == ("__debug__" : Str)) = false := by decide)
    (he : starEach (e :: es) X.env = (false, eval e X.env) :: starEach es X.env := by rfl) (hpl : (backTo pos (starEach es X.env)).any (·.1) = false := by rfl) : PD K X n Γ (.Call (.Name x p) (e :: es) [] pos) d :=
  .of (pe_callB hc hg hm hv ha.pa hn hdb he hpl) (fun σ H Q g k => ⟨g, fun xs H1 s1 q1 => q xs H1 Q q1 fun v H' s3 q3 => k v H' (s1.trans s3) q3⟩) hK
theorem pd_callTy {x : Str} {T : String} {r : List V → Hp → VK → Prop} (hc : CallR X (.type T) r) (hg : Gl X x) (hm : X.mg x = none) (hv : bootBuiltins x = some (.type T)) (ha : PDs K X n Γ (e :: es) ds) (q : OpN K r ds d) (hK : X.K = K := by rfl) (hn : x ≠ "__name__" := by decide) (hdb : (x == ("__debug__" : Str)) = false := by decide)
    (he : starEach (e :: es) X.env = (false, eval e X.env) :: starEach es X.env := by rfl) (hpl : (backTo pos (starEach es X.env)).any (·.1) = false := by rfl) : PD K X n Γ (.Call (.Name x p) (e :: es) [] pos) d :=
  .of (pe_callTy hc hg hm hv ha.pa hn hdb he hpl) (fun σ H Q g k => ⟨g, fun xs H1 s1 q1 => q xs H1 Q q1 fun v H' s3 q3 => k v H' (s1.trans s3) q3⟩) hK
theorem DqAll.rev {vs : List V} {H : Hp} (h : DqAll K H vs ds) : vs.length = ds.length := h.length
/-- a display -/
theorem pd_tup {x1} (h : PDs K X n Γ es ds) (hl : Nat.ble ds.length 1000 = true := by rfl) (hK : X.K = K := by rfl) : PD K X n Γ (.Tuple es x1 pos) (.tuple ds) :=
  .of (pe_tup h.pa) (fun σ H Q g k => ⟨g, fun xs H1 s1 q1 => ⟨by rw [q1.length]; exact Nat.le_trans (Nat.le_of_ble_eq_true hl) (by show 1000 ≤ sizeLine; decide), fun p hp => k _ _ (s1.trans (same_new hp)) (.tup upd_same (q1.same (same_new hp)))⟩⟩) hK
theorem pd_lst (h : PDs K X n Γ es ds) (hl : Nat.ble ds.length 1000 = true := by rfl) (hK : X.K = K := by rfl) : PD K X n Γ (.List es pos) (.list ds) :=
  .of (pe_lst h.pa) (fun σ H Q g k => ⟨g, fun xs H1 s1 q1 => ⟨by rw [q1.length]; exact Nat.le_trans (Nat.le_of_ble_eq_true hl) (by show 1000 ≤ sizeLine; decide), fun p hp => k _ _ (s1.trans (same_new hp)) (.lst upd_same (q1.same (same_new hp)))⟩⟩) hK

/-! tests -/
theorem PD.tb {k : Bool} (h : PD K X n Γ e (.bool k)) (he : ∀ whole, isTrue e X.env whole = (do let v ← whole; standAt e.pos; holding [v] (truthy v)) := by intro _; rfl) : PB K X n Γ e k :=
  ⟨pt_imp (pt_val h.pe he) fun σ H Q q => ⟨q.1, fun v H' s z => by cases z; exact ⟨k, rfl, q.2 H' s⟩⟩⟩
theorem pb_cmp {op : CmpOp} {r : R2} {k : Bool} (ho : OpR X (compareOp op) r) (ha : PD K X n Γ a da) (hb : PD K X n Γ b db) (q : Op2 K r da db (.bool k)) (hm : behindInMarks op b = false) : PB K X n Γ (.Compare a [op] [b] pos) k :=
  ⟨pt_imp (pt_cmpR ho ha.pe hb.pe hm) fun σ H Q g => ⟨g.1, fun x H1 s1 q1 => ⟨g.1.same s1, fun y H2 s2 q2 => q x y H2 _ (q1.same s2) q2 fun v H' s3 q3 => by cases q3; exact ⟨k, rfl, g.2 H' ((s1.trans s2).trans s3)⟩⟩⟩⟩
theorem pb_chain {op op' : CmpOp} {r r' : R2} {k1 k2 : Bool} (ho : OpR X (compareOp op) r) (ho' : OpR X (compareOp op') r') (ha : PD K X n Γ a da) (hb : PD K X n Γ b db) (hc : PD K X n Γ c dc) (q1 : Op2 K r da db (.bool k1)) (q2 : Op2 K r' db dc (.bool k2))
    (hm : lastMarks [op, op'] [b, c] = false := by with_unfolding_all rfl) : PB K X n Γ (.Compare a [op, op'] [b, c] pos) (k1 && k2) :=
  ⟨pt_imp (pt_chain ho ho' ha.pe hb.pe hc.pe hm) fun σ H Q k => ⟨k.1, fun x H1 s1 z1 => ⟨k.1.same s1, fun y H2 s2 z2 => q1 x y H2 _ (z1.same s2) z2 fun v H3 s3 z3 => by
    cases z3
    refine ⟨k1, rfl, ?_⟩
    cases k1 with
    | false => exact ⟨false, rfl, k.2 _ ((s1.trans s2).trans s3)⟩
    | true => exact ⟨((k.1.same s1).same s2).same s3, fun w' H4 s4 z4 => q2 y w' H4 _ ((z2.same s3).same s4) z4 fun v H' s5 z5 => by
        cases z5
        exact ⟨k2, rfl, k.2 H' ((((s1.trans s2).trans s3).trans s4).trans s5)⟩⟩⟩⟩⟩
theorem pb_not {k : Bool} (h : PB K X n Γ a k) : PB K X n Γ (.UnaryOp .Not a pos) (!k) := ⟨pt_imp (pt_not h.pt) fun σ H Q q => ⟨q.1, fun H' s => q.2 H' s⟩⟩
structure PBw (K : PySem.W.Frag) (X : Cx) (n : Nat) (Γ : List (Nat × PyData)) (e : Expr) (b : Bool) : Prop where
  pw : PW X e (tDb K n Γ b)
theorem pw_imp {t t' : TT} (h : PW X e t) (i : ∀ σ H Q, t' σ H Q → t σ H Q) : PW X e t' := ⟨fun w pins s σ H Q I q => h.run w pins s σ H Q I (i σ H Q q)⟩
theorem pw_fls : PW X e (fun _ _ _ => False) := ⟨fun _ _ _ _ _ _ _ q => q.elim⟩
theorem pt_fls : PT X e (fun _ _ _ => False) := ⟨fun _ _ _ _ _ _ q => q.elim⟩
theorem pe_fls : PE X e (fun _ _ _ => False) := ⟨fun _ _ _ _ _ _ q => q.elim⟩
theorem PBw.tb {k : Bool} (h : PBw K X n Γ e k) : PB K X n Γ e k := ⟨h.pw.pt⟩
theorem pb_and1 {k : Bool} (h : PB K X n Γ a k) : PBw K X n Γ (.BoolOp .And [a] pos) k := ⟨pw_and1 h.pt⟩
theorem pb_or1 {k : Bool} (h : PB K X n Γ a k) : PBw K X n Γ (.BoolOp .Or [a] pos) k := ⟨pw_or1 h.pt⟩
theorem pb_and {rest : List Expr} {k l : Bool} (h : PB K X n Γ a k) (g : k = true → PBw K X n Γ (.BoolOp .And (b :: rest) pos) l) : PBw K X n Γ (.BoolOp .And (a :: b :: rest) pos) (k && l) := by
  cases k with
  | true => exact ⟨pw_imp (pw_and h.pt (g rfl).pw) fun σ H Q q => ⟨q.1, fun H1 s1 => iteT <| ⟨q.1.same s1, fun H2 s2 => q.2 H2 (s1.trans s2)⟩⟩⟩
  | false => exact ⟨pw_imp (pw_and h.pt pw_fls) fun σ H Q q => ⟨q.1, fun H1 s1 => iteF <| q.2 H1 s1⟩⟩
theorem pb_or {rest : List Expr} {k l : Bool} (h : PB K X n Γ a k) (g : k = false → PBw K X n Γ (.BoolOp .Or (b :: rest) pos) l) : PBw K X n Γ (.BoolOp .Or (a :: b :: rest) pos) (k || l) := by
  cases k with
  | false => exact ⟨pw_imp (pw_or h.pt (g rfl).pw) fun σ H Q q => ⟨q.1, fun H1 s1 => iteF <| ⟨q.1.same s1, fun H2 s2 => q.2 H2 (s1.trans s2)⟩⟩⟩
  | true => exact ⟨pw_imp (pw_or h.pt pw_fls) fun σ H Q q => ⟨q.1, fun H1 s1 => iteT <| q.2 H1 s1⟩⟩
/-! and, or, not, if as values -/
theorem pd_not {k : Bool} (h : PD K X n Γ a (.bool k)) : PD K X n Γ (.UnaryOp .Not a pos) (.bool (!k)) :=
  .of (pe_not h.pe) (fun σ H Q g q => ⟨g, fun v H1 s1 z => by cases z; exact ⟨k, rfl, q _ H1 s1 (.bl _)⟩⟩) h.hK
theorem pd_one {op} (h : PD K X n Γ a d) : PD K X n Γ (.BoolOp op [a] pos) d := ⟨h.hK, pe_one h.pe⟩
theorem pd_and {rest : List Expr} {k l : Bool} (h : PD K X n Γ a (.bool k)) (g : k = true → PD K X n Γ (.BoolOp .And (b :: rest) pos) (.bool l)) : PD K X n Γ (.BoolOp .And (a :: b :: rest) pos) (.bool (k && l)) := by
  cases k with
  | true => exact .of (pe_and h.pe (g rfl).pe) (fun σ H Q q k => ⟨q, fun v H1 s1 z => by cases z; exact ⟨true, rfl, iteT <| ⟨q.same s1, fun v H2 s2 => k v H2 (s1.trans s2)⟩⟩⟩) h.hK
  | false => exact .of (pe_and h.pe pe_fls) (fun σ H Q q k => ⟨q, fun v H1 s1 z => by cases z; exact ⟨false, rfl, iteF <| k _ H1 s1 (.bl false)⟩⟩) h.hK
theorem pd_or {rest : List Expr} {k l : Bool} (h : PD K X n Γ a (.bool k)) (g : k = false → PD K X n Γ (.BoolOp .Or (b :: rest) pos) (.bool l)) : PD K X n Γ (.BoolOp .Or (a :: b :: rest) pos) (.bool (k || l)) := by
  cases k with
  | false => exact .of (pe_or h.pe (g rfl).pe) (fun σ H Q q k => ⟨q, fun v H1 s1 z => by cases z; exact ⟨false, rfl, iteF <| ⟨q.same s1, fun v H2 s2 => k v H2 (s1.trans s2)⟩⟩⟩) h.hK
  | true => exact .of (pe_or h.pe pe_fls) (fun σ H Q q k => ⟨q, fun v H1 s1 z => by cases z; exact ⟨true, rfl, iteT <| k _ H1 s1 (.bl true)⟩⟩) h.hK
theorem pd_if {k : Bool} (h : PB K X n Γ c k) (h1 : k = true → PD K X n Γ a d) (h2 : k = false → PD K X n Γ b d) (hK : X.K = K := by rfl) : PD K X n Γ (.IfExp c a b pos) d := by
  cases k with
  | true => exact .of (pe_ifExp h.pt (h1 rfl).pe pe_fls) (fun σ H Q q k => ⟨q, fun H1 s1 => iteT <| ⟨q.same s1, fun v H2 s2 => k v H2 (s1.trans s2)⟩⟩) hK
  | false => exact .of (pe_ifExp h.pt pe_fls (h2 rfl).pe) (fun σ H Q q k => ⟨q, fun H1 s1 => iteF <| ⟨q.same s1, fun v H2 s2 => k v H2 (s1.trans s2)⟩⟩) hK
end
end Nk
set_option Elab.async false
set_option linter.all false
set_option maxRecDepth 100000
set_option maxHeartbeats 4000000
namespace Nk
open PySem L2

/-! data of ints -/
theorem Dq.ints_eq {K : PySem.W.Frag} {H : Hp} : ∀ {vs : List V} {ns : List Int}, DqAll K H vs (ns.map PyData.int) → vs = ns.map V.int
  | _, [], h => by cases h; rfl
  | _, n :: ns, h => by
    cases h with
    | cons a t =>
      cases a
      rw [Dq.ints_eq t]
      rfl
theorem Dq.bls_eq {K : PySem.W.Frag} {H : Hp} : ∀ {vs : List V} {bs : List Bool}, DqAll K H vs (bs.map PyData.bool) → vs = bs.map V.bl
  | _, [], h => by cases h; rfl
  | _, n :: ns, h => by
    cases h with
    | cons a t =>
      cases a
      rw [Dq.bls_eq t]
      rfl
/-- the greatest -/
def mxL : Int → List Int → Int
  | x, [] => x
  | x, y :: ys => mxL (if y > x then y else x) ys
theorem mxL_mem : ∀ (x : Int) (ys : List Int), mxL x ys ∈ x :: ys
  | x, [] => by simp [mxL]
  | x, y :: ys => by
    have ih := mxL_mem (if y > x then y else x) ys
    unfold mxL
    rcases List.mem_cons.mp ih with h | h
    · rw [h]
      by_cases z : y > x
      · rw [if_pos z]; simp
      · rw [if_neg z]; simp
    · exact List.mem_cons_of_mem _ (List.mem_cons_of_mem _ h)
theorem mxL_ge : ∀ (x : Int) (ys : List Int), ∀ z ∈ x :: ys, z ≤ mxL x ys
  | x, [], z, h => by simp at h; subst h; exact Int.le_refl _
  | x, y :: ys, z, h => by
    unfold mxL
    have ih := mxL_ge (if y > x then y else x) ys
    have h0 := ih _ List.mem_cons_self
    rcases List.mem_cons.mp h with h | h
    · subst h
      by_cases q : y > z
      · rw [if_pos q] at h0 ⊢; omega
      · rw [if_neg q] at h0 ⊢; exact h0
    · rcases List.mem_cons.mp h with h | h
      · subst h
        by_cases q : z > x
        · rw [if_pos q] at h0 ⊢; exact h0
        · rw [if_neg q] at h0 ⊢; omega
      · exact ih z (List.mem_cons_of_mem _ h)
theorem mxL_eq {x m : Int} {ys : List Int} (h1 : m ∈ x :: ys) (h2 : ∀ z ∈ x :: ys, z ≤ m) : m = mxL x ys := by
  have a := mxL_ge x ys m h1
  have b := h2 _ (mxL_mem x ys)
  omega
/-- the greatest of none: this one -/
def mxD (d : Int) : List Int → Int
  | [] => d
  | x :: xs => mxL x xs
section
variable {K : PySem.W.Frag} {i j : Int} {a b : PyData} {s t : List PyData}
theorem o_add : Op2 K (rI0 fun i j => .int (i + j)) (.int i) (.int j) (.int (i + j)) := fun x y H Q h g k => by cases h; cases g; exact ⟨i, j, rfl, rfl, k _ H (Same.refl H) (.int _)⟩
theorem o_sub : Op2 K (rI0 fun i j => .int (i - j)) (.int i) (.int j) (.int (i - j)) := fun x y H Q h g k => by cases h; cases g; exact ⟨i, j, rfl, rfl, k _ H (Same.refl H) (.int _)⟩
theorem o_i {C : Int → Int → Prop} {g : Int → Int → Int} (h : C i j) : Op2 K (rI C fun i j => .int (g i j)) (.int i) (.int j) (.int (g i j)) := fun x y H Q h1 h2 k => by cases h1; cases h2; exact ⟨i, j, rfl, rfl, h, k _ H (Same.refl H) (.int _)⟩
theorem o_lt : Op2 K (rI0 fun i j => .bl (decide (i < j))) (.int i) (.int j) (.bool (decide (i < j))) := fun x y H Q h g k => by cases h; cases g; exact ⟨i, j, rfl, rfl, k _ H (Same.refl H) (.bl _)⟩
theorem o_le : Op2 K (rI0 fun i j => .bl (decide (i ≤ j))) (.int i) (.int j) (.bool (decide (i ≤ j))) := fun x y H Q h g k => by cases h; cases g; exact ⟨i, j, rfl, rfl, k _ H (Same.refl H) (.bl _)⟩
theorem o_gt : Op2 K (rI0 fun i j => .bl (decide (i > j))) (.int i) (.int j) (.bool (decide (i > j))) := fun x y H Q h g k => by cases h; cases g; exact ⟨i, j, rfl, rfl, k _ H (Same.refl H) (.bl _)⟩
theorem o_ge : Op2 K (rI0 fun i j => .bl (decide (i ≥ j))) (.int i) (.int j) (.bool (decide (i ≥ j))) := fun x y H Q h g k => by cases h; cases g; exact ⟨i, j, rfl, rfl, k _ H (Same.refl H) (.bl _)⟩
theorem o_eq : Op2 K rEq (.int i) (.int j) (.bool (decide (i = j))) := fun x y H Q h g k => by
  cases h; cases g
  refine ⟨rfl, ?_⟩
  have e : decide (V.int i = V.int j) = decide (i = j) := by rw [dec_int]; by_cases z : i = j <;> simp [z]
  rw [e]
  exact k _ H (Same.refl H) (.bl _)
theorem o_ne : Op2 K rNe (.int i) (.int j) (.bool (!decide (i = j))) := fun x y H Q h g k => by
  cases h; cases g
  refine ⟨rfl, ?_⟩
  have e : decide (V.int i = V.int j) = decide (i = j) := by rw [dec_int]; by_cases z : i = j <;> simp [z]
  rw [e]
  exact k _ H (Same.refl H) (.bl _)
theorem o_neS {x y : Str} : Op2 K rNe (.str x) (.str y) (.bool (!decide (x = y))) := fun u v H Q h g k => by
  cases h; cases g
  refine ⟨rfl, ?_⟩
  have e : decide (V.str x = V.str y) = decide (x = y) := by by_cases z : x = y <;> simp [z]
  rw [e]
  exact k _ H (Same.refl H) (.bl _)
theorem o_eqS {x y : Str} : Op2 K rEq (.str x) (.str y) (.bool (decide (x = y))) := fun u v H Q h g k => by
  cases h; cases g
  refine ⟨rfl, ?_⟩
  have e : decide (V.str x = V.str y) = decide (x = y) := by by_cases z : x = y <;> simp [z]
  rw [e]
  exact k _ H (Same.refl H) (.bl _)
theorem o_eqD (ha : SeqAt.shaped a = true) (hb : SeqAt.shaped b = true) : Op2 K (rEqD K) a b (.bool (PyData.eqv a b)) := fun x y H Q h g k =>
  ⟨a, b, h.dp (by unfold SeqAt.shaped at ha; exact (Bool.and_eq_true _ _ ▸ ha).1), g.dp (by unfold SeqAt.shaped at hb; exact (Bool.and_eq_true _ _ ▸ hb).1), ha, hb, k _ H (Same.refl H) (.bl _)⟩
theorem o_neD (ha : SeqAt.shaped a = true) (hb : SeqAt.shaped b = true) : Op2 K (rNeD K) a b (.bool (!PyData.eqv a b)) := fun x y H Q h g k =>
  ⟨a, b, h.dp (by unfold SeqAt.shaped at ha; exact (Bool.and_eq_true _ _ ▸ ha).1), g.dp (by unfold SeqAt.shaped at hb; exact (Bool.and_eq_true _ _ ▸ hb).1), ha, hb, k _ H (Same.refl H) (.bl _)⟩
theorem DqAll.atI {H : Hp} {vs : List V} {k : Int} {d : PyData} (h : DqAll K H vs s) (e : atI s k = some d) : ∃ v, L2.atI vs k = some v ∧ Dq K H v d := by
  have hl := h.length
  unfold L2.atI at e ⊢
  rw [hl]
  cases q : ixN s.length k with
  | none => rw [q] at e; cases e
  | some m =>
    rw [q] at e
    have e' : s[m]? = some d := e
    have hm : m < vs.length := by
      have := (List.getElem?_eq_some_iff.mp e').1
      omega
    have hv : vs[m]? = some vs[m] := List.getElem?_eq_getElem hm
    obtain ⟨d', h1, h2⟩ := h.get hv
    rw [e'] at h1
    cases h1
    exact ⟨_, hv, h2⟩
theorem o_ixT {d : PyData} (h : atI s j = some d) : Op2 K (rIxT K) (.tuple s) (.int j) d := fun x y H Q h1 h2 k => by
  cases h1 with
  | tup hp ha =>
    cases h2
    obtain ⟨v, e, q⟩ := ha.atI h
    exact ⟨_, _, _, v, rfl, rfl, SqT.of hp, e, k v H (Same.refl H) q⟩
theorem o_ixL {d : PyData} (h : atI s j = some d) : Op2 K (rIxL K) (.list s) (.int j) d := fun x y H Q h1 h2 k => by
  cases h1 with
  | lst hp ha =>
    cases h2
    obtain ⟨v, e, q⟩ := ha.atI h
    exact ⟨_, _, _, v, rfl, rfl, SqL.of hp, e, k v H (Same.refl H) q⟩
theorem o_catT (h : s.length + t.length ≤ sizeLine) : Op2 K (rCatA K) (.tuple s) (.tuple t) (.tuple (s ++ t)) := fun x y H Q h1 h2 k => by
  cases h1 with
  | tup hp ha =>
    cases h2 with
    | tup hq hb =>
      refine ⟨_, _, _, _, rfl, rfl, SqT.of hp, SqT.of hq, by rw [ha.length, hb.length]; exact h, fun e => ?_, fun e1 e2 => ?_, fun e1 e2 p hpn => ?_⟩
      · subst e
        cases ha
        exact k _ H (Same.refl H) (.tup hq hb)
      · subst e2
        cases hb
        rw [List.append_nil] at k
        exact k _ H (Same.refl H) (.tup hp ha)
      · exact k _ _ (same_new hpn) (.tup upd_same ((ha.append hb).same (same_new hpn)))
theorem o_catL (h : s.length + t.length ≤ sizeLine) : Op2 K rCat (.list s) (.list t) (.list (s ++ t)) := fun x y H Q h1 h2 k => by
  cases h1 with
  | lst hp ha =>
    cases h2 with
    | lst hq hb =>
      exact ⟨_, _, _, _, rfl, rfl, hp, hq, by rw [ha.length, hb.length]; exact h, fun p hpn => k _ _ (same_new hpn) (.lst upd_same ((ha.append hb).same (same_new hpn)))⟩
theorem DqAll.rep {H : Hp} {vs : List V} (h : DqAll K H vs s) : ∀ n : Nat, DqAll K H (List.replicate n vs).flatten (List.replicate n s).flatten
  | 0 => .nil
  | n + 1 => by
    rw [List.replicate_succ, List.replicate_succ, List.flatten_cons, List.flatten_cons]
    exact h.append (DqAll.rep h n)
theorem rep_same {α : Type} {xs : List α} {k : Int} (h : xs = [] ∨ k = 1) : (List.replicate k.toNat xs).flatten = xs := by
  rcases h with z | z
  · subst z
    induction k.toNat with
    | zero => rfl
    | succ n ih => rw [List.replicate_succ, List.flatten_cons, ih]; rfl
  · subst z
    simp
theorem o_repT (h0 : -1000 ≤ j) (h1 : j ≤ 1000) (hl : s.length ≤ 1000) : Op2 K (rRepA K) (.tuple s) (.int j) (.tuple (List.replicate j.toNat s).flatten) := fun x y H Q g1 g2 k => by
  cases g1 with
  | tup hp ha =>
    cases g2
    refine ⟨_, _, _, rfl, rfl, SqT.of hp, h0, h1, by rw [ha.length]; exact hl, fun z => ?_, fun _ p hpn => k _ _ (same_new hpn) (.tup upd_same ((ha.rep _).same (same_new hpn)))⟩
    have z' : s = [] ∨ j = 1 := by
      rcases z with z | z
      · subst z; cases ha; exact .inl rfl
      · exact .inr z
    rw [rep_same z'] at k
    exact k _ H (Same.refl H) (.tup hp ha)
theorem o_len {d : PyData} (h : d = .list s ∨ d = .tuple s) : OpN K (fun xs H Q => ∃ p ys, xs = [.ref p] ∧ (SqL K H p ys ∨ SqT K H p ys) ∧ Q (.int (ys.length : Nat)) H) [d] (.int (s.length : Nat)) := fun xs H Q h1 k => by
  cases h1 with
  | cons h1 hn =>
    cases hn
    rcases h with rfl | rfl
    · cases h1 with
      | lst hp ha => exact ⟨_, _, rfl, .inl (SqL.of hp), by rw [ha.length]; exact k _ H (Same.refl H) (.int _)⟩
    · cases h1 with
      | tup hp ha => exact ⟨_, _, rfl, .inr (SqT.of hp), by rw [ha.length]; exact k _ H (Same.refl H) (.int _)⟩
theorem o_tuple {d : PyData} (h : d = .list s ∨ d = .tuple s) : OpN K (fun xs H Q => ∃ p ys, xs = [.ref p] ∧ ((SqL K H p ys ∧ ∀ l, H l = none → Q (.ref l) (upd H l (.tup ys))) ∨ (SqT K H p ys ∧ Q (.ref p) H))) [d] (.tuple s) := fun xs H Q h1 k => by
  cases h1 with
  | cons h1 hn =>
    cases hn
    rcases h with rfl | rfl
    · cases h1 with
      | lst hp ha => exact ⟨_, _, rfl, .inl ⟨SqL.of hp, fun l hl => k _ _ (same_new hl) (.tup upd_same (ha.same (same_new hl)))⟩⟩
    · cases h1 with
      | tup hp ha => exact ⟨_, _, rfl, .inr ⟨SqT.of hp, k _ H (Same.refl H) (.tup hp ha)⟩⟩
theorem o_list {d : PyData} (h : d = .list s ∨ d = .tuple s) : OpN K (fun xs H Q => ∃ p ys, xs = [.ref p] ∧ (SqL K H p ys ∨ SqT K H p ys) ∧ ∀ l, H l = none → Q (.ref l) (upd H l (.lst ys))) [d] (.list s) := fun xs H Q h1 k => by
  cases h1 with
  | cons h1 hn =>
    cases hn
    rcases h with rfl | rfl
    · cases h1 with
      | lst hp ha => exact ⟨_, _, rfl, .inl (SqL.of hp), fun l hl => k _ _ (same_new hl) (.lst upd_same (ha.same (same_new hl)))⟩
    · cases h1 with
      | tup hp ha => exact ⟨_, _, rfl, .inr (SqT.of hp), fun l hl => k _ _ (same_new hl) (.lst upd_same (ha.same (same_new hl)))⟩
theorem o_sum {ns : List Int} : OpN K (rSum K) [.list (ns.map .int)] (.int ns.sum) := fun xs H Q h1 k => by
  cases h1 with
  | cons h1 hn =>
    cases hn
    cases h1 with
    | lst hp ha =>
      have := Dq.ints_eq ha
      subst this
      exact ⟨_, ns, rfl, SqL.of hp, k _ H (Same.refl H) (.int _)⟩
theorem o_all {bs : List Bool} : OpN K (rAll K) [.list (bs.map .bool)] (.bool (bs.all id)) := fun xs H Q h1 k => by
  cases h1 with
  | cons h1 hn =>
    cases hn
    cases h1 with
    | lst hp ha =>
      have := Dq.bls_eq ha
      subst this
      exact ⟨_, bs, rfl, SqL.of hp, k _ H (Same.refl H) (.bl _)⟩
theorem o_any {bs : List Bool} : OpN K (rAny K) [.list (bs.map .bool)] (.bool (bs.any id)) := fun xs H Q h1 k => by
  cases h1 with
  | cons h1 hn =>
    cases hn
    cases h1 with
    | lst hp ha =>
      have := Dq.bls_eq ha
      subst this
      exact ⟨_, bs, rfl, SqL.of hp, k _ H (Same.refl H) (.bl _)⟩
theorem o_max {n : Int} {ns : List Int} : OpN K (rMax K) [.list ((n :: ns).map .int)] (.int (mxL n ns)) := fun xs H Q h1 k => by
  cases h1 with
  | cons h1 hn =>
    cases hn
    cases h1 with
    | lst hp ha =>
      have := Dq.ints_eq ha
      subst this
      exact ⟨_, n :: ns, rfl, SqL.of hp, by simp, fun m h1 h2 => by rw [mxL_eq h1 h2]; exact k _ H (Same.refl H) (.int _)⟩
theorem o_abs : OpN K (fun xs H Q => ∃ i, xs = [.int i] ∧ Q (.int (if i < 0 then -i else i)) H) [.int i] (.int (if i < 0 then -i else i)) := fun xs H Q h1 k => by
  cases h1 with
  | cons h1 hn =>
    cases hn
    cases h1
    exact ⟨i, rfl, k _ H (Same.refl H) (.int _)⟩
end
theorem kmax {X : Cx} (K : PySem.W.Frag) (hK : X.K = K := by rfl) (hc : X.calm = true := by rfl) : CallR X (.builtin "max") (rMax K) := by subst hK; exact cr_max hc
/-! max(.., default=) -/
def rMaxDef (K : PySem.W.Frag) : List V → List V → Hp → VK → Prop := fun vs zs H Q => ∃ (a : Addr) (ns : List Int) (i : Int), vs = [V.ref a] ∧ zs = [V.int i] ∧ SqL K H a (ns.map V.int) ∧ Q (.int (mxD i ns)) H
theorem maxOf_mxL : ∀ (x : Int) (ys : List Int), PySem.W.maxOf x ys = mxL x ys
  | x, [] => rfl
  | x, y :: ys => by
    have h : PySem.W.maxOf x (y :: ys) = PySem.W.maxOf (if decide (x < y) = true then y else x) ys := rfl
    rw [h, maxOf_mxL]
    unfold mxL
    by_cases z : y > x
    · rw [if_pos z, if_pos (by simpa using z)]
      cases ys <;> rfl
    · rw [if_neg z, if_neg (by simpa using z)]
      cases ys <;> rfl
theorem cr_maxDef {X : Cx} (K : PySem.W.Frag) (hu : X.A.units + 64 < cLine) (hK : X.K = K := by rfl) (hc : X.calm = true := by rfl) : CallRK X (.builtin "max") [Str.ofString "default"] (rMaxDef K) := by
  subst hK
  intro pins s σ H xs zs us ws Q I r rz h
  obtain ⟨a, ns, i, rfl, rfl, hs, q⟩ := h
  obtain ⟨its, rv, hl, _⟩ := I.list hs
  rw [Vals.ref1 r]
  cases rz with
  | cons r1 rn =>
    cases rn
    obtain ⟨t, rfl⟩ := r1
    have hi := rv.ints
    refine PySem.W.max_list_datum_default (xs := ns) (I.ok.hd hc) hl.isList (PySem.W.HoldAll.of_ints (by simpa using hi)) (by show _ + 1 + 0 < cLine; omega) (fun e h' tk k => ?_) (fun y ys j v h' tk e hj hv k => ?_)
    · subst e
      exact ⟨.int i, H, I.kept k, ⟨_, rfl⟩, q⟩
    · subst e
      obtain ⟨as, hr⟩ := hv
      rw [maxOf_mxL] at hr
      have hr' : PySem.Reads h' v (.int (mxL y ys)) as := hr
      cases hr'
      exact ⟨.int _, H, I.kept k, ⟨_, rfl⟩, q⟩
section
variable {K : PySem.W.Frag} {X : Cx} {n : Nat} {Γ Δ : List (Nat × PyData)} {e a b c : Expr} {es : List Expr} {d da db dc : PyData} {ds : List PyData} {pos p : Pos}
theorem pd_maxDef {a : Expr} {i : Int} {ns : List Int} {kp p pos : Pos} (hu : X.A.units + 64 < cLine) (ha : PD K X n Γ e (.list (ns.map .int))) (hk : PD K X n Γ a (.int i)) (hg : Gl X "max") (hm : X.mg "max" = none) (hc : X.calm = true := by rfl) (hv : bootBuiltins "max" = some (.builtin "max") := by decide +kernel)
    (hs : starEach [e] X.env = (false, eval e X.env) :: starEach [] X.env := by rfl)
    (he : backTo pos (starEach [e] X.env) = (false, eval e X.env) :: backTo pos (starEach [] X.env) := by rfl) (hpl : (backTo pos (starEach [e] X.env)).any (·.1) = false := by rfl)
    (hall : (backToKw pos (keywordEach [⟨some (Str.ofString "default"), a, kp⟩] X.env)).all (·.1.isSome) = true := by rfl) (hnone : (backToKw pos (keywordEach [⟨some (Str.ofString "default"), a, kp⟩] X.env)).any (·.1.isNone) = false := by rfl) (hks : (backToKw pos (keywordEach [⟨some (Str.ofString "default"), a, kp⟩] X.env)).filterMap (·.1) = [Str.ofString "default"] := by rfl) :
    PD K X n Γ (.Call (.Name "max" p) [e] [⟨some (Str.ofString "default"), a, kp⟩] pos) (.int (mxD i ns)) :=
  .of (pe_callBK (cr_maxDef K hu ha.hK hc) hg hm hv (pa_cons ha.pe pa_nil hs) (pk_cons hk.pe pk_nil) (by decide) (by decide) he hpl hall hnone hks) (fun σ H Q g k => ⟨g, fun v H1 s1 q1 => ⟨g.same s1, fun w H2 s2 q2 => by
    cases q2
    cases q1 with
    | lst hp hx =>
      have := Dq.ints_eq hx
      subst this
      exact ⟨_, ns, i, rfl, rfl, SqL.of (s2 _ _ hp), k _ H2 (s1.trans s2) (.int _)⟩⟩⟩) ha.hK
end
end Nk
set_option Elab.async false
set_option linter.all false
set_option maxRecDepth 100000
set_option maxHeartbeats 4000000
namespace Nk
open PySem L2

/-! calls of defs that tell data of data -/
def spP (K : PySem.W.Frag) {α : Type} (enc : α → List PyData) (P : α → Prop) (out : α → PyData) : Sp := fun vs H Q _ => ∃ a, P a ∧ DqAll K H vs (enc a) ∧ ∀ v H', Same H H' → Dq K H' v (out a) → Q v H'
section
variable {K : PySem.W.Frag} {X : Cx} {n : Nat} {Γ Δ : List (Nat × PyData)} {e a b c : Expr} {es : List Expr} {d da db dc : PyData} {ds : List PyData} {pos p : Pos}
theorem pd_call {α : Type} {enc : α → List PyData} {P : α → Prop} {out : α → PyData} {x : Str} {k : Nat} {ps : List Str} (D : Dk X.prog X.w X.K X.mg X.base k x ps (spP K enc P out)) (hr : Room k X.A) (z : α) (hp : P z) (ha : PDs K X n Γ (e :: es) ds) (hd : ds = enc z := by rfl) (ho : out z = d := by rfl) (hK : X.K = K := by rfl) (hg : Gl X x := by rfl) (hdb : (x == ("__debug__" : Str)) = false := by decide)
    (he : starEach (e :: es) X.env = (false, eval e X.env) :: starEach es X.env := by rfl) (hpl : (backTo pos (starEach es X.env)).any (·.1) = false := by rfl) : PD K X n Γ (.Call (.Name x p) (e :: es) [] pos) d :=
  ho ▸ .of (pe_dk D hr ha.pa hg hdb he hpl) (fun σ H Q g q => ⟨g, fun vs H1 s1 h1 => ⟨z, hp, by rw [List.append_nil, ← hd]; exact h1, fun v H' s2 h2 => q v H' (s1.trans s2) h2⟩⟩) hK

/-! walks: each turn gives the next of the data -/
def YD (K : PySem.W.Frag) (ds : List PyData) : Nat → Hp → V → Hp → Prop := fun i H x H' => Same H H' ∧ ∃ d, ds[i]? = some d ∧ Dq K H' x d
structure PWk (K : PySem.W.Frag) (X : Cx) (n : Nat) (Γ : List (Nat × PyData)) (tg it : Expr) (ds : List PyData) : Prop where
  hK : X.K = K
  pi : PI X tg it (fun σ H R => Env K n Γ σ H ∧ ∀ J H1, Same H H1 → Walk J ds.length (Same H1) (YD K ds) → R J H1)
theorem pi_imp {X : Cx} {tg it : Expr} {t t' : TI} (h : PI X tg it t) (i : ∀ σ H R, t' σ H R → t σ H R) : PI X tg it t' := ⟨fun pins s σ H R I q => h.run pins s σ H R I (i σ H R q)⟩
theorem walk_tupD {H1 : Hp} {p : Addr} {vs : List V} (hp : H1 p = some (.tup vs)) (ha : DqAll K H1 vs ds) : Walk (Itt K p) ds.length (Same H1) (YD K ds) := by
  rw [← ha.length]
  refine (walk_tup (K := K) (a := p) (xs := vs)).mono (fun H s => SqT.of (s _ _ hp)) fun i H x H' hi s y => ?_
  obtain ⟨rfl, hx⟩ := y
  obtain ⟨d, h1, h2⟩ := ha.get hx
  exact ⟨Same.refl _, d, h1, h2.same s⟩
theorem walk_lstD {H1 : Hp} {p : Addr} {vs : List V} (hp : H1 p = some (.lst vs)) (ha : DqAll K H1 vs ds) : Walk (Itl K p) ds.length (Same H1) (YD K ds) := by
  rw [← ha.length]
  refine (walk_list (K := K) (a := p) (xs := vs)).mono (fun H s => SqL.of (s _ _ hp)) fun i H x H' hi s y => ?_
  obtain ⟨rfl, hx⟩ := y
  obtain ⟨d, h1, h2⟩ := ha.get hx
  exact ⟨Same.refl _, d, h1, h2.same s⟩
theorem wk_tup {tg : Expr} (h : PD K X n Γ a (.tuple ds)) : PWk K X n Γ tg a ds :=
  ⟨h.hK, pi_imp (kpiT K h.pe h.hK) fun σ H R q => ⟨q.1, fun v H1 s1 z => by
    cases z with
    | tup hp ha => exact ⟨_, rfl, ⟨_, SqT.of hp⟩, q.2 _ H1 s1 (walk_tupD hp ha)⟩⟩⟩
theorem wk_lst {tg : Expr} (h : PD K X n Γ a (.list ds)) : PWk K X n Γ tg a ds :=
  ⟨h.hK, pi_imp (kpiL K h.pe h.hK) fun σ H R q => ⟨q.1, fun v H1 s1 z => by
    cases z with
    | lst hp ha => exact ⟨_, rfl, ⟨_, SqL.of hp⟩, q.2 _ H1 s1 (walk_lstD hp ha)⟩⟩⟩
def rgD (lo : Int) (m : Nat) : List PyData := (List.range m).map fun (k : Nat) => .int (lo + (k : Int))
theorem rgD_length (lo : Int) (m : Nat) : (rgD lo m).length = m := by unfold rgD; rw [List.length_map, List.length_range]
theorem rgD_get {lo : Int} {m i : Nat} (h : i < m) : (rgD lo m)[i]? = some (.int (lo + i)) := by
  unfold rgD
  rw [List.getElem?_map, List.getElem?_range h]
  rfl
theorem walk_rg {H1 : Hp} {lo : Int} {m : Nat} : Walk (Itr lo m) (rgD lo m).length (Same H1) (YD K (rgD lo m)) := by
  rw [rgD_length]
  refine walk_range.mono (fun _ _ => trivial) fun i H x H' hi s y => ?_
  obtain ⟨rfl, rfl⟩ := y
  exact ⟨Same.refl _, _, rgD_get hi, .int _⟩
theorem wk_range {tg : Expr} {i : Int} (h : PD K X n Γ a (.int i)) (h1 : i < 2 ^ 62) (h0 : -(2 ^ 62) ≤ i) (hg : Gl X "range") (hm : X.mg "range" = none) (hs : starEach [a] X.env = [(false, eval a X.env)] := by rfl) : PWk K X n Γ tg (.Call (.Name "range" p) [a] [] pos) (rgD 0 i.toNat) :=
  ⟨h.hK, pi_imp (pi_range1 hg hm (pa_cons h.pe pa_nil hs) hs) fun σ H R q => ⟨q.1, fun v H1 s1 z => by
    cases z
    exact ⟨i, rfl, h0, h1, q.2 _ H1 s1 walk_rg⟩⟩⟩
theorem wk_range2 {tg : Expr} {i j : Int} (h : PD K X n Γ a (.int i)) (g : PD K X n Γ b (.int j)) (hb : -(2 ^ 62) ≤ i ∧ i < 2 ^ 62 ∧ -(2 ^ 62) ≤ j ∧ j < 2 ^ 62) (hg : Gl X "range") (hm : X.mg "range" = none) (hs : starEach [a, b] X.env = [(false, eval a X.env), (false, eval b X.env)] := by rfl) (hs2 : starEach [b] X.env = [(false, eval b X.env)] := by rfl) :
    PWk K X n Γ tg (.Call (.Name "range" p) [a, b] [] pos) (rgD i (j - i).toNat) :=
  ⟨h.hK, pi_imp (pi_range2 hg hm (pa_cons h.pe (pa_cons g.pe pa_nil hs2) (by rw [hs, hs2])) hs hs2) fun σ H R q => ⟨q.1, fun v H1 s1 z => ⟨q.1.same s1, fun w H2 s2 z2 => by
    cases z
    cases z2
    exact ⟨i, j, rfl, hb, q.2 _ H2 (s1.trans s2) walk_rg⟩⟩⟩⟩
def zipD (s t : List PyData) : List PyData := (s.zip t).map fun p => .tuple [p.1, p.2]
theorem zipD_length (s t : List PyData) : (zipD s t).length = min s.length t.length := by unfold zipD; rw [List.length_map, List.length_zip]
theorem zipD_get {s t : List PyData} {i : Nat} {x y : PyData} (h : s[i]? = some x) (g : t[i]? = some y) : (zipD s t)[i]? = some (.tuple [x, y]) := by
  unfold zipD
  rw [List.getElem?_map, (List.getElem?_zip_eq_some (z := (x, y))).mpr ⟨h, g⟩]
  rfl
theorem walk_zipT {m : Nat} {p q : Addr} {xs ys : List V} (hn : m = min xs.length ys.length) : Walk (RZ.ItzT K p q) m (fun H => SqT K H p xs ∧ SqT K H q ys) (YPair (fun i => xs[i]?) (fun i => ys[i]?)) := by
  subst hn
  refine ⟨fun i _ hi q => ?_, fun _ q => ⟨xs, ys, q.1, q.2, by omega⟩, fun i H v H' _ q y => ?_⟩
  · have h1 : i < xs.length := by omega
    have h2 : i < ys.length := by omega
    exact ⟨xs, ys, xs[i], ys[i], q.1, q.2, by simp [h1], by simp [h2]⟩
  · obtain ⟨T, x, z, h1, h2, h3, h4, h5⟩ := y
    exact ⟨T, x, z, h1, h2, h3, h4 xs q.1, h5 ys q.2⟩
theorem wk_zipT {elts : List Expr} {kk : Nat} {tpos : Pos} {s t : List PyData} (h : PD K X n Γ a (.tuple s)) (g : PD K X n Γ b (.tuple t)) (hg : Gl X "zip") (hm : X.mg "zip" = none)
    (hs : starEach [a, b] X.env = (false, eval a X.env) :: starEach [b] X.env := by rfl) (hs2 : starEach [b] X.env = (false, eval b X.env) :: starEach [] X.env := by rfl) (hpl : (backTo pos (starEach [b] X.env)).any (·.1) = false := by rfl) :
    PWk K X n Γ (.Tuple elts kk tpos) (.Call (.Name "zip" p) [a, b] [] pos) (zipD s t) := by
  have hK := h.hK
  refine ⟨hK, pi_imp (RZ.pi_zipA hg hm (pa_cons h.pe (pa_cons g.pe pa_nil hs2) hs) hs hpl) fun σ H R q => ⟨q.1, fun v H1 s1 z => ⟨q.1.same s1, fun w H2 s2 z2 => ?_⟩⟩⟩
  subst hK
  cases z with
  | tup hp ha =>
    cases z2 with
    | tup hq hb =>
      have ha := ha.same s2
      have hp := s2 _ _ hp
      refine ⟨_, _, _, _, rfl, .inr ⟨SqT.of hp, SqT.of hq, q.2 _ H2 (s1.trans s2) ?_⟩⟩
      rw [zipD_length, ← ha.length, ← hb.length]
      refine (walk_zipT rfl).mono (fun H s => ⟨SqT.of (s _ _ hp), SqT.of (s _ _ hq)⟩) fun i H v H' hi s y => ?_
      obtain ⟨T, x, y, rfl, hT, rfl, e1, e2⟩ := y
      obtain ⟨d1, g1, f1⟩ := ha.get e1
      obtain ⟨d2, g2, f2⟩ := hb.get e2
      have sT : Same H (upd H T (.tup [x, y])) := same_new hT
      exact ⟨sT, _, zipD_get g1 g2, .tup upd_same (.cons ((f1.same s).same sT) (.cons ((f2.same s).same sT) .nil))⟩
theorem wk_zipL {elts : List Expr} {kk : Nat} {tpos : Pos} {s t : List PyData} (h : PD K X n Γ a (.list s)) (g : PD K X n Γ b (.list t)) (hg : Gl X "zip") (hm : X.mg "zip" = none)
    (hs : starEach [a, b] X.env = (false, eval a X.env) :: starEach [b] X.env := by rfl) (hs2 : starEach [b] X.env = (false, eval b X.env) :: starEach [] X.env := by rfl) (hpl : (backTo pos (starEach [b] X.env)).any (·.1) = false := by rfl) :
    PWk K X n Γ (.Tuple elts kk tpos) (.Call (.Name "zip" p) [a, b] [] pos) (zipD s t) := by
  have hK := h.hK
  refine ⟨hK, pi_imp (RZ.pi_zipA hg hm (pa_cons h.pe (pa_cons g.pe pa_nil hs2) hs) hs hpl) fun σ H R q => ⟨q.1, fun v H1 s1 z => ⟨q.1.same s1, fun w H2 s2 z2 => ?_⟩⟩⟩
  subst hK
  cases z with
  | lst hp ha =>
    cases z2 with
    | lst hq hb =>
      have ha := ha.same s2
      have hp := s2 _ _ hp
      refine ⟨_, _, _, _, rfl, .inl ⟨SqL.of hp, SqL.of hq, q.2 _ H2 (s1.trans s2) ?_⟩⟩
      rw [zipD_length, ← ha.length, ← hb.length]
      refine (walk_zip rfl).mono (fun H s => ⟨SqL.of (s _ _ hp), SqL.of (s _ _ hq)⟩) fun i H v H' hi s y => ?_
      obtain ⟨T, x, y, rfl, hT, rfl, e1, e2⟩ := y
      obtain ⟨d1, g1, f1⟩ := ha.get e1
      obtain ⟨d2, g2, f2⟩ := hb.get e2
      have sT : Same H (upd H T (.tup [x, y])) := same_new hT
      exact ⟨sT, _, zipD_get g1 g2, .tup upd_same (.cons ((f1.same s).same sT) (.cons ((f2.same s).same sT) .nil))⟩
def enumD (s : List PyData) : List PyData := s.zipIdx.map fun p => .tuple [.int (p.2 : Nat), p.1]
theorem enumD_length (s : List PyData) : (enumD s).length = s.length := by unfold enumD; rw [List.length_map, List.length_zipIdx]
theorem wk_enumT {elts : List Expr} {kk : Nat} {tpos : Pos} {s : List PyData} (h : PD K X n Γ a (.tuple s)) (hg : Gl X "enumerate") (hm : X.mg "enumerate" = none) (hs : starEach [a] X.env = [(false, eval a X.env)] := by rfl) :
    PWk K X n Γ (.Tuple elts kk tpos) (.Call (.Name "enumerate" p) [a] [] pos) (enumD s) :=
  ⟨h.hK, pi_imp (pi_enumT hg hm (pa_cons h.pe pa_nil hs) hs h.hK) fun σ H R q => ⟨q.1, fun v H1 s1 z => by
    cases z with
    | tup hp ha =>
      refine ⟨_, _, rfl, SqT.of hp, q.2 _ H1 s1 ?_⟩
      rw [enumD_length, ← ha.length]
      refine walk_enT.mono (fun H s => SqT.of (s _ _ hp)) fun i H v H' hi s y => ?_
      obtain ⟨T, x, y, rfl, hT, rfl, e1, e2⟩ := y
      cases e1
      obtain ⟨d2, g2, f2⟩ := ha.get e2
      have sT : Same H (upd H T (.tup [.int (i : Nat), y])) := same_new hT
      refine ⟨sT, _, ?_, .tup upd_same (.cons (.int _) (.cons ((f2.same s).same sT) .nil))⟩
      unfold enumD
      rw [List.getElem?_map, List.getElem?_zipIdx, g2]
      simp⟩⟩

/-! targets -/
/-- x = data: the slots vs hold Δ -/
structure Tg (K : PySem.W.Frag) (n : Nat) (g : TG) (vs : List Nat) (d : PyData) (Δ : List (Nat × PyData)) : Prop where
  run : ∀ (x : V) (σ : St) (H : Hp) (Q : St → Hp → Prop), σ.length = n → Dq K H x d → (∀ σ2, wipe σ2 vs = wipe σ vs → σ2.length = n → (∀ j, vs.contains j = false → σ2[j]? = σ[j]?) → EnvL K Δ σ2 H → Q σ2 H) → g x σ H Q
theorem wipe_set1 {σ : St} {i : Nat} {v : Option V} : wipe (σ.set i v) [i] = wipe σ [i] := by simp [wipe]
theorem tg1 {i : Nat} (hi : i < n) : Tg K n (gName i) [i] d [(i, d)] :=
  ⟨fun x σ H Q hl hd k => k _ wipe_set1 (by rw [List.length_set]; exact hl) (fun j hj => by
    have : i ≠ j := fun e => by subst e; simp at hj
    rw [List.getElem?_set_ne this]) ⟨⟨x, by rw [List.getElem?_set_self (by omega)], hd⟩, trivial⟩⟩
theorem wipe_set2 {σ : St} {i j : Nat} {v w : Option V} : wipe ((σ.set i v).set j w) [i, j] = wipe σ [i, j] := by
  unfold wipe wipe wipe
  apply List.ext_getElem?
  intro k
  by_cases h1 : i = k
  · subst h1
    by_cases h2 : j = i
    · subst h2; simp
    · by_cases z : i < σ.length
      · rw [List.getElem?_set_self (by simpa using z), List.getElem?_set_self (by simpa using z)]
      · rw [List.getElem?_eq_none (by simpa using z), List.getElem?_eq_none (by simpa using z)]
  · rw [List.getElem?_set_ne h1, List.getElem?_set_ne h1]
    by_cases h2 : j = k
    · subst h2
      by_cases z : j < σ.length
      · rw [List.getElem?_set_self (by simpa using z), List.getElem?_set_self (by simpa using z)]
      · rw [List.getElem?_eq_none (by simpa using z), List.getElem?_eq_none (by simpa using z)]
    · rw [List.getElem?_set_ne h2, List.getElem?_set_ne h2, List.getElem?_set_ne h2, List.getElem?_set_ne h1]
theorem tg2 {i j : Nat} (hi : i < n) (hj : j < n) (hij : i ≠ j) : Tg K n (gTup K 2 (gCons (gName i) (gCons (gName j) gNil))) [i, j] (.tuple [da, db]) [(i, da), (j, db)] := by
  refine ⟨fun x σ H Q hl hd k => ?_⟩
  cases hd with
  | tup hp ha =>
    cases ha with
    | cons h1 h2 =>
      cases h2 with
      | cons h2 h3 =>
        cases h3
        refine ⟨_, _, rfl, SqT.of hp, rfl, _, _, rfl, _, _, rfl, rfl, k _ wipe_set2 (by rw [List.length_set, List.length_set]; exact hl) (fun m hm => ?_) ⟨⟨_, ?_, h1⟩, ⟨_, ?_, h2⟩, trivial⟩⟩
        · have a1 : i ≠ m := fun e => by subst e; simp at hm
          have a2 : j ≠ m := fun e => by subst e; simp at hm
          rw [List.getElem?_set_ne a2, List.getElem?_set_ne a1]
        · rw [List.getElem?_set_ne hij.symm, List.getElem?_set_self (by omega)]
        · rw [List.getElem?_set_self (by rw [List.length_set]; omega)]

/-! comprehensions -/
mutual
theorem Dq.putN {H : Hp} {C : Addr} {xs : List V} {o : HO} (hC : H C = some (.lst xs)) : ∀ {v : V} {d : PyData}, noL d = true → Dq K H v d → Dq K (upd H C o) v d
  | _, _, _, .non => .non
  | _, _, _, .bl b => .bl b
  | _, _, _, .int i => .int i
  | _, _, _, .str x => .str x
  | _, _, c, .lst _ _ => by simp [noL] at c
  | _, _, c, .tup h t => .tup (by rw [upd_ne (ne_of h hC (by intro z; cases z))]; exact h) (DqAll.putN hC (by simpa [noL] using c) t)
  | _, _, _, .dnil h => .dnil (by rw [upd_ne (ne_of h hC (by intro z; cases z))]; exact h)
theorem DqAll.putN {H : Hp} {C : Addr} {xs : List V} {o : HO} (hC : H C = some (.lst xs)) : ∀ {vs : List V} {ds : List PyData}, noLs ds = true → DqAll K H vs ds → DqAll K (upd H C o) vs ds
  | _, _, _, .nil => .nil
  | _, _, c, .cons h t => by
    have c' := by simpa [noLs] using c
    exact .cons (Dq.putN hC c'.1 h) (DqAll.putN hC c'.2 t)
end
theorem noLs_all : ∀ {ds : List PyData}, (∀ d ∈ ds, noL d = true) → noLs ds = true
  | [], _ => by simp [noLs]
  | d :: ds, h => by simp [noLs, h d List.mem_cons_self, noLs_all fun x hx => h x (List.mem_cons_of_mem _ hx)]
theorem noLs_mem : ∀ {ds : List PyData} {d : PyData}, noLs ds = true → d ∈ ds → noL d = true
  | d :: ds, x, h, m => by
    have h' : noL d = true ∧ noLs ds = true := by simpa [noLs] using h
    rcases List.mem_cons.mp m with rfl | m
    · exact h'.1
    · exact noLs_mem h'.2 m
theorem wipe_in {τ : St} {j : Nat} : ∀ {l : List Nat}, l.contains j = true → (wipe τ l)[j]? = if j < τ.length then some none else none
  | [], h => by simp at h
  | v :: l, h => by
    unfold wipe
    by_cases e : v = j
    · subst e
      by_cases z : v < τ.length
      · rw [List.getElem?_set_self (by rw [wipe_length]; exact z), if_pos z]
      · rw [List.getElem?_eq_none (by rw [List.length_set, wipe_length]; omega), if_neg z]
    · rw [List.getElem?_set_ne e]
      refine wipe_in ?_
      rw [List.contains_cons] at h
      have : (j == v) = false := by simpa using fun q => e q.symm
      rw [this, Bool.false_or] at h
      exact h
theorem wipe_wipe (σ : St) (l : List Nat) : wipe (wipe σ l) l = wipe σ l := by
  apply List.ext_getElem?
  intro j
  by_cases hj : l.contains j = true
  · rw [wipe_in hj, wipe_in hj, wipe_length]
  · rw [wipe_get (by simpa using hj)]
theorem filter_take_succ {α : Type} (p : α → Bool) {l : List α} {i : Nat} {x : α} (h : l[i]? = some x) : (l.take (i + 1)).filter p = (l.take i).filter p ++ if p x then [x] else [] := by
  rw [List.take_add_one, h, List.filter_append]
  simp [List.filter_cons]
def ttEx (K : PySem.W.Frag) (n : Nat) (Γ : List (Nat × PyData)) {α : Type} (xs : List α) (Δ : α → List (Nat × PyData)) (keep : α → Bool) : TT := fun σ H Q => ∃ x, x ∈ xs ∧ tDb K n (Δ x ++ Γ) (keep x) σ H Q
def teEx (K : PySem.W.Frag) (n : Nat) (Γ : List (Nat × PyData)) {α : Type} (xs : List α) (Δ : α → List (Nat × PyData)) (keep : α → Bool) (out : α → PyData) : TE := fun σ H Q => ∃ x, (x ∈ xs ∧ keep x = true) ∧ tD K n (Δ x ++ Γ) (out x) σ H Q
/-- [e for x in xs if t], the items noL data -/
theorem pd_lcF {α : Type} {xs : List α} {enc : α → PyData} {out : α → PyData} {Δ : α → List (Nat × PyData)} {keep : α → Bool} {elt tg it : Expr} {ifs : List Expr} {scope : Scope} {own : List (Str × Nat)} {g : TG}
    (hc : X.calm = true) (nd : X.N.Nodup) (hi : PWk K X n Γ tg it (xs.map enc)) (ok : BlkOk X.N X.env.scope scope own) (hg : ∀ (s : Shared) (H : Hp) (C : Addr) (cl : List (Str × Addr)) (fp : List Addr), PG (X.blk s H scope (compEnvC scope cl C X.env) fp) tg g)
    (htg : ∀ x ∈ xs, Tg K n g (own.map (·.2)) (enc x) (Δ x)) (hoff : offK Γ (own.map (·.2)) = true)
    (ht : ∀ x ∈ xs, ∀ (s : Shared) (H : Hp) (C : Addr) (cl : List (Str × Addr)) (fp : List Addr), PTs (X.blk s H scope (compEnvC scope cl C X.env) fp) ifs (tDb K n (Δ x ++ Γ) (keep x)))
    (he : ∀ x ∈ xs, keep x = true → ∀ (s : Shared) (H : Hp) (C : Addr) (cl : List (Str × Addr)) (fp : List Addr), PE (X.blk s H scope (compEnvC scope cl C X.env) fp) elt (tD K n (Δ x ++ Γ) (out x)))
    (hno : ∀ x ∈ xs, noL (out x) = true) (hl : xs.length ≤ 100000) (hs : ∀ x, foldedSetIterable it X.env x = pure x := by intro _; rfl) :
    PD K X n Γ (.ListComp elt [⟨tg, it, ifs, 0⟩] scope pos) (.list ((xs.filter keep).map out)) := by
  have hK := hi.hK
  refine .of (pe_lc (wi := _) (g := g) (tt := ttEx K n Γ xs Δ keep) (te := teEx K n Γ xs Δ keep out) hc nd hi.pi ok hg
    (fun s H C cl fp => ⟨fun pins s' σ H' Q I ⟨x, hx, q⟩ => (ht x hx s H C cl fp).run pins s' σ H' Q I q⟩) (fun s H C cl fp => ⟨fun pins s' σ H' Q I ⟨x, hx, q⟩ => (he x hx.1 hx.2 s H C cl fp).run pins s' σ H' Q I q⟩) hs) (fun σ H Q gE k => ?_) hK
  refine ⟨gE, fun J H1 s1 w => fun C hC => ?_⟩
  refine lc_it (g := g) (tt := ttEx K n Γ xs Δ keep) (te := teEx K n Γ xs Δ keep out) (vs := own.map (·.2)) (σ := σ) (Qd := fun H => Q (.ref C) H) w (fun i H' => Same H1 H' ∧ ∃ vs, H' C = some (.lst vs) ∧ DqAll K H' vs (((xs.take i).filter keep).map out)) ⟨same_new hC, [], upd_same, by simpa using DqAll.nil⟩ (fun i H' _ h => h.1) ?_ ?_
  · rintro i x H2 H3 hi2 ⟨s2, vs, eC, hv⟩ ⟨s3, d, hd, qd⟩
    rw [List.length_map] at hi2
    rw [List.getElem?_map, List.getElem?_eq_getElem hi2] at hd
    have hd : enc xs[i] = d := Option.some.inj hd
    subst hd
    have hm := List.getElem_mem hi2
    refine (htg _ hm).run x _ H3 _ (by rw [wipe_length]; exact gE.1) qd fun σ2 w2 l2 o2 e2 => ⟨?_, xs[i], hm, ⟨l2, ?_⟩, fun H4 s4 => ?_⟩
    · rw [w2]
      exact wipe_wipe _ _
    · refine EnvL.append e2 ?_
      have g1 : EnvL K Γ (wipe σ (own.map (·.2))) H3 := EnvL.off (fun j hj => wipe_get hj) hoff (gE.2.same ((s1.trans s2).trans s3))
      exact EnvL.off o2 hoff g1
    · have hx : xs[i]? = some xs[i] := List.getElem?_eq_getElem hi2
      cases hk : keep xs[i] with
      | false =>
        refine iteF ⟨(s2.trans s3).trans s4, vs, (s3.trans s4) _ _ eC, ?_⟩
        rw [filter_take_succ keep hx, hk, if_neg Bool.false_ne_true, List.append_nil]
        exact hv.same (s3.trans s4)
      | true =>
        refine iteT ⟨xs[i], ⟨hm, hk⟩, ⟨l2, ?_⟩, fun v H5 s5 q5 => ?_⟩
        · have g1 : EnvL K Γ (wipe σ (own.map (·.2))) H3 := EnvL.off (fun j hj => wipe_get hj) hoff (gE.2.same ((s1.trans s2).trans s3))
          exact (EnvL.append e2 (EnvL.off o2 hoff g1)).same s4
        · have s25 := (s3.trans s4).trans s5
          have eC5 := s25 _ _ eC
          have hv5 := hv.same s25
          have hlen : vs.length ≤ 100000 := by
            rw [hv.length, List.length_map]
            refine Nat.le_trans (List.length_filter_le _ _) ?_
            rw [List.length_take]
            omega
          refine ⟨vs, eC5, Nat.lt_of_le_of_lt hlen (by show 100000 < sizeLine; decide), fun b o e => ?_, vs ++ [v], upd_same, ?_⟩
          · rw [upd_ne (fun z => by subst z; rw [hC] at e; cases e)]
            exact s25 _ _ (s2 _ _ e)
          · rw [filter_take_succ keep hx, hk, if_pos rfl, List.map_append]
            refine DqAll.putN eC5 (noLs_all fun d hd => ?_) (hv5.append (.cons q5 .nil))
            rcases List.mem_append.mp hd with hd | hd
            · obtain ⟨x, hx1, rfl⟩ := List.mem_map.mp hd
              exact hno x (List.mem_of_mem_take ((List.mem_filter.mp hx1).1))
            · have : d = out xs[i] := by simpa using hd
              subst this
              exact hno _ hm
  · rintro H2 ⟨s2, vs, eC, hv⟩
    rw [List.length_map, List.take_length] at hv
    exact k _ H2 (s1.trans s2) (.lst eC hv)
theorem filter_yes {α : Type} (xs : List α) : xs.filter (fun _ => true) = xs := by simp
/-- [e for x in xs] -/
theorem pd_lc {α : Type} {xs : List α} {enc : α → PyData} {out : α → PyData} {Δ : α → List (Nat × PyData)} {elt tg it : Expr} {scope : Scope} {own : List (Str × Nat)} {g : TG}
    (hc : X.calm = true) (nd : X.N.Nodup) (hi : PWk K X n Γ tg it (xs.map enc)) (ok : BlkOk X.N X.env.scope scope own) (hg : ∀ (s : Shared) (H : Hp) (C : Addr) (cl : List (Str × Addr)) (fp : List Addr), PG (X.blk s H scope (compEnvC scope cl C X.env) fp) tg g)
    (htg : ∀ x ∈ xs, Tg K n g (own.map (·.2)) (enc x) (Δ x)) (hoff : offK Γ (own.map (·.2)) = true)
    (he : ∀ x ∈ xs, ∀ (s : Shared) (H : Hp) (C : Addr) (cl : List (Str × Addr)) (fp : List Addr), PD K (X.blk s H scope (compEnvC scope cl C X.env) fp) n (Δ x ++ Γ) elt (out x))
    (hno : ∀ x ∈ xs, noL (out x) = true) (hl : xs.length ≤ 100000) (hs : ∀ x, foldedSetIterable it X.env x = pure x := by intro _; rfl) :
    PD K X n Γ (.ListComp elt [⟨tg, it, [], 0⟩] scope pos) (.list (xs.map out)) := by
  have := pd_lcF (keep := fun _ => true) (pos := pos) hc nd hi ok hg htg hoff (fun x hx s H C cl fp => ⟨fun pins s' σ H' Q I q => pts_nil.run pins s' σ H' Q I (q.2 H' (Same.refl H'))⟩) (fun x hx _ s H C cl fp => (he x hx s H C cl fp).pe) hno hl hs
  rw [filter_yes] at this
  exact this
end
end Nk
set_option Elab.async false
set_option linter.all false
set_option maxRecDepth 100000
set_option maxHeartbeats 4000000
namespace Nk
open PySem L2

/-! statements -/
/-- tuples stay -/
def TupS (H H' : Hp) : Prop := ∀ b xs, H b = some (.tup xs) → H' b = some (.tup xs)
theorem TupS.refl (H : Hp) : TupS H H := fun _ _ h => h
theorem TupS.trans {H H' H'' : Hp} (a : TupS H H') (b : TupS H' H'') : TupS H H'' := fun _ _ h => b _ _ (a _ _ h)
theorem Same.ts {H H' : Hp} (a : Same H H') : TupS H H' := fun _ _ h => a _ _ h
theorem TupS.upd {H : Hp} {C : Addr} {xs : List V} {o : HO} (hC : H C = some (.lst xs)) : TupS H (upd H C o) := fun b ys h => by
  rw [upd_ne (fun z => by subst z; rw [hC] at h; cases h)]
  exact h
section
variable {K : PySem.W.Frag} {H H' : Hp}
/-! no dict, no list -/
mutual
def noM : PyData → Bool
  | .list _ => false
  | .dict _ => false
  | .tuple xs => noMs xs
  | _ => true
def noMs : List PyData → Bool
  | [] => true
  | x :: xs => noM x && noMs xs
end
mutual
theorem noM_noL : ∀ {d : PyData}, noM d = true → noL d = true
  | .none, _ => rfl
  | .bool _, _ => rfl
  | .int _, _ => rfl
  | .str _, _ => rfl
  | .list _, h => by simp [noM] at h
  | .dict _, h => by simp [noM] at h
  | .tuple xs, h => by
    have : noMs xs = true := by simpa [noM] using h
    simpa [noL] using noMs_noLs this
theorem noMs_noLs : ∀ {ds : List PyData}, noMs ds = true → noLs ds = true
  | [], _ => by simp [noLs]
  | d :: ds, h => by
    have h' : noM d = true ∧ noMs ds = true := by simpa [noMs] using h
    simp [noLs, noM_noL h'.1, noMs_noLs h'.2]
end
mutual
theorem Dq.ts (e : TupS H H') : ∀ {v : V} {d : PyData}, noM d = true → Dq K H v d → Dq K H' v d
  | _, _, _, .non => .non
  | _, _, _, .bl b => .bl b
  | _, _, _, .int i => .int i
  | _, _, _, .str x => .str x
  | _, _, c, .lst _ _ => by simp [noM] at c
  | _, _, c, .tup h t => .tup (e _ _ h) (DqAll.ts e (by simpa [noM] using c) t)
  | _, _, c, .dnil h => by simp [noM] at c
theorem DqAll.ts (e : TupS H H') : ∀ {vs : List V} {ds : List PyData}, noMs ds = true → DqAll K H vs ds → DqAll K H' vs ds
  | _, _, _, .nil => .nil
  | _, _, c, .cons h t => by
    have c' := by simpa [noMs] using c
    exact .cons (Dq.ts e c'.1 h) (DqAll.ts e c'.2 t)
end
theorem noMs_all : ∀ {ds : List PyData}, (∀ d ∈ ds, noM d = true) → noMs ds = true
  | [], _ => by simp [noMs]
  | d :: ds, h => by simp [noMs, h d List.mem_cons_self, noMs_all fun x hx => h x (List.mem_cons_of_mem _ hx)]
theorem noMs_mem : ∀ {ds : List PyData} {d : PyData}, noMs ds = true → d ∈ ds → noM d = true
  | d :: ds, x, h, m => by
    have h' : noM d = true ∧ noMs ds = true := by simpa [noMs] using h
    rcases List.mem_cons.mp m with rfl | m
    · exact h'.1
    · exact noMs_mem h'.2 m
theorem noMs_app : ∀ {ds es : List PyData}, noMs ds = true → noMs es = true → noMs (ds ++ es) = true
  | [], _, _, h => h
  | d :: ds, es, h, g => by
    have h' : noM d = true ∧ noMs ds = true := by simpa [noMs] using h
    show noMs (d :: (ds ++ es)) = true
    simp [noMs, h'.1, noMs_app h'.2 g]
end
/-- what a def's slots hold: its arguments; data of tuples; its own lists -/
structure G3 where
  p : List (Nat × PyData)
  v : List (Nat × PyData)
  o : List (Nat × List PyData)
def G3.all (G : G3) : List (Nat × PyData) := G.v ++ (G.p ++ G.o.map fun q => (q.1, .list q.2))
def OwnL (K : PySem.W.Frag) (H0 : Hp) : List (Nat × List PyData) → St → Hp → Prop
  | [], _, _ => True
  | q :: Ω, σ, H => (∃ a vs, σ[q.1]? = some (some (.ref a)) ∧ H0 a = none ∧ H a = some (.lst vs) ∧ DqAll K H vs q.2 ∧ noMs q.2 = true ∧ ∀ r ∈ Ω, σ[r.1]? ≠ some (some (.ref a))) ∧ OwnL K H0 Ω σ H
structure StE (K : PySem.W.Frag) (n : Nat) (H0 : Hp) (G : G3) (σ : St) (H : Hp) : Prop where
  len : σ.length = n
  old : Same H0 H
  par : EnvL K G.p σ H0
  dat : EnvL K G.v σ H
  nom : ∀ q ∈ G.v, noM q.2 = true
  own : OwnL K H0 G.o σ H
section
variable {K : PySem.W.Frag} {n : Nat} {H0 H H' : Hp} {G G' : G3} {σ σ' : St}
theorem OwnL.same (e : Same H H') : ∀ {Ω : List (Nat × List PyData)}, OwnL K H0 Ω σ H → OwnL K H0 Ω σ H'
  | [], _ => trivial
  | _ :: _, ⟨⟨a, vs, h1, h2, h3, h4, h5⟩, r⟩ => ⟨⟨a, vs, h1, h2, e _ _ h3, h4.same e, h5⟩, OwnL.same e r⟩
theorem OwnL.env : ∀ {Ω : List (Nat × List PyData)}, OwnL K H0 Ω σ H → EnvL K (Ω.map fun q => (q.1, PyData.list q.2)) σ H
  | [], _ => trivial
  | _ :: _, ⟨⟨a, vs, h1, h2, h3, h4, h5⟩, r⟩ => ⟨⟨.ref a, h1, .lst h3 h4⟩, OwnL.env r⟩
theorem StE.same (h : StE K n H0 G σ H) (e : Same H H') : StE K n H0 G σ H' := ⟨h.len, h.old.trans e, h.par, h.dat.same e, h.nom, h.own.same e⟩
theorem StE.env (h : StE K n H0 G σ H) : Env K n G.all σ H := ⟨h.len, h.dat.append ((h.par.same h.old).append h.own.env)⟩
/-- slot i has another value now -/
def drp {α : Type} (i : Nat) (l : List (Nat × α)) : List (Nat × α) := l.filter fun q => !(q.1 == i)
theorem EnvL.drp {i : Nat} {v : Option V} : ∀ {Γ : List (Nat × PyData)}, EnvL K Γ σ H → EnvL K (drp i Γ) (σ.set i v) H
  | [], _ => trivial
  | (j, d) :: Γ, ⟨⟨w, h1, h2⟩, r⟩ => by
    unfold Nk.drp
    rw [List.filter_cons]
    by_cases z : (j == i) = true
    · rw [z]
      exact EnvL.drp r
    · have z' : (j == i) = false := by simpa using z
      rw [z']
      exact ⟨⟨w, by rw [List.getElem?_set_ne (fun e => z (by simp [e]))]; exact h1, h2⟩, EnvL.drp r⟩
theorem mem_drp {α : Type} {i : Nat} {l : List (Nat × α)} {q : Nat × α} (h : q ∈ drp i l) : q ∈ l ∧ q.1 ≠ i := by
  have := List.mem_filter.mp h
  exact ⟨this.1, by simpa using this.2⟩
theorem OwnL.drp {i : Nat} {v : Option V} : ∀ {Ω : List (Nat × List PyData)}, OwnL K H0 Ω σ H → OwnL K H0 (drp i Ω) (σ.set i v) H
  | [], _ => trivial
  | (j, d) :: Ω, ⟨⟨a, vs, h1, h2, h3, h4, h5, h6⟩, r⟩ => by
    unfold Nk.drp
    rw [List.filter_cons]
    by_cases z : (j == i) = true
    · rw [z]
      exact OwnL.drp r
    · have z' : (j == i) = false := by simpa using z
      rw [z']
      refine ⟨⟨a, vs, by rw [List.getElem?_set_ne (fun e => z (by simp [e]))]; exact h1, h2, h3, h4, h5, fun r hr => ?_⟩, OwnL.drp r⟩
      obtain ⟨m1, m2⟩ := mem_drp hr
      rw [List.getElem?_set_ne (Ne.symm m2)]
      exact h6 r m1
def G3.drp (i : Nat) (G : G3) : G3 := ⟨Nk.drp i G.p, Nk.drp i G.v, Nk.drp i G.o⟩
theorem StE.drp {i : Nat} {v : Option V} (h : StE K n H0 G σ H) : StE K n H0 (G.drp i) (σ.set i v) H :=
  ⟨by rw [List.length_set]; exact h.len, h.old, h.par.drp, h.dat.drp, fun q hq => h.nom q (mem_drp hq).1, h.own.drp⟩
def G3.put (i : Nat) (d : PyData) (G : G3) : G3 := ⟨Nk.drp i G.p, (i, d) :: Nk.drp i G.v, Nk.drp i G.o⟩
theorem StE.put {i : Nat} {v : V} {d : PyData} (h : StE K n H0 G σ H) (hi : i < n) (hd : Dq K H v d) (hn : noM d = true) : StE K n H0 (G.put i d) (σ.set i (some v)) H :=
  ⟨by rw [List.length_set]; exact h.len, h.old, h.par.drp, ⟨⟨v, by rw [List.getElem?_set_self (by rw [h.len]; exact hi)], hd⟩, h.dat.drp⟩, fun q hq => by
    rcases List.mem_cons.mp hq with rfl | hq
    · exact hn
    · exact h.nom q (mem_drp hq).1, h.own.drp⟩
def G3.new (i : Nat) (ds : List PyData) (G : G3) : G3 := ⟨Nk.drp i G.p, Nk.drp i G.v, (i, ds) :: Nk.drp i G.o⟩
theorem OwnL.apart {a : Addr} (hf : H a = none) : ∀ {Ω : List (Nat × List PyData)}, OwnL K H0 Ω σ H → ∀ r ∈ Ω, σ[r.1]? ≠ some (some (.ref a))
  | q :: Ω, ⟨⟨b, vs, h1, h2, h3, h4, h5, h6⟩, r⟩, x, hx => by
    rcases List.mem_cons.mp hx with rfl | hx
    · rw [h1]
      intro z
      have : b = a := by simpa using z
      subst this
      rw [hf] at h3
      cases h3
    · exact OwnL.apart hf r x hx
theorem StE.new {i : Nat} {a : Addr} {vs : List V} {ds : List PyData} (h : StE K n H0 G σ H) (hi : i < n) (hf : H a = none) (e : Same H H') (ha : H' a = some (.lst vs)) (hd : DqAll K H' vs ds) (hn : noMs ds = true) : StE K n H0 (G.new i ds) (σ.set i (some (.ref a))) H' := by
  have h' := h.same e
  refine ⟨by rw [List.length_set]; exact h.len, h'.old, h.par.drp, h'.dat.drp, fun q hq => h.nom q (mem_drp hq).1, ⟨a, vs, by rw [List.getElem?_set_self (by rw [h.len]; exact hi)], h.old.free hf, ha, hd, hn, fun r hr => ?_⟩, h'.own.drp⟩
  obtain ⟨m1, m2⟩ := mem_drp hr
  rw [List.getElem?_set_ne (Ne.symm m2)]
  exact OwnL.apart hf h.own r m1
theorem EnvL.ts (e : TupS H H') : ∀ {Γ : List (Nat × PyData)}, (∀ q ∈ Γ, noM q.2 = true) → EnvL K Γ σ H → EnvL K Γ σ H'
  | [], _, _ => trivial
  | q :: Γ, hn, ⟨⟨v, h1, h2⟩, r⟩ => ⟨⟨v, h1, h2.ts e (hn q List.mem_cons_self)⟩, EnvL.ts e (fun x hx => hn x (List.mem_cons_of_mem _ hx)) r⟩
/-- one's own list at i is another one now -/
def setO (i : Nat) (ds : List PyData) : List (Nat × List PyData) → List (Nat × List PyData)
  | [] => []
  | q :: Ω => if q.1 == i then (i, ds) :: Ω else q :: setO i ds Ω
theorem setO_keys {i : Nat} {ds : List PyData} : ∀ {Ω : List (Nat × List PyData)} {r : Nat × List PyData}, r ∈ setO i ds Ω → ∃ s ∈ Ω, s.1 = r.1
  | q :: Ω, r, h => by
    unfold setO at h
    by_cases z : (q.1 == i) = true
    · rw [if_pos z] at h
      rcases List.mem_cons.mp h with rfl | h
      · exact ⟨q, List.mem_cons_self, by simpa using z⟩
      · exact ⟨r, List.mem_cons_of_mem _ h, rfl⟩
    · rw [if_neg z] at h
      rcases List.mem_cons.mp h with rfl | h
      · exact ⟨_, List.mem_cons_self, rfl⟩
      · obtain ⟨s, hs, e⟩ := setO_keys h
        exact ⟨s, List.mem_cons_of_mem _ hs, e⟩
theorem OwnL.keepL {a : Addr} {ws : List V} {vs : List V} (ha : H a = some (.lst vs)) : ∀ {Ω : List (Nat × List PyData)}, (∀ r ∈ Ω, σ[r.1]? ≠ some (some (.ref a))) → OwnL K H0 Ω σ H → OwnL K H0 Ω σ (upd H a (.lst ws))
  | [], _, _ => trivial
  | q :: Ω, hr, ⟨⟨b, us, h1, h2, h3, h4, h5, h6⟩, r⟩ => by
    have hba : b ≠ a := fun z => hr q List.mem_cons_self (by rw [h1, z])
    exact ⟨⟨b, us, h1, h2, by rw [upd_ne hba]; exact h3, h4.ts (TupS.upd ha) h5, h5, h6⟩, OwnL.keepL ha (fun r hr' => hr r (List.mem_cons_of_mem _ hr')) r⟩
theorem lookup_key {α : Type} {i : Nat} {x : α} : ∀ {l : List (Nat × α)}, l.lookup i = some x → ∃ s ∈ l, s.1 = i
  | (y1, y2) :: ys, h => by
    rw [List.lookup_cons] at h
    cases w : i == y1 with
    | true => exact ⟨(y1, y2), List.mem_cons_self, (by simpa using w : i = y1).symm⟩
    | false =>
      rw [w] at h
      obtain ⟨s, hs, es⟩ := lookup_key h
      exact ⟨s, List.mem_cons_of_mem _ hs, es⟩
theorem OwnL.setO {i : Nat} {a : Addr} {vs ws : List V} {ds : List PyData} (hi : σ[i]? = some (some (.ref a))) (ha : H a = some (.lst vs)) (hd : DqAll K (upd H a (.lst ws)) ws ds) (hn : noMs ds = true) : ∀ {Ω : List (Nat × List PyData)}, (∃ x, Ω.lookup i = some x) → OwnL K H0 Ω σ H → OwnL K H0 (setO i ds Ω) σ (upd H a (.lst ws))
  | [], ⟨x, hx⟩, _ => by cases hx
  | q :: Ω, ⟨x, hx⟩, ⟨⟨b, us, h1, h2, h3, h4, h5, h6⟩, r⟩ => by
    unfold Nk.setO
    by_cases z : (q.1 == i) = true
    · rw [if_pos z]
      have e : q.1 = i := by simpa using z
      rw [e, hi] at h1
      have : a = b := by simpa using h1
      subst this
      exact ⟨⟨a, ws, hi, h2, upd_same, hd, hn, h6⟩, OwnL.keepL ha h6 r⟩
    · rw [if_neg z]
      have hx' : Ω.lookup i = some x := by
        have : (i == q.1) = false := by
          rw [Bool.eq_false_iff]
          intro e
          exact z (by simpa using (by simpa using e : i = q.1).symm)
        obtain ⟨q1, q2⟩ := q
        rw [List.lookup_cons, this] at hx
        exact hx
      -- the list at a is that of i, not this one
      have hba : b ≠ a := fun e => by
        obtain ⟨s, hs, es⟩ := lookup_key hx'
        refine h6 s hs ?_
        rw [es, hi, e]
      refine ⟨⟨b, us, h1, h2, by rw [upd_ne hba]; exact h3, h4.ts (TupS.upd ha) h5, h5, fun r hr => ?_⟩, OwnL.setO hi ha hd hn ⟨x, hx'⟩ r⟩
      obtain ⟨s, hs, es⟩ := setO_keys hr
      rw [← es]
      exact h6 s hs
end
end Nk
set_option Elab.async false
set_option linter.all false
set_option maxRecDepth 100000
set_option maxHeartbeats 4000000
namespace Nk
open PySem L2

def tSt (K : PySem.W.Frag) (n : Nat) (G G' : G3) : TS := fun D σ H => ∃ H0, StE K n H0 G σ H ∧ ∀ σ' H', TupS H H' → StE K n H0 G' σ' H' → D.nx σ' H'
def tRt (K : PySem.W.Frag) (n : Nat) (G : G3) (d : PyData) : TS := fun D σ H => ∃ H0, StE K n H0 G σ H ∧ ∀ v H', Same H0 H' → Dq K H' v d → D.rt v H'
/-- a statement that leads on -/
structure PSt (K : PySem.W.Frag) (X : Cx) (n : Nat) (G : G3) (st : Stmt) (G' : G3) : Prop where
  ps : PS X st (tSt K n G G')
structure PBk (K : PySem.W.Frag) (X : Cx) (n : Nat) (G : G3) (sts : List Stmt) (G' : G3) : Prop where
  ps : PSs X sts (tSt K n G G')
/-- a block that ends with the data d told -/
structure PR (K : PySem.W.Frag) (X : Cx) (n : Nat) (G : G3) (sts : List Stmt) (d : PyData) : Prop where
  ps : PSs X sts (tRt K n G d)
theorem ps_imp {X : Cx} {st : Stmt} {t t' : TS} (h : PS X st t) (i : ∀ D σ H, t' D σ H → t D σ H) : PS X st t' := ⟨fun pins s σ H D I q => h.run pins s σ H D I (i D σ H q)⟩
theorem pss_imp {X : Cx} {st : List Stmt} {t t' : TS} (h : PSs X st t) (i : ∀ D σ H, t' D σ H → t D σ H) : PSs X st t' := ⟨fun pins s σ H D I q => h.run pins s σ H D I (i D σ H q)⟩
theorem pss_ex {X : Cx} {ι : Sort _} {st : List Stmt} {t : ι → TS} (h : ∀ i, PSs X st (t i)) : PSs X st (fun D σ H => ∃ i, t i D σ H) := ⟨fun pins s σ H D I ⟨i, q⟩ => (h i).run pins s σ H D I q⟩
section
variable {K : PySem.W.Frag} {X : Cx} {n : Nat} {G G' G'' : G3} {e a b c : Expr} {es : List Expr} {d da db dc : PyData} {ds : List PyData} {pos p : Pos} {st : Stmt} {rest body orelse : List Stmt}
theorem PR.cast (h : PR K X n G rest d) (q : d = da) : PR K X n G rest da := q ▸ h
theorem pr_ret (h : PD K X n G.all e d) : PR K X n G [.Return (some e) pos] d :=
  ⟨pss_imp (pss_one (ps_ret h.pe)) fun D σ H ⟨H0, s, k⟩ => ⟨s.env, fun v H' e q => k v H' (s.old.trans e) q⟩⟩
theorem pr_retM {more : List Stmt} (h : PD K X n G.all e d) : PR K X n G (.Return (some e) pos :: more) d :=
  ⟨pss_imp (pss_cons (ps_ret h.pe) pss_never) fun D σ H ⟨H0, s, k⟩ => ⟨s.env, fun v H' e q => k v H' (s.old.trans e) q⟩⟩
theorem pr_cons (h : PSt K X n G st G') (g : PR K X n G' rest d) : PR K X n G (st :: rest) d :=
  ⟨pss_imp (pss_cons h.ps g.ps) fun D σ H ⟨H0, s, k⟩ => ⟨H0, s, fun σ' H' _ s' => ⟨H0, s', k⟩⟩⟩
theorem pb_nil : PBk K X n G [] G := ⟨pss_imp pss_nil fun D σ H ⟨H0, s, k⟩ => k σ H (TupS.refl H) s⟩
theorem pb_one (h : PSt K X n G st G') : PBk K X n G [st] G' := ⟨pss_one h.ps⟩
theorem pb_cons (h : PSt K X n G st G') (g : PBk K X n G' rest G'') : PBk K X n G (st :: rest) G'' :=
  ⟨pss_imp (pss_cons h.ps g.ps) fun D σ H ⟨H0, s, k⟩ => ⟨H0, s, fun σ' H' t s' => ⟨H0, s', fun σ2 H2 t2 s2 => k σ2 H2 (t.trans t2) s2⟩⟩⟩
/-- less is said -/
structure G3.Le (G' G : G3) : Prop where
  le : ∀ (K : PySem.W.Frag) n H0 σ H, StE K n H0 G σ H → StE K n H0 G' σ H
theorem PBk.le (h : PBk K X n G rest G') (l : G3.Le G'' G') : PBk K X n G rest G'' := ⟨pss_imp h.ps fun D σ H ⟨H0, s, k⟩ => ⟨H0, s, fun σ' H' t s' => k σ' H' t (l.le _ _ _ _ _ s')⟩⟩
theorem PSt.le (h : PSt K X n G st G') (l : G3.Le G'' G') : PSt K X n G st G'' := ⟨ps_imp h.ps fun D σ H ⟨H0, s, k⟩ => ⟨H0, s, fun σ' H' t s' => k σ' H' t (l.le _ _ _ _ _ s')⟩⟩
theorem PR.le (h : PR K X n G rest d) (l : G3.Le G G'') : PR K X n G'' rest d := ⟨pss_imp h.ps fun D σ H ⟨H0, s, k⟩ => ⟨H0, l.le _ _ _ _ _ s, k⟩⟩
theorem EnvL.sub {Γ Δ : List (Nat × PyData)} {σ : St} {H : Hp} (h : ∀ q ∈ Δ, q ∈ Γ) (e : EnvL K Γ σ H) : EnvL K Δ σ H := by
  have key : ∀ {Γ : List (Nat × PyData)} {q : Nat × PyData}, EnvL K Γ σ H → q ∈ Γ → ∃ v, σ[q.1]? = some (some v) ∧ Dq K H v q.2 := by
    intro Γ
    induction Γ with
    | nil => intro q _ h; cases h
    | cons x xs ih =>
      intro q e h
      rcases List.mem_cons.mp h with rfl | h
      · exact e.1
      · exact ih e.2 h
  induction Δ with
  | nil => trivial
  | cons x xs ih => exact ⟨key e (h x List.mem_cons_self), ih fun q hq => h q (List.mem_cons_of_mem _ hq)⟩
/-- fewer slots -/
theorem G3.Le.of {p v p' v' : List (Nat × PyData)} {o : List (Nat × List PyData)} (hp : ∀ q ∈ p', q ∈ p) (hv : ∀ q ∈ v', q ∈ v) : G3.Le ⟨p', v', o⟩ ⟨p, v, o⟩ :=
  ⟨fun K n H0 σ H s => ⟨s.len, s.old, s.par.sub hp, s.dat.sub hv, fun q hq => s.nom q (hv q hq), s.own⟩⟩
theorem pr_if {k : Bool} (h : PB K X n G.all c k) (h1 : k = true → PR K X n G body d) (h2 : k = false → PR K X n G rest d) : PR K X n G (.If c body [] pos :: rest) d := by
  cases k with
  | true => exact ⟨pss_imp (pss_cons (ps_if h.pt (h1 rfl).ps pss_never) pss_never) fun D σ H ⟨H0, s, k⟩ => ⟨s.env, fun H' e => iteT ⟨H0, s.same e, k⟩⟩⟩
  | false => exact ⟨pss_imp (pss_cons (ps_if h.pt pss_never pss_nil) (h2 rfl).ps) fun D σ H ⟨H0, s, k⟩ => ⟨s.env, fun H' e => iteF ⟨H0, s.same e, k⟩⟩⟩
theorem pr_ife {k : Bool} (h : PB K X n G.all c k) (h1 : k = true → PR K X n G body d) (h2 : k = false → PR K X n G orelse d) : PR K X n G (.If c body orelse pos :: rest) d := by
  cases k with
  | true => exact ⟨pss_imp (pss_cons (ps_if h.pt (h1 rfl).ps pss_never) pss_never) fun D σ H ⟨H0, s, k⟩ => ⟨s.env, fun H' e => iteT ⟨H0, s.same e, k⟩⟩⟩
  | false => exact ⟨pss_imp (pss_cons (ps_if h.pt pss_never (h2 rfl).ps) pss_never) fun D σ H ⟨H0, s, k⟩ => ⟨s.env, fun H' e => iteF ⟨H0, s.same e, k⟩⟩⟩
theorem pst_if {k : Bool} (h : PB K X n G.all c k) (h1 : k = true → PBk K X n G body G') (h2 : k = false → PBk K X n G orelse G') : PSt K X n G (.If c body orelse pos) G' := by
  cases k with
  | true => exact ⟨ps_imp (ps_if h.pt (h1 rfl).ps pss_never) fun D σ H ⟨H0, s, k⟩ => ⟨s.env, fun H' e => iteT ⟨H0, s.same e, fun σ2 H2 t s2 => k σ2 H2 ((Same.ts e).trans t) s2⟩⟩⟩
  | false => exact ⟨ps_imp (ps_if h.pt pss_never (h2 rfl).ps) fun D σ H ⟨H0, s, k⟩ => ⟨s.env, fun H' e => iteF ⟨H0, s.same e, fun σ2 H2 t s2 => k σ2 H2 ((Same.ts e).trans t) s2⟩⟩⟩
/-- x = e -/
theorem pst_set {i : Nat} {x : Str} {pos' : Pos} (nd : X.N.Nodup) (hi : X.N[i]? = some x) (hx : Loc X.env.scope x) (hin : i < n) (h : PD K X n G.all e d) (hn : noM d = true) (hs : swapsWith e (some (.Name x pos')) pos.line X.env = pure false := by rfl) (hf : X.fn x = true ∨ X.env.scope.names.lookup x = some .local := by first | exact .inl rfl | exact .inr rfl | assumption) :
    PSt K X n G (.Assign [.Name x pos'] e pos) (G.put i d) :=
  ⟨ps_imp (ps_set nd hi hx h.pe hs hf) fun D σ H ⟨H0, s, k⟩ => ⟨s.env, fun v H' e q => k _ H' (Same.ts e) ((s.same e).put hin q hn)⟩⟩
/-- e is a new list of the data -/
def tF (K : PySem.W.Frag) (n : Nat) (Γ : List (Nat × PyData)) (ds : List PyData) : TE := fun σ H Q => Env K n Γ σ H ∧ ∀ p vs H', H p = none → Same H H' → H' p = some (.lst vs) → DqAll K H' vs ds → Q (.ref p) H'
structure PF (K : PySem.W.Frag) (X : Cx) (n : Nat) (Γ : List (Nat × PyData)) (e : Expr) (ds : List PyData) : Prop where
  pe : PE X e (tF K n Γ ds)
theorem PF.cast {Γ : List (Nat × PyData)} {ds ds' : List PyData} (h : PF K X n Γ e ds) (q : ds = ds') : PF K X n Γ e ds' := q ▸ h
theorem PF.pd {Γ : List (Nat × PyData)} (h : PF K X n Γ e ds) (hK : X.K = K := by rfl) : PD K X n Γ e (.list ds) := .of h.pe (fun σ H Q g k => ⟨g, fun p vs H' _ s hp ha => k _ H' s (.lst hp ha)⟩) hK
theorem pf_lst {Γ : List (Nat × PyData)} (h : PDs K X n Γ es ds) (hl : Nat.ble ds.length 1000 = true := by rfl) : PF K X n Γ (.List es pos) ds :=
  ⟨pe_imp (pe_lst h.pa) fun σ H Q q => ⟨q.1, fun xs H1 s1 q1 => ⟨by rw [q1.length]; exact Nat.le_trans (Nat.le_of_ble_eq_true hl) (by show 1000 ≤ sizeLine; decide), fun p hp => q.2 p xs _ (s1.free hp) (s1.trans (same_new hp)) upd_same (q1.same (same_new hp))⟩⟩⟩
/-- x = a new list -/
theorem pst_new {i : Nat} {x : Str} {pos' : Pos} (nd : X.N.Nodup) (hi : X.N[i]? = some x) (hx : Loc X.env.scope x) (hin : i < n) (h : PF K X n G.all e ds) (hn : noMs ds = true) (hs : swapsWith e (some (.Name x pos')) pos.line X.env = pure false := by rfl) (hf : X.fn x = true ∨ X.env.scope.names.lookup x = some .local := by first | exact .inl rfl | exact .inr rfl | assumption) :
    PSt K X n G (.Assign [.Name x pos'] e pos) (G.new i ds) :=
  ⟨ps_imp (ps_set nd hi hx h.pe hs hf) fun D σ H ⟨H0, s, k⟩ => ⟨s.env, fun p vs H' hp e hp' q => k _ H' (Same.ts e) (s.new hin hp e hp' q hn)⟩⟩
/-- a, b = e -/
theorem pst_two {i j : Nat} {x y : Str} {k : Nat} {px py tpos : Pos} (nd : X.N.Nodup) (hi : X.N[i]? = some x) (hj : X.N[j]? = some y) (hx : Loc X.env.scope x) (hy : Loc X.env.scope y) (hin : i < n) (hjn : j < n) (hij : i ≠ j) (hc : X.calm = true) (h : PD K X n G.all e (.tuple [da, db])) (hna : noM da = true) (hnb : noM db = true)
    (hs : swapsWithSole [.Tuple [.Name x px, .Name y py] k tpos] e pos.line X.env = pure false := by rfl) (hw : swappedStores [.Tuple [.Name x px, .Name y py] k tpos] e X.env = pure none := by rfl)
    (h1 : (assignEach [.Tuple [.Name x px, .Name y py] k tpos] X.env).map (·.2) = [assign (.Tuple [.Name x px, .Name y py] k tpos) X.env] := by rfl)
    (hl : (assignEach [.Name x px, .Name y py] X.env).length = 2 := by rfl) (hst : (assignEach [.Name x px, .Name y py] X.env).findIdx? (·.1) = none := by rfl)
    (hq1 : (assignEach [.Name x px, .Name y py] X.env).map (·.2) = assign (.Name x px) X.env :: (assignEach [.Name y py] X.env).map (·.2) := by rfl) (hq2 : (assignEach [.Name y py] X.env).map (·.2) = assign (.Name y py) X.env :: (assignEach [] X.env).map (·.2) := by rfl)
    (hf : X.fn x = true ∨ X.env.scope.names.lookup x = some .local := by first | exact .inl rfl | exact .inr rfl | assumption) (hf2 : X.fn y = true ∨ X.env.scope.names.lookup y = some .local := by first | exact .inl rfl | exact .inr rfl | assumption) :
    PSt K X n G (.Assign [.Tuple [.Name x px, .Name y py] k tpos] e pos) ((G.put i da).put j db) := by
  refine ⟨ps_imp (ps_asg h.pe (pg_tup hc (pgs_cons (pg_name (i := i) nd hi hx hf) (pgs_cons (pg_name (i := j) nd hj hy hf2) pgs_nil hq2) hq1) hl hst) hs hw h1) fun D σ H ⟨H0, s, k⟩ => ⟨s.env, fun v H' e q => ?_⟩⟩
  cases q with
  | tup hp ha =>
    cases ha with
    | cons q1 ha =>
      cases ha with
      | cons q2 ha =>
        cases ha
        refine ⟨_, _, rfl, SqT.of hp, rfl, _, _, rfl, _, _, rfl, rfl, ?_⟩
        exact k _ H' (Same.ts e) (((s.same e).put hin q1 hna).put hjn q2 hnb)
def G3.setO (i : Nat) (ds : List PyData) (G : G3) : G3 := ⟨G.p, G.v, Nk.setO i ds G.o⟩
theorem OwnL.get {H0 H : Hp} {σ : St} {i : Nat} {x : List PyData} : ∀ {Ω : List (Nat × List PyData)}, OwnL K H0 Ω σ H → Ω.lookup i = some x → ∃ a vs, σ[i]? = some (some (.ref a)) ∧ H0 a = none ∧ H a = some (.lst vs) ∧ DqAll K H vs x ∧ noMs x = true
  | (j, y) :: Ω, ⟨⟨a, vs, h1, h2, h3, h4, h5, h6⟩, r⟩, e => by
    rw [List.lookup_cons] at e
    cases w : i == j with
    | true =>
      rw [w] at e
      cases e
      have : i = j := by simpa using w
      subst this
      exact ⟨a, vs, h1, h2, h3, h4, h5⟩
    | false =>
      rw [w] at e
      exact OwnL.get r e
theorem StE.setO {H0 H : Hp} {σ : St} {i : Nat} {a : Addr} {vs ws : List V} {x ds : List PyData} (s : StE K n H0 G σ H) (hl : G.o.lookup i = some x) (hi : σ[i]? = some (some (.ref a))) (h0 : H0 a = none) (ha : H a = some (.lst vs)) (hd : DqAll K (upd H a (.lst ws)) ws ds) (hn : noMs ds = true) : StE K n H0 (G.setO i ds) σ (upd H a (.lst ws)) :=
  ⟨s.len, fun b o e => by
    rw [upd_ne (fun z => by subst z; rw [h0] at e; cases e)]
    exact s.old _ _ e, s.par, s.dat.ts (TupS.upd ha) s.nom, s.nom, OwnL.setO hi ha hd hn ⟨x, hl⟩ s.own⟩
/-- x.append(e) -/
theorem pst_app {i : Nat} {x : Str} {px apos cpos epos : Pos} (hi : X.N[i]? = some x) (hv : Vis X.env.scope x) (hl : G.o.lookup i = some ds) (h : PD K X n G.all e d) (hn : noM d = true) (hz : ds.length ≤ 100000) (hK : X.K = K := by rfl) (hd : (x == ("__debug__" : Str)) = false := by decide) (hcd : (x == ("__classdict__" : Str)) = false := by decide)
    (hbase : attributeBase (.Name x px) "append" X.env (eval (.Name x px) X.env) = eval (.Name x px) X.env := by rfl)
    (hfew : ((backTo cpos (starEach [e] X.env)).all (fun x => !x.1) && (backToKw cpos (keywordEach [] X.env)).all (fun x => x.1.isSome)
      && decide (([e] : List Expr).length + ([] : List Keyword).length + (if ([] : List Keyword).isEmpty then 0 else 1) < 30)) = true := by rfl)
    (hline : (apos.endLine == cpos.line) = true := by rfl) (hs : starEach [e] X.env = (false, eval e X.env) :: starEach [] X.env := by rfl) (hplain : (backTo cpos (starEach [] X.env)).any (·.1) = false := by rfl)
    (hsw : swapsWith (.Call (.Attribute (.Name x px) "append" apos) [e] [] cpos) none epos.line X.env = pure false := by rfl) :
    PSt K X n G (.Expr (.Call (.Attribute (.Name x px) "append" apos) [e] [] cpos) epos) (G.setO i (ds ++ [d])) := by
  subst hK
  refine ⟨ps_imp (ps_expr (pe_bm PySem.F.plainAttrs_list PySem.F.slot_list_append PySem.F.type_list_append mt_append (pe_var hi hv hd hcd) (pa_cons h.pe pa_nil hs) hbase hfew hline hs hplain) hsw) fun D σ H ⟨H0, s, k⟩ => ?_⟩
  obtain ⟨a, vs, h1, h2, h3, h4, h5⟩ := s.own.get hl
  refine ⟨.ref a, h1, .inl ⟨rfl, _, SqL.of h3⟩, s.env, fun v H' e q => ?_⟩
  have h3' := e _ _ h3
  have h4' := h4.same e
  refine ⟨a, vs, v, rfl, rfl, h3', Nat.lt_of_le_of_lt (by rw [h4.length]; exact hz) (by show 100000 < sizeLine; decide), ?_⟩
  have nn : noMs (ds ++ [d]) = true := noMs_app h5 (by simp [noMs, hn])
  refine k σ _ ((Same.ts e).trans (TupS.upd h3')) ((s.same e).setO hl h1 h2 h3' ?_ nn)
  exact (h4'.append (.cons q .nil)).ts (TupS.upd h3') nn
/-! walks whose body may change one's own lists -/
structure PWs (K : PySem.W.Frag) (X : Cx) (n : Nat) (G : G3) (tg it : Expr) (ds : List PyData) : Prop where
  pi : PI X tg it (fun σ H R => ∃ H0, StE K n H0 G σ H ∧ ∀ J H1, Same H H1 → Walk J ds.length (fun H' => Same H0 H' ∧ TupS H1 H') (YD K ds) → R J H1)
theorem pws_tup {tg : Expr} (h : PD K X n G.all a (.tuple ds)) (hn : noMs ds = true) : PWs K X n G tg a ds :=
  ⟨pi_imp (kpiT K h.pe h.hK) fun σ H R ⟨H0, s, k⟩ => ⟨s.env, fun v H1 s1 z => by
    cases z with
    | tup hp ha =>
      refine ⟨_, rfl, ⟨_, SqT.of hp⟩, k _ H1 s1 ?_⟩
      rw [← ha.length]
      refine (walk_tup (K := K) (xs := _)).mono (fun H s => SqT.of (s.2 _ _ hp)) fun i H x H' hi s y => ?_
      obtain ⟨rfl, hx⟩ := y
      obtain ⟨d, h1, h2⟩ := ha.get hx
      exact ⟨Same.refl _, d, h1, h2.ts s.2 (noMs_mem hn (List.mem_of_getElem? h1))⟩⟩⟩
/-- over an argument that is a list -/
theorem pws_par {tg : Expr} {i : Nat} {x : Str} (hi : X.N[i]? = some x) (hv : Vis X.env.scope x) (hl : G.p.lookup i = some (.list ds)) (hK : X.K = K := by rfl) (hd : (x == ("__debug__" : Str)) = false := by decide) (hcd : (x == ("__classdict__" : Str)) = false := by decide) : PWs K X n G tg (.Name x pos) ds := by
  refine ⟨pi_imp (kpiL K (pe_var hi hv hd hcd) hK) fun σ H R ⟨H0, s, k⟩ => ?_⟩
  obtain ⟨v, h1, h2⟩ := s.par.get hl
  refine ⟨v, h1, ?_⟩
  cases h2 with
  | lst hp ha =>
    refine ⟨_, rfl, ⟨_, SqL.of (s.old _ _ hp)⟩, k _ H (Same.refl H) ?_⟩
    rw [← ha.length]
    refine (walk_list (K := K) (xs := _)).mono (fun H s => SqL.of (s.1 _ _ hp)) fun i H x H' hi s y => ?_
    obtain ⟨rfl, hx⟩ := y
    obtain ⟨d, h1, h2⟩ := ha.get hx
    exact ⟨Same.refl _, d, h1, h2.same s.1⟩
theorem pws_range {tg : Expr} {i : Int} (h : PD K X n G.all a (.int i)) (h1 : i < 2 ^ 62) (h0 : -(2 ^ 62) ≤ i) (hg : Gl X "range") (hm : X.mg "range" = none) (hs : starEach [a] X.env = [(false, eval a X.env)] := by rfl) : PWs K X n G tg (.Call (.Name "range" p) [a] [] pos) (rgD 0 i.toNat) :=
  ⟨pi_imp (pi_range1 hg hm (pa_cons h.pe pa_nil hs) hs) fun σ H R ⟨H0, s, k⟩ => ⟨s.env, fun v H1 s1 z => by
    cases z
    refine ⟨i, rfl, h0, h1, k _ H1 s1 ?_⟩
    rw [rgD_length]
    refine walk_range.mono (fun _ _ => trivial) fun i H x H' hi s y => ?_
    obtain ⟨rfl, rfl⟩ := y
    exact ⟨Same.refl _, _, rgD_get hi, .int _⟩⟩⟩
theorem pws_zipT {elts : List Expr} {kk : Nat} {tpos : Pos} {s t : List PyData} (h : PD K X n G.all a (.tuple s)) (g : PD K X n G.all b (.tuple t)) (hns : noMs s = true) (hnt : noMs t = true) (hg : Gl X "zip") (hm : X.mg "zip" = none)
    (hs : starEach [a, b] X.env = (false, eval a X.env) :: starEach [b] X.env := by rfl) (hs2 : starEach [b] X.env = (false, eval b X.env) :: starEach [] X.env := by rfl) (hpl : (backTo pos (starEach [b] X.env)).any (·.1) = false := by rfl) :
    PWs K X n G (.Tuple elts kk tpos) (.Call (.Name "zip" p) [a, b] [] pos) (zipD s t) := by
  have hK := h.hK
  refine ⟨pi_imp (RZ.pi_zipA hg hm (pa_cons h.pe (pa_cons g.pe pa_nil hs2) hs) hs hpl) fun σ H R ⟨H0, st, k⟩ => ⟨st.env, fun v H1 s1 z => ⟨st.env.same s1, fun w H2 s2 z2 => ?_⟩⟩⟩
  subst hK
  cases z with
  | tup hp ha =>
    cases z2 with
    | tup hq hb =>
      have ha := ha.same s2
      have hp := s2 _ _ hp
      refine ⟨_, _, _, _, rfl, .inr ⟨SqT.of hp, SqT.of hq, k _ H2 (s1.trans s2) ?_⟩⟩
      rw [zipD_length, ← ha.length, ← hb.length]
      refine (walk_zipT rfl).mono (fun H s => ⟨SqT.of (s.2 _ _ hp), SqT.of (s.2 _ _ hq)⟩) fun i H v H' hi s y => ?_
      obtain ⟨T, x, y, rfl, hT, rfl, e1, e2⟩ := y
      obtain ⟨d1, g1, f1⟩ := ha.get e1
      obtain ⟨d2, g2, f2⟩ := hb.get e2
      have sT : Same H (upd H T (.tup [x, y])) := same_new hT
      exact ⟨sT, _, zipD_get g1 g2, .tup upd_same (.cons ((f1.ts s.2 (noMs_mem hns (List.mem_of_getElem? g1))).same sT) (.cons ((f2.ts s.2 (noMs_mem hnt (List.mem_of_getElem? g2))).same sT) .nil))⟩
theorem pws_enumT {elts : List Expr} {kk : Nat} {tpos : Pos} {s : List PyData} (h : PD K X n G.all a (.tuple s)) (hns : noMs s = true) (hg : Gl X "enumerate") (hm : X.mg "enumerate" = none) (hs : starEach [a] X.env = [(false, eval a X.env)] := by rfl) :
    PWs K X n G (.Tuple elts kk tpos) (.Call (.Name "enumerate" p) [a] [] pos) (enumD s) :=
  ⟨pi_imp (pi_enumT hg hm (pa_cons h.pe pa_nil hs) hs h.hK) fun σ H R ⟨H0, st, k⟩ => ⟨st.env, fun v H1 s1 z => by
    cases z with
    | tup hp ha =>
      refine ⟨_, _, rfl, SqT.of hp, k _ H1 s1 ?_⟩
      rw [enumD_length, ← ha.length]
      refine walk_enT.mono (fun H s => SqT.of (s.2 _ _ hp)) fun i H v H' hi s y => ?_
      obtain ⟨T, x, y, rfl, hT, rfl, e1, e2⟩ := y
      cases e1
      obtain ⟨d2, g2, f2⟩ := ha.get e2
      have sT : Same H (upd H T (.tup [.int (i : Nat), y])) := same_new hT
      refine ⟨sT, _, ?_, .tup upd_same (.cons (.int _) (.cons ((f2.ts s.2 (noMs_mem hns (List.mem_of_getElem? g2))).same sT) .nil))⟩
      unfold enumD
      rw [List.getElem?_map, List.getElem?_zipIdx, g2]
      simp⟩⟩
/-- the slots of a target hold Δ -/
def G3.tg (vs : List Nat) (Δ : List (Nat × PyData)) (G : G3) : G3 := ⟨G.p, Δ ++ G.v, G.o⟩
def offG (G : G3) (vs : List Nat) : Bool := offK G.p vs && offK G.v vs && (G.o.map (·.1)).all fun j => !vs.contains j
theorem OwnL.off {H0 H : Hp} {σ σ' : St} {vs : List Nat} (hs : ∀ j, vs.contains j = false → σ'[j]? = σ[j]?) : ∀ {Ω : List (Nat × List PyData)}, ((Ω.map (·.1)).all fun j => !vs.contains j) = true → OwnL K H0 Ω σ H → OwnL K H0 Ω σ' H
  | [], _, _ => trivial
  | q :: Ω, o, ⟨⟨b, us, h1, h2, h3, h4, h5, h6⟩, r⟩ => by
    have o' : (!vs.contains q.1 && (Ω.map (·.1)).all fun j => !vs.contains j) = true := o
    rw [Bool.and_eq_true] at o'
    refine ⟨⟨b, us, by rw [hs q.1 (by simpa using o'.1)]; exact h1, h2, h3, h4, h5, fun r hr => ?_⟩, OwnL.off hs o'.2 r⟩
    have := List.all_eq_true.mp o'.2 r.1 (List.mem_map.mpr ⟨r, hr, rfl⟩)
    rw [hs r.1 (by simpa using this)]
    exact h6 r hr
theorem StE.tg {H0 H H' : Hp} {σ σ' : St} {vs : List Nat} {Δ : List (Nat × PyData)} (s : StE K n H0 G σ H) (e : Same H H') (hl : σ'.length = n) (hs : ∀ j, vs.contains j = false → σ'[j]? = σ[j]?) (ho : offG G vs = true) (hd : EnvL K Δ σ' H') (hn : ∀ q ∈ Δ, noM q.2 = true) : StE K n H0 (G.tg vs Δ) σ' H' := by
  unfold offG at ho
  rw [Bool.and_eq_true, Bool.and_eq_true] at ho
  have s' := s.same e
  exact ⟨hl, s'.old, s'.par.off hs ho.1.1, hd.append (s'.dat.off hs ho.1.2), fun q hq => (List.mem_append.mp hq).elim (hn q) (s.nom q), s'.own.off hs ho.2⟩
def tBEx (K : PySem.W.Frag) (n : Nat) {α : Type} (xs : List α) (vs : List Nat) (Δ : α → List (Nat × PyData)) (Gk : Nat → G3) : TS := fun D σ H => ∃ z : { z : Nat × α // xs[z.1]? = some z.2 }, tSt K n ((Gk z.1.1).tg vs (Δ z.1.2)) (Gk (z.1.1 + 1)) D σ H
/-- for x in it: body -/
theorem pst_for {α : Type} {xs : List α} {enc : α → PyData} {Δ : α → List (Nat × PyData)} {Gk : Nat → G3} {tg it : Expr} {g : TG} {vs : List Nat} (hp : PassesOwn (model X.prog X.w) X.A X.env X.xe) (hc : X.calm = true) (hw : PWs K X n (Gk 0) tg it (xs.map enc)) (hg : PG X tg g)
    (htg : ∀ x ∈ xs, Tg K n g vs (enc x) (Δ x)) (hoff : ∀ i, offG (Gk i) vs = true) (hn : ∀ x ∈ xs, ∀ q ∈ Δ x, noM q.2 = true)
    (hb : ∀ i x, xs[i]? = some x → PBk K X n ((Gk i).tg vs (Δ x)) body (Gk (i + 1))) (hs : ∀ x, foldedSetIterable it X.env x = pure x := by intro _; rfl) :
    PSt K X n (Gk 0) (.For tg it body [] pos) (Gk xs.length) := by
  refine ⟨ps_imp (ps_for hp hc hw.pi hg (show PSs X body (tBEx K n xs vs Δ Gk) from pss_ex fun z => (hb z.1.1 z.1.2 z.2).ps) hs) fun D σ H ⟨H0, s, k⟩ => ⟨H0, s, fun J H1 s1 w => ?_⟩⟩
  refine for_it (g := g) (tb := tBEx K n xs vs Δ Gk) (D := D) w (fun i σ' H' => StE K n H0 (Gk i) σ' H' ∧ TupS H1 H') ⟨s.same s1, TupS.refl _⟩ (fun i σ' H' _ h => ⟨h.1.old, h.2⟩) ?_ ?_
  · rintro i x σ2 H2 H3 hi ⟨s2, t2⟩ ⟨s3, d, hd, qd⟩
    rw [List.length_map] at hi
    rw [List.getElem?_map, List.getElem?_eq_getElem hi] at hd
    have hd : enc xs[i] = d := Option.some.inj hd
    subst hd
    have hm := List.getElem_mem hi
    refine (htg _ hm).run x σ2 H3 _ s2.len qd fun σ3 _ l3 o3 e3 => ?_
    exact ⟨⟨(i, xs[i]), List.getElem?_eq_getElem hi⟩, H0, s2.tg s3 l3 o3 (hoff i) e3 (hn _ hm), fun σ' H' t' s' => ⟨s', (t2.trans (Same.ts s3)).trans t'⟩⟩
  · rintro σ2 H2 ⟨s2, t2⟩
    rw [List.length_map] at s2
    exact k σ2 H2 ((Same.ts s1).trans t2) s2
end
end Nk
set_option Elab.async false
set_option linter.all false
set_option maxRecDepth 100000
set_option maxHeartbeats 4000000
namespace Nk
open PySem L2
/-! a def whose body tells data of data -/
def numb : Nat → List PyData → List (Nat × PyData)
  | _, [] => []
  | i, d :: ds => (i, d) :: numb (i + 1) ds
theorem numb_env {K : PySem.W.Frag} {H : Hp} {r : St} : ∀ {vs : List V} {ds : List PyData} {l : St}, DqAll K H vs ds → EnvL K (numb l.length ds) (l ++ (vs.map some ++ r)) H
  | _, _, _, .nil => trivial
  | v :: vs, d :: ds, l, .cons h t => by
    refine ⟨⟨v, ?_, h⟩, ?_⟩
    · show (l ++ (some v :: vs.map some ++ r))[l.length]? = _
      rw [List.getElem?_append_right (Nat.le_refl _), Nat.sub_self]
      rfl
    · have := numb_env (r := r) (l := l ++ [some v]) t
      rw [List.length_append, List.append_assoc] at this
      exact this
section
variable {P : Program} {w : World} {K : PySem.W.Frag} {mg : Str → Option Value} {base : Heap}
theorem ok_P {α : Type} {enc : α → List PyData} {Pa : α → Prop} {out : α → PyData} {k : Nat} {f : Addr} {x qual : Str} {st : Stmt} {fd : FuncData} {N ps : List Str} (F : Fun K x qual st f fd) (S : FnScope N ps (defScope st)) (hl : ∀ a, (enc a).length = ps.length) (hN : ps.length ≤ N.length)
    (body : ∀ (cdv : Value) (A : Around) (outer : List PySem.Env) (s : Shared) (H : Hp) (E : XK), Room k (A.deeper (PyProof.Rows.envOfC qual (defScope st) s.heap.objs.size f cdv)) → ∀ a, Pa a →
      PR K (cxOf CX0 P w K mg base N qual (defScope st) f cdv A outer s H E).nox N.length ⟨numb 0 (enc a), [], []⟩ (defBody st) (out a)) : FnOk P w K mg base CX0 (k + 1) f fd ps (spP K enc Pa out) := by
  refine F.ok S (fun vs H Q E h => ?_) (fun cdv A outer s H vs Q E hr h => ?_)
  · obtain ⟨a, _, h, _⟩ := h
    rw [h.length, hl a]
  · obtain ⟨a, hp, h, q⟩ := h
    refine ⟨_, (body cdv A outer s H E hr a hp).ps, H, ⟨?_, Same.refl H, ?_, trivial, (fun q hq => nomatch hq), trivial⟩, fun v H' e d => q v H' e d⟩
    · unfold L2.start
      have := h.length
      have := hl a
      rw [List.length_append, List.length_map, List.length_replicate]
      omega
    · exact numb_env (l := []) h
/-- all that is asked of a call of it -/
theorem dk_P {α : Type} {enc : α → List PyData} {Pa : α → Prop} {out : α → PyData} {k : Nat} {x : Str} {ps : List Str} {sp : Sp} (D : Dk P w K mg base k x ps sp) (h : ∀ vs H Q E, spP K enc Pa out vs H Q E → sp vs H Q E) : Dk P w K mg base k x ps (spP K enc Pa out) := by
  obtain ⟨f, fd, F, m, kp, b⟩ := D.ex
  exact ⟨f, fd, F.imp h, m, kp, b⟩
end
end Nk
set_option Elab.async false
set_option linter.all false
set_option maxRecDepth 100000
set_option maxHeartbeats 4000000
namespace Nk
open PySem L2
section
variable {K : PySem.W.Frag} {X : Cx} {n : Nat} {Γ Δ : List (Nat × PyData)} {e a b c : Expr} {es : List Expr} {d da db dc : PyData} {ds s t : List PyData} {pos p : Pos} {G G' G'' : G3}
theorem pdv (i : Nat) {x : Str} (hl : Γ.lookup i = some d) (hN : X.N[i]? = some x := by rfl) (hv : Vis X.env.scope x := by first | exact Or.inl rfl | exact Or.inr (Or.inl rfl) | exact Or.inr (Or.inr rfl)) (hK : X.K = K := by rfl) (hd : (x == ("__debug__" : Str)) = false := by decide)
    (hcd : (x == ("__classdict__" : Str)) = false := by decide) : PD K X n Γ (.Name x pos) d := pd_var hN hv hl hK hd hcd
theorem PWk.cast {tg it : Expr} (h : PWk K X n Γ tg it ds) (q : ds = s) : PWk K X n Γ tg it s := q ▸ h
theorem PWs.cast {tg it : Expr} (h : PWs K X n G tg it ds) (q : ds = s) : PWs K X n G tg it s := q ▸ h
theorem PBk.cast {st : List Stmt} (h : PBk K X n G st G') (q : G' = G'') : PBk K X n G st G'' := q ▸ h
theorem PSt.cast {st : Stmt} (h : PSt K X n G st G') (q : G' = G'') : PSt K X n G st G'' := q ▸ h
theorem PR.castG {st : List Stmt} (h : PR K X n G st d) (q : G = G') : PR K X n G' st d := q ▸ h
theorem zipD_map {α β : Type} (f : α → PyData) (g : β → PyData) (xs : List α) (ys : List β) : zipD (xs.map f) (ys.map g) = (xs.zip ys).map fun p => .tuple [f p.1, g p.2] := by
  unfold zipD
  rw [List.zip_map, List.map_map]
  rfl
theorem rgD_nat (m : Nat) : rgD 0 m = (List.range m).map fun (k : Nat) => .int (k : Int) := by
  unfold rgD
  refine List.map_congr_left fun k _ => ?_
  rw [Int.zero_add]
theorem enumD_map {α : Type} (f : α → PyData) (xs : List α) : enumD (xs.map f) = xs.zipIdx.map fun p => .tuple [.int (p.2 : Nat), f p.1] := by
  unfold enumD
  rw [List.zipIdx_map, List.map_map]
  rfl
/-- range(n), n a length -/
theorem wk_rangeN {tg : Expr} {m : Nat} (h : PD K X n Γ a (.int (m : Nat))) (h1 : m ≤ 1000000) (hg : Gl X "range") (hm : X.mg "range" = none) (hs : starEach [a] X.env = [(false, eval a X.env)] := by rfl) : PWk K X n Γ tg (.Call (.Name "range" p) [a] [] pos) ((List.range m).map fun (k : Nat) => .int (k : Int)) := by
  rw [← rgD_nat]
  have := wk_range (tg := tg) (p := p) (pos := pos) h (by omega) (by omega) hg hm hs
  simpa using this
theorem pws_rangeN {tg : Expr} {m : Nat} (h : PD K X n G.all a (.int (m : Nat))) (h1 : m ≤ 1000000) (hg : Gl X "range") (hm : X.mg "range" = none) (hs : starEach [a] X.env = [(false, eval a X.env)] := by rfl) : PWs K X n G tg (.Call (.Name "range" p) [a] [] pos) ((List.range m).map fun (k : Nat) => .int (k : Int)) := by
  rw [← rgD_nat]
  have := pws_range (tg := tg) (p := p) (pos := pos) h (by omega) (by omega) hg hm hs
  simpa using this
theorem o_maxN {l : List Int} (h : l ≠ []) : OpN K (rMax K) [.list (l.map .int)] (.int (mxD 0 l)) := by
  cases l with
  | nil => exact absurd rfl h
  | cons x xs => exact o_max
theorem eqv_ints (a b : List Int) : PyData.eqv (.tuple (a.map .int)) (.tuple (b.map .int)) = decide (a = b) := by
  simp only [PyData.eqv]
  exact PySem.W.ked_eqvAll a b
theorem shaped_ints (a : List Int) : SeqAt.shaped (.tuple (a.map .int)) = true := shaped_of (by simpa [PyData.canLay0] using lay_ints a) (by simp only [PyData.depth, depth_ints]; decide)
theorem noMs_ints : ∀ ns : List Int, noMs (ns.map PyData.int) = true
  | [] => by simp [noMs]
  | n :: ns => by simp [noMs, noM, noMs_ints ns]
theorem noM_tup (ns : List Int) : noM (.tuple (ns.map .int)) = true := by simp [noM, noMs_ints]
theorem atI_get {α : Type} {xs : List α} {j : Nat} (h : j < xs.length) : atI xs (j : Int) = some xs[j] := atI_nat (List.getElem?_eq_getElem h)
theorem atI_map {α β : Type} (f : α → β) {xs : List α} {i : Int} {x : α} (h : atI xs i = some x) : atI (xs.map f) i = some (f x) := by
  unfold L2.atI at h ⊢
  rw [List.length_map]
  cases q : ixN xs.length i with
  | none => rw [q] at h; cases h
  | some m =>
    rw [q] at h
    have h' : xs[m]? = some x := h
    show (xs.map f)[m]? = some (f x)
    rw [List.getElem?_map, h']
    rfl
/-! sizes -/
def absI (x : Int) : Int := if x < 0 then -x else x
/-- the size of a tuple of ints -/
def szR (r : List Int) : Int := mxD 0 (r.map absI)
theorem mxD_cons {d x : Int} {xs : List Int} : mxD d (x :: xs) = mxL x xs := rfl
theorem mxL_nonneg {x : Int} {xs : List Int} (h : 0 ≤ x) : 0 ≤ mxL x xs := Int.le_trans h (mxL_ge x xs x List.mem_cons_self)
theorem absI_nonneg (x : Int) : 0 ≤ absI x := by unfold absI; split <;> omega
theorem mxL_zero {xs : List Int} (h : ∀ x ∈ xs, 0 ≤ x) : mxL 0 xs = mxD 0 xs := by
  cases xs with
  | nil => rfl
  | cons x xs =>
    show mxL 0 (x :: xs) = mxL x xs
    unfold mxL
    have := h x List.mem_cons_self
    by_cases z : x > 0
    · rw [if_pos z]
      cases xs <;> rfl
    · rw [if_neg z]
      have : x = 0 := by omega
      subst this
      cases xs <;> rfl
theorem szR_nonneg (r : List Int) : 0 ≤ szR r := by
  unfold szR
  cases r with
  | nil => exact Int.le_refl _
  | cons x xs => exact mxL_nonneg (absI_nonneg x)
theorem mxD_bd {l : List Int} {m : Int} (h : ∀ x ∈ l, x ≤ m) (h0 : 0 ≤ m) : mxD 0 l ≤ m := by
  cases l with
  | nil => exact h0
  | cons x xs => exact h _ (mxL_mem x xs)
theorem absI_bd {x m : Int} (h0 : -m ≤ x) (h1 : x ≤ m) : absI x ≤ m := by unfold absI; split <;> omega
/-! calls of a rule for ints: a bound of a product -/
theorem cmul_r {i j : Int} (h0 : -(2 ^ 64) < j) (h1 : j < 2 ^ 64) : CMul i j := .inr ⟨h0, h1⟩
theorem cmul_l {i j : Int} (h0 : -(2 ^ 64) < i) (h1 : i < 2 ^ 64) : CMul i j := .inl ⟨h0, h1⟩
end
end Nk
set_option Elab.async false
set_option linter.all false
set_option maxRecDepth 100000
set_option maxHeartbeats 4000000
namespace Nk
open PySem L2

/-! a law's own def: data in slots, beside the deck -/
abbrev Dck (H : Hp) (a : Addr) : Prop := ∃ D, Deck D H a
/-- all but the deck's own lists -/
theorem Deck.full {D0 H : Hp} {a : Addr} (h : Deck D0 H a) : ∃ D, Deck D H a ∧ TupS H D ∧ ∀ D', Deck D' H a → Same D' D := by
  obtain ⟨s, na, l0, l1, bs, cs, n, n0, n1, ne, ha, h0, h1, hc, hl⟩ := h
  classical
  refine ⟨fun b => if b = a ∨ b = l0 ∨ b = l1 then none else H b, ⟨fun b o e => ?_, if_pos (.inl rfl), l0, l1, bs, cs, n, if_pos (.inr (.inl rfl)), if_pos (.inr (.inr rfl)), ne, ha, h0, h1, hc, hl⟩, fun b xs e => ?_, fun D' d' p o e => ?_⟩
  · by_cases z : b = a ∨ b = l0 ∨ b = l1
    · rw [if_pos z] at e; cases e
    · rw [if_neg z] at e; exact e
  · have : ¬ (b = a ∨ b = l0 ∨ b = l1) := by
      rintro (z | z | z)
      · rw [z, ha] at e; cases e
      · rw [z, h0] at e; cases e
      · rw [z, h1] at e; cases e
    show (if b = a ∨ b = l0 ∨ b = l1 then none else H b) = _
    rw [if_neg this]
    exact e
  · obtain ⟨s', na', m0, m1, bs', cs', n', n0', n1', ne', ha', h0', h1', hc', hl'⟩ := d'
    rw [ha] at ha'
    have e0 : l0 = m0 := by simpa using congrArg (fun o => match o with | some (.lst (.ref x :: _)) => x | _ => 0) ha'
    have e1 : l1 = m1 := by simpa using congrArg (fun o => match o with | some (.lst (_ :: .ref x :: _)) => x | _ => 0) ha'
    subst e0 e1
    have hn : ¬ (p = a ∨ p = l0 ∨ p = l1) := by
      rintro (z | z | z)
      · rw [z, na'] at e; cases e
      · rw [z, n0'] at e; cases e
      · rw [z, n1'] at e; cases e
    show (if p = a ∨ p = l0 ∨ p = l1 then none else H p) = _
    rw [if_neg hn]
    exact s' _ _ e
/-- the greatest heap beside the deck -/
structure DMax (D H : Hp) (a : Addr) : Prop where
  dk : Deck D H a
  ts : TupS H D
  mx : ∀ D', Deck D' H a → Same D' D
theorem Deck.max {D0 H : Hp} {a : Addr} (h : Deck D0 H a) : ∃ D, DMax D H a := let ⟨D, h1, h2, h3⟩ := h.full; ⟨D, h1, h2, h3⟩
/-- a new object beside the deck -/
theorem Deck.addL {D H H' : Hp} {a p : Addr} {o : HO} (d : Deck D H a) (hp : H p = none) (e : Same H H') (h : H' p = some o) : Deck (upd D p o) H' a := by
  obtain ⟨s, na, l0, l1, bs, cs, n, n0, n1, ne, ha, h0, h1, hc, hl⟩ := d
  refine ⟨fun b u z => ?_, ?_, l0, l1, bs, cs, n, ?_, ?_, ne, e _ _ ha, e _ _ h0, e _ _ h1, hc, hl⟩
  · by_cases q : b = p
    · subst q
      rw [upd_same] at z
      cases z
      exact h
    · rw [upd_ne q] at z
      exact e _ _ (s _ _ z)
  · rw [upd_ne (fun z => by rw [z, hp] at ha; cases ha)]; exact na
  · rw [upd_ne (fun z => by rw [z, hp] at h0; cases h0)]; exact n0
  · rw [upd_ne (fun z => by rw [z, hp] at h1; cases h1)]; exact n1
/-- only the deck has changed -/
def Chg (a : Addr) (H H' : Hp) : Prop := ∀ D, Deck D H a → Deck D H' a
theorem Chg.trans {a : Addr} {H H' H'' : Hp} (x : Chg a H H') (y : Chg a H' H'') : Chg a H H'' := fun D d => y D (x D d)
theorem Chg.ts {a : Addr} {H H' : Hp} (x : Chg a H H') (h : Dck H a) : TupS H H' := by
  obtain ⟨D0, d0⟩ := h
  obtain ⟨D, d, t, _⟩ := d0.full
  exact fun b xs e => (x D d).sub _ _ (t _ _ e)
theorem Chg.dck {a : Addr} {H H' : Hp} (x : Chg a H H') (h : Dck H a) : Dck H' a := let ⟨D, d⟩ := h; ⟨D, x D d⟩
theorem Deck.same {D H H' : Hp} {a : Addr} (d : Deck D H a) (e : Same H H') : Deck D H' a := by
  obtain ⟨s, na, l0, l1, bs, cs, n, n0, n1, ne, ha, h0, h1, hc, hl⟩ := d
  exact ⟨s.trans e, na, l0, l1, bs, cs, n, n0, n1, ne, e _ _ ha, e _ _ h0, e _ _ h1, hc, hl⟩
theorem Dck.same {H H' : Hp} {a : Addr} (h : Dck H a) (e : Same H H') : Dck H' a := let ⟨D, d⟩ := h; ⟨D, d.same e⟩
theorem Same.chg {a : Addr} {H H' : Hp} (e : Same H H') : Chg a H H' := fun D d => d.same e
theorem Deck.ts {D D' H H' : Hp} {a : Addr} (t : TupS H D) (s : Same D D') (d : Deck D' H' a) : TupS H H' := fun b xs e => d.sub _ _ (s _ _ (t _ _ e))
structure StD (K : PySem.W.Frag) (n dk : Nat) (G : List (Nat × PyData)) (σ : St) (H : Hp) : Prop where
  len : σ.length = n
  dat : EnvL K G σ H
  nom : ∀ q ∈ G, noM q.2 = true
  dck : ∃ a, σ[dk]? = some (some (.ref a)) ∧ Dck H a
section
variable {K : PySem.W.Frag} {X : Cx} {n dk : Nat} {G G' : List (Nat × PyData)} {σ : St} {H H' : Hp} {e a b c : Expr} {es : List Expr} {d da db dc : PyData} {ds : List PyData} {pos p : Pos} {st : Stmt} {rest body orelse : List Stmt}
theorem DMax.chg {D H H' : Hp} {a : Addr} (m : DMax D H a) (d : Deck D H' a) : Chg a H H' := fun D' d' => d.less (m.mx D' d')
theorem StD.env (s : StD K n dk G σ H) : Env K n G σ H := ⟨s.len, s.dat⟩
theorem StD.same (s : StD K n dk G σ H) (e : Same H H') : StD K n dk G σ H' := ⟨s.len, s.dat.same e, s.nom, let ⟨a, h, d⟩ := s.dck; ⟨a, h, d.same e⟩⟩
def putD (i : Nat) (d : PyData) (G : List (Nat × PyData)) : List (Nat × PyData) := (i, d) :: drp i G
theorem StD.put {i : Nat} {v : V} (s : StD K n dk G σ H) (hi : i < n) (hd : Dq K H v d) (hn : noM d = true) (hk : i ≠ dk) : StD K n dk (putD i d G) (σ.set i (some v)) H :=
  ⟨by rw [List.length_set]; exact s.len, ⟨⟨v, by rw [List.getElem?_set_self (by rw [s.len]; exact hi)], hd⟩, s.dat.drp⟩, fun q hq => by
    rcases List.mem_cons.mp hq with rfl | hq
    · exact hn
    · exact s.nom q (mem_drp hq).1, let ⟨a, h, d⟩ := s.dck; ⟨a, by rw [List.getElem?_set_ne hk]; exact h, d⟩⟩
/-- e is drawn: some data of P -/
def tN (K : PySem.W.Frag) (n dk : Nat) (G : List (Nat × PyData)) (P : PyData → Prop) : TE := fun σ H Q => StD K n dk G σ H ∧ ∀ v H' d a, σ[dk]? = some (some (.ref a)) → Chg a H H' → Dq K H' v d → noM d = true → P d → Q v H'
structure PN (K : PySem.W.Frag) (X : Cx) (n dk : Nat) (G : List (Nat × PyData)) (e : Expr) (P : PyData → Prop) : Prop where
  pe : PE X e (tN K n dk G P)
theorem PN.imp {P P' : PyData → Prop} (h : PN K X n dk G e P) (i : ∀ d, P d → P' d) : PN K X n dk G e P' := ⟨pe_imp h.pe fun σ H Q q => ⟨q.1, fun v H' d a h1 h2 h3 h4 h5 => q.2 v H' d a h1 h2 h3 h4 (i d h5)⟩⟩
/-- a call of a def that draws -/
def spN (K : PySem.W.Frag) {α : Type} (enc : α → List PyData) (Pa : α → Prop) (R : α → PyData → Prop) : Sp := fun vs H Q _ => ∃ a args z, vs = .ref a :: args ∧ Dck H a ∧ DqAll K H args (enc z) ∧ noMs (enc z) = true ∧ Pa z ∧
  ∀ v H' d, Chg a H H' → Dq K H' v d → noM d = true → R z d → Q v H'
theorem StD.of {a : Addr} (s : StD K n dk G σ H) (h : σ[dk]? = some (some (.ref a))) : Dck H a := by
  obtain ⟨b, h1, h2⟩ := s.dck
  rw [h] at h1
  cases h1
  exact h2
theorem StD.chg {a : Addr} (s : StD K n dk G σ H) (h : σ[dk]? = some (some (.ref a))) (k : Chg a H H') : StD K n dk G σ H' := ⟨s.len, s.dat.ts (k.ts (s.of h)) s.nom, s.nom, a, h, k.dck (s.of h)⟩
/-- the arguments behind the deck -/
structure PAs (K : PySem.W.Frag) (X : Cx) (n dk : Nat) (G : List (Nat × PyData)) (es : List Expr) (ds : List PyData) : Prop where
  pa : PA X es (fun σ H Q => StD K n dk G σ H ∧ ∀ vs H' a, Same H H' → σ[dk]? = some (some (.ref a)) → Dck H' a → DqAll K H' vs ds → Q (.ref a :: vs) H')
theorem pas {x : Str} {q : Pos} (hN : X.N[dk]? = some x) (hv : Vis X.env.scope x) (h : PDs K X n G es ds) (hs : starEach (.Name x q :: es) X.env = (false, eval (.Name x q) X.env) :: starEach es X.env := by rfl) (hd : (x == ("__debug__" : Str)) = false := by decide)
    (hcd : (x == ("__classdict__" : Str)) = false := by decide) : PAs K X n dk G (.Name x q :: es) ds :=
  ⟨pa_imp (pa_cons (pe_var hN hv hd hcd) h.pa hs) fun σ H Q ⟨s, k⟩ => by
    obtain ⟨a, h1, h2⟩ := s.dck
    exact ⟨.ref a, h1, s.env, fun vs H' e q => k vs H' a e h1 (h2.same e) q⟩⟩
theorem pn_call {α : Type} {enc : α → List PyData} {Pa : α → Prop} {R : α → PyData → Prop} {x : Str} {k : Nat} {ps : List Str} (D : Dk X.prog X.w X.K X.mg X.base k x ps (spN K enc Pa R)) (hr : Room k X.A) (z : α) (hp : Pa z) (ha : PAs K X n dk G (e :: es) ds) (hn : noMs ds = true) (hd : ds = enc z := by rfl) (hg : Gl X x := by rfl) (hdb : (x == ("__debug__" : Str)) = false := by decide)
    (he : starEach (e :: es) X.env = (false, eval e X.env) :: starEach es X.env := by rfl) (hpl : (backTo pos (starEach es X.env)).any (·.1) = false := by rfl) : PN K X n dk G (.Call (.Name x p) (e :: es) [] pos) (R z) :=
  ⟨pe_imp (pe_dk D hr ha.pa hg hdb he hpl) fun σ H Q ⟨s, q⟩ => ⟨s, fun vs H1 a s1 h1 h2 h3 => ⟨a, vs, z, by rw [List.append_nil], h2, hd ▸ h3, hd ▸ hn, hp, fun v H' d h4 h5 h6 h7 => q v H' d a h1 ((Same.chg s1).trans h4) h5 h6 h7⟩⟩⟩
/-! blocks that lead on, the deck alone known at the end -/
def tL (K : PySem.W.Frag) (n dk : Nat) (G G' : List (Nat × PyData)) : TS := fun D σ H => StD K n dk G σ H ∧ ∀ σ' H', TupS H H' → StD K n dk G' σ' H' → D.nx σ' H'
structure PL (K : PySem.W.Frag) (X : Cx) (n dk : Nat) (G : List (Nat × PyData)) (sts : List Stmt) (G' : List (Nat × PyData)) : Prop where
  ps : PSs X sts (tL K n dk G G')
/-- a statement that leads on -/
structure PSd (K : PySem.W.Frag) (X : Cx) (n dk : Nat) (G : List (Nat × PyData)) (st : Stmt) (G' : List (Nat × PyData)) : Prop where
  ps : PS X st (tL K n dk G G')
theorem pl_cons {G1 : List (Nat × PyData)} (h : PSd K X n dk G st G1) (g : PL K X n dk G1 rest G') : PL K X n dk G (st :: rest) G' :=
  ⟨pss_imp (pss_cons h.ps g.ps) fun D σ H ⟨s, k⟩ => ⟨s, fun σ' H' t s' => ⟨s', fun σ2 H2 t2 s2 => k σ2 H2 (t.trans t2) s2⟩⟩⟩
theorem pl_one (h : PSd K X n dk G st G') : PL K X n dk G [st] G' := ⟨pss_one h.ps⟩
theorem EnvL.nil : EnvL K [] σ H := trivial
theorem pl_nil : PL K X n dk G [] [] := ⟨pss_imp pss_nil fun D σ H ⟨s, k⟩ => k σ H (TupS.refl H) ⟨s.len, trivial, fun q hq => (nomatch hq), s.dck⟩⟩
theorem pl_end : PL K X n dk G [] G := ⟨pss_imp pss_nil fun D σ H ⟨s, k⟩ => k σ H (TupS.refl H) s⟩
theorem pl_set {i : Nat} {x : Str} {pos' : Pos} (nd : X.N.Nodup) (hi : X.N[i]? = some x) (hx : Loc X.env.scope x) (hin : i < n) (hk : i ≠ dk) (h : PD K X n G e d) (hn : noM d = true) (g : PL K X n dk (putD i d G) rest G') (hs : swapsWith e (some (.Name x pos')) pos.line X.env = pure false := by rfl) (hf : X.fn x = true ∨ X.env.scope.names.lookup x = some .local := by first | exact .inl rfl | exact .inr rfl | assumption) :
    PL K X n dk G (.Assign [.Name x pos'] e pos :: rest) G' :=
  ⟨pss_imp (pss_cons (ps_set nd hi hx h.pe hs hf) g.ps) fun D σ H ⟨s, k⟩ => ⟨s.env, fun v H' e q => ⟨(s.same e).put hin q hn hk, fun σ2 H2 t s2 => k σ2 H2 ((Same.ts e).trans t) s2⟩⟩⟩
theorem pl_draw {i : Nat} {x : Str} {pos' : Pos} {P : PyData → Prop} (nd : X.N.Nodup) (hi : X.N[i]? = some x) (hx : Loc X.env.scope x) (hin : i < n) (hk : i ≠ dk) (h : PN K X n dk G e P) (g : ∀ d, P d → PL K X n dk (putD i d G) rest G') (hs : swapsWith e (some (.Name x pos')) pos.line X.env = pure false := by rfl) (hf : X.fn x = true ∨ X.env.scope.names.lookup x = some .local := by first | exact .inl rfl | exact .inr rfl | assumption) :
    PL K X n dk G (.Assign [.Name x pos'] e pos :: rest) G' :=
  ⟨pss_imp (pss_cons (ps_set nd hi hx h.pe hs hf) (pss_ex fun z : { d : PyData // P d } => (g z.1 z.2).ps)) fun D σ H ⟨s, k⟩ => ⟨s, fun v H' d a h1 h2 h3 h4 h5 => ⟨⟨d, h5⟩, (s.chg h1 h2).put hin h3 h4 hk, fun σ2 H2 t2 s2 => k σ2 H2 ((h2.ts (s.of h1)).trans t2) s2⟩⟩⟩
theorem pl_two {i j : Nat} {x y : Str} {k : Nat} {px py tpos : Pos} (nd : X.N.Nodup) (hi : X.N[i]? = some x) (hj : X.N[j]? = some y) (hx : Loc X.env.scope x) (hy : Loc X.env.scope y) (hin : i < n) (hjn : j < n) (hij : i ≠ j) (hik : i ≠ dk) (hjk : j ≠ dk) (hc : X.calm = true) (h : PD K X n G e (.tuple [da, db])) (hna : noM da = true) (hnb : noM db = true) (g : PL K X n dk (putD j db (putD i da G)) rest G')
    (hs : swapsWithSole [.Tuple [.Name x px, .Name y py] k tpos] e pos.line X.env = pure false := by rfl) (hw : swappedStores [.Tuple [.Name x px, .Name y py] k tpos] e X.env = pure none := by rfl)
    (h1 : (assignEach [.Tuple [.Name x px, .Name y py] k tpos] X.env).map (·.2) = [assign (.Tuple [.Name x px, .Name y py] k tpos) X.env] := by rfl)
    (hl : (assignEach [.Name x px, .Name y py] X.env).length = 2 := by rfl) (hst : (assignEach [.Name x px, .Name y py] X.env).findIdx? (·.1) = none := by rfl)
    (hq1 : (assignEach [.Name x px, .Name y py] X.env).map (·.2) = assign (.Name x px) X.env :: (assignEach [.Name y py] X.env).map (·.2) := by rfl) (hq2 : (assignEach [.Name y py] X.env).map (·.2) = assign (.Name y py) X.env :: (assignEach [] X.env).map (·.2) := by rfl)
    (hf : X.fn x = true ∨ X.env.scope.names.lookup x = some .local := by first | exact .inl rfl | exact .inr rfl | assumption) (hf2 : X.fn y = true ∨ X.env.scope.names.lookup y = some .local := by first | exact .inl rfl | exact .inr rfl | assumption) :
    PL K X n dk G (.Assign [.Tuple [.Name x px, .Name y py] k tpos] e pos :: rest) G' := by
  refine ⟨pss_imp (pss_cons (ps_asg h.pe (pg_tup hc (pgs_cons (pg_name (i := i) nd hi hx hf) (pgs_cons (pg_name (i := j) nd hj hy hf2) pgs_nil hq2) hq1) hl hst) hs hw h1) g.ps) fun D σ H ⟨s, k⟩ => ⟨s.env, fun v H' e q => ?_⟩⟩
  cases q with
  | tup hp ha =>
    cases ha with
    | cons q1 ha =>
      cases ha with
      | cons q2 ha =>
        cases ha
        refine ⟨_, _, rfl, SqT.of hp, rfl, _, _, rfl, _, _, rfl, rfl, ?_⟩
        exact ⟨((s.same e).put hin q1 hna hik).put hjn q2 hnb hjk, fun σ2 H2 t s2 => k σ2 H2 ((Same.ts e).trans t) s2⟩
/-- a test that fails: its body is never come to -/
theorem pl_no (h : PB K X n G c false) (g : PL K X n dk G rest G') : PL K X n dk G (.If c body [] pos :: rest) G' :=
  ⟨pss_imp (pss_cons (ps_if h.pt pss_never pss_nil) g.ps) fun D σ H ⟨s, k⟩ => ⟨s.env, fun H' e => iteF ⟨s.same e, fun σ2 H2 t s2 => k σ2 H2 ((Same.ts e).trans t) s2⟩⟩⟩
def tLEx (K : PySem.W.Frag) (n dk i m : Nat) (G : List (Nat × PyData)) : TS := fun D σ H => ∃ z : { k : Nat // k < m }, tL K n dk ((i, .int (z.1 : Int)) :: G) G D σ H
/-- for x in range(m): body, the deck alone known from turn to turn -/
theorem psd_for {i m : Nat} {x : Str} {xpos : Pos} (nd : X.N.Nodup) (hp : PassesOwn (model X.prog X.w) X.A X.env X.xe) (hc : X.calm = true) (hi : X.N[i]? = some x) (hx : Loc X.env.scope x) (hin : i < n) (hk : i ≠ dk) (hoff : offK G [i] = true) (h : PD K X n G a (.int (m : Nat))) (h1 : m ≤ 1000000) (hg : Gl X "range") (hm : X.mg "range" = none)
    (hGb : ∀ k, k < m → PL K X n dk ((i, .int (k : Int)) :: G) body G) (hs0 : starEach [a] X.env = [(false, eval a X.env)] := by rfl) (hf : X.fn x = true ∨ X.env.scope.names.lookup x = some .local := by first | exact .inl rfl | exact .inr rfl | assumption)
    (hs : ∀ x, foldedSetIterable (.Call (.Name "range" p) [a] [] pos) X.env x = pure x := by intro _; rfl) {fpos : Pos} : PSd K X n dk G (.For (.Name x xpos) (.Call (.Name "range" p) [a] [] pos) body [] fpos) G := by
  refine ⟨ps_imp (ps_for hp hc (pi_range1 hg hm (pa_cons h.pe pa_nil hs0) hs0) (pg_name (i := i) nd hi hx hf) (show PSs X body (tLEx K n dk i m G) from pss_ex fun z => (hGb z.1 z.2).ps) hs) fun D σ H ⟨s, k⟩ => ⟨s.env, fun v H1 e1 q => ?_⟩⟩
  cases q
  refine ⟨(m : Int), rfl, by omega, by omega, ?_⟩
  show ∃ W : Nat → Nat → St → Hp → Prop, _
  rw [Int.toNat_natCast]
  refine for_range (n := m) (g := gName i) (tb := tLEx K n dk i m G) (D := D) (fun j σ' H' => StD K n dk G σ' H' ∧ TupS H1 H') ⟨s.same e1, TupS.refl _⟩ ?_ ?_
  rotate_left
  · rintro σ2 H2 ⟨s2, t2⟩
    exact k σ2 H2 ((Same.ts e1).trans t2) s2
  rintro j σ2 H2 hj ⟨s2, t2⟩
  refine ⟨⟨j, hj⟩, ?_, fun σ3 H3 t3 s3 => ⟨s3, t2.trans t3⟩⟩
  have off : ∀ j', [i].contains j' = false → (σ2.set i (some (V.int (0 + (j : Nat)))))[j']? = σ2[j']? := fun j' hj' => by
    have : i ≠ j' := fun z => by subst z; simp at hj'
    rw [List.getElem?_set_ne this]
  refine ⟨by rw [List.length_set]; exact s2.len, ⟨⟨V.int (0 + (j : Nat)), by rw [List.getElem?_set_self (by rw [s2.len]; exact hin)], by rw [Int.zero_add]; exact .int _⟩, EnvL.off off hoff s2.dat⟩, fun q hq => ?_, ?_⟩
  · rcases List.mem_cons.mp hq with rfl | hq
    · rfl
    · exact s2.nom q hq
  · obtain ⟨a, h1, h2⟩ := s2.dck
    exact ⟨a, by rw [List.getElem?_set_ne hk]; exact h1, h2⟩
/-! repr -/
theorem o_repr (f : Fit 300000 40 d) (u : Uno d) : OpN K (rRepr K) [d] (.str d.shown) := fun xs H Q h k => by
  cases h with
  | cons h hn =>
    cases hn
    exact ⟨_, d, rfl, h, u, f.sh, f.dp, f.show (Nat.le_refl _), k _ H (Same.refl H) (.str _)⟩
end
end Nk
set_option Elab.async false
set_option linter.all false
set_option maxRecDepth 100000
set_option maxHeartbeats 4000000
namespace Nk
open PySem L2
section
variable {K : PySem.W.Frag} {X : Cx} {n dk : Nat} {G G' : List (Nat × PyData)} {σ : St} {H H' : Hp} {e a b c : Expr} {es : List Expr} {d da db dc : PyData} {ds : List PyData} {pos p : Pos} {st : Stmt} {rest body orelse : List Stmt}
/-! more that is drawn -/
theorem rg_ints (m : Nat) : rgV 0 (m : Nat) = ((List.range m).map fun (k : Nat) => V.int (k : Int)) := by
  unfold rgV
  rw [show ((m : Int) - 0).toNat = m by omega]
  refine List.map_congr_left fun k _ => ?_
  rw [Int.zero_add]
theorem rg_data (m : Nat) (H : Hp) : DqAll K H ((List.range m).map fun (k : Nat) => V.int (k : Int)) ((List.range m).map fun (k : Nat) => PyData.int (k : Int)) := by
  have := DqAll.ints (K := K) (H := H) ((List.range m).map fun (k : Nat) => (k : Int))
  rw [List.map_map, List.map_map] at this
  exact this
theorem pf_listRg {m : Nat} (h : PD K X n G a (.int (m : Nat))) (h1 : m ≤ 1000000) (hg : Gl X "list") (hm : X.mg "list" = none) (hg2 : Gl X "range") (hm2 : X.mg "range" = none) (hc : X.calm = true := by rfl) {p2 pos2 : Pos}
    (na : starEach [.Call (.Name "range" p2) [a] [] pos2] X.env = (false, eval (.Call (.Name "range" p2) [a] [] pos2) X.env) :: starEach [] X.env := by rfl) (na2 : starEach [a] X.env = (false, eval a X.env) :: starEach [] X.env := by rfl) : PF K X n G (.Call (.Name "list" p) [.Call (.Name "range" p2) [a] [] pos2] [] pos) ((List.range m).map fun (k : Nat) => .int (k : Int)) := by
  refine ⟨pe_imp (pe_listRg hc hg hm (prg_1 hg2 hm2 h.pe na2) na) fun σ H Q ⟨g, k⟩ => ⟨g, fun v H1 s1 q => ?_⟩⟩
  cases q
  refine ⟨m, rfl, RgOk.of_le (by omega) (by omega) (by omega) (by omega), fun q hq => k q _ _ (s1.free hq) (s1.trans (same_new hq)) upd_same ?_⟩
  rw [rg_ints]
  exact rg_data m _
theorem pd_tupRg {m : Nat} (h : PD K X n G a (.int (m : Nat))) (h1 : m ≤ 1000000) (hg : Gl X "tuple") (hm : X.mg "tuple" = none) (hg2 : Gl X "range") (hm2 : X.mg "range" = none) (hc : X.calm = true := by rfl) {p2 pos2 : Pos}
    (na : starEach [.Call (.Name "range" p2) [a] [] pos2] X.env = (false, eval (.Call (.Name "range" p2) [a] [] pos2) X.env) :: starEach [] X.env := by rfl) (na2 : starEach [a] X.env = (false, eval a X.env) :: starEach [] X.env := by rfl) : PD K X n G (.Call (.Name "tuple" p) [.Call (.Name "range" p2) [a] [] pos2] [] pos) (.tuple ((List.range m).map fun (k : Nat) => .int (k : Int))) := by
  refine .of (pe_tupRg hc hg hm (prg_1 hg2 hm2 h.pe na2) na) (fun σ H Q g k => ⟨g, fun v H1 s1 q => ?_⟩) h.hK
  cases q
  refine ⟨m, rfl, RgOk.of_le (by omega) (by omega) (by omega) (by omega), fun q hq => k _ _ (s1.trans (same_new hq)) (.tup upd_same ?_)⟩
  rw [rg_ints]
  exact rg_data m _
theorem DqAll.perm {H : Hp} {xs ys : List V} (h : xs.Perm ys) : ∀ {ds : List PyData}, DqAll K H xs ds → ∃ es : List PyData, ds.Perm es ∧ DqAll K H ys es := by
  induction h with
  | nil => exact fun {ds} q => ⟨ds, .refl _, q⟩
  | cons x _ ih =>
    intro ds q
    cases q with
    | cons a t =>
      obtain ⟨es, p, q'⟩ := ih t
      exact ⟨_ :: es, p.cons _, .cons a q'⟩
  | swap x y l =>
    intro ds q
    cases q with
    | cons a t =>
      cases t with
      | cons b t => exact ⟨_, List.Perm.swap _ _ _, .cons b (.cons a t)⟩
  | trans _ _ ih1 ih2 =>
    intro ds q
    obtain ⟨es, p1, q1⟩ := ih1 q
    obtain ⟨fs, p2, q2⟩ := ih2 q1
    exact ⟨fs, p1.trans p2, q2⟩
theorem chg_new {a : Addr} {H H1 H' D : Hp} {p : Addr} {o : HO} (hp : H p = none) (e : Same H H1) (ho : H1 p = some o) (m : DMax D H1 a) (d : Deck D H' a) : Chg a H H' := fun D0 d0 => by
  have d1 := d0.addL hp e ho
  have s := m.mx _ d1
  exact d.less fun b u z => s _ _ (by
    rw [upd_ne (fun q => by rw [q, d0.free hp] at z; cases z)]
    exact z)
/-- _law_one(deck, a new list) -/
theorem pn_one {x y : Str} {k : Nat} {ps : List Str} {q : Pos} (D1 : Dk X.prog X.w X.K X.mg X.base k y ps spOne) (hr : Room k X.A) (h : PF K X n G e ds) (hne : ds ≠ []) (hl : ds.length ≤ 1000) (hn : noMs ds = true) (hN : X.N[dk]? = some x := by rfl) (hv : Vis X.env.scope x := by first | exact Or.inl rfl | exact Or.inr (Or.inl rfl) | exact Or.inr (Or.inr rfl)) (hd : (x == ("__debug__" : Str)) = false := by decide)
    (hcd : (x == ("__classdict__" : Str)) = false := by decide) (hg : Gl X y := by rfl) (hdb : (y == ("__debug__" : Str)) = false := by decide) (he : starEach [.Name x q, e] X.env = (false, eval (.Name x q) X.env) :: starEach [e] X.env := by rfl) (he2 : starEach [e] X.env = (false, eval e X.env) :: starEach [] X.env := by rfl)
    (hpl : (backTo pos (starEach [e] X.env)).any (·.1) = false := by rfl) : PN K X n dk G (.Call (.Name y p) [.Name x q, e] [] pos) (fun d => d ∈ ds) := by
  refine ⟨pe_imp (pe_dk D1 hr (pa_cons (pe_var hN hv hd hcd) (pa_cons h.pe pa_nil he2) he) hg hdb he hpl) fun σ H Q ⟨s, k⟩ => ?_⟩
  obtain ⟨a, h1, D0, h2⟩ := s.dck
  refine ⟨.ref a, h1, s.env, fun l vs H1 hl0 s1 hl1 hv1 => ?_⟩
  have d1 := h2.addL hl0 s1 hl1
  obtain ⟨D2, m2⟩ := d1.max
  refine ⟨D2, a, l, vs, rfl, m2.dk, m2.mx _ d1 _ _ upd_same, fun z => hne ?_, by rw [hv1.length]; exact hl, fun H' x d' hx => ?_⟩
  · subst z; cases hv1; rfl
  obtain ⟨d, hd', qd⟩ := hv1.mem hx
  exact k x H' d a h1 (chg_new hl0 s1 hl1 m2 d') (qd.ts (fun b xs e => d'.sub _ _ (m2.ts _ _ e)) (noMs_mem hn hd')) (noMs_mem hn hd') hd'
/-! walks while the deck changes -/
structure PWd (K : PySem.W.Frag) (X : Cx) (n : Nat) (G : List (Nat × PyData)) (tg it : Expr) (ds : List PyData) : Prop where
  pi : PI X tg it (fun σ H R => Env K n G σ H ∧ ∀ J H1, Same H H1 → Walk J ds.length (TupS H1) (YD K ds) → R J H1)
theorem PWd.cast {tg it : Expr} {s : List PyData} (h : PWd K X n G tg it ds) (q : ds = s) : PWd K X n G tg it s := q ▸ h
theorem pwd_tup {tg : Expr} (h : PD K X n G a (.tuple ds)) (hn : noMs ds = true) : PWd K X n G tg a ds :=
  ⟨pi_imp (kpiT K h.pe h.hK) fun σ H R ⟨s, k⟩ => ⟨s, fun v H1 s1 z => by
    cases z with
    | tup hp ha =>
      refine ⟨_, rfl, ⟨_, SqT.of hp⟩, k _ H1 s1 ?_⟩
      rw [← ha.length]
      refine (walk_tup (K := K) (xs := _)).mono (fun H s => SqT.of (s _ _ hp)) fun i H x H' hi s y => ?_
      obtain ⟨rfl, hx⟩ := y
      obtain ⟨d, h1, h2⟩ := ha.get hx
      exact ⟨Same.refl _, d, h1, h2.ts s (noMs_mem hn (List.mem_of_getElem? h1))⟩⟩⟩
theorem pwd_rangeN {tg : Expr} {m : Nat} (h : PD K X n G a (.int (m : Nat))) (h1 : m ≤ 1000000) (hg : Gl X "range") (hm : X.mg "range" = none) (hs : starEach [a] X.env = [(false, eval a X.env)] := by rfl) : PWd K X n G tg (.Call (.Name "range" p) [a] [] pos) ((List.range m).map fun (k : Nat) => .int (k : Int)) :=
  ⟨pi_imp (pi_range1 hg hm (pa_cons h.pe pa_nil hs) hs) fun σ H R ⟨s, k⟩ => ⟨s, fun v H1 s1 z => by
    cases z
    refine ⟨m, rfl, by omega, by omega, k _ H1 s1 ?_⟩
    rw [Int.toNat_natCast, List.length_map, List.length_range]
    refine walk_range.mono (fun _ _ => trivial) fun i H x H' hi s y => ?_
    obtain ⟨rfl, rfl⟩ := y
    refine ⟨Same.refl _, .int (i : Nat), ?_, by show Dq K H' (V.int (0 + ((i : Nat) : Int))) _; rw [Int.zero_add]; exact .int _⟩
    rw [List.getElem?_map, List.getElem?_range hi]
    rfl⟩⟩
def teN (K : PySem.W.Frag) (n dk : Nat) (G : List (Nat × PyData)) {α : Type} (xs : List α) (Δ : α → List (Nat × PyData)) (R : α → PyData → Prop) : TE := fun σ H Q => ∃ x, x ∈ xs ∧ tN K n dk (Δ x ++ G) (R x) σ H Q
/-- tuple([e for x in xs]), e drawn -/
theorem pn_lcT {α : Type} {xs : List α} {enc : α → PyData} {Δ : α → List (Nat × PyData)} {R : α → PyData → Prop} {elt tg it : Expr} {scope : Scope} {own : List (Str × Nat)} {g : TG} {p2 : Pos}
    (hc : X.calm = true) (nd : X.N.Nodup) (hi : PWd K X n G tg it (xs.map enc)) (ok : BlkOk X.N X.env.scope scope own) (hgt : ∀ (s : Shared) (H : Hp) (C : Addr) (cl : List (Str × Addr)) (fp : List Addr), PG (X.blk s H scope (compEnvC scope cl C X.env) fp) tg g)
    (htg : ∀ x ∈ xs, Tg K n g (own.map (·.2)) (enc x) (Δ x)) (hoff : offK G (own.map (·.2)) = true) (hdk : (own.map (·.2)).contains dk = false) (hnΔ : ∀ x ∈ xs, ∀ q ∈ Δ x, noM q.2 = true)
    (he : ∀ x ∈ xs, ∀ (s : Shared) (H : Hp) (C : Addr) (cl : List (Str × Addr)) (fp : List Addr), PN K (X.blk s H scope (compEnvC scope cl C X.env) fp) n dk (Δ x ++ G) elt (R x))
    (hl : xs.length ≤ 100000) (hg : Gl X "tuple") (hm : X.mg "tuple" = none) (hK : X.K = K := by rfl) (hs : ∀ x, foldedSetIterable it X.env x = pure x := by intro _; rfl)
    (na : starEach [.ListComp elt [⟨tg, it, [], 0⟩] scope p2] X.env = (false, eval (.ListComp elt [⟨tg, it, [], 0⟩] scope p2) X.env) :: starEach [] X.env := by rfl) (hpl : (backTo pos (starEach [] X.env)).any (·.1) = false := by rfl) :
    PN K X n dk G (.Call (.Name "tuple" p) [.ListComp elt [⟨tg, it, [], 0⟩] scope p2] [] pos) (fun d => ∃ ds, d = .tuple ds ∧ ds.length = xs.length ∧ ∀ (i : Nat) x d, xs[i]? = some x → ds[i]? = some d → R x d) := by
  refine ⟨pe_imp (pe_callTy (ktuple K hK) hg hm (by decide +kernel) (pa_cons (pe_lc (wi := _) (g := g) (tt := tYes) (te := teN K n dk G xs Δ R) hc nd hi.pi ok hgt (fun _ _ _ _ _ => pts_nil)
    (fun s H C cl fp => ⟨fun pins s' σ H' Q I ⟨x, hx, q⟩ => (he x hx s H C cl fp).pe.run pins s' σ H' Q I q⟩) hs) pa_nil na) (by decide) (by decide) na hpl) fun σ H Q ⟨s, k⟩ => ?_⟩
  refine ⟨s.env, fun J H1 s1 w C hC => ?_⟩
  obtain ⟨a, ha, hd0⟩ := s.dck
  have hd1 := hd0.same s1
  refine lc_it (g := g) (tt := tYes) (te := teN K n dk G xs Δ R) (vs := own.map (·.2)) (σ := σ) w (fun i H' => ∃ vs ds, H' C = some (.lst vs) ∧ DqAll K H' vs ds ∧ noMs ds = true ∧ ds.length = i ∧ (∀ (j : Nat) x d, xs[j]? = some x → ds[j]? = some d → R x d) ∧ ∀ D0, Deck D0 H1 a → ∃ D, Deck D H' a ∧ Same D0 D ∧ D C = some (.lst vs))
    ⟨[], [], upd_same, .nil, rfl, rfl, (fun j x d _ h => by cases h), fun D0 d0 => ⟨_, d0.addL hC (same_new hC) upd_same, same_new (d0.free hC), upd_same⟩⟩ ?_ ?_ ?_
  · rintro i H2 _ ⟨vs, ds, eC, hv, hn, hlen, hR, hD⟩
    obtain ⟨D0, d0⟩ := hd1
    obtain ⟨D1, m1⟩ := d0.max
    obtain ⟨D, d, s2, _⟩ := hD D1 m1.dk
    exact fun b xs e => d.sub _ _ (s2 _ _ (m1.ts _ _ e))
  · rintro i x H2 H3 hi2 ⟨vs, ds, eC, hv, hn, hlen, hR, hD⟩ ⟨s3, d, hd, qd⟩
    rw [List.length_map] at hi2
    rw [List.getElem?_map, List.getElem?_eq_getElem hi2] at hd
    have hd : enc xs[i] = d := Option.some.inj hd
    subst hd
    have hm := List.getElem_mem hi2
    obtain ⟨D00, d00⟩ := id hd1
    obtain ⟨D1, m1⟩ := d00.max
    obtain ⟨D, d2, s2, _⟩ := hD D1 m1.dk
    have t2 : TupS H1 H2 := fun b xs e => d2.sub _ _ (s2 _ _ (m1.ts _ _ e))
    have g3 : EnvL K G σ H3 := ((s.dat.same s1).ts t2 s.nom).same s3
    refine (htg _ hm).run x _ H3 _ (by rw [wipe_length]; exact s.len) qd fun σ2 w2 l2 o2 e2 => ⟨?_, xs[i], hm, ⟨⟨l2, ?_, ?_, ?_⟩, ?_⟩⟩
    · rw [w2]
      exact wipe_wipe _ _
    · exact e2.append (EnvL.off o2 hoff (EnvL.off (fun j hj => wipe_get hj) hoff g3))
    · intro q hq
      rcases List.mem_append.mp hq with hq | hq
      · exact hnΔ _ hm q hq
      · exact s.nom q hq
    · exact ⟨a, by rw [o2 _ hdk, wipe_get hdk]; exact ha, D, d2.same s3⟩
    · intro v H4 d a' ha' c4 q4 n4 r4
      rw [o2 _ hdk, wipe_get hdk, ha] at ha'
      have : a = a' := by simpa using ha'
      subst this
      obtain ⟨D', d', s', e'⟩ := hD D1 m1.dk
      have d4 := c4 _ (d'.same s3)
      have eC4 : H4 C = some (.lst vs) := d4.sub _ _ e'
      have t4 : TupS H3 H4 := c4.ts ⟨_, d'.same s3⟩
      have hv4 := (hv.same s3).ts t4 hn
      refine ⟨vs, eC4, ?_, vs ++ [v], ds ++ [d], upd_same, ?_, noMs_app hn (by simp [noMs, n4]), by rw [List.length_append, hlen]; rfl, fun j y e hy he' => ?_, fun D0 d0 => ?_⟩
      · rw [hv4.length, hlen]
        exact Nat.lt_of_le_of_lt (by omega) (show 100000 < sizeLine by decide)
      · exact (hv4.append (.cons q4 .nil)).ts (TupS.upd eC4) (noMs_app hn (by simp [noMs, n4]))
      · by_cases hj : j < ds.length
        · rw [List.getElem?_append_left hj] at he'
          exact hR j y e hy he'
        · have hj2 : j = ds.length := by
            have := (List.getElem?_eq_some_iff.mp he').1
            rw [List.length_append] at this
            have : ([d] : List PyData).length = 1 := rfl
            omega
          subst hj2
          rw [List.getElem?_append_right (Nat.le_refl _), Nat.sub_self] at he'
          have : d = e := by simpa using he'
          subst this
          rw [hlen, List.getElem?_eq_getElem hi2] at hy
          have : xs[i] = y := by simpa using hy
          subst this
          exact r4
      · obtain ⟨D5, d5, s5, e5⟩ := hD D0 d0
        have d6 := c4 _ (d5.same s3)
        refine ⟨_, d6.put e5, fun b o z => ?_, upd_same⟩
        rw [upd_ne (fun q => by rw [q, d0.free hC] at z; cases z)]
        exact s5 _ _ z
  · rintro H2 ⟨vs, ds, eC, hv, hn, hlen, hR, hD⟩
    refine ⟨C, vs, rfl, .inl ⟨SqL.of eC, fun l hl => ?_⟩⟩
    rw [List.length_map] at hlen
    refine k _ _ (.tuple ds) a ha (fun D0 d0 => ?_) (.tup upd_same (hv.same (same_new hl))) (by simpa [noM] using hn) ⟨ds, rfl, hlen, hR⟩
    obtain ⟨D, d, s2, _⟩ := hD D0 (d0.same s1)
    exact (d.same (same_new hl)).less s2
end
end Nk
namespace Nk
open PySem L2
/-! sizes of data that are shown -/
theorem Fit.intB {i : Int} (h0 : -(10 ^ 15) ≤ i) (h1 : i ≤ 10 ^ 15) : Fit 60 0 (.int i) := by
  have hn : i.natAbs < 2 ^ 50 := by omega
  have hl : i.natAbs.log2 < 50 := by
    by_cases h : i.natAbs = 0
    · rw [h]; decide
    · exact (Nat.log2_lt h).mpr hn
  refine ⟨by simp only [PyData.showable, decide_eq_true_eq]; omega, by simp only [PyData.leavesShort, decide_eq_true_eq]; exact int_short (by omega) (by omega), ?_, by simp [PyData.depth]⟩
  simp only [PyData.weight]
  split <;> omega
theorem Fits.all {ds : List PyData} {n m : Nat} (h : ∀ d ∈ ds, Fit n m d) : Fits ((n + 1) * ds.length) m ds := by
  induction ds with
  | nil => exact Fits.nil.mono (Nat.zero_le _) (Nat.zero_le _)
  | cons d ds ih =>
    refine (Fits.cons (h d List.mem_cons_self) (ih fun x hx => h x (List.mem_cons_of_mem _ hx))).mono ?_ (by omega)
    rw [List.length_cons, Nat.mul_add]
    omega
theorem Fits.intsB {ns : List Int} (h : ∀ x ∈ ns, -(10 ^ 15) ≤ x ∧ x ≤ 10 ^ 15) : Fits (61 * ns.length) 0 (ns.map .int) := by
  have := Fits.all (n := 60) (m := 0) (ds := ns.map .int) fun d hd => by
    obtain ⟨x, hx, rfl⟩ := List.mem_map.mp hd
    exact Fit.intB (h x hx).1 (h x hx).2
  rw [List.length_map] at this
  exact this
mutual
theorem noM_dict : ∀ {d : PyData}, noM d = true → d.hasDict = false
  | .none, _ => by simp [PyData.hasDict]
  | .bool _, _ => by simp [PyData.hasDict]
  | .int _, _ => by simp [PyData.hasDict]
  | .str _, _ => by simp [PyData.hasDict]
  | .list _, h => by simp [noM] at h
  | .dict _, h => by simp [noM] at h
  | .tuple xs, h => by
    have := noMs_dict (ds := xs) (by simpa [noM] using h)
    simpa [PyData.hasDict] using this
theorem noMs_dict : ∀ {ds : List PyData}, noMs ds = true → PyData.hasDictAll ds = false
  | [], _ => by simp [PyData.hasDictAll]
  | d :: ds, h => by
    have h' : noM d = true ∧ noMs ds = true := by simpa [noMs] using h
    simp [PyData.hasDictAll, noM_dict h'.1, noMs_dict h'.2]
end
/-- a list of data of tuples -/
theorem Uno.lst {ds : List PyData} (h : noMs ds = true) : Uno (.list ds) := .noD (by simp only [PyData.hasDict]; exact noMs_dict h)
theorem Uno.of {d : PyData} (h : noM d = true) : Uno d := .noD (noM_dict h)
section
variable {K : PySem.W.Frag} {X : Cx} {n dk : Nat} {G G' : List (Nat × PyData)} {e : Expr} {d : PyData} {ds : List PyData} {pos p : Pos} {st : Stmt} {rest : List Stmt}
/-- repr(e) -/
theorem pd_repr (hgd : X.A.guards = some []) (hu : X.A.units + 64 < cLine) (h : PD K X n G e d) (f : Fit 300000 40 d) (u : Uno d) (hm : X.mg "repr" = none) (hg : Gl X "repr" := by rfl) (hs : starEach [e] X.env = (false, eval e X.env) :: starEach [] X.env := by rfl) (hpl : (backTo pos (starEach [] X.env)).any (·.1) = false := by rfl) : PD K X n G (.Call (.Name "repr" p) [e] [] pos) (.str d.shown) :=
  pd_callB (krepr K hgd hu h.hK) hg hm (by decide +kernel) (PDs.cons h PDs.nil hs) (o_repr f u) h.hK (by decide) (by decide) hs hpl
/-- repr(e) != repr(f), the same data -/
theorem pb_reprs {a b : Expr} {s : Str} (h : PD K X n G a (.str s)) (g : PD K X n G b (.str s)) : PB K X n G (.Compare a [.NotEq] [b] pos) false :=
  (pb_cmp op_ne h g o_neS (nomark _)).cast (by simp)
/-! blocks that tell -/
def tLR (K : PySem.W.Frag) (n dk : Nat) (G : List (Nat × PyData)) (d : PyData) : TS := fun D σ H => StD K n dk G σ H ∧ ∀ v H', Dq K H' v d → D.rt v H'
structure PLR (K : PySem.W.Frag) (X : Cx) (n dk : Nat) (G : List (Nat × PyData)) (sts : List Stmt) (d : PyData) : Prop where
  ps : PSs X sts (tLR K n dk G d)
theorem plr_ret (h : PD K X n G e d) : PLR K X n dk G [.Return (some e) pos] d := ⟨pss_imp (pss_one (ps_ret h.pe)) fun D σ H ⟨s, k⟩ => ⟨s.env, fun v H' _ q => k v H' q⟩⟩
theorem plr_cons {G1 : List (Nat × PyData)} (h : PSd K X n dk G st G1) (g : PLR K X n dk G1 rest d) : PLR K X n dk G (st :: rest) d :=
  ⟨pss_imp (pss_cons h.ps g.ps) fun D σ H ⟨s, k⟩ => ⟨s, fun σ' H' _ s' => ⟨s', k⟩⟩⟩
theorem PLR.cast {sts : List Stmt} {d' : PyData} (h : PLR K X n dk G sts d) (q : d = d') : PLR K X n dk G sts d' := q ▸ h
end
end Nk
namespace Nk
open PySem L2
section
variable {K : PySem.W.Frag} {X : Cx} {n : Nat} {G : List (Nat × PyData)} {e : Expr} {ds : List PyData}
/-- e[::-1] -/
theorem pd_rev {k : Nat} {p1 p2 p3 pos : Pos} (h : PD K X n G e (.tuple ds)) : PD K X n G (.Subscript e (.Slice none none (some (.UnaryOp .USub (.Constant (.int 1) k p1) p2)) p3) pos) (.tuple ds.reverse) :=
  .of (pe_revT K h.pe h.hK) (fun σ H Q g k => ⟨g, fun v H1 s1 q => by
    cases q with
    | tup hp ha => exact ⟨_, _, rfl, SqT.of hp, fun p hq => k _ _ (s1.trans (same_new hq)) (.tup upd_same ((DqAll.reverse ha).same (same_new hq)))⟩⟩) h.hK
theorem mxD_congr {l l' : List Int} (h : ∀ x, x ∈ l ↔ x ∈ l') : mxD 0 l = mxD 0 l' := by
  cases l with
  | nil =>
    cases l' with
    | nil => rfl
    | cons y ys => exact absurd ((h y).mpr List.mem_cons_self) (by simp)
  | cons x xs =>
    cases l' with
    | nil => exact absurd ((h x).mp List.mem_cons_self) (by simp)
    | cons y ys => exact mxL_eq ((h _).mp (mxL_mem x xs)) fun z hz => mxL_ge x xs z ((h z).mpr hz)
theorem perm_map {α β : Type} {f : α → β} {l : List α} {es : List β} (h : (l.map f).Perm es) : ∃ o, es = o.map f ∧ l.Perm o := by
  generalize hl : l.map f = m at h
  induction h generalizing l with
  | nil => exact ⟨l, hl.symm, .refl _⟩
  | cons x _ ih =>
    cases l with
    | nil => cases hl
    | cons a l =>
      rw [List.map_cons] at hl
      injection hl with h1 h2
      obtain ⟨o, e, p⟩ := ih h2
      exact ⟨a :: o, by rw [List.map_cons, h1, e], p.cons a⟩
  | swap x y m =>
    cases l with
    | nil => cases hl
    | cons a l =>
      cases l with
      | nil => cases hl
      | cons b l =>
        rw [List.map_cons, List.map_cons] at hl
        injection hl with h1 h2
        injection h2 with h2 h3
        exact ⟨b :: a :: l, by rw [List.map_cons, List.map_cons, h1, h2, h3], List.Perm.swap _ _ _⟩
  | trans _ _ ih1 ih2 =>
    obtain ⟨o, e, p⟩ := ih1 hl
    obtain ⟨o2, e2, p2⟩ := ih2 e.symm
    exact ⟨o2, e2, p.trans p2⟩
theorem list_of_all {α : Type} {f : α → PyData} {ds : List PyData} {p : α → Prop} (h : ∀ d ∈ ds, ∃ x, d = f x ∧ p x) : ∃ xs : List α, ds = xs.map f ∧ xs.length = ds.length ∧ ∀ x ∈ xs, p x := by
  induction ds with
  | nil => exact ⟨[], rfl, rfl, fun x hx => by cases hx⟩
  | cons d ds ih =>
    obtain ⟨x, e, hp⟩ := h d List.mem_cons_self
    obtain ⟨xs, e2, l2, hp2⟩ := ih fun y hy => h y (List.mem_cons_of_mem _ hy)
    exact ⟨x :: xs, by rw [List.map_cons, e, e2], by rw [List.length_cons, List.length_cons, l2], fun y hy => by
      rcases List.mem_cons.mp hy with rfl | hy
      · exact hp
      · exact hp2 y hy⟩
end
end Nk
set_option Elab.async false
set_option linter.all false
set_option maxRecDepth 100000
set_option maxHeartbeats 4000000
namespace Nk
open PySem L2
def topS (i : Nat) : Stmt := PySem.Challenge.pw_nearnought_k03_beginnings_and_heights.main.body.getD i (.Pass ⟨0, 0, 0, 0⟩)
abbrev Nrow_size : List Str := ["row", "item"]
abbrev srow_size : Stmt := topS 1
theorem scrow_size : FnScope Nrow_size ["row"] (defScope srow_size) := ⟨rfl, rfl, rfl, by decide +kernel, rfl, by decide +kernel, by decide +kernel⟩
abbrev Nsize : List Str := ["load", "row"]
abbrev ssize : Stmt := topS 2
theorem scsize : FnScope Nsize ["load"] (defScope ssize) := ⟨rfl, rfl, rfl, by decide +kernel, rfl, by decide +kernel, by decide +kernel⟩
abbrev Nadded : List Str := ["one", "other", "item", "more"]
abbrev sadded : Stmt := topS 3
theorem scadded : FnScope Nadded ["one", "other"] (defScope sadded) := ⟨rfl, rfl, rfl, by decide +kernel, rfl, by decide +kernel, by decide +kernel⟩
abbrev Nmultiplied : List Str := ["row", "number", "item"]
abbrev smultiplied : Stmt := topS 4
theorem scmultiplied : FnScope Nmultiplied ["row", "number"] (defScope smultiplied) := ⟨rfl, rfl, rfl, by decide +kernel, rfl, by decide +kernel, by decide +kernel⟩
abbrev Nsums : List Str := ["kinds", "rows", "total", "found", "row"]
abbrev ssums : Stmt := topS 5
theorem scsums : FnScope Nsums ["kinds", "rows"] (defScope ssums) := ⟨rfl, rfl, rfl, by decide +kernel, rfl, by decide +kernel, by decide +kernel⟩
abbrev Nis_even : List Str := ["load", "kinds", "rows"]
abbrev sis_even : Stmt := topS 6
theorem scis_even : FnScope Nis_even ["load"] (defScope sis_even) := ⟨rfl, rfl, rfl, by decide +kernel, rfl, by decide +kernel, by decide +kernel⟩
abbrev Nbegins : List Str := ["load", "order", "kinds", "rows", "index"]
abbrev sbegins : Stmt := topS 7
theorem scbegins : FnScope Nbegins ["load", "order"] (defScope sbegins) := ⟨rfl, rfl, rfl, by decide +kernel, rfl, by decide +kernel, by decide +kernel⟩
abbrev Nheight : List Str := ["load", "order", "total"]
abbrev sheight : Stmt := topS 8
theorem scheight : FnScope Nheight ["load", "order"] (defScope sheight) := ⟨rfl, rfl, rfl, by decide +kernel, rfl, by decide +kernel, by decide +kernel⟩
abbrev Nsign_begins : List Str := ["load", "signs", "kinds", "rows", "row", "sign"]
abbrev ssign_begins : Stmt := topS 9
theorem scsign_begins : FnScope Nsign_begins ["load", "signs"] (defScope ssign_begins) := ⟨rfl, rfl, rfl, by decide +kernel, rfl, by decide +kernel, by decide +kernel⟩
abbrev Nsign_height : List Str := ["load", "signs", "total"]
abbrev ssign_height : Stmt := topS 10
theorem scsign_height : FnScope Nsign_height ["load", "signs"] (defScope ssign_height) := ⟨rfl, rfl, rfl, by decide +kernel, rfl, by decide +kernel, by decide +kernel⟩
abbrev N_law_deck : List Str := ["script", "cells", "cell"]
abbrev s_law_deck : Stmt := topS 12
theorem sc_law_deck : FnScope N_law_deck ["script"] (defScope s_law_deck) := ⟨rfl, rfl, rfl, by decide +kernel, rfl, by decide +kernel, by decide +kernel⟩
abbrev N_law_draw : List Str := ["deck", "many", "rest", "cell", "mixed"]
abbrev s_law_draw : Stmt := topS 13
theorem sc_law_draw : FnScope N_law_draw ["deck", "many"] (defScope s_law_draw) := ⟨rfl, rfl, rfl, by decide +kernel, rfl, by decide +kernel, by decide +kernel⟩
abbrev N_law_one : List Str := ["deck", "items"]
abbrev s_law_one : Stmt := topS 14
theorem sc_law_one : FnScope N_law_one ["deck", "items"] (defScope s_law_one) := ⟨rfl, rfl, rfl, by decide +kernel, rfl, by decide +kernel, by decide +kernel⟩
abbrev N_law_mixed : List Str := ["deck", "items", "rest", "found", "turn"]
abbrev s_law_mixed : Stmt := topS 15
theorem sc_law_mixed : FnScope N_law_mixed ["deck", "items"] (defScope s_law_mixed) := ⟨rfl, rfl, rfl, by decide +kernel, rfl, by decide +kernel, by decide +kernel⟩
abbrev N_law_size : List Str := ["row", "item"]
abbrev s_law_size : Stmt := topS 16
theorem sc_law_size : FnScope N_law_size ["row"] (defScope s_law_size) := ⟨rfl, rfl, rfl, by decide +kernel, rfl, by decide +kernel, by decide +kernel⟩
abbrev N_law_sum : List Str := ["kinds", "rows", "k", "row"]
abbrev s_law_sum : Stmt := topS 17
theorem sc_law_sum : FnScope N_law_sum ["kinds", "rows"] (defScope s_law_sum) := ⟨rfl, rfl, rfl, by decide +kernel, rfl, by decide +kernel, by decide +kernel⟩
abbrev N_law_load_size : List Str := ["load", "row"]
abbrev s_law_load_size : Stmt := topS 18
theorem sc_law_load_size : FnScope N_law_load_size ["load"] (defScope s_law_load_size) := ⟨rfl, rfl, rfl, by decide +kernel, rfl, by decide +kernel, by decide +kernel⟩
abbrev N_law_begins : List Str := ["load", "order", "found", "index", "k"]
abbrev s_law_begins : Stmt := topS 19
theorem sc_law_begins : FnScope N_law_begins ["load", "order"] (defScope s_law_begins) := ⟨rfl, rfl, rfl, by decide +kernel, rfl, by decide +kernel, by decide +kernel⟩
abbrev N_law_height : List Str := ["load", "order", "row"]
abbrev s_law_height : Stmt := topS 20
theorem sc_law_height : FnScope N_law_height ["load", "order"] (defScope s_law_height) := ⟨rfl, rfl, rfl, by decide +kernel, rfl, by decide +kernel, by decide +kernel⟩
abbrev N_law_row : List Str := ["deck", "kinds", "most", "k"]
abbrev s_law_row : Stmt := topS 21
theorem sc_law_row : FnScope N_law_row ["deck", "kinds", "most"] (defScope s_law_row) := ⟨rfl, rfl, rfl, by decide +kernel, rfl, by decide +kernel, by decide +kernel⟩
abbrev N_law_load : List Str := ["deck", "rows", "kinds", "most", "k"]
abbrev s_law_load : Stmt := topS 22
theorem sc_law_load : FnScope N_law_load ["deck", "rows"] (defScope s_law_load) := ⟨rfl, rfl, rfl, by decide +kernel, rfl, by decide +kernel, by decide +kernel⟩
abbrev N_law_even : List Str := ["deck", "rows", "kinds", "most", "found", "k", "row", "item"]
abbrev s_law_even : Stmt := topS 23
theorem sc_law_even : FnScope N_law_even ["deck", "rows"] (defScope s_law_even) := ⟨rfl, rfl, rfl, by decide +kernel, rfl, by decide +kernel, by decide +kernel⟩
abbrev N_law_is_even : List Str := ["load"]
abbrev s_law_is_even : Stmt := topS 24
theorem sc_law_is_even : FnScope N_law_is_even ["load"] (defScope s_law_is_even) := ⟨rfl, rfl, rfl, by decide +kernel, rfl, by decide +kernel, by decide +kernel⟩
abbrev N_law_negated : List Str := ["row", "item"]
abbrev s_law_negated : Stmt := topS 25
theorem sc_law_negated : FnScope N_law_negated ["row"] (defScope s_law_negated) := ⟨rfl, rfl, rfl, by decide +kernel, rfl, by decide +kernel, by decide +kernel⟩
abbrev N_law_any : List Str := ["deck", "rows"]
abbrev s_law_any : Stmt := topS 26
theorem sc_law_any : FnScope N_law_any ["deck", "rows"] (defScope s_law_any) := ⟨rfl, rfl, rfl, by decide +kernel, rfl, by decide +kernel, by decide +kernel⟩
abbrev Nlaw : List Str := ["script", "deck", "turn", "load", "kinds", "rows", "many", "order", "signs", "turned", "plain", "k"]
abbrev slaw : Stmt := topS 27
theorem sclaw : FnScope Nlaw ["script"] (defScope slaw) := ⟨rfl, rfl, rfl, by decide +kernel, rfl, by decide +kernel, by decide +kernel⟩

section
variable {P : Program} {w : World} {K : PySem.W.Frag} {mg : Str → Option Value} {base : Heap}
theorem ixN_nat {n j : Nat} (h : j < n) : ixN n (j : Int) = some j := by
  unfold ixN
  rw [if_pos (by omega), if_pos (by omega)]
  simp
theorem Deck.set0 {D H : Hp} {a l0 l1 : Addr} {bs cs : List Int} {n : Int} (d : Deck D H a) (ha : H a = some (.lst [.ref l0, .ref l1, .int n])) (h0 : H l0 = some (.lst (bs.map V.int))) (bs' : List Int) (n0 : D l0 = none) (n1 : D l1 = none) (ne : l0 ≠ l1) (a0 : a ≠ l0)
    (h1 : H l1 = some (.lst (cs.map V.int))) (hc : cs ≠ []) (hl : cs.length ≤ 1000) : Deck D (upd H l0 (.lst (bs'.map V.int))) a ∧ upd H l0 (.lst (bs'.map V.int)) l0 = some (.lst (bs'.map V.int)) ∧ upd H l0 (.lst (bs'.map V.int)) a = some (.lst [.ref l0, .ref l1, .int n]) := by
  have ea : upd H l0 (.lst (bs'.map V.int)) a = some (.lst [.ref l0, .ref l1, .int n]) := by rw [upd_ne a0]; exact ha
  refine ⟨⟨fun b o e => ?_, d.na, l0, l1, bs', cs, n, n0, n1, ne, ea, upd_same, by rw [upd_ne ne.symm]; exact h1, hc, hl⟩, upd_same, ea⟩
  rw [upd_ne (fun q => by subst q; rw [n0] at e; cases e)]
  exact d.sub _ _ e
theorem seqIndex_0 {n : Nat} (h : 0 < n) : seqIndex? 0 n = some 0 := by
  unfold seqIndex?
  simp
  omega
theorem Deck.setn {D H : Hp} {a l0 l1 : Addr} {bs cs : List Int} {n n' : Int} (d : Deck D H a) (ha : H a = some (.lst [.ref l0, .ref l1, .int n])) (h0 : H l0 = some (.lst (bs.map V.int))) (n0 : D l0 = none) (n1 : D l1 = none) (ne : l0 ≠ l1) (a0 : a ≠ l0) (a1 : a ≠ l1)
    (h1 : H l1 = some (.lst (cs.map V.int))) (hc : cs ≠ []) (hl : cs.length ≤ 1000) : Deck D (upd H a (.lst [.ref l0, .ref l1, .int n'])) a ∧ upd H a (.lst [.ref l0, .ref l1, .int n']) a = some (.lst [.ref l0, .ref l1, .int n']) ∧ upd H a (.lst [.ref l0, .ref l1, .int n']) l1 = some (.lst (cs.map V.int)) := by
  have e1 : upd H a (.lst [.ref l0, .ref l1, .int n']) l1 = some (.lst (cs.map V.int)) := by rw [upd_ne a1.symm]; exact h1
  refine ⟨⟨fun b o e => ?_, d.na, l0, l1, bs, cs, n', n0, n1, ne, upd_same, by rw [upd_ne a0.symm]; exact h0, e1, hc, hl⟩, upd_same, e1⟩
  rw [upd_ne (fun q => by subst q; rw [d.na] at e; cases e)]
  exact d.sub _ _ e
theorem ok_draw {f : Addr} {fd : FuncData} (F : Fun K "_law_draw" "_law_draw" s_law_draw f fd) (B : Bl mg) : FnOk P w K mg base CX0 1 f fd ["deck", "many"] spDraw := by
  refine F.ok sc_law_draw (fun vs H Q E h => ?_) (fun cdv A outer s H vs Q E hr h => ?_)
  · obtain ⟨D, a, m, rfl, _⟩ := h
    rfl
  · obtain ⟨D, a, m, rfl, dk, m0, m1, k⟩ := h
    have nd := sc_law_draw.nd
    refine ⟨_, (pss_cons (ps_if (pt_cmpR (kneD K hr.units) (pe_ix (kixL K) (pv 0) pe_int (fun _ _ => rfl)) (pe_lst pa_nil) (nomark _)) (pss_cons (ps_set (i := 2) nd rfl (Or.inl rfl) (pe_ix (kixL K) (pe_ix (kixL K) (pv 0) pe_int (fun _ _ => rfl)) pe_int (fun _ _ => rfl))) (pss_cons (ps_asg (pe_op op_fdivW (pv 2) (pv 1)) (pg_sub (pe_ix (kixL K) (pv 0) pe_int (fun _ _ => rfl)) pe_int set_list)) (pss_cons (ps_if (pt_cmpR op_eq (pe_ix (kixL K) (pe_ix (kixL K) (pv 0) pe_int (fun _ _ => rfl)) pe_int (fun _ _ => rfl)) pe_int (nomark _)) (pss_one (ps_expr (pe_bm PySem.F.plainAttrs_list PySem.F.slot_list_pop PySem.F.type_list_pop mt_popAt (pe_ix (kixL K) (pv 0) pe_int (fun _ _ => rfl)) (pa_cons pe_int pa_nil)))) pss_nil) (pss_one (ps_ret (pe_op op_mod (pe_callTy call_int1 (by rfl) B.int_ (by decide +kernel) (pa_cons (pv 2) pa_nil)) (pv 1))))))) pss_nil) (pss_cons (ps_asg (pe_op op_add (pe_ix (kixL K) (pv 0) pe_int (fun _ _ => rfl)) pe_int) (pg_sub (pv 0) pe_int set_list)) (pss_cons (ps_set (i := 3) nd rfl (Or.inl rfl) (pe_ix (kixL K) (pe_ix (kixL K) (pv 0) pe_int (fun _ _ => rfl)) (pe_op op_mod (pe_callTy call_int1 (by rfl) B.int_ (by decide +kernel) (pa_cons (pe_ix (kixL K) (pv 0) pe_int (fun _ _ => rfl)) pa_nil)) (pe_callB (klen K) (by rfl) B.len_ PySem.boot_len (pa_cons (pe_ix (kixL K) (pv 0) pe_int (fun _ _ => rfl)) pa_nil))) (fun _ _ => rfl))) (pss_cons (ps_set (i := 4) nd rfl (Or.inl rfl) (pe_op op_mod (pe_callTy call_int1 (by rfl) B.int_ (by decide +kernel) (pa_cons (pe_op op_add (pe_op op_mod (pe_callTy call_int1 (by rfl) B.int_ (by decide +kernel) (pa_cons (pv 3) pa_nil)) pe_int) (pe_op op_mul pe_int (pe_ix (kixL K) (pv 0) pe_int (fun _ _ => rfl)))) pa_nil)) pe_int)) (pss_cons (ps_set (i := 4) nd rfl (Or.inl rfl) (pe_op op_mod (pe_callTy call_int1 (by rfl) B.int_ (by decide +kernel) (pa_cons (pe_op op_add (pe_op op_mul (pv 4) (pv 4)) (pe_op op_mul pe_int (pe_ix (kixL K) (pv 0) pe_int (fun _ _ => rfl)))) pa_nil)) pe_int)) (pss_one (ps_ret (pe_op op_mod (pe_op op_fdivW (pe_op op_mod (pe_callTy call_int1 (by rfl) B.int_ (by decide +kernel) (pa_cons (pe_op op_mul (pv 4) (pv 4)) pa_nil)) pe_int) pe_int) (pv 1))))))))), ?_⟩
    obtain ⟨sD, na, l0, l1, bs, cs, n, n0, n1, ne, ha, h0, h1, hc, hl⟩ := id dk
    have a0 : a ≠ l0 := fun q => by
      subst q
      rw [h0] at ha
      cases bs with
      | nil => cases ha
      | cons b bs => cases ha
    have a1 : a ≠ l1 := fun q => by
      subst q
      rw [h1] at ha
      cases cs with
      | nil => cases ha
      | cons b bs => cases ha
    refine ⟨_, rfl, a, _, _, _, rfl, rfl, SqL.of ha, atI_0 rfl, Nat.zero_le _, fun p hp => ?_⟩
    have p0 : l0 ≠ p := ne_of_none h0 hp
    have pa : a ≠ p := ne_of_none ha hp
    have p1 : l1 ≠ p := ne_of_none h1 hp
    have dk1 : Deck D (upd H p (.lst [])) a := (dk.new hp).less (same_new (dk.free hp))
    have ha1 : upd H p (.lst []) a = some (.lst [.ref l0, .ref l1, .int n]) := by rw [upd_ne pa]; exact ha
    have h01 : upd H p (.lst []) l0 = some (.lst (bs.map V.int)) := by rw [upd_ne p0]; exact h0
    have h11 : upd H p (.lst []) l1 = some (.lst (cs.map V.int)) := by rw [upd_ne p1]; exact h1
    generalize hH : upd H p (.lst []) = H1 at dk1 ha1 h01 h11 ⊢
    refine ne_nilL h01 (DqAll.ints bs) (lay_ints bs) (by rw [depth_ints]; decide) (by rw [← hH]; exact upd_same) ⟨_, rfl, ?_⟩
    cases bs with
    | cons b bs =>
      refine iteT ?_
      -- rest = deck[0][0]; deck[0][0] = rest // many
      refine ⟨_, rfl, a, _, _, _, rfl, rfl, SqL.of ha1, atI_0 rfl, l0, _, _, _, rfl, rfl, SqL.of h01, atI_0 rfl, ?_⟩
      refine ⟨_, rfl, _, rfl, _, _, rfl, rfl, wide_div (b := 64) m0 (by omega) (by decide) (by decide), ?_⟩
      refine ⟨_, rfl, a, _, _, _, rfl, rfl, SqL.of ha1, atI_0 rfl, l0, _, 0, 0, rfl, rfl, h01, ixN_nat (j := 0) (by simp), ?_⟩
      obtain ⟨dk2, h02, ha2⟩ := dk1.set0 ha1 h01 (b / m :: bs) n0 n1 ne a0 h11 hc hl
      rw [show (List.map V.int (b :: bs)).set 0 (V.int (b / m)) = (b / m :: bs).map V.int from rfl]
      generalize hH2 : upd H1 l0 (.lst ((b / m :: bs).map V.int)) = H2 at dk2 h02 ha2
      refine ⟨_, rfl, a, _, _, _, rfl, rfl, SqL.of ha2, atI_0 rfl, l0, _, _, _, rfl, rfl, SqL.of h02, atI_0 rfl, rfl, _, rfl, ?_⟩
      refine ite2 (fun _ => ?_) (fun _ => ?_)
      · refine ⟨_, rfl, a, _, _, _, rfl, rfl, SqL.of ha2, atI_0 rfl, .inl ⟨rfl, _, SqL.of h02⟩, l0, _, 0, 0, _, rfl, rfl, h02, by decide, by decide, seqIndex_0 (by simp), rfl, ?_⟩
        obtain ⟨dk3, _, _⟩ := dk2.set0 ha2 h02 bs n0 n1 ne a0 (by rw [← hH2, upd_ne ne.symm]; exact h11) hc hl
        refine ⟨_, rfl, .inl ⟨_, rfl, _, rfl, _, _, rfl, rfl, m0, k _ _ dk3 (Int.emod_nonneg _ (by omega)) (Int.emod_lt_of_pos _ m0)⟩⟩
      · refine ⟨_, rfl, .inl ⟨_, rfl, _, rfl, _, _, rfl, rfl, m0, k _ _ dk2 (Int.emod_nonneg _ (by omega)) (Int.emod_lt_of_pos _ m0)⟩⟩
    | nil =>
      refine iteF ?_
      refine ⟨_, rfl, a, _, _, _, rfl, rfl, SqL.of ha1, atI_2 rfl, _, _, rfl, rfl, _, rfl, a, _, 2, 2, rfl, rfl, ha1, ixN_nat (j := 2) (Nat.lt_succ_self 2), ?_⟩
      obtain ⟨dk2, ha2, h12⟩ := dk1.setn (n' := n + 1) ha1 h01 n0 n1 ne a0 a1 h11 hc hl
      rw [show ([V.ref l0, V.ref l1, V.int n] : List V).set 2 (V.int (n + 1)) = [V.ref l0, V.ref l1, V.int (n + 1)] from rfl]
      generalize upd H1 a (.lst [V.ref l0, V.ref l1, V.int (n + 1)]) = H2 at dk2 ha2 h12 ⊢
      have c0 : (0 : Int) < ((cs.map V.int).length : Nat) := by
        rw [List.length_map]
        have := List.length_pos_iff.mpr hc
        omega
      obtain ⟨x, hx, hxm, _⟩ := atI_in (xs := cs.map V.int) (Int.emod_nonneg (n + 1) (show (((cs.map V.int).length : Nat) : Int) ≠ 0 by omega)) (Int.emod_lt_of_pos _ c0)
      obtain ⟨c, _, rfl⟩ := List.mem_map.mp hxm
      -- cell = deck[1][int(deck[2]) % len(deck[1])]
      refine ⟨_, rfl, a, _, _, _, rfl, rfl, SqL.of ha2, atI_1 rfl, _, rfl, a, _, _, _, rfl, rfl, SqL.of ha2, atI_2 rfl, .inl ⟨_, rfl, _, rfl, a, _, _, _, rfl, rfl, SqL.of ha2, atI_1 rfl, l1, _, rfl, .inl (SqL.of h12), _, _, rfl, rfl, c0, l1, _, _, _, rfl, rfl, SqL.of h12, hx, ?_⟩⟩
      -- mixed
      refine ⟨_, rfl, .inl ⟨_, rfl, _, _, rfl, rfl, (by show (0 : Int) < 4294966297; decide), _, rfl, a, _, _, _, rfl, rfl, SqL.of ha2, atI_2 rfl, _, _, rfl, rfl, .inl ⟨by decide, by decide⟩, _, _, rfl, rfl, .inl ⟨_, rfl, _, _, rfl, rfl, (by show (0 : Int) < 4294966297; decide), ?_⟩⟩⟩
      generalize hu : (c % 4294966297 + 1640531527 * (n + 1)) % 4294966297 = u
      have u0 : 0 ≤ u := by omega
      have u1 : u < 4294966297 := by omega
      refine ⟨_, rfl, _, rfl, _, _, rfl, rfl, .inl ⟨by omega, by omega⟩, _, rfl, a, _, _, _, rfl, rfl, SqL.of ha2, atI_2 rfl, _, _, rfl, rfl, .inl ⟨by decide, by decide⟩, _, _, rfl, rfl, .inl ⟨_, rfl, _, _, rfl, rfl, (by show (0 : Int) < 4294966237; decide), ?_⟩⟩
      generalize hv : (u * u + 122949823 * (n + 1)) % 4294966237 = v
      have v0 : 0 ≤ v := by omega
      have v1 : v < 4294966237 := by omega
      refine ⟨_, rfl, _, rfl, _, _, rfl, rfl, .inl ⟨by omega, by omega⟩, .inl ⟨_, rfl, _, _, rfl, rfl, (by show (0 : Int) < 4294966187; decide), _, _, rfl, rfl, wide_div (b := 11) (by decide) (by decide) (by decide) (by decide), _, rfl, _, _, rfl, rfl, m0, ?_⟩⟩
      exact k _ _ dk2 (Int.emod_nonneg _ (by omega)) (Int.emod_lt_of_pos _ m0)
end
end Nk
set_option Elab.async false
set_option linter.all false
set_option maxRecDepth 100000
set_option maxHeartbeats 4000000
namespace Nk
open PySem L2
section
variable {P : Program} {w : World} {K : PySem.W.Frag} {mg : Str → Option Value} {base : Heap}
theorem ok_one {f : Addr} {fd : FuncData} (F : Fun K "_law_one" "_law_one" s_law_one f fd) (B : Bl mg) (D__law_draw : Dk P w K mg base 1 "_law_draw" ["deck", "many"] spDraw) : FnOk P w K mg base CX0 2 f fd ["deck", "items"] spOne := by
  refine F.ok sc_law_one (fun vs H Q E h => ?_) (fun cdv A outer s H vs Q E hr h => ?_)
  · obtain ⟨D, a, p, xs, rfl, _⟩ := h
    rfl
  · obtain ⟨D, a, p, xs, rfl, dk, hp, hne, hl, k⟩ := h
    have nd := sc_law_one.nd
    refine ⟨_, (pss_one (ps_ret (pe_ix (kixL K) (pv 1) (pe_dk D__law_draw (hr.mono (by first | decide | omega)) (pa_cons (pv 0) (pa_cons (pe_callB (klen K) (by rfl) B.len_ PySem.boot_len (pa_cons (pv 1) pa_nil)) pa_nil))) (fun _ _ => rfl)))), ?_⟩
    have l0 := List.length_pos_iff.mpr hne
    refine ⟨_, rfl, _, rfl, _, rfl, p, _, rfl, .inl (SqL.of (dk.sub _ _ hp)), D, a, _, rfl, dk, by omega, by omega, fun H' r dk' r0 r1 => ?_⟩
    obtain ⟨x, hx, hm, _⟩ := atI_in r0 r1
    exact ⟨p, xs, r, x, rfl, rfl, SqL.of (dk'.sub _ _ hp), hx, k _ _ dk' hm⟩
theorem seqIndex_nat {n : Nat} {j : Int} (h0 : 0 ≤ j) (h1 : j < n) : seqIndex? j n = some j.toNat := by
  unfold seqIndex?
  have : ¬ (j < 0) := by omega
  simp [this]
  omega
theorem perm_erase {α : Type} : ∀ (l : List α) (i : Nat) (h : i < l.length), (l[i] :: l.eraseIdx i).Perm l
  | [], i, h => absurd h (Nat.not_lt_zero _)
  | a :: l, 0, _ => by simp
  | a :: l, i + 1, h => by
    have h' : i < l.length := by simpa using h
    have ih := perm_erase l i h'
    show (l[i] :: a :: l.eraseIdx i).Perm (a :: l)
    exact (List.Perm.swap _ _ _).trans (ih.cons a)
def spMixed : Sp := fun vs H Q _ => ∃ (D : Hp) (a p : Addr) (xs : List V), vs = [.ref a, .ref p] ∧ Deck D H a ∧ D p = some (.lst xs) ∧ xs.length ≤ 1000 ∧
  ∀ H' D' q ys, Deck D' H' a → Same D D' → D' q = some (.lst ys) → ys.Perm xs → Q (.ref q) H'
theorem ok_mixed {f : Addr} {fd : FuncData} (F : Fun K "_law_mixed" "_law_mixed" s_law_mixed f fd) (B : Bl mg) (D__law_draw : Dk P w K mg base 1 "_law_draw" ["deck", "many"] spDraw) : FnOk P w K mg base CX0 2 f fd ["deck", "items"] spMixed := by
  refine F.ok sc_law_mixed (fun vs H Q E h => ?_) (fun cdv A outer s H vs Q E hr h => ?_)
  · obtain ⟨D, a, p, xs, rfl, _⟩ := h
    rfl
  · obtain ⟨D, a, p, xs, rfl, dk, hp, hl, k⟩ := h
    have nd := sc_law_mixed.nd
    refine ⟨_, (pss_cons (ps_par (i := 2) (j := 3) (by rfl) nd rfl rfl (by decide) rfl rfl (pa_cons (pe_callTy (klist K) (by rfl) B.list_ (by decide +kernel) (pa_cons (pv 1) pa_nil)) (pa_cons (pe_lst pa_nil) pa_nil)) (by rfl)) (pss_cons (ps_for PassesOwn.never rfl (pi_range1 rfl B.range_ (pa_cons (pe_callB (klen K) (by rfl) B.len_ PySem.boot_len (pa_cons (pv 1) pa_nil)) pa_nil)) (pg_name (i := 4) nd rfl (Or.inl rfl)) (pss_one (ps_expr (pe_bm PySem.F.plainAttrs_list PySem.F.slot_list_append PySem.F.type_list_append mt_append (pv 3) (pa_cons (pe_bm PySem.F.plainAttrs_list PySem.F.slot_list_pop PySem.F.type_list_pop mt_popAt (pv 2) (pa_cons (pe_dk D__law_draw (hr.mono (by first | decide | omega)) (pa_cons (pv 0) (pa_cons (pe_callB (klen K) (by rfl) B.len_ PySem.boot_len (pa_cons (pv 2) pa_nil)) pa_nil))) pa_nil)) pa_nil))))) (pss_one (ps_ret (pv 3))))), ?_⟩
    refine ⟨_, rfl, p, _, rfl, .inl (SqL.of (dk.sub _ _ hp)), fun r hr1 => ?_⟩
    have d1 := dk.new (o := .lst xs) hr1
    refine ⟨Nat.zero_le _, fun q hq => ?_⟩
    have d2 := d1.new (o := .lst []) hq
    refine ⟨_, _, rfl, ?_⟩
    have rq : r ≠ q := ne_of_none upd_same hq
    have e1 : upd (upd D r (.lst xs)) q (.lst []) r = some (.lst xs) := by rw [upd_ne rq]; exact upd_same
    have e2 : upd (upd D r (.lst xs)) q (.lst []) q = some (.lst []) := upd_same
    have s1 : Same D (upd (upd D r (.lst xs)) q (.lst [])) := (same_new (dk.free hr1)).trans (same_new (d1.free hq))
    generalize upd (upd D r (.lst xs)) q (.lst []) = D2 at d2 e1 e2 s1
    generalize upd (upd H r (.lst xs)) q (.lst []) = H2 at d2 ⊢
    have fr : D r = none := dk.free hr1
    have fq : D q = none := by
      have := d1.free hq
      rwa [upd_ne rq.symm] at this
    have pp : D2 p = some (.lst xs) := s1 _ _ hp
    refine ⟨_, rfl, p, _, rfl, .inl (SqL.of (d2.sub _ _ pp)), _, rfl, by omega, by omega, for_range (n := xs.length) (fun i σ H' => ∃ (D' : Hp) (zs ys : List V) (v : Option V), σ = [some (.ref a), some (.ref p), some (.ref r), some (.ref q), v] ∧ Deck D' H' a ∧ Same D D' ∧
        D' r = some (.lst zs) ∧ D' q = some (.lst ys) ∧ zs.length + i = xs.length ∧ (zs ++ ys).Perm xs) ⟨D2, xs, [], none, rfl, d2, s1, e1, e2, rfl, by simp⟩ ?_ ?_⟩
    · rintro i σ H' hi ⟨D', zs, ys, v, rfl, dk', sD, hz, hy, hlen, hperm⟩
      -- found.append(rest.pop(_law_draw(deck, len(rest))))
      refine ⟨_, rfl, .inl ⟨rfl, _, SqL.of (dk'.sub _ _ hy)⟩, _, rfl, .inl ⟨rfl, _, SqL.of (dk'.sub _ _ hz)⟩, _, rfl, _, rfl, r, _, rfl, .inl (SqL.of (dk'.sub _ _ hz)), D', a, _, rfl, dk', by omega, by omega, fun H3 j dk3 j0 j1 => ?_⟩
      obtain ⟨x, hx, hm, hj⟩ := atI_in (xs := zs) j0 j1
      have hjl : j.toNat < zs.length := by omega
      have dk4 : Deck (upd D' r (.lst (zs.eraseIdx j.toNat))) (upd H3 r (.lst (zs.eraseIdx j.toNat))) a := dk3.put hz
      refine ⟨r, zs, j, j.toNat, x, rfl, rfl, dk3.sub _ _ hz, by omega, by omega, seqIndex_nat j0 j1, hj, ?_⟩
      have hy4 : upd D' r (.lst (zs.eraseIdx j.toNat)) q = some (.lst ys) := by rw [upd_ne rq.symm]; exact hy
      refine ⟨q, ys, x, rfl, rfl, dk4.sub _ _ hy4, small1000 (by
        have := hperm.length_eq
        rw [List.length_append] at this
        omega), ?_⟩
      have dk5 := dk4.put (o := .lst (ys ++ [x])) hy4
      refine ⟨_, _, _, _, rfl, dk5, fun b o e => ?_, by rw [upd_ne rq]; exact upd_same, upd_same, ?_, ?_⟩
      · rw [upd_ne (fun z => by subst z; rw [fq] at e; cases e), upd_ne (fun z => by subst z; rw [fr] at e; cases e)]
        exact sD _ _ e
      · rw [List.length_eraseIdx, if_pos hjl]
        omega
      · have e3 : zs[j.toNat] = x := by
          have := List.getElem?_eq_getElem hjl
          rw [this] at hj
          exact Option.some.inj hj
        have p1 : (zs[j.toNat] :: zs.eraseIdx j.toNat).Perm zs := perm_erase zs j.toNat hjl
        rw [e3] at p1
        have p2 : (zs.eraseIdx j.toNat ++ (ys ++ [x])).Perm (x :: zs.eraseIdx j.toNat ++ ys) := by
          rw [← List.append_assoc]
          exact (List.perm_append_comm).trans (by simp)
        exact p2.trans ((p1.append_right ys).trans hperm)
    · rintro σ H' ⟨D', zs, ys, v, rfl, dk', sD, hz, hy, hlen, hperm⟩
      have hz0 : zs = [] := List.length_eq_zero_iff.mp (by omega)
      subst hz0
      exact ⟨_, rfl, k _ _ q _ dk' sD hy hperm⟩
end
end Nk
set_option Elab.async false
set_option linter.all false
set_option maxRecDepth 100000
set_option maxHeartbeats 4000000
namespace Nk
open PySem L2
/-! kinds of data -/
def tyD : PyData → String
  | .none => "NoneType"
  | .bool _ => "bool"
  | .int _ => "int"
  | .str _ => "str"
  | .list _ => "list"
  | .tuple _ => "tuple"
  | .dict _ => "dict"
theorem Dq.ty {K : PySem.W.Frag} {H : Hp} {v : V} {d : PyData} (h : Dq K H v d) : TyX K H v (.type (tyD d)) := by
  cases h with
  | non => exact .base .non
  | bl b => exact .base (.bl b)
  | int i => exact .base (.int i)
  | str x => exact .base (.str x)
  | lst h _ => exact .base (.lst h)
  | tup h _ => exact .base (.tup h)
  | dnil h => exact .base (.dK h)
def isTup : PyData → Bool
  | .tuple _ => true
  | _ => false
def isInt : PyData → Bool
  | .int _ => true
  | .bool _ => true
  | _ => false
def isBl : PyData → Bool
  | .bool _ => true
  | _ => false
theorem kT {K : PySem.W.Frag} (d : PyData) : PySem.W.kitOne K (.type (tyD d)) (.type "tuple") = some (isTup d) := kit_ty (by cases d <;> (simp only [tyD, isTup]; decide +kernel))
theorem kI {K : PySem.W.Frag} (d : PyData) : PySem.W.kitOne K (.type (tyD d)) (.type "int") = some (isInt d) := kit_ty (by cases d <;> (simp only [tyD, isInt]; decide +kernel))
theorem kB {K : PySem.W.Frag} (d : PyData) : PySem.W.kitOne K (.type (tyD d)) (.type "bool") = some (isBl d) := kit_ty (by cases d <;> (simp only [tyD, isBl]; decide +kernel))
/-- an integer between -/
def whole (d : PyData) (lo hi : Int) : Bool := match d with
  | .int i => decide (lo ≤ i) && decide (i ≤ hi)
  | _ => false
def spWhole (K : PySem.W.Frag) : Sp := fun vs H Q _ => ∃ (v : V) (d : PyData) (lo hi : Int), vs = [v, .int lo, .int hi] ∧ Dq K H v d ∧ Q (.bl (whole d lo hi)) H
section
variable {P : Program} {w : World} {K : PySem.W.Frag} {mg : Str → Option Value} {base : Heap}
theorem ok_deck {f : Addr} {fd : FuncData} (F : Fun K "_law_deck" "_law_deck" s_law_deck f fd) (B : Bl mg) : FnOk P w K mg base CX0 1 f fd ["script"] (spDeck K) := by
  refine F.ok sc_law_deck (fun vs H Q E h => ?_) (fun cdv A outer s H vs Q E hr h => ?_)
  · obtain ⟨a, ns, rfl, _⟩ := h
    rfl
  · obtain ⟨a, ns, rfl, hS, hl, k⟩ := h
    have nd := sc_law_deck.nd
    refine ⟨_, (pss_cons (ps_setLc (i := 1) (own := [("cell", 2)]) rfl nd rfl rfl (sw_true rfl rfl rfl (by decide +kernel)) (kpiL K (pe_slice (kslL K) (pv 0) po_none (po_some pe_int))) (blkOk_by (N := N_law_deck) (sc := defScope s_law_deck) (by decide +kernel)) (fun _ _ _ _ _ => (pg_name (i := 2) nd rfl (Or.inl rfl))) (fun _ _ _ _ _ => pts_nil) (fun _ _ _ _ _ => (pe_callB call_abs (by rfl) B.abs_ (by decide +kernel) (pa_cons (pv 2) pa_nil)))) (pss_one (ps_ret (pe_lst (pa_cons (pe_lc (own := [("cell", 2)]) rfl nd (kpiL K (pv 1)) (blkOk_by (N := N_law_deck) (sc := defScope s_law_deck) (by decide +kernel)) (fun _ _ _ _ _ => (pg_name (i := 2) nd rfl (Or.inl rfl))) (fun _ _ _ _ _ => (pts_one (pt_cmpR op_ge (pv 2) (pe_op op_pow pe_int pe_int) (nomark _)))) (fun _ _ _ _ _ => (pv 2))) (pa_cons (pe_op op_cat (pv 1) (pe_lst (pa_cons (pe_op op_add pe_int (pe_callB (klen K) (by rfl) B.len_ PySem.boot_len (pa_cons (pv 1) pa_nil))) pa_nil))) (pa_cons pe_int pa_nil))))))), ?_⟩
    refine ⟨_, rfl, 63, rfl, a, _, rfl, hS, fun p hp => ?_⟩
    obtain ⟨ms, hms, hml⟩ : ∃ ms : List Int, cutV (ns.map V.int) none (some 63) = ms.map V.int ∧ ms.length ≤ 63 := by
      refine ⟨(ns.drop (HT.sIx (ns.map V.int).length 0 none)).take (HT.sIx (ns.map V.int).length (ns.map V.int).length (some 63) - HT.sIx (ns.map V.int).length 0 none), ?_, ?_⟩
      · unfold cutV
        rw [← List.map_drop, ← List.map_take]
      · rw [List.length_take, List.length_drop]
        omega
    rw [hms]
    have s1 : Same H (upd H p (.lst (ms.map V.int))) := same_new hp
    have e1 : upd H p (.lst (ms.map V.int)) p = some (.lst (ms.map V.int)) := upd_same
    generalize upd H p (.lst (ms.map V.int)) = H1 at s1 e1 ⊢
    refine ⟨p, rfl, ⟨_, SqL.of e1⟩, fun C hC => lc_list (K := K) (a := p) (xs := ms.map V.int) (fun i H' => ∃ acc : List Int, Same H1 H' ∧ H' C = some (.lst (acc.map V.int)) ∧ acc.length = i) ⟨[], same_new hC, upd_same, rfl⟩ (fun i H' _ ⟨_, s2, _⟩ => SqL.of (s2 _ _ e1)) ?_ ?_⟩
    · rintro i x H' hx ⟨acc, s2, eC, ha⟩
      obtain ⟨c, _, rfl⟩ := List.mem_map.mp (List.mem_of_getElem? hx)
      have hi : i < ms.length := by
        have := (List.getElem?_eq_some_iff.mp hx).1
        rwa [List.length_map] at this
      refine ⟨rfl, _, rfl, _, rfl, _, eC, small1000 (by rw [List.length_map]; omega), acc ++ [if c < 0 then -c else c], fun b o e => ?_, ?_, by rw [List.length_append, ha]; rfl⟩
      · rw [upd_ne (fun z => by subst z; rw [hC] at e; cases e)]
        exact s2 _ _ e
      · rw [upd_same, List.map_append]
        rfl
    rintro H2 ⟨cs, s2, eC, hcs⟩
    rw [List.length_map] at hcs
    refine ⟨_, rfl, C, rfl, ⟨_, SqL.of eC⟩, fun G hG => lc_list (K := K) (a := C) (xs := cs.map V.int) (fun i H' => ∃ acc : List Int, Same H2 H' ∧ H' G = some (.lst (acc.map V.int)) ∧ acc.length ≤ i) ⟨[], same_new hG, upd_same, Nat.le_refl _⟩ (fun i H' _ ⟨_, s3, _⟩ => SqL.of (s3 _ _ eC)) ?_ ?_⟩
    · rintro i x H' hx ⟨acc, s3, eG, ha⟩
      obtain ⟨c, _, rfl⟩ := List.mem_map.mp (List.mem_of_getElem? hx)
      have hi : i < cs.length := by
        have := (List.getElem?_eq_some_iff.mp hx).1
        rwa [List.length_map] at this
      refine ⟨rfl, _, rfl, _, _, rfl, rfl, ⟨by decide, by decide, by decide⟩, _, _, rfl, rfl, _, rfl, ?_⟩
      refine ite2 (fun _ => ?_) (fun _ => ?_)
      · refine ⟨_, rfl, _, eG, small1000 (by rw [List.length_map]; omega), acc ++ [c], fun b o e => ?_, ?_, by rw [List.length_append]; exact Nat.succ_le_succ ha⟩
        · rw [upd_ne (fun z => by subst z; rw [hG] at e; cases e)]
          exact s3 _ _ e
        · rw [upd_same, List.map_append]
          rfl
      · exact ⟨acc, s3, eG, Nat.le_succ_of_le ha⟩
    rintro H3 ⟨bs, s3, eG, hbs⟩
    have nCG : C ≠ G := ne_of_none eC hG
    refine ⟨_, rfl, _, rfl, C, _, rfl, .inl (SqL.of (s3 _ _ eC)), _, _, rfl, rfl, (by show 1 ≤ sizeLine; decide), fun p2 hp2 => ?_⟩
    refine ⟨_, _, _, _, rfl, rfl, by rw [upd_ne (ne_of_none (s3 _ _ eC) hp2)]; exact s3 _ _ eC, upd_same, Nat.le_of_lt (small1000 (by rw [List.length_map]; show cs.length + 1 ≤ 1000; omega)), fun p3 hp3 => ?_⟩
    refine ⟨(by show 3 ≤ sizeLine; decide), fun p4 hp4 => ?_⟩
    have np32 : p2 ≠ p3 := ne_of_none upd_same hp3
    have np43 : p3 ≠ p4 := ne_of_none upd_same hp4
    have nG2 : G ≠ p2 := ne_of_none eG hp2
    have hp3' : H3 p3 = none := by rwa [upd_ne np32.symm] at hp3
    have nG3 : G ≠ p3 := ne_of_none eG hp3'
    have hp4' : H3 p4 = none := by
      rw [upd_ne np43.symm] at hp4
      by_cases z : p4 = p2
      · rw [z, upd_same] at hp4; cases hp4
      · rwa [upd_ne z] at hp4
    have nG4 : G ≠ p4 := ne_of_none eG hp4'
    have sH : Same H H3 := (s1.trans s2).trans s3
    have free2 : H1 C = none := hC
    refine k _ p4 (fun b o e => ?_) ⟨fun b o e => ?_, sH.free hp4', G, p3, bs, cs ++ [(11247 : Int) + (((cs.map V.int).length : Nat) : Int)], 0, s1.free (s2.free hG), sH.free hp3', nG3, upd_same, ?_, ?_, by simp, by rw [List.length_append]; show cs.length + 1 ≤ 1000; omega⟩
    · have q := sH _ _ e
      rw [upd_ne (ne_of_none q hp4'), upd_ne (ne_of_none q hp3'), upd_ne (ne_of_none q hp2)]
      exact q
    · have q := sH _ _ e
      rw [upd_ne (ne_of_none q hp4'), upd_ne (ne_of_none q hp3'), upd_ne (ne_of_none q hp2)]
      exact q
    · rw [upd_ne nG4, upd_ne nG3, upd_ne nG2]
      exact eG
    · rw [upd_ne np43, upd_same, List.map_append]
      rfl
end
end Nk
set_option Elab.async false
set_option linter.all false
set_option maxRecDepth 100000
set_option maxHeartbeats 4000000
namespace Nk
open PySem L2
/-- all within m of nought -/
def Bd (m : Int) (ns : List Int) : Prop := ∀ x ∈ ns, -m ≤ x ∧ x ≤ m
def rowD (ns : List Int) : PyData := .tuple (ns.map .int)
def rowsD (rs : List (List Int)) : List PyData := rs.map rowD
/-- rows of so many kinds, within m -/
def RowsOk (kinds : Nat) (m : Int) (rs : List (List Int)) : Prop := ∀ r ∈ rs, r.length = kinds ∧ Bd m r
def spRow : Sp := fun vs H Q _ => ∃ (D : Hp) (a : Addr) (kinds : Nat) (m : Int), vs = [.ref a, .int kinds, .int m] ∧ Deck D H a ∧ kinds ≤ 4 ∧ 0 ≤ m ∧ m ≤ 10 ^ 6 ∧
  ∀ H' D' p ns, Deck D' H' a → Same D D' → D' p = some (.tup (ns.map V.int)) → ns.length = kinds → Bd m ns → Q (.ref p) H'
/-- the sums of the rows, kind by kind -/
def colS (k : Nat) (rs : List (List Int)) : Int := (rs.map fun r => r.getD k 0).sum
def sums (kinds : Nat) (rs : List (List Int)) : List Int := (List.range kinds).map fun k => colS k rs
theorem DqAll.ints_eq {K : PySem.W.Frag} {H : Hp} : ∀ {vs : List V} {ns : List Int}, DqAll K H vs (ns.map PyData.int) → vs = ns.map V.int
  | _, [], h => by cases h; rfl
  | _, n :: ns, h => by
    cases h with
    | cons a t =>
      cases a
      rw [DqAll.ints_eq t]
      rfl
def spSum (K : PySem.W.Frag) : Sp := fun vs H Q _ => ∃ (kinds : Nat) (p : Addr) (xs : List V) (rs : List (List Int)), vs = [.int kinds, .ref p] ∧ H p = some (.lst xs) ∧ DqAll K H xs (rowsD rs) ∧ kinds ≤ 4 ∧ (∀ r ∈ rs, r.length = kinds) ∧ rs.length ≤ 100 ∧
  ∀ H' q ns, Same H H' → H' q = some (.tup (ns.map V.int)) → ns = sums kinds rs → Q (.ref q) H'
section
variable {P : Program} {w : World} {K : PySem.W.Frag} {mg : Str → Option Value} {base : Heap}
theorem ok_row {f : Addr} {fd : FuncData} (F : Fun K "_law_row" "_law_row" s_law_row f fd) (B : Bl mg) (D__law_draw : Dk P w K mg base 1 "_law_draw" ["deck", "many"] spDraw) : FnOk P w K mg base CX0 2 f fd ["deck", "kinds", "most"] spRow := by
  refine F.ok sc_law_row (fun vs H Q E h => ?_) (fun cdv A outer s H vs Q E hr h => ?_)
  · obtain ⟨D, a, kinds, m, rfl, _⟩ := h
    rfl
  · obtain ⟨D, a, kinds, m, rfl, dk, hk, m0, m1, k⟩ := h
    have nd := sc_law_row.nd
    refine ⟨_, (pss_one (ps_ret (pe_callTy (ktuple K) (by rfl) B.tuple_ (by decide +kernel) (pa_cons (pe_lc (own := [("k", 3)]) rfl nd (pi_range1 rfl B.range_ (pa_cons (pv 1) pa_nil)) (blkOk_by (N := N_law_row) (sc := defScope s_law_row) (by decide +kernel)) (fun _ _ _ _ _ => (pg_name (i := 3) nd rfl (Or.inl rfl))) (fun _ _ _ _ _ => pts_nil) (fun _ _ _ _ _ => (pe_op op_sub (pe_dk D__law_draw (hr.mono (by first | decide | omega)) (pa_cons (pv 0) (pa_cons (pe_op op_add (pe_op op_mul pe_int (pv 2)) pe_int) pa_nil))) (pv 2)))) pa_nil)))), ?_⟩
    refine ⟨_, rfl, kinds, rfl, by omega, by omega, fun C hC => lc_range (lo := 0) (n := kinds) (fun i H' => ∃ (D' : Hp) (acc : List Int), Deck D' H' a ∧ Same D D' ∧ D' C = some (.lst (acc.map V.int)) ∧ acc.length = i ∧ Bd m acc)
      ⟨_, [], dk.new hC, same_new (dk.free hC), upd_same, rfl, fun _ z => nomatch z⟩ ?_ ?_⟩
    · rintro i H' hi ⟨D', acc, dk', sD, eC, ha, hb⟩
      have fC : D C = none := dk.free hC
      refine ⟨rfl, _, rfl, _, rfl, _, _, rfl, rfl, .inl ⟨by decide, by decide⟩, _, _, rfl, rfl, D', a, _, rfl, dk', by omega, by omega, fun H3 r dk3 r0 r1 => ?_⟩
      refine ⟨_, rfl, _, _, rfl, rfl, _, dk3.sub _ _ eC, small1000 (by rw [List.length_map]; omega), _, acc ++ [r - m], dk3.put eC, fun b o e => ?_, ?_, by rw [List.length_append, ha]; rfl, ?_⟩
      · rw [upd_ne (fun z => by subst z; rw [fC] at e; cases e)]
        exact sD _ _ e
      · rw [upd_same, List.map_append]
        rfl
      · intro x hx
        rcases List.mem_append.mp hx with hx | hx
        · exact hb x hx
        · obtain rfl := List.mem_singleton.mp hx
          omega
    · rintro H' ⟨D', acc, dk', sD, eC, ha, hb⟩
      refine ⟨C, _, rfl, .inl ⟨SqL.of (dk'.sub _ _ eC), fun l hl => ?_⟩⟩
      exact k _ _ l acc (dk'.new hl) (sD.trans (same_new (dk'.free hl))) upd_same ha hb
theorem ok_sum {f : Addr} {fd : FuncData} (F : Fun K "_law_sum" "_law_sum" s_law_sum f fd) (B : Bl mg) : FnOk P w K mg base CX0 1 f fd ["kinds", "rows"] (spSum K) := by
  refine F.ok sc_law_sum (fun vs H Q E h => ?_) (fun cdv A outer s H vs Q E hr h => ?_)
  · obtain ⟨kinds, p, xs, rs, rfl, _⟩ := h
    rfl
  · obtain ⟨kinds, p, xs, rs, rfl, hp, hx, hk, hR, hl, k⟩ := h
    have nd := sc_law_sum.nd
    refine ⟨_, (pss_one (ps_ret (pe_callTy (ktuple K) (by rfl) B.tuple_ (by decide +kernel) (pa_cons (pe_lc (own := [("k", 2)]) rfl nd (pi_range1 rfl B.range_ (pa_cons (pv 0) pa_nil)) (blkOk_by (N := N_law_sum) (sc := defScope s_law_sum) (by decide +kernel)) (fun _ _ _ _ _ => (pg_name (i := 2) nd rfl (Or.inr rfl))) (fun _ _ _ _ _ => pts_nil) (fun _ _ _ _ _ => (pe_callB (ksum K) (by rfl) B.sum_ (by decide +kernel) (pa_cons (pe_lc (own := [("row", 3)]) rfl nd (kpiL K (pv 1)) (blkOk_by (by kernel_rfl)) (fun _ _ _ _ _ => (pg_name (i := 3) nd rfl (Or.inl rfl))) (fun _ _ _ _ _ => pts_nil) (fun _ _ _ _ _ => (pe_ix (kixT K) (pv 3) (pv 2) (fun _ _ => rfl)))) pa_nil)))) pa_nil)))), ?_⟩
    have lx : xs.length = rs.length := by rw [hx.length]; unfold rowsD; rw [List.length_map]
    refine ⟨_, rfl, kinds, rfl, by omega, by omega, fun C hC => lc_range (lo := 0) (n := kinds) (fun i H' => ∃ acc : List Int, Same H H' ∧ H' C = some (.lst (acc.map V.int)) ∧ acc = (List.range i).map fun k => colS k rs)
      ⟨[], same_new hC, upd_same, rfl⟩ ?_ ?_⟩
    · rintro i H' hi ⟨acc, sH, eC, ha⟩
      refine ⟨rfl, _, rfl, p, rfl, ⟨_, SqL.of (sH _ _ hp)⟩, fun G hG => lc_list (K := K) (a := p) (xs := xs) (fun j H2 => ∃ b : List Int, Same H' H2 ∧ H2 G = some (.lst (b.map V.int)) ∧ b = (rs.take j).map fun r => r.getD i 0)
        ⟨[], same_new hG, upd_same, by simp⟩ (fun j H2 _ ⟨_, s2, _⟩ => SqL.of (s2 _ _ (sH _ _ hp))) ?_ ?_⟩
      · rintro j x H2 hj ⟨b, s2, eG, hb⟩
        obtain ⟨d, hd, qd⟩ := hx.get hj
        have hj2 : j < rs.length := by
          have := (List.getElem?_eq_some_iff.mp hj).1
          omega
        have hd2 : d = rowD rs[j] := by
          unfold rowsD at hd
          rw [List.getElem?_map, List.getElem?_eq_getElem hj2] at hd
          exact (Option.some.inj hd).symm
        subst hd2
        have qd2 := (qd.same sH).same s2
        have hrl := hR _ (List.getElem_mem hj2)
        generalize hr' : rs[j] = r at qd2 hrl
        cases qd2 with
        | tup hq hqa =>
          rename_i q ys
          have := hqa.ints_eq
          subst this
          have hir : (r.map V.int)[i]? = some (V.int (r.getD i 0)) := by
            rw [List.getElem?_map, List.getElem?_eq_getElem (by omega), List.getD_eq_getElem?_getD, List.getElem?_eq_getElem (by omega)]
            rfl
          have hat := atI_nat (j := i) hir
          refine ⟨rfl, _, rfl, _, rfl, q, _, _, _, rfl, rfl, SqT.of hq, by rw [show ((0 : Int) + (i : Nat)) = (i : Nat) by omega]; exact hat, _, eG, small1000 (by rw [hb, List.length_map, List.length_map, List.length_take]; omega), b ++ [r.getD i 0], fun c o e => ?_, ?_, ?_⟩
          · rw [upd_ne (fun z => by subst z; rw [hG] at e; cases e)]
            exact s2 _ _ e
          · rw [upd_same, List.map_append]
            rfl
          · rw [hb, List.take_add_one, List.getElem?_eq_getElem hj2, hr']
            simp
      · rintro H2 ⟨b, s2, eG, hb⟩
        refine ⟨G, b, rfl, SqL.of eG, ?_⟩
        have sC : H2 C = some (.lst (acc.map V.int)) := s2 _ _ eC
        refine ⟨_, sC, small1000 (by rw [ha, List.length_map, List.length_map, List.length_range]; omega), acc ++ [b.sum], fun c o e => ?_, ?_, ?_⟩
        · rw [upd_ne (fun z => by subst z; rw [hC] at e; cases e)]
          exact s2 _ _ (sH _ _ e)
        · rw [upd_same, List.map_append]
          rfl
        · rw [List.range_succ, List.map_append, ha, hb, lx, List.take_length]
          rfl
    · rintro H' ⟨acc, sH, eC, ha⟩
      refine ⟨C, _, rfl, .inl ⟨SqL.of eC, fun l hl2 => ?_⟩⟩
      exact k _ l acc (sH.trans (same_new hl2)) upd_same ha
end
end Nk
set_option Elab.async false
set_option linter.all false
set_option maxRecDepth 100000
set_option maxHeartbeats 4000000
namespace Nk
open PySem L2
def loadD (kinds : Nat) (rs : List (List Int)) : PyData := .tuple [.int kinds, .tuple (rowsD rs)]
def LoadOk (n : Nat) (kinds : Nat) (rs : List (List Int)) : Prop := 1 ≤ kinds ∧ kinds ≤ 4 ∧ rs.length ≤ n ∧ RowsOk kinds (10 ^ 6) rs
mutual
theorem Dq.putL {K : PySem.W.Frag} {H : Hp} {C : Addr} {xs : List V} {o : HO} (hC : H C = some (.lst xs)) : ∀ {v : V} {d : PyData}, noL d = true → Dq K H v d → Dq K (upd H C o) v d
  | _, _, _, .non => .non
  | _, _, _, .bl b => .bl b
  | _, _, _, .int i => .int i
  | _, _, _, .str x => .str x
  | _, _, c, .lst _ _ => by simp [noL] at c
  | _, _, c, .tup h t => .tup (by rw [upd_ne (ne_of h hC (by intro z; cases z))]; exact h) (DqAll.putL hC (by simpa [noL] using c) t)
  | _, _, _, .dnil h => .dnil (by rw [upd_ne (ne_of h hC (by intro z; cases z))]; exact h)
theorem DqAll.putL {K : PySem.W.Frag} {H : Hp} {C : Addr} {xs : List V} {o : HO} (hC : H C = some (.lst xs)) : ∀ {vs : List V} {ds : List PyData}, noLs ds = true → DqAll K H vs ds → DqAll K (upd H C o) vs ds
  | _, _, _, .nil => .nil
  | _, _, c, .cons h t => by
    have c' := by simpa [noLs] using c
    exact .cons (Dq.putL hC c'.1 h) (DqAll.putL hC c'.2 t)
end
theorem noLs_ints : ∀ ns : List Int, noLs (ns.map PyData.int) = true
  | [] => by simp [noLs]
  | n :: ns => by simp [noLs, noL, noLs_ints ns]
theorem noL_row (r : List Int) : noL (rowD r) = true := by unfold rowD; simp [noL, noLs_ints]
theorem noLs_rows : ∀ rs : List (List Int), noLs (rowsD rs) = true
  | [] => by simp [rowsD, noLs]
  | r :: rs => by
    show noLs (rowD r :: rowsD rs) = true
    simp [noLs, noL_row, noLs_rows rs]
theorem lays_rows : ∀ rs : List (List Int), PyData.canLayAll0 (rowsD rs) = true
  | [] => by simp [rowsD, PyData.canLayAll0]
  | r :: rs => by
    show PyData.canLayAll0 (rowD r :: rowsD rs) = true
    simp [PyData.canLayAll0, rowD, PyData.canLay0, lay_ints, lays_rows rs]
theorem depths_rows : ∀ rs : List (List Int), PyData.depthAll (rowsD rs) ≤ 1
  | [] => by simp [rowsD, PyData.depthAll]
  | r :: rs => by
    show PyData.depthAll (rowD r :: rowsD rs) ≤ 1
    have := depths_rows rs
    simp only [PyData.depthAll, rowD, PyData.depth, depth_ints]
    omega
theorem rowsD_snoc (rs : List (List Int)) (ns : List Int) : rowsD (rs ++ [ns]) = rowsD rs ++ [rowD ns] := by
  unfold rowsD
  rw [List.map_append]
  rfl
def spLoad (K : PySem.W.Frag) : Sp := fun vs H Q _ => ∃ (D : Hp) (a : Addr) (n : Nat), vs = [.ref a, .int n] ∧ Deck D H a ∧ 1 ≤ n ∧ n ≤ 24 ∧
  ∀ H' D' v kinds rs, Deck D' H' a → Same D D' → Dq K D' v (loadD kinds rs) → LoadOk n kinds rs → Q v H'
section
variable {P : Program} {w : World} {K : PySem.W.Frag} {mg : Str → Option Value} {base : Heap}
theorem ok_load {f : Addr} {fd : FuncData} (F : Fun K "_law_load" "_law_load" s_law_load f fd) (B : Bl mg) (D__law_draw : Dk P w K mg base 1 "_law_draw" ["deck", "many"] spDraw)
    (D__law_one : Dk P w K mg base 2 "_law_one" ["deck", "items"] spOne) (D__law_row : Dk P w K mg base 2 "_law_row" ["deck", "kinds", "most"] spRow) : FnOk P w K mg base CX0 3 f fd ["deck", "rows"] (spLoad K) := by
  refine F.ok sc_law_load (fun vs H Q E h => ?_) (fun cdv A outer s H vs Q E hr h => ?_)
  · obtain ⟨D, a, n, rfl, _⟩ := h
    rfl
  · obtain ⟨D, a, n, rfl, dk, n1, n2, k⟩ := h
    have nd := sc_law_load.nd
    refine ⟨_, (pss_cons (ps_asg (pe_tup (pa_cons (pe_op op_add pe_int (pe_dk D__law_draw (hr.mono (by first | decide | omega)) (pa_cons (pv 0) (pa_cons pe_int pa_nil)))) (pa_cons (pe_dk D__law_one (hr.mono (by first | decide | omega)) (pa_cons (pv 0) (pa_cons (pl_lst (pls_cons pl_int (pls_cons pl_int (pls_cons pl_int (pls_cons pl_int (pls_cons pl_int (pls_cons (pl_of (pe_op op_pow pe_int pe_int) (fun σ H Q q => ⟨_, _, rfl, rfl, ⟨by decide, by decide, by decide⟩, q⟩)) pls_nil))))))) pa_nil))) pa_nil))) (pg_tup rfl (pgs_cons (pg_name (i := 2) nd rfl (Or.inr rfl)) (pgs_cons (pg_name (i := 3) nd rfl (Or.inr rfl)) pgs_nil)))) (pss_one (ps_ret (pe_tup (pa_cons (pv 2) (pa_cons (pe_callTy (ktuple K) (by rfl) B.tuple_ (by decide +kernel) (pa_cons (pe_lc (own := [("k", 4)]) rfl nd (pi_range1 rfl B.range_ (pa_cons (pe_dk D__law_draw (hr.mono (by first | decide | omega)) (pa_cons (pv 0) (pa_cons (pe_op op_add (pv 1) pe_int) pa_nil))) pa_nil)) (blkOk_by (N := N_law_load) (sc := defScope s_law_load) (by decide +kernel)) (fun _ _ _ _ _ => (pg_name (i := 4) nd rfl (Or.inl rfl))) (fun _ _ _ _ _ => pts_nil) (fun _ _ _ _ _ => (pe_dk D__law_row (hr.mono (by first | decide | omega)) (pa_cons (pv 0) (pa_cons (pv 2) (pa_cons (pv 3) pa_nil)))))) pa_nil)) pa_nil)))))), ?_⟩
    refine ⟨_, rfl, D, a, 4, rfl, dk, by decide, by decide, fun H1 r dk1 r0 r1 => ⟨_, _, rfl, rfl, _, rfl, fun v N H2 x2 q2 => ?_⟩⟩
    obtain ⟨D2, dk2, s2, m2⟩ := dk1.ext x2
    have q2' := q2.same m2
    cases q2' with
    | lst hp hx =>
      rename_i p xs
      refine ⟨D2, a, p, xs, rfl, dk2, hp, (by intro z; subst z; cases hx), (by rw [hx.length]; decide), fun H3 x dk3 hxm => ?_⟩
      obtain ⟨dm, hdm, qm⟩ := hx.mem hxm
      obtain ⟨m, rfl, m0, m1⟩ : ∃ m : Int, dm = .int m ∧ 0 ≤ m ∧ m ≤ 10 ^ 6 := by
        simp only [List.mem_cons, List.not_mem_nil, or_false] at hdm
        rcases hdm with rfl | rfl | rfl | rfl | rfl | rfl
        all_goals exact ⟨_, rfl, by decide, by decide⟩
      cases qm
      refine ⟨(by show 2 ≤ sizeLine; decide), fun t ht => ?_⟩
      have dk4 := dk3.new (o := .tup [.int (1 + r), .int m]) ht
      have s4 := same_new (o := .tup [.int (1 + r), .int m]) (dk3.free ht)
      refine ⟨t, _, rfl, SqT.of upd_same, rfl, _, _, rfl, _, _, rfl, rfl, ?_⟩
      generalize upd D2 t (.tup [.int (1 + r), .int m]) = D4 at dk4 s4
      have rk : (1 : Int) + r = ((1 + r).toNat : Nat) := by omega
      generalize hkn : (1 + r).toNat = kn at rk
      have kn1 : 1 ≤ kn := by omega
      have kn4 : kn ≤ 4 := by omega
      refine ⟨_, rfl, _, rfl, _, rfl, _, _, rfl, rfl, D4, a, _, rfl, dk4, by omega, by omega, fun H5 c dk5 c0 c1 => ?_⟩
      refine ⟨c, rfl, by omega, by omega, fun C hC => lc_range (lo := 0) (n := c.toNat) (fun i H' => ∃ (D' : Hp) (vs : List V) (rs : List (List Int)), Deck D' H' a ∧ Same D4 D' ∧ D' C = some (.lst vs) ∧ DqAll K D' vs (rowsD rs) ∧ rs.length = i ∧ RowsOk kn m rs)
        ⟨_, [], [], dk5.new hC, same_new (dk5.free hC), upd_same, .nil, rfl, fun _ z => nomatch z⟩ ?_ ?_⟩
      · rintro i H' hi ⟨D', vs, rs, dk', sD, eC, hv, hl, hR⟩
        have fC : D4 C = none := dk5.free hC
        have lv : vs.length = rs.length := by rw [hv.length]; unfold rowsD; rw [List.length_map]
        refine ⟨rfl, _, rfl, _, rfl, _, rfl, D', a, kn, m, (by show [V.ref a, V.int (1 + r), V.int m] = _; rw [rk]), dk', kn4, m0, m1, fun H6 D6 q ns dk6 s6 hq hn hb => ?_⟩
        have eC6 := s6 _ _ eC
        have hv6 := hv.same s6
        refine ⟨_, dk6.sub _ _ eC6, small1000 (by omega), _, vs ++ [.ref q], rs ++ [ns], dk6.put eC6, fun b o e => ?_, upd_same, ?_, by rw [List.length_append, hl]; rfl, ?_⟩
        · rw [upd_ne (fun z => by subst z; rw [fC] at e; cases e)]
          exact s6 _ _ (sD _ _ e)
        · have h1 : DqAll K D6 (vs ++ [.ref q]) (rowsD (rs ++ [ns])) := by
            rw [rowsD_snoc]
            exact hv6.append (.cons (.tup hq (DqAll.ints ns)) .nil)
          exact h1.putL eC6 (noLs_rows (rs ++ [ns]))
        · intro r' hr'
          rcases List.mem_append.mp hr' with hr' | hr'
          · exact hR _ hr'
          · obtain rfl := List.mem_singleton.mp hr'
            exact ⟨hn, hb⟩
      · rintro H' ⟨D', vs, rs, dk', sD, eC, hv, hl, hR⟩
        refine ⟨C, _, rfl, .inl ⟨SqL.of (dk'.sub _ _ eC), fun l hl2 => ?_⟩⟩
        have dk7 := dk'.new (o := .tup vs) hl2
        have s7 := same_new (o := .tup vs) (dk'.free hl2)
        have e7 : upd D' l (.tup vs) l = some (.tup vs) := upd_same
        have hv7 := hv.same s7
        generalize upd D' l (.tup vs) = D7 at dk7 s7 e7 hv7
        generalize upd H' l (.tup vs) = H7 at dk7 ⊢
        refine ⟨(by show 2 ≤ sizeLine; decide), fun z hz => ?_⟩
        have s8 := same_new (o := .tup [.int (1 + r), .ref l]) (dk7.free hz)
        refine k _ _ _ kn rs (dk7.new hz) ((((s2.trans s4).trans sD).trans s7).trans s8) ?_ ⟨kn1, kn4, by omega, fun r' hr' => ⟨(hR r' hr').1, fun x hx => ?_⟩⟩
        · refine .tup upd_same ?_
          exact .cons (by show Dq K _ (V.int (1 + r)) _; rw [rk]; exact .int _) (.cons (.tup (s8 _ _ e7) (hv7.same s8)) .nil)
        · have := (hR r' hr').2 x hx
          omega
end
end Nk
set_option Elab.async false
set_option linter.all false
set_option maxRecDepth 100000
set_option maxHeartbeats 4000000
namespace Nk
open PySem L2
theorem take_map_succ {α β : Type} (f : α → β) (l : List α) (j : Nat) (h : j < l.length) : (l.take j).map f ++ [f l[j]] = (l.take (j + 1)).map f := by
  rw [List.take_add_one, List.getElem?_eq_getElem h, List.map_append]
  rfl
/-! sums of rows -/
theorem colS_append (k : Nat) (a b : List (List Int)) : colS k (a ++ b) = colS k a + colS k b := by
  unfold colS
  rw [List.map_append, List.sum_append]
theorem colS_cons (k : Nat) (r : List Int) (b : List (List Int)) : colS k (r :: b) = r.getD k 0 + colS k b := by
  unfold colS
  rw [List.map_cons, List.sum_cons]
theorem colS_perm (k : Nat) {a b : List (List Int)} (h : a.Perm b) : colS k a = colS k b := by
  induction h with
  | nil => rfl
  | cons x _ ih => rw [colS_cons, colS_cons, ih]
  | swap x y l => rw [colS_cons, colS_cons, colS_cons, colS_cons]; omega
  | trans _ _ i1 i2 => exact i1.trans i2
def negR (r : List Int) : List Int := r.map fun x => 0 - x
theorem negR_getD (r : List Int) (k : Nat) : (negR r).getD k 0 = - r.getD k 0 := by
  unfold negR
  rw [List.getD_eq_getElem?_getD, List.getD_eq_getElem?_getD, List.getElem?_map]
  cases r[k]? with
  | none => rfl
  | some x => simp
theorem colS_neg (k : Nat) : ∀ rs : List (List Int), colS k (rs.map negR) = - colS k rs
  | [] => rfl
  | r :: rs => by
    rw [List.map_cons, colS_cons, colS_cons, colS_neg k rs, negR_getD]
    omega
theorem sums_getD (kinds k : Nat) (rs : List (List Int)) (h : k < kinds) : (sums kinds rs).getD k 0 = colS k rs := by
  unfold sums
  rw [List.getD_eq_getElem?_getD, List.getElem?_map, List.getElem?_range h]
  rfl
theorem colS_bd {kinds : Nat} {m : Int} (m0 : 0 ≤ m) (k : Nat) : ∀ {rs : List (List Int)}, RowsOk kinds m rs → -(m * rs.length) ≤ colS k rs ∧ colS k rs ≤ m * rs.length
  | [], _ => by simp [colS]
  | r :: rs, h => by
    have ih := colS_bd m0 k (rs := rs) fun r' hr' => h r' (List.mem_cons_of_mem _ hr')
    have hb : -m ≤ r.getD k 0 ∧ r.getD k 0 ≤ m := by
      rw [List.getD_eq_getElem?_getD]
      cases e : r[k]? with
      | none => simp; omega
      | some x => exact (h r List.mem_cons_self).2 x (List.mem_of_getElem? e)
    rw [colS_cons, List.length_cons]
    have e2 : m * ((rs.length + 1 : Nat) : Int) = m * rs.length + m := by
      rw [Int.natCast_add, Int.mul_add]
      simp
    omega
theorem bd_mono {m m' : Int} (h : m ≤ m') {r : List Int} (b : Bd m r) : Bd m' r := fun x hx => by
  have := b x hx
  omega
theorem bd_neg {m : Int} {r : List Int} (b : Bd m r) : Bd m (negR r) := fun x hx => by
  obtain ⟨y, hy, rfl⟩ := List.mem_map.mp hx
  have := b y hy
  omega
def EvenOk (n : Nat) (kinds : Nat) (rs : List (List Int)) : Prop := LoadOk n kinds rs ∧ ∀ k, k < kinds → colS k rs = 0
theorem dq_perm {K : PySem.W.Frag} {D : Hp} {xs ys : List V} (h : xs.Perm ys) : ∀ {rs : List (List Int)}, DqAll K D xs (rowsD rs) → ∃ rs' : List (List Int), rs.Perm rs' ∧ DqAll K D ys (rowsD rs') := by
  induction h with
  | nil => exact fun {rs} q => ⟨rs, .refl _, q⟩
  | cons x _ ih =>
    intro rs q
    cases rs with
    | nil => cases q
    | cons r rs =>
      cases q with
      | cons a t =>
        obtain ⟨rs', p, q'⟩ := ih t
        exact ⟨r :: rs', p.cons r, .cons a q'⟩
  | swap x y l =>
    intro rs q
    cases rs with
    | nil => cases q
    | cons r rs =>
      cases q with
      | cons a t =>
        cases rs with
        | nil => cases t
        | cons r2 rs =>
          cases t with
          | cons b t => exact ⟨r2 :: r :: rs, .swap _ _ _, .cons b (.cons a t)⟩
  | trans _ _ i1 i2 =>
    intro rs q
    obtain ⟨r1, p1, q1⟩ := i1 q
    obtain ⟨r2, p2, q2⟩ := i2 q1
    exact ⟨r2, p1.trans p2, q2⟩
theorem Deck.addT {D H : Hp} {a q : Addr} {xs : List V} (d : Deck D H a) (hq : H q = some (.tup xs)) : Deck (upd D q (.tup xs)) H a ∧ Same D (upd D q (.tup xs)) := by
  obtain ⟨s, na, l0, l1, bs, cs, n, n0, n1, ne, ha, h0, h1, hc, hl⟩ := d
  have qa : a ≠ q := ne_of ha hq (by intro z; cases z)
  have q0 : l0 ≠ q := ne_of h0 hq (by intro z; cases z)
  have q1 : l1 ≠ q := ne_of h1 hq (by intro z; cases z)
  refine ⟨⟨fun b w e => ?_, by rw [upd_ne qa]; exact na, l0, l1, bs, cs, n, by rw [upd_ne q0]; exact n0, by rw [upd_ne q1]; exact n1, ne, ha, h0, h1, hc, hl⟩, fun b w e => ?_⟩
  · by_cases hb : b = q
    · subst hb
      rw [upd_same] at e
      rw [hq]
      exact e
    · rw [upd_ne hb] at e
      exact s _ _ e
  · by_cases hb : b = q
    · subst hb
      have := s _ _ e
      rw [hq] at this
      rw [upd_same]
      exact this
    · rw [upd_ne hb]
      exact e
theorem Deck.grown {D H H' : Hp} {a : Addr} (d : Deck D H a) (e : Same H H') : Deck D H' a := by
  obtain ⟨s, na, l0, l1, bs, cs, n, n0, n1, ne, ha, h0, h1, hc, hl⟩ := d
  exact ⟨s.trans e, na, l0, l1, bs, cs, n, n0, n1, ne, e _ _ ha, e _ _ h0, e _ _ h1, hc, hl⟩
theorem EvenOk.perm {n kinds : Nat} {rs rs' : List (List Int)} (h : EvenOk n kinds rs) (p : rs.Perm rs') : EvenOk n kinds rs' := by
  obtain ⟨⟨h1, h2, h3, h4⟩, h5⟩ := h
  exact ⟨⟨h1, h2, by rw [← p.length_eq]; exact h3, fun r hr => h4 r (p.mem_iff.mpr hr)⟩, fun k hk => by rw [← colS_perm k p]; exact h5 k hk⟩
def spEven (K : PySem.W.Frag) : Sp := fun vs H Q _ => ∃ (D : Hp) (a : Addr) (n : Nat), vs = [.ref a, .int n] ∧ Deck D H a ∧ 1 ≤ n ∧ n ≤ 24 ∧
  ∀ H' D' v kinds rs, Deck D' H' a → Same D D' → Dq K D' v (loadD kinds rs) → EvenOk n kinds rs → Q v H'
section
variable {P : Program} {w : World} {K : PySem.W.Frag} {mg : Str → Option Value} {base : Heap}
theorem ok_even {f : Addr} {fd : FuncData} (F : Fun K "_law_even" "_law_even" s_law_even f fd) (B : Bl mg) (D__law_draw : Dk P w K mg base 1 "_law_draw" ["deck", "many"] spDraw)
    (D__law_one : Dk P w K mg base 2 "_law_one" ["deck", "items"] spOne) (D__law_row : Dk P w K mg base 2 "_law_row" ["deck", "kinds", "most"] spRow) (D__law_sum : Dk P w K mg base 1 "_law_sum" ["kinds", "rows"] (spSum K))
    (D__law_mixed : Dk P w K mg base 2 "_law_mixed" ["deck", "items"] spMixed) : FnOk P w K mg base CX0 3 f fd ["deck", "rows"] (spEven K) := by
  refine F.ok sc_law_even (fun vs H Q E h => ?_) (fun cdv A outer s H vs Q E hr h => ?_)
  · obtain ⟨D, a, n, rfl, _⟩ := h
    rfl
  · obtain ⟨D, a, n, rfl, dk, n1, n2, k⟩ := h
    have nd := sc_law_even.nd
    refine ⟨_, (pss_cons (ps_asg (pe_tup (pa_cons (pe_op op_add pe_int (pe_dk D__law_draw (hr.mono (by first | decide | omega)) (pa_cons (pv 0) (pa_cons pe_int pa_nil)))) (pa_cons (pe_dk D__law_one (hr.mono (by first | decide | omega)) (pa_cons (pv 0) (pa_cons (pl_lst (pls_cons pl_int (pls_cons pl_int (pls_cons pl_int (pls_cons pl_int (pls_cons pl_int (pls_cons pl_int pls_nil))))))) pa_nil))) pa_nil))) (pg_tup rfl (pgs_cons (pg_name (i := 2) nd rfl (Or.inr rfl)) (pgs_cons (pg_name (i := 3) nd rfl (Or.inr rfl)) pgs_nil)))) (pss_cons (ps_setLc (i := 4) (own := [("k", 5)]) rfl nd rfl rfl (sw_true rfl rfl rfl (by decide +kernel)) (pi_range1 rfl B.range_ (pa_cons (pe_dk D__law_draw (hr.mono (by first | decide | omega)) (pa_cons (pv 0) (pa_cons (pv 1) pa_nil))) pa_nil)) (blkOk_by (N := N_law_even) (sc := defScope s_law_even) (by decide +kernel)) (fun _ _ _ _ _ => (pg_name (i := 5) nd rfl (Or.inl rfl))) (fun _ _ _ _ _ => pts_nil) (fun _ _ _ _ _ => (pe_dk D__law_row (hr.mono (by first | decide | omega)) (pa_cons (pv 0) (pa_cons (pv 2) (pa_cons (pv 3) pa_nil)))))) (pss_cons (ps_if (pt_cmpR (keqD K hr.units) (pv 4) (pe_lst pa_nil) (nomark _)) (pss_one (ps_ret (pe_tup (pa_cons (pv 2) (pa_cons (pe_tup pa_nil) pa_nil))))) pss_nil) (pss_cons (ps_if (PW.pt (pw_and (pt_cmpR op_eq (pe_dk D__law_draw (hr.mono (by first | decide | omega)) (pa_cons (pv 0) (pa_cons pe_int pa_nil))) pe_int (nomark _)) (pw_and1 (pt_cmpR op_le (pe_op op_mul pe_int (pe_callB (klen K) (by rfl) B.len_ PySem.boot_len (pa_cons (pv 4) pa_nil))) (pv 1) (nomark _))))) (pss_one (ps_set (i := 4) nd rfl (Or.inl rfl) (pe_op op_cat (pv 4) (pe_lc (own := [("row", 6)]) rfl nd (kpiL K (pv 4)) (blkOk_by (N := N_law_even) (sc := defScope s_law_even) (by decide +kernel)) (fun _ _ _ _ _ => (pg_name (i := 6) nd rfl (Or.inl rfl))) (fun _ _ _ _ _ => pts_nil) (fun _ _ _ _ _ => (pe_callTy (ktuple K) (by rfl) B.tuple_ (by decide +kernel) (pa_cons (pe_lc (own := [("item", 7)]) rfl nd (kpiT K (pv 6)) (blkOk_by (by kernel_rfl)) (fun _ _ _ _ _ => (pg_name (i := 7) nd rfl (Or.inl rfl))) (fun _ _ _ _ _ => pts_nil) (fun _ _ _ _ _ => (pe_op op_sub pe_int (pv 7)))) pa_nil))))))) (pss_one (ps_expr (pe_bm PySem.F.plainAttrs_list PySem.F.slot_list_append PySem.F.type_list_append mt_append (pv 4) (pa_cons (pe_callTy (ktuple K) (by rfl) B.tuple_ (by decide +kernel) (pa_cons (pe_lc (own := [("item", 7)]) rfl nd (kpiT K (pe_dk D__law_sum (hr.mono (by first | decide | omega)) (pa_cons (pv 2) (pa_cons (pv 4) pa_nil)))) (blkOk_by (N := N_law_even) (sc := defScope s_law_even) (by decide +kernel)) (fun _ _ _ _ _ => (pg_name (i := 7) nd rfl (Or.inl rfl))) (fun _ _ _ _ _ => pts_nil) (fun _ _ _ _ _ => (pe_op op_sub pe_int (pv 7)))) pa_nil)) pa_nil))))) (pss_one (ps_ret (pe_tup (pa_cons (pv 2) (pa_cons (pe_callTy (ktuple K) (by rfl) B.tuple_ (by decide +kernel) (pa_cons (pe_dk D__law_mixed (hr.mono (by first | decide | omega)) (pa_cons (pv 0) (pa_cons (pv 4) pa_nil))) pa_nil)) pa_nil))))))))), ?_⟩
    refine ⟨_, rfl, D, a, 4, rfl, dk, by decide, by decide, fun H1 r dk1 r0 r1 => ⟨_, _, rfl, rfl, _, rfl, fun v N H2 x2 q2 => ?_⟩⟩
    obtain ⟨D2, dk2, s2, m2⟩ := dk1.ext x2
    have q2' := q2.same m2
    cases q2' with
    | lst hp hx =>
      rename_i p xs
      refine ⟨D2, a, p, xs, rfl, dk2, hp, (by intro z; subst z; cases hx), (by rw [hx.length]; decide), fun H3 x dk3 hxm => ?_⟩
      obtain ⟨dm, hdm, qm⟩ := hx.mem hxm
      obtain ⟨m, rfl, m0, m1⟩ : ∃ m : Int, dm = .int m ∧ 0 ≤ m ∧ m ≤ 40000 := by
        simp only [List.mem_cons, List.not_mem_nil, or_false] at hdm
        rcases hdm with rfl | rfl | rfl | rfl | rfl | rfl
        all_goals exact ⟨_, rfl, by decide, by decide⟩
      cases qm
      refine ⟨(by show 2 ≤ sizeLine; decide), fun t ht => ?_⟩
      have dk4 := dk3.new (o := .tup [.int (1 + r), .int m]) ht
      have s4 := same_new (o := .tup [.int (1 + r), .int m]) (dk3.free ht)
      refine ⟨t, _, rfl, SqT.of upd_same, rfl, _, _, rfl, _, _, rfl, rfl, ?_⟩
      generalize upd D2 t (.tup [.int (1 + r), .int m]) = D4 at dk4 s4
      have rk : (1 : Int) + r = ((1 + r).toNat : Nat) := by omega
      generalize hkn : (1 + r).toNat = kn at rk
      have kn1 : 1 ≤ kn := by omega
      have kn4 : kn ≤ 4 := by omega
      refine ⟨_, rfl, _, rfl, D4, a, _, rfl, dk4, by omega, by omega, fun H5 c dk5 c0 c1 => ?_⟩
      refine ⟨c, rfl, by omega, by omega, fun C hC => lc_range (lo := 0) (n := c.toNat) (fun i H' => ∃ (D' : Hp) (vs : List V) (rs : List (List Int)), Deck D' H' a ∧ Same D4 D' ∧ D' C = some (.lst vs) ∧ DqAll K D' vs (rowsD rs) ∧ rs.length = i ∧ RowsOk kn m rs)
        ⟨_, [], [], dk5.new hC, same_new (dk5.free hC), upd_same, .nil, rfl, fun _ z => nomatch z⟩ ?_ ?_⟩
      · rintro i H' hi ⟨D', vs, rs, dk', sD, eC, hv, hl, hR⟩
        have fC : D4 C = none := dk5.free hC
        have lv : vs.length = rs.length := by rw [hv.length]; unfold rowsD; rw [List.length_map]
        refine ⟨rfl, _, rfl, _, rfl, _, rfl, D', a, kn, m, (by show [V.ref a, V.int (1 + r), V.int m] = _; rw [rk]), dk', kn4, m0, by omega, fun H6 D6 q ns dk6 s6 hq hn hb => ?_⟩
        have eC6 := s6 _ _ eC
        have hv6 := hv.same s6
        refine ⟨_, dk6.sub _ _ eC6, small1000 (by omega), _, vs ++ [.ref q], rs ++ [ns], dk6.put eC6, fun b o e => ?_, upd_same, ?_, by rw [List.length_append, hl]; rfl, ?_⟩
        · rw [upd_ne (fun z => by subst z; rw [fC] at e; cases e)]
          exact s6 _ _ (sD _ _ e)
        · have h1 : DqAll K D6 (vs ++ [.ref q]) (rowsD (rs ++ [ns])) := by
            rw [rowsD_snoc]
            exact hv6.append (.cons (.tup hq (DqAll.ints ns)) .nil)
          exact h1.putL eC6 (noLs_rows (rs ++ [ns]))
        · intro r' hr'
          rcases List.mem_append.mp hr' with hr' | hr'
          · exact hR _ hr'
          · obtain rfl := List.mem_singleton.mp hr'
            exact ⟨hn, hb⟩
      · rintro H' ⟨D', vs, rs, dk', sD, eC, hv, hl, hR⟩
        have lv : vs.length = rs.length := by rw [hv.length]; unfold rowsD; rw [List.length_map]
        have fC4 : D4 C = none := dk5.free hC
        -- found == []
        refine ⟨_, rfl, Nat.zero_le _, fun p0 hp0 => ?_⟩
        have dk6 := (dk'.new (o := .lst []) hp0).less (same_new (dk'.free hp0))
        have ep0 : upd H' p0 (.lst []) p0 = some (.lst []) := upd_same
        generalize upd H' p0 (.lst []) = H6 at dk6 ep0 ⊢
        refine eq_nilL (dk6.sub _ _ eC) ((hv.same dk6.sub)) (lays_rows rs) (by have := depths_rows rs; omega) ep0 ⟨_, rfl, ?_⟩
        cases hvs : vs with
        | nil =>
          refine iteT ?_
          refine ⟨_, rfl, Nat.zero_le _, fun q hq => ?_⟩
          have dk7 := dk6.new (o := .tup []) hq
          have s7 := same_new (o := .tup []) (dk6.free hq)
          refine ⟨(by show 2 ≤ sizeLine; decide), fun z hz => ?_⟩
          have s8 := same_new (o := .tup [.int (1 + r), .ref q]) (dk7.free hz)
          refine k _ _ _ kn [] (dk7.new hz) ((((s2.trans s4).trans sD).trans s7).trans s8) ?_ ⟨⟨kn1, kn4, Nat.zero_le _, fun _ y => nomatch y⟩, fun _ _ => rfl⟩
          refine .tup upd_same (.cons (by show Dq K _ (V.int (1 + r)) _; rw [rk]; exact .int _) (.cons (.tup (s8 _ _ upd_same) .nil) .nil))
        | cons v0 vs0 =>
          refine iteF ?_
          have lpos : 0 < vs.length := by rw [hvs]; exact Nat.succ_pos _
          clear hvs v0 vs0
          refine ⟨_, rfl, D', a, 3, rfl, dk6, by decide, by decide, fun H7 w3 dk7 w0 w1 => ?_⟩
          refine ⟨rfl, _, rfl, ?_⟩
          have step : ∀ (b : Bool), (b = true → 2 * vs.length ≤ n) → (if b = true then tAsg (tOp rCat (tVar 4) (tLc (iList K (tVar 4)) (gName 6) tYes (tCB (fun xs H Q => ∃ p ys, xs = [V.ref p] ∧ ((SqL K H p ys ∧ ∀ (l : Addr), H l = none → Q (V.ref l) (upd H l (HO.tup ys))) ∨ SqT K H p ys ∧ Q (V.ref p) H)) (tCons (tLc (iTup K (tVar 6)) (gName 7) tYes (tOp (rI0 fun i j => V.int (i - j)) (tC (V.int 0)) (tVar 7)) [7]) tNil)) [6])) (gName 4)
            else tDrop (tBM K "list" rAppend (tVar 4) (tCons (tCB (fun xs H Q => ∃ p ys, xs = [V.ref p] ∧ ((SqL K H p ys ∧ ∀ (l : Addr), H l = none → Q (V.ref l) (upd H l (HO.tup ys))) ∨ SqT K H p ys ∧ Q (V.ref p) H)) (tCons (tLc (iTup K (tCall (spSum K) [] E0 (tCons (tVar 2) (tCons (tVar 4) tNil)))) (gName 7) tYes (tOp (rI0 fun i j => V.int (i - j)) (tC (V.int 0)) (tVar 7)) [7]) tNil)) tNil)))
              { nx := tRet (tTup (tCons (tVar 2) (tCons (tCB (fun xs H Q => ∃ p ys, xs = [V.ref p] ∧ ((SqL K H p ys ∧ ∀ (l : Addr), H l = none → Q (V.ref l) (upd H l (HO.tup ys))) ∨ SqT K H p ys ∧ Q (V.ref p) H)) (tCons (tCall spMixed [] E0 (tCons (tVar 0) (tCons (tVar 4) tNil))) tNil)) tNil))) { nx := fun x H' => Q V.non H', rt := Q }, rt := Q }
              (((List.set (L2.start N_law_even [V.ref a, V.int n]) 2 (some (V.int (1 + r)))).set 3 (some (V.int m))).set 4 (some (V.ref C))) H7 := by
            intro b hb
            cases b with
            | true =>
              have h2n := hb rfl
              rw [if_pos rfl]
              refine ⟨_, rfl, _, rfl, C, rfl, ⟨_, SqL.of (dk7.sub _ _ eC)⟩, fun G hG => lc_list (K := K) (a := C) (xs := vs) (fun i H' => ∃ (D6 : Hp) (ws : List V), Deck D6 H' a ∧ Same D' D6 ∧ D6 G = some (.lst ws) ∧ DqAll K D6 ws (rowsD ((rs.take i).map negR)))
                ⟨_, [], dk7.new hG, same_new (dk7.free hG), upd_same, .nil⟩ (fun i H' _ ⟨D6, ws, d6, s6, _⟩ => SqL.of (d6.sub _ _ (s6 _ _ eC))) ?_ ?_⟩
              · rintro i x H8 hi ⟨D6, ws, d6, s6, eG, hw⟩
                have fG : D' G = none := dk7.free hG
                obtain ⟨d, hd, qd⟩ := hv.get hi
                have hi2 : i < rs.length := by
                  have := (List.getElem?_eq_some_iff.mp hi).1
                  omega
                have hd2 : d = rowD rs[i] := by
                  unfold rowsD at hd
                  rw [List.getElem?_map, List.getElem?_eq_getElem hi2] at hd
                  exact (Option.some.inj hd).symm
                subst hd2
                have qd2 := qd.same s6
                have hrl := (hR _ (List.getElem_mem hi2)).1
                generalize hr' : rs[i] = rr at qd2 hrl
                cases qd2 with
                | tup hq hqa =>
                  rename_i q ys
                  have := hqa.ints_eq
                  subst this
                  refine ⟨rfl, _, rfl, q, rfl, ⟨_, SqT.of (d6.sub _ _ hq)⟩, fun G2 hG2 => lc_tup (K := K) (a := q) (xs := rr.map V.int) (fun j H9 => ∃ (D9 : Hp) (acc : List Int), Deck D9 H9 a ∧ Same D6 D9 ∧ D9 G2 = some (.lst (acc.map V.int)) ∧ acc = (rr.take j).map fun x => 0 - x)
                    ⟨_, [], d6.new hG2, same_new (d6.free hG2), upd_same, by simp⟩ (fun j H9 _ ⟨D9, acc, d9, s9, _⟩ => SqT.of (d9.sub _ _ (s9 _ _ hq))) ?_ ?_⟩
                  · rintro j y H9 hj ⟨D9, acc, d9, s9, eG2, hacc⟩
                    have fG2 : D6 G2 = none := d6.free hG2
                    rw [List.getElem?_map] at hj
                    have hj2 : j < rr.length := by
                      cases e : rr[j]? with
                      | none => rw [e] at hj; cases hj
                      | some z => exact (List.getElem?_eq_some_iff.mp e).1
                    rw [List.getElem?_eq_getElem hj2] at hj
                    have hy : y = V.int rr[j] := (Option.some.inj hj).symm
                    subst hy
                    refine ⟨rfl, _, rfl, _, _, rfl, rfl, _, d9.sub _ _ eG2, small1000 (by rw [hacc, List.length_map, List.length_map, List.length_take]; omega), _, acc ++ [0 - rr[j]], d9.put eG2, fun b o e => ?_, ?_, ?_⟩
                    · rw [upd_ne (fun z => by subst z; rw [fG2] at e; cases e)]
                      exact s9 _ _ e
                    · rw [upd_same, List.map_append]
                      rfl
                    · rw [hacc]
                      exact take_map_succ (fun x => 0 - x) rr j hj2
                  · rintro H9 ⟨D9, acc, d9, s9, eG2, hacc⟩
                    rw [List.length_map, List.take_length] at hacc
                    refine ⟨G2, _, rfl, .inl ⟨SqL.of (d9.sub _ _ eG2), fun l hl2 => ?_⟩⟩
                    have d10 := d9.new (o := .tup (acc.map V.int)) hl2
                    have s10 := same_new (o := .tup (acc.map V.int)) (d9.free hl2)
                    have e10 : upd D9 l (.tup (acc.map V.int)) l = some (.tup (acc.map V.int)) := upd_same
                    have s610 := s9.trans s10
                    generalize upd D9 l (.tup (acc.map V.int)) = D10 at d10 s10 e10 s610
                    generalize upd H9 l (.tup (acc.map V.int)) = H10 at d10 ⊢
                    have eG10 := s610 _ _ eG
                    refine ⟨_, d10.sub _ _ eG10, small1000 (by rw [hw.length]; unfold rowsD; rw [List.length_map, List.length_map, List.length_take]; omega), _, ws ++ [.ref l], d10.put eG10, fun b o e => ?_, upd_same, ?_⟩
                    · rw [upd_ne (fun z => by subst z; rw [fG] at e; cases e)]
                      exact s610 _ _ (s6 _ _ e)
                    · have h1 : DqAll K D10 (ws ++ [.ref l]) (rowsD ((rs.take (i + 1)).map negR)) := by
                        rw [List.take_add_one, List.getElem?_eq_getElem hi2, hr', List.map_append]
                        show DqAll K D10 _ (rowsD (List.map negR (rs.take i) ++ [negR rr]))
                        rw [rowsD_snoc]
                        refine (hw.same s610).append (.cons (.tup e10 ?_) .nil)
                        rw [hacc]
                        exact DqAll.ints _
                      exact h1.putL eG10 (noLs_rows _)
              · rintro H8 ⟨D6, ws0, d6, s6, eG, hw⟩
                rw [lv, List.take_length] at hw
                have eC6 := s6 _ _ eC
                refine ⟨C, G, vs, ws0, rfl, rfl, d6.sub _ _ eC6, d6.sub _ _ eG, Nat.le_of_lt (small1000 (by rw [hw.length]; unfold rowsD; rw [List.length_map, List.length_map]; omega)), fun p7 hp7 => ?_⟩
                have dk7' := d6.new (o := .lst (vs ++ ws0)) hp7
                have s7 := s6.trans (same_new (o := .lst (vs ++ ws0)) (d6.free hp7))
                have e7 : upd D6 p7 (.lst (vs ++ ws0)) p7 = some (.lst (vs ++ ws0)) := upd_same
                have hv7 : DqAll K (upd D6 p7 (.lst (vs ++ ws0))) (vs ++ ws0) (rowsD (rs ++ rs.map negR)) := by
                  unfold rowsD at hw hv ⊢
                  rw [List.map_append]
                  exact (hv.same s7).append (hw.same (same_new (d6.free hp7)))
                have hev : EvenOk n kn (rs ++ rs.map negR) := by
                  refine ⟨⟨kn1, kn4, by rw [List.length_append, List.length_map]; omega, fun r' hr' => ?_⟩, fun k' _ => by rw [colS_append, colS_neg]; omega⟩
                  rcases List.mem_append.mp hr' with hr' | hr'
                  · exact ⟨(hR _ hr').1, bd_mono (by omega) (hR _ hr').2⟩
                  · obtain ⟨r2, hr2, rfl⟩ := List.mem_map.mp hr'
                    exact ⟨by unfold negR; rw [List.length_map]; exact (hR _ hr2).1, bd_mono (by omega) (bd_neg (hR _ hr2).2)⟩
                generalize upd D6 p7 (.lst (vs ++ ws0)) = D7 at dk7' s7 e7 hv7
                generalize upd H8 p7 (.lst (vs ++ ws0)) = H7' at dk7' ⊢
                generalize vs ++ ws0 = ws at e7 hv7
                generalize rs ++ rs.map negR = rs7 at hv7 hev
                have dk7 := dk7'
                refine ⟨_, rfl, _, rfl, _, rfl, D7, a, p7, ws, rfl, dk7, e7, (by rw [hv7.length]; unfold rowsD; rw [List.length_map]; have := hev.1.2.2.1; omega), fun H8 D8 q8 ys dk8 s8 hq8 hperm => ?_⟩
                obtain ⟨rs8, pm, hv8⟩ := dq_perm hperm.symm (hv7.same s8)
                refine ⟨q8, _, rfl, .inl ⟨SqL.of (dk8.sub _ _ hq8), fun l hl2 => ?_⟩⟩
                have dk9 := dk8.new (o := .tup ys) hl2
                have s9 := same_new (o := .tup ys) (dk8.free hl2)
                refine ⟨(by show 2 ≤ sizeLine; decide), fun z hz => ?_⟩
                have s10 := same_new (o := .tup [.int (1 + r), .ref l]) (dk9.free hz)
                refine k _ _ _ kn rs8 (dk9.new hz) ((((((s2.trans s4).trans sD).trans s7).trans s8).trans s9).trans s10) ?_ (hev.perm pm)
                exact .tup upd_same (.cons (by show Dq K _ (V.int (1 + r)) _; rw [rk]; exact .int _) (.cons (.tup (s10 _ _ upd_same) ((hv8.same s9).same s10)) .nil))
            | false =>
              rw [if_neg Bool.false_ne_true]
              refine ⟨_, rfl, .inl ⟨rfl, _, SqL.of (dk7.sub _ _ eC)⟩, _, rfl, _, rfl, kn, C, vs, rs, (by show [V.int (1 + r), V.ref C] = _; rw [rk]), dk7.sub _ _ eC, hv.same dk7.sub, kn4, fun r' hr' => (hR r' hr').1, by omega, fun H8 q ns s8 hq hns => ?_⟩
              obtain ⟨d8, s8'⟩ := (dk7.grown s8).addT hq
              have hq8 : upd D' q (.tup (ns.map V.int)) q = some (.tup (ns.map V.int)) := upd_same
              generalize upd D' q (.tup (ns.map V.int)) = D8 at d8 s8' hq8
              have lns : ns.length = kn := by rw [hns]; unfold sums; rw [List.length_map, List.length_range]
              refine ⟨q, rfl, ⟨_, SqT.of (d8.sub _ _ hq8)⟩, fun G2 hG2 => lc_tup (K := K) (a := q) (xs := ns.map V.int) (fun j H9 => ∃ (D9 : Hp) (acc : List Int), Deck D9 H9 a ∧ Same D8 D9 ∧ D9 G2 = some (.lst (acc.map V.int)) ∧ acc = (ns.take j).map fun x => 0 - x)
                ⟨_, [], d8.new hG2, same_new (d8.free hG2), upd_same, by simp⟩ (fun j H9 _ ⟨D9, acc, d9, s9, _⟩ => SqT.of (d9.sub _ _ (s9 _ _ hq8))) ?_ ?_⟩
              · rintro j y H9 hj ⟨D9, acc, d9, s9, eG2, hacc⟩
                have fG2 : D8 G2 = none := d8.free hG2
                rw [List.getElem?_map] at hj
                have hj2 : j < ns.length := by
                  cases e : ns[j]? with
                  | none => rw [e] at hj; cases hj
                  | some z => exact (List.getElem?_eq_some_iff.mp e).1
                rw [List.getElem?_eq_getElem hj2] at hj
                have hy : y = V.int ns[j] := (Option.some.inj hj).symm
                subst hy
                refine ⟨rfl, _, rfl, _, _, rfl, rfl, _, d9.sub _ _ eG2, small1000 (by rw [hacc, List.length_map, List.length_map, List.length_take]; omega), _, acc ++ [0 - ns[j]], d9.put eG2, fun b o e => ?_, ?_, ?_⟩
                · rw [upd_ne (fun z => by subst z; rw [fG2] at e; cases e)]
                  exact s9 _ _ e
                · rw [upd_same, List.map_append]
                  rfl
                · rw [hacc]
                  exact take_map_succ (fun x => 0 - x) ns j hj2
              · rintro H9 ⟨D9, acc, d9, s9, eG2, hacc⟩
                rw [List.length_map, List.take_length] at hacc
                have hacc2 : acc = negR ns := hacc
                refine ⟨G2, _, rfl, .inl ⟨SqL.of (d9.sub _ _ eG2), fun l hl2 => ?_⟩⟩
                have d10 := d9.new (o := .tup (acc.map V.int)) hl2
                have s10 := (s8'.trans s9).trans (same_new (o := .tup (acc.map V.int)) (d9.free hl2))
                have e10 : upd D9 l (.tup (acc.map V.int)) l = some (.tup (acc.map V.int)) := upd_same
                generalize upd D9 l (.tup (acc.map V.int)) = D10 at d10 s10 e10
                generalize upd H9 l (.tup (acc.map V.int)) = H10 at d10 ⊢
                have eC10 := s10 _ _ eC
                refine ⟨C, vs, .ref l, rfl, rfl, d10.sub _ _ eC10, small1000 (by omega), ?_⟩
                have hv10 : DqAll K D10 (vs ++ [.ref l]) (rowsD (rs ++ [acc])) := by
                  rw [rowsD_snoc]
                  exact (hv.same s10).append (.cons (.tup e10 (DqAll.ints acc)) .nil)
                have dk7'' := d10.put (o := .lst (vs ++ [.ref l])) eC10
                have e7 : upd D10 C (.lst (vs ++ [.ref l])) C = some (.lst (vs ++ [.ref l])) := upd_same
                have hv7 := hv10.putL (o := .lst (vs ++ [.ref l])) eC10 (noLs_rows _)
                have s7 : Same D4 (upd D10 C (.lst (vs ++ [.ref l]))) := fun b o e => by
                  rw [upd_ne (fun z => by subst z; rw [fC4] at e; cases e)]
                  exact s10 _ _ (sD _ _ e)
                have hev : EvenOk n kn (rs ++ [acc]) := by
                  refine ⟨⟨kn1, kn4, by rw [List.length_append]; show rs.length + 1 ≤ n; omega, fun r' hr' => ?_⟩, fun k' hk' => by
                    rw [colS_append, colS_cons, hacc2, negR_getD, hns, sums_getD _ _ _ hk']
                    show _ + (_ + (0 : Int)) = 0
                    omega⟩
                  rcases List.mem_append.mp hr' with hr' | hr'
                  · exact ⟨(hR _ hr').1, bd_mono (by omega) (hR _ hr').2⟩
                  · obtain rfl := List.mem_singleton.mp hr'
                    refine ⟨by rw [hacc2]; unfold negR; rw [List.length_map, lns], ?_⟩
                    rw [hacc2]
                    refine bd_neg fun x hx => ?_
                    rw [hns] at hx
                    obtain ⟨k', _, rfl⟩ := List.mem_map.mp hx
                    have hb1 := colS_bd m0 k' hR
                    have hle : m * (rs.length : Int) ≤ 40000 * (rs.length : Int) := Int.mul_le_mul_of_nonneg_right m1 (by omega)
                    have hrl : (rs.length : Int) ≤ 23 := by omega
                    omega
                generalize upd D10 C (.lst (vs ++ [.ref l])) = D7 at dk7'' s7 e7 hv7
                generalize upd H10 C (.lst (vs ++ [.ref l])) = H7' at dk7'' ⊢
                generalize vs ++ [V.ref l] = ws at e7 hv7
                generalize rs ++ [acc] = rs7 at hv7 hev
                have dk7 := dk7''
                have sD : Same D4 D4 := Same.refl _
                refine ⟨_, rfl, _, rfl, _, rfl, D7, a, C, ws, rfl, dk7, e7, (by rw [hv7.length]; unfold rowsD; rw [List.length_map]; have := hev.1.2.2.1; omega), fun H8 D8 q8 ys dk8 s8 hq8 hperm => ?_⟩
                obtain ⟨rs8, pm, hv8⟩ := dq_perm hperm.symm (hv7.same s8)
                refine ⟨q8, _, rfl, .inl ⟨SqL.of (dk8.sub _ _ hq8), fun l hl2 => ?_⟩⟩
                have dk9 := dk8.new (o := .tup ys) hl2
                have s9 := same_new (o := .tup ys) (dk8.free hl2)
                refine ⟨(by show 2 ≤ sizeLine; decide), fun z hz => ?_⟩
                have s10 := same_new (o := .tup [.int (1 + r), .ref l]) (dk9.free hz)
                refine k _ _ _ kn rs8 (dk9.new hz) ((((((s2.trans s4).trans sD).trans s7).trans s8).trans s9).trans s10) ?_ (hev.perm pm)
                exact .tup upd_same (.cons (by show Dq K _ (V.int (1 + r)) _; rw [rk]; exact .int _) (.cons (.tup (s10 _ _ upd_same) ((hv8.same s9).same s10)) .nil))
          refine ite2 (fun h3 => ?_) (fun h3 => ?_)
          · refine ⟨_, rfl, C, _, rfl, .inl (SqL.of (dk7.sub _ _ eC)), _, _, rfl, rfl, .inl ⟨by decide, by decide⟩, _, rfl, _, _, rfl, rfl, _, rfl, ?_⟩
            refine ite2 (fun h4 => ?_) (fun h4 => ?_)
            · exact step true (fun _ => by have := of_decide_eq_true h4; omega)
            · exact step false (fun z => nomatch z)
          · exact step false (fun z => nomatch z)
theorem ok_any {f : Addr} {fd : FuncData} (F : Fun K "_law_any" "_law_any" s_law_any f fd) (B : Bl mg) (D__law_one : Dk P w K mg base 2 "_law_one" ["deck", "items"] spOne)
    (D__law_load : Dk P w K mg base 3 "_law_load" ["deck", "rows"] (spLoad K)) (D__law_even : Dk P w K mg base 3 "_law_even" ["deck", "rows"] (spEven K)) : FnOk P w K mg base CX0 4 f fd ["deck", "rows"] (spLoad K) := by
  refine F.ok sc_law_any (fun vs H Q E h => ?_) (fun cdv A outer s H vs Q E hr h => ?_)
  · obtain ⟨D, a, n, rfl, _⟩ := h
    rfl
  · obtain ⟨D, a, n, rfl, dk, n1, n2, k⟩ := h
    have nd := sc_law_any.nd
    refine ⟨_, (pss_one (ps_ret (pe_dk D__law_one (hr.mono (by first | decide | omega)) (pa_cons (pv 0) (pa_cons (pe_lst (pa_cons (pe_dk D__law_load (hr.mono (by first | decide | omega)) (pa_cons (pv 0) (pa_cons (pv 1) pa_nil))) (pa_cons (pe_dk D__law_even (hr.mono (by first | decide | omega)) (pa_cons (pv 0) (pa_cons (pv 1) pa_nil))) pa_nil))) pa_nil))))), ?_⟩
    refine ⟨_, rfl, _, rfl, _, rfl, D, a, n, rfl, dk, n1, n2, fun H1 D1 v1 k1 r1 dk1 s1 q1 o1 => ⟨_, rfl, _, rfl, D1, a, n, rfl, dk1, n1, n2, fun H2 D2 v2 k2 r2 dk2 s2 q2 o2 => ⟨(by show 2 ≤ sizeLine; decide), fun p hp => ?_⟩⟩⟩
    have dk3 := dk2.new (o := .lst [v1, v2]) hp
    have s3 := same_new (o := .lst [v1, v2]) (dk2.free hp)
    refine ⟨_, a, p, _, rfl, dk3, upd_same, by simp, (by show 2 ≤ 1000; decide), fun H4 x dk4 hx => ?_⟩
    rcases List.mem_cons.mp hx with rfl | hx
    · exact k _ _ _ k1 r1 dk4 ((s1.trans s2).trans s3) ((q1.same s2).same s3) o1
    · obtain rfl := List.mem_singleton.mp hx
      exact k _ _ _ k2 r2 dk4 ((s1.trans s2).trans s3) (q2.same s3) o2.1
end
end Nk
set_option Elab.async false
set_option linter.all false
set_option maxRecDepth 100000
set_option maxHeartbeats 4000000
namespace Nk
open PySem L2
theorem noM_tupI (r : List Int) : noM (rowD r) = true := noM_tup r
theorem noMs_rows (rs : List (List Int)) : noMs (rowsD rs) = true := noMs_all fun d hd => by
  obtain ⟨r, _, rfl⟩ := List.mem_map.mp hd
  exact noM_tupI r
theorem noM_load (k : Nat) (rs : List (List Int)) : noM (loadD k rs) = true := by
  unfold loadD
  simp [noM, noMs, noMs_rows]
abbrev LoadR (n : Nat) (d : PyData) : Prop := ∃ kinds rs, d = loadD kinds rs ∧ LoadOk n kinds rs
abbrev EvenR (n : Nat) (d : PyData) : Prop := ∃ kinds rs, d = loadD kinds rs ∧ EvenOk n kinds rs
abbrev spLoadN (K : PySem.W.Frag) : Sp := spN K (α := Nat) (fun n => [.int (n : Int)]) (fun n => 1 ≤ n ∧ n ≤ 24) LoadR
abbrev spEvenN (K : PySem.W.Frag) : Sp := spN K (α := Nat) (fun n => [.int (n : Int)]) (fun n => 1 ≤ n ∧ n ≤ 24) EvenR
section
variable {P : Program} {w : World} {K : PySem.W.Frag} {mg : Str → Option Value} {base : Heap}
theorem Dk.imp {k : Nat} {x : Str} {ps : List Str} {sp sp' : Sp} (D : Dk P w K mg base k x ps sp) (h : ∀ vs H Q E, sp' vs H Q E → sp vs H Q E) : Dk P w K mg base k x ps sp' := by
  obtain ⟨f, fd, F, m, kp, b⟩ := D.ex
  exact ⟨f, fd, F.imp h, m, kp, b⟩
theorem loadN {k : Nat} {x : Str} (D : Dk P w K mg base k x ["deck", "rows"] (spLoad K)) : Dk P w K mg base k x ["deck", "rows"] (spLoadN K) := D.imp fun vs H Q E => by
  rintro ⟨a, args, n, rfl, ⟨D0, d0⟩, ha, hn, hp, k⟩
  cases ha with
  | cons h1 h2 =>
    cases h2
    cases h1
    obtain ⟨D, m⟩ := d0.max
    refine ⟨D, a, n, rfl, m.dk, hp.1, hp.2, fun H' D' v kinds rs d' s q o => ?_⟩
    exact k v H' _ (m.chg (d'.less s)) (q.same d'.sub) (noM_load _ _) ⟨kinds, rs, rfl, o⟩
theorem evenN {k : Nat} {x : Str} (D : Dk P w K mg base k x ["deck", "rows"] (spEven K)) : Dk P w K mg base k x ["deck", "rows"] (spEvenN K) := D.imp fun vs H Q E => by
  rintro ⟨a, args, n, rfl, ⟨D0, d0⟩, ha, hn, hp, k⟩
  cases ha with
  | cons h1 h2 =>
    cases h2
    cases h1
    obtain ⟨D, m⟩ := d0.max
    refine ⟨D, a, n, rfl, m.dk, hp.1, hp.2, fun H' D' v kinds rs d' s q o => ?_⟩
    exact k v H' _ (m.chg (d'.less s)) (q.same d'.sub) (noM_load _ _) ⟨kinds, rs, rfl, o⟩
/-- _law_draw(deck, m) -/
abbrev spDrawN (K : PySem.W.Frag) : Sp := spN K (α := Int) (fun m => [.int m]) (fun m => 0 < m ∧ m < 2 ^ 64) (fun m d => ∃ r : Int, d = .int r ∧ 0 ≤ r ∧ r < m)
theorem drawN (D : Dk P w K mg base 1 "_law_draw" ["deck", "many"] spDraw) : Dk P w K mg base 1 "_law_draw" ["deck", "many"] (spDrawN K) := D.imp fun vs H Q E => by
  rintro ⟨a, args, n, rfl, ⟨D0, d0⟩, ha, hn, hp, k⟩
  cases ha with
  | cons h1 h2 =>
    cases h2
    cases h1
    obtain ⟨D, m⟩ := d0.max
    exact ⟨D, a, n, rfl, m.dk, hp.1, hp.2, fun H' r d' r0 r1 => k _ H' _ (m.chg d') (.int r) rfl ⟨r, rfl, r0, r1⟩⟩
end
section
variable {K : PySem.W.Frag} {X : Cx} {n dk : Nat} {G G' : List (Nat × PyData)} {σ : St} {H H' : Hp} {e a b c : Expr} {es : List Expr} {d da db dc : PyData} {ds : List PyData} {pos p : Pos}
/-- tuple(_law_mixed(deck, a new list)) -/
theorem pn_mixedT {x y : Str} {k : Nat} {ps : List Str} {q p2 pos2 : Pos} (D1 : Dk X.prog X.w X.K X.mg X.base k y ps spMixed) (hr : Room k X.A) (h : PF K X n G e ds) (hl : ds.length ≤ 1000) (hn : noMs ds = true) (hgt : Gl X "tuple") (hmt : X.mg "tuple" = none) (hK : X.K = K := by rfl) (hN : X.N[dk]? = some x := by rfl) (hv : Vis X.env.scope x := by first | exact Or.inl rfl | exact Or.inr (Or.inl rfl) | exact Or.inr (Or.inr rfl)) (hd : (x == ("__debug__" : Str)) = false := by decide)
    (hcd : (x == ("__classdict__" : Str)) = false := by decide) (hg : Gl X y := by rfl) (hdb : (y == ("__debug__" : Str)) = false := by decide) (he : starEach [.Name x q, e] X.env = (false, eval (.Name x q) X.env) :: starEach [e] X.env := by rfl) (he2 : starEach [e] X.env = (false, eval e X.env) :: starEach [] X.env := by rfl)
    (hpl : (backTo pos (starEach [e] X.env)).any (·.1) = false := by rfl) (na : starEach [.Call (.Name y p) [.Name x q, e] [] pos] X.env = (false, eval (.Call (.Name y p) [.Name x q, e] [] pos) X.env) :: starEach [] X.env := by rfl) (hpl2 : (backTo pos2 (starEach [] X.env)).any (·.1) = false := by rfl) :
    PN K X n dk G (.Call (.Name "tuple" p2) [.Call (.Name y p) [.Name x q, e] [] pos] [] pos2) (fun d => ∃ es, d = .tuple es ∧ ds.Perm es) := by
  refine ⟨pe_imp (pe_callTy (ktuple K hK) hgt hmt (by decide +kernel) (pa_cons (pe_dk D1 hr (pa_cons (pe_var hN hv hd hcd) (pa_cons h.pe pa_nil he2) he) hg hdb he hpl) pa_nil na) (by decide) (by decide) na hpl2) fun σ H Q ⟨s, k⟩ => ?_⟩
  obtain ⟨a, h1, D0, h2⟩ := s.dck
  refine ⟨.ref a, h1, s.env, fun l vs H1 hl0 s1 hl1 hv1 => ?_⟩
  have d1 := h2.addL hl0 s1 hl1
  obtain ⟨D2, m2⟩ := d1.max
  refine ⟨D2, a, l, vs, rfl, m2.dk, m2.mx _ d1 _ _ upd_same, by rw [hv1.length]; exact hl, fun H' D' q ys d' sD hq hperm => ?_⟩
  refine ⟨q, ys, rfl, .inl ⟨SqL.of (d'.sub _ _ hq), fun t ht => ?_⟩⟩
  obtain ⟨es, pe, qe⟩ := DqAll.perm hperm.symm hv1
  have nes : noMs es = true := noMs_all fun d hd => noMs_mem hn (pe.mem_iff.mpr hd)
  have c := chg_new hl0 s1 hl1 m2 (d'.less sD)
  have sT : Same H' (upd H' t (.tup ys)) := same_new ht
  have tS : TupS H1 H' := fun b xs e => d'.sub _ _ (sD _ _ (m2.ts _ _ e))
  exact k _ _ (.tuple es) a h1 (c.trans (Same.chg sT)) (.tup upd_same ((qe.ts tS nes).same sT)) (by simpa [noM] using nes) ⟨es, rfl, pe⟩
end
end Nk
set_option Elab.async false
set_option linter.all false
set_option maxRecDepth 100000
set_option maxHeartbeats 4000000
namespace Nk
open PySem L2
/-! the program's beginnings -/
def szL (rs : List (List Int)) : Int := mxD 0 (rs.map szR)
def addR (a b : List Int) : List Int := (a.zip b).map fun p => p.1 + p.2
def mulR (r : List Int) (m : Int) : List Int := r.map fun x => m * x
/-- the sum of the first i rows, one after another -/
def totR (kinds : Nat) (rs : List (List Int)) (i : Nat) : List Int := (rs.take i).foldl addR (List.replicate kinds 0)
def begR (kinds : Nat) (rs : List (List Int)) : List (List Int) := (List.range (rs.length + 1)).map (totR kinds rs)
def rowsV (l : Bool) (rs : List (List Int)) : PyData := if l then .list (rowsD rs) else .tuple (rowsD rs)
def ordD (o : List Nat) : PyData := .tuple (o.map fun (i : Nat) => .int (i : Int))
def pick (rs : List (List Int)) (o : List Nat) : List (List Int) := o.map fun i => rs.getD i []
theorem noM_row (r : List Int) : noM (rowD r) = true := noM_tup r
theorem totR_zero (kinds : Nat) (rs : List (List Int)) : totR kinds rs 0 = List.replicate kinds 0 := by unfold totR; simp
theorem totR_succ {kinds : Nat} {rs : List (List Int)} {i : Nat} {r : List Int} (h : rs[i]? = some r) : totR kinds rs (i + 1) = addR (totR kinds rs i) r := by
  unfold totR
  rw [List.take_add_one, h, List.foldl_append]
  rfl
theorem begR_last (kinds : Nat) (rs : List (List Int)) : begR kinds rs = (List.range rs.length).map (totR kinds rs) ++ [totR kinds rs rs.length] := by
  unfold begR
  rw [List.range_succ, List.map_append]
  rfl
theorem begR_ne (kinds : Nat) (rs : List (List Int)) : begR kinds rs ≠ [] := by
  rw [begR_last]
  simp
section
variable {P : Program} {w : World} {K : PySem.W.Frag} {mg : Str → Option Value} {base : Heap}
abbrev spRowSize (K : PySem.W.Frag) : Sp := spP K (α := List Int) (fun r => [rowD r]) (fun r => r.length ≤ 1000) (fun r => .int (szR r))
theorem ok_row_size {f : Addr} {fd : FuncData} (F : Fun K "row_size" "row_size" srow_size f fd) (B : Bl mg) (Bmax : mg "max" = none) : FnOk P w K mg base CX0 1 f fd ["row"] (spRowSize K) := by
  refine ok_P F scrow_size (fun _ => rfl) (by decide) fun cdv A outer s H E hr r hp => ?_
  have nd := scrow_size.nd
  have hp : r.length ≤ 1000 := hp
  refine PR.cast (pr_ret (pd_maxDef (ns := r.map absI) hr.units (PD.cast (pd_lc (own := [("item", 1)]) (xs := r) (enc := .int) (g := gName 1) (Δ := fun x => [(1, .int x)]) rfl nd (wk_tup (pdv 0 rfl)) (blkOk_by (N := Nrow_size) (sc := defScope srow_size) (by decide +kernel)) (fun _ _ _ _ _ => pg_name (i := 1) nd rfl (Or.inl rfl)) (fun x hx => tg1 (by decide)) rfl
    (fun x hx _ _ _ _ _ => pd_callB call_abs (by rfl) B.abs_ (by decide +kernel) (PDs.cons (pdv 1 rfl) PDs.nil) o_abs) (fun x hx => rfl) (by omega)) ?_) pd_int rfl Bmax)) ?_
  · simp [absI]
  · rfl
abbrev LoadA := Nat × List (List Int)
abbrev spSize (K : PySem.W.Frag) : Sp := spP K (α := LoadA) (fun a => [loadD a.1 a.2]) (fun a => a.2.length ≤ 1000 ∧ ∀ r ∈ a.2, r.length ≤ 1000) (fun a => .int (szL a.2))
theorem ok_size {f : Addr} {fd : FuncData} (F : Fun K "size" "size" ssize f fd) (B : Bl mg) (Bmax : mg "max" = none) (D_row_size : Dk P w K mg base 1 "row_size" ["row"] (spRowSize K)) : FnOk P w K mg base CX0 2 f fd ["load"] (spSize K) := by
  refine ok_P F scsize (fun _ => rfl) (by decide) fun cdv A outer s H E hr a hp => ?_
  have nd := scsize.nd
  obtain ⟨kinds, rs⟩ := a
  obtain ⟨hp, hq⟩ : rs.length ≤ 1000 ∧ ∀ r ∈ rs, r.length ≤ 1000 := hp
  refine PR.cast (pr_ret (pd_maxDef (ns := rs.map szR) hr.units (PD.cast (pd_lc (own := [("row", 1)]) (xs := rs) (enc := rowD) (g := gName 1) (Δ := fun x => [(1, rowD x)]) (out := fun r => .int (szR r)) rfl nd (wk_tup (pd_ix (kixT K) (pdv 0 rfl) pd_int (o_ixT rfl))) (blkOk_by (N := Nsize) (sc := defScope ssize) (by decide +kernel)) (fun _ _ _ _ _ => pg_name (i := 1) nd rfl (Or.inl rfl)) (fun x hx => tg1 (by decide)) rfl
    (fun x hx _ _ _ _ _ => pd_call D_row_size hr x (hq x hx) (PDs.cons (pdv 1 rfl) PDs.nil)) (fun x hx => rfl) (by omega)) ?_) pd_int rfl Bmax)) ?_
  · rw [List.map_map]; rfl
  · rfl
abbrev spAdded (K : PySem.W.Frag) : Sp := spP K (α := List Int × List Int) (fun a => [rowD a.1, rowD a.2]) (fun a => a.1.length ≤ 1000) (fun a => rowD (addR a.1 a.2))
theorem ok_added {f : Addr} {fd : FuncData} (F : Fun K "added" "added" sadded f fd) (B : Bl mg) (Bzip : mg "zip" = none) : FnOk P w K mg base CX0 1 f fd ["one", "other"] (spAdded K) := by
  refine ok_P F scadded (fun _ => rfl) (by decide) fun cdv A outer s H E hr a hp => ?_
  have nd := scadded.nd
  obtain ⟨a, b⟩ := a
  have hp : a.length ≤ 1000 := hp
  refine PR.cast (pr_ret (pd_callTy (ktuple K) (by rfl) B.tuple_ (by decide +kernel) (PDs.cons (pd_lc (own := [("item", 2), ("more", 3)]) (xs := a.zip b) (enc := fun p => .tuple [.int p.1, .int p.2]) (g := gTup K 2 (gCons (gName 2) (gCons (gName 3) gNil))) (Δ := fun p => [(2, .int p.1), (3, .int p.2)]) (out := fun p => .int (p.1 + p.2)) rfl nd
    ((wk_zipT (pdv 0 rfl) (pdv 1 rfl) (by rfl) Bzip).cast (zipD_map PyData.int PyData.int a b)) (blkOk_by (N := Nadded) (sc := defScope sadded) (by decide +kernel)) (fun _ _ _ _ _ => pg_tup rfl (pgs_cons (pg_name (i := 2) nd rfl (Or.inl rfl)) (pgs_cons (pg_name (i := 3) nd rfl (Or.inl rfl)) pgs_nil))) (fun x hx => tg2 (by decide) (by decide) (by decide)) rfl
    (fun x hx _ _ _ _ _ => pd_op op_add (pdv 2 rfl) (pdv 3 rfl) o_add) (fun x hx => rfl) (by rw [List.length_zip]; omega)) PDs.nil) (o_tuple (.inl rfl)))) ?_
  unfold rowD addR
  rw [List.map_map]
  rfl
abbrev spMultiplied (K : PySem.W.Frag) : Sp := spP K (α := List Int × Int) (fun a => [rowD a.1, .int a.2]) (fun a => a.1.length ≤ 1000 ∧ -(10 ^ 9) ≤ a.2 ∧ a.2 ≤ 10 ^ 9) (fun a => rowD (mulR a.1 a.2))
theorem ok_multiplied {f : Addr} {fd : FuncData} (F : Fun K "multiplied" "multiplied" smultiplied f fd) (B : Bl mg) : FnOk P w K mg base CX0 1 f fd ["row", "number"] (spMultiplied K) := by
  refine ok_P F scmultiplied (fun _ => rfl) (by decide) fun cdv A outer s H E hr a hp => ?_
  have nd := scmultiplied.nd
  obtain ⟨r, m⟩ := a
  obtain ⟨hp, m0, m1⟩ : r.length ≤ 1000 ∧ -(10 ^ 9) ≤ m ∧ m ≤ 10 ^ 9 := hp
  refine PR.cast (pr_ret (pd_callTy (ktuple K) (by rfl) B.tuple_ (by decide +kernel) (PDs.cons (pd_lc (own := [("item", 2)]) (xs := r) (enc := .int) (g := gName 2) (Δ := fun x => [(2, .int x)]) (out := fun x => .int (m * x)) rfl nd (wk_tup (pdv 0 rfl)) (blkOk_by (N := Nmultiplied) (sc := defScope smultiplied) (by decide +kernel)) (fun _ _ _ _ _ => pg_name (i := 2) nd rfl (Or.inl rfl)) (fun x hx => tg1 (by decide)) rfl
    (fun x hx _ _ _ _ _ => pd_op op_mul (pdv 1 rfl) (pdv 2 rfl) (o_i (cmul_l (by omega) (by omega)))) (fun x hx => rfl) (by omega)) PDs.nil) (o_tuple (.inl rfl)))) ?_
  unfold rowD mulR
  rw [List.map_map]
  rfl
abbrev SumsA := Nat × List (List Int) × Bool
abbrev spSums (K : PySem.W.Frag) : Sp := spP K (α := SumsA) (fun a => [.int a.1, rowsV a.2.2 a.2.1]) (fun a => a.1 ≤ 4 ∧ a.2.1.length ≤ 1000 ∧ ∀ r ∈ a.2.1, r.length = a.1) (fun a => .tuple (rowsD (begR a.1 a.2.1)))
theorem rep_row (kinds : Nat) : PyData.tuple (List.replicate (kinds : Int).toNat [PyData.int 0]).flatten = rowD (List.replicate kinds 0) := by
  unfold rowD
  rw [Int.toNat_natCast]
  congr 1
  induction kinds with
  | zero => rfl
  | succ k ih => rw [List.replicate_succ, List.flatten_cons, ih]; rfl
theorem addR_length (a b : List Int) : (addR a b).length = min a.length b.length := by unfold addR; rw [List.length_map, List.length_zip]
theorem totR_length {kinds : Nat} {rs : List (List Int)} (h : ∀ r ∈ rs, r.length = kinds) : ∀ i, (totR kinds rs i).length = kinds := by
  intro i
  induction i with
  | zero => rw [totR_zero, List.length_replicate]
  | succ i ih =>
    cases e : rs[i]? with
    | none =>
      have : rs.take (i + 1) = rs.take i := by
        have := List.getElem?_eq_none_iff.mp e
        rw [List.take_of_length_le (by omega), List.take_of_length_le (by omega)]
      unfold totR at ih ⊢
      rw [this]
      exact ih
    | some r => rw [totR_succ e, addR_length, ih, h r (List.mem_of_getElem? e), Nat.min_self]
def gS (a : SumsA) (i : Nat) : G3 := ⟨[(0, .int a.1), (1, rowsV a.2.2 a.2.1)], [(2, rowD (totR a.1 a.2.1 i))], [(3, rowsD ((List.range (i + 1)).map (totR a.1 a.2.1)))]⟩
theorem ok_sums {f : Addr} {fd : FuncData} (F : Fun K "sums" "sums" ssums f fd) (B : Bl mg) (D_added : Dk P w K mg base 1 "added" ["one", "other"] (spAdded K)) : FnOk P w K mg base CX0 2 f fd ["kinds", "rows"] (spSums K) := by
  refine ok_P F scsums (fun _ => rfl) (by decide) fun cdv A outer s H E hr a hp => ?_
  have nd := scsums.nd
  obtain ⟨kinds, rs, l⟩ := a
  obtain ⟨h4, hn, hR⟩ : kinds ≤ 4 ∧ rs.length ≤ 1000 ∧ ∀ r ∈ rs, r.length = kinds := hp
  refine pr_cons (pst_set (i := 2) nd rfl (Or.inl rfl) (by decide) (PD.cast (pd_op (op_repA K) (pd_tup (PDs.cons pd_int PDs.nil)) (pdv 0 rfl) (o_repT (by omega) (by omega) (by show 1 ≤ 1000; decide))) (rep_row kinds)) (noM_row _)) ?_
  refine pr_cons (pst_new (i := 3) nd rfl (Or.inl rfl) (by decide) (pf_lst (PDs.cons (pdv 2 rfl) PDs.nil)) (by simp [noMs, noM_row])) ?_
  refine PR.castG (G := gS (kinds, rs, l) 0) ?_ (by unfold gS; rw [totR_zero]; simp [totR_zero]; rfl)
  refine pr_cons (G' := gS (kinds, rs, l) rs.length) (pst_for (xs := rs) (enc := rowD) (Δ := fun r => [(4, rowD r)]) (Gk := gS (kinds, rs, l)) (g := gName 4) (vs := [4]) PassesOwn.never rfl ?_ (pg_name (i := 4) nd rfl (Or.inl rfl)) (fun x hx => tg1 (by decide)) (fun i => rfl) (fun x hx q hq => by
    obtain rfl := List.mem_singleton.mp hq
    exact noM_row x) (fun i r hi => ?_)) ?_
  · cases l with
    | true => exact pws_par (i := 1) rfl (Or.inl rfl) rfl
    | false => exact pws_tup (pdv 1 rfl) (noMs_rows _)
  · have hrl := hR r (List.mem_of_getElem? hi)
    have htl := totR_length hR i
    have hil : i < rs.length := (List.getElem?_eq_some_iff.mp hi).1
    refine pb_cons (pst_set (i := 2) nd rfl (Or.inl rfl) (by decide) (pd_call D_added hr (totR kinds rs i, r) (by show (totR kinds rs i).length ≤ 1000; omega) (PDs.cons (pdv 2 rfl) (PDs.cons (pdv 4 rfl) PDs.nil))) (noM_row _)) ?_
    refine PBk.le (G' := ⟨[(0, .int kinds), (1, rowsV l rs)], [(2, rowD (totR kinds rs (i + 1))), (4, rowD r)], [(3, rowsD ((List.range (i + 1 + 1)).map (totR kinds rs)))]⟩) (PBk.cast (pb_one (pst_app (i := 3) (ds := rowsD ((List.range (i + 1)).map (totR kinds rs))) rfl (Or.inl rfl) rfl (pdv 2 rfl) (noM_row _) (by unfold rowsD; rw [List.length_map, List.length_map, List.length_range]; omega))) ?_) (G3.Le.of (fun q hq => hq) (fun q hq => ?_))
    · rw [totR_succ hi]
      have : rowsD ((List.range (i + 1 + 1)).map (totR kinds rs)) = rowsD ((List.range (i + 1)).map (totR kinds rs)) ++ [rowD (addR (totR kinds rs i) r)] := by
        rw [List.range_succ, List.map_append, ← totR_succ hi, ← rowsD_snoc]
        rfl
      rw [this]
      rfl
    · obtain rfl := List.mem_singleton.mp hq
      exact List.mem_cons_self
  · exact PR.cast (pr_ret (pd_callTy (ktuple K) (by rfl) B.tuple_ (by decide +kernel) (PDs.cons (pdv 3 rfl) PDs.nil) (o_tuple (.inl rfl)))) rfl
end
end Nk
set_option Elab.async false
set_option linter.all false
set_option maxRecDepth 100000
set_option maxHeartbeats 4000000
namespace Nk
open PySem L2
theorem atI_end {α : Type} {xs ys : List α} {y : α} (h : xs = ys ++ [y]) : atI xs (-1) = some y := by rw [h]; exact atI_last ys y
def evenR (kinds : Nat) (rs : List (List Int)) : Bool := decide (totR kinds rs rs.length = List.replicate kinds 0)
theorem begR_end (kinds : Nat) (rs : List (List Int)) : rowsD (begR kinds rs) = rowsD ((List.range rs.length).map (totR kinds rs)) ++ [rowD (totR kinds rs rs.length)] := by
  rw [begR_last, rowsD_snoc]
def htR (kinds : Nat) (rs : List (List Int)) : Int := mxD 0 ((begR kinds rs).map szR)
theorem pick_length {rs : List (List Int)} {o : List Nat} : (pick rs o).length = o.length := by unfold pick; rw [List.length_map]
theorem pick_rows {kinds : Nat} {rs : List (List Int)} {o : List Nat} (h : ∀ r ∈ rs, r.length = kinds) (ho : ∀ i ∈ o, i < rs.length) : ∀ r ∈ pick rs o, r.length = kinds := by
  intro r hr
  obtain ⟨i, hi, rfl⟩ := List.mem_map.mp hr
  rw [List.getD_eq_getElem?_getD, List.getElem?_eq_getElem (ho i hi)]
  exact h _ (List.getElem_mem (ho i hi))
def signed (rs : List (List Int)) (ss : List Int) : List (List Int) := (rs.zip ss).map fun p => mulR p.1 p.2
theorem signed_length {rs : List (List Int)} {ss : List Int} (h : ss.length = rs.length) : (signed rs ss).length = rs.length := by unfold signed; rw [List.length_map, List.length_zip, h, Nat.min_self]
theorem mulR_length (r : List Int) (m : Int) : (mulR r m).length = r.length := by unfold mulR; rw [List.length_map]
theorem signed_rows {kinds : Nat} {rs : List (List Int)} {ss : List Int} (h : ∀ r ∈ rs, r.length = kinds) : ∀ r ∈ signed rs ss, r.length = kinds := by
  intro r hr
  obtain ⟨p, hp, rfl⟩ := List.mem_map.mp hr
  rw [mulR_length]
  exact h _ (List.of_mem_zip hp).1
def sgnD (ss : List Int) : PyData := .tuple (ss.map .int)
section
variable {P : Program} {w : World} {K : PySem.W.Frag} {mg : Str → Option Value} {base : Heap}
abbrev Rows (kinds : Nat) (rs : List (List Int)) : Prop := kinds ≤ 4 ∧ rs.length ≤ 100 ∧ ∀ r ∈ rs, r.length = kinds
abbrev spIsEven (K : PySem.W.Frag) : Sp := spP K (α := LoadA) (fun a => [loadD a.1 a.2]) (fun a => Rows a.1 a.2) (fun a => .bool (evenR a.1 a.2))
theorem ok_is_even {f : Addr} {fd : FuncData} (F : Fun K "is_even" "is_even" sis_even f fd) (B : Bl mg) (D_sums : Dk P w K mg base 2 "sums" ["kinds", "rows"] (spSums K)) : FnOk P w K mg base CX0 3 f fd ["load"] (spIsEven K) := by
  refine ok_P F scis_even (fun _ => rfl) (by decide) fun cdv A outer s H E hr a hp => ?_
  have nd := scis_even.nd
  obtain ⟨kinds, rs⟩ := a
  obtain ⟨h4, hn, hR⟩ : Rows kinds rs := hp
  refine pr_cons (pst_two (i := 1) (j := 2) nd rfl rfl (Or.inl rfl) (Or.inl rfl) (by decide) (by decide) (by decide) rfl (pdv 0 rfl) rfl (by simp [noM, noMs_rows])) ?_
  refine PR.cast (pr_ret (pd_cmp (keqD K hr.units) (pd_ix (kixT K) (pd_call D_sums hr (kinds, rs, false) ⟨h4, by show rs.length ≤ 1000; omega, hR⟩ (PDs.cons (pdv 1 rfl) (PDs.cons (pdv 2 rfl) PDs.nil))) (pd_neg pd_int) (o_ixT (atI_end (begR_end kinds rs)))) (PD.cast (pd_op (op_repA K) (pd_tup (PDs.cons pd_int PDs.nil)) (pdv 1 rfl) (o_repT (by omega) (by omega) (by show 1 ≤ 1000; decide))) (rep_row kinds)) (o_eqD (shaped_ints _) (shaped_ints _)) (nomark _))) ?_
  unfold rowD evenR
  rw [eqv_ints]
abbrev OrdA := Nat × List (List Int) × List Nat
abbrev spBegins (K : PySem.W.Frag) : Sp := spP K (α := OrdA) (fun a => [loadD a.1 a.2.1, ordD a.2.2]) (fun a => Rows a.1 a.2.1 ∧ a.2.2.length ≤ 100 ∧ ∀ i ∈ a.2.2, i < a.2.1.length) (fun a => .tuple (rowsD (begR a.1 (pick a.2.1 a.2.2))))
theorem ok_begins {f : Addr} {fd : FuncData} (F : Fun K "begins" "begins" sbegins f fd) (B : Bl mg) (D_sums : Dk P w K mg base 2 "sums" ["kinds", "rows"] (spSums K)) : FnOk P w K mg base CX0 3 f fd ["load", "order"] (spBegins K) := by
  refine ok_P F scbegins (fun _ => rfl) (by decide) fun cdv A outer s H E hr a hp => ?_
  have nd := scbegins.nd
  obtain ⟨kinds, rs, o⟩ := a
  obtain ⟨⟨h4, hn, hR⟩, ho, hi⟩ : Rows kinds rs ∧ o.length ≤ 100 ∧ ∀ i ∈ o, i < rs.length := hp
  refine pr_cons (pst_two (i := 2) (j := 3) nd rfl rfl (Or.inl rfl) (Or.inr rfl) (by decide) (by decide) (by decide) rfl (pdv 0 rfl) rfl (by simp [noM, noMs_rows])) ?_
  refine PR.cast (pr_ret (pd_call D_sums hr (kinds, pick rs o, true) ⟨h4, by show (pick rs o).length ≤ 1000; rw [pick_length]; omega, pick_rows hR hi⟩ (PDs.cons (pdv 2 rfl) (PDs.cons (PD.cast (pd_lc (own := [("index", 4)]) (xs := o) (enc := fun (i : Nat) => .int (i : Int)) (g := gName 4) (Δ := fun (i : Nat) => [(4, .int (i : Int))]) (out := fun i => rowD (rs.getD i [])) rfl nd (wk_tup (pdv 1 rfl)) (blkOk_by (N := Nbegins) (sc := defScope sbegins) (by decide +kernel)) (fun _ _ _ _ _ => pg_name (i := 4) nd rfl (Or.inl rfl)) (fun x hx => tg1 (by decide)) rfl
    (fun x hx _ _ _ _ _ => pd_ix (kixT K) (pdv 3 rfl) (pdv 4 rfl) (o_ixT (by
      rw [List.getD_eq_getElem?_getD, List.getElem?_eq_getElem (hi x hx)]
      exact atI_map rowD (atI_get (hi x hx))))) (fun x hx => noL_row _) (by omega)) (db := rowsV true (pick rs o)) (by
      show PyData.list _ = PyData.list _
      unfold pick rowsD
      rw [List.map_map]
      rfl)) PDs.nil)))) rfl
abbrev spHeight (K : PySem.W.Frag) : Sp := spP K (α := OrdA) (fun a => [loadD a.1 a.2.1, ordD a.2.2]) (fun a => Rows a.1 a.2.1 ∧ a.2.2.length ≤ 100 ∧ ∀ i ∈ a.2.2, i < a.2.1.length) (fun a => .int (htR a.1 (pick a.2.1 a.2.2)))
theorem begR_length (kinds : Nat) (rs : List (List Int)) : (begR kinds rs).length = rs.length + 1 := by unfold begR; rw [List.length_map, List.length_range]
theorem begR_rows {kinds : Nat} {rs : List (List Int)} (h : ∀ r ∈ rs, r.length = kinds) : ∀ r ∈ begR kinds rs, r.length = kinds := by
  intro r hr
  obtain ⟨i, _, rfl⟩ := List.mem_map.mp hr
  exact totR_length h i
theorem ok_height {f : Addr} {fd : FuncData} (F : Fun K "height" "height" sheight f fd) (B : Bl mg) (Bmax : mg "max" = none) (D_row_size : Dk P w K mg base 1 "row_size" ["row"] (spRowSize K)) (D_begins : Dk P w K mg base 3 "begins" ["load", "order"] (spBegins K)) : FnOk P w K mg base CX0 4 f fd ["load", "order"] (spHeight K) := by
  refine ok_P F scheight (fun _ => rfl) (by decide) fun cdv A outer s H E hr a hp => ?_
  have nd := scheight.nd
  obtain ⟨kinds, rs, o⟩ := a
  obtain ⟨⟨h4, hn, hR⟩, ho, hi⟩ : Rows kinds rs ∧ o.length ≤ 100 ∧ ∀ i ∈ o, i < rs.length := hp
  have hb := begR_rows (pick_rows hR hi)
  have hl := begR_length kinds (pick rs o)
  rw [pick_length] at hl
  refine PR.cast (pr_ret (pd_callB (kmax K) (by rfl) Bmax (by decide +kernel) (PDs.cons (PD.cast (pd_lc (own := [("total", 2)]) (xs := begR kinds (pick rs o)) (enc := rowD) (g := gName 2) (Δ := fun x => [(2, rowD x)]) (out := fun r => .int (szR r)) rfl nd (wk_tup (pd_call D_begins hr (kinds, rs, o) ⟨⟨h4, hn, hR⟩, ho, hi⟩ (PDs.cons (pdv 0 rfl) (PDs.cons (pdv 1 rfl) PDs.nil)))) (blkOk_by (N := Nheight) (sc := defScope sheight) (by decide +kernel)) (fun _ _ _ _ _ => pg_name (i := 2) nd rfl (Or.inl rfl)) (fun x hx => tg1 (by decide)) rfl
    (fun x hx _ _ _ _ _ => pd_call D_row_size (hr.mono (by decide)) x (by show x.length ≤ 1000; have := hb x hx; omega) (PDs.cons (pdv 2 rfl) PDs.nil)) (fun x hx => rfl) (by omega)) (db := .list (((begR kinds (pick rs o)).map szR).map .int)) (by rw [List.map_map]; rfl)) PDs.nil) (o_maxN (by
      intro z
      exact begR_ne kinds (pick rs o) (List.map_eq_nil_iff.mp z))))) rfl
abbrev SgnA := Nat × List (List Int) × List Int
abbrev SgnP (a : SgnA) : Prop := Rows a.1 a.2.1 ∧ a.2.2.length = a.2.1.length ∧ ∀ x ∈ a.2.2, x = 1 ∨ x = -1
abbrev spSignBegins (K : PySem.W.Frag) : Sp := spP K (α := SgnA) (fun a => [loadD a.1 a.2.1, sgnD a.2.2]) SgnP (fun a => .tuple (rowsD (begR a.1 (signed a.2.1 a.2.2))))
theorem ok_sign_begins {f : Addr} {fd : FuncData} (F : Fun K "sign_begins" "sign_begins" ssign_begins f fd) (B : Bl mg) (Bzip : mg "zip" = none) (D_sums : Dk P w K mg base 2 "sums" ["kinds", "rows"] (spSums K)) (D_multiplied : Dk P w K mg base 1 "multiplied" ["row", "number"] (spMultiplied K)) : FnOk P w K mg base CX0 3 f fd ["load", "signs"] (spSignBegins K) := by
  refine ok_P F scsign_begins (fun _ => rfl) (by decide) fun cdv A outer s H E hr a hp => ?_
  have nd := scsign_begins.nd
  obtain ⟨kinds, rs, o⟩ := a
  obtain ⟨⟨h4, hn, hR⟩, ho, hi⟩ : Rows kinds rs ∧ o.length = rs.length ∧ ∀ x ∈ o, x = 1 ∨ x = -1 := hp
  refine pr_cons (pst_two (i := 2) (j := 3) nd rfl rfl (Or.inl rfl) (Or.inl rfl) (by decide) (by decide) (by decide) rfl (pdv 0 rfl) rfl (by simp [noM, noMs_rows])) ?_
  refine PR.cast (pr_ret (pd_call D_sums hr (kinds, signed rs o, true) ⟨h4, by show (signed rs o).length ≤ 1000; rw [signed_length ho]; omega, signed_rows hR⟩ (PDs.cons (pdv 2 rfl) (PDs.cons (PD.cast (pd_lc (own := [("row", 4), ("sign", 5)]) (xs := rs.zip o) (enc := fun p => .tuple [rowD p.1, .int p.2]) (g := gTup K 2 (gCons (gName 4) (gCons (gName 5) gNil))) (Δ := fun p => [(4, rowD p.1), (5, .int p.2)]) (out := fun p => rowD (mulR p.1 p.2)) rfl nd ((wk_zipT (pdv 3 rfl) (pdv 1 rfl) (by rfl) Bzip).cast (zipD_map rowD PyData.int rs o)) (blkOk_by (N := Nsign_begins) (sc := defScope ssign_begins) (by decide +kernel)) (fun _ _ _ _ _ => pg_tup rfl (pgs_cons (pg_name (i := 4) nd rfl (Or.inl rfl)) (pgs_cons (pg_name (i := 5) nd rfl (Or.inl rfl)) pgs_nil))) (fun x hx => tg2 (by decide) (by decide) (by decide)) rfl
    (fun x hx _ _ _ _ _ => pd_call D_multiplied (hr.mono (by decide)) x ⟨by have := hR _ (List.of_mem_zip hx).1; omega, by rcases hi _ (List.of_mem_zip hx).2 with z | z <;> omega⟩ (PDs.cons (pdv 4 rfl) (PDs.cons (pdv 5 rfl) PDs.nil))) (fun x hx => noL_row _) (by rw [List.length_zip]; omega)) (db := rowsV true (signed rs o)) (by
      show PyData.list _ = PyData.list _
      unfold signed rowsD
      rw [List.map_map]
      rfl)) PDs.nil)))) rfl
abbrev spSignHeight (K : PySem.W.Frag) : Sp := spP K (α := SgnA) (fun a => [loadD a.1 a.2.1, sgnD a.2.2]) SgnP (fun a => .int (htR a.1 (signed a.2.1 a.2.2)))
theorem ok_sign_height {f : Addr} {fd : FuncData} (F : Fun K "sign_height" "sign_height" ssign_height f fd) (B : Bl mg) (Bmax : mg "max" = none) (D_row_size : Dk P w K mg base 1 "row_size" ["row"] (spRowSize K)) (D_sign_begins : Dk P w K mg base 3 "sign_begins" ["load", "signs"] (spSignBegins K)) : FnOk P w K mg base CX0 4 f fd ["load", "signs"] (spSignHeight K) := by
  refine ok_P F scsign_height (fun _ => rfl) (by decide) fun cdv A outer s H E hr a hp => ?_
  have nd := scsign_height.nd
  obtain ⟨kinds, rs, o⟩ := a
  obtain ⟨⟨h4, hn, hR⟩, ho, hi⟩ : Rows kinds rs ∧ o.length = rs.length ∧ ∀ x ∈ o, x = 1 ∨ x = -1 := hp
  have hb := begR_rows (signed_rows (ss := o) hR)
  have hl := begR_length kinds (signed rs o)
  rw [signed_length ho] at hl
  refine PR.cast (pr_ret (pd_callB (kmax K) (by rfl) Bmax (by decide +kernel) (PDs.cons (PD.cast (pd_lc (own := [("total", 2)]) (xs := begR kinds (signed rs o)) (enc := rowD) (g := gName 2) (Δ := fun x => [(2, rowD x)]) (out := fun r => .int (szR r)) rfl nd (wk_tup (pd_call D_sign_begins hr (kinds, rs, o) ⟨⟨h4, hn, hR⟩, ho, hi⟩ (PDs.cons (pdv 0 rfl) (PDs.cons (pdv 1 rfl) PDs.nil)))) (blkOk_by (N := Nsign_height) (sc := defScope ssign_height) (by decide +kernel)) (fun _ _ _ _ _ => pg_name (i := 2) nd rfl (Or.inl rfl)) (fun x hx => tg1 (by decide)) rfl
    (fun x hx _ _ _ _ _ => pd_call D_row_size (hr.mono (by decide)) x (by show x.length ≤ 1000; have := hb x hx; omega) (PDs.cons (pdv 2 rfl) PDs.nil)) (fun x hx => rfl) (by omega)) (db := .list (((begR kinds (signed rs o)).map szR).map .int)) (by rw [List.map_map]; rfl)) PDs.nil) (o_maxN (by
      intro z
      exact begR_ne kinds (signed rs o) (List.map_eq_nil_iff.mp z))))) rfl
end
end Nk
set_option Elab.async false
set_option linter.all false
set_option maxRecDepth 100000
set_option maxHeartbeats 4000000
namespace Nk
open PySem L2
/-! the law's own sums -/
theorem szL0 (l : List Int) (h : ∀ x ∈ l, 0 ≤ x) : mxD 0 (0 :: l) = mxD 0 l := mxL_zero h
theorem szR0 (r : List Int) : mxD 0 (0 :: r.map absI) = szR r := szL0 _ fun x hx => by
  obtain ⟨y, _, rfl⟩ := List.mem_map.mp hx
  exact absI_nonneg y
theorem szS0 (rs : List (List Int)) : mxD 0 (0 :: rs.map szR) = mxD 0 (rs.map szR) := szL0 _ fun x hx => by
  obtain ⟨y, _, rfl⟩ := List.mem_map.mp hx
  exact szR_nonneg y
theorem addR_getD {a b : List Int} {k : Nat} (h : a.length = b.length) : (addR a b).getD k 0 = a.getD k 0 + b.getD k 0 := by
  unfold addR
  rw [List.getD_eq_getElem?_getD, List.getD_eq_getElem?_getD, List.getD_eq_getElem?_getD, List.getElem?_map]
  by_cases hk : k < a.length
  · have hk2 : k < b.length := by omega
    have hz : (a.zip b)[k]? = some (a[k], b[k]) := (List.getElem?_zip_eq_some (z := (a[k], b[k]))).mpr ⟨List.getElem?_eq_getElem hk, List.getElem?_eq_getElem hk2⟩
    rw [hz, List.getElem?_eq_getElem hk, List.getElem?_eq_getElem hk2]
    rfl
  · rw [List.getElem?_eq_none (l := a) (by omega), List.getElem?_eq_none (l := b) (by omega), List.getElem?_eq_none (by rw [List.length_zip]; omega)]
    rfl
theorem ext_getD {a b : List Int} (h : a.length = b.length) (g : ∀ k, k < a.length → a.getD k 0 = b.getD k 0) : a = b := by
  apply List.ext_getElem h
  intro i h1 h2
  have := g i h1
  rw [List.getD_eq_getElem?_getD, List.getD_eq_getElem?_getD, List.getElem?_eq_getElem h1, List.getElem?_eq_getElem h2] at this
  exact this
theorem sums_len (kinds : Nat) (rs : List (List Int)) : (sums kinds rs).length = kinds := by unfold sums; rw [List.length_map, List.length_range]
theorem sums_at {kinds k : Nat} {rs : List (List Int)} (h : k < kinds) : (sums kinds rs).getD k 0 = colS k rs := by
  unfold sums
  rw [List.getD_eq_getElem?_getD, List.getElem?_map, List.getElem?_range h]
  rfl
theorem tot_sums {kinds : Nat} {rs : List (List Int)} (h : ∀ r ∈ rs, r.length = kinds) : ∀ i, i ≤ rs.length → totR kinds rs i = sums kinds (rs.take i) := by
  intro i hi
  refine ext_getD (by rw [totR_length h, sums_len]) fun k hk => ?_
  rw [totR_length h] at hk
  rw [sums_at hk]
  clear hi
  induction i with
  | zero =>
    rw [totR_zero, List.take_zero, List.getD_eq_getElem?_getD, List.getElem?_replicate]
    simp [hk, colS]
  | succ i ih =>
    cases e : rs[i]? with
    | none =>
      have e1 := List.getElem?_eq_none_iff.mp e
      have e2 : rs.take (i + 1) = rs.take i := by rw [List.take_of_length_le (by omega), List.take_of_length_le (by omega)]
      have e3 : totR kinds rs (i + 1) = totR kinds rs i := by unfold totR; rw [e2]
      rw [e3, e2]
      exact ih
    | some r =>
      rw [totR_succ e, addR_getD (by rw [totR_length h, h r (List.mem_of_getElem? e)]), ih, List.take_add_one, e, colS_append]
      show _ = _ + colS k [r]
      rw [colS_cons]
      simp [colS]
theorem tot_all {kinds : Nat} {rs : List (List Int)} (h : ∀ r ∈ rs, r.length = kinds) : totR kinds rs rs.length = sums kinds rs := by
  rw [tot_sums h _ (Nat.le_refl _), List.take_length]
theorem szR_zero {r : List Int} : szR r = 0 ↔ ∀ x ∈ r, x = 0 := by
  unfold szR
  constructor
  · intro h x hx
    have hm : absI x ∈ r.map absI := List.mem_map.mpr ⟨x, hx, rfl⟩
    cases hr : r.map absI with
    | nil => rw [hr] at hm; cases hm
    | cons y ys =>
      rw [hr] at hm h
      have := mxL_ge y ys _ hm
      have h' : mxL y ys = 0 := h
      have := absI_nonneg x
      have h0 : absI x = 0 := by omega
      unfold absI at h0
      split at h0 <;> omega
  · intro h
    cases r with
    | nil => rfl
    | cons y ys =>
      have hm := mxL_mem (absI y) (ys.map absI)
      have : ∀ z ∈ absI y :: ys.map absI, z = 0 := fun z hz => by
        have hz : z ∈ (y :: ys).map absI := hz
        obtain ⟨u, hu, rfl⟩ := List.mem_map.mp hz
        rw [h u hu]
        rfl
      exact this _ hm
theorem even_eq {kinds : Nat} {rs : List (List Int)} (h : ∀ r ∈ rs, r.length = kinds) : decide (szR (sums kinds rs) = 0) = evenR kinds rs := by
  unfold evenR
  rw [tot_all h]
  have key : szR (sums kinds rs) = 0 ↔ sums kinds rs = List.replicate kinds 0 := by
    rw [szR_zero]
    constructor
    · intro z
      exact List.eq_replicate_iff.mpr ⟨sums_len kinds rs, z⟩
    · intro z x hx
      rw [z] at hx
      exact List.eq_of_mem_replicate hx
  by_cases z : szR (sums kinds rs) = 0
  · rw [decide_eq_true z, decide_eq_true (key.mp z)]
  · rw [decide_eq_false z, decide_eq_false fun q => z (key.mpr q)]
section
variable {P : Program} {w : World} {K : PySem.W.Frag} {mg : Str → Option Value} {base : Heap}
theorem ok_law_size {f : Addr} {fd : FuncData} (F : Fun K "_law_size" "_law_size" s_law_size f fd) (B : Bl mg) (Bmax : mg "max" = none) : FnOk P w K mg base CX0 1 f fd ["row"] (spRowSize K) := by
  refine ok_P F sc_law_size (fun _ => rfl) (by decide) fun cdv A outer s H E hr r hp => ?_
  have nd := sc_law_size.nd
  have hp : r.length ≤ 1000 := hp
  refine PR.cast (pr_ret (pd_callB (kmax K) (by rfl) Bmax (by decide +kernel) (PDs.cons (PD.cast (pd_op op_cat (pd_lst (PDs.cons pd_int PDs.nil)) (pd_lc (own := [("item", 1)]) (xs := r) (enc := .int) (g := gName 1) (Δ := fun x => [(1, .int x)]) (out := fun x => .int (absI x)) rfl nd (wk_tup (pdv 0 rfl)) (blkOk_by (N := N_law_size) (sc := defScope s_law_size) (by decide +kernel)) (fun _ _ _ _ _ => pg_name (i := 1) nd rfl (Or.inl rfl)) (fun x hx => tg1 (by decide)) rfl
    (fun x hx _ _ _ _ _ => pd_callB call_abs (by rfl) B.abs_ (by decide +kernel) (PDs.cons (pdv 1 rfl) PDs.nil) o_abs) (fun x hx => rfl) (by omega)) (o_catL (by rw [List.length_map]; show 1 + r.length ≤ sizeLine; exact Nat.le_trans (show 1 + r.length ≤ 2000 by omega) (by decide)))) (db := .list ((0 :: r.map absI).map .int)) (by rw [List.map_cons, List.map_map]; rfl)) PDs.nil) (o_maxN (by simp)))) ?_
  rw [szR0]
theorem ok_law_load_size {f : Addr} {fd : FuncData} (F : Fun K "_law_load_size" "_law_load_size" s_law_load_size f fd) (B : Bl mg) (Bmax : mg "max" = none) (D__law_size : Dk P w K mg base 1 "_law_size" ["row"] (spRowSize K)) : FnOk P w K mg base CX0 2 f fd ["load"] (spSize K) := by
  refine ok_P F sc_law_load_size (fun _ => rfl) (by decide) fun cdv A outer s H E hr a hp => ?_
  have nd := sc_law_load_size.nd
  obtain ⟨kinds, rs⟩ := a
  obtain ⟨hp, hq⟩ : rs.length ≤ 1000 ∧ ∀ r ∈ rs, r.length ≤ 1000 := hp
  refine PR.cast (pr_ret (pd_callB (kmax K) (by rfl) Bmax (by decide +kernel) (PDs.cons (PD.cast (pd_op op_cat (pd_lst (PDs.cons pd_int PDs.nil)) (pd_lc (own := [("row", 1)]) (xs := rs) (enc := rowD) (g := gName 1) (Δ := fun x => [(1, rowD x)]) (out := fun r => .int (szR r)) rfl nd (wk_tup (pd_ix (kixT K) (pdv 0 rfl) pd_int (o_ixT rfl))) (blkOk_by (N := N_law_load_size) (sc := defScope s_law_load_size) (by decide +kernel)) (fun _ _ _ _ _ => pg_name (i := 1) nd rfl (Or.inl rfl)) (fun x hx => tg1 (by decide)) rfl
    (fun x hx _ _ _ _ _ => pd_call D__law_size hr x (hq x hx) (PDs.cons (pdv 1 rfl) PDs.nil)) (fun x hx => rfl) (by omega)) (o_catL (by rw [List.length_map]; show 1 + rs.length ≤ sizeLine; exact Nat.le_trans (show 1 + rs.length ≤ 2000 by omega) (by decide)))) (db := .list ((0 :: rs.map szR).map .int)) (by rw [List.map_cons, List.map_map]; rfl)) PDs.nil) (o_maxN (by simp)))) ?_
  rw [szS0]
  rfl
abbrev spSumP (K : PySem.W.Frag) : Sp := spP K (α := SumsA) (fun a => [.int a.1, rowsV a.2.2 a.2.1]) (fun a => a.1 ≤ 4 ∧ a.2.1.length ≤ 1000 ∧ ∀ r ∈ a.2.1, r.length = a.1) (fun a => rowD (sums a.1 a.2.1))
theorem ok_sumP {f : Addr} {fd : FuncData} (F : Fun K "_law_sum" "_law_sum" s_law_sum f fd) (B : Bl mg) : FnOk P w K mg base CX0 1 f fd ["kinds", "rows"] (spSumP K) := by
  refine ok_P F sc_law_sum (fun _ => rfl) (by decide) fun cdv A outer s H E hr a hp => ?_
  have nd := sc_law_sum.nd
  obtain ⟨kinds, rs, l⟩ := a
  obtain ⟨h4, hn, hR⟩ : kinds ≤ 4 ∧ rs.length ≤ 1000 ∧ ∀ r ∈ rs, r.length = kinds := hp
  refine PR.cast (pr_ret (pd_callTy (ktuple K) (by rfl) B.tuple_ (by decide +kernel) (PDs.cons (pd_lc (own := [("k", 2)]) (xs := List.range kinds) (enc := fun (k : Nat) => .int (k : Int)) (g := gName 2) (Δ := fun (k : Nat) => [(2, .int (k : Int))]) (out := fun k => .int (colS k rs)) rfl nd (wk_rangeN (pdv 0 rfl) (by omega) rfl B.range_) (blkOk_by (N := N_law_sum) (sc := defScope s_law_sum) (by decide +kernel)) (fun _ _ _ _ _ => pg_name (i := 2) nd rfl (Or.inr rfl)) (fun x hx => tg1 (by decide)) rfl
    (fun k hk _ _ _ _ _ => PD.cast (pd_callB (ksum K) (by rfl) B.sum_ (by decide +kernel) (PDs.cons (PD.cast (pd_lc (own := [("row", 3)]) (xs := rs) (enc := rowD) (g := gName 3) (Δ := fun x => [(3, rowD x)]) (out := fun r => .int (r.getD k 0)) rfl nd (by
      cases l with
      | true => exact wk_lst (pdv 1 rfl)
      | false => exact wk_tup (pdv 1 rfl)) (blkOk_by (by kernel_rfl)) (fun _ _ _ _ _ => pg_name (i := 3) nd rfl (Or.inl rfl)) (fun x hx => tg1 (by decide)) rfl
      (fun r hr2 _ _ _ _ _ => pd_ix (kixT K) (pdv 3 rfl) (pdv 2 rfl) (o_ixT (by
        have h1 := hR r hr2
        have h2 := List.mem_range.mp hk
        rw [List.getD_eq_getElem?_getD, List.getElem?_eq_getElem (by omega)]
        exact atI_map PyData.int (atI_get (by omega))))) (fun x hx => rfl) (by omega)) (db := .list ((rs.map fun r => r.getD k 0).map .int)) (by rw [List.map_map]; rfl)) PDs.nil) o_sum) rfl) (fun x hx => rfl) (by rw [List.length_range]; omega)) PDs.nil) (o_tuple (.inl rfl)))) ?_
  unfold rowD sums
  rw [List.map_map]
  rfl
theorem sum_of_P (vs : List V) (H : Hp) (Q : VK) (E : XK) : spSum K vs H Q E → spSumP K vs H Q E := by
  rintro ⟨kinds, p, xs, rs, rfl, hp, hx, hk, hR, hl, k⟩
  refine ⟨(kinds, rs, true), ⟨hk, by show rs.length ≤ 1000; omega, hR⟩, .cons (.int _) (.cons (.lst hp hx) .nil), fun v H' s d => ?_⟩
  have d : Dq K H' v (rowD (sums kinds rs)) := d
  unfold rowD at d
  cases d with
  | tup hq ha =>
    have := Dq.ints_eq ha
    subst this
    exact k H' _ _ s hq rfl
/-- the beginnings, as the law has them -/
theorem law_beg {kinds : Nat} {rs : List (List Int)} {i : Nat} {r : List Int} (h : ∀ r ∈ rs, r.length = kinds) (hr : rs[i]? = some r) : rowD (totR kinds rs (i + 1)) = .tuple ((List.range kinds).map fun k => .int ((totR kinds rs i).getD k 0 + r.getD k 0)) := by
  have hl := h r (List.mem_of_getElem? hr)
  rw [totR_succ hr]
  unfold rowD
  congr 1
  have : addR (totR kinds rs i) r = (List.range kinds).map fun k => (totR kinds rs i).getD k 0 + r.getD k 0 := by
    refine ext_getD (by rw [addR_length, totR_length h, hl, List.length_map, List.length_range, Nat.min_self]) fun k hk => ?_
    rw [addR_length, totR_length h, hl, Nat.min_self] at hk
    rw [addR_getD (by rw [totR_length h, hl]), List.getD_eq_getElem?_getD (l := List.map _ _), List.getElem?_map, List.getElem?_range hk]
    rfl
  rw [this, List.map_map]
  rfl
end
end Nk
set_option Elab.async false
set_option linter.all false
set_option maxRecDepth 100000
set_option maxHeartbeats 4000000
namespace Nk
open PySem L2
section
variable {P : Program} {w : World} {K : PySem.W.Frag} {mg : Str → Option Value} {base : Heap}
def gB (a : OrdA) (i : Nat) : G3 := ⟨[(0, loadD a.1 a.2.1), (1, ordD a.2.2)], [], [(2, rowsD ((List.range (i + 1)).map (totR a.1 (pick a.2.1 a.2.2))))]⟩
theorem noMs_ord (o : List Nat) : noMs (o.map fun (i : Nat) => PyData.int (i : Int)) = true := noMs_all fun d hd => by
  obtain ⟨i, _, rfl⟩ := List.mem_map.mp hd
  rfl
theorem range_tot (kinds : Nat) (rs : List (List Int)) (i : Nat) : rowsD ((List.range (i + 1)).map (totR kinds rs)) = rowsD ((List.range i).map (totR kinds rs)) ++ [rowD (totR kinds rs i)] := by
  rw [List.range_succ, List.map_append, ← rowsD_snoc]
  rfl
theorem ok_law_begins {f : Addr} {fd : FuncData} (F : Fun K "_law_begins" "_law_begins" s_law_begins f fd) (B : Bl mg) : FnOk P w K mg base CX0 1 f fd ["load", "order"] (spBegins K) := by
  refine ok_P F sc_law_begins (fun _ => rfl) (by decide) fun cdv A outer s H E hr a hp => ?_
  have nd := sc_law_begins.nd
  obtain ⟨kinds, rs, o⟩ := a
  obtain ⟨⟨h4, hn, hR⟩, ho, hi⟩ : Rows kinds rs ∧ o.length ≤ 100 ∧ ∀ i ∈ o, i < rs.length := hp
  have hP := pick_rows hR hi
  refine pr_cons (pst_new (i := 2) nd rfl (Or.inr rfl) (by decide) (pf_lst (PDs.cons (PD.cast (pd_op (op_repA K) (pd_tup (PDs.cons pd_int PDs.nil)) (pd_ix (kixT K) (pdv 0 rfl) pd_int (o_ixT (d := .int kinds) rfl)) (o_repT (by omega) (by omega) (by show 1 ≤ 1000; decide))) (rep_row kinds)) PDs.nil)) (by simp [noMs, noM_row])) ?_
  refine PR.castG (G := gB (kinds, rs, o) 0) ?_ (by unfold gB; simp [totR_zero]; rfl)
  refine pr_cons (G' := gB (kinds, rs, o) o.length) (pst_for (xs := o) (enc := fun (i : Nat) => .int (i : Int)) (Δ := fun (r : Nat) => [(3, .int (r : Int))]) (Gk := gB (kinds, rs, o)) (g := gName 3) (vs := [3]) PassesOwn.never rfl (pws_tup (pdv 1 rfl) (noMs_ord o)) (pg_name (i := 3) nd rfl (Or.inr rfl)) (fun x hx => tg1 (by decide)) (fun i => rfl) (fun x hx q hq => by
    obtain rfl := List.mem_singleton.mp hq
    rfl) (fun i m hm => ?_)) ?_
  · have him : i < o.length := (List.getElem?_eq_some_iff.mp hm).1
    have hml := hi m (List.mem_of_getElem? hm)
    have hr' : (pick rs o)[i]? = some rs[m] := by
      unfold pick
      rw [List.getElem?_map, hm]
      show some (rs.getD m []) = _
      rw [List.getD_eq_getElem?_getD, List.getElem?_eq_getElem hml]
      rfl
    have hrl := hR _ (List.getElem_mem hml)
    refine PBk.le (G' := ⟨[(0, loadD kinds rs), (1, ordD o)], [(3, .int (m : Int))], [(2, rowsD ((List.range (i + 1 + 1)).map (totR kinds (pick rs o))))]⟩) (PBk.cast (pb_one (pst_app (i := 2) (ds := rowsD ((List.range (i + 1)).map (totR kinds (pick rs o)))) rfl (Or.inr (Or.inl rfl)) rfl
      (PD.cast (pd_callTy (ktuple K) (by rfl) B.tuple_ (by decide +kernel) (PDs.cons (pd_lc (own := [("k", 4)]) (xs := List.range kinds) (enc := fun (k : Nat) => .int (k : Int)) (g := gName 4) (Δ := fun (k : Nat) => [(4, .int (k : Int))]) (out := fun k => .int ((totR kinds (pick rs o) i).getD k 0 + (rs[m]).getD k 0)) rfl nd (wk_rangeN (pd_ix (kixT K) (pdv 0 rfl) pd_int (o_ixT (d := .int kinds) rfl)) (by omega) (by rfl) B.range_) (blkOk_by (N := N_law_begins) (sc := defScope s_law_begins) (by decide +kernel)) (fun _ _ _ _ _ => pg_name (i := 4) nd rfl (Or.inl rfl)) (fun x hx => tg1 (by decide)) rfl
        (fun k hk _ _ _ _ _ => pd_op op_add (pd_ix (kixT K) (pd_ix (kixL K) (pdv 2 rfl) (pd_neg pd_int) (o_ixL (atI_end (range_tot kinds (pick rs o) i)))) (pdv 4 rfl) (o_ixT (by
          have h1 := totR_length hP i
          have h2 := List.mem_range.mp hk
          rw [List.getD_eq_getElem?_getD, List.getElem?_eq_getElem (by omega)]
          exact atI_map PyData.int (atI_get (by omega))))) (pd_ix (kixT K) (pd_ix (kixT K) (pd_ix (kixT K) (pdv 0 rfl) pd_int (o_ixT (d := .tuple (rowsD rs)) rfl)) (pdv 3 rfl) (o_ixT (d := rowD rs[m]) (atI_map rowD (atI_get hml)))) (pdv 4 rfl) (o_ixT (by
          have h2 := List.mem_range.mp hk
          rw [List.getD_eq_getElem?_getD, List.getElem?_eq_getElem (by omega)]
          exact atI_map PyData.int (atI_get (by omega))))) o_add) (fun x hx => rfl) (by rw [List.length_range]; omega)) PDs.nil) (o_tuple (.inl rfl))) (law_beg hP hr').symm) (noM_row _) (by unfold rowsD; rw [List.length_map, List.length_map, List.length_range]; omega))) ?_) (G3.Le.of (fun q hq => hq) (fun q hq => nomatch hq))
    · rw [range_tot kinds (pick rs o) (i + 1)]
      rfl
  · refine PR.cast (pr_ret (pd_callTy (ktuple K) (by rfl) B.tuple_ (by decide +kernel) (PDs.cons (pdv 2 rfl) PDs.nil) (o_tuple (.inl rfl)))) ?_
    show PyData.tuple (rowsD ((List.range (o.length + 1)).map (totR kinds (pick rs o)))) = _
    unfold begR
    rw [pick_length]
theorem ok_law_height {f : Addr} {fd : FuncData} (F : Fun K "_law_height" "_law_height" s_law_height f fd) (B : Bl mg) (Bmax : mg "max" = none) (D__law_size : Dk P w K mg base 1 "_law_size" ["row"] (spRowSize K)) (D__law_begins : Dk P w K mg base 1 "_law_begins" ["load", "order"] (spBegins K)) : FnOk P w K mg base CX0 2 f fd ["load", "order"] (spHeight K) := by
  refine ok_P F sc_law_height (fun _ => rfl) (by decide) fun cdv A outer s H E hr a hp => ?_
  have nd := sc_law_height.nd
  obtain ⟨kinds, rs, o⟩ := a
  obtain ⟨⟨h4, hn, hR⟩, ho, hi⟩ : Rows kinds rs ∧ o.length ≤ 100 ∧ ∀ i ∈ o, i < rs.length := hp
  have hb := begR_rows (pick_rows hR hi)
  have hl := begR_length kinds (pick rs o)
  rw [pick_length] at hl
  refine PR.cast (pr_ret (pd_callB (kmax K) (by rfl) Bmax (by decide +kernel) (PDs.cons (PD.cast (pd_lc (own := [("row", 2)]) (xs := begR kinds (pick rs o)) (enc := rowD) (g := gName 2) (Δ := fun x => [(2, rowD x)]) (out := fun r => .int (szR r)) rfl nd (wk_tup (pd_call D__law_begins hr (kinds, rs, o) ⟨⟨h4, hn, hR⟩, ho, hi⟩ (PDs.cons (pdv 0 rfl) (PDs.cons (pdv 1 rfl) PDs.nil)))) (blkOk_by (N := N_law_height) (sc := defScope s_law_height) (by decide +kernel)) (fun _ _ _ _ _ => pg_name (i := 2) nd rfl (Or.inl rfl)) (fun x hx => tg1 (by decide)) rfl
    (fun x hx _ _ _ _ _ => pd_call D__law_size hr x (by show x.length ≤ 1000; have := hb x hx; omega) (PDs.cons (pdv 2 rfl) PDs.nil)) (fun x hx => rfl) (by omega)) (db := .list (((begR kinds (pick rs o)).map szR).map .int)) (by rw [List.map_map]; rfl)) PDs.nil) (o_maxN (by
      intro z
      exact begR_ne kinds (pick rs o) (List.map_eq_nil_iff.mp z))))) rfl
theorem ok_law_is_even {f : Addr} {fd : FuncData} (F : Fun K "_law_is_even" "_law_is_even" s_law_is_even f fd) (B : Bl mg) (D__law_size : Dk P w K mg base 1 "_law_size" ["row"] (spRowSize K)) (D__law_sum : Dk P w K mg base 1 "_law_sum" ["kinds", "rows"] (spSumP K)) : FnOk P w K mg base CX0 2 f fd ["load"] (spIsEven K) := by
  refine ok_P F sc_law_is_even (fun _ => rfl) (by decide) fun cdv A outer s H E hr a hp => ?_
  have nd := sc_law_is_even.nd
  obtain ⟨kinds, rs⟩ := a
  obtain ⟨h4, hn, hR⟩ : Rows kinds rs := hp
  refine PR.cast (pr_ret (pd_cmp op_eq (pd_call D__law_size hr (sums kinds rs) (by show (sums kinds rs).length ≤ 1000; rw [sums_len]; omega) (PDs.cons (pd_call D__law_sum hr (kinds, rs, false) ⟨h4, by show rs.length ≤ 1000; omega, hR⟩ (PDs.cons (pd_ix (kixT K) (pdv 0 rfl) pd_int (o_ixT (d := .int kinds) rfl)) (PDs.cons (pd_ix (kixT K) (pdv 0 rfl) pd_int (o_ixT (d := .tuple (rowsD rs)) rfl)) PDs.nil))) PDs.nil)) pd_int o_eq (nomark _))) ?_
  show PyData.bool (decide (szR (sums kinds rs) = 0)) = _
  rw [even_eq hR]
abbrev spNegated (K : PySem.W.Frag) : Sp := spP K (α := List Int) (fun r => [rowD r]) (fun r => r.length ≤ 1000) (fun r => rowD (negR r))
theorem ok_law_negated {f : Addr} {fd : FuncData} (F : Fun K "_law_negated" "_law_negated" s_law_negated f fd) (B : Bl mg) : FnOk P w K mg base CX0 1 f fd ["row"] (spNegated K) := by
  refine ok_P F sc_law_negated (fun _ => rfl) (by decide) fun cdv A outer s H E hr r hp => ?_
  have nd := sc_law_negated.nd
  have hp : r.length ≤ 1000 := hp
  refine PR.cast (pr_ret (pd_callTy (ktuple K) (by rfl) B.tuple_ (by decide +kernel) (PDs.cons (pd_lc (own := [("item", 1)]) (xs := r) (enc := .int) (g := gName 1) (Δ := fun x => [(1, .int x)]) (out := fun x => .int (0 - x)) rfl nd (wk_tup (pdv 0 rfl)) (blkOk_by (N := N_law_negated) (sc := defScope s_law_negated) (by decide +kernel)) (fun _ _ _ _ _ => pg_name (i := 1) nd rfl (Or.inl rfl)) (fun x hx => tg1 (by decide)) rfl
    (fun x hx _ _ _ _ _ => pd_op op_sub pd_int (pdv 1 rfl) o_sub) (fun x hx => rfl) (by omega)) PDs.nil) (o_tuple (.inl rfl)))) ?_
  unfold rowD negR
  rw [List.map_map]
  rfl
end
end Nk
set_option Elab.async false
set_option linter.all false
set_option maxRecDepth 100000
set_option maxHeartbeats 4000000
namespace Nk
open PySem L2
/-! what the law compares -/
theorem pick_all (rs : List (List Int)) : pick rs (List.range rs.length) = rs := by
  unfold pick
  apply List.ext_getElem
  · rw [List.length_map, List.length_range]
  · intro i h1 h2
    rw [List.getElem_map, List.getElem_range, List.getD_eq_getElem?_getD, List.getElem?_eq_getElem h2]
    rfl
theorem signed_eq {rs : List (List Int)} {ss : List Int} (h : ss.length = rs.length) : signed rs ss = (List.range rs.length).map fun k => mulR (rs.getD k []) (ss.getD k 0) := by
  unfold signed
  apply List.ext_getElem
  · rw [List.length_map, List.length_map, List.length_zip, List.length_range]; omega
  · intro i h1 h2
    rw [List.length_map, List.length_range] at h2
    rw [List.getElem_map, List.getElem_map, List.getElem_zip, List.getElem_range, List.getD_eq_getElem?_getD, List.getElem?_eq_getElem h2, List.getD_eq_getElem?_getD, List.getElem?_eq_getElem (by omega)]
    rfl
theorem mulR_one (r : List Int) : mulR r 1 = r := by unfold mulR; simp
theorem mulR_neg (r : List Int) : mulR r (-1) = negR r := by
  unfold mulR negR
  refine List.map_congr_left fun x _ => ?_
  omega
theorem signed_rep (rs : List (List Int)) (s : Int) : signed rs (List.replicate rs.length s) = rs.map fun r => mulR r s := by
  rw [signed_eq (by rw [List.length_replicate])]
  apply List.ext_getElem
  · rw [List.length_map, List.length_map, List.length_range]
  · intro i h1 h2
    rw [List.length_map] at h2
    rw [List.getElem_map, List.getElem_map, List.getElem_range, List.getD_eq_getElem?_getD, List.getElem?_eq_getElem h2, List.getD_eq_getElem?_getD, List.getElem?_replicate, if_pos h2]
    rfl
theorem signed_one (rs : List (List Int)) : signed rs (List.replicate rs.length 1) = rs := by
  rw [signed_rep]
  have : (fun r => mulR r 1) = id := by funext r; exact mulR_one r
  rw [this, List.map_id]
theorem szR_neg (r : List Int) : szR (negR r) = szR r := by
  unfold szR negR
  rw [List.map_map]
  congr 1
  refine List.map_congr_left fun x _ => ?_
  show absI (0 - x) = absI x
  unfold absI
  split <;> split <;> omega
theorem sums_neg (kinds : Nat) (rs : List (List Int)) : sums kinds (rs.map negR) = negR (sums kinds rs) := by
  refine ext_getD (by unfold negR; rw [sums_len, List.length_map, sums_len]) fun k hk => ?_
  rw [sums_len] at hk
  rw [sums_at hk, negR_getD, sums_at hk, colS_neg]
theorem ht_neg {kinds : Nat} {rs : List (List Int)} (h : ∀ r ∈ rs, r.length = kinds) : htR kinds (signed rs (List.replicate rs.length (-1))) = htR kinds rs := by
  have e1 : signed rs (List.replicate rs.length (-1)) = rs.map negR := by
    rw [signed_rep]
    exact List.map_congr_left fun r _ => mulR_neg r
  have h2 : ∀ r ∈ rs.map negR, r.length = kinds := fun r hr => by
    obtain ⟨r', hr', rfl⟩ := List.mem_map.mp hr
    unfold negR
    rw [List.length_map]
    exact h r' hr'
  rw [e1]
  unfold htR begR
  rw [List.length_map, List.map_map, List.map_map]
  congr 1
  refine List.map_congr_left fun i hi => ?_
  have hi := List.mem_range.mp hi
  show szR (totR kinds (rs.map negR) i) = szR (totR kinds rs i)
  rw [tot_sums h2 i (by rw [List.length_map]; omega), tot_sums h i (by omega), ← List.map_take, sums_neg, szR_neg]
theorem ht_rev {kinds : Nat} {L : List (List Int)} (h : ∀ r ∈ L, r.length = kinds) (h0 : ∀ k, k < kinds → colS k L = 0) : htR kinds L.reverse = htR kinds L := by
  have h2 : ∀ r ∈ L.reverse, r.length = kinds := fun r hr => h r (List.mem_reverse.mp hr)
  have key : ∀ i, i ≤ L.length → szR (totR kinds L.reverse i) = szR (totR kinds L (L.length - i)) := fun i hi => by
    rw [tot_sums h2 i (by rw [List.length_reverse]; exact hi), tot_sums h _ (by omega)]
    have : sums kinds (L.reverse.take i) = negR (sums kinds (L.take (L.length - i))) := by
      refine ext_getD (by unfold negR; rw [sums_len, List.length_map, sums_len]) fun k hk => ?_
      rw [sums_len] at hk
      rw [sums_at hk, negR_getD, sums_at hk]
      have e1 : L.reverse.take i = (L.drop (L.length - i)).reverse := by
        rw [List.take_reverse]
      have e2 : colS k (L.reverse.take i) = colS k (L.drop (L.length - i)) := by
        rw [e1]
        exact colS_perm k (List.reverse_perm _)
      have e3 := h0 k hk
      rw [← List.take_append_drop (L.length - i) L, colS_append] at e3
      omega
    rw [this, szR_neg]
  unfold htR begR
  refine mxD_congr fun x => ?_
  rw [List.map_map, List.map_map, List.length_reverse]
  constructor
  · intro hx
    obtain ⟨i, hi, rfl⟩ := List.mem_map.mp hx
    have hi := List.mem_range.mp hi
    exact List.mem_map.mpr ⟨L.length - i, List.mem_range.mpr (by omega), (key i (by omega)).symm⟩
  · intro hx
    obtain ⟨i, hi, rfl⟩ := List.mem_map.mp hx
    have hi := List.mem_range.mp hi
    refine List.mem_map.mpr ⟨L.length - i, List.mem_range.mpr (by omega), ?_⟩
    have := key (L.length - i) (by omega)
    rw [show L.length - (L.length - i) = i by omega] at this
    exact this
theorem pick_perm {rs : List (List Int)} {o : List Nat} (h : (List.range rs.length).Perm o) : (pick rs o).Perm rs := by
  have := (h.map fun i => rs.getD i []).symm
  have e := pick_all rs
  unfold pick at e ⊢
  rw [e] at this
  exact this
theorem even_cols {kinds : Nat} {rs : List (List Int)} (h : ∀ r ∈ rs, r.length = kinds) (he : evenR kinds rs = true) : ∀ k, k < kinds → colS k rs = 0 := by
  intro k hk
  unfold evenR at he
  have he := of_decide_eq_true he
  rw [tot_all h] at he
  rw [← sums_at hk, he, List.getD_eq_getElem?_getD, List.getElem?_replicate, if_pos hk]
  rfl
theorem ht_back {kinds : Nat} {rs : List (List Int)} {o : List Nat} (h : ∀ r ∈ rs, r.length = kinds) (ho : (List.range rs.length).Perm o) (he : evenR kinds rs = true) : htR kinds (pick rs o.reverse) = htR kinds (pick rs o) := by
  have e1 : pick rs o.reverse = (pick rs o).reverse := by unfold pick; rw [List.map_reverse]
  have hp := pick_perm ho
  rw [e1]
  exact ht_rev (fun r hr => h r (hp.mem_iff.mp hr)) fun k hk => by rw [colS_perm k hp]; exact even_cols h he k hk
/-! how large these are -/
theorem totR_bd {kinds : Nat} {rs : List (List Int)} {m : Int} (m0 : 0 ≤ m) (h : RowsOk kinds m rs) {i : Nat} (hi : i ≤ rs.length) : Bd (m * (rs.length : Int)) (totR kinds rs i) := by
  intro x hx
  rw [tot_sums (fun r hr => (h r hr).1) i hi] at hx
  unfold sums at hx
  obtain ⟨k, _, rfl⟩ := List.mem_map.mp hx
  have := colS_bd m0 k (rs := rs.take i) (kinds := kinds) fun r hr => h r (List.mem_of_mem_take hr)
  have l1 : ((rs.take i).length : Int) ≤ rs.length := by rw [List.length_take]; omega
  have l2 : m * ((rs.take i).length : Int) ≤ m * (rs.length : Int) := Int.mul_le_mul_of_nonneg_left l1 m0
  omega
theorem szR_bd {m : Int} {r : List Int} (m0 : 0 ≤ m) (h : Bd m r) : 0 ≤ szR r ∧ szR r ≤ m := ⟨szR_nonneg r, mxD_bd (fun x hx => by
  obtain ⟨y, hy, rfl⟩ := List.mem_map.mp hx
  exact absI_bd (h y hy).1 (h y hy).2) m0⟩
theorem beg_fit {kinds : Nat} {rs : List (List Int)} (h4 : kinds ≤ 4) (h : RowsOk kinds (10 ^ 6) rs) (hl : rs.length ≤ 100) : Fit 40000 2 (.tuple (rowsD (begR kinds rs))) ∧ -(10 ^ 15) ≤ htR kinds rs ∧ htR kinds rs ≤ 10 ^ 15 := by
  have hb : ∀ r ∈ begR kinds rs, r.length = kinds ∧ Bd (10 ^ 6 * (rs.length : Int)) r := fun r hr => by
    obtain ⟨i, hi, rfl⟩ := List.mem_map.mp hr
    have hi := List.mem_range.mp hi
    exact ⟨totR_length (fun r hr => (h r hr).1) i, totR_bd (by decide) h (by omega)⟩
  refine ⟨?_, ?_⟩
  · have := Fits.all (n := 244) (m := 1) (ds := rowsD (begR kinds rs)) fun d hd => by
      obtain ⟨r, hr, rfl⟩ := List.mem_map.mp hd
      obtain ⟨h1, h2⟩ := hb r hr
      exact (Fits.intsB fun x hx => by have := h2 x hx; omega).tup.mono (by omega) (Nat.le_refl _)
    refine this.tup.mono ?_ (Nat.le_refl _)
    unfold rowsD
    rw [List.length_map, begR_length]
    omega
  · unfold htR
    constructor
    · have : 0 ≤ mxD 0 ((begR kinds rs).map szR) := by
        cases e : (begR kinds rs).map szR with
        | nil => exact Int.le_refl _
        | cons x xs =>
          have : x ∈ (begR kinds rs).map szR := by rw [e]; exact List.mem_cons_self
          obtain ⟨r, _, rfl⟩ := List.mem_map.mp this
          exact mxL_nonneg (szR_nonneg r)
      omega
    · refine Int.le_trans (mxD_bd (m := 10 ^ 6 * 100) (fun x hx => ?_) (by decide)) (by decide)
      obtain ⟨r, hr, rfl⟩ := List.mem_map.mp hx
      have := (szR_bd (by omega) (hb r hr).2).2
      have : (10 : Int) ^ 6 * (rs.length : Int) ≤ 10 ^ 6 * 100 := Int.mul_le_mul_of_nonneg_left (by omega) (by decide)
      omega
theorem szL_fit {kinds : Nat} {rs : List (List Int)} (h : RowsOk kinds (10 ^ 6) rs) : -(10 ^ 15) ≤ szL rs ∧ szL rs ≤ 10 ^ 15 := by
  have h2 : szL rs ≤ 10 ^ 6 := mxD_bd (fun x hx => by
    obtain ⟨r, hr, rfl⟩ := List.mem_map.mp hx
    exact (szR_bd (by decide) (h r hr).2).2) (by decide)
  have h1 : 0 ≤ szL rs := by
    unfold szL
    cases rs with
    | nil => exact Int.le_refl _
    | cons r rs => exact mxL_nonneg (szR_nonneg r)
  omega
theorem fit_two {a b : PyData} {n m : Nat} (f : Fit n m a) (g : Fit n m b) : Fit (n + n + 2) (m + 1) (.list [a, b]) :=
  ((Fits.cons f (Fits.cons g Fits.nil)).lst).mono (by omega) (by omega)
theorem signed_ok {kinds : Nat} {rs : List (List Int)} {ss : List Int} {m : Int} (h : RowsOk kinds m rs) (hs : ∀ x ∈ ss, x = 1 ∨ x = -1) : RowsOk kinds m (signed rs ss) := by
  intro r hr
  obtain ⟨p, hp, rfl⟩ := List.mem_map.mp hr
  obtain ⟨h1, h2⟩ := List.of_mem_zip hp
  refine ⟨by rw [mulR_length]; exact (h _ h1).1, fun x hx => ?_⟩
  unfold mulR at hx
  obtain ⟨y, hy, rfl⟩ := List.mem_map.mp hx
  have := (h _ h1).2 y hy
  rcases hs _ h2 with z | z <;> rw [z] <;> omega
theorem pick_ok {kinds : Nat} {rs : List (List Int)} {o : List Nat} {m : Int} (h : RowsOk kinds m rs) (ho : ∀ i ∈ o, i < rs.length) : RowsOk kinds m (pick rs o) := by
  intro r hr
  obtain ⟨i, hi, rfl⟩ := List.mem_map.mp hr
  rw [List.getD_eq_getElem?_getD, List.getElem?_eq_getElem (ho i hi)]
  exact h _ (List.getElem_mem (ho i hi))
end Nk
set_option Elab.async false
set_option linter.all false
set_option maxRecDepth 100000
set_option maxHeartbeats 8000000
namespace Nk
open PySem L2
def spLaw (K : PySem.W.Frag) : Sp := fun vs H Q _ => ∃ (a : Addr) (ns : List Int), vs = [.ref a] ∧ SqL K H a (ns.map V.int) ∧ ns.length ≤ 63 ∧ ∀ H', Q (.bl true) H'
section
variable {P : Program} {w : World} {K : PySem.W.Frag} {mg : Str → Option Value} {base : Heap}
def forBody (st : Stmt) : List Stmt := match (defBody st).getD 1 (.Pass ⟨0, 0, 0, 0⟩) with
  | .For _ _ b _ _ => b
  | _ => []
def retExpr (st : Stmt) : Expr := match (defBody st).getD 2 (.Pass ⟨0, 0, 0, 0⟩) with
  | .Return (some e) _ => e
  | _ => .Name "" ⟨0, 0, 0, 0⟩
theorem rep_ints (m : Nat) (x : Int) : PyData.tuple (List.replicate (m : Int).toNat [PyData.int x]).flatten = sgnD (List.replicate m x) := by
  unfold sgnD
  rw [Int.toNat_natCast]
  congr 1
  induction m with
  | zero => rfl
  | succ k ih => rw [List.replicate_succ, List.flatten_cons, ih]; rfl
theorem ok_law {f : Addr} {fd : FuncData} (F : Fun K "law" "law" slaw f fd) (B : Bl mg)
    (D__law_deck : Dk P w K mg base 1 "_law_deck" ["script"] (spDeck K)) (D__law_any : Dk P w K mg base 4 "_law_any" ["deck", "rows"] (spLoadN K)) (D__law_mixed : Dk P w K mg base 2 "_law_mixed" ["deck", "items"] spMixed)
    (D__law_one : Dk P w K mg base 2 "_law_one" ["deck", "items"] spOne) (D_size : Dk P w K mg base 2 "size" ["load"] (spSize K)) (D_is_even : Dk P w K mg base 3 "is_even" ["load"] (spIsEven K)) (D_begins : Dk P w K mg base 3 "begins" ["load", "order"] (spBegins K)) (D_height : Dk P w K mg base 4 "height" ["load", "order"] (spHeight K))
    (D_sign_begins : Dk P w K mg base 3 "sign_begins" ["load", "signs"] (spSignBegins K)) (D_sign_height : Dk P w K mg base 4 "sign_height" ["load", "signs"] (spSignHeight K)) (D__law_load_size : Dk P w K mg base 2 "_law_load_size" ["load"] (spSize K)) (D__law_is_even : Dk P w K mg base 2 "_law_is_even" ["load"] (spIsEven K))
    (D__law_begins : Dk P w K mg base 1 "_law_begins" ["load", "order"] (spBegins K)) (D__law_height : Dk P w K mg base 2 "_law_height" ["load", "order"] (spHeight K)) (D__law_negated : Dk P w K mg base 1 "_law_negated" ["row"] (spNegated K)) : LawOk P w K mg base 5 f fd ["script"] (spLaw K) := by
  refine law_of F sclaw (fun vs H Q E h => ?_) (fun cdv s H vs Q hr h => ?_)
  · obtain ⟨a, ns, rfl, _⟩ := h
    rfl
  · obtain ⟨a, ns, rfl, hS, hl, k⟩ := h
    have nd := sclaw.nd
    have hgd : (PySem.callerA.deeper (PyProof.Rows.envOfC "law" (defScope slaw) s.heap.objs.size f cdv)).guards = some [] := rfl
    have turn : ∀ t : Nat, PL K (cxOf CX0 P w K mg base Nlaw "law" (defScope slaw) f cdv PySem.callerA [] s H E0).nox 12 1 [(2, .int (t : Int))] (forBody slaw) [] := fun t => by
      refine pl_draw (i := 3) nd rfl (Or.inl rfl) (by decide) (by decide) (pn_call D__law_any hr 24 ⟨by decide, by decide⟩ (pas rfl (Or.inr (Or.inl rfl)) (PDs.cons pd_int PDs.nil)) rfl) ?_
      rintro _ ⟨kinds, rs, rfl, k1, k4, hn, hR⟩
      have hRl : ∀ r ∈ rs, r.length = kinds := fun r hr => (hR r hr).1
      have hRows : Rows kinds rs := ⟨k4, by omega, hRl⟩
      have hSz : rs.length ≤ 1000 ∧ ∀ r ∈ rs, r.length ≤ 1000 := ⟨by omega, fun r hr => by have := hRl r hr; omega⟩
      refine pl_two (i := 4) (j := 5) nd rfl rfl (Or.inl rfl) (Or.inr rfl) (by decide) (by decide) (by decide) (by decide) (by decide) rfl (pdv 3 rfl) rfl (by simp [noM, noMs_rows]) ?_
      refine pl_set (i := 6) nd rfl (Or.inl rfl) (by decide) (by decide) (PD.cast (pd_callB (klen K) (by rfl) B.len_ PySem.boot_len (PDs.cons (pdv 5 rfl) PDs.nil) (o_len (.inr rfl))) (db := .int (rs.length : Nat)) (by unfold rowsD; rw [List.length_map])) rfl ?_
      refine pl_draw (i := 7) nd rfl (Or.inl rfl) (by decide) (by decide) (pn_mixedT D__law_mixed (hr.mono (by decide)) (pf_listRg (m := rs.length) (pdv 6 rfl) (by omega) (by rfl) B.list_ (by rfl) B.range_) (by rw [List.length_map, List.length_range]; omega) (noMs_ord _) (by rfl) B.tuple_) ?_
      rintro _ ⟨es, rfl, hp⟩
      obtain ⟨o, rfl, ho⟩ := perm_map hp
      have hol : o.length = rs.length := by have := ho.length_eq; rw [List.length_range] at this; exact this.symm
      have hoi : ∀ i ∈ o, i < rs.length := fun i hi => List.mem_range.mp (ho.mem_iff.mpr hi)
      refine pl_draw (i := 8) nd rfl (Or.inr rfl) (by decide) (by decide) (pn_lcT (own := [("k", 11)]) (xs := List.range rs.length) (enc := fun (k : Nat) => .int (k : Int)) (g := gName 11) (Δ := fun (k : Nat) => [(11, .int (k : Int))]) (R := fun _ d => d ∈ [PyData.int 1, PyData.int (-1)]) rfl nd (pwd_rangeN (pdv 6 rfl) (by omega) (by rfl) B.range_) (blkOk_by (N := Nlaw) (sc := defScope slaw) (by decide +kernel)) (fun _ _ _ _ _ => pg_name (i := 11) nd rfl (Or.inl rfl)) (fun x hx => tg1 (by decide)) rfl (by decide) (fun x hx q hq => by
        obtain rfl := List.mem_singleton.mp hq
        rfl) (fun x hx _ _ _ _ _ => pn_one D__law_one (hr.mono (by decide)) (pf_lst (PDs.cons pd_int (PDs.cons (pd_neg pd_int) PDs.nil))) (by simp) (by decide) (by decide)) (by rw [List.length_range]; omega) (by rfl) B.tuple_) ?_
      rintro _ ⟨ds, rfl, hdl, hds⟩
      obtain ⟨ss, rfl, hsl, hss⟩ : ∃ ss : List Int, ds = ss.map .int ∧ ss.length = ds.length ∧ ∀ x ∈ ss, x = 1 ∨ x = -1 := list_of_all fun d hd => by
        obtain ⟨i, hi, rfl⟩ := List.mem_iff_getElem.mp hd
        rw [hdl] at hi
        have := hds i _ _ (List.getElem?_eq_getElem hi) (List.getElem?_eq_getElem (by omega))
        rcases List.mem_cons.mp this with z | z
        · exact ⟨1, z, .inl rfl⟩
        · exact ⟨-1, List.mem_singleton.mp z, .inr rfl⟩
      rw [List.length_range] at hdl
      have hsn : ss.length = rs.length := by omega
      have hso := signed_ok hR hss
      have hsr := signed_rows (ss := ss) hRl
      have hsl2 := signed_length (rs := rs) hsn
      have hS2 : Rows kinds (signed rs ss) := ⟨k4, by omega, hsr⟩
      refine pl_set (i := 9) nd rfl (Or.inl rfl) (by decide) (by decide) (d := loadD kinds (signed rs ss)) (pd_tup (PDs.cons (pdv 4 rfl) (PDs.cons (PD.cast (pd_callTy (ktuple K) (by rfl) B.tuple_ (by decide +kernel) (PDs.cons (pd_lc (own := [("k", 11)]) (xs := List.range rs.length) (enc := fun (k : Nat) => .int (k : Int)) (g := gName 11) (Δ := fun (k : Nat) => [(11, .int (k : Int))]) (out := fun k => rowD (mulR (rs.getD k []) (ss.getD k 0))) rfl nd (wk_rangeN (pdv 6 rfl) (by omega) (by rfl) B.range_) (blkOk_by (N := Nlaw) (sc := defScope slaw) (by decide +kernel)) (fun _ _ _ _ _ => pg_name (i := 11) nd rfl (Or.inl rfl)) (fun x hx => tg1 (by decide)) rfl
        (fun k hk _ _ _ _ _ => ?_) (fun x hx => noL_row _) (by rw [List.length_range]; omega)) PDs.nil) (o_tuple (.inl rfl))) (db := .tuple (rowsD (signed rs ss))) (by
          rw [signed_eq hsn]
          unfold rowsD
          rw [List.map_map]
          rfl)) PDs.nil))) (noM_load _ _) ?_
      · have hk := List.mem_range.mp hk
        have hks : k < ss.length := by omega
        have e1 : rs.getD k [] = rs[k] := by rw [List.getD_eq_getElem?_getD, List.getElem?_eq_getElem hk]; rfl
        have e2 : ss.getD k 0 = ss[k] := by rw [List.getD_eq_getElem?_getD, List.getElem?_eq_getElem hks]; rfl
        rw [e1, e2]
        refine pd_if (pb_cmp op_eq (pd_ix (kixT K) (pdv 8 rfl) (pdv 11 rfl) (o_ixT (d := .int ss[k]) (atI_map PyData.int (atI_get hks)))) pd_int o_eq (nomark _)) (fun z => ?_) (fun z => ?_)
        · refine PD.cast (pd_ix (kixT K) (pdv 5 rfl) (pdv 11 rfl) (o_ixT (d := rowD rs[k]) (atI_map rowD (atI_get hk)))) ?_
          rw [of_decide_eq_true z, mulR_one]
        · refine PD.cast (pd_call D__law_negated (hr.mono (by decide)) rs[k] (hSz.2 _ (List.getElem_mem hk)) (PDs.cons (pd_ix (kixT K) (pdv 5 rfl) (pdv 11 rfl) (o_ixT (d := rowD rs[k]) (atI_map rowD (atI_get hk)))) PDs.nil) (d := rowD (negR rs[k]))) ?_
          rcases hss _ (List.getElem_mem hks) with q | q
          · exact absurd q (of_decide_eq_false z)
          · rw [q, mulR_neg]
      have hz := szL_fit hR
      refine pl_no (pb_reprs (pd_repr (d := .list [.int (szL rs), .bool (evenR kinds rs)]) hgd hr.units (pd_lst (PDs.cons (pd_call D_size (hr.mono (by decide)) (kinds, rs) hSz (PDs.cons (pdv 3 rfl) PDs.nil)) (PDs.cons (pd_call D_is_even (hr.mono (by decide)) (kinds, rs) hRows (PDs.cons (pdv 3 rfl) PDs.nil)) PDs.nil))) ((fit_two (Fit.intB hz.1 hz.2) ((Fit.bool _).mono (Nat.zero_le _) (Nat.zero_le _))).mono (by decide) (by decide)) (Uno.lst rfl) B.repr_)
        (pd_repr hgd hr.units (pd_lst (PDs.cons (pd_call D__law_load_size (hr.mono (by decide)) (kinds, rs) hSz (PDs.cons (pdv 3 rfl) PDs.nil)) (PDs.cons (pd_call D__law_is_even (hr.mono (by decide)) (kinds, rs) hRows (PDs.cons (pdv 3 rfl) PDs.nil)) PDs.nil))) ((fit_two (Fit.intB hz.1 hz.2) ((Fit.bool _).mono (Nat.zero_le _) (Nat.zero_le _))).mono (by decide) (by decide)) (Uno.lst rfl) B.repr_)) ?_
      have hOrd : Rows kinds rs ∧ o.length ≤ 100 ∧ ∀ i ∈ o, i < rs.length := ⟨hRows, by omega, hoi⟩
      have hpk := beg_fit k4 (pick_ok hR hoi) (by rw [pick_length]; omega)
      have fit1 : Fit 300000 40 (.list [.tuple (rowsD (begR kinds (pick rs o))), .int (htR kinds (pick rs o))]) := (fit_two hpk.1 ((Fit.intB hpk.2.1 hpk.2.2).mono (by decide) (by decide))).mono (by decide) (by decide)
      have uno1 : Uno (.list [.tuple (rowsD (begR kinds (pick rs o))), .int (htR kinds (pick rs o))]) := Uno.lst (by simp [noMs, noM, noMs_rows])
      refine pl_no (pb_reprs (pd_repr hgd hr.units (pd_lst (PDs.cons (pd_call D_begins (hr.mono (by decide)) (kinds, rs, o) hOrd (PDs.cons (pdv 3 rfl) (PDs.cons (pdv 7 rfl) PDs.nil))) (PDs.cons (pd_call D_height hr (kinds, rs, o) hOrd (PDs.cons (pdv 3 rfl) (PDs.cons (pdv 7 rfl) PDs.nil))) PDs.nil))) fit1 uno1 B.repr_)
        (pd_repr hgd hr.units (pd_lst (PDs.cons (pd_call D__law_begins (hr.mono (by decide)) (kinds, rs, o) hOrd (PDs.cons (pdv 3 rfl) (PDs.cons (pdv 7 rfl) PDs.nil))) (PDs.cons (pd_call D__law_height (hr.mono (by decide)) (kinds, rs, o) hOrd (PDs.cons (pdv 3 rfl) (PDs.cons (pdv 7 rfl) PDs.nil))) PDs.nil))) fit1 uno1 B.repr_)) ?_
      refine pl_set (i := 10) nd rfl (Or.inl rfl) (by decide) (by decide) (d := ordD (List.range rs.length)) (pd_tupRg (m := rs.length) (pdv 6 rfl) (by omega) (by rfl) B.tuple_ (by rfl) B.range_) (by unfold ordD; simp [noM, noMs_ord]) ?_
      have hSg : SgnP (kinds, rs, ss) := ⟨hRows, hsn, hss⟩
      have hPl : Rows kinds rs ∧ (List.range rs.length).length ≤ 100 ∧ ∀ i ∈ List.range rs.length, i < rs.length := ⟨hRows, by rw [List.length_range]; omega, fun i hi => List.mem_range.mp hi⟩
      have hPs : Rows kinds (signed rs ss) ∧ (List.range rs.length).length ≤ 100 ∧ ∀ i ∈ List.range rs.length, i < (signed rs ss).length := ⟨hS2, by rw [List.length_range]; omega, fun i hi => by rw [hsl2]; exact List.mem_range.mp hi⟩
      have pks : pick (signed rs ss) (List.range rs.length) = signed rs ss := by rw [← hsl2]; exact pick_all _
      have hsf := beg_fit k4 hso (by omega)
      have fit2 : Fit 300000 40 (.list [.tuple (rowsD (begR kinds (signed rs ss))), .int (htR kinds (signed rs ss))]) := (fit_two hsf.1 ((Fit.intB hsf.2.1 hsf.2.2).mono (by decide) (by decide))).mono (by decide) (by decide)
      have uno2 : Uno (.list [.tuple (rowsD (begR kinds (signed rs ss))), .int (htR kinds (signed rs ss))]) := Uno.lst (by simp [noMs, noM, noMs_rows])
      refine pl_no (pb_reprs (pd_repr hgd hr.units (pd_lst (PDs.cons (pd_call D_sign_begins (hr.mono (by decide)) (kinds, rs, ss) hSg (PDs.cons (pdv 3 rfl) (PDs.cons (pdv 8 rfl) PDs.nil))) (PDs.cons (pd_call D_sign_height hr (kinds, rs, ss) hSg (PDs.cons (pdv 3 rfl) (PDs.cons (pdv 8 rfl) PDs.nil))) PDs.nil))) fit2 uno2 B.repr_)
        (pd_repr hgd hr.units (pd_lst (PDs.cons (PD.cast (pd_call D__law_begins (hr.mono (by decide)) (kinds, signed rs ss, List.range rs.length) hPs (PDs.cons (pdv 9 rfl) (PDs.cons (pdv 10 rfl) PDs.nil))) (db := .tuple (rowsD (begR kinds (signed rs ss)))) (by show PyData.tuple (rowsD (begR kinds (pick (signed rs ss) (List.range rs.length)))) = _; rw [pks])) (PDs.cons (PD.cast (pd_call D__law_height (hr.mono (by decide)) (kinds, signed rs ss, List.range rs.length) hPs (PDs.cons (pdv 9 rfl) (PDs.cons (pdv 10 rfl) PDs.nil))) (db := .int (htR kinds (signed rs ss))) (by show PyData.int (htR kinds (pick (signed rs ss) (List.range rs.length))) = _; rw [pks])) PDs.nil))) fit2 uno2 B.repr_)) ?_
      have hP1 : SgnP (kinds, rs, List.replicate rs.length 1) := ⟨hRows, List.length_replicate, fun x hx => .inl (List.eq_of_mem_replicate hx)⟩
      have hP2 : SgnP (kinds, rs, List.replicate rs.length (-1)) := ⟨hRows, List.length_replicate, fun x hx => .inr (List.eq_of_mem_replicate hx)⟩
      refine pl_no (PB.cast (PBw.tb (pb_or (pb_cmp op_ne (pd_call D_sign_height hr (kinds, rs, List.replicate rs.length 1) hP1 (PDs.cons (pdv 3 rfl) (PDs.cons (PD.cast (pd_op (op_repA K) (pd_tup (PDs.cons pd_int PDs.nil)) (pdv 6 rfl) (o_repT (by omega) (by omega) (by show 1 ≤ 1000; decide))) (rep_ints rs.length 1)) PDs.nil))) (pd_call D_height hr (kinds, rs, List.range rs.length) hPl (PDs.cons (pdv 3 rfl) (PDs.cons (pdv 10 rfl) PDs.nil))) o_ne (nomark _)) (fun _ => pb_or1
        (pb_cmp op_ne (pd_call D_sign_height hr (kinds, rs, List.replicate rs.length (-1)) hP2 (PDs.cons (pdv 3 rfl) (PDs.cons (PD.cast (pd_op (op_repA K) (pd_tup (PDs.cons (pd_neg pd_int) PDs.nil)) (pdv 6 rfl) (o_repT (by omega) (by omega) (by show 1 ≤ 1000; decide))) (rep_ints rs.length (-1))) PDs.nil))) (pd_call D_height hr (kinds, rs, List.range rs.length) hPl (PDs.cons (pdv 3 rfl) (PDs.cons (pdv 10 rfl) PDs.nil))) o_ne (nomark _))))) ?_) ?_
      · show (!decide (htR kinds (signed rs (List.replicate rs.length 1)) = htR kinds (pick rs (List.range rs.length))) || !decide (htR kinds (signed rs (List.replicate rs.length (-1))) = htR kinds (pick rs (List.range rs.length)))) = false
        rw [signed_one, pick_all, ht_neg hRl]
        simp
      have hBk : Rows kinds rs ∧ o.reverse.length ≤ 100 ∧ ∀ i ∈ o.reverse, i < rs.length := ⟨hRows, by rw [List.length_reverse]; omega, fun i hi => hoi i (List.mem_reverse.mp hi)⟩
      refine pl_no (PB.cast (PBw.tb (pb_and (PD.tb (pd_call D_is_even (hr.mono (by decide)) (kinds, rs) hRows (PDs.cons (pdv 3 rfl) PDs.nil))) (fun _ => pb_and1 (pb_cmp op_ne (pd_call D_height hr (kinds, rs, o.reverse) hBk (PDs.cons (pdv 3 rfl) (PDs.cons (PD.cast (pd_rev (pdv 7 rfl)) (db := ordD o.reverse) (by unfold ordD; rw [List.map_reverse])) PDs.nil))) (pd_call D_height hr (kinds, rs, o) hOrd (PDs.cons (pdv 3 rfl) (PDs.cons (pdv 7 rfl) PDs.nil))) o_ne (nomark _))))) ?_) pl_nil
      show (evenR kinds rs && !decide (htR kinds (pick rs o.reverse) = htR kinds (pick rs o))) = false
      cases he : evenR kinds rs with
      | false => rfl
      | true =>
        rw [ht_back hRl ho he]
        simp
    have hE : Rows 3 [] := ⟨by decide, by decide, fun r hr => by cases hr⟩
    have last : PD K (cxOf CX0 P w K mg base Nlaw "law" (defScope slaw) f cdv PySem.callerA [] s H E0).nox 12 [] (retExpr slaw) (.bool true) := by
      refine PD.cast (pd_cmp op_eq (pd_repr (d := .list [.int 0, .bool true, .tuple [.tuple [.int 0, .int 0]], .int 0]) hgd hr.units (pd_lst (PDs.cons (PD.cast (pd_call D_size (hr.mono (by decide)) (3, []) ⟨by decide, fun r hr => by cases hr⟩ (PDs.cons (pd_tup (PDs.cons pd_int (PDs.cons (pd_tup PDs.nil) PDs.nil))) PDs.nil)) (db := .int 0) rfl) (PDs.cons (PD.cast (pd_call D_is_even (hr.mono (by decide)) (3, []) ⟨by decide, by decide, fun r hr => by cases hr⟩ (PDs.cons (pd_tup (PDs.cons pd_int (PDs.cons (pd_tup PDs.nil) PDs.nil))) PDs.nil)) (db := .bool true) rfl)
        (PDs.cons (PD.cast (pd_call D_begins (hr.mono (by decide)) (2, [], []) ⟨⟨by decide, by decide, fun r hr => by cases hr⟩, by decide, fun r hr => by cases hr⟩ (PDs.cons (pd_tup (PDs.cons pd_int (PDs.cons (pd_tup PDs.nil) PDs.nil))) (PDs.cons (pd_tup PDs.nil) PDs.nil))) (db := .tuple [.tuple [.int 0, .int 0]]) rfl) (PDs.cons (PD.cast (pd_call D_height hr (1, [], []) ⟨⟨by decide, by decide, fun r hr => by cases hr⟩, by decide, fun r hr => by cases hr⟩ (PDs.cons (pd_tup (PDs.cons pd_int (PDs.cons (pd_tup PDs.nil) PDs.nil))) (PDs.cons (pd_tup PDs.nil) PDs.nil))) (db := .int 0) rfl) PDs.nil))))) ⟨by decide +kernel, by decide +kernel, by decide +kernel, by decide +kernel⟩ (Uno.lst rfl) B.repr_) pd_str o_eqS (nomark _)) ?_
      have : (PyData.list [.int 0, .bool true, .tuple [.tuple [.int 0, .int 0]], .int 0]).shown = Str.ofString "[0, True, ((0, 0),), 0]" := by decide +kernel
      rw [this]
      simp
    refine ⟨_, pss_cons (ps_set (i := 1) nd rfl (Or.inr rfl) (pe_dk D__law_deck (hr.mono (by decide)) (pa_cons (pv 0) pa_nil))) (plr_cons (psd_for (i := 2) (m := 12) nd PassesOwn.never rfl rfl (Or.inl rfl) (by decide) (by decide) rfl pd_int (by decide) (by rfl) B.range_ (fun t _ => turn t)) (plr_ret last)).ps, ?_⟩
    refine ⟨_, rfl, a, ns, rfl, hS, hl, fun H1 p s01 dk1 => ?_⟩
    refine ⟨⟨rfl, trivial, (fun q hq => by cases hq), p, rfl, H, dk1⟩, fun v H' q => ?_⟩
    cases q
    exact k H'
end
end Nk
set_option Elab.async false
set_option linter.all false
set_option maxRecDepth 100000
set_option maxHeartbeats 8000000
namespace Nk
open PySem L2
theorem all_mk {l : PySem.W.OpenLaw} {w : World} {K : PySem.W.Frag} {h : Heap} {mg : Str → Option Value} {fa : Addr} (X : K.In h) (G : h.Ns mainGlobals mg) (hfa : mg "law" = some (.ref fa))
    {f0 : Addr} {od0 an0 : Option Addr} {sl0 : Array (Option Value)} {oc0 kV0 dc0 pm0 cd0 ct0 : Value}
    {f1 : Addr} {od1 an1 : Option Addr} {sl1 : Array (Option Value)} {oc1 kV1 dc1 pm1 cd1 ct1 : Value}
    {f2 : Addr} {od2 an2 : Option Addr} {sl2 : Array (Option Value)} {oc2 kV2 dc2 pm2 cd2 ct2 : Value}
    {f3 : Addr} {od3 an3 : Option Addr} {sl3 : Array (Option Value)} {oc3 kV3 dc3 pm3 cd3 ct3 : Value}
    {f4 : Addr} {od4 an4 : Option Addr} {sl4 : Array (Option Value)} {oc4 kV4 dc4 pm4 cd4 ct4 : Value}
    {f5 : Addr} {od5 an5 : Option Addr} {sl5 : Array (Option Value)} {oc5 kV5 dc5 pm5 cd5 ct5 : Value}
    {f6 : Addr} {od6 an6 : Option Addr} {sl6 : Array (Option Value)} {oc6 kV6 dc6 pm6 cd6 ct6 : Value}
    {f7 : Addr} {od7 an7 : Option Addr} {sl7 : Array (Option Value)} {oc7 kV7 dc7 pm7 cd7 ct7 : Value}
    {f8 : Addr} {od8 an8 : Option Addr} {sl8 : Array (Option Value)} {oc8 kV8 dc8 pm8 cd8 ct8 : Value}
    {f9 : Addr} {od9 an9 : Option Addr} {sl9 : Array (Option Value)} {oc9 kV9 dc9 pm9 cd9 ct9 : Value}
    {f10 : Addr} {od10 an10 : Option Addr} {sl10 : Array (Option Value)} {oc10 kV10 dc10 pm10 cd10 ct10 : Value}
    {f11 : Addr} {od11 an11 : Option Addr} {sl11 : Array (Option Value)} {oc11 kV11 dc11 pm11 cd11 ct11 : Value}
    {f12 : Addr} {od12 an12 : Option Addr} {sl12 : Array (Option Value)} {oc12 kV12 dc12 pm12 cd12 ct12 : Value}
    {f13 : Addr} {od13 an13 : Option Addr} {sl13 : Array (Option Value)} {oc13 kV13 dc13 pm13 cd13 ct13 : Value}
    {f14 : Addr} {od14 an14 : Option Addr} {sl14 : Array (Option Value)} {oc14 kV14 dc14 pm14 cd14 ct14 : Value}
    {f15 : Addr} {od15 an15 : Option Addr} {sl15 : Array (Option Value)} {oc15 kV15 dc15 pm15 cd15 ct15 : Value}
    {f16 : Addr} {od16 an16 : Option Addr} {sl16 : Array (Option Value)} {oc16 kV16 dc16 pm16 cd16 ct16 : Value}
    {f17 : Addr} {od17 an17 : Option Addr} {sl17 : Array (Option Value)} {oc17 kV17 dc17 pm17 cd17 ct17 : Value}
    {f18 : Addr} {od18 an18 : Option Addr} {sl18 : Array (Option Value)} {oc18 kV18 dc18 pm18 cd18 ct18 : Value}
    {f19 : Addr} {od19 an19 : Option Addr} {sl19 : Array (Option Value)} {oc19 kV19 dc19 pm19 cd19 ct19 : Value}
    {f20 : Addr} {od20 an20 : Option Addr} {sl20 : Array (Option Value)} {oc20 kV20 dc20 pm20 cd20 ct20 : Value}
    {f21 : Addr} {od21 an21 : Option Addr} {sl21 : Array (Option Value)} {oc21 kV21 dc21 pm21 cd21 ct21 : Value}
    {f22 : Addr} {od22 an22 : Option Addr} {sl22 : Array (Option Value)} {oc22 kV22 dc22 pm22 cd22 ct22 : Value}
    {f23 : Addr} {od23 an23 : Option Addr} {sl23 : Array (Option Value)} {oc23 kV23 dc23 pm23 cd23 ct23 : Value}
    {f24 : Addr} {od24 an24 : Option Addr} {sl24 : Array (Option Value)} {oc24 kV24 dc24 pm24 cd24 ct24 : Value}
    {f25 : Addr} {od25 an25 : Option Addr} {sl25 : Array (Option Value)} {oc25 kV25 dc25 pm25 cd25 ct25 : Value}
    (a0 : PySem.W.nsIn K mainGlobals "row_size" = some (some (.ref f0))) (l0 : K.lookup f0 = some ⟨oc0, od0, .func (PySem.W.fnOf "row_size" "row_size" (defArgs srow_size) (defBody srow_size) (defScope srow_size) .none kV0 dc0 pm0 an0 cd0 ct0), sl0⟩) (c0 : PySem.W.codeIn K cd0 "row_size" = true) (k0 : PySem.W.keepIn K (.ref f0) = true)
    (a1 : PySem.W.nsIn K mainGlobals "size" = some (some (.ref f1))) (l1 : K.lookup f1 = some ⟨oc1, od1, .func (PySem.W.fnOf "size" "size" (defArgs ssize) (defBody ssize) (defScope ssize) .none kV1 dc1 pm1 an1 cd1 ct1), sl1⟩) (c1 : PySem.W.codeIn K cd1 "size" = true) (k1 : PySem.W.keepIn K (.ref f1) = true)
    (a2 : PySem.W.nsIn K mainGlobals "added" = some (some (.ref f2))) (l2 : K.lookup f2 = some ⟨oc2, od2, .func (PySem.W.fnOf "added" "added" (defArgs sadded) (defBody sadded) (defScope sadded) .none kV2 dc2 pm2 an2 cd2 ct2), sl2⟩) (c2 : PySem.W.codeIn K cd2 "added" = true) (k2 : PySem.W.keepIn K (.ref f2) = true)
    (a3 : PySem.W.nsIn K mainGlobals "multiplied" = some (some (.ref f3))) (l3 : K.lookup f3 = some ⟨oc3, od3, .func (PySem.W.fnOf "multiplied" "multiplied" (defArgs smultiplied) (defBody smultiplied) (defScope smultiplied) .none kV3 dc3 pm3 an3 cd3 ct3), sl3⟩) (c3 : PySem.W.codeIn K cd3 "multiplied" = true) (k3 : PySem.W.keepIn K (.ref f3) = true)
    (a4 : PySem.W.nsIn K mainGlobals "sums" = some (some (.ref f4))) (l4 : K.lookup f4 = some ⟨oc4, od4, .func (PySem.W.fnOf "sums" "sums" (defArgs ssums) (defBody ssums) (defScope ssums) .none kV4 dc4 pm4 an4 cd4 ct4), sl4⟩) (c4 : PySem.W.codeIn K cd4 "sums" = true) (k4 : PySem.W.keepIn K (.ref f4) = true)
    (a5 : PySem.W.nsIn K mainGlobals "is_even" = some (some (.ref f5))) (l5 : K.lookup f5 = some ⟨oc5, od5, .func (PySem.W.fnOf "is_even" "is_even" (defArgs sis_even) (defBody sis_even) (defScope sis_even) .none kV5 dc5 pm5 an5 cd5 ct5), sl5⟩) (c5 : PySem.W.codeIn K cd5 "is_even" = true) (k5 : PySem.W.keepIn K (.ref f5) = true)
    (a6 : PySem.W.nsIn K mainGlobals "begins" = some (some (.ref f6))) (l6 : K.lookup f6 = some ⟨oc6, od6, .func (PySem.W.fnOf "begins" "begins" (defArgs sbegins) (defBody sbegins) (defScope sbegins) .none kV6 dc6 pm6 an6 cd6 ct6), sl6⟩) (c6 : PySem.W.codeIn K cd6 "begins" = true) (k6 : PySem.W.keepIn K (.ref f6) = true)
    (a7 : PySem.W.nsIn K mainGlobals "height" = some (some (.ref f7))) (l7 : K.lookup f7 = some ⟨oc7, od7, .func (PySem.W.fnOf "height" "height" (defArgs sheight) (defBody sheight) (defScope sheight) .none kV7 dc7 pm7 an7 cd7 ct7), sl7⟩) (c7 : PySem.W.codeIn K cd7 "height" = true) (k7 : PySem.W.keepIn K (.ref f7) = true)
    (a8 : PySem.W.nsIn K mainGlobals "sign_begins" = some (some (.ref f8))) (l8 : K.lookup f8 = some ⟨oc8, od8, .func (PySem.W.fnOf "sign_begins" "sign_begins" (defArgs ssign_begins) (defBody ssign_begins) (defScope ssign_begins) .none kV8 dc8 pm8 an8 cd8 ct8), sl8⟩) (c8 : PySem.W.codeIn K cd8 "sign_begins" = true) (k8 : PySem.W.keepIn K (.ref f8) = true)
    (a9 : PySem.W.nsIn K mainGlobals "sign_height" = some (some (.ref f9))) (l9 : K.lookup f9 = some ⟨oc9, od9, .func (PySem.W.fnOf "sign_height" "sign_height" (defArgs ssign_height) (defBody ssign_height) (defScope ssign_height) .none kV9 dc9 pm9 an9 cd9 ct9), sl9⟩) (c9 : PySem.W.codeIn K cd9 "sign_height" = true) (k9 : PySem.W.keepIn K (.ref f9) = true)
    (a10 : PySem.W.nsIn K mainGlobals "_law_draw" = some (some (.ref f10))) (l10 : K.lookup f10 = some ⟨oc10, od10, .func (PySem.W.fnOf "_law_draw" "_law_draw" (defArgs s_law_draw) (defBody s_law_draw) (defScope s_law_draw) .none kV10 dc10 pm10 an10 cd10 ct10), sl10⟩) (c10 : PySem.W.codeIn K cd10 "_law_draw" = true) (k10 : PySem.W.keepIn K (.ref f10) = true)
    (a11 : PySem.W.nsIn K mainGlobals "_law_one" = some (some (.ref f11))) (l11 : K.lookup f11 = some ⟨oc11, od11, .func (PySem.W.fnOf "_law_one" "_law_one" (defArgs s_law_one) (defBody s_law_one) (defScope s_law_one) .none kV11 dc11 pm11 an11 cd11 ct11), sl11⟩) (c11 : PySem.W.codeIn K cd11 "_law_one" = true) (k11 : PySem.W.keepIn K (.ref f11) = true)
    (a12 : PySem.W.nsIn K mainGlobals "_law_mixed" = some (some (.ref f12))) (l12 : K.lookup f12 = some ⟨oc12, od12, .func (PySem.W.fnOf "_law_mixed" "_law_mixed" (defArgs s_law_mixed) (defBody s_law_mixed) (defScope s_law_mixed) .none kV12 dc12 pm12 an12 cd12 ct12), sl12⟩) (c12 : PySem.W.codeIn K cd12 "_law_mixed" = true) (k12 : PySem.W.keepIn K (.ref f12) = true)
    (a13 : PySem.W.nsIn K mainGlobals "_law_deck" = some (some (.ref f13))) (l13 : K.lookup f13 = some ⟨oc13, od13, .func (PySem.W.fnOf "_law_deck" "_law_deck" (defArgs s_law_deck) (defBody s_law_deck) (defScope s_law_deck) .none kV13 dc13 pm13 an13 cd13 ct13), sl13⟩) (c13 : PySem.W.codeIn K cd13 "_law_deck" = true) (k13 : PySem.W.keepIn K (.ref f13) = true)
    (a14 : PySem.W.nsIn K mainGlobals "_law_size" = some (some (.ref f14))) (l14 : K.lookup f14 = some ⟨oc14, od14, .func (PySem.W.fnOf "_law_size" "_law_size" (defArgs s_law_size) (defBody s_law_size) (defScope s_law_size) .none kV14 dc14 pm14 an14 cd14 ct14), sl14⟩) (c14 : PySem.W.codeIn K cd14 "_law_size" = true) (k14 : PySem.W.keepIn K (.ref f14) = true)
    (a15 : PySem.W.nsIn K mainGlobals "_law_sum" = some (some (.ref f15))) (l15 : K.lookup f15 = some ⟨oc15, od15, .func (PySem.W.fnOf "_law_sum" "_law_sum" (defArgs s_law_sum) (defBody s_law_sum) (defScope s_law_sum) .none kV15 dc15 pm15 an15 cd15 ct15), sl15⟩) (c15 : PySem.W.codeIn K cd15 "_law_sum" = true) (k15 : PySem.W.keepIn K (.ref f15) = true)
    (a16 : PySem.W.nsIn K mainGlobals "_law_load_size" = some (some (.ref f16))) (l16 : K.lookup f16 = some ⟨oc16, od16, .func (PySem.W.fnOf "_law_load_size" "_law_load_size" (defArgs s_law_load_size) (defBody s_law_load_size) (defScope s_law_load_size) .none kV16 dc16 pm16 an16 cd16 ct16), sl16⟩) (c16 : PySem.W.codeIn K cd16 "_law_load_size" = true) (k16 : PySem.W.keepIn K (.ref f16) = true)
    (a17 : PySem.W.nsIn K mainGlobals "_law_begins" = some (some (.ref f17))) (l17 : K.lookup f17 = some ⟨oc17, od17, .func (PySem.W.fnOf "_law_begins" "_law_begins" (defArgs s_law_begins) (defBody s_law_begins) (defScope s_law_begins) .none kV17 dc17 pm17 an17 cd17 ct17), sl17⟩) (c17 : PySem.W.codeIn K cd17 "_law_begins" = true) (k17 : PySem.W.keepIn K (.ref f17) = true)
    (a18 : PySem.W.nsIn K mainGlobals "_law_height" = some (some (.ref f18))) (l18 : K.lookup f18 = some ⟨oc18, od18, .func (PySem.W.fnOf "_law_height" "_law_height" (defArgs s_law_height) (defBody s_law_height) (defScope s_law_height) .none kV18 dc18 pm18 an18 cd18 ct18), sl18⟩) (c18 : PySem.W.codeIn K cd18 "_law_height" = true) (k18 : PySem.W.keepIn K (.ref f18) = true)
    (a19 : PySem.W.nsIn K mainGlobals "_law_row" = some (some (.ref f19))) (l19 : K.lookup f19 = some ⟨oc19, od19, .func (PySem.W.fnOf "_law_row" "_law_row" (defArgs s_law_row) (defBody s_law_row) (defScope s_law_row) .none kV19 dc19 pm19 an19 cd19 ct19), sl19⟩) (c19 : PySem.W.codeIn K cd19 "_law_row" = true) (k19 : PySem.W.keepIn K (.ref f19) = true)
    (a20 : PySem.W.nsIn K mainGlobals "_law_load" = some (some (.ref f20))) (l20 : K.lookup f20 = some ⟨oc20, od20, .func (PySem.W.fnOf "_law_load" "_law_load" (defArgs s_law_load) (defBody s_law_load) (defScope s_law_load) .none kV20 dc20 pm20 an20 cd20 ct20), sl20⟩) (c20 : PySem.W.codeIn K cd20 "_law_load" = true) (k20 : PySem.W.keepIn K (.ref f20) = true)
    (a21 : PySem.W.nsIn K mainGlobals "_law_even" = some (some (.ref f21))) (l21 : K.lookup f21 = some ⟨oc21, od21, .func (PySem.W.fnOf "_law_even" "_law_even" (defArgs s_law_even) (defBody s_law_even) (defScope s_law_even) .none kV21 dc21 pm21 an21 cd21 ct21), sl21⟩) (c21 : PySem.W.codeIn K cd21 "_law_even" = true) (k21 : PySem.W.keepIn K (.ref f21) = true)
    (a22 : PySem.W.nsIn K mainGlobals "_law_is_even" = some (some (.ref f22))) (l22 : K.lookup f22 = some ⟨oc22, od22, .func (PySem.W.fnOf "_law_is_even" "_law_is_even" (defArgs s_law_is_even) (defBody s_law_is_even) (defScope s_law_is_even) .none kV22 dc22 pm22 an22 cd22 ct22), sl22⟩) (c22 : PySem.W.codeIn K cd22 "_law_is_even" = true) (k22 : PySem.W.keepIn K (.ref f22) = true)
    (a23 : PySem.W.nsIn K mainGlobals "_law_negated" = some (some (.ref f23))) (l23 : K.lookup f23 = some ⟨oc23, od23, .func (PySem.W.fnOf "_law_negated" "_law_negated" (defArgs s_law_negated) (defBody s_law_negated) (defScope s_law_negated) .none kV23 dc23 pm23 an23 cd23 ct23), sl23⟩) (c23 : PySem.W.codeIn K cd23 "_law_negated" = true) (k23 : PySem.W.keepIn K (.ref f23) = true)
    (a24 : PySem.W.nsIn K mainGlobals "_law_any" = some (some (.ref f24))) (l24 : K.lookup f24 = some ⟨oc24, od24, .func (PySem.W.fnOf "_law_any" "_law_any" (defArgs s_law_any) (defBody s_law_any) (defScope s_law_any) .none kV24 dc24 pm24 an24 cd24 ct24), sl24⟩) (c24 : PySem.W.codeIn K cd24 "_law_any" = true) (k24 : PySem.W.keepIn K (.ref f24) = true)
    (a25 : PySem.W.nsIn K mainGlobals "law" = some (some (.ref f25))) (l25 : K.lookup f25 = some ⟨oc25, od25, .func (PySem.W.fnOf "law" "law" (defArgs slaw) (defBody slaw) (defScope slaw) .none kV25 dc25 pm25 an25 cd25 ct25), sl25⟩) (c25 : PySem.W.codeIn K cd25 "law" = true) (k25 : PySem.W.keepIn K (.ref f25) = true)
    (zlen : PySem.W.nsIn K mainGlobals "len" = some none)
    (zint : PySem.W.nsIn K mainGlobals "int" = some none)
    (zabs : PySem.W.nsIn K mainGlobals "abs" = some none)
    (zrange : PySem.W.nsIn K mainGlobals "range" = some none)
    (zlist : PySem.W.nsIn K mainGlobals "list" = some none)
    (ztuple : PySem.W.nsIn K mainGlobals "tuple" = some none)
    (zisinstance : PySem.W.nsIn K mainGlobals "isinstance" = some none)
    (zbool : PySem.W.nsIn K mainGlobals "bool" = some none)
    (zstr : PySem.W.nsIn K mainGlobals "str" = some none)
    (zsum : PySem.W.nsIn K mainGlobals "sum" = some none)
    (zall : PySem.W.nsIn K mainGlobals "all" = some none)
    (zset : PySem.W.nsIn K mainGlobals "set" = some none)
    (zrepr : PySem.W.nsIn K mainGlobals "repr" = some none)
    (zmax : PySem.W.nsIn K mainGlobals "max" = some none)
    (zzip : PySem.W.nsIn K mainGlobals "zip" = some none)
    :
    ∃ fd : FuncData, (∀ (s : Shared) (v : Value), BindsTo s fd ⟨[v], []⟩ [("script", v)]) ∧ ∀ base : Heap, K.In base → base.Ns mainGlobals mg → LawOk l.prog w K mg base 5 fa fd ["script"] (spLaw K) := by
  have e := hfa.symm.trans (PySem.W.mg_of X G a25)
  cases e
  have B : Bl mg := ⟨PySem.W.mg_none_of X G zlen, PySem.W.mg_none_of X G zint, PySem.W.mg_none_of X G zabs, PySem.W.mg_none_of X G zrange, PySem.W.mg_none_of X G zlist, PySem.W.mg_none_of X G ztuple, PySem.W.mg_none_of X G zisinstance, PySem.W.mg_none_of X G zbool, PySem.W.mg_none_of X G zstr, PySem.W.mg_none_of X G zsum, PySem.W.mg_none_of X G zall, PySem.W.mg_none_of X G zset, PySem.W.mg_none_of X G zrepr⟩
  have h_max := PySem.W.mg_none_of X G zmax
  have h_zip := PySem.W.mg_none_of X G zzip
  have F0 := fun_mk (st := srow_size) l0 c0 k0
  have m0 := PySem.W.mg_of X G a0
  have F1 := fun_mk (st := ssize) l1 c1 k1
  have m1 := PySem.W.mg_of X G a1
  have F2 := fun_mk (st := sadded) l2 c2 k2
  have m2 := PySem.W.mg_of X G a2
  have F3 := fun_mk (st := smultiplied) l3 c3 k3
  have m3 := PySem.W.mg_of X G a3
  have F4 := fun_mk (st := ssums) l4 c4 k4
  have m4 := PySem.W.mg_of X G a4
  have F5 := fun_mk (st := sis_even) l5 c5 k5
  have m5 := PySem.W.mg_of X G a5
  have F6 := fun_mk (st := sbegins) l6 c6 k6
  have m6 := PySem.W.mg_of X G a6
  have F7 := fun_mk (st := sheight) l7 c7 k7
  have m7 := PySem.W.mg_of X G a7
  have F8 := fun_mk (st := ssign_begins) l8 c8 k8
  have m8 := PySem.W.mg_of X G a8
  have F9 := fun_mk (st := ssign_height) l9 c9 k9
  have m9 := PySem.W.mg_of X G a9
  have F10 := fun_mk (st := s_law_draw) l10 c10 k10
  have m10 := PySem.W.mg_of X G a10
  have F11 := fun_mk (st := s_law_one) l11 c11 k11
  have m11 := PySem.W.mg_of X G a11
  have F12 := fun_mk (st := s_law_mixed) l12 c12 k12
  have m12 := PySem.W.mg_of X G a12
  have F13 := fun_mk (st := s_law_deck) l13 c13 k13
  have m13 := PySem.W.mg_of X G a13
  have F14 := fun_mk (st := s_law_size) l14 c14 k14
  have m14 := PySem.W.mg_of X G a14
  have F15 := fun_mk (st := s_law_sum) l15 c15 k15
  have m15 := PySem.W.mg_of X G a15
  have F16 := fun_mk (st := s_law_load_size) l16 c16 k16
  have m16 := PySem.W.mg_of X G a16
  have F17 := fun_mk (st := s_law_begins) l17 c17 k17
  have m17 := PySem.W.mg_of X G a17
  have F18 := fun_mk (st := s_law_height) l18 c18 k18
  have m18 := PySem.W.mg_of X G a18
  have F19 := fun_mk (st := s_law_row) l19 c19 k19
  have m19 := PySem.W.mg_of X G a19
  have F20 := fun_mk (st := s_law_load) l20 c20 k20
  have m20 := PySem.W.mg_of X G a20
  have F21 := fun_mk (st := s_law_even) l21 c21 k21
  have m21 := PySem.W.mg_of X G a21
  have F22 := fun_mk (st := s_law_is_even) l22 c22 k22
  have m22 := PySem.W.mg_of X G a22
  have F23 := fun_mk (st := s_law_negated) l23 c23 k23
  have m23 := PySem.W.mg_of X G a23
  have F24 := fun_mk (st := s_law_any) l24 c24 k24
  have m24 := PySem.W.mg_of X G a24
  have F25 := fun_mk (st := slaw) l25 c25 k25
  have m25 := PySem.W.mg_of X G a25
  have b0 := F0.binds (ps := ["row"]) fun _ _ _ _ _ _ us hl => match us, hl with | [_], _ => rfl
  have b1 := F1.binds (ps := ["load"]) fun _ _ _ _ _ _ us hl => match us, hl with | [_], _ => rfl
  have b2 := F2.binds (ps := ["one", "other"]) fun _ _ _ _ _ _ us hl => match us, hl with | [_, _], _ => rfl
  have b3 := F3.binds (ps := ["row", "number"]) fun _ _ _ _ _ _ us hl => match us, hl with | [_, _], _ => rfl
  have b4 := F4.binds (ps := ["kinds", "rows"]) fun _ _ _ _ _ _ us hl => match us, hl with | [_, _], _ => rfl
  have b5 := F5.binds (ps := ["load"]) fun _ _ _ _ _ _ us hl => match us, hl with | [_], _ => rfl
  have b6 := F6.binds (ps := ["load", "order"]) fun _ _ _ _ _ _ us hl => match us, hl with | [_, _], _ => rfl
  have b7 := F7.binds (ps := ["load", "order"]) fun _ _ _ _ _ _ us hl => match us, hl with | [_, _], _ => rfl
  have b8 := F8.binds (ps := ["load", "signs"]) fun _ _ _ _ _ _ us hl => match us, hl with | [_, _], _ => rfl
  have b9 := F9.binds (ps := ["load", "signs"]) fun _ _ _ _ _ _ us hl => match us, hl with | [_, _], _ => rfl
  have b10 := F10.binds (ps := ["deck", "many"]) fun _ _ _ _ _ _ us hl => match us, hl with | [_, _], _ => rfl
  have b11 := F11.binds (ps := ["deck", "items"]) fun _ _ _ _ _ _ us hl => match us, hl with | [_, _], _ => rfl
  have b12 := F12.binds (ps := ["deck", "items"]) fun _ _ _ _ _ _ us hl => match us, hl with | [_, _], _ => rfl
  have b13 := F13.binds (ps := ["script"]) fun _ _ _ _ _ _ us hl => match us, hl with | [_], _ => rfl
  have b14 := F14.binds (ps := ["row"]) fun _ _ _ _ _ _ us hl => match us, hl with | [_], _ => rfl
  have b15 := F15.binds (ps := ["kinds", "rows"]) fun _ _ _ _ _ _ us hl => match us, hl with | [_, _], _ => rfl
  have b16 := F16.binds (ps := ["load"]) fun _ _ _ _ _ _ us hl => match us, hl with | [_], _ => rfl
  have b17 := F17.binds (ps := ["load", "order"]) fun _ _ _ _ _ _ us hl => match us, hl with | [_, _], _ => rfl
  have b18 := F18.binds (ps := ["load", "order"]) fun _ _ _ _ _ _ us hl => match us, hl with | [_, _], _ => rfl
  have b19 := F19.binds (ps := ["deck", "kinds", "most"]) fun _ _ _ _ _ _ us hl => match us, hl with | [_, _, _], _ => rfl
  have b20 := F20.binds (ps := ["deck", "rows"]) fun _ _ _ _ _ _ us hl => match us, hl with | [_, _], _ => rfl
  have b21 := F21.binds (ps := ["deck", "rows"]) fun _ _ _ _ _ _ us hl => match us, hl with | [_, _], _ => rfl
  have b22 := F22.binds (ps := ["load"]) fun _ _ _ _ _ _ us hl => match us, hl with | [_], _ => rfl
  have b23 := F23.binds (ps := ["row"]) fun _ _ _ _ _ _ us hl => match us, hl with | [_], _ => rfl
  have b24 := F24.binds (ps := ["deck", "rows"]) fun _ _ _ _ _ _ us hl => match us, hl with | [_, _], _ => rfl
  refine ⟨PySem.W.fnOf "law" "law" (defArgs slaw) (defBody slaw) (defScope slaw) .none kV25 dc25 pm25 an25 cd25 ct25, fun s v => .of_eq rfl, fun base _ _ => ?_⟩
  have D_row_size : Dk l.prog w K mg base 1 "row_size" ["row"] (spRowSize K) := ⟨f0, _, ok_row_size F0 B h_max, m0, k0, b0⟩
  have D_size : Dk l.prog w K mg base 2 "size" ["load"] (spSize K) := ⟨f1, _, ok_size F1 B h_max D_row_size, m1, k1, b1⟩
  have D_added : Dk l.prog w K mg base 1 "added" ["one", "other"] (spAdded K) := ⟨f2, _, ok_added F2 B h_zip, m2, k2, b2⟩
  have D_multiplied : Dk l.prog w K mg base 1 "multiplied" ["row", "number"] (spMultiplied K) := ⟨f3, _, ok_multiplied F3 B, m3, k3, b3⟩
  have D_sums : Dk l.prog w K mg base 2 "sums" ["kinds", "rows"] (spSums K) := ⟨f4, _, ok_sums F4 B D_added, m4, k4, b4⟩
  have D_is_even : Dk l.prog w K mg base 3 "is_even" ["load"] (spIsEven K) := ⟨f5, _, ok_is_even F5 B D_sums, m5, k5, b5⟩
  have D_begins : Dk l.prog w K mg base 3 "begins" ["load", "order"] (spBegins K) := ⟨f6, _, ok_begins F6 B D_sums, m6, k6, b6⟩
  have D_height : Dk l.prog w K mg base 4 "height" ["load", "order"] (spHeight K) := ⟨f7, _, ok_height F7 B h_max D_row_size D_begins, m7, k7, b7⟩
  have D_sign_begins : Dk l.prog w K mg base 3 "sign_begins" ["load", "signs"] (spSignBegins K) := ⟨f8, _, ok_sign_begins F8 B h_zip D_sums D_multiplied, m8, k8, b8⟩
  have D_sign_height : Dk l.prog w K mg base 4 "sign_height" ["load", "signs"] (spSignHeight K) := ⟨f9, _, ok_sign_height F9 B h_max D_row_size D_sign_begins, m9, k9, b9⟩
  have D__law_draw : Dk l.prog w K mg base 1 "_law_draw" ["deck", "many"] spDraw := ⟨f10, _, ok_draw F10 B, m10, k10, b10⟩
  have D__law_one : Dk l.prog w K mg base 2 "_law_one" ["deck", "items"] spOne := ⟨f11, _, ok_one F11 B D__law_draw, m11, k11, b11⟩
  have D__law_mixed : Dk l.prog w K mg base 2 "_law_mixed" ["deck", "items"] spMixed := ⟨f12, _, ok_mixed F12 B D__law_draw, m12, k12, b12⟩
  have D__law_deck : Dk l.prog w K mg base 1 "_law_deck" ["script"] (spDeck K) := ⟨f13, _, ok_deck F13 B, m13, k13, b13⟩
  have D__law_size : Dk l.prog w K mg base 1 "_law_size" ["row"] (spRowSize K) := ⟨f14, _, ok_law_size F14 B h_max, m14, k14, b14⟩
  have D__law_sum : Dk l.prog w K mg base 1 "_law_sum" ["kinds", "rows"] (spSumP K) := ⟨f15, _, ok_sumP F15 B, m15, k15, b15⟩
  have D_sumL := D__law_sum.imp sum_of_P
  have D__law_load_size : Dk l.prog w K mg base 2 "_law_load_size" ["load"] (spSize K) := ⟨f16, _, ok_law_load_size F16 B h_max D__law_size, m16, k16, b16⟩
  have D__law_begins : Dk l.prog w K mg base 1 "_law_begins" ["load", "order"] (spBegins K) := ⟨f17, _, ok_law_begins F17 B, m17, k17, b17⟩
  have D__law_height : Dk l.prog w K mg base 2 "_law_height" ["load", "order"] (spHeight K) := ⟨f18, _, ok_law_height F18 B h_max D__law_size D__law_begins, m18, k18, b18⟩
  have D__law_row : Dk l.prog w K mg base 2 "_law_row" ["deck", "kinds", "most"] spRow := ⟨f19, _, ok_row F19 B D__law_draw, m19, k19, b19⟩
  have D__law_load : Dk l.prog w K mg base 3 "_law_load" ["deck", "rows"] (spLoad K) := ⟨f20, _, ok_load F20 B D__law_draw D__law_one D__law_row, m20, k20, b20⟩
  have D__law_even : Dk l.prog w K mg base 3 "_law_even" ["deck", "rows"] (spEven K) := ⟨f21, _, ok_even F21 B D__law_draw D__law_one D__law_row D_sumL D__law_mixed, m21, k21, b21⟩
  have D__law_is_even : Dk l.prog w K mg base 2 "_law_is_even" ["load"] (spIsEven K) := ⟨f22, _, ok_law_is_even F22 B D__law_size D__law_sum, m22, k22, b22⟩
  have D__law_negated : Dk l.prog w K mg base 1 "_law_negated" ["row"] (spNegated K) := ⟨f23, _, ok_law_negated F23 B, m23, k23, b23⟩
  have D__law_any : Dk l.prog w K mg base 4 "_law_any" ["deck", "rows"] (spLoad K) := ⟨f24, _, ok_any F24 B D__law_one D__law_load D__law_even, m24, k24, b24⟩
  have D_anyN := loadN D__law_any
  exact ok_law F25 B D__law_deck D_anyN D__law_mixed D__law_one D_size D_is_even D_begins D_height D_sign_begins D_sign_height D__law_load_size D__law_is_even D__law_begins D__law_height D__law_negated
end Nk
open PySem PySem.W PyProof.Rows in
set_option maxRecDepth 100000 in
set_option maxHeartbeats 0 in
theorem PySem.Challenge.cw_nearnought_k03_beginnings_and_heights_holds : PySem.Challenge.rw_nearnought_k03_beginnings_and_heights.Holds := by
  w_on; o_law; k_head; (case hw => w_witness2)
  k_fill
  refine Nk.walk_law (l := PySem.Challenge.rw_nearnought_k03_beginnings_and_heights) (n := 63) (k := 5) (sp := Nk.spLaw) (x := "script") rfl (by decide) rfl ⟨rfl, by decide, by decide⟩ (fun w h Y => PySem.W.kIn_of Y) ?F (fun K H a ns hl hS => ⟨a, ns, rfl, hS, hl, fun _ => rfl⟩)
  case F =>
    intro w mg fa h KX G hmg
    refine' Nk.all_mk KX G hmg ?a0 ?l0 ?c0 ?k0 ?a1 ?l1 ?c1 ?k1 ?a2 ?l2 ?c2 ?k2 ?a3 ?l3 ?c3 ?k3 ?a4 ?l4 ?c4 ?k4 ?a5 ?l5 ?c5 ?k5 ?a6 ?l6 ?c6 ?k6 ?a7 ?l7 ?c7 ?k7 ?a8 ?l8 ?c8 ?k8 ?a9 ?l9 ?c9 ?k9 ?a10 ?l10 ?c10 ?k10 ?a11 ?l11 ?c11 ?k11 ?a12 ?l12 ?c12 ?k12 ?a13 ?l13 ?c13 ?k13 ?a14 ?l14 ?c14 ?k14 ?a15 ?l15 ?c15 ?k15 ?a16 ?l16 ?c16 ?k16 ?a17 ?l17 ?c17 ?k17 ?a18 ?l18 ?c18 ?k18 ?a19 ?l19 ?c19 ?k19 ?a20 ?l20 ?c20 ?k20 ?a21 ?l21 ?c21 ?k21 ?a22 ?l22 ?c22 ?k22 ?a23 ?l23 ?c23 ?k23 ?a24 ?l24 ?c24 ?k24 ?a25 ?l25 ?c25 ?k25 ?zlen ?zint ?zabs ?zrange ?zlist ?ztuple ?zisinstance ?zbool ?zstr ?zsum ?zall ?zset ?zrepr ?zmax ?zzip
    (case a0 => k_is)
    (case l0 => k_is)
    (case c0 => k_is)
    (case k0 => k_is)
    (case a1 => k_is)
    (case l1 => k_is)
    (case c1 => k_is)
    (case k1 => k_is)
    (case a2 => k_is)
    (case l2 => k_is)
    (case c2 => k_is)
    (case k2 => k_is)
    (case a3 => k_is)
    (case l3 => k_is)
    (case c3 => k_is)
    (case k3 => k_is)
    (case a4 => k_is)
    (case l4 => k_is)
    (case c4 => k_is)
    (case k4 => k_is)
    (case a5 => k_is)
    (case l5 => k_is)
    (case c5 => k_is)
    (case k5 => k_is)
    (case a6 => k_is)
    (case l6 => k_is)
    (case c6 => k_is)
    (case k6 => k_is)
    (case a7 => k_is)
    (case l7 => k_is)
    (case c7 => k_is)
    (case k7 => k_is)
    (case a8 => k_is)
    (case l8 => k_is)
    (case c8 => k_is)
    (case k8 => k_is)
    (case a9 => k_is)
    (case l9 => k_is)
    (case c9 => k_is)
    (case k9 => k_is)
    (case a10 => k_is)
    (case l10 => k_is)
    (case c10 => k_is)
    (case k10 => k_is)
    (case a11 => k_is)
    (case l11 => k_is)
    (case c11 => k_is)
    (case k11 => k_is)
    (case a12 => k_is)
    (case l12 => k_is)
    (case c12 => k_is)
    (case k12 => k_is)
    (case a13 => k_is)
    (case l13 => k_is)
    (case c13 => k_is)
    (case k13 => k_is)
    (case a14 => k_is)
    (case l14 => k_is)
    (case c14 => k_is)
    (case k14 => k_is)
    (case a15 => k_is)
    (case l15 => k_is)
    (case c15 => k_is)
    (case k15 => k_is)
    (case a16 => k_is)
    (case l16 => k_is)
    (case c16 => k_is)
    (case k16 => k_is)
    (case a17 => k_is)
    (case l17 => k_is)
    (case c17 => k_is)
    (case k17 => k_is)
    (case a18 => k_is)
    (case l18 => k_is)
    (case c18 => k_is)
    (case k18 => k_is)
    (case a19 => k_is)
    (case l19 => k_is)
    (case c19 => k_is)
    (case k19 => k_is)
    (case a20 => k_is)
    (case l20 => k_is)
    (case c20 => k_is)
    (case k20 => k_is)
    (case a21 => k_is)
    (case l21 => k_is)
    (case c21 => k_is)
    (case k21 => k_is)
    (case a22 => k_is)
    (case l22 => k_is)
    (case c22 => k_is)
    (case k22 => k_is)
    (case a23 => k_is)
    (case l23 => k_is)
    (case c23 => k_is)
    (case k23 => k_is)
    (case a24 => k_is)
    (case l24 => k_is)
    (case c24 => k_is)
    (case k24 => k_is)
    (case a25 => k_is)
    (case l25 => k_is)
    (case c25 => k_is)
    (case k25 => k_is)
    (case zlen => k_is)
    (case zint => k_is)
    (case zabs => k_is)
    (case zrange => k_is)
    (case zlist => k_is)
    (case ztuple => k_is)
    (case zisinstance => k_is)
    (case zbool => k_is)
    (case zstr => k_is)
    (case zsum => k_is)
    (case zall => k_is)
    (case zset => k_is)
    (case zrepr => k_is)
    (case zmax => k_is)
    (case zzip => k_is)
