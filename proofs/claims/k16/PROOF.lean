import PyProof.Rows.All
import Wide.All
import OpenK.AllK
import Wide.FinOn
import HandS.ForMost
import HandS.Wide
import HandS.IsInst
import HandS.TupAny
import HandS.Conv
import KE.GoesMore
import KE.GoesEnum
import HandS.ForExc
import HandS.ExcInit
import HandS.ExcField
import HandS.TryMany
import HandS.Zip
import HandS.Walk
import KE.GoesZip
import PyProof.ExcBaseAll.OverflowError
import KE.KExcInit
import PyProof.NeKinds
import KE.KDictKeyed
import KE.KDictDisplayH
import KE.KDictWalk
import HandS.DictComp
import KE.SortData
import KE.KDictSum
import HandS.TupLe
import PyProof.EqLayable
import HandS.Base
import HandS.TupLen
import HandS.Deep
import PyProof.DictTruth
import HandS.ListItems
import KE.KDictItemsList
import HandS.TupMul
import KE.DataCmp
import HandS.Defaults
import HandS.WideBits
import HandS.Style
import KE.KDictZip
import HandS.Comp
import KE.KRevSl
import PySem.Challenge.RW_stepsound_k16_whole_alike_papers_judged
set_option Elab.async false
set_option linter.all false
set_option maxRecDepth 100000
namespace My
open PySem PySem.Spec PyProof.Rows L2

/-! ### heaps -/
theorem same_new {H : Hp} {p : Addr} {o : HO} (h : H p = none) : Same H (upd H p o) := fun b x e => by
  rw [upd_ne (ne_of_none e h)]
  exact e
theorem same_tup {K : PySem.W.Frag} {H H' : Hp} {a : Addr} {xs : List V} (e : Same H H') (h : SqT K H a xs) : SqT K H' a xs := by
  rcases h with (h | ⟨o, h⟩) | h
  · exact .inl (.inl (e _ _ h))
  · exact .inl (.inr ⟨o, e _ _ h⟩)
  · exact .inr h
/-- every tuple stands -/
def TupS (H H' : Hp) : Prop := ∀ b xs, H b = some (.tup xs) → H' b = some (.tup xs)
theorem Same.tupS {H H' : Hp} (e : Same H H') : TupS H H' := fun b xs h => e b _ h

/-! ### rules within a comprehension: the written part by its own name -/
theorem ix_tupK {X : Cx} {K : PySem.W.Frag} (h : X.K = K := by rfl) : IxR X (rIxT K) := by
  subst h
  exact ix_tup
theorem ix_listK {X : Cx} {K : PySem.W.Frag} (h : X.K = K := by rfl) : IxR X (rIxL K) := by
  subst h
  exact ix_list
def rLen (K : PySem.W.Frag) : List V → Hp → VK → Prop := fun xs H Q => ∃ p ys, xs = [.ref p] ∧ (SqL K H p ys ∨ SqT K H p ys) ∧ Q (.int ys.length) H
theorem call_lenK {X : Cx} {K : PySem.W.Frag} (h : X.K = K := by rfl) : CallR X (.builtin "len") (rLen K) := by
  subst h
  exact call_len_seq
/-! ### the drawer of a law: a dict of two lists and a number -/
def dd (c l : Addr) (k : Int) : List (Key × V) := [(.inr "cells", .ref c), (.inr "left", .ref l), (.inr "at", .int k)]
theorem nCL : ¬ ((Sum.inr ("cells" : Str) : Key) = Sum.inr ("left" : Str)) := by decide +kernel
theorem nCA : ¬ ((Sum.inr ("cells" : Str) : Key) = Sum.inr ("at" : Str)) := by decide +kernel
theorem nLC : ¬ ((Sum.inr ("left" : Str) : Key) = Sum.inr ("cells" : Str)) := by decide +kernel
theorem nLA : ¬ ((Sum.inr ("left" : Str) : Key) = Sum.inr ("at" : Str)) := by decide +kernel
theorem nAC : ¬ ((Sum.inr ("at" : Str) : Key) = Sum.inr ("cells" : Str)) := by decide +kernel
theorem nAL : ¬ ((Sum.inr ("at" : Str) : Key) = Sum.inr ("left" : Str)) := by decide +kernel
theorem dd_c (c l : Addr) (k : Int) : valV (dd c l k) (.inr "cells") = some (.ref c) := valV_pos rfl
theorem dd_l (c l : Addr) (k : Int) : valV (dd c l k) (.inr "left") = some (.ref l) := (valV_neg nCL).trans (valV_pos rfl)
theorem dd_a (c l : Addr) (k : Int) : valV (dd c l k) (.inr "at") = some (.int k) := (valV_neg nCA).trans ((valV_neg nLA).trans (valV_pos rfl))
theorem sCL : ¬ (("cells" : Str) = "left") := by decide +kernel
theorem sCA : ¬ (("cells" : Str) = "at") := by decide +kernel
theorem sLA : ¬ (("left" : Str) = "at") := by decide +kernel
theorem sAL : ¬ (("at" : Str) = "left") := by decide +kernel
theorem dd_pl (c l l' : Addr) (k : Int) : putK (dd c l k) (.inr "left") (.ref l') = dd c l' k := by
  simp [putK, dd, sCL, sAL]
theorem dd_pa (c l : Addr) (k k' : Int) : putK (dd c l k) (.inr "at") (.int k') = dd c l k' := by
  simp [putK, dd, sCA, sLA]
theorem dd_mk (c l : Addr) : mergeK [] [(Sum.inr "cells", V.ref c), (Sum.inr "left", V.ref l), (Sum.inr "at", V.int 0)] = dd c l 0 := by
  simp [mergeK, putK, dd, sCL, sCA, sLA]

/-- at m the drawer with its lists at c and l, for n draws more -/
structure Dr (H : Hp) (m c l : Addr) (n : Nat) : Prop where
  ex : ∃ (cs ls : List Int) (k : Int), H m = some (.dK (dd c l k)) ∧ H c = some (.lst (cs.map V.int)) ∧ H l = some (.lst (ls.map V.int)) ∧ c ≠ l ∧
    cs.length ≤ 63 ∧ ls.length ≤ 63 ∧ (∀ x ∈ ls, 0 ≤ x) ∧ 0 ≤ k ∧ k + (n : Int) ≤ 1000000
/-- all but the drawer's own stands; its list of what is left is the old one or new -/
structure Kp (m l : Addr) (H : Hp) (l' : Addr) (H' : Hp) : Prop where
  st : ∀ b o, H b = some o → b ≠ m → b ≠ l → H' b = some o
  nw : l' = l ∨ H l' = none
  dm : ∀ b, H' b = none → H b = none
theorem Kp.refl (m l : Addr) (H : Hp) : Kp m l H l H := ⟨fun _ _ h _ _ => h, .inl rfl, fun _ h => h⟩
theorem Kp.off {m l l' : Addr} {H H' : Hp} (k : Kp m l H l' H') {b : Addr} {o : HO} (h : H b = some o) (n : b ≠ l) : b ≠ l' := by
  rcases k.nw with e | e
  · rw [e]; exact n
  · exact ne_of_none h e
theorem Kp.trans {m l l' l'' : Addr} {H H' H'' : Hp} (a : Kp m l H l' H') (b : Kp m l' H' l'' H'') : Kp m l H l'' H'' := by
  refine ⟨fun q o h n1 n2 => b.st q o (a.st q o h n1 n2) n1 (a.off h n2), ?_, fun q e => a.dm q (b.dm q e)⟩
  rcases b.nw with e | e
  · rw [e]; exact a.nw
  · exact .inr (a.dm _ e)
/-- a new object -/
theorem Kp.new {m l : Addr} {H : Hp} {p : Addr} {o : HO} (h : H p = none) : Kp m l H l (upd H p o) := by
  refine ⟨fun b u e _ _ => same_new h b u e, .inl rfl, fun b e => ?_⟩
  unfold upd at e
  split at e
  · cases e
  · exact e
theorem Dr.new {H : Hp} {m c l n : Nat} {p : Addr} {o : HO} (d : Dr H m c l n) (h : H p = none) : Dr (upd H p o) m c l n := by
  obtain ⟨cs, ls, k, h1, h2, h3, r⟩ := d.ex
  exact ⟨cs, ls, k, same_new h _ _ h1, same_new h _ _ h2, same_new h _ _ h3, r⟩
/-- a change of another object than the drawer's -/
theorem Dr.set {H : Hp} {m c l n : Nat} {p : Addr} {o : HO} (d : Dr H m c l n) (n1 : p ≠ m) (n2 : p ≠ c) (n3 : p ≠ l) : Dr (upd H p o) m c l n := by
  obtain ⟨cs, ls, k, h1, h2, h3, r⟩ := d.ex
  exact ⟨cs, ls, k, (upd_ne n1.symm).trans h1, (upd_ne n2.symm).trans h2, (upd_ne n3.symm).trans h3, r⟩
theorem Dr.less {H : Hp} {m c l n k : Nat} (d : Dr H m c l n) (h : k ≤ n) : Dr H m c l k := by
  obtain ⟨cs, ls, z, h1, h2, h3, h4, h5, h6, h7, h8, h9⟩ := d.ex
  exact ⟨cs, ls, z, h1, h2, h3, h4, h5, h6, h7, h8, by omega⟩
theorem Dr.same {H H' : Hp} {m c l n : Nat} (d : Dr H m c l n) (s : Same H H') : Dr H' m c l n := by
  obtain ⟨cs, ls, k, h1, h2, h3, r⟩ := d.ex
  exact ⟨cs, ls, k, s _ _ h1, s _ _ h2, s _ _ h3, r⟩
theorem Kp.same {m l : Addr} {H H' : Hp} (s : Same H H') : Kp m l H l H' := ⟨fun b o h _ _ => s b o h, .inl rfl, fun _ h => s.free h⟩
/-- tuples stand -/
theorem Kp.tup {m c l l' n : Addr} {H H' : Hp} (k : Kp m l H l' H') (d : Dr H m c l n) : TupS H H' := fun b xs h => by
  obtain ⟨cs, ls, z, h1, h2, h3, r⟩ := d.ex
  exact k.st b _ h (ne_of h h1 nofun) (ne_of h h3 nofun)
end My

/-! Defs that write out data (repr): their promise is asked only where nothing is being written out around them. -/
namespace My
open PySem PySem.Spec PyProof.Rows L2
/-- as the layer's promise of a def, for calls around which no guard stands -/
structure FnG (P : Program) (w : World) (K : PySem.W.Frag) (mg : Str → Option Value) (base : Heap) (k : Nat) (f : Addr) (fd : FuncData)
    (ps : List Str) (sp : Sp) : Prop where
  len : ∀ vs H Q E, sp vs H Q E → vs.length = ps.length
  go : ∀ (A : Around) (outer : List Env) (s : Shared) (H : Hp) (args : Args) (us : List Value) (vs : List V) (Q : VK) (E : XK),
    A.guards = some [] → Room k A → Env0 P w K mg base A outer s H → BindsTo s fd args (ps.zip us) → Vals vs us → sp vs H Q E →
    codeAny (model P w) A (.call (.ref f) args) (CR CX0 outer P w H s Q E) s
section
variable {P : Program} {w : World} {K : PySem.W.Frag} {mg : Str → Option Value} {base : Heap}
theorem FnG.of {k : Nat} {f : Addr} {fd : FuncData} {ps : List Str} {sp : Sp} (F : FnOk P w K mg base CX0 k f fd ps sp) : FnG P w K mg base k f fd ps sp :=
  ⟨F.len, fun A o s H args us vs Q E _ hr => F.run A o s H args us vs Q E hr⟩
theorem okG {x qual : Str} {st : Stmt} {f : Addr} {fd : FuncData} {N ps : List Str} {k : Nat} {sp : Sp} (F : Fun K x qual st f fd)
    (S : FnScope N ps (defScope st)) (len : ∀ vs H Q E, sp vs H Q E → vs.length = ps.length)
    (body : ∀ (cdv : Value) (A : Around) (outer : List Env) (s : Shared) (H : Hp) (vs : List V) (Q : VK) (E : XK), A.guards = some [] →
      Room k (A.deeper (envOfC qual (defScope st) s.heap.objs.size f cdv)) → sp vs H Q E →
      ∃ t, PSs (cxOf CX0 P w K mg base N qual (defScope st) f cdv A outer s H E).nox (defBody st) t ∧
        t { nx := fun _ H' => Q .non H', rt := Q } (start N vs) H) :
    FnG P w K mg base (k + 1) f fd ps sp := by
  obtain ⟨oc, od, kV, doc, pm, an, cdv, ct, osl, rfl, lk, hcd⟩ := F.ex
  refine ⟨len, fun A outer s H args us vs Q E hg room env0 binds rel want => ?_⟩
  have inK : K.In s.heap := env0.mod.kin.keeps fun b o e => (env0.bs b o e).1
  have noLim : s.heap.NoLimit := env0.mod.nolimit.keeps fun b o e => (env0.bs b o e).1
  have kinds : ∀ y ∈ ps.zip us, (defScope st).names.lookup y.1 = some .local ∨
      ((defScope st).names.lookup y.1 = some .cell ∧ ((cellsFrom (s.heap.objs.size + 1) (defScope st).names []).lookup y.1).isSome = true) := by
    rintro ⟨n, v⟩ hy
    rcases S.par n (List.of_mem_zip hy).1 with q | q
    · exact Or.inl q
    · exact Or.inr ⟨q, PySem.W.cellsFrom_some _ _ _ (Or.inl q)⟩
  refine codeAny_call_function room.depth (inK _ _ lk) rfl S.co S.gen rfl (PySem.W.codeRec_of inK hcd)
    (binds _ _ _ _ ?_)
  refine wpAny_newFunctionEnv_cells S.kind kinds
    fun env he s1 x => ?_
  subst he
  refine ⟨noLim.keeps x.toInCall.keep,
    codeAny_func ?_⟩
  obtain ⟨t, ht, run⟩ := body cdv A outer s H vs Q E hg (room.deeper _) want
  have start0 : Inv (cxOf CX0 P w K mg base N qual (defScope st) f cdv A outer s H E) [] (start N vs) H s1 :=
    inv_start S room.hd env0 (len _ _ _ _ want) rel x
  refine wpAny_mono (ht.nox.run [] s1 (start N vs) H _ start0 run)
    (fun flow s' hs => ?_) fun e s' hs => hs
  have fin : ∀ {σ' : L2.St} {H' : Hp} {v : V} {u : Value}, Inv (cxOf CX0 P w K mg base N qual (defScope st) f cdv A outer s H E) [] σ' H' s' →
      RelV v u → Q v H' → CE outer P w H s Q u s' :=
    fun {_ H' v _} J rv q => ⟨v, H', J.os, J.bare, J.base, J.hok, rv, q⟩
  cases flow with
  | ret u =>
    obtain ⟨v, σ', H', J, rv, q⟩ := hs
    exact fin J rv q
  | next =>
    obtain ⟨σ', H', J, q⟩ := hs
    exact fin (v := V.non) (u := Value.none) J rfl q
  | brk => obtain ⟨_, _, _, q⟩ := hs; exact q.elim
  | cont => obtain ⟨_, _, _, q⟩ := hs; exact q.elim
end
section
variable {X : Cx}
theorem goG {k : Nat} {f : Addr} {fd : FuncData} {ps : List Str} {sp : Sp} {ds : List Value} {dvs : List V} {E : XK} {pins : List (Addr × Obj)} {σ : L2.St} {H : Hp} {s : Shared} {Q : VK} {us : List Value} {vs : List V}
    (F : FnG X.prog X.w X.K X.mg X.base k f fd ps sp) (hg : X.A.guards = some []) (hr : Room k X.A) (hb : Binds X.K fd ps ds) (hd : Vals dvs ds) (hx : Passes CX0 X E)
    (I : Inv X pins σ H s) (r : Vals vs us) (h : sp (vs ++ dvs) H Q E) :
    wpAny (model X.prog X.w) X.A (call (.ref f) us) (EP X pins σ Q) X.xe s := by
  have rr : Vals (vs ++ dvs) (us ++ ds) := r.append hd
  have len : (us ++ ds).length = ps.length := rr.length ▸ F.len _ _ _ _ h
  refine wpAny_call (codeAny_mono (F.go X.A X.stack s H ⟨us, []⟩ (us ++ ds) (vs ++ dvs) Q E hg hr I.env0 (hb s us I.kIn len) rr h) ?_)
  intro res s' hq
  match res, hq with
  | .error e, hq => exact hx pins σ H s e s' I hq
  | .ok (.ret u), hq => exact I.after hq
/-- f(e, ..), f writing out data -/
theorem pe_callG {k : Nat} {f : Addr} {fd : FuncData} {ps : List Str} {sp : Sp} {ds : List Value} {dvs : List V} {E : XK} {x : Str} {e : Expr} {es : List Expr} {t : TA} {p pos : Pos}
    (F : FnG X.prog X.w X.K X.mg X.base k f fd ps sp) (hgd : X.A.guards = some []) (hr : Room k X.A) (hg : Gl X x) (hm : X.mg x = some (.ref f)) (hk : PySem.W.keepIn X.K (.ref f) = true)
    (hb : Binds X.K fd ps ds) (hd : Vals dvs ds) (hx : Passes CX0 X E) (ha : PA X (e :: es) t) (hdb : (x == ("__debug__" : Str)) = false := by decide)
    (he : starEach (e :: es) X.env = (false, eval e X.env) :: starEach es X.env := by rfl)
    (hpl : (backTo pos (starEach es X.env)).any (·.1) = false := by rfl) :
    PE X (.Call (.Name x p) (e :: es) [] pos) (tCall sp dvs E t) := by
  refine ⟨fun pins s σ H Q I h => wpAny_Call_Name_kw (ld_glob I hg hm ?_ hdb)⟩
  refine PySem.W.callWith_K (h₀ := X.base) I.ok.mod.kin hk
    (thn (ha.run pos pins s σ H _ I h) fun us s1 ⟨vs, H1, I1, r, q⟩ => ⟨I1.kIn, ?_⟩) he hpl
  exact goG F hgd hr hb hd hx I1 r q

/-! ### repr -/
def rRepr (K : PySem.W.Frag) : List V → Hp → VK → Prop := fun xs H Q => ∃ (v : V) (d : PyData), xs = [v] ∧ Dp K H v d ∧ d.showable = true ∧ d.hasDict = false ∧
  d.depth ≤ 60 ∧ d.shown.length ≤ sizeLine ∧ Q (.str d.shown) H
theorem call_repr (hg : X.A.guards = some []) (hu : X.A.units + 64 < cLine) : CallR X (.builtin "repr") (rRepr X.K) := by
  intro pins s σ H xs us Q I r h
  obtain ⟨v, d, rfl, hd, hs, hn, hdp, hz, q⟩ := h
  obtain ⟨u, rfl, ru⟩ := vals1 r
  cases hd with
  | non =>
    cases ru
    exact P.repr_of_none ⟨.str _, H, I.tok _, ⟨_, rfl⟩, q⟩
  | bl b =>
    cases ru
    exact P.repr_of_bool ⟨.str _, H, I.tok _, ⟨_, rfl⟩, q⟩
  | int i =>
    obtain ⟨t, rfl⟩ := ru
    exact P.repr_of_int (of_decide_eq_true hs) ⟨.str _, H, I.tok _, ⟨_, rfl⟩, q⟩
  | str x =>
    obtain ⟨t, rfl⟩ := ru
    exact P.repr_of_str ⟨.str _, H, I.tok _, ⟨_, rfl⟩, q⟩ hz
  | @lst a xs ds h1 h2 =>
    cases ru
    obtain ⟨as, rd⟩ := Dp.reads I (.list ds) (.ref a) (.ref a) (.lst h1 h2) rfl
    refine repr_of_reads' rd hs (fun z => by rw [hn] at z; cases z) hg (by omega) (fun _ _ e => e) (fun h' u tk hk => ?_) hz
    exact ⟨.str _, H, I.kept hk, ⟨_, rfl⟩, q⟩
  | @tup a xs ds h1 h2 =>
    cases ru
    obtain ⟨as, rd⟩ := Dp.reads I (.tuple ds) (.ref a) (.ref a) (.tup h1 h2) rfl
    refine repr_of_reads' rd hs (fun z => by rw [hn] at z; cases z) hg (by omega) (fun _ _ e => e) (fun h' u tk hk => ?_) hz
    exact ⟨.str _, H, I.kept hk, ⟨_, rfl⟩, q⟩
end
end My

/-! The end of a law whose promise is asked where no guard stands. -/
namespace My
open PySem PySem.Spec PyProof.Rows L2
theorem law_callG {P : Program} {w : World} {K : PySem.W.Frag} {mg mb : Str → Option Value} {k : Nat} {fa a : Addr} {fd : FuncData} {x : Str} {sp : Sp} {s₁ : Shared} {vs : List Value} {ns : List Int}
    (inK : K.In s₁.heap) (glob : s₁.heap.Ns mainGlobals mg) (blt : s₁.heap.Ns builtinsNs mb) (boot : ∀ x : Str, x ≠ "__name__" → mb x = bootBuiltins x) (nolim : s₁.heap.NoLimit) (nogen : s₁.gens = #[])
    (hobj : s₁.heap.get? a = some { cls := .type "list", data := .seq vs.toArray }) (hints : IntsAre vs ns) (hlen : ns.length ≤ sizeLine) (room : Room k callerA)
    (F : ∀ base : Heap, K.In base → base.Ns mainGlobals mg → FnG P w K mg base k fa fd [x] sp) (binds : ∀ (s : Shared) (u : Value), BindsTo s fd ⟨[u], []⟩ [(x, u)])
    (want : ∀ H : Hp, Only H → SqL K H a (ns.map V.int) → sp [.ref a] H (fun v _ => v = .bl true) fun _ _ _ => False) :
    codeAny (model P w) callerA (.call (.ref fa) ⟨[.ref a], []⟩) (fun r s' => r = .ok (.ret (.bool true)) ∧ OldK s₁.heap s'.heap ∧ s'.os = s₁.os ∧ AllBare s'.gens) s₁ := by
  have relv := vals_ints hints
  have core : ∀ H : Hp, Only H → SqL K H a (ns.map V.int) → HOk P w H s₁.heap → (∀ b, H b ≠ none → b = a) → (H a ≠ none → K.lookup a = none) →
      codeAny (model P w) callerA (.call (.ref fa) ⟨[.ref a], []⟩) (fun r s' => r = .ok (.ret (.bool true)) ∧ OldK s₁.heap s'.heap ∧ s'.os = s₁.os ∧ AllBare s'.gens) s₁ := by
    intro H only seq ok one notK
    have up : ∀ {b : Addr} {o : Obj}, s₁.heap.get? b = some o → H b = none → (hidT s₁.heap H).get? b = some o := fun e n => hidT_get e n
    have dictFree : ∀ {b : Addr} {o : Obj} {es : Array DictEntry} {ep : Nat}, s₁.heap.get? b = some o → o.data = .dict es ep → H b = none := by
      intro b o es ep e d
      cases q : H b with
      | none => rfl
      | some u =>
        have eb : b = a := one b (fun z => by rw [q] at z; cases z)
        rw [eb, hobj] at e
        cases e
        exact Data.noConfusion (show Data.seq vs.toArray _ = Data.dict es ep from d)
    have nsUp : ∀ {b : Addr} {m : Str → Option Value}, s₁.heap.Ns b m → (hidT s₁.heap H).Ns b m :=
      fun {_ _} ⟨o, es, ep, e, d, r⟩ => ⟨o, es, ep, up e (dictFree e d), d, r⟩
    have kUp : K.In (hidT s₁.heap H) := by
      intro b o e
      refine up (inK b o e) ?_
      cases q : H b with
      | none => rfl
      | some u =>
        have eb : b = a := one b (fun z => by rw [q] at z; cases z)
        rw [eb, notK (fun z => by rw [← eb, q] at z; cases z)] at e
        cases e
    have mod : Mod K mg (hidT s₁.heap H) := ⟨kUp, nsUp glob, ⟨mb, nsUp blt, boot⟩, nolim.imp fun mc z => ⟨nsUp z.1, z.2⟩⟩
    have env0 : Env0 P w K mg (hidT s₁.heap H) callerA [] s₁ H :=
      ⟨rfl, mod, fun b o e => of_hidT e, Nat.le_of_eq (hidT_size _ _), trivial, fun b hb => absurd (show b ∈ ([] : List Addr) from hb) (by simp), ok, .of_eq nogen⟩
    have call := (F _ kUp (nsUp glob)).go callerA [] s₁ H ⟨[.ref a], []⟩ [.ref a] [.ref a] _ _ rfl room env0 (binds s₁ (.ref a)) (.cons rfl .nil) (want H only seq)
    refine codeAny_mono call fun r s' h => ?_
    match r, h with
    | .error e, h => exact (show False from h).elim
    | .ok (.ret u), h =>
      obtain ⟨v, H', os, bare, un, ok', rv, q⟩ := h
      obtain rfl : v = .bl true := q
      obtain rfl : u = Value.bool true := rv
      refine ⟨rfl, OldK.of_keep (fun b o e => ?_), os, bare⟩
      rcases only b with z | ⟨ob, xs, z⟩
      · exact un.keep b o e z (fun y => absurd (show b ∈ ([] : List Addr) from y) (by simp)) (by simp)
      · obtain ⟨e1, _⟩ := ok b _ z
        obtain ⟨e2, _⟩ := ok' b _ (un.frzs b ob _ z)
        rw [e] at e1
        cases e1
        exact e2
  cases hk : K.lookup a with
  | some o =>
    have e := inK a o hk
    rw [hobj] at e
    cases e
    have stands : SqL K (fun _ => none) a (ns.map V.int) := .inr ⟨_, vs.toArray, _, hk, rfl, rfl, rfl, by rw [List.size_toArray, hints.length]; exact hlen, by simpa using relv⟩
    exact core (fun _ => none) (fun _ => .inl rfl) stands (fun b u z => nomatch (show (none : Option HO) = some u from z)) (fun b z => absurd rfl z) fun z => absurd rfl z
  | none =>
    let o : Obj := { cls := .type "list", data := .seq vs.toArray }
    have atA : (fun b => if b = a then some (HO.frz o (.lst (ns.map V.int))) else none) a = some (.frz o (.lst (ns.map V.int))) := if_pos rfl
    refine core (fun b => if b = a then some (.frz o (.lst (ns.map V.int))) else none) (fun b => ?_) (.inl (.inr ⟨o, atA⟩)) (fun b u z => ?_) (fun b z => ?_) fun _ => hk
    · by_cases hb : b = a
      · exact .inr ⟨_, _, if_pos hb⟩
      · exact .inl (if_neg hb)
    · by_cases hb : b = a
      · have y := (if_pos hb).symm.trans z
        cases y
        rw [hb]
        exact ⟨hobj, by rw [List.length_map]; exact hlen, vs, _, relv, hobj⟩
      · exact nomatch (if_neg hb).symm.trans z
    · by_cases hb : b = a
      · exact hb
      · exact absurd (if_neg hb) z
theorem walk_ofG {l : PySem.W.OpenLaw} {n k : Nat} {q : Program} {loose : List Str} {XP : (Str → Option Value) → Heap → Prop} {YP : World → Heap → Prop} {d : DefRec}
    {K : Params → PySem.W.Frag} {sp : PySem.W.Frag → Sp} {x : Str}
    (hn : l.most = some n) (hn2 : n ≤ sizeLine) (hdf : d.params.defaults = []) (room : Room k callerA)
    (hY : ∀ (w : World) (h : Heap), YP w h → (K w.params).In h)
    (F : ∀ (w : World) (mg : Str → Option Value) (fa : Addr) (h : Heap), (K w.params).In h → h.Ns mainGlobals mg → mg d.name = some (.ref fa) →
      ∃ fd : FuncData, (∀ (s : Shared) (u : Value), BindsTo s fd ⟨[u], []⟩ [(x, u)]) ∧
        ∀ base : Heap, (K w.params).In base → base.Ns mainGlobals mg → FnG l.prog w (K w.params) mg base k fa fd [x] (sp (K w.params)))
    (want : ∀ (K : PySem.W.Frag) (H : Hp) (a : Addr) (ns : List Int), ns.length ≤ n → Only H → SqL K H a (ns.map V.int) → sp K [.ref a] H (fun v _ => v = .bl true) fun _ _ _ => False) :
    PySem.W.WalkO q loose XP YP l.row.toRowW d [] (fun f vs => PySem.call f vs) := by
  refine Att.attach_call hn hdf fun w s₀ s₁ mg mb fa o pm cd doc a vs ns G Y ho hd hcd hmg hobj hints hlen hg => ?_
  obtain ⟨fd, hb, hF⟩ := F w mg fa _ (hY w _ Y) G.T.g hmg
  exact law_callG (hY w _ Y) G.T.g G.T.b G.T.builtins G.T.nolimit hg hobj hints
    (Nat.le_trans hlen hn2) room hF hb fun H only seq => want (K w.params) H a ns hlen only seq
end My

/-! for i, x in enumerate(t), t a tuple. -/
namespace My
open PySem PySem.Spec PyProof.Rows L2
/-- what enumerate(v) makes: v's iterator and itself -/
def enumO (a : Addr) : Obj :=
  { cls := .type "enumerate",
    data := .fields #[.none, .bool false, .ref a, rawInt 0, .none, .none] }
set_option maxHeartbeats 1000000 in
theorem meets_enum1 {v : Value} {o : Obj} {G : Heap → Prop} (B : Begins v o G) :
    Meets (Builtin.«enumerate.__new__» ⟨[.type "enumerate", v], []⟩) (fun _ R s => G s.heap ∧
      R (.ok (.ret (.ref (s.heap.push o).objs.size)))
        { s with heap := (s.heap.push o).push (enumO s.heap.objs.size) }) :=
  .of_wp fun prog w A R s ⟨h1, h⟩ => by
    obtain ⟨hp, gens, drawn, tk, os⟩ := s
    have isSub := sub_enumerate
    have step : ∀ {A' : Around} {E : Value → Shared → Prop} {Q : Value → Shared → Prop}, Q (.ref hp.objs.size) ⟨hp.push o, gens, drawn, tk, os⟩ →
        wpAny (model prog w) A' (pyIter v) Q E ⟨hp, gens, drawn, tk, os⟩ :=
      fun q => B.iter prog w _ _ ⟨hp, gens, drawn, tk, os⟩ _ h1 q
    wp_walk using step
    refine wpAny_stack_any fun st => wpAny_pure ?_
    split
    · rename_i c _ _ _ _ _
      by_cases hc : (c == Value.type "enumerate") = true
      · rw [hc]
        wp_walk using step
        exact ⟨_, rfl, h⟩
      · rw [Bool.not_eq_true] at hc
        rw [hc]
        wp_walk using step
        exact ⟨_, rfl, h⟩
    · wp_walk using step
      exact ⟨_, rfl, h⟩
section
variable {prog : Program} {w : World} {A : Around} {E : Value → Shared → Prop} {s : Shared}
theorem enum_call1 {v : Value} {o : Obj} {G : Heap → Prop} {Q : Value → Shared → Prop} (B : Begins v o G) (h1 : G s.heap)
    (h : ∀ h', IsEnum h' (s.heap.objs.size + 1) s.heap.objs.size 0 .none → h'.get? s.heap.objs.size = some o →
      (∀ b u, s.heap.get? b = some u → h'.get? b = some u) → Q (.ref (s.heap.objs.size + 1)) { s with heap := h' }) :
    wpAny (model prog w) A (call (.type "enumerate") [v]) Q E s := by
  have size1 : (s.heap.push o).objs.size = s.heap.objs.size + 1 := Heap.size_push ..
  have made : IsEnum ((s.heap.push o).push (enumO s.heap.objs.size)) (s.heap.objs.size + 1) s.heap.objs.size 0 .none := by
    have z := Heap.get?_push_size (s.heap.push o) (o := enumO s.heap.objs.size) rfl
    rw [size1] at z
    exact z
  refine callType_new F.called_enumerate (by decide) (F.typeCall_enumerate_1 _) (F.newCall_enumerate_1 _)
    (fun obj => F.args_object_init_2 obj _) F.entry_enumerate_new (meets_enum1 B) ⟨h1, ?_⟩
  show _ ∧ _
  rw [size1]
  exact ⟨⟨_, made, rfl⟩, h _ made (Heap.get?_push_of_some _ (Heap.get?_push_size _ B.free)) fun b u x => Heap.get?_push_of_some _ (Heap.get?_push_of_some _ x)⟩
end
/-- the tuple at a, each item in a new pair with its number -/
def Itu (K : PySem.W.Frag) (a : Addr) : It where
  go i H := ∃ (xs : List V) (x : V), SqT K H a xs ∧ xs[i]? = some x
  yld i H v H' := ∃ T x, v = .ref T ∧ H T = none ∧ H' = upd H T (.tup [.int (i : Nat), x]) ∧ ∀ xs, SqT K H a xs → xs[i]? = some x
  stop i H := ∃ xs : List V, SqT K H a xs ∧ xs.length = i
def EnumAt (e it a : Addr) (i : Nat) (h : Heap) : Prop := (∃ old, IsEnum h e it ((i : Nat) : Int) old) ∧ h.IsTupleIter it a i ∧ e ≠ it
theorem turn_enumT {P : Program} {w : World} {K : PySem.W.Frag} {elts : List Expr} {kk : Nat} {tpos : Pos} (a e it : Addr) (hae : a ≠ e) (hai : a ≠ it) :
    Turn P w K (.Tuple elts kk tpos) (Itu K a) [e, it] e (EnumAt e it a) where
  mem := by simp
  obj := fun i h st b hb => by
    obtain ⟨⟨old, he⟩, ⟨o, ho, hc, hd⟩, _⟩ := st
    rcases List.mem_cons.mp hb with z | z
    · rw [z]; exact ⟨_, he, fun v q => nomatch q⟩
    · rw [List.mem_singleton.mp z]; exact ⟨o, ho, fun v q => by rw [hd] at q; cases q⟩
  keep := fun i h h' st k => by
    obtain ⟨⟨old, he⟩, hi, hne⟩ := st
    exact ⟨⟨old, k e (by simp) _ he⟩, hi.at fun o q => k it (by simp) o q, hne⟩
  item := by
    intro X hP hw hK hc i pins s σ H E I hf st hg
    subst hP hw hK
    obtain ⟨⟨old, he⟩, hit, hne⟩ := st
    obtain ⟨xs, x, hq, hx⟩ := hg
    obtain ⟨its, rv, p, hz⟩ := I.tuple hq
    obtain ⟨u, hu, ru⟩ := rv.get hx
    have helt : e < s.heap.objs.size := Heap.lt_size he
    have hilt : it < s.heap.objs.size := by
      obtain ⟨_, q, _⟩ := hit
      exact Heap.lt_size q
    have hlt : i < its.toArray.size := by
      rw [List.size_toArray]
      exact (List.getElem?_eq_some_iff.mp hu).1
    have hef : e ∉ [it, a] := by
      intro z
      rcases List.mem_cons.mp z with q | q
      · exact hne q
      · exact hae (List.mem_singleton.mp q).symm
    refine wpAny_pyNext_enum_itemD (Draws.tuple (A := X.A.in1) (I.ok.hd hc) it a hai its.toArray) he ⟨hit, p⟩ hlt hne hef fun y h' tk hy ho hst' hT hsz hk => ?_
    have hy' : y = u := by
      have z : its.toArray[i]? = some u := by simpa using hu
      exact Option.some.inj (hy.symm.trans z)
    subst hy'
    refine ⟨_, rfl, wpAny_letOwnedTupleGo_enum (s := { s with heap := h', toks := tk + 1 }) ho fun h'' he' sb => ?_⟩
    have hT2 : h''.get? s.heap.objs.size = some { cls := .type "tuple", data := .seq #[.int i tk, y] } :=
      (sb.2 _ (Nat.ne_of_gt helt)).trans hT
    have new : ObjOk X.prog X.w (upd H s.heap.objs.size (.tup [.int (i : Nat), x])) h'' s.heap.objs.size (.tup [.int (i : Nat), x]) :=
      ⟨(by decide : 2 ≤ sizeLine), [.int i tk, y], .cons ⟨_, rfl⟩ (.cons ru .nil), _, hT2, rfl, _, rfl⟩
    have I1 : Inv X pins σ (upd H s.heap.objs.size (.tup [.int (i : Nat), x])) { s with heap := h'', toks := tk + 1 } :=
      I.turnedNew (ch := [e, it])
        (fun b ob hb q => (sb.2 b (fun z => hb (by simp [z]))).trans (hk b ob (fun z => hb (by simp [z])) (fun z => hb (by simp [z])) q)) hf (Nat.le_refl _) new
    refine ⟨.ref s.heap.objs.size, _, I1, rfl, ⟨_, x, rfl, I.hok.fresh (Nat.le_refl _), rfl, fun ys hy => by rw [I.tuple_inj hy hq]; exact hx⟩,
      ⟨⟨y, ?_⟩, hst'.1.at fun o q => (sb.2 it (Ne.symm hne)).trans q, hne⟩, fun b hb => ?_⟩
    · rw [show ((i + 1 : Nat) : Int) = (i : Int) + 1 by omega]
      exact he'
    · have hlt : b < s.heap.objs.size := by
        rcases List.mem_cons.mp hb with z | z
        · rw [z]; exact helt
        · rw [List.mem_singleton.mp z]; exact hilt
      rw [upd_ne (Nat.ne_of_lt hlt)]
      exact (hf b hb).1
  done := by
    intro X hP hw hK hc i pins s σ H E I hf st hg
    subst hP hw hK
    obtain ⟨⟨old, he⟩, hit, hne⟩ := st
    obtain ⟨xs, hq, hx⟩ := hg
    obtain ⟨its, rv, p, hz⟩ := I.tuple hq
    obtain ⟨f0, f1, f2, f3, f4, f5⟩ := hf it (by simp)
    have hl : its.toArray.size = i := by rw [List.size_toArray, ← rv.length, hx]
    have st : its.toArray.size = i → (s.heap.IsTupleIter it a its.toArray.size ∧ s.heap.IsTuple a its.toArray) := fun z => ⟨z ▸ hit, p⟩
    refine wpAny_pyNext_enum_endD (Draws.tuple (A := X.A.in1) (I.ok.hd hc) it a hai its.toArray) he (st hl) fun h' eb => ⟨rfl, ?_⟩
    exact I.turned (t' := s.toks) (fun b o hb q => eb b o hb q) f0 f1 f3 f4 f5
  self := fun A i s Q E st h => by
    obtain ⟨⟨_, he⟩, _⟩ := st
    exact wpAny_pyIter_enum he h
def iEnumT (K : PySem.W.Frag) (ta : TA) : TI := fun σ H R => ta σ H fun vs H1 => ∃ a xs, vs = [.ref a] ∧ SqT K H1 a xs ∧ R (Itu K a) H1
theorem pi_enumT {X : Cx} {e : Expr} {ta : TA} {p pos tpos : Pos} {elts : List Expr} {kk : Nat} (hg : Gl X "enumerate") (hm : X.mg "enumerate" = none) (ha : PA X [e] ta)
    (hs : starEach [e] X.env = [(false, eval e X.env)] := by rfl) : PI X (.Tuple elts kk tpos) (.Call (.Name "enumerate" p) [e] [] pos) (iEnumT X.K ta) := by
  refine ⟨fun pins s σ H R I h => Call_ (ld_blt I hg hm boot_enumerate (PyProof.Rows.callWith_type1 ?_ hs rfl))⟩
  refine thn (ha.run pos pins s σ H _ I h) fun us s1 ⟨vs, H1, I1, r1, a, xs, ex, hq, q⟩ => ?_
  subst ex
  obtain ⟨u, rfl, ru⟩ := vals1 r1
  obtain rfl : u = Value.ref a := ru
  obtain ⟨its, rv, p', hz⟩ := I1.tuple hq
  have hlt : a < s1.heap.objs.size := (by obtain ⟨o, ho, _⟩ := p'; exact Heap.lt_size ho)
  refine enum_call1 (begins_tuple a its.toArray) p' fun h' he hit hk => wpAny_pyIter_enum he ?_
  have I2 : Inv X pins σ H1 { s1 with heap := h' } := I1.kept (t' := s1.toks) hk
  refine ⟨s1.heap.objs.size + 1, [s1.heap.objs.size + 1, s1.heap.objs.size], _, _, H1, rfl, I2,
    turn_enumT a (s1.heap.objs.size + 1) s1.heap.objs.size (Nat.ne_of_lt (Nat.lt_succ_of_lt hlt)) (Nat.ne_of_lt hlt), ⟨⟨.none, he⟩, ⟨_, hit, rfl, rfl⟩, Nat.succ_ne_self _⟩, fun b hb => ?_, q⟩
  have hle : s1.heap.objs.size ≤ b := by
    rcases List.mem_cons.mp hb with z | z
    · rw [z]; exact Nat.le_add_right _ _
    · rw [List.mem_singleton.mp z]; exact Nat.le_refl _
  exact I1.fpOk hle (I1.hok.fresh hle)
end My

/-! An own error whose __init__ stores no field: it has no dict. -/
namespace My
open PySem PySem.Spec PyProof.Rows L2
def tMk0 (C : Addr) (sp : Sp) (ta : TA) : L2.St → Hp → XK → Prop := fun σ H Q => ta σ H fun vs H1 => vs.length ≤ 1000 ∧ ∀ a, H1 a = none →
  sp (.ref a :: vs) (upd H1 a (exo a C none)) (fun v H2 => v = .non ∧ H2 a = some (exo a C none) ∧ Q (.ref C) none (del H2 a)) (fun _ _ _ => False)
section
variable {X : Cx}
theorem end_nodict {pins : List (Addr × Obj)} {σ : L2.St} {H1 H2 : Hp} {hp hp2 h2 : Heap} {g1 g2 : Array GenState} {d1 d2 : Drawn} {t1 t2 : Nat} {os1 os2 : OsState} {a C : Addr}
    (I1 : Inv X pins σ H1 ⟨hp, g1, d1, t1, os1⟩) (above : hp.objs.size ≤ a) (kept : ∀ b o, hp.get? b = some o → hp2.get? b = some o)
    (un : Un (frs X.stack) [] (upd H1 a (exo a C none)) H2 hp2 h2) (ok : HOk X.prog X.w H2 h2) (sameOs : os2 = os1) (bare : AllBare g2) (ea : H2 a = some (exo a C none)) :
    ∃ (t0 : Addr) (G : Heap), Inv X pins σ (del H2 a) ⟨G, g2, d2, t2, os2⟩ ∧ (∀ b o, G.get? b = some o → h2.get? b = some o) ∧ G.get? a = none ∧
      h2.get? a = some ({ cls := .ref C, dict := none, data := .fields #[.ref t0, .none, .none, .none, .bool false, .none] } : Obj) := by
  obtain ⟨t0, obj⟩ := exo_at ok ea
  have free : H1 a = none := I1.hok.fresh above
  obtain ⟨G, in1, in2⟩ := restrict h2 fun b => decide (b ≠ a)
  have same : ∀ b, b ≠ a → G.get? b = h2.get? b := fun b hb => in1 b (decide_eq_true hb)
  have gone : G.get? a = none := in2 a (by simp)
  have other : ∀ {b : Addr} {o : Obj}, hp.get? b = some o → b ≠ a :=
    fun {_ _} z => Nat.ne_of_lt (Nat.lt_of_lt_of_le (Heap.lt_size z) above)
  have still : ∀ {b : Addr}, b ≠ a → H1 b = none → upd H1 a (exo a C none) b = none := fun {_} hb n => (upd_ne hb).trans n
  have newU : Un (frs X.stack) [] H1 (del H2 a) hp G := {
    keep := fun b o z n hf hx => (same b (other z)).trans (un.keep b o (kept b o z) (still (other z) n) hf hx)
    slot := fun b o z n hf hx => by
      obtain ⟨sl, e⟩ := un.slot b o (kept b o z) (still (other z) n) hf hx
      exact ⟨sl, (same b (other z)).trans e⟩
    free := fun b o z n hx => (del_ne (other z)).trans (un.free b o (kept b o z) (still (other z) n) hx)
    there := fun b o z hx => by
      obtain ⟨u, e⟩ := un.there b o (kept b o z) hx
      exact ⟨u, (same b (other z)).trans e⟩
    tups := fun b xs z => (del_ne (ne_of_none z free)).trans (un.tups b xs ((upd_ne (ne_of_none z free)).trans z))
    frzs := fun b o v z => (del_ne (ne_of_none z free)).trans (un.frzs b o v ((upd_ne (ne_of_none z free)).trans z))
    tbls := fun b ps z => by
      obtain ⟨more, e⟩ := un.tbls b ps ((upd_ne (ne_of_none z free)).trans z)
      exact ⟨more, (del_ne (ne_of_none z free)).trans e⟩ }
  have newOk : HOk X.prog X.w (del H2 a) G := by
    intro b o z
    have hba : b ≠ a := fun e => by
      rw [e, del_same] at z
      cases z
    rw [del_ne hba] at z
    have notOwn : ∀ {c : Addr}, H2 c = some (.own b) → c ≠ a := fun {_} hc => at_ne ea hc exo_own
    refine (ok b o z).stay (fun c v hc y => ?_) (fun c hc => (del_ne (notOwn hc)).trans hc) (fun c xs hc => (del_ne (at_ne ea hc exo_tup)).trans hc)
    have hca : c ≠ a := by
      rcases hc with hc | hc
      · rw [hc]; exact hba
      · exact notOwn hc
    exact (same c hca).trans y
  refine ⟨t0, G, I1.call' (ch := []) sameOs newU newOk bare (fun b z => absurd z (by simp)), fun b o z => ?_, gone, obj⟩
  by_cases hba : b = a
  · rw [hba, gone] at z
    cases z
  · exact (same b hba).symm.trans z
theorem pmk0 {x : Str} {C fI : Addr} {k : Nat} {fd : FuncData} {ps : List Str} {sp : Sp} {e : Expr} {es : List Expr} {ta : TA} {p pos : Pos}
    (T : OexC X.K C) (iC : PySem.W.findIn X.K (.ref C) "__init__" = some (some (.ref fI))) (tI : PySem.W.typeIn X.K (.ref fI) = some (.type "function"))
    (F1 : FnOk X.prog X.w X.K X.mg X.base CX0 k fI fd ps sp) (hr : Room (k + 1) X.A) (hb : Binds X.K fd ps []) (hm : X.mg x = some (.ref C)) (ha : PA X (e :: es) ta) (hg : Gl X x := by rfl)
    (hdb : (x == ("__debug__" : Str)) = false := by decide) (he : starEach (e :: es) X.env = (false, eval e X.env) :: starEach es X.env := by rfl)
    (hpl : (backTo pos (starEach es X.env)).any (·.1) = false := by rfl) : PMk X (.Call (.Name x p) (e :: es) [] pos) (tMk0 C sp ta) := by
  intro pins s σ H Q I h
  obtain ⟨nm, q, N, bs, bm, sn, sub, ab, col, dd, k0, k1, k2, k3, k5, hC, hbm⟩ := T.cls
  refine wpAny_Call_Name_kw (ld_glob I hg hm ?_ hdb)
  refine PySem.W.callWith_K (h₀ := X.base) I.ok.mod.kin T.kC
    (thn (ha.run pos pins s σ H _ I h) fun us s1 ⟨vs, H1, I1, rel, few, want⟩ => ⟨I1.kIn, ?_⟩) he hpl
  show wpAny _ _ (call (.ref C) us) _ _ _
  obtain ⟨hp, g, dr, tk, os⟩ := s1
  have up : hp.objs.size ≤ hp.objs.size + 1 := Nat.le_succ _
  have goal1 := want (hp.objs.size + 1) (I1.hok.fresh up)
  have kept : ∀ b o, hp.get? b = some o → ((hp.push (PySem.W.kdv_tup us)).push (PySem.HandSPX.excO C hp.objs.size)).get? b = some o :=
    fun b o e => Heap.get?_push_of_some _ (Heap.get?_push_of_some _ e)
  have there : ((hp.push (PySem.W.kdv_tup us)).push (PySem.HandSPX.excO C hp.objs.size)).get? (hp.objs.size + 1) = some (PySem.HandSPX.excO C hp.objs.size) := by
    heap_get
  have I2 : Inv X pins σ (upd H1 (hp.objs.size + 1) (exo (hp.objs.size + 1) C none)) ⟨(hp.push (PySem.W.kdv_tup us)).push (PySem.HandSPX.excO C hp.objs.size), g, dr, tk, os⟩ :=
    I1.laid (t' := tk) (o := exo (hp.objs.size + 1) C none) kept up
      (exo_ok there)
  have rel2 : Vals (V.ref (hp.objs.size + 1) :: vs) (Value.ref (hp.objs.size + 1) :: us) := .cons rfl rel
  have len : (Value.ref (hp.objs.size + 1) :: us ++ []).length = ps.length := by
    have z := rel2.length
    rw [F1.len _ _ _ _ goal1] at z
    rw [List.append_nil]
    exact z.symm
  have small : us.length ≤ sizeLine := by
    rw [← Paired.length rel]
    exact Nat.le_trans few (by decide)
  have bind0 := hb _ (Value.ref (hp.objs.size + 1) :: us) I2.kIn len
  rw [List.append_nil] at bind0
  refine wpAny_call (PySem.HandSPX.call_own F.excBase_ValueError (fun Y => PySem.HandSPX.refsVE_contains Y bm hbm) (I1.kIn _ _ hC)
    (PySem.W.looks_findIn I1.kIn iC) (fun self => PySem.W.bind_fn I1.kIn self tI) small
    (codeAny_mono (F1.run _ X.stack _ _ ⟨Value.ref (hp.objs.size + 1) :: us, []⟩ (Value.ref (hp.objs.size + 1) :: us) _ _ (fun _ _ _ => False) (hr.make C us []) (I2.env0.make C us []) bind0 rel2 goal1) ?_))
  intro r s' hq
  match r, hq with
  | .error er, hq => exact (show False from hq).elim
  | .ok (.ret u), hq =>
    obtain ⟨v, H2, os2, bare2, un2, ok2, rv, rfl, ea, q2⟩ := hq
    obtain ⟨h2, g2, d2, t2, os'⟩ := s'
    obtain ⟨t0, G, J, inG, gone, obj⟩ := end_nodict (d2 := d2) (t2 := t2) I1 up kept un2 ok2 os2 bare2 ea
    exact ⟨rv, hp.objs.size + 1, _, _, ⟨G, g2, d2, t2, os'⟩, _, .ref C, none, rfl, J, inG, gone, obj, ⟨rfl, rfl⟩, rfl, rfl, del_same, rfl, bare2, raises_own T.exC T.tyC, q2⟩
theorem del_new {H : Hp} {a : Addr} {o : HO} (h : H a = none) : del (upd H a o) a = H := by
  funext b
  unfold del upd
  by_cases e : b = a
  · rw [if_pos e, e, h]
  · rw [if_neg e, if_neg e]
end
end My

/-! try with several clauses, each with a name for the exception or without one. -/
namespace My
open PySem PySem.Spec PyProof.Rows L2
abbrev Suite := Addr → Value → Option Addr → L2.TS
/-- where the suite goes on: the name's slot is emptied -/
def endsAs (D : Ends) (i : Nat) : Ends where
  nx := fun σ H => D.nx (σ.set i none) H
  rt := D.rt
  bk := fun σ H => D.bk (σ.set i none) H
  ct := fun σ H => D.ct (σ.set i none) H
def wHs (K : PySem.W.Frag) (Wout : WX) (D : Ends) : List (Value × Option Nat × Suite) → WX
  | [] => Wout
  | (c, none, ts) :: r => fun cls d σ H => ∃ b, PySem.W.exmOne K cls c = some b ∧
    (b = true → ∀ a, H a = none → ts a cls d D σ H) ∧ (b = false → wHs K Wout D r cls d σ H)
  | (c, some i, ts) :: r => fun cls d σ H => ∃ b, PySem.W.exmOne K cls c = some b ∧
    (b = true → ∀ a, H a = none → ts a cls d (endsAs D i) (σ.set i (some (.ref a))) H) ∧ (b = false → wHs K Wout D r cls d σ H)
def SuiteOk (X : Cx) (body : List Stmt) (ts : Suite) : Prop :=
  ∀ (a : Addr) (oe : Obj) (cls : Value) (d : Option Addr) (pn : List (Addr × Obj)), Zc cls d oe → (∃ vs, oe.data = .fields vs) →
    PSs (X.suite a ((a, oe) :: pn)) body (ts a cls d)
inductive Hs (X : Cx) : List ExceptHandler → List (Value × Option Nat × Suite) → Prop
  | nil : Hs X [] []
  | bare {x : Str} {c : Value} {ts : Suite} {b₀ : Stmt} {suite : List Stmt} {np pos' : Pos} {hds : List ExceptHandler} {l : List (Value × Option Nat × Suite)}
      (hc : Names X x c) (hsu : SuiteOk X (b₀ :: suite) ts) (r : Hs X hds l) : Hs X (.ExceptHandler (some (.Name x np)) none (b₀ :: suite) pos' :: hds) ((c, none, ts) :: l)
  | as {x n : Str} {i : Nat} {c : Value} {ts : Suite} {b₀ : Stmt} {suite : List Stmt} {np pos' : Pos} {hds : List ExceptHandler} {l : List (Value × Option Nat × Suite)}
      (hi : X.N[i]? = some n) (hln : X.env.kindOf n = some .local) (hc : Names X x c) (hsu : SuiteOk X (b₀ :: suite) ts) (r : Hs X hds l) :
      Hs X (.ExceptHandler (some (.Name x np)) (some n) (b₀ :: suite) pos' :: hds) ((c, some i, ts) :: l)
section
variable {X : Cx} {body : List Stmt} {h₀ : ExceptHandler} {hds : List ExceptHandler} {l : List (Value × Option Nat × Suite)} {pos : Pos} {tb : WX → L2.TS} {Wout : WX}
theorem ps_try_hs (stk : X.stack = X.env :: X.outer) (frm : X.env.frame = some X.env.locals) (nd : X.N.Nodup) (out : Takes X Wout)
    (hb : ∀ (W : WX) (pn : List (Addr × Obj)) (xe : Value → Shared → Prop), Takes (X.tr pn xe) W → PassesOwn (model X.prog X.w) X.A X.env xe → PSs (X.tr pn xe) body (tb W))
    (clauses : Hs X (h₀ :: hds) l) : PS X (.Try body (h₀ :: hds) [] [] pos) (fun D σ H => tb (wHs X.K Wout D l) D σ H) := by
  refine ⟨fun pins s σ H D I want => ?_⟩
  have ok := I.ok
  have frames : X.A.frames = some (X.env :: X.outer) := by rw [ok.frames, stk]
  refine wpAny_Try_except ?_
  let catcher : Value → Shared → Prop := fun e s₁ => wpAny (model X.prog X.w) X.A (noteFrame e X.env) (fun _ s₂ =>
    wpAny (model X.prog X.w) X.A (setFlight e none) (fun _ s₃ => wpAny (model X.prog X.w) X.A (handleBy e X.env (h₀ :: hds)) (SP X pins D) X.xe s₃) X.xe s₂) X.xe s₁
  have inBody := hb (wHs X.K Wout D l) (X.pn ++ pins) catcher (fun u s' xx => ?caught) PassesOwn.looking
  case caught =>
    obtain ⟨a, B, sI, pins', σ', H', cls, d, rfl, J', nb, up, sky, na, os, ag, wish⟩ := xx
    have J : Inv X pins σ' H' sI := J'.ofTry ok
    have sky' : Sky B (X.env :: X.outer) a (Zc cls d) X.env.locals s'.heap := stk ▸ sky
    show wpAny (model X.prog X.w) X.A (noteFrame (.ref a) X.env) _ _ _
    refine Sky.land Zc.steady frames frm sky' fun h3 fl3 up3 => ?_
    have J3 : Inv X pins σ' H' { s' with heap := h3 } := J.landed nb fl3.1 (up.trans up3) os ag
    obtain ⟨oe3, vs3, he3, hz3, hd3⟩ := fl3.there
    have noFrame : a ∉ frs (X.env :: X.outer) := fun hm => by
      obtain ⟨_, o', e', hnf⟩ := fl3.2.2.1.mem hm
      rw [he3] at e'
      cases e'
      exact hnf _ hd3
    have nL : a ≠ X.env.locals := fun z => noFrame (List.mem_filterMap.mpr ⟨X.env, List.mem_cons_self, by rw [frm, z]⟩)
    have nF : a ∉ X.fs := fun hm => by
      obtain ⟨e, he, q⟩ := List.mem_filterMap.mp hm
      exact noFrame (List.mem_filterMap.mpr ⟨e, List.mem_cons_of_mem _ he, q⟩)
    have S3 := J3.suite he3 hd3 na nL nF
    have typ : PySem.W.Looks (model X.prog X.w) h3 (typeOf (.ref a)) cls := fun A Q E s k q =>
      wpAny_typeOf_ref (k _ _ he3) (by rw [hz3.1]; exact q)
    have named : ∀ {x : Str} {c : Value} {np : Pos}, Names X x c → ∀ {Q : Value → Shared → Prop} {E : Value → Shared → Prop}, Q c { s' with heap := h3 } →
        wpAny (model X.prog X.w) (X.A.mark (some (.ref a))) (eval (.Name x np) X.env) Q E { s' with heap := h3 } := by
      intro x c np hc Q E q
      obtain ⟨hg, hdbg, hm | ⟨hm, hv, hnn⟩⟩ := hc
      · exact ld_glob (X := X.suite a ((a, oe3) :: (X.pn ++ pins))) S3 hg hm q
          hdbg
      · exact ld_blt (X := X.suite a ((a, oe3) :: (X.pn ++ pins))) S3 hg hm hv q
          hnn hdbg
    have go : ∀ {hds' : List ExceptHandler} {l' : List (Value × Option Nat × Suite)}, Hs X hds' l' → wHs X.K Wout D l' cls d σ' H' →
        wpAny (model X.prog X.w) X.A (handleBy (.ref a) X.env hds') (SP X pins D) X.xe { s' with heap := h3 } := by
      intro hds' l' hk
      induction hk with
      | nil =>
        intro wish
        refine wpAny_handleBy_nil ?_
        obtain ⟨k1, k2, k3, oe, vs, T, oT, ts', he, hz, hd, h1, hr⟩ := id fl3
        unfold PySem.passOn
        refine wpAny_bind (wpAny_field he hd h1 ?_)
        rw [if_neg (show ¬ ((Value.ref T == Value.none) = true) from by simp)]
        have away : wpAny (model X.prog X.w) X.A (setFlight (.ref a) X.env.frame) (fun _ s4 => wpAny (model X.prog X.w) X.A (throw (.ref a) : Sem Flow) (SP X pins D) X.xe s4) X.xe
            { s' with heap := h3 } := by
          rw [frm]
          refine HandSPX.setFlight_upZ fl3 fun h4 hh4 up4 => wpAny_throw (out _ _ ?_)
          exact ⟨a, B, sI, pins, σ', H', cls, d, rfl, J, nb, (up.trans up3).trans up4,
            .inr (.inr (by rw [stk]; exact hh4)), na, os, ag, wish⟩
        first
          | exact wpAny_bind (wpAny_pure (wpAny_bind away))
          | exact wpAny_bind away
      | @bare x c ts b₀ suite np pos' hds2 l2 hc hsu r ih =>
        intro wish
        obtain ⟨b, hb1, yes, no⟩ := wish
        refine wpAny_handleBy_cons (codeAny_handlers_test ?_) (fun q => by cases q)
        refine named hc ((PySem.W.exm_one (M := model X.prog X.w) J3.kIn typ hb1).here ?_)
        cases b with
        | true =>
          refine codeAny_handlers_suite (HandSPX.lands_againZ fl3 fun h4 fl4 up4 => ?_)
          have J4 : Inv X pins σ' H' { s' with heap := h4 } := J.landed nb fl4.1
            ((up.trans up3).trans up4) os ag
          obtain ⟨oe4, vs4, he4, hz4, hd4⟩ := fl4.there
          have S4 := J4.suite he4 hd4 na nL nF
          refine wpAny_mono ((hsu a oe4 cls d (X.pn ++ pins) hz4 ⟨_, hd4⟩).run [] _ _ H' _ S4 (yes rfl a na)) (fun f s6 hsp => ?_)
            (fun _ _ z => False.elim z)
          cases f with
          | next => exact hsp.imp fun _ ⟨H6, S6, q6⟩ => ⟨H6, S6.unsuite ok, q6⟩
          | brk => exact hsp.imp fun _ ⟨H6, S6, q6⟩ => ⟨H6, S6.unsuite ok, q6⟩
          | cont => exact hsp.imp fun _ ⟨H6, S6, q6⟩ => ⟨H6, S6.unsuite ok, q6⟩
          | ret u => exact hsp.imp fun _ ⟨σ6, H6, S6, r6, q6⟩ => ⟨σ6, H6, S6.unsuite ok, r6, q6⟩
        | false =>
          show wpAny _ X.A (handleBy (.ref a) X.env hds2) _ _ _
          exact ih (no rfl)
      | @as x n i c ts b₀ suite np pos' hds2 l2 hi hln hc hsu r ih =>
        intro wish
        obtain ⟨b, hb1, yes, no⟩ := wish
        refine wpAny_handleBy_cons (codeAny_handlers_test ?_) (fun q => by cases q)
        refine named hc ((PySem.W.exm_one (M := model X.prog X.w) J3.kIn typ hb1).here ?_)
        cases b with
        | true =>
          refine codeAny_handlers_suite_as (HandSPX.lands_againZ fl3 fun h4 fl4 up4 => ?_)
          have J4 : Inv X pins σ' H' { s' with heap := h4 } := J.landed nb fl4.1
            ((up.trans up3).trans up4) os ag
          obtain ⟨oe4, vs4, he4, hz4, hd4⟩ := fl4.there
          have S4 := J4.suite he4 hd4 na nL nF
          have hloc : Loc X.env.scope n := Or.inl hln
          refine store_ok (X := X.suite a ((a, oe4) :: (X.pn ++ pins))) (v := .ref a) S4 nd hi hloc rfl (fun s5 S5 => ?_)
            (Or.inr hln)
          refine wpAny_mono ((hsu a oe4 cls d (X.pn ++ pins) hz4 ⟨_, hd4⟩).run [] s5 _ H' _ S5 (yes rfl a na))
            (fun f s6 hsp => ?_) (fun _ _ z => False.elim z)
          have fin : ∀ {σ6 : L2.St} {H6 : Hp} {Q : Shared → Prop}, Inv (X.suite a ((a, oe4) :: (X.pn ++ pins))) [] σ6 H6 s6 → (∀ s7, Inv X pins (σ6.set i none) H6 s7 → Q s7) →
              wpAny (model X.prog X.w) X.A (do bindName X.env n .none; unbindBehindTheSuite X.env n pos') (fun _ s7 => Q s7) X.xe s6 :=
            fun {_ _ _} S6 hq => gone_ok (S6.unsuite ok) nd hi hln hq
          cases f with
          | next =>
            obtain ⟨σ6, H6, S6, q6⟩ := hsp
            exact fin S6 fun s7 J7 => ⟨σ6.set i none, H6, J7, q6⟩
          | brk =>
            obtain ⟨σ6, H6, S6, q6⟩ := hsp
            exact fin S6 fun s7 J7 => ⟨σ6.set i none, H6, J7, q6⟩
          | cont =>
            obtain ⟨σ6, H6, S6, q6⟩ := hsp
            exact fin S6 fun s7 J7 => ⟨σ6.set i none, H6, J7, q6⟩
          | ret u =>
            obtain ⟨v6, σ6, H6, S6, r6, q6⟩ := hsp
            exact fin S6 fun s7 J7 => ⟨v6, σ6.set i none, H6, J7, r6, q6⟩
        | false =>
          show wpAny _ X.A (handleBy (.ref a) X.env hds2) _ _ _
          exact ih (no rfl)
    exact go clauses wish
  refine wpAny_mono (inBody.run [] s σ H D (I.toTry _) want) (fun f s1 hsp => ?_) (fun e s1 he => he)
  cases f with
  | next => exact wpAny_execs_nil (hsp.imp fun _ ⟨H', J', q⟩ => ⟨H', J'.ofTry ok, q⟩)
  | brk => exact hsp.imp fun _ ⟨H', J', q⟩ => ⟨H', J'.ofTry ok, q⟩
  | cont => exact hsp.imp fun _ ⟨H', J', q⟩ => ⟨H', J'.ofTry ok, q⟩
  | ret u => exact hsp.imp fun _ ⟨σ', H', J', r, q⟩ => ⟨σ', H', J'.ofTry ok, r, q⟩
end
end My

/-! zip of two things, each a list or a tuple. -/
namespace My
open PySem PySem.Spec PyProof.Rows L2
/-- a list (k), or a tuple -/
def Sq (k : Bool) (K : PySem.W.Frag) (H : Hp) (a : Addr) (xs : List V) : Prop := match k with
  | true => SqL K H a xs
  | false => SqT K H a xs
def IsS (k : Bool) (h : Heap) (a : Addr) (items : Array Value) : Prop := match k with
  | true => h.IsList a items
  | false => h.IsTuple a items
def IsSI (k : Bool) (h : Heap) (it a : Addr) (i : Nat) : Prop := match k with
  | true => h.IsListIter it a i
  | false => h.IsTupleIter it a i
theorem IsSI.at {k : Bool} {h h' : Heap} {it a : Addr} {i : Nat} (x : IsSI k h it a i) (e : ∀ o, h.get? it = some o → h'.get? it = some o) : IsSI k h' it a i := by
  cases k with
  | true => exact Heap.IsListIter.at x e
  | false => exact Heap.IsTupleIter.at x e
theorem IsSI.nocell {k : Bool} {h : Heap} {it a : Addr} {i : Nat} (x : IsSI k h it a i) : ∃ o, h.get? it = some o ∧ ∀ v, o.data ≠ .cell v := by
  cases k with
  | true => obtain ⟨o, e, _, d⟩ := x; exact ⟨o, e, fun v q => by rw [d] at q; cases q⟩
  | false => obtain ⟨o, e, _, d⟩ := x; exact ⟨o, e, fun v q => by rw [d] at q; cases q⟩
theorem IsS.lt {k : Bool} {h : Heap} {a : Addr} {items : Array Value} (x : IsS k h a items) : a < h.objs.size := by
  cases k with
  | true => obtain ⟨o, e, _⟩ := x; exact Heap.lt_size e
  | false => obtain ⟨o, e, _⟩ := x; exact Heap.lt_size e
theorem drawsS {prog : Program} {w : World} {A : Around} (hh : A.handled = none) (k : Bool) (it a : Addr) (hne : a ≠ it) (items : Array Value) :
    Draws prog w A it [it, a] items.size (fun i v => items[i]? = some v) (fun i h => IsSI k h it a i ∧ IsS k h a items) := by
  cases k with
  | true => exact Draws.list hh it a hne items
  | false => exact Draws.tuple hh it a hne items
def itO (k : Bool) (a : Addr) : Obj := match k with
  | true => { cls := .type "list_iterator", data := .fields #[.ref a, .int 0 0] }
  | false => { cls := .type "tuple_iterator", data := .fields #[.ref a, .int 0 0] }
theorem beginsS (k : Bool) (a : Addr) (items : Array Value) : Begins (.ref a) (itO k a) fun h => IsS k h a items := by
  cases k with
  | true => exact begins_list a items
  | false => exact begins_tuple a items
theorem isSI_new {k : Bool} {h : Heap} {it a : Addr} (e : h.get? it = some (itO k a)) : IsSI k h it a 0 := by
  cases k with
  | true => exact ⟨_, e, rfl, rfl⟩
  | false => exact ⟨_, e, rfl, rfl⟩
theorem inv_sq {X : Cx} {pins : List (Addr × Obj)} {σ : L2.St} {H : Hp} {s : Shared} {k : Bool} {a : Addr} {xs : List V} (I : Inv X pins σ H s) (h : Sq k X.K H a xs) :
    ∃ its : List Value, Vals xs its ∧ IsS k s.heap a its.toArray := by
  cases k with
  | true => obtain ⟨its, r, p, _⟩ := I.list h; exact ⟨its, r, p.isList⟩
  | false => obtain ⟨its, r, p, _⟩ := I.tuple h; exact ⟨its, r, p⟩
theorem inv_sq_inj {X : Cx} {pins : List (Addr × Obj)} {σ : L2.St} {H : Hp} {s : Shared} {k : Bool} {a : Addr} {xs ys : List V} (I : Inv X pins σ H s) (h : Sq k X.K H a xs) (h' : Sq k X.K H a ys) : xs = ys := by
  cases k with
  | true => exact I.list_inj h h'
  | false => exact I.tuple_inj h h'
/-- both as they stand at each turn, the items in new pairs -/
def Itz2 (K : PySem.W.Frag) (k1 k2 : Bool) (a b : Addr) : It where
  go i H := ∃ (xs ys : List V) (x y : V), Sq k1 K H a xs ∧ Sq k2 K H b ys ∧ xs[i]? = some x ∧ ys[i]? = some y
  yld i H v H' := ∃ T x y, v = .ref T ∧ H T = none ∧ H' = upd H T (.tup [x, y]) ∧ (∀ xs, Sq k1 K H a xs → xs[i]? = some x) ∧ ∀ ys, Sq k2 K H b ys → ys[i]? = some y
  stop i H := ∃ xs ys : List V, Sq k1 K H a xs ∧ Sq k2 K H b ys ∧ i = min xs.length ys.length
theorem mem5 {c n : Nat} (h : c ∈ [n + 4, n + 2, n + 3, n, n + 1]) : n ≤ c ∧ c ≤ n + 4 := by
  have e : c = n + 4 ∨ c = n + 2 ∨ c = n + 3 ∨ c = n ∨ c = n + 1 := by simpa using h
  omega
theorem nm2 {x p q : Nat} (h1 : x ≠ p) (h2 : x ≠ q) : x ∉ [p, q] := fun h => by
  rcases List.mem_cons.mp h with e | e
  · exact h1 e
  · exact h2 (List.mem_singleton.mp e)
theorem sepS {n a b : Nat} (ha : a < n) (hb : b < n) : ZipSep2 (n + 4) (n + 2) (n + 3) n (n + 1) [n, a] [n + 1, b] :=
  ⟨Nat.ne_of_lt (by omega), Nat.ne_of_lt (by omega), Nat.ne_of_lt (by omega), Nat.ne_of_gt (by omega), List.mem_cons_self, nm2 (by omega) (by omega), nm2 (by omega) (by omega), Nat.ne_of_gt (by omega), List.mem_cons_self,
   nm2 (by omega) (by omega), nm2 (by omega) (by omega), nm2 (by omega) (by omega), nm2 (by omega) (by omega)⟩
def ZAt (k1 k2 : Bool) (n a b : Addr) (i : Nat) (h : Heap) : Prop := IsZip h (n + 4) (n + 2) (n + 3) .none ∧ IsTupOf2 h (n + 2) (.ref n) (.ref (n + 1)) ∧ (∃ x y, IsTupOf2 h (n + 3) x y) ∧ IsSI k1 h n a i ∧ IsSI k2 h (n + 1) b i
theorem turn_zipS {P : Program} {w : World} {K : PySem.W.Frag} {elts : List Expr} {kk : Nat} {tpos : Pos} {k1 k2 : Bool} {n a b : Nat} (ha : a < n) (hb : b < n) :
    Turn P w K (.Tuple elts kk tpos) (Itz2 K k1 k2 a b) [n + 4, n + 2, n + 3, n, n + 1] (n + 4) (ZAt k1 k2 n a b) where
  mem := by simp
  obj := fun i h st c hc => by
    obtain ⟨hz, hTI, ⟨x, y, hTO⟩, h1, h2⟩ := st
    have e' : c = n + 4 ∨ c = n + 2 ∨ c = n + 3 ∨ c = n ∨ c = n + 1 := by simpa using hc
    rcases e' with q | q | q | q | q
    · rw [q]; exact ⟨_, hz, fun v q => nomatch q⟩
    · rw [q]; exact ⟨_, hTI, fun v q => nomatch q⟩
    · rw [q]; exact ⟨_, hTO, fun v q => nomatch q⟩
    · rw [q]; exact h1.nocell
    · rw [q]; exact h2.nocell
  keep := fun i h h' st k => by
    obtain ⟨hz, hTI, ⟨x, y, hTO⟩, h1, h2⟩ := st
    exact ⟨k _ (by simp) _ hz, k _ (by simp) _ hTI, ⟨x, y, k _ (by simp) _ hTO⟩, h1.at fun o q => k _ (by simp) o q, h2.at fun o q => k _ (by simp) o q⟩
  item := by
    intro X hP hw hK hc i pins s σ H E I hf st hg
    subst hP hw hK
    obtain ⟨hz, hTI, ⟨x0, y0, hTO⟩, h1, h2⟩ := st
    obtain ⟨xs, ys, x, y, hqx, hqy, hx, hy⟩ := hg
    obtain ⟨its, rv, p⟩ := inv_sq I hqx
    obtain ⟨its2, rv2, p2⟩ := inv_sq I hqy
    obtain ⟨u, hu, ru⟩ := rv.get hx
    obtain ⟨u2, hu2, ru2⟩ := rv2.get hy
    have hzl : n + 4 < s.heap.objs.size := Heap.lt_size hz
    have l1 : i < its.toArray.size := by rw [List.size_toArray]; exact (List.getElem?_eq_some_iff.mp hu).1
    have l2 : i < its2.toArray.size := by rw [List.size_toArray]; exact (List.getElem?_eq_some_iff.mp hu2).1
    refine wpAny_pyNext_zipD2_item (sepS ha hb) (drawsS (A := X.A.in1) (I.ok.hd hc) k1 n a (Nat.ne_of_lt ha) its.toArray) (drawsS (A := X.A.in1) (I.ok.hd hc) k2 (n + 1) b (Nat.ne_of_lt (Nat.lt_of_lt_of_le hb (Nat.le_succ _))) its2.toArray) hz hTI hTO ⟨h1, p⟩ ⟨h2, p2⟩ l1 l2
      fun x1 x2 h' tk y1 y2 z' TO' s1 s2 hT hsz hk => ?_
    have e1 : x1 = u := by
      have z : its.toArray[i]? = some u := by simpa using hu
      exact Option.some.inj (y1.symm.trans z)
    have e2 : x2 = u2 := by
      have z : its2.toArray[i]? = some u2 := by simpa using hu2
      exact Option.some.inj (y2.symm.trans z)
    subst e1 e2
    refine ⟨_, rfl, wpAny_letOwnedTupleGo_zip (s := { s with heap := h', toks := tk }) z' fun h'' z'' sb => ?_⟩
    have hT2 : h''.get? s.heap.objs.size = some { cls := .type "tuple", data := .seq #[x1, x2] } := (sb.2 _ (Nat.ne_of_gt hzl)).trans hT
    have new : ObjOk X.prog X.w (upd H s.heap.objs.size (.tup [x, y])) h'' s.heap.objs.size (.tup [x, y]) :=
      ⟨by show 2 ≤ sizeLine; decide, [x1, x2], .cons ru (.cons ru2 .nil), ⟨_, hT2, rfl, _, rfl⟩⟩
    have I1 : Inv X pins σ (upd H s.heap.objs.size (.tup [x, y])) { s with heap := h'', toks := tk } :=
      I.turnedNew (ch := [n + 4, n + 2, n + 3, n, n + 1]) (fun c o hb q => (sb.2 c (fun q' => hb (by simp [q']))).trans (hk c o (fun q' => hb (by simp [q'])) (fun q' => hb (by simp [q'])) (fun q' => hb (by simp [q'])) (fun q' => hb (by simp [q'])) q)) hf (Nat.le_refl _) new
    refine ⟨.ref s.heap.objs.size, _, I1, rfl, ⟨_, x, y, rfl, I.hok.fresh (Nat.le_refl _), rfl, fun l hl => by rw [inv_sq_inj I hl hqx]; exact hx, fun l hl => by rw [inv_sq_inj I hl hqy]; exact hy⟩, ⟨z'', ?_, ⟨x1, x2, ?_⟩, ?_, ?_⟩, fun c hcm => ?_⟩
    · exact (sb.2 _ (sepS ha hb).TIz).trans (hk _ _ (sepS ha hb).TIz (sepS ha hb).TITO (sepS ha hb).TIi1 (sepS ha hb).TIi2 hTI)
    · exact (sb.2 _ (sepS ha hb).TOz).trans TO'
    · exact s1.1.at fun o q => (sb.2 _ (Ne.symm (sepS ha hb).zi1)).trans q
    · exact s2.1.at fun o q => (sb.2 _ (Ne.symm (sepS ha hb).zi2)).trans q
    · have hlt : c < s.heap.objs.size := Nat.lt_of_le_of_lt (mem5 hcm).2 hzl
      rw [upd_ne (Nat.ne_of_lt hlt)]
      exact (hf c hcm).1
  done := by
    intro X hP hw hK hc i pins s σ H E I hf st hg
    subst hP hw hK
    obtain ⟨hz, hTI, ⟨x0, y0, hTO⟩, h1, h2⟩ := st
    obtain ⟨xs, ys, hqx, hqy, hend⟩ := hg
    obtain ⟨its, rv, p⟩ := inv_sq I hqx
    obtain ⟨its2, rv2, p2⟩ := inv_sq I hqy
    have l1 := rv.length
    have l2 := rv2.length
    refine wpAny_pyNext_zipD2_end (sepS ha hb) (drawsS (A := X.A.in1) (I.ok.hd hc) k1 n a (Nat.ne_of_lt ha) its.toArray) (drawsS (A := X.A.in1) (I.ok.hd hc) k2 (n + 1) b (Nat.ne_of_lt (Nat.lt_of_lt_of_le hb (Nat.le_succ _))) its2.toArray) hz hTI hTO ⟨h1, p⟩ ⟨h2, p2⟩
      (by rw [List.size_toArray]; omega) (by rw [List.size_toArray]; omega) (by rw [List.size_toArray, List.size_toArray]; omega) fun h' tk hk => ⟨rfl, I.turnedL (t' := tk) (ch := [n + 4, n + 2, n + 3, n, n + 1]) (fun c o hb q =>
      hk c o (fun q' => hb (by simp [q'])) (fun q' => hb (by simp [q'])) (fun q' => hb (by simp [q'])) (fun q' => hb (by simp [q'])) q) hf⟩
  self := fun A i s Q E st h => wpAny_pyIter_zip st.1 h
def iZipS (K : PySem.W.Frag) (ta : TA) : TI := fun σ H R => ta σ H fun vs H1 => ∃ a b xs ys k1 k2, vs = [.ref a, .ref b] ∧ Sq k1 K H1 a xs ∧ Sq k2 K H1 b ys ∧ R (Itz2 K k1 k2 a b) H1
theorem pi_zipS {X : Cx} {e e2 : Expr} {ta : TA} {p pos tpos : Pos} {elts : List Expr} {kk : Nat} (hg : Gl X "zip") (hm : X.mg "zip" = none) (ha : PA X [e, e2] ta)
    (hs : starEach [e, e2] X.env = (false, eval e X.env) :: starEach [e2] X.env := by rfl) (hpl : (backTo pos (starEach [e2] X.env)).any (·.1) = false := by rfl) :
    PI X (.Tuple elts kk tpos) (.Call (.Name "zip" p) [e, e2] [] pos) (iZipS X.K ta) := by
  refine ⟨fun pins s σ H R I h => ?_⟩
  refine Call_ (ld_blt I hg hm PyProof.Rows.boot_zip (PyProof.Rows.callWith_type1 (thn (ha.run pos pins s σ H _ I h) fun us s1 ⟨vs, H1, I1, r1, q1⟩ => ?_) hs hpl))
  obtain ⟨a, b, xs, ys, k1, k2, ex, hqx, hqy, q⟩ := q1
  subst ex
  cases r1 with
  | cons r rr =>
    cases rr with
    | cons r' rr =>
      cases rr
      cases r
      cases r'
      obtain ⟨its, rv, p1⟩ := inv_sq I1 hqx
      obtain ⟨its2, rv2, p2⟩ := inv_sq I1 hqy
      refine zip_begins2 (beginsS k1 a its.toArray) (beginsS k2 b its2.toArray) p1 p2 fun h' hz hTI hTO h1 h2 hsz hk => wpAny_pyIter_zip hz ?_
      have I2 : Inv X pins σ H1 { s1 with heap := h' } := I1.kept (t' := s1.toks) hk
      refine ⟨s1.heap.objs.size + 4, [s1.heap.objs.size + 4, s1.heap.objs.size + 2, s1.heap.objs.size + 3, s1.heap.objs.size, s1.heap.objs.size + 1], _, _, H1, rfl, I2, turn_zipS (k1 := k1) (k2 := k2) (IsS.lt p1) (IsS.lt p2), ⟨hz, hTI, ⟨_, _, hTO⟩, isSI_new h1, isSI_new h2⟩, fun c hcm => ?_, q⟩
      have hle : s1.heap.objs.size ≤ c := (mem5 hcm).1
      exact I1.fpOk hle (I1.hok.fresh hle)
theorem pi_zipSK {X : Cx} {K : PySem.W.Frag} {e e2 : Expr} {ta : TA} {p pos tpos : Pos} {elts : List Expr} {kk : Nat} (hg : Gl X "zip") (hm : X.mg "zip" = none) (ha : PA X [e, e2] ta)
    (hK : X.K = K := by rfl) (hs : starEach [e, e2] X.env = (false, eval e X.env) :: starEach [e2] X.env := by rfl) (hpl : (backTo pos (starEach [e2] X.env)).any (·.1) = false := by rfl) :
    PI X (.Tuple elts kk tpos) (.Call (.Name "zip" p) [e, e2] [] pos) (iZipS K ta) := by
  subst hK
  exact pi_zipS hg hm ha hs hpl
theorem walk_zipS {K : PySem.W.Frag} {k1 k2 : Bool} {a b : Addr} {xs ys : List V} {n : Nat} (hn : n = min xs.length ys.length) :
    Walk (Itz2 K k1 k2 a b) n (fun H => Sq k1 K H a xs ∧ Sq k2 K H b ys) (YPair (fun i => xs[i]?) (fun i => ys[i]?)) :=
  ⟨fun i _ hi q => ⟨xs, ys, xs[i]'(by omega), ys[i]'(by omega), q.1, q.2, List.getElem?_eq_getElem (by omega), List.getElem?_eq_getElem (by omega)⟩,
   fun _ q => ⟨xs, ys, q.1, q.2, hn⟩,
   fun i H v H' _ q y => by
    obtain ⟨T, x, z, e1, e2, e3, f1, f2⟩ := y
    exact ⟨T, x, z, e1, e2, e3, f1 xs q.1, f2 ys q.2⟩⟩
end My

set_option maxHeartbeats 4000000
/-! an own error over OverflowError whose __init__ stores one field -/
namespace My
open PySem PySem.Spec PyProof.Rows L2
def oeTail : List Value := [.type "OverflowError", .type "ArithmeticError", .type "Exception", .type "BaseException", .type "object"]
/-- what is asked of the class -/
structure TgC (K : PySem.W.Frag) (C : Addr) : Prop where
  look : ∃ nm q N bs sn sub ab col dd k0 k1 k2 k3 k5, K.lookup C =
    some (excClassObj nm q C N bs oeTail true sn sub ab col dd k0 k1 k2 k3 k5 "OverflowError.__new__")
  setter : PySem.W.findIn K (.ref C) "__setattr__" = some (some (.builtin "object.__setattr__"))
  base : PySem.W.subIn K (.ref C) (.type "BaseException") = some true
  ofType : PySem.W.typeIn K (.ref C) = some (.type "type")
  keep : PySem.W.keepIn K (.ref C) = true
section
open PySem.W PySem.Calls PySem.HandSPX Builtin Builtin.ObjectAttr
variable {prog : Program} {w : World} {A : Around} {R : Result → Shared → Prop} {hp : Heap} {g : Array GenState} {d : Drawn} {t : Nat} {os : OsState}
theorem put_field {K : W.Frag} {name : Str} {tk : Tok} {v : Value} {x C : Addr} {fv : Array Value} {cd : ClassData}
    (inK : K.In hp) (atX : hp.get? x = some { cls := .ref C, data := .fields fv }) (ofC : W.clsIn K C = some cd) (order : cd.mro = .ref C :: oeTail)
    (dict : cd.hasDict = true) (free : W.findIn K (.ref C) name = some none)
    (go : ∀ h2 tk2 dx, (∀ b o, b ≠ x → hp.get? b = some o → h2.get? b = some o) → hp.objs.size ≤ dx → dx ≠ x →
      h2.get? x = some { cls := .ref C, dict := some dx, data := .fields fv } → h2.Ns1 dx (fun y => if y = name then some v else none) →
      R (.ok (.ret .none)) ⟨h2, g, d, tk2, os⟩) :
    codeAny (model prog w) A (.call (.builtin "object.__setattr__") ⟨[.ref x, .str name tk, v], []⟩) R ⟨hp, g, d, t, os⟩ := by
  have inst : W.InstAt hp x { cls := .ref C, data := .fields fv } C none := ⟨atX, rfl, rfl, trivial⟩
  have facts := F.store_object
  have some' : cd.mro.isEmpty = false := by rw [order]; rfl
  have isObj : cd.mro.contains (.type "object") = true := by
    rw [order, List.contains_cons, show oeTail.contains (.type "object") = true by decide +kernel, Bool.or_true]
  have apart : x ≠ hp.objs.size := Nat.ne_of_lt (Heap.lt_size atX)
  have inside : W.mroIn K C (.type "object") = some true := by
    unfold W.mroIn
    rw [ofC, Option.bind_some, if_neg (by rw [some']; decide), isObj]
  have sub : W.Looks (model prog w) hp (isInstance (.ref x) (.type "object")) true := inst.type.andThen (W.looks_mroIn inK inside)
  refine codeAny_call_builtin facts.slot.plain facts.entry ?_
  refine @W.check_slot (model prog w) _ _ ⟨hp, g, d, t, os⟩ "object.__setattr__" "object" "__setattr__" (.ref x)
    [.str name tk, v] [] _ facts.kind facts.split sub (facts.args (.ref x) (.str name tk) v) ?_
  have lookOrder : W.Looks (model prog w) hp (mroOf (.ref C)) cd.mro := (W.looks_clsIn inK ofC).andThen .now
  have noTaker : W.Looks (model prog w) hp (storeTaker? none) none := .now
  have lookCls : W.Looks (model prog w) hp (classData C) cd := W.looks_clsIn inK ofC
  rw [W.osa_eq, refuse_eq]
  refine wpAny_bind (wpAny_bind ?_)
  refine inst.type.at (wpAny_bind (lookOrder.at ?_))
  rw [order, refuseLoop_ref, show refuseLoop (.ref x) "__setattr__" oeTail = pure () from F.store_OverflowError.passes _]
  refine wpAny_pure (wpAny_bind ?_)
  refine inst.type.at (wpAny_bind ((W.looks_findIn inK free).at (wpAny_bind (noTaker.at ?_))))
  show wpAny _ _ (storeInOwnDict (.ref x) (.ref C) (.str name tk) name v false) _ _ _
  obtain ⟨c1, c2, c3, c4, c5, c6, c7, c8, c9, c10, c11⟩ := cd
  dsimp only at dict
  subst dict
  unfold storeInOwnDict ownDictForStores
  repeat (first
    | with_reducible refine store_in_new ?_ ?_
    | with_reducible refine wpAny_loadPart_at atX ?_
    | with_reducible refine lookCls.at ?_
    | wp_step)
  · exact ⟨_, #[], _, (Heap.get?_update_ne _ _ _ _ apart.symm).trans (Heap.get?_push_at rfl rfl),
      rfl, fun e he => absurd he (by simp), fun _ => rfl⟩
  · intro h2 tk2 names same
    have stays : (hp.push { cls := .type "dict", data := .dict #[] }).get? x = some { cls := .ref C, data := .fields fv } := Heap.get?_push_of_some _ atX
    refine go h2 tk2 hp.objs.size (fun b o ne ho => ?_) (Nat.le_refl _) apart.symm ?_ names
    · refine (same.2 b (Nat.ne_of_lt (Heap.lt_size ho))).trans ?_
      exact (Heap.get?_update_ne _ _ _ _ ne).trans (Heap.get?_push_of_some _ ho)
    · exact (same.2 x apart).trans (Heap.get?_update_self _ stays rfl)
end
section
variable {X : Cx} {pins : List (Addr × Obj)} {σ : L2.St} {H : Hp} {s : Shared} {a C dx : Addr} {f : Str} {y : V} {u : Value} {Q : Unit → Shared → Prop} {E : Value → Shared → Prop} {A : Around}
theorem put_first (T : TgC X.K C) (I : Inv X pins σ H s) (e : H a = some (exo a C none)) (free : PySem.W.findIn X.K (.ref C) f = some none) (ry : RelV y u)
    (go : ∀ dx s2, H dx = none → dx ≠ a → Inv X pins σ (upd (upd H dx (exd dx [(f, y)])) a (exo a C (some dx))) s2 → Q () s2) :
    wpAny (model X.prog X.w) A (setAttr (.ref a) f u) Q E s := by
  obtain ⟨nm, q, N, bs, sn, sub, ab, col, dd, k0, k1, k2, k3, k5, hC⟩ := T.look
  have ofC : PySem.W.clsIn X.K C = some {
      name := nm
      bases := bs
      mro := .ref C :: oeTail
      ns := N
      qualname := q
      hasDict := true
      slotNames := sn
      subclasses := sub
      abstract := ab
      collection := col
      hasDel := false } := by
    unfold PySem.W.clsIn
    rw [hC] <;> rfl
  obtain ⟨t1, ho⟩ := exo_at I.hok e
  obtain ⟨hp, g, d, t, os⟩ := s
  refine PySem.W.set_plain I.kIn (ox := { cls := .ref C, dict := none, data := .fields #[.ref t1, .none, .none, .none, .bool false, .none] }) (od := none)
    ⟨ho, rfl, rfl, trivial⟩ T.setter ?_
  refine put_field I.kIn ho ofC rfl rfl free fun h2 tk2 dx k dn dne hx hn => ?_
  have newDx : H dx = none := I.hok.fresh dn
  have notDx : ∀ {b : Addr} {o : Obj}, hp.get? b = some o → b ≠ dx := fun {b o} z => Nat.ne_of_lt (Nat.lt_of_lt_of_le (Heap.lt_size z) dn)
  have notA : ∀ {b : Addr}, H b = none → b ≠ a := fun {b} n z => by
    rw [z, e] at n
    cases n
  have step : Un X.fs [] H (upd (upd H dx (exd dx [(f, y)])) a (exo a C (some dx))) hp h2 := by
    refine {
      keep := fun b o z n _ _ => k b o (notA n) z
      slot := fun b o z n _ _ => ⟨_, k b o (notA n) z⟩
      free := fun b o z n _ => ?_
      there := fun b o z _ => ?_
      tups := fun b xs z => ?_
      frzs := fun b o v z => ?_
      tbls := fun b ps z => ⟨#[], ?_⟩ }
    · rw [upd_ne (notA n), upd_ne (notDx z)]
      exact n
    · by_cases hb : b = a
      · exact ⟨_, by rw [hb]; exact hx⟩
      · exact ⟨o, k b o hb z⟩
    · rw [upd_ne (at_ne e z exo_tup), upd_ne (ne_of_none z newDx)]
      exact z
    · rw [upd_ne (at_ne e z exo_frz), upd_ne (ne_of_none z newDx)]
      exact z
    · rw [upd_ne (at_ne e z exo_tbl), upd_ne (ne_of_none z newDx), z]
      simp
  refine go dx _ newDx dne (I.un (t' := tk2) step fun b o z => ?_)
  by_cases hb : b = a
  · subst hb
    rw [upd_same] at z
    cases z
    exact exo_ok hx
  rw [upd_ne hb] at z
  by_cases hd : b = dx
  · subst hd
    rw [upd_same] at z
    cases z
    exact exd_ok hn (relO_put (fs := []) ry fun _ => True.intro)
  rw [upd_ne hd] at z
  refine (I.hok b o z).stay (fun c v hc r => k c v ?_ r) (fun c hc => ?_) (fun c xs hc => ?_)
  · rcases hc with hc | hc
    · rw [hc]
      exact hb
    · exact at_ne e hc exo_own
  · rw [upd_ne (at_ne e hc exo_own), upd_ne (ne_of_none hc newDx)]
    exact hc
  · rw [upd_ne (at_ne e hc exo_tup), upd_ne (ne_of_none hc newDx)]
    exact hc
end
/-- self.f = e, in the __init__ of such a class -/
def tPut (K : PySem.W.Frag) (f : Str) (to te : TE) : L2.TS := fun D σ H => te σ H fun y H1 => to σ H1 fun x H2 => ∃ a C : Addr, x = .ref a ∧ TgC K C ∧
  PySem.W.findIn K (.ref C) f = some none ∧ H2 a = some (exo a C none) ∧
  ∀ dx, H2 dx = none → dx ≠ a → D.nx σ (upd (upd H2 dx (exd dx [(f, y)])) a (exo a C (some dx)))
section
variable {X : Cx} {o e : Expr} {es : List Expr} {to te : TE} {ta : TA} {f : Str} {p p' pos : Pos}
theorem ps_put (ho : PE X o to) (he : PE X e te) (hs : swapsWith e (some (.Attribute o f p')) pos.line X.env = pure false := by rfl) :
    PS X (.Assign [.Attribute o f p'] e pos) (tPut X.K f to te) := by
  refine ⟨fun pins s σ H D I h => ?_⟩
  refine plainObj_wpAny_Assign_Attribute (thn (he.run pins s σ H _ I h) fun v s1 ⟨y, H1, I1, r1, q1⟩ => ?_) hs
  refine thn (ho.run pins s1 σ H1 _ I1 q1) fun u s2 ⟨x, H2, I2, r2, a, C, ex, T, free, ea, q⟩ => ?_
  subst ex
  obtain rfl : u = Value.ref a := r2
  exact put_first T I2 ea free r1 fun dx s3 n ne J => ⟨σ, _, J, q dx n ne⟩
theorem pmk_tg {CX : CXT} {x : Str} {C fI : Addr} {k : Nat} {fd : FuncData} {ps : List Str} {sp : Sp} {ds : List Value} {dvs : List V} (T : TgC X.K C)
    (iC : PySem.W.findIn X.K (.ref C) "__init__" = some (some (.ref fI))) (tI : PySem.W.typeIn X.K (.ref fI) = some (.type "function"))
    (F1 : FnOk X.prog X.w X.K X.mg X.base CX k fI fd ps sp) (hr : Room (k + 1) X.A) (hb : Binds X.K fd ps ds) (hd : Vals dvs ds)
    (hx : Passes CX X (fun _ _ _ => False)) (hg : Gl X x) (hm : X.mg x = some (.ref C)) (ha : PA X (e :: es) ta)
    (hdb : (x == ("__debug__" : Str)) = false := by decide) (he : starEach (e :: es) X.env = (false, eval e X.env) :: starEach es X.env := by rfl)
    (hpl : (backTo pos (starEach es X.env)).any (·.1) = false := by rfl) :
    PMk X (.Call (.Name x p) (e :: es) [] pos) (tMkO C sp dvs ta) := by
  intro pins s σ H Q I h
  obtain ⟨nm, q, N, bs, sn, sub, ab, col, dd, k0, k1, k2, k3, k5, hC⟩ := T.look
  refine wpAny_Call_Name_kw (ld_glob I hg hm ?_ hdb)
  refine PySem.W.callWith_K (h₀ := X.base) I.ok.mod.kin T.keep ?_ he hpl
  refine thn (ha.run pos pins s σ H _ I h) fun us s1 ⟨vs, H1, I1, r1, hz, q1⟩ => ⟨I1.kIn, ?_⟩
  show wpAny _ _ (call (.ref C) us) _ _ _
  obtain ⟨hp, g, dr, tk, os⟩ := s1
  have over : hp.objs.size ≤ hp.objs.size + 1 := Nat.le_succ _
  have new : H1 (hp.objs.size + 1) = none := I1.hok.fresh over
  have want := q1 (hp.objs.size + 1) new
  have stays : ∀ b o, hp.get? b = some o → ((hp.push (PySem.W.kdv_tup us)).push (PySem.HandSPX.excO C hp.objs.size)).get? b = some o := fun b o z =>
    Heap.get?_push_of_some _ (Heap.get?_push_of_some _ z)
  have made : ((hp.push (PySem.W.kdv_tup us)).push (PySem.HandSPX.excO C hp.objs.size)).get? (hp.objs.size + 1) = some (PySem.HandSPX.excO C hp.objs.size) := by
    heap_get
  have I2 := I1.laid (t' := tk) (a := hp.objs.size + 1) (o := exo (hp.objs.size + 1) C none)
    (h' := (hp.push (PySem.W.kdv_tup us)).push (PySem.HandSPX.excO C hp.objs.size)) stays over (exo_ok made)
  have r2 : Vals (V.ref (hp.objs.size + 1) :: (vs ++ dvs)) (Value.ref (hp.objs.size + 1) :: (us ++ ds)) := .cons rfl (r1.append hd)
  have lens : (Value.ref (hp.objs.size + 1) :: us ++ ds).length = ps.length := by
    have z := r2.length
    rw [F1.len _ _ _ _ want] at z
    exact z.symm
  have small : us.length ≤ sizeLine := by
    rw [← Paired.length r1, sizeLine_eq]
    omega
  refine wpAny_call (PySem.HandSPX.call_own F.excBase_OverflowError (fun _ => rfl) (I1.kIn _ _ hC) (PySem.W.looks_findIn I1.kIn iC)
    (fun self => PySem.W.bind_fn I1.kIn self tI) small ?_)
  refine codeAny_mono (F1.run _ X.stack _ _ ⟨Value.ref (hp.objs.size + 1) :: us, []⟩ (Value.ref (hp.objs.size + 1) :: (us ++ ds)) _ _ (fun _ _ _ => False)
    (hr.make C us []) (I2.env0.make C us []) (hb _ (Value.ref (hp.objs.size + 1) :: us) I2.kIn lens) r2 want) fun r s2 back => ?_
  match r, back with
  | .error er, back => exact hx pins σ _ _ er s2 I2 back
  | .ok (.ret u), back =>
    obtain ⟨v, H2, os2, bare2, un2, hok2, rv, ev, d, fs, ea, ed, hd1, q2⟩ := back
    subst ev
    obtain ⟨h2, g2, d2, t2, os'⟩ := s2
    exact ⟨rv, mk_end (raises_own T.base T.ofType) I1 over stays un2 hok2 os2 bare2 ea ed hd1 q2⟩
end
end My

/-! xs != [] of a list of anything: by the lengths -/
namespace My
open PySem PySem.Spec PyProof.Rows L2
def rNeNil (K : PySem.W.Frag) : R2 := fun x y H Q => ∃ (a b : Addr) (xs : List V), x = .ref a ∧ y = .ref b ∧ SqL K H a xs ∧ SqL K H b [] ∧ Q (.bl (!xs.isEmpty)) H
theorem op_neNil {X : Cx} (hu : X.A.units + 64 < cLine) : OpR X (compareOp .NotEq) (rNeNil X.K) := by
  intro pins s σ H x y v u Q I rx ry h
  obtain ⟨a, b, xs, rfl, rfl, ha, hb, q⟩ := h
  cases rx
  cases ry
  obtain ⟨its, r, pl, hz⟩ := I.list ha
  obtain ⟨its2, r2, pl2, hz2⟩ := I.list hb
  have e2 : its2 = [] := by
    have := r2.length
    cases its2 with
    | nil => rfl
    | cons => cases this
  subst e2
  have hu' : X.A.units < cLine := by omega
  cases xs with
  | nil =>
    have e1 : its = [] := by
      have := r.length
      cases its with
      | nil => rfl
      | cons => cases this
    subst e1
    exact SeqAt.RcNeAt.lists (e := fun _ => true) pl.isList pl2.isList rfl hu' (fun j h1 _ => by exact absurd h1 (by simp)) X.prog X.w _ _ ⟨.bl _, H, I, rfl, q⟩
  | cons x xs =>
    refine SeqAt.RcNeAt.lists_lengths pl.isList pl2.isList ?_ hu' X.prog X.w _ _ ⟨.bl _, H, I, rfl, q⟩
    have := r.length
    cases its with
    | nil => cases this
    | cons => rfl
end My

/-! xs == [] of a list of anything: by the lengths -/
namespace My
open PySem PySem.Spec PyProof.Rows L2
def rEqNil (K : PySem.W.Frag) : R2 := fun x y H Q => ∃ (a b : Addr) (xs : List V), x = .ref a ∧ y = .ref b ∧ SqL K H a xs ∧ SqL K H b [] ∧ Q (.bl xs.isEmpty) H
theorem op_eqNil {X : Cx} (hu : X.A.units + 64 < cLine) : OpR X (compareOp .Eq) (rEqNil X.K) := by
  intro pins s σ H x y v u Q I rx ry h
  obtain ⟨a, b, xs, rfl, rfl, ha, hb, q⟩ := h
  cases rx
  cases ry
  obtain ⟨its, r, pl, hz⟩ := I.list ha
  obtain ⟨its2, r2, pl2, hz2⟩ := I.list hb
  have e2 : its2 = [] := by
    have := r2.length
    cases its2 with
    | nil => rfl
    | cons => cases this
  subst e2
  have hu' : X.A.units < cLine := by omega
  cases xs with
  | nil =>
    have e1 : its = [] := by
      have := r.length
      cases its with
      | nil => rfl
      | cons => cases this
    subst e1
    exact SeqAt.RcAt.lists (e := fun _ => true) pl.isList pl2.isList rfl hu' (fun j h1 _ => by exact absurd h1 (by simp)) X.prog X.w _ _ ⟨.bl _, H, I, rfl, q⟩
  | cons x xs =>
    refine SeqAt.RcAt.lists_lengths pl.isList pl2.isList ?_ hu' X.prog X.w _ _ ⟨.bl _, H, I, rfl, q⟩
    have := r.length
    cases its with
    | nil => cases this
    | cons => rfl
end My

/-! rules within a comprehension: the written part by its own name -/
namespace My
open PySem PySem.Spec PyProof.Rows L2
section
variable {X : Cx}
theorem pg_tupK {K : PySem.W.Frag} {es : List Expr} {k : Nat} {pos : Pos} {t : TGs} {n : Nat} (hc : X.calm = true) (h : PGs X es t) (hK : X.K = K := by rfl)
    (hn : (assignEach es X.env).length = n := by rfl) (hst : (assignEach es X.env).findIdx? (·.1) = none := by rfl) : PG X (.Tuple es k pos) (gTup K n t) := by
  subst hK
  exact pg_tup hc h hn hst
theorem call_reprK {K : PySem.W.Frag} (hg : X.A.guards = some []) (hu : X.A.units + 64 < cLine) (h : X.K = K := by rfl) : CallR X (.builtin "repr") (rRepr K) := by
  subst h
  exact call_repr hg hu
variable {o e : Expr} {es : List Expr} {to : TE} {t : TA} {name : Str} {apos cpos : Pos} {T id : String} {r : V → List V → Hp → VK → Prop}
theorem pe_bmK {K : PySem.W.Frag} (pa : PlainAttrs T) (slot : Slot T name id) (hty : typeOf (.builtin id) = pure (.type "method_descriptor")) (hm : MtR X id r) (ho : PE X o to) (ha : PA X (e :: es) t) (hK : X.K = K := by rfl)
    (hbase : attributeBase o name X.env (eval o X.env) = eval o X.env := by rfl)
    (hfew : ((backTo cpos (starEach (e :: es) X.env)).all (fun x => !x.1) && (backToKw cpos (keywordEach [] X.env)).all (fun x => x.1.isSome)
      && decide ((e :: es).length + ([] : List Keyword).length + (if ([] : List Keyword).isEmpty then 0 else 1) < 30)) = true := by rfl)
    (hline : (apos.endLine == cpos.line) = true := by rfl) (hs : starEach (e :: es) X.env = (false, eval e X.env) :: starEach es X.env := by rfl) (hplain : (backTo cpos (starEach es X.env)).any (·.1) = false := by rfl) :
    PE X (.Call (.Attribute o name apos) (e :: es) [] cpos) (tBM K T r to t) := by
  subst hK
  exact pe_bm pa slot hty hm ho ha hbase hfew hline hs hplain
end
end My

/-! dicts whose keys are tuples of ints, texts, None and such tuples -/
namespace My
open PySem PySem.Spec PyProof.Rows L2
abbrev NK := PySem.NestedKey
section
variable (P : Program) (w : World)
def rawN (a : Addr) (xs : List (NK × Addr × Value)) : Heap → Prop := fun h =>
  ∃ o es ep, h.get? a = some o ∧ o.ExactDict ∧ o.data = .dict es ep ∧ es.toList = xs.map (entryOfKey (nestedKind P w)) ∧ (xs.map (·.1)).Nodup
def dnO (a : Addr) (xs : List (NK × Addr × Value)) : HO := .ext (rawN P w a xs)
theorem dnO_ok {H : Hp} {h : Heap} {a : Addr} {xs : List (NK × Addr × Value)} (x : rawN P w a xs h) : ObjOk P w H h a (dnO P w a xs) :=
  ⟨x, let ⟨o, _, _, e, _⟩ := x; ⟨o, e⟩, fun _ _ ⟨o, es, ep, e, r⟩ k => ⟨o, es, ep, k _ e, r⟩⟩
end
/-- v is the key k, a tuple -/
structure KeyAt (K : PySem.W.Frag) (H : Hp) (v : V) (k : NK) : Prop where
  rf : ∃ b, v = .ref b
  dp : Dp K H v k.data
  dep : k.depth ≤ 8
/-- the tuples stand -/
def TS (K : PySem.W.Frag) (H H' : Hp) : Prop := ∀ b xs, SqT K H b xs → SqT K H' b xs
theorem ts_same {K : PySem.W.Frag} {H H' : Hp} (e : Same H H') : TS K H H' := fun _ _ h => same_tup e h
theorem ts_refl {K : PySem.W.Frag} {H : Hp} : TS K H H := fun _ _ h => h
theorem TS.trans {K : PySem.W.Frag} {H H' H2 : Hp} (a : TS K H H') (b : TS K H' H2) : TS K H H2 := fun _ _ h => b _ _ (a _ _ h)
/-- what is no tuple -/
def NTp : HO → Prop
  | .tup _ => False
  | .frz _ (.tup _) => False
  | _ => True
theorem ts_upd {K : PySem.W.Frag} {H : Hp} {a : Addr} {o o' : HO} (h : H a = some o) (n : NTp o) : TS K H (upd H a o') := fun b xs q => by
  rcases q with (q | ⟨u, q⟩) | q
  · exact .inl (.inl ((upd_ne fun e => by rw [e, h] at q; cases q; exact n).trans q))
  · exact .inl (.inr ⟨u, (upd_ne fun e => by rw [e, h] at q; cases q; exact n).trans q⟩)
  · exact .inr q
theorem ts_lock {K : PySem.W.Frag} {H : Hp} {a : Addr} {o o' : HO} (h : H a = some o) (n : NTp o) : TS K H (upd H a o') := ts_upd h n
mutual
theorem dp_ts {K : PySem.W.Frag} {H H' : Hp} (t : TS K H H') : ∀ (k : NK) (v : V), Dp K H v k.data → Dp K H' v k.data
  | .none, _, h => by simp only [NestedKey.data] at h ⊢; cases h; exact .non
  | .num i, _, h => by simp only [NestedKey.data] at h ⊢; cases h; exact .int _
  | .text x, _, h => by simp only [NestedKey.data] at h ⊢; cases h; exact .str _
  | .tup ks, _, h => by
    simp only [NestedKey.data] at h ⊢
    cases h with
    | tup hs ha => exact .tup (t _ _ hs) (dps_ts t ks _ ha)
theorem dps_ts {K : PySem.W.Frag} {H H' : Hp} (t : TS K H H') : ∀ (ks : List NK) (vs : List V), DpAll K H vs (NestedKey.datas ks) → DpAll K H' vs (NestedKey.datas ks)
  | [], _, h => by simp only [NestedKey.datas] at h ⊢; cases h; exact .nil
  | k :: ks, _, h => by
    simp only [NestedKey.datas] at h ⊢
    cases h with
    | cons h1 h2 => exact .cons (dp_ts t k _ h1) (dps_ts t ks _ h2)
end
theorem KeyAt.ts {K : PySem.W.Frag} {H H' : Hp} {v : V} {k : NK} (h : KeyAt K H v k) (t : TS K H H') : KeyAt K H' v k := ⟨h.rf, dp_ts t k v h.dp, h.dep⟩
abbrev KN (K : PySem.W.Frag) (H : Hp) : List (NK × V) → List (NK × Addr × Value) → Prop := Paired fun p q => p.1 = q.1 ∧ KeyAt K H (.ref q.2.1) p.1 ∧ RelV p.2 q.2.2
theorem KN.ts {K : PySem.W.Frag} {H H' : Hp} {kvs : List (NK × V)} {xs : List (NK × Addr × Value)} (r : KN K H kvs xs) (t : TS K H H') : KN K H' kvs xs := Paired.mapP r fun _ _ z => ⟨z.1, z.2.1.ts t, z.2.2⟩
theorem KN.val {K : PySem.W.Frag} {H : Hp} {kvs : List (NK × V)} {xs : List (NK × Addr × Value)} (r : KN K H kvs xs) (k : NK) : RelO (valV kvs k) ((atKey xs k).map (·.2)) := by
  unfold KN at r
  induction r with
  | nil => exact True.intro
  | @cons p q ps qs h t ih =>
    obtain ⟨h1, _, h2⟩ := h
    by_cases e : p.1 = k
    · have e' : q.1 = k := h1.symm.trans e
      have b : atKey (q :: qs) k = some q.2 := by simp [atKey, List.find?_cons, e']
      rw [valV_pos e, b]; exact h2
    · have e' : ¬ q.1 = k := fun z => e (h1.trans z)
      have b : atKey (q :: qs) k = atKey qs k := by simp [atKey, List.find?_cons, e']
      rw [valV_neg e, b]; exact ih
theorem KN.repl {K : PySem.W.Frag} {H : Hp} {kvs : List (NK × V)} {xs : List (NK × Addr × Value)} (r : KN K H kvs xs) (k : NK) {y : V} {u : Value} (ry : RelV y u) :
    KN K H (kvs.map fun kv => if kv.1 = k then (kv.1, y) else kv) (xs.map (putAt k u)) := by
  unfold KN at r ⊢
  induction r with
  | nil => exact .nil
  | @cons p q ps qs h t ih =>
    rw [List.map_cons, List.map_cons]
    refine .cons ?_ ih
    obtain ⟨h1, h2, h3⟩ := h
    unfold putAt
    by_cases e : p.1 = k
    · rw [if_pos e, if_pos (h1.symm.trans e)]; exact ⟨h1, h2, ry⟩
    · rw [if_neg e, if_neg (fun z => e (h1.trans z))]; exact ⟨h1, h2, h3⟩
theorem KN.put {K : PySem.W.Frag} {H : Hp} {kvs : List (NK × V)} {xs : List (NK × Addr × Value)} (r : KN K H kvs xs) (k : NK) {b : Addr} {y : V} {u : Value} (hb : KeyAt K H (.ref b) k) (ry : RelV y u) :
    KN K H (putK kvs k y) (storedH xs k b u) := by
  have e : (kvs.any fun kv => decide (kv.1 = k)) = (atKey xs k).isSome := by
    rw [valV_any, (r.val k).isSome_eq, Option.isSome_map]
  unfold putK storedH
  rw [e]
  by_cases q : (atKey xs k).isSome = true
  · rw [if_pos q, if_pos q]; exact r.repl k ry
  · rw [if_neg q, if_neg q]; exact Paired.snoc r ⟨rfl, hb, ry⟩
/-- at a stands (perhaps locked) a dict -/
structure DNx (K : PySem.W.Frag) (H : Hp) (a : Addr) (kvs : List (NK × V)) (xs : List (NK × Addr × Value)) : Prop where
  rel : KN K H kvs xs
  z : kvs.length ≤ sizeLine
  ns : (a == sysModules) = false
def DN (P : Program) (w : World) (K : PySem.W.Frag) (H : Hp) (a : Addr) (kvs : List (NK × V)) : Prop := ∃ xs, H a = some (dnO P w a xs) ∧ DNx K H a kvs xs
def DNr (P : Program) (w : World) (K : PySem.W.Frag) (H : Hp) (a : Addr) (kvs : List (NK × V)) : Prop := ∃ xs, Rd H a (dnO P w a xs) ∧ DNx K H a kvs xs
section
variable {P : Program} {w : World} {K : PySem.W.Frag} {H H' : Hp} {a : Addr} {kvs : List (NK × V)}
theorem DN.rd (h : DN P w K H a kvs) : DNr P w K H a kvs := let ⟨xs, h1, h2⟩ := h; ⟨xs, .inl h1, h2⟩
theorem DNx.ts {xs : List (NK × Addr × Value)} (h : DNx K H a kvs xs) (t : TS K H H') : DNx K H' a kvs xs := ⟨h.rel.ts t, h.z, h.ns⟩
theorem DN.mono (h : DN P w K H a kvs) (t : TS K H H') (e : ∀ o, H a = some o → H' a = some o) : DN P w K H' a kvs := let ⟨xs, h1, h2⟩ := h; ⟨xs, e _ h1, h2.ts t⟩
theorem DN.same (h : DN P w K H a kvs) (s : Same H H') : DN P w K H' a kvs := h.mono (ts_same s) fun o e => s _ _ e
theorem DNr.mono (h : DNr P w K H a kvs) (t : TS K H H') (e : ∀ o, H a = some o → H' a = some o) : DNr P w K H' a kvs := by
  obtain ⟨xs, h1 | ⟨u, h1⟩, h2⟩ := h
  · exact ⟨xs, .inl (e _ h1), h2.ts t⟩
  · exact ⟨xs, .inr ⟨u, e _ h1⟩, h2.ts t⟩
theorem DNr.same (h : DNr P w K H a kvs) (s : Same H H') : DNr P w K H' a kvs := h.mono (ts_same s) fun o e => s _ _ e
theorem DN.there (h : DN P w K H a kvs) : ∃ φ, H a = some (.ext φ) := let ⟨_, h1, _⟩ := h; ⟨_, h1⟩
theorem DN.ts_at (h : DN P w K H a kvs) {o : HO} : TS K H (upd H a o) := let ⟨_, h1⟩ := h.there; ts_upd h1 True.intro
/-- something else is written -/
theorem DN.upd (h : DN P w K H a kvs) {b : Addr} {o o' : HO} (hb : H b = some o) (n : NTp o) (ne : ∀ φ, o ≠ .ext φ) : DN P w K (L2.upd H b o') a kvs := by
  obtain ⟨φ, e⟩ := h.there
  exact h.mono (ts_upd hb n) fun u q => (upd_ne fun z => by rw [z, hb] at e; cases e; exact ne _ rfl).trans q
theorem DN.updD (h : DN P w K H a kvs) {b : Addr} {o o' : HO} (hb : H b = some o) (n : NTp o) (ne : b ≠ a) : DN P w K (L2.upd H b o') a kvs :=
  h.mono (ts_upd hb n) fun u q => (upd_ne (Ne.symm ne)).trans q
/-- the locked dict -/
theorem DN.lock (h : DN P w K H a kvs) : ∃ u, H a = some u ∧ Mut (some u) ∧ (∀ od, DNr P w K (L2.upd H a (.frz od u)) a kvs) ∧ ∀ H' od, H' a = some (.frz od u) → DNr P w K H' a kvs → DN P w K (L2.upd H' a u) a kvs := by
  obtain ⟨xs, h1, h2⟩ := h
  refine ⟨_, h1, True.intro, fun od => ⟨xs, .inr ⟨od, upd_same⟩, h2.ts (ts_upd h1 True.intro)⟩, fun H' od e h' => ?_⟩
  obtain ⟨ys, hr, hy⟩ := h'
  rcases hr with q | ⟨u, q⟩
  · rw [e] at q; cases q
  · rw [e] at q
    have q2 : dnO P w a xs = dnO P w a ys := by injection q with q; injection q
    exact ⟨ys, by rw [upd_same, q2], hy.ts (ts_upd e True.intro)⟩
end
section
variable {X : Cx} {pins : List (Addr × Obj)} {σ : L2.St} {H : Hp} {s : Shared}
mutual
theorem nk_is (I : Inv X pins σ H s) : ∀ (k : NK) (v : V) (u : Value), Dp X.K H v k.data → RelV v u → NestedIs s.heap k u
  | .none, _, _, h, r => by simp only [NestedKey.data] at h; cases h; cases r; exact .none
  | .num i, _, _, h, r => by simp only [NestedKey.data] at h; cases h; obtain ⟨t, rfl⟩ := r; exact .int i t
  | .text x, _, _, h, r => by simp only [NestedKey.data] at h; cases h; obtain ⟨t, rfl⟩ := r; exact .text x t
  | .tup ks, _, _, h, r => by
    simp only [NestedKey.data] at h
    cases h with
    | tup hs ha =>
      cases r
      obtain ⟨its, rv, ⟨o, ho, hc, n, hd⟩, _⟩ := I.tuple hs
      exact .tup ho hc hd (nks_is I ks _ its ha rv)
theorem nks_is (I : Inv X pins σ H s) : ∀ (ks : List NK) (vs : List V) (us : List Value), DpAll X.K H vs (NestedKey.datas ks) → Vals vs us → NestedAll s.heap ks us
  | [], _, _, h, r => by simp only [NestedKey.datas] at h; cases h; cases r; exact .nil
  | k :: ks, _, _, h, r => by
    simp only [NestedKey.datas] at h
    cases h with
    | cons h1 h2 =>
      cases r with
      | cons r1 r2 => exact .cons (nk_is I k _ _ h1 r1) (nks_is I ks _ _ h2 r2)
end
theorem key_is (I : Inv X pins σ H s) {b : Addr} {k : NK} (h : KeyAt X.K H (.ref b) k) : (nestedKind X.prog X.w).is s.heap k b := ⟨nk_is I k _ _ h.dp rfl, h.dep⟩
theorem dn_of (I : Inv X pins σ H s) {a : Addr} {kvs : List (NK × V)} (d : DNr X.prog X.w X.K H a kvs) :
    ∃ xs, KN X.K H kvs xs ∧ s.heap.DictOfH (nestedKind X.prog X.w) a xs ∧ kvs.length ≤ sizeLine ∧ (a == sysModules) = false := by
  obtain ⟨xs, hr, ⟨rel, z, ns⟩⟩ := d
  obtain ⟨⟨o, es, ep, h1, h2, h3, h4, h5⟩, _⟩ := (show ObjOk X.prog X.w H s.heap a (dnO X.prog X.w a xs) from hr.ok I.hok)
  refine ⟨xs, rel, ⟨o, es, ep, h1, h2, h3, h4, fun x hx => ?_, h5⟩, z, ns⟩
  have all : ∀ {l : List (NK × V)} {m : List (NK × Addr × Value)}, KN X.K H l m → ∀ x ∈ m, (nestedKind X.prog X.w).is s.heap x.1 x.2.1 := by
    intro l m q
    unfold KN at q
    induction q with
    | nil => intro x hx; exact nomatch hx
    | @cons p q ps qs hq t ih =>
      intro x hx
      rcases List.mem_cons.mp hx with e | hx
      · subst e
        exact key_is I (by rw [← hq.1]; exact hq.2.1)
      · exact ih x hx
  exact all rel x hx
theorem room_n {A : Around} (hu : A.units + 64 < cLine) : (nestedKind X.prog X.w).room A.in1 := by
  show A.in1.units + 8 < cLine
  rw [Around.in1_units]
  omega
theorem room_n0 {A : Around} (hu : A.units + 64 < cLine) : (nestedKind X.prog X.w).room A := by
  show A.units + 8 < cLine
  omega
theorem kn_len {K : PySem.W.Frag} {H : Hp} {kvs : List (NK × V)} {xs : List (NK × Addr × Value)} (r : KN K H kvs xs) : kvs.length = xs.length := Paired.length r
end
/-! ### operators -/
def rInN (P : Program) (w : World) (K : PySem.W.Frag) : R2 := fun x y H Q => ∃ a kvs k, y = .ref a ∧ DNr P w K H a kvs ∧ KeyAt K H x k ∧ Q (.bl (valV kvs k).isSome) H
def rNotInN (P : Program) (w : World) (K : PySem.W.Frag) : R2 := fun x y H Q => ∃ a kvs k, y = .ref a ∧ DNr P w K H a kvs ∧ KeyAt K H x k ∧ Q (.bl (!(valV kvs k).isSome)) H
def rIxN (P : Program) (w : World) (K : PySem.W.Frag) : R2 := fun x y H Q => ∃ a kvs k v, x = .ref a ∧ DNr P w K H a kvs ∧ KeyAt K H y k ∧ valV kvs k = some v ∧ Q v H
def rSetN (P : Program) (w : World) (K : PySem.W.Frag) : TSet := fun o i v H Q => ∃ a kvs k, o = .ref a ∧ DN P w K H a kvs ∧ KeyAt K H i k ∧ kvs.length < sizeLine ∧ ∀ u, DN P w K (upd H a u) a (putK kvs k v) → Q (upd H a u)
section
variable {X : Cx} {P : Program} {w : World} {K : PySem.W.Frag}
theorem op_inN (hu : X.A.units + 64 < cLine) (hP : X.prog = P := by rfl) (hw : X.w = w := by rfl) (hK : X.K = K := by rfl) : OpR X (compareOp .In) (rInN P w K) := by
  subst hP hw hK
  rintro pins s σ H x y v u Q I rx ry ⟨a, kvs, k, rfl, d, hk, q⟩
  obtain ⟨b, rfl⟩ := hk.rf
  cases rx
  cases ry
  obtain ⟨xs, rel, dd, _, hd⟩ := dn_of I d
  refine wpAny_in_heap (room_n hu) (key_is I hk) hd dd ?_
  have e := (rel.val k).isSome_eq
  rw [Option.isSome_map] at e
  rw [← e]
  exact ⟨.bl _, H, I.tok _, rfl, q⟩
theorem op_notInN (hu : X.A.units + 64 < cLine) (hP : X.prog = P := by rfl) (hw : X.w = w := by rfl) (hK : X.K = K := by rfl) : OpR X (compareOp .NotIn) (rNotInN P w K) := by
  subst hP hw hK
  rintro pins s σ H x y v u Q I rx ry ⟨a, kvs, k, rfl, d, hk, q⟩
  obtain ⟨b, rfl⟩ := hk.rf
  cases rx
  cases ry
  obtain ⟨xs, rel, dd, _, hd⟩ := dn_of I d
  refine wpAny_notIn_heap (room_n hu) (key_is I hk) hd dd ?_
  have e := (rel.val k).isSome_eq
  rw [Option.isSome_map] at e
  rw [← e]
  exact ⟨.bl _, H, I.tok _, rfl, q⟩
theorem ix_dn (hu : X.A.units + 64 < cLine) (hP : X.prog = P := by rfl) (hw : X.w = w := by rfl) (hK : X.K = K := by rfl) : IxR X (rIxN P w K) := by
  subst hP hw hK
  rintro value slice pins s σ H x y v u Q I rx ry ⟨a, kvs, k, r, rfl, d, hk, hv, q⟩ hs
  obtain ⟨b, rfl⟩ := hk.rf
  cases rx
  cases ry
  obtain ⟨xs, rel, dd, _, hd⟩ := dn_of I d
  obtain ⟨w', hw', rw'⟩ := RelO.some_of (v := r) (o := (atKey xs k).map (·.2)) (by rw [← hv]; exact rel.val k)
  obtain ⟨p, hp, hp2⟩ := Option.map_eq_some_iff.mp hw'
  refine subscriptTail_builtinR (x := w') dd.typeIs PySem.F.slot_dict_getitem.lookup
    (wpAny_getItem_heap (Q := fun r s' => r = w' ∧ EP X pins σ Q r s') (room_n hu) (key_is I hk) dd hp ⟨hp2, ?_⟩) hs
  rw [hp2]
  exact ⟨r, H, I.tok _, rw', q⟩
theorem set_dn (hu : X.A.units + 64 < cLine) (hP : X.prog = P := by rfl) (hw : X.w = w := by rfl) (hK : X.K = K := by rfl) : PSet X (rSetN P w K) := by
  subst hP hw hK
  rintro pins s σ H o i v ov iv u Q I ro ri rv ⟨a, kvs, k, rfl, d, hk, hz, q⟩
  obtain ⟨b, rfl⟩ := hk.rf
  cases ro
  cases ri
  obtain ⟨xs, rel, dd, _, hd⟩ := dn_of I d.rd
  obtain ⟨φ, ha⟩ := d.there
  have hl := kn_len rel
  have hzx : xs.length ≤ sizeLine := by omega
  refine wpAny_setItem_heap (hsz := hzx) (room_n hu) (key_is I hk) dd fun h' dd' hs => ?_
  obtain ⟨q1, es, ep, hq, h2, h3, h4, _, h5⟩ := dd'
  have raw : rawN X.prog X.w a (storedH xs k b u) h' := ⟨q1, es, ep, hq, h2, h3, h4, h5⟩
  refine ⟨_, d_write I (by rw [ha]; exact True.intro) hs ⟨q1, hq⟩ (dnO_ok _ _ raw), q _ ⟨_, upd_same, ?_, ?_, hd⟩⟩
  · exact (rel.put k hk rv).ts d.ts_at
  · have := length_putK kvs k v; omega
end
/-! ### {} -/
def tDNewN (P : Program) (w : World) (K : PySem.W.Frag) : TE := fun _ H Q => ∀ p u, H p = none → DN P w K (upd H p u) p [] → Q (.ref p) (upd H p u)
theorem dn_laid {X : Cx} {pins : List (Addr × Obj)} {σ : L2.St} {H : Hp} {s : Shared} (I : Inv X pins σ H s) {tk : Nat} :
    Inv X pins σ (upd H s.heap.objs.size (dnO X.prog X.w s.heap.objs.size [])) { s with heap := s.heap.push { cls := .type "dict", data := .dict #[] }, toks := tk } ∧ DN X.prog X.w X.K (upd H s.heap.objs.size (dnO X.prog X.w s.heap.objs.size [])) s.heap.objs.size [] := by
  have raw : rawN X.prog X.w s.heap.objs.size [] (s.heap.push { cls := .type "dict", data := .dict #[] }) := ⟨_, #[], 0, Heap.get?_push_size _ rfl, ⟨rfl, rfl, rfl⟩, rfl, rfl, List.nodup_nil⟩
  exact ⟨I.laid (t' := tk) (fun _ _ q => Heap.get?_push_of_some _ q) (Nat.le_refl _) (dnO_ok _ _ raw), _, upd_same, .nil, Nat.zero_le _, beq_eq_false_iff_ne.mpr (Ne.symm (Nat.ne_of_lt I.big))⟩
section
variable {X : Cx} {P : Program} {w : World} {K : PySem.W.Frag}
theorem pe_dnewN {pos : Pos} (hP : X.prog = P := by rfl) (hw : X.w = w := by rfl) (hK : X.K = K := by rfl) : PE X (.Dict [] [] pos) (tDNewN P w K) := by
  subst hP hw hK
  refine ⟨fun pins s σ H Q I h => wpAny_Dict_empty ?_⟩
  obtain ⟨I1, d⟩ := dn_laid (tk := s.toks) I
  exact ⟨.ref s.heap.objs.size, _, I1, rfl, h _ _ (I.hok.fresh (Nat.le_refl _)) d⟩
/-- {k: v} -/
def qDisp1N (P : Program) (w : World) (K : PySem.W.Frag) (p : Addr) (Q : VK) : List (V × V) → Hp → Prop := fun ps H2 => match ps with
  | [(x, y)] => DN P w K H2 p [] ∧ ∃ k, KeyAt K H2 x k ∧ ∀ u', DN P w K (upd H2 p u') p [(k, y)] → Q (.ref p) (upd H2 p u')
  | _ => False
def tDisp1N (P : Program) (w : World) (K : PySem.W.Frag) (tk tv : TE) : TE := fun σ H Q => ∀ p u, H p = none → DN P w K (upd H p u) p [] → tk σ (upd H p u) fun x H1 => tv σ H1 fun y H2 => qDisp1N P w K p Q [(x, y)] H2
theorem pe_disp1N {k v : Expr} {tk tv : TE} {pos : Pos} (hk : PE X k tk) (hv : PE X v tv) (hu : X.A.units + 64 < cLine) (hP : X.prog = P := by rfl) (hw : X.w = w := by rfl) (hK : X.K = K := by rfl) : PE X (.Dict [some k] [v] pos) (tDisp1N P w K tk tv) := by
  subst hP hw hK
  refine ⟨fun pins s σ H Q I h => ?_⟩
  obtain ⟨I1, d⟩ := dn_laid (tk := s.toks) I
  have hf := I.hok.fresh (Nat.le_refl s.heap.objs.size)
  have h0 : pairTrees [some k] [v] X.env pos ≠ [] := by intro z; cases z
  have h15 : (pairTrees [some k] [v] X.env pos).length ≤ 15 := Nat.le_of_ble_eq_true rfl
  have hsh : (evalEachOpt [some k] X.env).zip ((evalEach [v] X.env).map fun v => do let x ← v; standAt pos; pure x) = (pairTrees [some k] [v] X.env pos).map fun p => (some p.1, p.2) := rfl
  rw [arm_eval_Dict, hsh, dictDisplay_pairs _ h0 (by omega)]
  refine wpAny_bind (wpAny_standAt (wpAny_bind (wpAny_subDictH (knd := nestedKind X.prog X.w) (Q := fun d s' => wpAny (model X.prog X.w) X.A (pure (Value.ref d)) (EP X pins σ Q) X.xe s') (room_n0 hu) h15 ?_)))
  refine thn ((pps_cons hk hv pps_nil).run pins _ σ _ (qDisp1N X.prog X.w X.K s.heap.objs.size Q) I1 (h _ _ hf d)) fun ws s2 ⟨ps, H2, I2, rel, q⟩ => ?_
  match ps, rel, q with
  | [], _, q => exact q.elim
  | _ :: _ :: _, _, q => exact q.elim
  | [(x, y)], rel, q =>
    obtain ⟨d2, k2, hk2, q⟩ := q
    cases rel with
    | @cons _ z _ zs r rest =>
      cases rest
      obtain ⟨a1, a2⟩ := z
      obtain ⟨b, rfl⟩ := hk2.rf
      obtain ⟨r1, r2⟩ := r
      cases r1
      obtain ⟨xs, rel2, dd, z2, hd⟩ := dn_of I2 d2.rd
      have hxs : xs = [] := by cases rel2; rfl
      subst hxs
      refine ⟨[(k2, b, a2)], ⟨rfl, rfl, key_is I2 hk2, trivial⟩, dd, fun h' tk dd' hs => wpAny_pure ?_⟩
      obtain ⟨q1, es, ep, hq, h2, h3, h4, his, h5⟩ := dd'
      have raw : rawN X.prog X.w s.heap.objs.size [(k2, b, a2)] h' := ⟨q1, es, ep, hq, h2, h3, h4, h5⟩
      obtain ⟨φ, ha⟩ := d2.there
      exact ⟨.ref s.heap.objs.size, _, d_write I2 (by rw [ha]; exact True.intro) hs ⟨q1, hq⟩ (dnO_ok _ _ raw), rfl, q _ ⟨_, upd_same, .cons ⟨rfl, hk2.ts d2.ts_at, r2⟩ .nil, by show 1 ≤ sizeLine; decide, hd⟩⟩
end
end My

/-! d.get(k, x), walks over keys, sorted(d), sorted of data -/
namespace My
open PySem PySem.Spec PyProof.Rows L2
/-! ### d.get(k, x) -/
def tDGet2N (P : Program) (w : World) (K : PySem.W.Frag) (td ty tx : TE) : TE := fun σ H Q => td σ H fun x H1 => ∃ a kvs0, x = .ref a ∧ DNr P w K H1 a kvs0 ∧ ty σ H1 fun y H2 => tx σ H2 fun z H3 => ∃ kvs k, DNr P w K H3 a kvs ∧ KeyAt K H3 y k ∧ Q ((valV kvs k).getD z) H3
section
variable {X : Cx} {P : Program} {w : World} {K : PySem.W.Frag}
theorem dn_typeIs {pins : List (Addr × Obj)} {σ : L2.St} {H : Hp} {s : Shared} (I : Inv X pins σ H s) {a : Addr} {kvs : List (NK × V)} (d : DNr X.prog X.w X.K H a kvs) :
    s.TypeIs (.ref a) "dict" ∧ ∀ b, Value.ref a = .ref b → ∃ ob, s.heap.get? b = some ob ∧ ob.dict = none := by
  obtain ⟨xs, rel, ⟨o, es, ep, h1, h2, h3⟩, _⟩ := dn_of I d
  refine ⟨⟨o, h1, h2.1⟩, fun b q => ?_⟩
  cases q
  exact ⟨o, h1, h2.2.1⟩
theorem pe_dget2N {o e f : Expr} {apos cpos : Pos} {td ty tx : TE} (hu : X.A.units + 64 < cLine) (ho : PE X o td) (he : PE X e ty) (hf : PE X f tx) (m : M2 X o "get" apos e f cpos) (hP : X.prog = P := by rfl) (hw : X.w = w := by rfl) (hK : X.K = K := by rfl) :
    PE X (.Call (.Attribute o "get" apos) [e, f] [] cpos) (tDGet2N P w K td ty tx) := by
  subst hP hw hK
  refine ⟨fun pins s σ H Q I h => ?_⟩
  refine wpAny_Call_method m.base m.few m.line PySem.F.plainAttrs_dict PySem.F.slot_dict_get PySem.F.type_dict_get (thn (ho.run pins s σ H _ I h) fun u s1 ⟨x, H1, I1, rx, a, kvs0, ex, d, q1⟩ => ?_)
  subst ex
  obtain rfl : u = Value.ref a := rx
  obtain ⟨t1, t2⟩ := dn_typeIs I1 d
  obtain ⟨_, _, _, _, hd⟩ := dn_of I1 d
  refine ⟨t1, t2, ?_⟩
  rw [m.trees]
  refine wpAny_dict_get2_heap (room_n hu) hd (thn (he.run pins s1 σ H1 _ I1 q1) fun iv s2 ⟨y, H2, I2, ry, q2⟩ =>
    thn (hf.run pins s2 σ H2 _ I2 q2) fun fv s3 ⟨z, H3, I3, rz, kvs, k, d3, hk, q3⟩ => ?_)
  obtain ⟨b, rfl⟩ := hk.rf
  cases ry
  obtain ⟨xs, rel, dd, _, _⟩ := dn_of I3 d3
  exact ⟨b, k, xs, rfl, key_is I3 hk, dd, _, H3, I3.tok _, RelO.getD (rel.val k) rz, q3⟩
end
/-! ### walks over the keys of a locked dict -/
def DNf (P : Program) (w : World) (K : PySem.W.Frag) (H : Hp) (a : Addr) (o : Obj) (kvs : List (NK × V)) : Prop := ∃ xs, H a = some (.frz o (dnO P w a xs)) ∧ DNx K H a kvs xs
def Itn (P : Program) (w : World) (K : PySem.W.Frag) (d : Addr) (o : Obj) (kvs : List (NK × V)) : It :=
  ⟨fun i H => DNf P w K H d o kvs ∧ i < kvs.length, fun i H x H' => H' = H ∧ ∃ k v, kvs[i]? = some (k, v) ∧ KeyAt K H x k, fun i H => DNf P w K H d o kvs ∧ kvs.length ≤ i⟩
theorem DNf.rd {P : Program} {w : World} {K : PySem.W.Frag} {H : Hp} {a : Addr} {o : Obj} {kvs : List (NK × V)} (h : DNf P w K H a o kvs) : DNr P w K H a kvs := let ⟨xs, h1, h2⟩ := h; ⟨xs, .inr ⟨o, h1⟩, h2⟩
theorem DNf.mono {P : Program} {w : World} {K : PySem.W.Frag} {H H' : Hp} {a : Addr} {o : Obj} {kvs : List (NK × V)} (h : DNf P w K H a o kvs) (t : TS K H H') (e : ∀ o, H a = some o → H' a = some o) : DNf P w K H' a o kvs := let ⟨xs, h1, h2⟩ := h; ⟨xs, e _ h1, h2.ts t⟩
section
variable {X : Cx} {pins : List (Addr × Obj)} {σ : L2.St} {H : Hp} {s : Shared} {d : Addr} {o : Obj}
theorem frzN {kvs : List (NK × V)} (I : Inv X pins σ H s) (h : DNf X.prog X.w X.K H d o kvs) :
    (d == sysModules) = false ∧ s.heap.get? d = some o ∧ o.ExactDict ∧ ∃ (es : Array DictEntry) (ep : Nat), o.data = .dict es ep ∧ es.size = kvs.length ∧
      ∀ (i : Nat) (k : NK) (v : V), kvs[i]? = some (k, v) → ∃ (en : DictEntry) (q : Addr), es[i]? = some en ∧ en.key = .ref q ∧ L2.RelV v en.val ∧ KeyAt X.K H (.ref q) k := by
  obtain ⟨xs, hx, ⟨pr, z, hs⟩⟩ := h
  obtain ⟨hd, ⟨o', es, ep, ho, hx, hdt, he, _⟩, _⟩ := I.hok d _ hx
  rw [hd] at ho
  cases ho
  refine ⟨hs, hd, hx, es, ep, hdt, ?_, fun i k v e => ?_⟩
  · have l1 : es.size = xs.length := size_of_entries he
    have l2 : kvs.length = xs.length := Paired.length pr
    omega
  · obtain ⟨b, hb, e1, e2, e3⟩ := paired_get pr e
    have q := entry_at he i
    rw [hb] at q
    exact ⟨_, b.2.1, q, rfl, e3, e2⟩
end
section
variable {P : Program} {w : World} {K : PySem.W.Frag} {tg : Expr} {d : Addr} {o : Obj} {es : Array DictEntry} {ep : Nat}
theorem turn_keysN {kvs : List (NK × V)} (it : Addr) (hod : o.data = .dict es ep) : Turn P w K tg (Itn P w K d o kvs) [it] it (fun i h => h.IsKeyIter it d i kvs.length ep) where
  mem := by simp
  obj := fun i h st b hb => by
    have e : b = it := by simpa using hb
    subst e
    obtain ⟨oi, e, c, dd⟩ := st
    exact ⟨oi, e, fun v z => by rw [dd] at z; cases z⟩
  keep := fun i h h' st k => st.at fun oi e => k it (by simp) oi e
  item := by
    intro X hP hw hK hc i pins s σ H E I hf st hg
    subst hP hw hK
    obtain ⟨hd, hi⟩ := hg
    obtain ⟨f0, f1, f2, f3, f4, f5⟩ := hf it (by simp)
    obtain ⟨hs, hgd, hx, es', ep', hdt, hsz, ent⟩ := frzN I hd
    obtain ⟨rfl, rfl⟩ := dict_ep hod hdt
    obtain ⟨⟨k, v⟩, hkv⟩ : ∃ p, kvs[i]? = some p := ⟨kvs[i], List.getElem?_eq_getElem hi⟩
    obtain ⟨en, q, hen, hkey, _, hq⟩ := ent i k v hkv
    refine next_key_item st hgd hdt hsz hen fun h' st' sb => ?_
    have I1 : Inv X pins σ H { s with heap := h' } := I.turned (t' := s.toks) (fun b ob hb e => (sb.2 b hb).trans e) f0 f1 f3 f4 f5
    obtain ⟨oi, e, c, dd⟩ := id st'
    exact ⟨en.key, rfl, go_of (s := { s with heap := h' }) e c dd (by decide) ⟨.ref q, H, I1, hkey, ⟨rfl, k, v, hkv, hq⟩, st', fun b hb => (hf b hb).1⟩⟩
  done := by
    intro X hP hw hK hc i pins s σ H E I hf st hg
    subst hP hw hK
    obtain ⟨hd, hi⟩ := hg
    obtain ⟨f0, f1, f2, f3, f4, f5⟩ := hf it (by simp)
    obtain ⟨hs, hgd, hx, es', ep', hdt, hsz, ent⟩ := frzN I hd
    obtain ⟨rfl, rfl⟩ := dict_ep hod hdt
    exact next_key_end (I.ok.hd hc) st hgd hdt hsz hi fun h' eb => ⟨rfl, I.turned (t' := s.toks) (fun b ob hb e => eb b ob hb e) f0 f1 f3 f4 f5⟩
  self := fun A i s Q E st h => by
    refine wpAny_pyIter_slot st.typeIs F.slot_dict_keyiterator_iter (wpAny_call_entry F.slot_dict_keyiterator_iter st.typeIs F.entry_dict_keyiterator_iter ?_ (F.args_dict_keyiterator_iter_1 _))
    show wpAny _ _ (ret (.ref it)) _ _ s
    exact wpAny_pure ⟨_, rfl, "dict_keyiterator", _, st.typeIs, F.slot_dict_keyiterator_next.lookup, h⟩
def iKeysN (P : Program) (w : World) (K : PySem.W.Frag) (td : TE) : TI := fun σ H R => td σ H fun x H1 => ∃ d o kvs, x = .ref d ∧ DNf P w K H1 d o kvs ∧ R (Itn P w K d o kvs) H1
theorem pi_keysN {X : Cx} {tg e : Expr} {td : TE} (he : PE X e td) (hP : X.prog = P := by rfl) (hw : X.w = w := by rfl) (hK : X.K = K := by rfl) : PI X tg e (iKeysN P w K td) := by
  subst hP hw hK
  refine ⟨fun pins s σ H R I h => ?_⟩
  refine thn (he.run pins s σ H _ I h) fun u s1 ⟨x, H1, I1, rx, d, o, kvs, ex, hd, q⟩ => ?_
  subst ex
  obtain rfl : u = Value.ref d := rx
  obtain ⟨hs, hgd, hx, es, ep, hdt, hsz, ent⟩ := frzN I1 hd
  refine iter_keys hs hgd hx hdt (pi_one (tk := s1.toks) I1 _ (turn_keysN _ hdt) ⟨_, Heap.get?_push_size _ rfl, rfl, ?_⟩ q)
  rw [hsz] <;> rfl
theorem walk_keysN {kvs : List (NK × V)} : Walk (Itn P w K d o kvs) kvs.length (fun H => DNf P w K H d o kvs) (fun i H x H' => H' = H ∧ ∃ k v, kvs[i]? = some (k, v) ∧ KeyAt K H x k) :=
  ⟨fun _ _ hi q => ⟨q, hi⟩, fun _ q => ⟨q, Nat.le_refl _⟩, fun _ _ _ _ _ _ y => y⟩
/-- the dict stands while a comprehension or loop walks it: from the lock -/
theorem DN.lockF {H : Hp} {a : Addr} {kvs : List (NK × V)} (h : DN P w K H a kvs) : ∃ u, H a = some u ∧ Mut (some u) ∧ (∀ od, DNf P w K (L2.upd H a (.frz od u)) a od kvs) ∧ ∀ H' od, H' a = some (.frz od u) → DNf P w K H' a od kvs → DN P w K (L2.upd H' a u) a kvs := by
  obtain ⟨xs, h1, h2⟩ := h
  refine ⟨_, h1, True.intro, fun od => ⟨xs, upd_same, h2.ts (ts_upd h1 True.intro)⟩, fun H' od e h' => ?_⟩
  obtain ⟨ys, q, hy⟩ := h'
  rw [e] at q
  have q2 : dnO P w a xs = dnO P w a ys := by injection q with q; injection q
  exact ⟨ys, by rw [upd_same, q2], hy.ts (ts_upd e True.intro)⟩
end
/-! ### sorted -/
theorem vals_each : ∀ {bs : List (V × PyData)} {us : List Value}, Vals (bs.map (·.1)) us → PySem.W.EachIs (fun u (b : V × PyData) => L2.RelV b.1 u) us bs
  | [], us, r => by cases r; exact .nil
  | b :: bs, us, r => by
    rw [List.map_cons] at r
    cases r with
    | cons h t => exact .cons h (vals_each t)
theorem each_vals : ∀ {bs : List (V × PyData)} {us : List Value}, PySem.W.EachIs (fun u (b : V × PyData) => L2.RelV b.1 u) us bs → Vals (bs.map (·.1)) us
  | _, _, .nil => .nil
  | _, _, .cons h t => by rw [List.map_cons]; exact .cons h (each_vals t)
theorem each_and {α β : Type} {R S : α → β → Prop} : ∀ {as : List α} {bs : List β}, PySem.W.EachIs R as bs → (∀ a, ∀ b ∈ bs, R a b → S a b) → PySem.W.EachIs S as bs
  | _, _, .nil, _ => .nil
  | _, _, .cons h t, f => .cons (f _ _ (List.mem_cons_self ..) h) (each_and t fun a b hb => f a b (List.mem_cons_of_mem _ hb))
abbrev ordD : V × PyData → V × PyData → Bool := PySem.W.dataLe false Prod.snd
/-- what sorted asks of the data: all tuples (with an item), or none a tuple -/
structure SortOk (ds : List PyData) : Prop where
  al : PySem.W.AllAlike ds
  so : PySem.W.Sortable ds
  dep : ∀ d ∈ ds, d.depth ≤ 32
section
variable {X : Cx}
theorem cr_sortedD {K : PySem.W.Frag} (hu : X.A.units + 64 < cLine) (hK : X.K = K := by rfl) : CallR X (.builtin "sorted") (fun xs H Q => ∃ (a : Addr) (bs : List (V × PyData)), xs = [.ref a] ∧ SqL K H a (bs.map (·.1)) ∧ (∀ b ∈ bs, Dp K H b.1 b.2) ∧ SortOk (bs.map (·.2)) ∧
    ∀ p, H p = none → Q (.ref p) (upd H p (.lst ((bs.mergeSort ordD).map (·.1))))) := by
  subst hK
  rintro pins s σ H vs us Q I r ⟨a, bs, rfl, hs, hd, ok, q⟩
  obtain ⟨its, rv, hl, hz⟩ := I.list hs
  rw [Vals.ref1 r]
  rw [List.length_map] at hz
  have e := vals_each rv
  have er : PySem.W.EachIs (fun v b => ∃ as, Reads s.heap v (Prod.snd b) as) its bs := each_and e fun u b hb ru => Dp.reads I b.2 b.1 u (hd b hb) ru
  refine PySem.W.sorted_data (enc := Prod.snd) hl.isList e er ok.al ok.so hz (fun b hb => ?_) fun out hlen ho => ?_
  · have := ok.dep b.2 (List.mem_map.mpr ⟨b, hb, rfl⟩)
    omega
  · obtain ⟨ep, he'⟩ := PyProof.Rows.sortedAll_at s.heap its out.toArray
    have hv := each_vals ho
    have hlen' : ((bs.mergeSort ordD).map (·.1)).length ≤ sizeLine := by rw [List.length_map, List.length_mergeSort]; exact hz
    exact ⟨.ref _, upd H (s.heap.objs.size + 1) (.lst ((bs.mergeSort ordD).map (·.1))), I.laid (t' := s.toks) (fun _ _ => PyProof.Rows.sortedAll_old) (Nat.le_succ _) ⟨hlen', out, ep, hv, he'⟩, rfl, q _ (I.hok.fresh (Nat.le_succ _))⟩
theorem each_xs : ∀ xs : List (NK × Addr × Value), PySem.W.EachIs (fun u (b : V × NK) => L2.RelV b.1 u) (xs.map fun x => Value.ref x.2.1) (xs.map fun x => ((V.ref x.2.1, x.1) : V × NK))
  | [] => .nil
  | x :: xs => .cons rfl (each_xs xs)
theorem each_valsN : ∀ {bs : List (V × NK)} {us : List Value}, PySem.W.EachIs (fun u (b : V × NK) => L2.RelV b.1 u) us bs → Vals (bs.map (·.1)) us
  | _, _, .nil => .nil
  | _, _, .cons h t => by rw [List.map_cons]; exact .cons h (each_valsN t)
/-- sorted(d) -/
theorem cr_sortedN {P : Program} {w : World} {K : PySem.W.Frag} (hc : X.calm = true) (hu : X.A.units + 64 < cLine) (hP : X.prog = P := by rfl) (hw : X.w = w := by rfl) (hK : X.K = K := by rfl) : CallR X (.builtin "sorted") (fun xs H Q => ∃ (a : Addr) (kvs : List (NK × V)), xs = [.ref a] ∧ DNr P w K H a kvs ∧ SortOk (kvs.map (·.1.data)) ∧
    ∀ (bs : List (V × NK)) p, bs.map (·.2) = kvs.map (·.1) → (∀ b ∈ bs, KeyAt K H b.1 b.2) → H p = none → Q (.ref p) (upd H p (.lst ((bs.mergeSort (PySem.W.dataLe false fun b => b.2.data)).map (·.1))))) := by
  subst hP hw hK
  rintro pins s σ H vs us Q I r ⟨a, kvs, rfl, d, ok, q⟩
  rw [Vals.ref1 r]
  obtain ⟨xs, rel, ⟨o, es, ep, h1, h2, h3, h4, h5, h6⟩, hz, hd⟩ := dn_of I d
  have hsz : es.size = xs.length := by rw [← Array.length_toList, h4, List.length_map]
  have hl2 : kvs.length = xs.length := kn_len rel
  have hraw : s.heap.DictRaw a es ep := ⟨o, h1, h2, h3⟩
  refine Calls.call_function_entry kind_sorted plain_sorted entry_sorted (args_sorted1 _) ?_
  unfold Builtin.«sorted»
  refine wpAny_bind (m := checkCount "sorted" 1 1 _) (wpAny_pure ?_)
  refine wpAny_bind (PySem.W.kdu_collect (A := X.A.in1) (KdlSrc.rawDict (es := es) (ep := ep) hd) (I.ok.hd hc) hraw (by omega) fun h' tk acc hk hacc => ?_)
  have hacL : acc.toList = xs.map fun x => Value.ref x.2.1 := by
    refine List.ext_getElem? fun j => ?_
    rw [Array.getElem?_toList, List.getElem?_map]
    by_cases hj : j < xs.length
    · have hja : j < acc.size := by rw [hacc.1]; omega
      obtain ⟨hi, hv⟩ := hacc.2 j acc[j] (by rw [Array.getElem?_eq_getElem hja])
      have e1 : es[j]? = some (entryOfKey (nestedKind X.prog X.w) xs[j]) := by rw [← Array.getElem?_toList, h4, List.getElem?_map, List.getElem?_eq_getElem hj]; rfl
      rw [Array.getElem?_eq_getElem hi] at e1
      rw [Array.getElem?_eq_getElem hja, hv, List.getElem?_eq_getElem hj, Option.some.inj e1]
      rfl
    · rw [List.getElem?_eq_none (by omega), Array.getElem?_eq_none (by rw [hacc.1]; omega)]
      rfl
  have hl : acc.toList.length = es.size := by rw [Array.length_toList]; exact hacc.1
  refine wpAny_bind (wpAny_newList ?_ (by rw [hl]; omega))
  have bsn : (xs.map fun x => ((V.ref x.2.1, x.1) : V × NK)).map (·.2) = kvs.map (·.1) := by
    rw [List.map_map]
    have : ∀ {l : List (NK × V)} {m : List (NK × Addr × Value)}, KN X.K H l m → m.map (fun x => x.1) = l.map (·.1) := by
      intro l m r
      unfold KN at r
      induction r with
      | nil => rfl
      | cons h t ih => rw [List.map_cons, List.map_cons, ih, h.1]
    exact this rel
  have bsk : ∀ b ∈ xs.map (fun x => ((V.ref x.2.1, x.1) : V × NK)), KeyAt X.K H b.1 b.2 := by
    have : ∀ {l : List (NK × V)} {m : List (NK × Addr × Value)}, KN X.K H l m → ∀ b ∈ m.map (fun x => ((V.ref x.2.1, x.1) : V × NK)), KeyAt X.K H b.1 b.2 := by
      intro l m r
      unfold KN at r
      induction r with
      | nil => intro b hb; exact nomatch hb
      | @cons p q ps qs h t ih =>
        intro b hb
        rw [List.map_cons] at hb
        rcases List.mem_cons.mp hb with e | hb
        · rw [e, ← h.1]; exact h.2.1
        · exact ih b hb
    exact this rel
  generalize hbs : (xs.map fun x => ((V.ref x.2.1, x.1) : V × NK)) = bs at bsn bsk
  have hbl : bs.length = xs.length := by rw [← hbs, List.length_map]
  have evl : PySem.W.EachIs (fun u (b : V × NK) => L2.RelV b.1 u) acc.toList bs := by
    rw [hacL, ← hbs]
    exact each_xs xs
  have erd : PySem.W.EachIs (fun u (b : V × NK) => ∃ as, Reads (h'.push { cls := .type "list", data := .seq acc.toList.toArray }) u b.2.data as ∧ h'.objs.size ∉ as) acc.toList bs := by
    refine each_and evl fun u b hb ru => ?_
    obtain ⟨as, r1⟩ := Dp.reads I b.2.data b.1 u (bsk b hb).dp ru
    refine ⟨as, PyProof.Rows.Reads.keeps (fun c ob e => Heap.get?_push_of_some _ (hk c ob e)) r1, fun hm => ?_⟩
    obtain ⟨ob, e⟩ := PyProof.On.reads_mem_get r1 _ hm
    exact absurd (Heap.lt_size (hk _ _ e)) (Nat.lt_irrefl _)
  refine wpAny_bind (wpAny_holding (wpAny_mono (PySem.W.list_sort_data (A := X.A.in1) (s := { s with heap := h'.push { cls := .type "list", data := .seq acc.toList.toArray }, toks := tk }) (enc := fun b : V × NK => b.2.data) (n := 0) (Q := fun _ s' => EP X pins σ Q (.ref h'.objs.size) s') (E := fun e s' => X.xe e s') ?_ evl erd ?_ ?_ ?_ ?_ ?_) (fun _ s' x => ?_) fun _ _ e => e))
  · exact Heap.get?_push_size _ rfl
  · rw [show (bs.map fun b : V × NK => b.2.data) = (kvs.map (·.1)).map NestedKey.data from by rw [← bsn, List.map_map]; rfl, List.map_map]
    exact ok.al
  · rw [show (bs.map fun b : V × NK => b.2.data) = (kvs.map (·.1)).map NestedKey.data from by rw [← bsn, List.map_map]; rfl, List.map_map]
    exact ok.so
  · omega
  · intro b hb
    have hm : b.2 ∈ kvs.map (·.1) := by rw [← bsn]; exact List.mem_map.mpr ⟨b, hb, rfl⟩
    have := ok.dep b.2.data (by obtain ⟨p, hp, e⟩ := List.mem_map.mp hm; exact List.mem_map.mpr ⟨p, hp, by show p.1.data = b.2.data; rw [e]⟩)
    rw [Around.in1_units]
    omega
  · intro out hlen ho
    have hob : (h'.push { cls := .type "list", data := .seq acc.toList.toArray }).get? h'.objs.size = some (PyProof.Rows.seqObj "list" acc.toList.toArray 0) := Heap.get?_push_size _ rfl
    obtain ⟨ep', he'⟩ := PyProof.Rows.sortedHeap_at (vs := acc.toList) (out := out.toArray) hob
    have I2 : Inv X pins σ H { s with heap := h', toks := tk } := I.kept (t' := tk) hk
    have hv : Vals ((bs.mergeSort (PySem.W.dataLe false fun b => b.2.data)).map (·.1)) out := each_valsN ho
    have hlen' : ((bs.mergeSort (PySem.W.dataLe false fun b => b.2.data)).map (·.1)).length ≤ sizeLine := by rw [List.length_map, List.length_mergeSort]; omega
    refine ⟨.ref _, upd H h'.objs.size (.lst ((bs.mergeSort (PySem.W.dataLe false fun b => b.2.data)).map (·.1))), I2.laid (t' := tk) (fun b u e => ?_) (Nat.le_refl _) ⟨hlen', out, ep', hv, he'⟩, rfl, q bs _ bsn bsk (I2.hok.fresh (Nat.le_refl _))⟩
    have e2 := Heap.get?_push_of_some ({ cls := .type "list", data := .seq acc.toList.toArray } : Obj) e
    have e3 : b < h'.objs.size := Heap.lt_size e
    rw [PyProof.Rows.sortedHeap_old (Nat.ne_of_lt e3) (Heap.lt_size e2)]
    exact e2
  · exact wpAny_pure ⟨_, rfl, x⟩
end
end My

/-! search by layers: the mathematics -/
namespace My
section
variable {α : Type} [DecidableEq α] (led : α → Nat → α) (m : Nat)
def inB (B : List (α × List Nat)) (t : α) : Bool := B.any fun p => decide (p.1 = t)
/-- one code from e, B known, F found in this round -/
def stC (B : List (α × List Nat)) (e : α × List Nat) (F : List (α × List Nat)) (k : Nat) : List (α × List Nat) :=
  if inB (B ++ F) (led e.1 k) = true then F else F ++ [(led e.1 k, e.2 ++ [k])]
def stE (B F : List (α × List Nat)) (e : α × List Nat) : List (α × List Nat) := (List.range m).foldl (stC led B e) F
def nxt (B L : List (α × List Nat)) : List (α × List Nat) := L.foldl (stE led m B) []
/-- what was known ahead of the round n, and the round's layer -/
def lyr (s : α) : Nat → List (α × List Nat) × List (α × List Nat)
  | 0 => ([], [(s, [])])
  | n + 1 => ((lyr s n).1 ++ (lyr s n).2, nxt led m ((lyr s n).1 ++ (lyr s n).2) (lyr s n).2)
end
section
variable {α : Type} [DecidableEq α] {led : α → Nat → α} {m : Nat}
theorem inB_iff {B : List (α × List Nat)} {t : α} : inB B t = true ↔ t ∈ B.map (·.1) := by
  unfold inB
  rw [List.any_eq_true, List.mem_map]
  constructor
  · rintro ⟨p, hp, e⟩; exact ⟨p, hp, of_decide_eq_true e⟩
  · rintro ⟨p, hp, e⟩; exact ⟨p, hp, decide_eq_true e⟩
theorem inB_no {B : List (α × List Nat)} {t : α} : inB B t = false ↔ t ∉ B.map (·.1) := by
  rw [← inB_iff]
  cases inB B t <;> simp
/-- what is known is right -/
structure Gd (led : α → Nat → α) (m : Nat) (s : α) (E : List (α × List Nat)) : Prop where
  nd : (E.map (·.1)).Nodup
  run : ∀ e ∈ E, e.1 = e.2.foldl led s ∧ ∀ k ∈ e.2, k < m
  ch : ∀ e ∈ E, e.2 = [] ∨ ∃ p r k, (p, r) ∈ E ∧ e.2 = r ++ [k]
theorem Gd.one (s : α) : Gd led m s [(s, [])] := ⟨by simp, fun e he => by rw [List.mem_singleton.mp he]; exact ⟨rfl, nofun⟩, fun e he => by rw [List.mem_singleton.mp he]; exact .inl rfl⟩
theorem Gd.push {s : α} {E : List (α × List Nat)} (g : Gd led m s E) {e : α × List Nat} (he : e ∈ E) {k : Nat} (hk : k < m) (hn : led e.1 k ∉ E.map (·.1)) : Gd led m s (E ++ [(led e.1 k, e.2 ++ [k])]) := by
  refine ⟨?_, fun x hx => ?_, fun x hx => ?_⟩
  · rw [List.map_append, List.nodup_append]
    refine ⟨g.nd, by simp, fun a ha b hb => ?_⟩
    rw [List.map_singleton, List.mem_singleton] at hb
    intro e'
    have hb : b = led e.1 k := hb
    exact hn (by rw [← hb, ← e']; exact ha)
  · rcases List.mem_append.mp hx with h | h
    · exact g.run x h
    · rw [List.mem_singleton.mp h]
      obtain ⟨r1, r2⟩ := g.run e he
      refine ⟨by rw [List.foldl_append, ← r1]; rfl, fun j hj => ?_⟩
      rcases List.mem_append.mp hj with h | h
      · exact r2 j h
      · rw [List.mem_singleton.mp h]; exact hk
  · rcases List.mem_append.mp hx with h | h
    · rcases g.ch x h with h | ⟨p, r, j, h1, h2⟩
      · exact .inl h
      · exact .inr ⟨p, r, j, List.mem_append_left _ h1, h2⟩
    · rw [List.mem_singleton.mp h]
      exact .inr ⟨e.1, e.2, k, List.mem_append_left _ he, rfl⟩
theorem stC_yes {B F : List (α × List Nat)} {e : α × List Nat} {k : Nat} (h : led e.1 k ∈ (B ++ F).map (·.1)) : stC led B e F k = F := if_pos (inB_iff.mpr h)
theorem stC_no {B F : List (α × List Nat)} {e : α × List Nat} {k : Nat} (h : led e.1 k ∉ (B ++ F).map (·.1)) : stC led B e F k = F ++ [(led e.1 k, e.2 ++ [k])] := if_neg (by rw [inB_no.mpr h]; exact Bool.false_ne_true)
theorem Gd.stC {s : α} {B F : List (α × List Nat)} (g : Gd led m s (B ++ F)) {e : α × List Nat} (he : e ∈ B) {k : Nat} (hk : k < m) : Gd led m s (B ++ My.stC led B e F k) := by
  by_cases h : led e.1 k ∈ (B ++ F).map (·.1)
  · rw [stC_yes h]; exact g
  · rw [stC_no h, ← List.append_assoc]
    exact g.push (List.mem_append_left _ he) hk h
/-- the codes below n -/
def stN (led : α → Nat → α) (B F : List (α × List Nat)) (e : α × List Nat) (n : Nat) : List (α × List Nat) := (List.range n).foldl (stC led B e) F
theorem stN_zero {B F : List (α × List Nat)} {e : α × List Nat} : stN led B F e 0 = F := rfl
theorem stN_succ {B F : List (α × List Nat)} {e : α × List Nat} {n : Nat} : stN led B F e (n + 1) = stC led B e (stN led B F e n) n := by
  unfold stN
  rw [List.range_succ, List.foldl_append]
  rfl
theorem Gd.stN {s : α} {B F : List (α × List Nat)} (g : Gd led m s (B ++ F)) {e : α × List Nat} (he : e ∈ B) : ∀ n, n ≤ m → Gd led m s (B ++ My.stN led B F e n)
  | 0, _ => g
  | n + 1, h => by
    rw [stN_succ]
    exact (Gd.stN g he n (by omega)).stC he (by omega)
/-- the first i of the layer -/
def nxI (led : α → Nat → α) (m : Nat) (B L : List (α × List Nat)) (i : Nat) : List (α × List Nat) := (L.take i).foldl (stE led m B) []
theorem nxI_zero {B L : List (α × List Nat)} : nxI led m B L 0 = [] := rfl
theorem nxI_succ {B L : List (α × List Nat)} {i : Nat} {e : α × List Nat} (h : L[i]? = some e) : nxI led m B L (i + 1) = stN led B (nxI led m B L i) e m := by
  unfold nxI
  rw [List.take_add_one, h, List.foldl_append]
  rfl
theorem nxI_all {B L : List (α × List Nat)} : nxI led m B L L.length = nxt led m B L := by
  unfold nxI nxt
  rw [List.take_length]
theorem Gd.nxI {s : α} {B L : List (α × List Nat)} (g : Gd led m s B) (hL : ∀ e ∈ L, e ∈ B) : ∀ i, i ≤ L.length → Gd led m s (B ++ My.nxI led m B L i)
  | 0, _ => by rw [nxI_zero, List.append_nil]; exact g
  | i + 1, h => by
    rw [nxI_succ (List.getElem?_eq_getElem (show i < L.length by omega))]
    exact (Gd.nxI g hL i (by omega)).stN (hL _ (List.getElem_mem _)) m (Nat.le_refl _)
theorem Gd.lyr (s : α) : ∀ n, Gd led m s ((My.lyr led m s n).1 ++ (My.lyr led m s n).2)
  | 0 => Gd.one s
  | n + 1 => by
    have g := Gd.lyr s n
    have := g.nxI (L := (My.lyr led m s n).2) (fun e he => List.mem_append_right _ he) _ (Nat.le_refl _)
    rw [nxI_all] at this
    exact this
theorem lyr_S (s : α) (n : Nat) : lyr led m s (n + 1) = ((lyr led m s n).1 ++ (lyr led m s n).2, nxt led m ((lyr led m s n).1 ++ (lyr led m s n).2) (lyr led m s n).2) := rfl
/-- a round that is not empty: so many are known -/
theorem lyr_many (s : α) : ∀ n, (lyr led m s n).2 ≠ [] → n + 1 ≤ ((lyr led m s n).1 ++ (lyr led m s n).2).length
  | 0, _ => Nat.le_refl _
  | n + 1, h => by
    rw [lyr_S] at h ⊢
    by_cases h0 : (lyr led m s n).2 = []
    · exact absurd (by rw [h0]; rfl) h
    · have := lyr_many s n h0
      have h2 := List.length_pos_iff.mpr h
      rw [List.length_append]
      show n + 1 + 1 ≤ ((lyr led m s n).1 ++ (lyr led m s n).2).length + _
      omega
/-- the rows of the round n have n codes -/
theorem stC_all {P : α × List Nat → Prop} {B F : List (α × List Nat)} {e : α × List Nat} {k : Nat} (hF : ∀ x ∈ F, P x) (h : P (led e.1 k, e.2 ++ [k])) : ∀ x ∈ stC led B e F k, P x := by
  intro x hx
  unfold stC at hx
  split at hx
  · exact hF x hx
  · rcases List.mem_append.mp hx with h' | h'
    · exact hF x h'
    · rw [List.mem_singleton.mp h']; exact h
theorem stN_all {P : α × List Nat → Prop} {B F : List (α × List Nat)} {e : α × List Nat} (hF : ∀ x ∈ F, P x) : ∀ n, (∀ k, k < n → P (led e.1 k, e.2 ++ [k])) → ∀ x ∈ stN led B F e n, P x
  | 0, _ => hF
  | n + 1, h => by
    rw [stN_succ]
    exact stC_all (stN_all hF n fun k hk => h k (by omega)) (h n (by omega))
theorem nxI_allP {P : α × List Nat → Prop} {B L : List (α × List Nat)} (h : ∀ e ∈ L, ∀ k, k < m → P (led e.1 k, e.2 ++ [k])) : ∀ i, i ≤ L.length → ∀ x ∈ nxI led m B L i, P x
  | 0, _ => nofun
  | i + 1, hi => by
    rw [nxI_succ (List.getElem?_eq_getElem (show i < L.length by omega))]
    exact stN_all (nxI_allP h i (by omega)) m (h _ (List.getElem_mem _))
theorem lyr_len (s : α) : ∀ n, ∀ e ∈ (lyr led m s n).2, e.2.length = n
  | 0 => fun e he => by rw [List.mem_singleton.mp he]; rfl
  | n + 1 => by
    rw [lyr_S, ← nxI_all]
    refine nxI_allP (fun e he k _ => ?_) _ (Nat.le_refl _)
    show (e.2 ++ [k]).length = n + 1
    rw [List.length_append, lyr_len s n e he]
    rfl
theorem lyr_lenB (s : α) : ∀ n, ∀ e ∈ (lyr led m s n).1 ++ (lyr led m s n).2, e.2.length ≤ n
  | 0 => fun e he => by rw [List.mem_singleton.mp he]; exact Nat.le_refl _
  | n + 1 => fun e he => by
    rw [lyr_S] at he
    rcases List.mem_append.mp he with h | h
    · have := lyr_lenB s n e h; omega
    · have := lyr_len s (n + 1) e (by rw [lyr_S]; exact h); omega
/-- rows of a round in rising order -/
def lexN : List Nat → List Nat → Prop
  | [], [] => False
  | [], _ :: _ => True
  | _ :: _, [] => False
  | x :: xs, y :: ys => x < y ∨ x = y ∧ lexN xs ys
theorem lexN_snoc : ∀ (r : List Nat) {i j : Nat}, i < j → lexN (r ++ [i]) (r ++ [j])
  | [], _, _, h => .inl h
  | x :: r, _, _, h => .inr ⟨rfl, lexN_snoc r h⟩
theorem lexN_app : ∀ {r q : List Nat} (i j : Nat), r.length = q.length → lexN r q → lexN (r ++ [i]) (q ++ [j])
  | [], [], _, _, _, h => h.elim
  | [], _ :: _, _, _, e, _ => by simp at e
  | _ :: _, [], _, _, e, _ => by simp at e
  | x :: r, y :: q, i, j, e, h => by
    rcases h with h | ⟨h, h2⟩
    · exact .inl h
    · exact .inr ⟨h, lexN_app i j (by simpa using e) h2⟩
theorem stN_sorted {B F : List (α × List Nat)} {e : α × List Nat} (hF : (F.map (·.2)).Pairwise lexN) (hlt : ∀ x ∈ F, ∀ k, lexN x.2 (e.2 ++ [k])) : ∀ n, ((stN led B F e n).map (·.2)).Pairwise lexN ∧ ∀ x ∈ stN led B F e n, ∀ k, n ≤ k → lexN x.2 (e.2 ++ [k])
  | 0 => ⟨hF, fun x hx k _ => hlt x hx k⟩
  | n + 1 => by
    obtain ⟨h1, h2⟩ := stN_sorted hF hlt n
    rw [stN_succ]
    unfold stC
    split
    · exact ⟨h1, fun x hx k hk => h2 x hx k (by omega)⟩
    · refine ⟨?_, fun x hx k hk => ?_⟩
      · rw [List.map_append, List.pairwise_append]
        refine ⟨h1, by simp, fun a ha b hb => ?_⟩
        obtain ⟨x, hx, rfl⟩ := List.mem_map.mp ha
        rw [List.map_singleton, List.mem_singleton] at hb
        rw [hb]
        exact h2 x hx n (Nat.le_refl _)
      · rcases List.mem_append.mp hx with h | h
        · exact h2 x h k (by omega)
        · rw [List.mem_singleton.mp h]
          exact lexN_snoc _ (by omega)
theorem nxI_sorted {B L : List (α × List Nat)} {c : Nat} (hL : (L.map (·.2)).Pairwise lexN) (hc : ∀ e ∈ L, e.2.length = c) : ∀ i, i ≤ L.length → ((nxI led m B L i).map (·.2)).Pairwise lexN ∧ ∀ x ∈ nxI led m B L i, ∀ j e, i ≤ j → L[j]? = some e → ∀ k, lexN x.2 (e.2 ++ [k])
  | 0, _ => ⟨.nil, nofun⟩
  | i + 1, hi => by
    obtain ⟨h1, h2⟩ := nxI_sorted hL hc i (by omega)
    have hgi : L[i]? = some L[i] := List.getElem?_eq_getElem (show i < L.length by omega)
    rw [nxI_succ hgi]
    refine ⟨(stN_sorted h1 (fun x hx k => h2 x hx i _ (Nat.le_refl _) hgi k) m).1, fun x hx j e hj he k => ?_⟩
    have hj2 := (List.getElem?_eq_some_iff.mp he).1
    have hlt : ∀ k', lexN (L[i].2 ++ [k']) (e.2 ++ [k]) := fun k' => by
      have hp := List.pairwise_iff_getElem.mp hL i j (by rw [List.length_map]; omega) (by rw [List.length_map]; omega) (by omega)
      rw [List.getElem_map, List.getElem_map, (List.getElem?_eq_some_iff.mp he).2] at hp
      exact lexN_app k' k (by rw [hc _ (List.getElem_mem _), hc e (List.mem_of_getElem? he)]) hp
    exact stN_all (P := fun x => lexN x.2 (e.2 ++ [k])) (fun y hy => h2 y hy j e (by omega) he k) m (fun k' _ => hlt k') x hx
theorem lyr_sorted (s : α) : ∀ n, ((lyr led m s n).2.map (·.2)).Pairwise lexN
  | 0 => by simp [lyr]
  | n + 1 => by
    rw [lyr_S, ← nxI_all]
    exact (nxI_sorted (lyr_sorted s n) (lyr_len s n) _ (Nat.le_refl _)).1
/-- the first one in order that is wanted: of what is known behind the last round -/
def pick (p : α → Bool) (E : List (α × List Nat)) : Option (List Nat) := (E.find? fun e => p e.1).map (·.2)
theorem pick_left {p : α → Bool} {A B : List (α × List Nat)} (h : ∀ e ∈ A, p e.1 = false) : pick p (A ++ B) = pick p B := by
  unfold pick
  rw [List.find?_append, List.find?_eq_none.mpr (fun e he => by rw [h e he]; exact Bool.false_ne_true)]
  rfl
theorem pick_at {p : α → Bool} {A B : List (α × List Nat)} {e : α × List Nat} (h : ∀ e ∈ A, p e.1 = false) (he : p e.1 = true) : pick p (A ++ e :: B) = some e.2 := by
  rw [pick_left h]
  unfold pick
  rw [List.find?_cons_of_pos (p := fun e : α × List Nat => p e.1) he]
  rfl
theorem pick_none {p : α → Bool} {A : List (α × List Nat)} (h : ∀ e ∈ A, p e.1 = false) : pick p A = none := by
  have := pick_left (B := []) h
  rw [List.append_nil] at this
  rw [this]
  rfl
/-- what stands behind a round stays -/
theorem lyr_ext (s : α) (n : Nat) : ∀ d, ∃ R, (lyr led m s (n + d)).1 ++ (lyr led m s (n + d)).2 = (lyr led m s n).1 ++ (lyr led m s n).2 ++ R
  | 0 => ⟨[], by rw [List.append_nil]; rfl⟩
  | d + 1 => by
    obtain ⟨R, h⟩ := lyr_ext s n d
    refine ⟨R ++ (lyr led m s (n + d + 1)).2, ?_⟩
    show (lyr led m s (n + d + 1)).1 ++ (lyr led m s (n + d + 1)).2 = _
    rw [show (lyr led m s (n + d + 1)).1 = (lyr led m s (n + d)).1 ++ (lyr led m s (n + d)).2 from rfl, h, List.append_assoc]
theorem lyr_end (s : α) {n : Nat} (h : (lyr led m s n).2 = []) : ∀ d, (lyr led m s (n + d)).1 = (lyr led m s n).1 ∧ (lyr led m s (n + d)).2 = []
  | 0 => ⟨rfl, h⟩
  | d + 1 => by
    obtain ⟨h1, h2⟩ := lyr_end s h d
    show (lyr led m s (n + d + 1)).1 = _ ∧ (lyr led m s (n + d + 1)).2 = []
    rw [lyr_S, h1, h2, List.append_nil]
    exact ⟨rfl, rfl⟩
/-- all that is found, N bounding the rounds -/
def allB (led : α → Nat → α) (m : Nat) (s : α) (N : Nat) : List (α × List Nat) := (lyr led m s N).1
theorem allB_of (s : α) {n N : Nat} (h : (lyr led m s n).2 = []) (hn : n ≤ N) : allB led m s N = (lyr led m s n).1 := by
  obtain ⟨d, rfl⟩ := Nat.exists_eq_add_of_le hn
  exact (lyr_end s h d).1
/-- at most N different ones can be reached -/
def Few (led : α → Nat → α) (m : Nat) (s : α) (N : Nat) : Prop := ∀ E : List (α × List Nat), Gd led m s E → E.length ≤ N
theorem lyr_stops {s : α} {N : Nat} (f : Few led m s N) : (lyr led m s N).2 = [] := by
  by_cases h : (lyr led m s N).2 = []
  · exact h
  · have h1 := lyr_many s N h
    have h2 := f _ (Gd.lyr s N)
    omega
theorem allB_ext {s : α} {n N : Nat} (f : Few led m s N) (hn : n ≤ N) : ∃ R, allB led m s N = (lyr led m s n).1 ++ (lyr led m s n).2 ++ R := by
  obtain ⟨d, rfl⟩ := Nat.exists_eq_add_of_le hn
  obtain ⟨R, h⟩ := lyr_ext (led := led) (m := m) s n d
  refine ⟨R, ?_⟩
  rw [← h, lyr_stops f, List.append_nil]
  rfl
theorem few_of {s : α} {L : List α} (h : ∀ E : List (α × List Nat), Gd led m s E → ∀ e ∈ E, e.1 ∈ L) : Few led m s L.length := fun E g => by
  have := List.Nodup.length_le_of_subset g.nd (fun a ha => by
    obtain ⟨e, he, rfl⟩ := List.mem_map.mp ha
    exact h E g e he : E.map (·.1) ⊆ L)
  rwa [List.length_map] at this
end
end My

/-! what is reached: the mathematics -/
namespace My
section
variable {α : Type} [DecidableEq α] {led : α → Nat → α} {m : Nat}
theorem stC_sub {B F : List (α × List Nat)} {e x : α × List Nat} {k : Nat} (h : x ∈ F) : x ∈ stC led B e F k := by
  unfold stC
  split
  · exact h
  · exact List.mem_append_left _ h
theorem stC_hit {B F : List (α × List Nat)} {e : α × List Nat} {k : Nat} : led e.1 k ∈ (B ++ stC led B e F k).map (·.1) := by
  by_cases h : led e.1 k ∈ (B ++ F).map (·.1)
  · rw [stC_yes h]; exact h
  · rw [stC_no h]
    exact List.mem_map.mpr ⟨(led e.1 k, e.2 ++ [k]), List.mem_append_right _ (List.mem_append_right _ (List.mem_singleton.mpr rfl)), rfl⟩
theorem grow {B F G : List (α × List Nat)} {t : α} (h : ∀ x ∈ F, x ∈ G) (ht : t ∈ (B ++ F).map (·.1)) : t ∈ (B ++ G).map (·.1) := by
  obtain ⟨x, hx, rfl⟩ := List.mem_map.mp ht
  refine List.mem_map.mpr ⟨x, ?_, rfl⟩
  rcases List.mem_append.mp hx with h' | h'
  · exact List.mem_append_left _ h'
  · exact List.mem_append_right _ (h x h')
theorem stN_sub {B F : List (α × List Nat)} {e x : α × List Nat} (h : x ∈ F) : ∀ n, x ∈ stN led B F e n
  | 0 => h
  | n + 1 => by rw [stN_succ]; exact stC_sub (stN_sub h n)
theorem stN_hit {B F : List (α × List Nat)} {e : α × List Nat} : ∀ n k, k < n → led e.1 k ∈ (B ++ stN led B F e n).map (·.1)
  | n + 1, k, h => by
    rw [stN_succ]
    by_cases e' : k = n
    · rw [e']; exact stC_hit
    · exact grow (fun x hx => stC_sub hx) (stN_hit n k (by omega))
theorem nxI_hit {B L : List (α × List Nat)} : ∀ i, i ≤ L.length → ∀ j e, j < i → L[j]? = some e → ∀ k, k < m → led e.1 k ∈ (B ++ nxI led m B L i).map (·.1)
  | i + 1, hi, j, e, hj, he, k, hk => by
    have hgi : L[i]? = some L[i] := List.getElem?_eq_getElem (show i < L.length by omega)
    rw [nxI_succ hgi]
    by_cases e' : j = i
    · subst e'
      rw [hgi] at he
      rw [← Option.some.inj he]
      exact stN_hit m k hk
    · exact grow (fun x hx => stN_sub hx m) (nxI_hit i (by omega) j e (by omega) he k hk)
theorem lyr_closed (s : α) : ∀ n, ∀ e ∈ (lyr led m s n).1, ∀ k, k < m → led e.1 k ∈ ((lyr led m s n).1 ++ (lyr led m s n).2).map (·.1)
  | 0 => nofun
  | n + 1 => fun e he k hk => by
    rw [lyr_S] at he ⊢
    rcases List.mem_append.mp he with h | h
    · have := lyr_closed s n e h k hk
      obtain ⟨x, hx, h'⟩ := List.mem_map.mp this
      exact List.mem_map.mpr ⟨x, List.mem_append_left _ hx, h'⟩
    · obtain ⟨j, hj⟩ := List.mem_iff_getElem?.mp h
      rw [← nxI_all]
      exact nxI_hit _ (Nat.le_refl _) j e ((List.getElem?_eq_some_iff.mp hj).1) hj k hk
theorem allB_closed {s : α} {N : Nat} (f : Few led m s N) : ∀ e ∈ allB led m s N, ∀ k, k < m → led e.1 k ∈ (allB led m s N).map (·.1) := by
  have h := lyr_closed (led := led) (m := m) s N
  rw [lyr_stops f, List.append_nil] at h
  exact h
theorem allB_self {s : α} {N : Nat} (f : Few led m s N) : s ∈ (allB led m s N).map (·.1) := by
  obtain ⟨R, hR⟩ := allB_ext (led := led) (m := m) (s := s) f (Nat.zero_le _)
  rw [hR]
  exact List.mem_map.mpr ⟨(s, []), List.mem_append_left _ (List.mem_append_right _ (List.mem_singleton.mpr rfl)), rfl⟩
/-- t is reached from s -/
def Rch (led : α → Nat → α) (m : Nat) (s t : α) : Prop := ∃ r : List Nat, (∀ k ∈ r, k < m) ∧ r.foldl led s = t
theorem closed_all {S : α → Prop} (hc : ∀ x, S x → ∀ k, k < m → S (led x k)) : ∀ (r : List Nat) (s : α), S s → (∀ k ∈ r, k < m) → S (r.foldl led s)
  | [], _, h, _ => h
  | k :: r, s, h, hr => closed_all hc r (led s k) (hc s h k (hr k List.mem_cons_self)) fun j hj => hr j (List.mem_cons_of_mem _ hj)
/-- what is known, when it is closed -/
theorem gd_rch {s : α} {E : List (α × List Nat)} (g : Gd led m s E) (hs : s ∈ E.map (·.1)) (hc : ∀ e ∈ E, ∀ k, k < m → led e.1 k ∈ E.map (·.1)) (t : α) : t ∈ E.map (·.1) ↔ Rch led m s t := by
  constructor
  · intro h
    obtain ⟨e, he, rfl⟩ := List.mem_map.mp h
    obtain ⟨h1, h2⟩ := g.run e he
    exact ⟨e.2, h2, h1.symm⟩
  · rintro ⟨r, hr, rfl⟩
    exact closed_all (S := fun x => x ∈ E.map (·.1)) (fun x hx k hk => by
      obtain ⟨e, he, rfl⟩ := List.mem_map.mp hx
      exact hc e he k hk) r s hs hr
end
/-! pairs in order -/
def ltP (a b : Int × Int) : Prop := a.1 < b.1 ∨ a.1 = b.1 ∧ a.2 < b.2
theorem strict_unique : ∀ {a b : List (Int × Int)}, a.Pairwise ltP → b.Pairwise ltP → (∀ x, x ∈ a ↔ x ∈ b) → a = b
  | [], [], _, _, _ => rfl
  | [], y :: b, _, _, h => absurd ((h y).mpr List.mem_cons_self) List.not_mem_nil
  | x :: a, [], _, _, h => absurd ((h x).mp List.mem_cons_self) List.not_mem_nil
  | x :: a, y :: b, ha, hb, h => by
    rw [List.pairwise_cons] at ha hb
    have irr : ∀ z, ¬ ltP z z := fun z hz => by
      rcases hz with hz | ⟨_, hz⟩ <;> omega
    have asy : ∀ {u v}, ltP u v → ¬ ltP v u := fun {u v} h1 h2 => by
      rcases h1 with h1 | ⟨h1, h1'⟩ <;> rcases h2 with h2 | ⟨h2, h2'⟩ <;> omega
    have e : x = y := by
      rcases List.mem_cons.mp ((h x).mp List.mem_cons_self) with e | h1
      · exact e
      · rcases List.mem_cons.mp ((h y).mpr List.mem_cons_self) with e | h2
        · exact e.symm
        · exact absurd (ha.1 y h2) (asy (hb.1 x h1))
    subst e
    rw [strict_unique ha.2 hb.2 fun z => ⟨fun hz => ?_, fun hz => ?_⟩]
    · rcases List.mem_cons.mp ((h z).mp (List.mem_cons_of_mem _ hz)) with e | h'
      · exact absurd (ha.1 z hz) (by rw [e]; exact irr _)
      · exact h'
    · rcases List.mem_cons.mp ((h z).mpr (List.mem_cons_of_mem _ hz)) with e | h'
      · exact absurd (hb.1 z hz) (by rw [e]; exact irr _)
      · exact h'
theorem sort_pairs {l T : List (Int × Int)} {le : Int × Int → Int × Int → Bool} (hle : ∀ a b, le a b = decide (a.1 < b.1 ∨ a.1 = b.1 ∧ a.2 ≤ b.2)) (hT : T.Pairwise ltP) (hl : l.Nodup) (h : ∀ x, x ∈ l ↔ x ∈ T) : l.mergeSort le = T := by
  refine strict_unique ?_ hT fun x => by rw [List.mem_mergeSort]; exact h x
  have h1 := List.pairwise_mergeSort (le := le) (fun a b c h1 h2 => by
    rw [hle, decide_eq_true_iff] at h1 h2 ⊢
    omega) (fun a b => by
    rw [Bool.or_eq_true, hle, hle, decide_eq_true_iff, decide_eq_true_iff]
    omega) l
  have h2 : (l.mergeSort le).Nodup := (List.mergeSort_perm l le).nodup_iff.mpr hl
  refine (h1.and h2).imp fun {a b} ⟨h1, h2⟩ => ?_
  rw [hle, decide_eq_true_iff] at h1
  unfold ltP
  by_cases e : a.1 = b.1
  · by_cases e2 : a.2 = b.2
    · exact absurd (Prod.ext e e2) h2
    · omega
  · omega
end My

/-! `x < y` of two pairs of numbers -/
namespace My
open PySem PySem.Spec PyProof.Rows L2
theorem un65 {k : Nat} {A : Around} (r : Room k A) : A.units + 65 < cLine := by have := r.un; omega
def ltPB (a b : Int × Int) : Bool := if a.1 = b.1 then decide (a.2 < b.2) else decide (a.1 < b.1)
theorem ltPB_iff {a b : Int × Int} : ltPB a b = true ↔ a.1 < b.1 ∨ a.1 = b.1 ∧ a.2 < b.2 := by
  unfold ltPB
  split
  · rename_i h
    rw [decide_eq_true_iff]
    constructor
    · exact fun q => .inr ⟨h, q⟩
    · rintro (q | q)
      · omega
      · exact q.2
  · rename_i h
    rw [decide_eq_true_iff]
    constructor
    · exact fun q => .inl q
    · rintro (q | q)
      · exact q
      · exact absurd q.1 h
def rLtP (K : PySem.W.Frag) : R2 := fun x y H Q => ∃ (a b : Addr) (p q : Int × Int), x = .ref a ∧ y = .ref b ∧ SqT K H a [.int p.1, .int p.2] ∧ SqT K H b [.int q.1, .int q.2] ∧ Q (.bl (ltPB p q)) H
theorem pair_its {its : List Value} {p : Int × Int} (r : Vals [V.int p.1, V.int p.2] its) : ∃ t1 t2, its = [.int p.1 t1, .int p.2 t2] := by
  match its, r with
  | [u1, u2], .cons r1 (.cons r2 .nil) =>
    obtain ⟨t1, rfl⟩ := r1
    obtain ⟨t2, rfl⟩ := r2
    exact ⟨t1, t2, rfl⟩
theorem dec_eqI (x y : Int) : (x == y) = decide (x = y) := by
  by_cases h : x = y
  · subst h
    rw [beq_self_eq_true, decide_eq_true rfl]
  · rw [decide_eq_false h]
    exact beq_eq_false_iff_ne.mpr h
theorem op_ltP {X : Cx} (hu : X.A.units + 64 < cLine) : OpR X (compareOp .Lt) (rLtP X.K) := by
  intro pins s σ H x y v u Q I rx ry h
  obtain ⟨a, b, p, q, rfl, rfl, ha, hb, qq⟩ := h
  cases rx
  cases ry
  obtain ⟨its, r1, p1, _⟩ := I.tuple ha
  obtain ⟨its2, r2, p2, _⟩ := I.tuple hb
  obtain ⟨t1, t2, rfl⟩ := pair_its r1
  obtain ⟨t3, t4, rfl⟩ := pair_its r2
  have R := Ob.RcOp.tuples_lt (A := X.A) (s := s) (e := fun j => if j = 0 then decide (p.1 = q.1) else decide (p.2 = q.2)) (r := fun j => if j = 0 then decide (p.1 < q.1) else decide (p.2 < q.2)) p1 p2 (by omega) (fun j h1 h2 => by
    match j, h1, h2 with
    | 0, _, _ =>
      rw [if_pos rfl, ← dec_eqI]
      exact SeqAt.EqAt.int_int _ _ _ _
    | 1, _, _ =>
      rw [if_neg (by decide), ← dec_eqI]
      exact SeqAt.EqAt.int_int _ _ _ _) (fun j h1 h2 _ => by
    match j, h1, h2 with
    | 0, _, _ =>
      rw [if_pos rfl]
      exact Ob.RcOp.lt_int _ _ _ _
    | 1, _, _ =>
      rw [if_neg (by decide)]
      exact Ob.RcOp.lt_int _ _ _ _)
  have z : wpAny (model X.prog X.w) X.A (compareOp .Lt (.ref a) (.ref b)) (EP X pins σ Q) X.xe s := R X.prog X.w X.xe (EP X pins σ Q) ⟨.bl _, H, I, rfl, by
    have e : Ob.lexAt (fun j => if j = 0 then decide (p.1 = q.1) else decide (p.2 = q.2)) (fun j => if j = 0 then decide (p.1 < q.1) else decide (p.2 < q.2)) (decide ([Value.int p.1 t1, Value.int p.2 t2].toArray.size < [Value.int q.1 t3, Value.int q.2 t4].toArray.size)) 0 (min [Value.int p.1 t1, Value.int p.2 t2].toArray.size [Value.int q.1 t3, Value.int q.2 t4].toArray.size) = ltPB p q := by
      show Ob.lexAt _ _ _ 0 2 = ltPB p q
      rw [Ob.lexAt_succ, Ob.lexAt_succ, Ob.lexAt_zero]
      show (if (if (0 : Nat) = 0 then decide (p.1 = q.1) else decide (p.2 = q.2)) = true then if (if (1 : Nat) = 0 then decide (p.1 = q.1) else decide (p.2 = q.2)) = true then decide (2 < 2) else (if (1 : Nat) = 0 then decide (p.1 < q.1) else decide (p.2 < q.2)) else (if (0 : Nat) = 0 then decide (p.1 < q.1) else decide (p.2 < q.2))) = ltPB p q
      rw [if_pos rfl, if_neg (show ¬ (1 : Nat) = 0 by decide), if_neg (show ¬ (1 : Nat) = 0 by decide), if_pos rfl]
      unfold ltPB
      by_cases h1 : p.1 = q.1
      · rw [decide_eq_true h1, if_pos rfl, if_pos h1]
        by_cases h2 : p.2 = q.2
        · rw [decide_eq_true h2, if_pos rfl, h2, decide_eq_false (Int.lt_irrefl _)]
          rfl
        · rw [decide_eq_false h2, if_neg (by decide)]
      · rw [decide_eq_false h1, if_neg (by decide), if_neg h1]
    rw [e]
    exact qq⟩
  exact z
end My

/-! data of numbers, None, tuples and lists: equal by == when the same -/
namespace My
open PySem PySem.Spec PyProof.Rows L2
mutual
def pz : PyData → Bool
  | .none => true
  | .int _ => true
  | .tuple ds => pzs ds
  | .list ds => pzs ds
  | _ => false
def pzs : List PyData → Bool
  | [] => true
  | d :: r => pz d && pzs r
end
mutual
theorem eqv_pz : ∀ d e : PyData, pz d = true → pz e = true → (PyData.eqv d e = true ↔ d = e)
  | .none, .none, _, _ => ⟨fun _ => rfl, fun _ => rfl⟩
  | .int a, .int b, _, _ => by
    show ((a == b) = true ↔ _)
    rw [beq_iff_eq]
    exact ⟨fun h => (by rw [h]), fun h => (by injection h)⟩
  | .tuple a, .tuple b, h1, h2 => by
    show (PyData.eqvAll a b = true ↔ _)
    rw [eqvs_pz a b h1 h2]
    exact ⟨fun h => (by rw [h]), fun h => (by injection h)⟩
  | .list a, .list b, h1, h2 => by
    show (PyData.eqvAll a b = true ↔ _)
    rw [eqvs_pz a b h1 h2]
    exact ⟨fun h => (by rw [h]), fun h => (by injection h)⟩
  | .none, .int _, _, _ => ⟨fun h => (by cases h), fun h => (by cases h)⟩
  | .none, .tuple _, _, _ => ⟨fun h => (by cases h), fun h => (by cases h)⟩
  | .none, .list _, _, _ => ⟨fun h => (by cases h), fun h => (by cases h)⟩
  | .int _, .none, _, _ => ⟨fun h => (by cases h), fun h => (by cases h)⟩
  | .int _, .tuple _, _, _ => ⟨fun h => (by cases h), fun h => (by cases h)⟩
  | .int _, .list _, _, _ => ⟨fun h => (by cases h), fun h => (by cases h)⟩
  | .tuple _, .none, _, _ => ⟨fun h => (by cases h), fun h => (by cases h)⟩
  | .tuple _, .int _, _, _ => ⟨fun h => (by cases h), fun h => (by cases h)⟩
  | .tuple _, .list _, _, _ => ⟨fun h => (by cases h), fun h => (by cases h)⟩
  | .list _, .none, _, _ => ⟨fun h => (by cases h), fun h => (by cases h)⟩
  | .list _, .int _, _, _ => ⟨fun h => (by cases h), fun h => (by cases h)⟩
  | .list _, .tuple _, _, _ => ⟨fun h => (by cases h), fun h => (by cases h)⟩
  | .str _, _, h, _ => by cases h
  | .bool _, _, h, _ => by cases h
  | .dict _, _, h, _ => by cases h
  | .none, .str _, _, h => by cases h
  | .none, .bool _, _, h => by cases h
  | .none, .dict _, _, h => by cases h
  | .int _, .str _, _, h => by cases h
  | .int _, .bool _, _, h => by cases h
  | .int _, .dict _, _, h => by cases h
  | .tuple _, .str _, _, h => by cases h
  | .tuple _, .bool _, _, h => by cases h
  | .tuple _, .dict _, _, h => by cases h
  | .list _, .str _, _, h => by cases h
  | .list _, .bool _, _, h => by cases h
  | .list _, .dict _, _, h => by cases h
theorem eqvs_pz : ∀ a b : List PyData, pzs a = true → pzs b = true → (PyData.eqvAll a b = true ↔ a = b)
  | [], [], _, _ => ⟨fun _ => rfl, fun _ => rfl⟩
  | [], _ :: _, _, _ => ⟨fun h => (by cases h), fun h => (by cases h)⟩
  | _ :: _, [], _, _ => ⟨fun h => (by cases h), fun h => (by cases h)⟩
  | d :: a, e :: b, h1, h2 => by
    obtain ⟨p1, p2⟩ := Bool.and_eq_true_iff.mp (show (pz d && pzs a) = true from h1)
    obtain ⟨q1, q2⟩ := Bool.and_eq_true_iff.mp (show (pz e && pzs b) = true from h2)
    show ((PyData.eqv d e && PyData.eqvAll a b) = true ↔ _)
    rw [Bool.and_eq_true_iff, eqv_pz d e p1 q1, eqvs_pz a b p2 q2]
    exact ⟨fun ⟨x, y⟩ => (by rw [x, y]), fun h => (by injection h with x y; exact ⟨x, y⟩)⟩
end
mutual
theorem lay_pz : ∀ d : PyData, pz d = true → d.canLay0 = true
  | .none, _ => rfl
  | .int _, _ => rfl
  | .tuple ds, h => lays_pz ds h
  | .list ds, h => lays_pz ds h
  | .str _, h => by cases h
  | .bool _, h => by cases h
  | .dict _, h => by cases h
theorem lays_pz : ∀ ds : List PyData, pzs ds = true → PyData.canLayAll0 ds = true
  | [], _ => rfl
  | d :: r, h => by
    obtain ⟨p1, p2⟩ := Bool.and_eq_true_iff.mp (show (pz d && pzs r) = true from h)
    show (d.canLay0 && PyData.canLayAll0 r) = true
    rw [lay_pz d p1, lays_pz r p2]
    rfl
end
/-- such data, nested n deep at most -/
def PZ (n : Nat) (d : PyData) : Prop := pz d = true ∧ d.depth ≤ n
theorem PZ.up {n m : Nat} {d : PyData} (h : PZ n d) (l : n ≤ m) : PZ m d := ⟨h.1, Nat.le_trans h.2 l⟩
theorem PZ.int {n : Nat} (i : Int) : PZ n (.int i) := ⟨rfl, Nat.zero_le _⟩
theorem PZ.none {n : Nat} : PZ n .none := ⟨rfl, Nat.zero_le _⟩
theorem pzs_of {n : Nat} : ∀ {l : List PyData}, (∀ d ∈ l, PZ n d) → pzs l = true ∧ PyData.depthAll l ≤ n
  | [], _ => ⟨rfl, Nat.zero_le _⟩
  | d :: l, h => by
    obtain ⟨h1, h2⟩ := pzs_of fun x hx => h x (.tail _ hx)
    obtain ⟨h3, h4⟩ := h d (.head _)
    refine ⟨?_, ?_⟩
    · show (pz d && pzs l) = true
      rw [h3, h1]
      rfl
    · show max d.depth (PyData.depthAll l) ≤ n
      omega
theorem PZ.tup {n : Nat} {l : List PyData} (h : ∀ d ∈ l, PZ n d) : PZ (n + 1) (.tuple l) := by
  obtain ⟨h1, h2⟩ := pzs_of h
  exact ⟨h1, Nat.succ_le_succ h2⟩
theorem PZ.lst {n : Nat} {l : List PyData} (h : ∀ d ∈ l, PZ n d) : PZ (n + 1) (.list l) := by
  obtain ⟨h1, h2⟩ := pzs_of h
  exact ⟨h1, Nat.succ_le_succ h2⟩
theorem PZ.tmap {n : Nat} {α : Type} {f : α → PyData} {l : List α} (h : ∀ x, PZ n (f x)) : PZ (n + 1) (.tuple (l.map f)) := PZ.tup fun d hd => by
  obtain ⟨x, _, rfl⟩ := List.mem_map.mp hd
  exact h x
theorem PZ.lmap {n : Nat} {α : Type} {f : α → PyData} {l : List α} (h : ∀ x, PZ n (f x)) : PZ (n + 1) (.list (l.map f)) := PZ.lst fun d hd => by
  obtain ⟨x, _, rfl⟩ := List.mem_map.mp hd
  exact h x
theorem PZ.two {n : Nat} {d e : PyData} (h1 : PZ n d) (h2 : PZ n e) : PZ (n + 1) (.tuple [d, e]) := PZ.tup fun x hx => by
  rcases List.mem_cons.mp hx with rfl | hx
  · exact h1
  · rw [List.mem_singleton.mp hx]; exact h2
theorem PZ.shaped {n : Nat} {d : PyData} (h : PZ n d) (l : n ≤ 64 := by decide) : SeqAt.shaped d = true := by
  show (d.canLay0 && decide (d.depth ≤ 64)) = true
  rw [lay_pz d h.1, decide_eq_true (Nat.le_trans h.2 l)]
  rfl
theorem PZ.eqv {n m : Nat} {d e : PyData} (h : PZ n d) (g : PZ m e) : PyData.eqv d e = true ↔ d = e := eqv_pz d e h.1 g.1
theorem PZ.eqvD {n m : Nat} {α : Type} [DecidableEq α] {f : α → PyData} (inj : ∀ a b, f a = f b → a = b) {a b : α} (h : PZ n (f a)) (g : PZ m (f b)) : PyData.eqv (f a) (f b) = decide (a = b) := by
  rw [Bool.eq_iff_iff, decide_eq_true_iff, h.eqv g]
  exact ⟨inj a b, fun e => by rw [e]⟩
theorem PZ.any {n : Nat} {α : Type} [DecidableEq α] {f : α → PyData} (inj : ∀ a b, f a = f b → a = b) (h : ∀ a, PZ n (f a)) (l : List α) (b : α) : ((l.map f).any fun z => PyData.eqv z (f b)) = decide (b ∈ l) := by
  rw [Bool.eq_iff_iff, decide_eq_true_iff, List.any_eq_true]
  constructor
  · rintro ⟨z, hz, e⟩
    obtain ⟨a, ha, rfl⟩ := List.mem_map.mp hz
    rw [inj _ _ (((h a).eqv (h b)).mp e)] at ha
    exact ha
  · exact fun hb => ⟨f b, List.mem_map.mpr ⟨b, hb, rfl⟩, ((h b).eqv (h b)).mpr rfl⟩
theorem map_inj {α β : Type} {f : α → β} (inj : ∀ a b, f a = f b → a = b) : ∀ {a b : List α}, a.map f = b.map f → a = b
  | [], [], _ => rfl
  | [], _ :: _, h => by cases h
  | _ :: _, [], h => by cases h
  | x :: a, y :: b, h => by
    injection h with h1 h2
    rw [inj _ _ h1, map_inj inj h2]
end My

/-! search by layers finds the first of the shortest rows -/
namespace My
/-- r is ahead of q, or is q: by lengths, then in order -/
def rowLe (r q : List Nat) : Prop := r.length < q.length ∨ r.length = q.length ∧ (r = q ∨ lexN r q)
theorem lexN_trans : ∀ {a b c : List Nat}, a.length = b.length → b.length = c.length → lexN a b → lexN b c → lexN a c
  | [], [], _, _, _, h, _ => h.elim
  | [], _ :: _, _, h, _, _, _ => by simp at h
  | _ :: _, [], _, h, _, _, _ => by simp at h
  | _ :: _, _ :: _, [], _, h, _, _ => by simp at h
  | x :: a, y :: b, z :: c, h1, h2, h3, h4 => by
    rcases h3 with h3 | ⟨rfl, h3⟩
    · rcases h4 with h4 | ⟨rfl, _⟩
      · exact .inl (Nat.lt_trans h3 h4)
      · exact .inl h3
    · rcases h4 with h4 | ⟨rfl, h4⟩
      · exact .inl h4
      · exact .inr ⟨rfl, lexN_trans (Nat.succ.inj h1) (Nat.succ.inj h2) h3 h4⟩
theorem lexN_irr : ∀ {a : List Nat}, ¬ lexN a a
  | [], h => h
  | _ :: a, h => by
    rcases h with h | ⟨_, h⟩
    · exact Nat.lt_irrefl _ h
    · exact lexN_irr h
theorem rowLe_trans {a b c : List Nat} (h1 : rowLe a b) (h2 : rowLe b c) : rowLe a c := by
  rcases h1 with h1 | ⟨l1, h1⟩
  · rcases h2 with h2 | ⟨l2, _⟩
    · exact .inl (Nat.lt_trans h1 h2)
    · exact .inl (by omega)
  · rcases h2 with h2 | ⟨l2, h2⟩
    · exact .inl (by omega)
    · refine .inr ⟨l1.trans l2, ?_⟩
      rcases h1 with rfl | h1
      · exact h2
      · rcases h2 with rfl | h2
        · exact .inr h1
        · exact .inr (lexN_trans l1 l2 h1 h2)
theorem rowLe_anti {a b : List Nat} (h1 : rowLe a b) (h2 : rowLe b a) : a = b := by
  rcases h1 with h1 | ⟨l1, h1⟩
  · rcases h2 with h2 | ⟨l2, _⟩ <;> omega
  · rcases h2 with h2 | ⟨l2, h2⟩
    · omega
    · rcases h1 with rfl | h1
      · rfl
      · rcases h2 with rfl | h2
        · rfl
        · exact absurd (lexN_trans l1 l2 h1 h2) lexN_irr
theorem lexN_snoc2 : ∀ {a b : List Nat} (k : Nat), a.length = b.length → lexN a b → lexN (a ++ [k]) (b ++ [k]) := fun k h1 h2 => lexN_app k k h1 h2
/-- the first of the rows that do R -/
structure FirstRow (m : Nat) (R : List Nat → Prop) (r : List Nat) : Prop where
  lt : ∀ k ∈ r, k < m
  does : R r
  le : ∀ q, (∀ k ∈ q, k < m) → R q → rowLe r q
theorem FirstRow.uniq {m : Nat} {R : List Nat → Prop} {r q : List Nat} (h : FirstRow m R r) (g : FirstRow m R q) : r = q := rowLe_anti (h.le q g.lt g.does) (g.le r h.lt h.does)
section
variable {α : Type} [DecidableEq α] {led : α → Nat → α} {m : Nat}
theorem nxI_sub {B L : List (α × List Nat)} {x : α × List Nat} {i : Nat} : ∀ d, i + d ≤ L.length → x ∈ nxI led m B L i → x ∈ nxI led m B L (i + d)
  | 0, _, h => h
  | d + 1, hl, h => by
    rw [show i + (d + 1) = (i + d) + 1 from rfl, nxI_succ (List.getElem?_eq_getElem (show i + d < L.length by omega))]
    exact stN_sub (nxI_sub d (by omega) h) m
theorem stN_sub2 {B F : List (α × List Nat)} {e x : α × List Nat} {n : Nat} : ∀ d, x ∈ stN led B F e n → x ∈ stN led B F e (n + d)
  | 0, h => h
  | d + 1, h => by
    rw [show n + (d + 1) = (n + d) + 1 from rfl, stN_succ]
    exact stC_sub (stN_sub2 d h)
/-- what a code of a leader finds is known already, or its row is not behind the leader's with the code -/
theorem nxI_le {B L : List (α × List Nat)} {c : Nat} (hL : (L.map (·.2)).Pairwise lexN) (hc : ∀ e ∈ L, e.2.length = c) {j : Nat} {e : α × List Nat} (he : L[j]? = some e) {k : Nat} (hk : k < m) :
    (∃ x ∈ B, x.1 = led e.1 k) ∨ ∃ x ∈ nxI led m B L L.length, x.1 = led e.1 k ∧ (x.2 = e.2 ++ [k] ∨ lexN x.2 (e.2 ++ [k])) := by
  have hj := (List.getElem?_eq_some_iff.mp he).1
  obtain ⟨s1, s2⟩ := nxI_sorted (led := led) (m := m) (B := B) hL hc j (by omega)
  have t := stN_sorted (led := led) (B := B) (e := e) s1 (fun x hx k' => s2 x hx j e (Nat.le_refl _) he k') k
  have up : ∀ x, x ∈ stN led B (nxI led m B L j) e (k + 1) → x ∈ nxI led m B L L.length := fun x hx => by
    have h1 : x ∈ stN led B (nxI led m B L j) e m := by
      have := stN_sub2 (led := led) (B := B) (F := nxI led m B L j) (e := e) (x := x) (n := k + 1) (m - (k + 1)) hx
      rwa [show k + 1 + (m - (k + 1)) = m by omega] at this
    rw [← nxI_succ he] at h1
    have := nxI_sub (led := led) (m := m) (B := B) (L := L) (x := x) (i := j + 1) (L.length - (j + 1)) (by omega) h1
    rwa [show j + 1 + (L.length - (j + 1)) = L.length by omega] at this
  by_cases hmem : led e.1 k ∈ (B ++ stN led B (nxI led m B L j) e k).map (·.1)
  · obtain ⟨x, hx, ex⟩ := List.mem_map.mp hmem
    rcases List.mem_append.mp hx with h | h
    · exact .inl ⟨x, h, ex⟩
    · exact .inr ⟨x, up x (by rw [stN_succ, stC_yes hmem]; exact h), ex, .inr (t.2 x h k (Nat.le_refl _))⟩
  · exact .inr ⟨(led e.1 k, e.2 ++ [k]), up _ (by rw [stN_succ, stC_no hmem]; exact List.mem_append_right _ (List.mem_singleton.mpr rfl)), rfl, .inl rfl⟩
theorem lyr_shorter (s : α) : ∀ n, ∀ e ∈ (lyr led m s n).1, e.2.length < n
  | 0 => nofun
  | n + 1 => fun e he => by
    rw [lyr_S] at he
    have := lyr_lenB (led := led) (m := m) s n e he
    omega
theorem first_le (s : α) : ∀ (n : Nat) (q : List Nat), (∀ k ∈ q, k < m) → q.length = n → ∃ e ∈ (lyr led m s n).1 ++ (lyr led m s n).2, e.1 = q.foldl led s ∧ rowLe e.2 q
  | 0, q, _, hq => by
    rw [List.length_eq_zero_iff.mp hq]
    exact ⟨(s, []), List.mem_append_right _ (List.mem_singleton.mpr rfl), rfl, .inr ⟨rfl, .inl rfl⟩⟩
  | n + 1, q, hlt, hq => by
    obtain ⟨q', k, rfl⟩ : ∃ q' k, q = q' ++ [k] := by
      have hne : q ≠ [] := fun e => by rw [e] at hq; cases hq
      exact ⟨q.dropLast, q.getLast hne, (List.dropLast_concat_getLast hne).symm⟩
    have hq' : q'.length = n := by
      rw [List.length_append] at hq
      exact Nat.succ.inj hq
    have hk : k < m := hlt k (List.mem_append_right _ (List.mem_singleton.mpr rfl))
    obtain ⟨e, he, e1, e2⟩ := first_le s n q' (fun j hj => hlt j (List.mem_append_left _ hj)) hq'
    have hf : (q' ++ [k]).foldl led s = led e.1 k := by rw [List.foldl_append, ← e1]; rfl
    rw [hf, lyr_S]
    have short : ∀ x : α × List Nat, x ∈ (lyr led m s n).1 ++ (lyr led m s n).2 → rowLe x.2 (q' ++ [k]) := fun x hx => .inl (by
      have := lyr_lenB (led := led) (m := m) s n x hx
      rw [List.length_append]
      show x.2.length < q'.length + 1
      omega)
    rcases List.mem_append.mp he with h | h
    · obtain ⟨x, hx, ex⟩ := List.mem_map.mp (lyr_closed (led := led) (m := m) s n e h k hk)
      exact ⟨x, List.mem_append_left _ hx, ex, short x hx⟩
    · obtain ⟨j, hj, ej⟩ := List.mem_iff_getElem.mp h
      have hl := lyr_len (led := led) (m := m) s n
      rcases nxI_le (led := led) (m := m) (B := (lyr led m s n).1 ++ (lyr led m s n).2) (lyr_sorted s n) hl (show (lyr led m s n).2[j]? = some e by rw [List.getElem?_eq_getElem hj, ej]) hk with ⟨x, hx, ex⟩ | ⟨x, hx, ex, hle⟩
      · exact ⟨x, List.mem_append_left _ hx, ex, short x hx⟩
      · rw [nxI_all] at hx
        refine ⟨x, List.mem_append_right _ hx, ex, ?_⟩
        have le := hl e h
        have e3 : rowLe (e.2 ++ [k]) (q' ++ [k]) := by
          rcases e2 with e2 | ⟨_, e2⟩
          · omega
          · refine .inr ⟨by rw [List.length_append, List.length_append, le, hq'], ?_⟩
            rcases e2 with e2 | e2
            · exact .inl (by rw [e2])
            · exact .inr (lexN_snoc2 k (by rw [le, hq']) e2)
        have lx : x.2.length = n + 1 := by
          have := lyr_len (led := led) (m := m) s (n + 1) x (by rw [lyr_S]; exact hx)
          exact this
        refine rowLe_trans (.inr ⟨by rw [lx, List.length_append, le]; rfl, ?_⟩) e3
        exact hle
theorem lyr_order (s : α) : ∀ n, (((lyr led m s n).1 ++ (lyr led m s n).2).map (·.2)).Pairwise rowLe
  | 0 => by simp [lyr]
  | n + 1 => by
    rw [lyr_S, List.map_append, List.pairwise_append]
    refine ⟨lyr_order s n, ?_, fun a ha b hb => ?_⟩
    · have h1 := lyr_sorted (led := led) (m := m) s (n + 1)
      have h2 := lyr_len (led := led) (m := m) s (n + 1)
      rw [lyr_S] at h1 h2
      refine h1.imp_of_mem fun {a b} ha hb h => ?_
      obtain ⟨x, hx, rfl⟩ := List.mem_map.mp ha
      obtain ⟨y, hy, rfl⟩ := List.mem_map.mp hb
      exact .inr ⟨by rw [h2 x hx, h2 y hy], .inr h⟩
    · obtain ⟨x, hx, rfl⟩ := List.mem_map.mp ha
      obtain ⟨y, hy, rfl⟩ := List.mem_map.mp hb
      have h1 := lyr_lenB (led := led) (m := m) s n x hx
      have h2 := lyr_len (led := led) (m := m) s (n + 1) y (by rw [lyr_S]; exact hy)
      exact .inl (by omega)
theorem first_all {s : α} {N : Nat} (f : Few led m s N) (q : List Nat) (hq : ∀ k ∈ q, k < m) : ∃ e ∈ allB led m s N, e.1 = q.foldl led s ∧ rowLe e.2 q := by
  obtain ⟨e, he, h⟩ := first_le (led := led) (m := m) s q.length q hq rfl
  refine ⟨e, ?_, h⟩
  by_cases hl : q.length ≤ N
  · obtain ⟨R, hR⟩ := allB_ext f hl
    rw [hR]
    exact List.mem_append_left _ he
  · have e1 := lyr_end (led := led) (m := m) s (lyr_stops f) (q.length - N)
    rw [show N + (q.length - N) = q.length by omega] at e1
    rw [e1.1, e1.2, List.append_nil] at he
    exact he
theorem all_order {s : α} {N : Nat} (f : Few led m s N) : ((allB led m s N).map (·.2)).Pairwise rowLe := by
  have := lyr_order (led := led) (m := m) s N
  rw [lyr_stops f, List.append_nil] at this
  exact this
theorem all_run {s : α} {N : Nat} (f : Few led m s N) : ∀ e ∈ allB led m s N, e.1 = e.2.foldl led s ∧ ∀ k ∈ e.2, k < m := by
  have := (Gd.lyr (led := led) (m := m) s N).run
  rw [lyr_stops f, List.append_nil] at this
  exact this
/-- what is picked is the first row -/
theorem pick_first {s : α} {N : Nat} (f : Few led m s N) {p : α → Bool} {r : List Nat} (h : pick p (allB led m s N) = some r) : FirstRow m (fun q => p (q.foldl led s) = true) r := by
  unfold pick at h
  obtain ⟨e, he, rfl⟩ := Option.map_eq_some_iff.mp h
  obtain ⟨hp, as, bs, heq, hno⟩ := List.find?_eq_some_iff_append.mp he
  have hm : e ∈ allB led m s N := List.mem_of_find?_eq_some he
  obtain ⟨r1, r2⟩ := all_run f e hm
  refine ⟨r2, by rw [← r1]; exact hp, fun q hq hpq => ?_⟩
  obtain ⟨x, hx, x1, x2⟩ := first_all f q hq
  refine rowLe_trans ?_ x2
  have hpx : p x.1 = true := by rw [x1]; exact hpq
  have ho := all_order f
  rw [heq] at hx ho
  rcases List.mem_append.mp hx with h1 | h1
  · have := hno x h1
    rw [hpx] at this
    cases this
  · rcases List.mem_cons.mp h1 with rfl | h1
    · exact .inr ⟨rfl, .inl rfl⟩
    · rw [List.map_append, List.map_cons, List.pairwise_append] at ho
      exact (List.pairwise_cons.mp ho.2.1).1 _ (List.mem_map.mpr ⟨x, h1, rfl⟩)
theorem pick_no {s : α} {N : Nat} (f : Few led m s N) {p : α → Bool} (h : pick p (allB led m s N) = none) (q : List Nat) (hq : ∀ k ∈ q, k < m) : p (q.foldl led s) = false := by
  unfold pick at h
  have h := List.find?_eq_none.mp (Option.map_eq_none_iff.mp h)
  obtain ⟨x, hx, x1, _⟩ := first_all f q hq
  have := h x hx
  rw [← x1]
  cases hp : p x.1
  · rfl
  · exact absurd hp this
/-- the first row, if there is one -/
def IsFirst (m : Nat) (R : List Nat → Prop) : Option (List Nat) → Prop
  | some r => FirstRow m R r
  | none => ∀ q, (∀ k ∈ q, k < m) → ¬ R q
theorem IsFirst.uniq {m : Nat} {R : List Nat → Prop} : ∀ {a b : Option (List Nat)}, IsFirst m R a → IsFirst m R b → a = b
  | none, none, _, _ => rfl
  | some r, some q, h, g => congrArg some (FirstRow.uniq h g)
  | none, some q, h, g => absurd g.does (h q g.lt)
  | some r, none, h, g => absurd h.does (g r h.lt)
theorem IsFirst.congr {m : Nat} {R S : List Nat → Prop} (e : ∀ q, (∀ k ∈ q, k < m) → (R q ↔ S q)) : ∀ {a : Option (List Nat)}, IsFirst m R a → IsFirst m S a
  | none, h => fun q hq hs => h q hq ((e q hq).mpr hs)
  | some r, h => ⟨h.lt, (e r h.lt).mp h.does, fun q hq hs => h.le q hq ((e q hq).mpr hs)⟩
theorem pick_is {s : α} {N : Nat} (f : Few led m s N) (p : α → Bool) : IsFirst m (fun q => p (q.foldl led s) = true) (pick p (allB led m s N)) := by
  cases h : pick p (allB led m s N) with
  | none =>
    intro q hq hp
    have hp : p (q.foldl led s) = true := hp
    rw [pick_no f h q hq] at hp
    cases hp
  | some r => exact pick_first f h
end
end My

/-! dict comprehensions whose keys are tuples -/
namespace My
open PySem PySem.Spec PyProof.Rows L2
section
variable {X : Cx}
/-- an item stored by a comprehension -/
theorem dn_store {pins : List (Addr × Obj)} {σ : L2.St} {H : Hp} {s : Shared} {Er : Value → Shared → Prop} {D : Addr} {kvs : List (NK × V)} {k : NK} {y v : V} {u r : Value} {G : Unit → Shared → Prop} (hu : X.A.units + 64 < cLine) (I : Inv X pins σ H s)
    (d : DN X.prog X.w X.K H D kvs) (hk : KeyAt X.K H y k) (ry : L2.RelV y u) (rv : L2.RelV v r) (small : kvs.length < sizeLine)
    (go : ∀ s' o, Inv X pins σ (upd H D o) s' → DN X.prog X.w X.K (upd H D o) D (putK kvs k v) → G () s') : wpAny (model X.prog X.w) X.A (dictSet D u r) G Er s := by
  obtain ⟨b, rfl⟩ := hk.rf
  cases ry
  obtain ⟨xs, rel, dd, _, nm⟩ := dn_of I d.rd
  obtain ⟨φ, at_⟩ := d.there
  have same := kn_len rel
  refine wpAny_dictSet_heap (hsz := by omega) (room_n0 hu) (key_is I hk) dd fun h2 dd2 but => ?_
  obtain ⟨ob, es, ep, o1, o2, o3, o4, _, o5⟩ := dd2
  have raw : rawN X.prog X.w D (storedH xs k b r) h2 := ⟨ob, es, ep, o1, o2, o3, o4, o5⟩
  refine go _ _ (d_write I (by rw [at_]; exact True.intro) but ⟨ob, o1⟩ (dnO_ok _ _ raw)) ⟨_, upd_same, (rel.put k hk rv).ts d.ts_at, ?_, nm⟩
  have := length_putK kvs k v
  omega
/-- {k: v for target in iter if ..}, keys that are tuples: D the new dict -/
def tDcN (P : Program) (w : World) (K : PySem.W.Frag) (wi : TI) (g : TG) (tt : TT) (tk tv : TE) (vs : List Nat) : TE := fun σ H Q => wi σ H fun J H1 => ∀ D u0, H1 D = none → DN P w K (upd H1 D u0) D [] →
  ∃ W : Nat → Nat → Hp → Prop, (∃ m, W 0 m (upd H1 D u0)) ∧ ∀ i m H, W i m H →
    (J.stop i H ∧ Q (.ref D) H) ∨ (J.go i H ∧ ∃ Nx : Hp → Prop, (∀ H', Nx H' → ∃ m', m' < m ∧ W (i + 1) m' H') ∧ ∀ x H', J.yld i H x H' → g x (wipe σ vs) H' fun σ2 H2 => wipe σ2 vs = wipe σ vs ∧ tt σ2 H2 fun b H3 =>
      if b = true then tk σ2 H3 fun y H4 => tv σ2 H4 fun z H5 => ∃ kvs k, DN P w K H5 D kvs ∧ KeyAt K H5 y k ∧ kvs.length < sizeLine ∧ ∀ u, DN P w K (upd H5 D u) D (putK kvs k z) → Nx (upd H5 D u) else Nx H3)
theorem pe_dcN {P : Program} {w : World} {K : PySem.W.Frag} {kx vx tg iter : Expr} {ifs : List Expr} {scope : Scope} {own : List (Str × Nat)} {pos : Pos} {wi : TI} {g : TG} {tt : TT} {tk tv : TE} (hc : X.calm = true) (hN : X.N.Nodup) (hi : PI X tg iter wi) (ok : BlkOk X.N X.env.scope scope own)
    (hg : ∀ (s : Shared) (H : Hp) (C : Addr) (cl : List (Str × Addr)) (fp : List Addr), PG (X.blk s H scope (compEnvC scope cl C X.env) fp) tg g) (ht : ∀ (s : Shared) (H : Hp) (C : Addr) (cl : List (Str × Addr)) (fp : List Addr), PTs (X.blk s H scope (compEnvC scope cl C X.env) fp) ifs tt)
    (hk : ∀ (s : Shared) (H : Hp) (C : Addr) (cl : List (Str × Addr)) (fp : List Addr), PE (X.blk s H scope (compEnvC scope cl C X.env) fp) kx tk)
    (he : ∀ (s : Shared) (H : Hp) (C : Addr) (cl : List (Str × Addr)) (fp : List Addr), PE (X.blk s H scope (compEnvC scope cl C X.env) fp) vx tv) (hu : X.A.units + 64 < cLine)
    (hP : X.prog = P := by rfl) (hw : X.w = w := by rfl) (hK : X.K = K := by rfl) (hs : ∀ x, foldedSetIterable iter X.env x = pure x := by intro _; rfl) :
    PE X (.DictComp kx vx [⟨tg, iter, ifs, 0⟩] scope pos) (tDcN P w K wi g tt tk tv (own.map (·.2))) := by
  subst hP hw hK
  refine ⟨fun pins s σ H Q I h => ?_⟩
  rw [arm_eval_DictComp]
  -- names that come from around are there
  have cells : ∀ y ∈ scope.names, y.2 = .free → ∃ c, X.env.cells.lookup y.1 = some c := fun y hy fr => by
    rcases ok.free y hy fr with q | q
    · exact I.ok.has _ (.inl q)
    · exact I.ok.has _ (.inr q)
  refine wpAny_comprehension_free (use := none) rfl hs (closure_ok cells) ok.kind (fun y hy fr => by rw [ok.uniq y hy, fr])
    (thn (hi.run pins s σ H _ I h) fun xv s1 hx => thn hx fun itv s2 got => ?_)
  obtain ⟨it, fp, tn, J, H2, ei, I2, T, st2, far, q⟩ := got
  subst ei
  refine wpAny_newObj_type (newEnv_comp ?_)
  obtain ⟨I3, d3⟩ := dn_laid (tk := s2.toks) I2
  have Dn := I2.hok.fresh (Nat.le_refl s2.heap.objs.size)
  obtain ⟨W, ⟨m0, w0⟩, turn⟩ := q s2.heap.objs.size _ Dn d3
  have heap3 : ({ s2 with heap := s2.heap.push { cls := .type "dict", data := .dict #[] } } : Shared).heap = s2.heap.push { cls := .type "dict", data := .dict #[] } := rfl
  generalize hs3 : ({ s2 with heap := s2.heap.push { cls := .type "dict", data := .dict #[] } } : Shared) = s3 at I3 heap3
  generalize hD : s2.heap.objs.size = D at I3 d3 Dn w0 turn
  have low : ∀ b ∈ fp, b < s2.heap.objs.size := fun b hb => by
    obtain ⟨o, there, _⟩ := T.obj _ _ st2 b hb
    exact Heap.lt_size there
  have far3 : ∀ b ∈ fp, FpOk X pins (upd H2 D (dnO X.prog X.w D [])) b ∧ b < s3.heap.objs.size := fun b hb => by
    have lt := low b hb
    refine ⟨⟨?_, (far b hb).2⟩, by rw [heap3, Heap.size_push]; exact Nat.lt_succ_of_lt lt⟩
    rw [upd_ne (by rw [← hD]; exact Nat.ne_of_lt lt)]
    exact (far b hb).1
  have st3 : tn 0 s3.heap := T.keep _ _ _ st2 fun b _ o there => by rw [heap3]; exact Heap.get?_push_of_some _ there
  have I4 := block_start I3 ok hN far3
  have pg := hg s3 (upd H2 D (dnO X.prog X.w D [])) s3.heap.objs.size (cellsFrom (s3.heap.objs.size + 1) scope.names (cloFrom X.env.cells scope.names [])) fp
  have pt := ht s3 (upd H2 D (dnO X.prog X.w D [])) s3.heap.objs.size (cellsFrom (s3.heap.objs.size + 1) scope.names (cloFrom X.env.cells scope.names [])) fp
  have pk := hk s3 (upd H2 D (dnO X.prog X.w D [])) s3.heap.objs.size (cellsFrom (s3.heap.objs.size + 1) scope.names (cloFrom X.env.cells scope.names [])) fp
  have pe := he s3 (upd H2 D (dnO X.prog X.w D [])) s3.heap.objs.size (cellsFrom (s3.heap.objs.size + 1) scope.names (cloFrom X.env.cells scope.names [])) fp
  show codeAny _ _ (.compStart (.DictComp kx vx [⟨tg, iter, ifs, 0⟩] scope pos) 0 (.ref it) (.ref D) (compEnvC scope (cellsFrom (s3.heap.objs.size + 1) scope.names (cloFrom X.env.cells scope.names [])) s3.heap.objs.size X.env)) (compPost (model X.prog X.w) X.A X.xe none (EP X pins σ Q) (.ref D) s3.heap.objs.size) { s3 with heap := pushCells (s3.heap.push { cls := .type "dict", data := .dict #[] }) scope.names }
  have gone : ∀ b ∈ fp, (upd H2 D (dnO X.prog X.w D [])) b = none := fun b hb => (far3 b hb).1.1
  generalize hce : compEnvC scope (cellsFrom (s3.heap.objs.size + 1) scope.names (cloFrom X.env.cells scope.names [])) s3.heap.objs.size X.env = ce at I4 pg pt pk pe ⊢
  have atC : ce.locals = s3.heap.objs.size := by subst hce; rfl
  generalize hB : ({ s3 with heap := pushCells (s3.heap.push { cls := .type "dict", data := .dict #[] }) scope.names } : Shared) = sB at I4 ⊢
  have stB : tn 0 sB.heap := T.keep _ _ _ st3 fun b _ o there => by rw [← hB]; exact pushCells_keeps _ _ _ _ (Heap.get?_push_of_some _ there)
  generalize dnO X.prog X.w D [] = u0 at I3 d3 w0 far3 I4 pg pt pk pe gone
  -- what the walk asks of its own objects, within the block
  have held : ∀ {σ' : L2.St} {H' : Hp} {s' : Shared}, Inv (X.blk s3 (upd H2 D u0) scope ce fp) [] σ' H' s' → (∀ b ∈ fp, H' b = none) → ∀ b ∈ fp, FpOk (X.blk s3 (upd H2 D u0) scope ce fp) [] H' b := fun {σ' H' s'} J' non b hb =>
    ⟨non b hb, (J'.ok.exf b hb).1, J'.ok.exfs b hb, .inl hb, fun x c fr => (J'.ok.exf b hb).2 x c fr, fun p hp => absurd (show p ∈ ([] : List (Addr × Obj)) ++ [] from hp) (by simp)⟩
  have loop : codeAny (model X.prog X.w) X.A (.compLoop (.DictComp kx vx [⟨tg, iter, ifs, 0⟩] scope pos) 0 (.ref it) (.ref D) ce) (compPost (model X.prog X.w) X.A X.xe none (EP X pins σ Q) (.ref D) s3.heap.objs.size) sB := by
    refine compLoop_anyD (fun n s' => ∃ i H', Inv (X.blk s3 (upd H2 D u0) scope ce fp) [] (wipe σ (own.map (·.2))) H' s' ∧ tn i s'.heap ∧ (∀ b ∈ fp, H' b = none) ∧ W i n H') ?_ m0 ⟨0, upd H2 D u0, I4, stB, gone, w0⟩
    rintro n s5 ⟨i, H5, I5, st5, non5, w5⟩
    rcases turn i n H5 w5 with ⟨stop, fin⟩ | ⟨goes, Nx, next, step⟩
    · have over := T.done (X.blk s3 (upd H2 D u0) scope ce fp) rfl rfl rfl hc i [] s5 _ H5 (fun _ _ => False) I5 (held I5 non5) st5 stop
      refine thnF over fun r s6 ⟨er, I6⟩ => ?_
      subst er
      have I7 : Inv X pins σ H5 s6 := I3.call' (ch := fp) I6.os I6.base I6.hok I6.bare fun b hb => ⟨(far3 b hb).1.2.2.2.1, (far3 b hb).1.2.1, (far3 b hb).1.2.2.2.2.1, (far3 b hb).1.2.2.2.2.2⟩
      have free : H5 s3.heap.objs.size = none := by
        have z : H5 ce.locals = none := I6.free
        rw [atC] at z
        exact z
      obtain ⟨m, names, _⟩ := I6.loc
      have names : s6.heap.Ns ce.locals m := names
      rw [atC] at names
      obtain ⟨p0, p1, p2, p3, p4, p5⟩ := I3.fpOk (Nat.le_refl _) free
      exact ⟨m, names, fun h2 sb => ⟨.ref D, H5, I7.turned (t' := s6.toks) (fun b o hb there => (sb.2 b hb).trans there) p0 p1 p3 p4 p5, rfl, fin⟩⟩
    · have itm := T.item (X.blk s3 (upd H2 D u0) scope ce fp) rfl rfl rfl hc i [] s5 _ H5 (fun _ _ => False) I5 (held I5 non5) st5 goes
      refine thnF itm fun r s6 ⟨u, er, h6⟩ => ?_
      subst er
      refine thnF h6 fun _ s7 ⟨x, H7, I7, r7, y7, st7, non7⟩ => ?_
      have I8 := I7.pinned (held I7 non7) (T.obj _ _ st7)
      refine thnF (pg.run _ s7 _ H7 x u _ I8 r7 (step x H7 y7)) fun _ s8 ⟨σ8, H8, I9, back8, q8⟩ => ?_
      refine thnF (pt.run _ s8 σ8 H8 _ I9 q8) fun b s9 ⟨H9, I10, q9⟩ => ?_
      have close : ∀ {s' : Shared} {H' : Hp}, Inv (X.blk s3 (upd H2 D u0) scope ce fp) ([] ++ pinsAt fp s7.heap) σ8 H' s' → Nx H' → ∃ m, m < n ∧ ∃ i H', Inv (X.blk s3 (upd H2 D u0) scope ce fp) [] (wipe σ (own.map (·.2))) H' s' ∧ tn i s'.heap ∧ (∀ b ∈ fp, H' b = none) ∧ W i m H' := fun {s' H'} J' nx => by
        obtain ⟨m', less, w'⟩ := next H' nx
        have pinned : ∀ b ∈ fp, ∀ o, s7.heap.get? b = some o → s'.heap.get? b = some o ∧ H' b = none := fun b hb o there =>
          let z := J'.pin (b, o) (List.mem_append_right _ (List.mem_append_right _ (mem_pinsAt hb there)))
          ⟨z.1, z.2.1⟩
        have long : (wipe σ (own.map (·.2))).length = σ8.length := by rw [← back8, wipe_length]
        refine ⟨m', less, i + 1, H', (J'.unpinned (pins := [])).weak long (fun j v e => ?_), T.keep _ _ _ st7 fun b hb o there => (pinned b hb o there).1, fun b hb => ?_, w'⟩
        · rw [← back8] at e
          exact (wipe_some e).1
        · obtain ⟨o, there, _⟩ := T.obj _ _ st7 b hb
          exact (pinned b hb o there).2
      cases b with
      | false =>
        simp only [Bool.false_eq_true, if_false] at q9 ⊢
        exact close I10 q9
      | true =>
        simp only [if_true] at q9 ⊢
        refine thnF (pk.run _ s9 σ8 H9 _ I10 q9) fun z s10 ⟨yk, H10, I11, r10, q10⟩ => ?_
        refine thnF (pe.run _ s10 σ8 H10 _ I11 q10) fun z2 s11 ⟨yv, H11, I12, r11, kvs, k, d11, hk11, small, nx⟩ => ?_
        exact dn_store (X := X.blk s3 (upd H2 D u0) scope ce fp) hu I12 d11 hk11 r10 r11 small fun s12 o I13 d12 => close I13 (nx o d12)
  exact codeAny_compStart_dict loop (T.self X.A 0 _ _ _ stB loop)
end
section
variable {K : PySem.W.Frag} {P : Program} {w : World}
/-- a comprehension over a walk: Pv by the turn and the heap -/
theorem dcN_it {J : It} {n : Nat} {G : Hp → Prop} {Y : Nat → Hp → V → Hp → Prop} (wk : Walk J n G Y) {g : TG} {tt : TT} {tk tv : TE} {vs : List Nat} {σ : L2.St} {H1 : Hp} {D : Addr} {u0 : HO} {Qd : Hp → Prop} (Pv : Nat → Hp → Prop) (h0 : Pv 0 (upd H1 D u0)) (hG : ∀ i H, i ≤ n → Pv i H → G H)
    (hs : ∀ i x H H', i < n → Pv i H → Y i H x H' → g x (wipe σ vs) H' fun σ2 H2 => wipe σ2 vs = wipe σ vs ∧ tt σ2 H2 fun b H3 =>
      if b = true then tk σ2 H3 fun y H4 => tv σ2 H4 fun z H5 => ∃ kvs k, DN P w K H5 D kvs ∧ KeyAt K H5 y k ∧ kvs.length < sizeLine ∧ ∀ u, DN P w K (upd H5 D u) D (putK kvs k z) → Pv (i + 1) (upd H5 D u) else Pv (i + 1) H3) (hd : ∀ H, Pv n H → Qd H) :
    ∃ W : Nat → Nat → Hp → Prop, (∃ m, W 0 m (upd H1 D u0)) ∧ ∀ i m H, W i m H →
      (J.stop i H ∧ Qd H) ∨ (J.go i H ∧ ∃ Nx : Hp → Prop, (∀ H', Nx H' → ∃ m', m' < m ∧ W (i + 1) m' H') ∧ ∀ x H', J.yld i H x H' → g x (wipe σ vs) H' fun σ2 H2 => wipe σ2 vs = wipe σ vs ∧ tt σ2 H2 fun b H3 =>
        if b = true then tk σ2 H3 fun y H4 => tv σ2 H4 fun z H5 => ∃ kvs k, DN P w K H5 D kvs ∧ KeyAt K H5 y k ∧ kvs.length < sizeLine ∧ ∀ u, DN P w K (upd H5 D u) D (putK kvs k z) → Nx (upd H5 D u) else Nx H3) := by
  refine ⟨fun i m H => m = n - i ∧ i ≤ n ∧ Pv i H, ⟨n, by simp, Nat.zero_le _, h0⟩, fun i m H ⟨em, hi, p⟩ => ?_⟩
  have q := hG i H hi p
  by_cases hlt : i < n
  · exact .inr ⟨wk.goes i H hlt q, Pv (i + 1), fun H' p' => ⟨n - (i + 1), by omega, rfl, hlt, p'⟩, fun x H' y => hs i x H H' hlt p (wk.yields i H x H' hlt q y)⟩
  · obtain rfl : i = n := by omega
    exact .inl ⟨wk.stops H q, hd H p⟩
theorem op_eqDK2 {X : Cx} (hu : X.A.units + 64 < cLine) (hK : X.K = K := by rfl) : OpR X (compareOp .Eq) (rEqD K) := by
  subst hK
  exact op_eqD hu
theorem op_neDK2 {X : Cx} (hu : X.A.units + 64 < cLine) (hK : X.K = K := by rfl) : OpR X (compareOp .NotEq) (rNeD K) := by
  subst hK
  exact op_neD hu
theorem op_inDK {X : Cx} (hu : X.A.units + 65 < cLine) (hK : X.K = K := by rfl) : OpR X (compareOp .In) (rInD K) := by
  subst hK
  exact op_inD hu
/-- len(d) -/
def rLenN (P : Program) (w : World) (K : PySem.W.Frag) : List V → Hp → VK → Prop := fun xs H Q => ∃ (a : Addr) (kvs : List (NK × V)), xs = [.ref a] ∧ DNr P w K H a kvs ∧ Q (.int ((kvs.length : Nat) : Int)) H
theorem call_lenN {X : Cx} (hP : X.prog = P := by rfl) (hw : X.w = w := by rfl) (hK : X.K = K := by rfl) : CallR X (.builtin "len") (rLenN P w K) := by
  subst hP hw hK
  rintro pins s σ H xs us Q I r ⟨a, kvs, rfl, d, q⟩
  rw [Vals.ref1 r]
  obtain ⟨ys, rel, dd, hz, ns⟩ := dn_of I d
  have hl := kn_len rel
  rw [sizeLine_eq] at hz
  refine call_len_dictH ns dd (by omega) ?_
  rw [← hl]
  exact ⟨.int ((kvs.length : Nat) : Int), H, I.tok _, ⟨_, rfl⟩, q⟩
/-- truth of a dict -/
theorem tru_dn {X : Cx} (hP : X.prog = P := by rfl) (hw : X.w = w := by rfl) (hK : X.K = K := by rfl) : TruR X (fun x H Q => ∃ a kvs, x = .ref a ∧ DNr P w K H a kvs ∧ Q (!kvs.isEmpty) H) := by
  subst hP hw hK
  rintro pins s σ H x v Q I rx ⟨a, kvs, rfl, d, q⟩
  cases rx
  obtain ⟨xs, rel, dd, hz, ns⟩ := dn_of I d
  have hl := kn_len rel
  rw [sizeLine_eq] at hz
  have ne : ((xs.length : Int) != 0) = !kvs.isEmpty := by cases rel <;> simp <;> omega
  have key : wpAny (model X.prog X.w) X.A (runValue (.builtin "len" ⟨[.ref a], []⟩)) (fun r s' => r = .int xs.length (s.toks + 1) ∧ ∃ H', Inv X pins σ H' s' ∧ Q (!kvs.isEmpty) H') X.xe s := by
    refine wpAny_runValue (codeAny_builtin entry_len ?_)
    rw [Around.under_plainId plain_len _]
    exact wpAny_mono (wpAny_len_body_dictH (Q := fun r s' => r = .int xs.length (s.toks + 1) ∧ ∃ H', Inv X pins σ H' s' ∧ Q (!kvs.isEmpty) H') ns dd (by omega) ⟨rfl, H, I.tok _, q⟩) (fun fin s' h' => by obtain ⟨r, rfl, hq⟩ := h'; exact hq) fun _ _ e => e
  unfold truthy
  first
    | refine wpAny_bind (wpAny_callSpecial?_none (name := Str.ofString "__bool__") dd.typeIs noBool_dict ?_)
    | refine wpAny_bind (wpAny_pure (wpAny_bind (wpAny_callSpecial?_none (name := Str.ofString "__bool__") dd.typeIs noBool_dict ?_)))
  refine wpAny_bind (wpAny_specialOf (name := Str.ofString "__len__") dd.typeIs F.slot_dict_len.lookup ?_)
  exact wpAny_bind (wpAny_mono key (fun r s' h' => by
    obtain ⟨rfl, H', I', hq⟩ := h'
    exact wpAny_pure (ne ▸ ⟨H', I', hq⟩)) fun _ _ e => e)
end
end My

set_option maxHeartbeats 2000000
/-! sorted(d.items()), keys that are tuples, values that are whole numbers -/
namespace My
open PySem PySem.Spec PyProof.Rows L2
def putTs : Hp → List Addr → List (List V) → Hp
  | H, a :: as, p :: vss => putTs (upd H a (.tup p)) as vss
  | H, _, _ => H
theorem putTs_off {b : Addr} : ∀ (as : List Addr) (vss : List (List V)) (H : Hp), b ∉ as → putTs H as vss b = H b
  | [], _, _, _ => rfl
  | _ :: _, [], _, _ => rfl
  | a :: as, p :: vss, H, h => by
    show putTs (upd H a (.tup p)) as vss b = H b
    rw [putTs_off as vss _ (fun z => h (List.mem_cons_of_mem _ z)), upd_ne (fun z => h (by rw [z]; exact List.mem_cons_self))]
theorem putTs_at : ∀ (as : List Addr) (vss : List (List V)) (H : Hp), as.length = vss.length → as.Nodup → Paired (fun (t : Addr) (p : List V) => putTs H as vss t = some (.tup p)) as vss
  | [], [], _, _, _ => .nil
  | [], _ :: _, _, h, _ => by cases h
  | _ :: _, [], _, h, _ => by cases h
  | a :: as, p :: vss, H, h, hn => by
    have hn' := List.nodup_cons.mp hn
    have ih := putTs_at as vss (upd H a (.tup p)) (Nat.succ.inj h) hn'.2
    refine .cons ?_ ih
    show putTs (upd H a (.tup p)) as vss a = some (.tup p)
    rw [putTs_off as vss _ hn'.1, upd_same]
theorem paired_ixL {α β : Type} {F : α → β → Prop} : ∀ {xs : List α} {ys : List β}, Paired F xs ys → ∀ {x : α}, x ∈ xs → ∃ (j : Nat) (y : β), xs[j]? = some x ∧ ys[j]? = some y ∧ F x y
  | _, _, .cons h t, x, hx => by
    rcases List.mem_cons.mp hx with e | hx
    · rw [e]
      exact ⟨0, _, rfl, rfl, h⟩
    · obtain ⟨j, y, e1, e2, e3⟩ := paired_ixL t hx
      exact ⟨j + 1, y, e1, e2, e3⟩
section
variable {X : Cx} {pins : List (Addr × Obj)} {σ : L2.St} {H : Hp} {s : Shared}
theorem tups_laid {h' : Heap} {tk : Nat} {as : List Addr} {vss : List (List V)} (I : Inv X pins σ H s) (hk : ∀ b o, s.heap.get? b = some o → h'.get? b = some o) (rise : as.Pairwise (· < ·)) (above : ∀ a ∈ as, s.heap.objs.size < a) (hl : as.length = vss.length)
    (hp : ∀ (j : Nat) (a : Addr) (vs : List V), as[j]? = some a → vss[j]? = some vs → vs.length ≤ sizeLine ∧ ∃ us, Vals vs us ∧ h'.get? a = some { cls := .type "tuple", data := .seq us.toArray }) :
    ∃ H' : Hp, (∀ b o, H b = some o → H' b = some o) ∧ (∀ t ∈ as, H t = none) ∧ Paired (fun (t : Addr) (p : List V) => H' t = some (.tup p)) as vss ∧ Inv X pins σ H' { s with heap := h', toks := tk } := by
  have nd : as.Nodup := List.Pairwise.imp (fun {a b} (h : a < b) => Nat.ne_of_lt h) rise
  have new : ∀ t ∈ as, H t = none := fun t ht => I.hok.fresh (Nat.le_of_lt (above t ht))
  have atP := putTs_at as vss H hl nd
  have off : ∀ b, b ∉ as → putTs H as vss b = H b := fun b h1 => putTs_off as vss _ h1
  have low : ∀ b o, s.heap.get? b = some o → b ∉ as := fun b o e z => absurd (Heap.lt_size e) (Nat.not_lt.mpr (Nat.le_of_lt (above b z)))
  have kp : ∀ b u, H b = some u → (putTs H as vss) b = some u := fun b u e => by
    rw [off b (fun z => by rw [new b z] at e; cases e)]
    exact e
  refine ⟨putTs H as vss, kp, new, atP, ?_⟩
  refine I.call' (ch := []) rfl ⟨fun b o q _ _ _ => hk b o q, fun b o q _ _ _ => ⟨o.slots, hk b o q⟩, fun b o q n _ => ?_, fun b o q _ => ⟨o, hk b o q⟩, fun b xs q => kp b _ q, fun b o u q => kp b _ q, fun b ps q => ⟨#[], by rw [kp b _ q]; simp⟩⟩ (fun b u q => ?_) I.bare fun b z => by simp at z
  · rw [off b (low b o q)]
    exact n
  · by_cases hb : b ∈ as
    · obtain ⟨j, pk, e1, e2, e3⟩ := paired_ixL atP hb
      rw [e3] at q
      cases q
      obtain ⟨z1, us, z2, z3⟩ := hp j b pk e1 e2
      exact ⟨z1, us, z2, ⟨_, z3, rfl, _, rfl⟩⟩
    · rw [off b hb] at q
      exact (I.hok b u q).stay (fun d v _ y => hk d v y) (fun d y => kp d _ y) fun d xs y => kp d _ y
end
mutual
theorem dp_sameG {K : PySem.W.Frag} {H H' : Hp} (s : Same H H') : ∀ (d : PyData) (v : V), Dp K H v d → Dp K H' v d
  | .none, _, h => by cases h; exact .non
  | .bool _, _, h => by cases h; exact .bl _
  | .int _, _, h => by cases h; exact .int _
  | .str _, _, h => by cases h; exact .str _
  | .list ds, _, h => by
    cases h with
    | lst a b => exact .lst (s.seq a) (dpAll_sameG s ds _ b)
  | .tuple ds, _, h => by
    cases h with
    | tup a b => exact .tup (same_tup s a) (dpAll_sameG s ds _ b)
  | .dict _, _, h => by cases h
theorem dpAll_sameG {K : PySem.W.Frag} {H H' : Hp} (s : Same H H') : ∀ (ds : List PyData) (vs : List V), DpAll K H vs ds → DpAll K H' vs ds
  | [], _, h => by cases h; exact .nil
  | d :: ds, _, h => by
    cases h with
    | cons a b => exact .cons (dp_sameG s d _ a) (dpAll_sameG s ds _ b)
end
def itemD (p : NK × V) (n : Int) : PyData := .tuple [p.1.data, .int n]
def itemsD : List (NK × V) → List Int → List PyData
  | p :: kvs, n :: ns => itemD p n :: itemsD kvs ns
  | _, _ => []
theorem itemsD_len : ∀ {kvs : List (NK × V)} {ns : List Int}, kvs.map (·.2) = ns.map V.int → (itemsD kvs ns).length = kvs.length
  | [], [], _ => rfl
  | [], _ :: _, h => by cases h
  | _ :: _, [], h => by cases h
  | p :: kvs, n :: ns, h => congrArg (· + 1) (itemsD_len (by injection h))
theorem itemsD_at : ∀ {kvs : List (NK × V)} {ns : List Int}, kvs.map (·.2) = ns.map V.int → ∀ {j : Nat} {p : NK × V}, kvs[j]? = some p → ∃ n, p.2 = .int n ∧ (itemsD kvs ns)[j]? = some (itemD p n)
  | [], _, _, j, p, e => by cases e
  | _ :: _, [], h, _, _, _ => by cases h
  | q :: kvs, n :: ns, h, 0, p, e => by
    cases e
    injection h with h1 h2
    exact ⟨n, h1, rfl⟩
  | q :: kvs, n :: ns, h, j + 1, p, e => by
    injection h with h1 h2
    obtain ⟨m, e1, e2⟩ := itemsD_at h2 (j := j) (p := p) e
    exact ⟨m, e1, e2⟩
def tSortItemsN (P : Program) (w : World) (K : PySem.W.Frag) (td : TE) : TE := fun σ H Q => td σ H fun x H1 => ∃ (a : Addr) (kvs : List (NK × V)) (ns : List Int), x = .ref a ∧ DNr P w K H1 a kvs ∧ kvs.map (·.2) = ns.map V.int ∧ SortOk (itemsD kvs ns) ∧
  ∀ H' p xs, Same H1 H' → H1 p = none → H' p = some (.lst xs) → DpAll K H' xs ((itemsD kvs ns).mergeSort (PySem.W.dataLe false id)) → Q (.ref p) H'
theorem dpAll_of {K : PySem.W.Frag} {H : Hp} : ∀ {bs : List (V × PyData)}, (∀ b ∈ bs, Dp K H b.1 b.2) → DpAll K H (bs.map (·.1)) (bs.map (·.2))
  | [], _ => .nil
  | b :: bs, h => .cons (h b (.head _)) (dpAll_of fun x hx => h x (.tail _ hx))
theorem pe_sortItemsN {X : Cx} {P : Program} {w : World} {K : PySem.W.Frag} {e : Expr} {td : TE} {p apos cpos pos : Pos} (hc : X.calm = true) (hu : X.A.units + 64 < cLine) (he : PE X e td) (hg : Gl X "sorted") (hm : X.mg "sorted" = none)
    (hP : X.prog = P := by rfl) (hw : X.w = w := by rfl) (hK : X.K = K := by rfl) (hbase : attributeBase e "items" X.env (eval e X.env) = eval e X.env := by rfl) (hline : (apos.endLine == cpos.line) = true := by rfl)
    (hs : starEach [.Call (.Attribute e "items" apos) [] [] cpos] X.env = (false, eval (.Call (.Attribute e "items" apos) [] [] cpos) X.env) :: starEach [] X.env := by rfl) :
    PE X (.Call (.Name "sorted" p) [.Call (.Attribute e "items" apos) [] [] cpos] [] pos) (tSortItemsN P w K td) := by
  subst hP hw hK
  refine ⟨fun pins s σ H Q I hq => ?_⟩
  refine wpAny_Call_Name_kw (ld_blt I hg hm boot_sorted ?_)
  refine PyProof.Rows.callWith_builtin1 ?_ hs rfl
  rw [hs]
  show wpAny _ _ (spliced ((false, eval (.Call (.Attribute e "items" apos) [] [] cpos) X.env) :: backTo pos (starEach [] X.env))) _ _ s
  refine Calls.spliced_cons ?_
  refine wpAny_Call_method (T := "dict") (id := "dict.items") hbase rfl hline F.plainAttrs_dict F.slot_dict_items F.type_dict_items (thn (he.run pins s σ H _ I hq) fun u s1 ⟨x, H1, I1, rx, a, kvs, ns, ex, d, hns, ok, q⟩ => ?_)
  subst ex
  obtain rfl : u = Value.ref a := rx
  obtain ⟨xs, rel, ⟨o, es, ep, h1, h2, h3, h4, h5, h6⟩, hz, hd⟩ := dn_of I1 d
  have hsz : es.size = xs.length := by rw [← Array.length_toList, h4, List.length_map]
  have hl2 : kvs.length = xs.length := kn_len rel
  have hraw : s1.heap.DictRaw a es ep := ⟨o, h1, h2, h3⟩
  have I2 : Inv X pins σ H1 { s1 with heap := s1.heap.push { cls := .type "dict_items", data := .fields #[.ref a] } } := I1.kept (t' := s1.toks) fun b ob q => Heap.get?_push_of_some _ q
  refine ⟨hraw.typeIs, fun a' e => by cases e; exact ⟨o, h1, h2.2.1⟩, ?_⟩
  show wpAny _ _ (callWith cpos (.builtin "dict.items") [.ref a] [] []) _ X.xe s1
  refine method_meetsIn F.slot_dict_items F.entry_dict_items rfl (PySem.evalArgs_none ⟨rfl, hraw.typeIs, F.args_dict_items_1 _, _, PySem.meets_dict_items_raw a hd, ⟨es, ep, hraw⟩, ?_⟩)
  refine Calls.spliced_nil ?_
  generalize hs2 : ({ s1 with heap := s1.heap.push { cls := .type "dict_items", data := .fields #[.ref a] } } : Shared) = s2 at I2
  have hp2 : s2.heap = s1.heap.push { cls := .type "dict_items", data := .fields #[.ref a] } := by rw [← hs2]
  have hraw2 : s2.heap.DictRaw a es ep := by rw [hp2]; exact hraw.push _
  refine Calls.call_function_entry kind_sorted plain_sorted entry_sorted (args_sorted1 _) ?_
  unfold Builtin.«sorted»
  refine wpAny_bind (m := checkCount "sorted" 1 1 _) (wpAny_pure ?_)
  refine wpAny_bind (PySem.W.dil_collect (A := X.A.in1) (I1.ok.hd hc) (by rw [hp2]; exact ⟨_, Heap.get?_push_size _ rfl, rfl, rfl⟩) hraw2 (by omega) fun h' tk as hk hlA hG => ?_)
  -- the tuples
  have hAl : as.length = (List.zipWith (fun (x : NK × Addr × Value) (p : NK × V) => [V.ref x.2.1, p.2]) xs kvs).length := by rw [List.length_zipWith]; omega
  have ent : ∀ (j : Nat) (t : Addr) (vs : List V), as[j]? = some t → (List.zipWith (fun (x : NK × Addr × Value) (p : NK × V) => [V.ref x.2.1, p.2]) xs kvs)[j]? = some vs → vs.length ≤ sizeLine ∧ ∃ us, Vals vs us ∧ h'.get? t = some { cls := .type "tuple", data := .seq us.toArray } := by
    intro j t vs e1 e2
    obtain ⟨hj, eg⟩ := hG.pairs j t e1
    rw [List.getElem?_zipWith] at e2
    have hx : j < xs.length := by omega
    have hv : j < kvs.length := by omega
    rw [List.getElem?_eq_getElem hx, List.getElem?_eq_getElem hv] at e2
    cases e2
    have e3 : es[j]? = some (entryOfKey (nestedKind X.prog X.w) xs[j]) := by rw [← Array.getElem?_toList, h4, List.getElem?_map, List.getElem?_eq_getElem hx]; rfl
    rw [Array.getElem?_eq_getElem hj] at e3
    have e4 := Option.some.inj e3
    rw [e4] at eg
    obtain ⟨y, ey, _, _, er⟩ := paired_get rel (List.getElem?_eq_getElem hv)
    rw [List.getElem?_eq_getElem hx] at ey
    cases ey
    exact ⟨by show 2 ≤ sizeLine; decide, [.ref xs[j].2.1, xs[j].2.2], .cons rfl (.cons er .nil), eg⟩
  obtain ⟨H', kp, newT, atP, I3⟩ := tups_laid (tk := tk) I2 hk hG.rise hG.above hAl ent
  have hIl := itemsD_len hns
  have sk : Same H1 H' := fun b u e => kp b u e
  have hbs1 : ((as.map V.ref).zip (itemsD kvs ns)).map (·.1) = as.map V.ref := List.map_fst_zip (by rw [List.length_map]; omega)
  have hbs2 : ((as.map V.ref).zip (itemsD kvs ns)).map (·.2) = itemsD kvs ns := List.map_snd_zip (by rw [List.length_map]; omega)
  have hbd : ∀ b ∈ (as.map V.ref).zip (itemsD kvs ns), Dp X.K H' b.1 b.2 := fun b hb => by
    obtain ⟨j, hj, ej⟩ := List.mem_iff_getElem.mp hb
    have ej' : ((as.map V.ref).zip (itemsD kvs ns))[j]? = some b := by rw [List.getElem?_eq_getElem hj, ej]
    rw [List.length_zip, List.length_map] at hj
    have ha : j < as.length := by omega
    have hv : j < kvs.length := by omega
    have hx : j < xs.length := by omega
    obtain ⟨n, en, ei⟩ := itemsD_at hns (List.getElem?_eq_getElem hv)
    have e1 : b = (V.ref as[j], itemD kvs[j] n) := by
      rw [List.getElem?_zip_eq_some] at ej'
      obtain ⟨z1, z2⟩ := ej'
      rw [List.getElem?_map, List.getElem?_eq_getElem ha] at z1
      rw [ei] at z2
      exact Prod.ext (Option.some.inj z1).symm (Option.some.inj z2).symm
    rw [e1]
    obtain ⟨vs, ev, hT⟩ := paired_get atP (List.getElem?_eq_getElem ha)
    rw [List.getElem?_zipWith, List.getElem?_eq_getElem hx, List.getElem?_eq_getElem hv] at ev
    cases ev
    obtain ⟨y, ey, e5, e6, _⟩ := paired_get rel (List.getElem?_eq_getElem hv)
    rw [List.getElem?_eq_getElem hx] at ey
    cases ey
    refine .tup (.inl (.inl hT)) (.cons (dp_sameG sk _ _ e6.dp) (.cons ?_ .nil))
    rw [en]
    exact .int n
  generalize hbs : (as.map V.ref).zip (itemsD kvs ns) = bs at hbs1 hbs2 hbd
  have hbl : bs.length = kvs.length := by rw [← hIl, ← hbs2, List.length_map]
  refine wpAny_bind (wpAny_newList ?_ (by rw [List.length_map]; omega))
  have evl : PySem.W.EachIs (fun u (b : V × PyData) => L2.RelV b.1 u) (as.map Value.ref) bs := by
    have : ∀ (as : List Addr) (bs : List (V × PyData)), bs.map (·.1) = as.map V.ref → PySem.W.EachIs (fun u (b : V × PyData) => L2.RelV b.1 u) (as.map Value.ref) bs := by
      intro as
      induction as with
      | nil => intro bs h; rw [List.map_eq_nil_iff.mp h]; exact .nil
      | cons a as ih =>
        intro bs h
        cases bs with
        | nil => cases h
        | cons b bs =>
          injection h with h1 h2
          exact .cons (by have h1 : b.1 = V.ref a := h1; show L2.RelV b.1 (.ref a); rw [h1]; rfl) (ih bs h2)
    exact this as bs hbs1
  have erd : PySem.W.EachIs (fun u (b : V × PyData) => ∃ as', Reads (h'.push { cls := .type "list", data := .seq (as.map Value.ref).toArray }) u b.2 as' ∧ h'.objs.size ∉ as') (as.map Value.ref) bs := by
    refine each_and evl fun u b hb ru => ?_
    obtain ⟨as', r1⟩ := Dp.reads I3 b.2 b.1 u (hbd b hb) ru
    refine ⟨as', PyProof.Rows.Reads.keeps (fun c ob e => Heap.get?_push_of_some _ e) r1, fun hm => ?_⟩
    obtain ⟨ob, e⟩ := PyProof.On.reads_mem_get r1 _ hm
    exact absurd (Heap.lt_size e) (Nat.lt_irrefl _)
  refine wpAny_bind (wpAny_holding (wpAny_mono (PySem.W.list_sort_data (A := X.A.in1) (s := { s2 with heap := h'.push { cls := .type "list", data := .seq (as.map Value.ref).toArray }, toks := tk }) (enc := fun b : V × PyData => b.2) (n := 0) (Q := fun _ s' => EP X pins σ Q (.ref h'.objs.size) s') (E := fun e s' => X.xe e s') ?_ evl erd ?_ ?_ ?_ ?_ ?_) (fun _ s' x => ?_) fun _ _ e => e))
  · exact Heap.get?_push_size _ rfl
  · rw [hbs2]
    exact ok.al
  · rw [hbs2]
    exact ok.so
  · omega
  · intro b hb
    have hm : b.2 ∈ itemsD kvs ns := by rw [← hbs2]; exact List.mem_map.mpr ⟨b, hb, rfl⟩
    have := ok.dep b.2 hm
    rw [Around.in1_units]
    omega
  · intro out hlen ho
    have hob : (h'.push { cls := .type "list", data := .seq (as.map Value.ref).toArray }).get? h'.objs.size = some (PyProof.Rows.seqObj "list" (as.map Value.ref).toArray 0) := Heap.get?_push_size _ rfl
    obtain ⟨ep', he'⟩ := PyProof.Rows.sortedHeap_at (vs := as.map Value.ref) (out := out.toArray) hob
    have hv : Vals ((bs.mergeSort (PySem.W.dataLe false fun b => b.2)).map (·.1)) out := each_vals ho
    have hlen' : ((bs.mergeSort (PySem.W.dataLe false fun b : V × PyData => b.2)).map (·.1)).length ≤ sizeLine := by rw [List.length_map, List.length_mergeSort]; omega
    have hfr : H' h'.objs.size = none := I3.hok.fresh (Nat.le_refl _)
    refine ⟨.ref _, upd H' h'.objs.size (.lst ((bs.mergeSort (PySem.W.dataLe false fun b => b.2)).map (·.1))), I3.laid (t' := tk) (fun b u e => ?_) (Nat.le_refl _) ⟨hlen', out, ep', hv, he'⟩, rfl, q _ _ _ (sk.trans (same_new hfr)) ?_ upd_same ?_⟩
    · have e2 := Heap.get?_push_of_some ({ cls := .type "list", data := .seq (as.map Value.ref).toArray } : Obj) e
      have e3 : b < h'.objs.size := Heap.lt_size e
      rw [PyProof.Rows.sortedHeap_old (Nat.ne_of_lt e3) (Heap.lt_size e2)]
      exact e2
    · cases e : H1 h'.objs.size with
      | none => rfl
      | some o => rw [sk _ _ e] at hfr; cases hfr
    · have e1 : (bs.mergeSort (PySem.W.dataLe false fun b => b.2)).map (·.2) = (bs.map (·.2)).mergeSort (PySem.W.dataLe false id) := PySem.W.sort_maps (fun b : V × PyData => b.2) fun a _ b _ => rfl
      rw [hbs2] at e1
      rw [← e1]
      exact dpAll_sameG (same_new hfr) _ _ (dpAll_of fun b hb => hbd b (List.mem_mergeSort.mp hb))
  · exact wpAny_pure ⟨_, rfl, x⟩
end My

/-! `x in t`, `x not in t` over a tuple of data -/
namespace My
open PySem PySem.Spec PyProof.Rows L2
def rInT (K : PySem.W.Frag) : R2 := fun x y H Q => ∃ d ds, Dp K H x d ∧ Dp K H y (.tuple ds) ∧ SeqAt.shaped d = true ∧ SeqAt.shaped (.tuple ds) = true ∧ Q (.bl (ds.any fun z => PyData.eqv z d)) H
def rNotInT (K : PySem.W.Frag) : R2 := fun x y H Q => ∃ d ds, Dp K H x d ∧ Dp K H y (.tuple ds) ∧ SeqAt.shaped d = true ∧ SeqAt.shaped (.tuple ds) = true ∧ Q (.bl (!ds.any fun z => PyData.eqv z d)) H
theorem op_inT {X : Cx} {K : PySem.W.Frag} (hu : X.A.units + 65 < cLine) (hK : X.K = K := by rfl) : OpR X (compareOp .In) (rInT K) := by
  subst hK
  intro pins s σ H x y v u Q I rx ry h
  obtain ⟨d, ds, hd, he, sd, se, q⟩ := h
  obtain ⟨as, r1⟩ := Dp.reads I d x v hd rx
  obtain ⟨bs, r2⟩ := Dp.reads I (.tuple ds) y u he ry
  exact SeqAt.in_tuple_reads r2 r1 (SeqAt.canLay_of_shaped se) (SeqAt.canLay_of_shaped sd) (room_in_shaped sd hu) ⟨.bl _, H, I, rfl, q⟩
theorem op_notInT {X : Cx} {K : PySem.W.Frag} (hu : X.A.units + 65 < cLine) (hK : X.K = K := by rfl) : OpR X (compareOp .NotIn) (rNotInT K) := by
  subst hK
  intro pins s σ H x y v u Q I rx ry h
  obtain ⟨d, ds, hd, he, sd, se, q⟩ := h
  obtain ⟨as, r1⟩ := Dp.reads I d x v hd rx
  obtain ⟨bs, r2⟩ := Dp.reads I (.tuple ds) y u he ry
  exact SeqAt.notIn_tuple_reads r2 r1 (SeqAt.canLay_of_shaped se) (SeqAt.canLay_of_shaped sd) (room_in_shaped sd hu) ⟨.bl _, H, I, rfl, q⟩
end My

/-! (v,) * k for great k -/
namespace My
open PySem PySem.Spec PyProof.Rows L2
theorem rep_flat1 {α : Type} (v : α) : ∀ n : Nat, (List.replicate n [v]).flatten = List.replicate n v
  | 0 => rfl
  | n + 1 => by rw [List.replicate_succ, List.flatten_cons, rep_flat1 v n, List.replicate_succ]; rfl
def rRepW (K : PySem.W.Frag) : R2 := fun x y H Q => ∃ (a : Addr) (n : Nat) (z : V), x = .ref a ∧ y = .int (n : Int) ∧ SqT K H a [z] ∧ 2 ≤ n ∧ n ≤ 9000 ∧
  ∀ b, H b = none → Q (.ref b) (upd H b (.tup (List.replicate n z)))
set_option maxHeartbeats 4000000 in
theorem op_repW {X : Cx} : OpR X (binaryOp .Mult) (rRepW X.K) := by
  intro pins st σ H x y v u Q I rx ry want
  obtain ⟨a, n, z, rfl, rfl, seq, low, most, q⟩ := want
  cases rx
  obtain ⟨tk, rfl⟩ := ry
  obtain ⟨vals, rel, ⟨⟨cl, dict, data, slots⟩, found, isT, m, isS⟩, small⟩ := I.tuple seq
  simp only at isT isS
  subst isT isS
  obtain ⟨it, rfl⟩ : ∃ it, vals = [it] := by
    have := rel.length
    match vals, this with
    | [it], _ => exact ⟨it, rfl⟩
  have line := sizeLine_eq
  have one : ([it].toArray.size : Nat) = 1 := rfl
  have flatLen : (List.replicate n [it]).flatten.length = n := by rw [rep_flat1, List.length_replicate]
  have flatNat : (n : Int).toNat = n := by omega
  have many : (List.foldl (fun x1 x2 => x1 ++ x2) #[] (List.replicate (n : Int).toNat [it].toArray)).size ≤ sizeLine := by
    rw [size_rep, List.size_toArray, flatNat, flatLen, line]
    omega
  have bound0 : (decide ((n : Int) < -(2 ^ 63)) || decide ((n : Int) ≥ 2 ^ 63)) = false := by
    rw [decide_eq_false (by omega), decide_eq_false (by omega)]
    rfl
  have bound1 : ([it].toArray.isEmpty || (n : Int) == 1) = false := by
    rw [show [it].toArray.isEmpty = false from rfl, Bool.false_or, beq_eq_false_iff_ne]
    omega
  have bound2 : (decide ((n : Int) ≤ 0) || [it].toArray.isEmpty) = false := by
    rw [show [it].toArray.isEmpty = false from rfl, decide_eq_false (by omega)]
    rfl
  have bound3 : ¬ (([it].toArray.size : Nat) : Int) * (n : Int) > (2 ^ 63 - 1) / 8 := by
    rw [one]
    omega
  have bound4 : Builtin.Tuple.tupleTooMany ((([it].toArray.size : Nat) : Int) * (n : Int)) = false := by
    unfold Builtin.Tuple.tupleTooMany
    rw [line, one, decide_eq_false (by omega)]
  have mulled := tuple_mulW a [it].toArray m dict slots (n : Int) tk bound0 bound1 bound2 bound3 bound4 many
  refine wpAny_binaryOp_repeat_ref (T := "tuple") (U := "int") (by decide) ⟨_, found, rfl⟩ (fun s2 => typeIs_int s2 (n : Int) tk)
    noFill_tuple_mul F.fills_int_mul F.slot_int_rmul
    repeat_tuple F.slot_int_index.lookup ?_
  refine call_meets F.slot_int_rmul (typeIs_int st (n : Int) tk) F.entry_int_rmul (F.args_int_rmul_2 _ _)
    (int_rmul_tuple (n : Int) tk a [it].toArray m dict slots) ⟨found, rfl, ⟨_, found, rfl⟩, ?_⟩
  refine call_meets F.slot_tuple_mul ⟨_, found, rfl⟩ F.entry_tuple_mul
    (F.args_tuple_mul_2 _ _) mulled ⟨found, ?_⟩
  rw [size_rep, flatNat, rep_flat1]
  refine ⟨.ref st.heap.objs.size, _, I.laid (t' := st.toks) (o := .tup (List.replicate n z)) (fun b ob q => Heap.get?_push_of_some _ q)
    (Nat.le_refl _) ?_, rfl, q _ (I.hok.fresh (Nat.le_refl _))⟩
  refine ⟨by rw [List.length_replicate, line]; omega, List.replicate n it, ?_, IsTup.new _ _⟩
  have r1 := rel.rep n
  rw [rep_flat1, rep_flat1] at r1
  exact r1
end My

/-! (v,) * k, k from 1 on -/
namespace My
open PySem PySem.Spec PyProof.Rows L2
set_option maxHeartbeats 4000000 in
theorem mul_one (a : Addr) (items : Array Value) (m : Nat) (dict : Option Addr) (slots : Array (Option Value)) (u : Tok) :
    Meets (Builtin.«tuple.__mul__» ⟨[.ref a, .int 1 u], []⟩) (fun _ R s => s.heap.get? a = some { cls := .type "tuple", dict := dict, data := .seq items m, slots := slots } ∧
      R (.ok (.ret (.ref a))) s) :=
  .of_wp fun prog w A R s h => by
    obtain ⟨hp, g, d, tk, os⟩ := s
    obtain ⟨at0, h⟩ := h
    have f1 := AutoSeq1.idx_int
    wp_walk using wpAny_loadPart' at0
    exact ⟨_, rfl, h⟩
def rRepU (K : PySem.W.Frag) : R2 := fun x y H Q => ∃ (a : Addr) (n : Nat) (z : V), x = .ref a ∧ y = .int (n : Int) ∧ SqT K H a [z] ∧ 1 ≤ n ∧ n ≤ 9000 ∧
  ∀ b H', Same H H' → SqT K H' b (List.replicate n z) → Q (.ref b) H'
set_option maxHeartbeats 4000000 in
theorem op_repU {X : Cx} : OpR X (binaryOp .Mult) (rRepU X.K) := by
  intro pins st σ H x y v u Q I rx ry want
  obtain ⟨a, n, z, rfl, rfl, seq, low, most, q⟩ := want
  by_cases h1 : n = 1
  · subst h1
    cases rx
    obtain ⟨tk, rfl⟩ := ry
    obtain ⟨vals, rel, ⟨⟨cl, dict, data, slots⟩, found, isT, m, isS⟩, small⟩ := I.tuple seq
    simp only at isT isS
    subst isT isS
    refine wpAny_binaryOp_repeat_ref (T := "tuple") (U := "int") (by decide) ⟨_, found, rfl⟩ (fun s2 => typeIs_int s2 ((1 : Nat) : Int) tk)
      noFill_tuple_mul F.fills_int_mul F.slot_int_rmul
      repeat_tuple F.slot_int_index.lookup ?_
    refine call_meets F.slot_int_rmul (typeIs_int st ((1 : Nat) : Int) tk) F.entry_int_rmul (F.args_int_rmul_2 _ _)
      (int_rmul_tuple ((1 : Nat) : Int) tk a vals.toArray m dict slots) ⟨found, rfl, ⟨_, found, rfl⟩, ?_⟩
    refine call_meets F.slot_tuple_mul ⟨_, found, rfl⟩ F.entry_tuple_mul
      (F.args_tuple_mul_2 _ _) (mul_one a vals.toArray m dict slots tk) ⟨found, ?_⟩
    exact ⟨.ref a, H, I, rfl, q a H (Same.refl H) seq⟩
  · refine op_repW pins st σ H _ _ v u Q I rx ry ⟨a, n, z, rfl, rfl, seq, by omega, most, fun b hb => ?_⟩
    exact q b _ (same_new hb) (.inl (.inl upd_same))
end My

/-! isinstance by K's name (within a try or a comprehension) -/
namespace My
open PySem PySem.Spec PyProof.Rows L2
theorem call_isiK {X : Cx} {K : PySem.W.Frag} (h : X.K = K := by rfl) : CallR X (.builtin "isinstance") (rIsi K) := by
  subst h
  exact call_isi
end My

/-! `<` and `<=` of data that are alike, at any depth -/
namespace My
open PySem PySem.Spec PyProof.Rows L2
def rLtD (K : PySem.W.Frag) : R2 := fun x y H Q => ∃ d e, Dp K H x d ∧ Dp K H y e ∧ PySem.W.alike d e = true ∧ d ≠ .none ∧ d.depth ≤ 64 ∧ Q (.bl (PySem.W.dataLt d e)) H
def rLeD (K : PySem.W.Frag) : R2 := fun x y H Q => ∃ d e, Dp K H x d ∧ Dp K H y e ∧ PySem.W.alike d e = true ∧ d ≠ .none ∧ d.depth ≤ 64 ∧ Q (.bl (!PySem.W.dataLt e d)) H
theorem op_ltD {X : Cx} {K : PySem.W.Frag} (hu : X.A.units + 64 < cLine) (h : X.K = K := by rfl) : OpR X (compareOp .Lt) (rLtD K) := by
  subst h
  intro pins s σ H x y v u Q I rx ry h
  obtain ⟨d, e, hd, he, al, hn, dp, q⟩ := h
  obtain ⟨as, r1⟩ := Dp.reads I d x v hd rx
  obtain ⟨bs, r2⟩ := Dp.reads I e y u he ry
  exact PySem.W.lt_data r1 r2 al hn (Nat.lt_of_le_of_lt (Nat.add_le_add_left (Nat.le_trans (Nat.min_le_left _ _) dp) _) hu) ⟨.bl _, H, I, rfl, q⟩
theorem op_leD {X : Cx} {K : PySem.W.Frag} (hu : X.A.units + 64 < cLine) (h : X.K = K := by rfl) : OpR X (compareOp .LtE) (rLeD K) := by
  subst h
  intro pins s σ H x y v u Q I rx ry h
  obtain ⟨d, e, hd, he, al, hn, dp, q⟩ := h
  obtain ⟨as, r1⟩ := Dp.reads I d x v hd rx
  obtain ⟨bs, r2⟩ := Dp.reads I e y u he ry
  exact PySem.W.le_data r1 r2 al hn (Nat.lt_of_le_of_lt (Nat.add_le_add_left (Nat.le_trans (Nat.min_le_left _ _) dp) _) hu) ⟨.bl _, H, I, rfl, q⟩
end My

namespace My
open PySem PySem.Spec PyProof.Rows L2
def top (i : Nat) : Stmt := PySem.Challenge.pw_stepsound_k16_whole_alike_papers_judged.main.body.getD i (.Pass ⟨0, 0, 0, 0⟩)
abbrev s_is_integer : Stmt := top 6
abbrev s_is_between : Stmt := top 7
abbrev s_is_pair : Stmt := top 8
abbrev s_is_code : Stmt := top 9
abbrev s_is_tuple_of_codes : Stmt := top 10
abbrev s_is_place : Stmt := top 11
abbrev s_is_state : Stmt := top 12
abbrev s_need_state : Stmt := top 13
abbrev s_need_few_states : Stmt := top 14
abbrev s_all_states : Stmt := top 16
abbrev s_rounded : Stmt := top 17
abbrev s_limited : Stmt := top 18
abbrev s_change_at : Stmt := top 19
abbrev s_faded : Stmt := top 20
abbrev s_state_behind : Stmt := top 21
abbrev s_state_behind_row : Stmt := top 22
abbrev s_need_coder : Stmt := top 24
abbrev s_first_fault : Stmt := top 25
abbrev s_fault_of_steps : Stmt := top 26
abbrev s_fault_of_moves : Stmt := top 27
abbrev s_is_tuple_of : Stmt := top 28
abbrev s_is_move : Stmt := top 29
abbrev s_is_fade : Stmt := top 30
abbrev s_row_along : Stmt := top 32
abbrev s_led_states : Stmt := top 34
abbrev s_need_form : Stmt := top 36
abbrev s_alike : Stmt := top 39
abbrev s_check_alike : Stmt := top 40
abbrev s_need_all : Stmt := top 41
abbrev s_pairs_behind : Stmt := top 42
abbrev s_is_unlike : Stmt := top 43
abbrev s_check_couples : Stmt := top 44
abbrev s_is_pair_of_states : Stmt := top 45
abbrev s_check_row : Stmt := top 46
abbrev s_law_begun : Stmt := top 48
abbrev s_law_next : Stmt := top 49
abbrev s_law_coder : Stmt := top 50
abbrev s_law_parted : Stmt := top 51
abbrev s_law_limited : Stmt := top 52
abbrev s_law_led : Stmt := top 53
abbrev s_law_walked : Stmt := top 54
abbrev s_law_states : Stmt := top 55
abbrev s_law_some_state : Stmt := top 56
abbrev s_law_is_whole : Stmt := top 57
abbrev s_law_is_state : Stmt := top 58
abbrev s_law_are_codes : Stmt := top 59
abbrev s_law_is_pair : Stmt := top 60
abbrev s_law_pairs_fault : Stmt := top 61
abbrev s_law_due : Stmt := top 62
abbrev s_law_outcome : Stmt := top 63
abbrev s_law_compared : Stmt := top 64
abbrev s_law_bent : Stmt := top 65
abbrev s_law_wrong_right : Stmt := top 66
abbrev s_law : Stmt := top 67
abbrev si_BadCoder : Stmt := inClass (top 1) 0
theorem sci_BadCoder : FnScope ["self", "part", "number"] ["self", "part", "number"] (defScope si_BadCoder) := ⟨rfl, rfl, rfl, by decide +kernel, rfl, by decide +kernel, by decide +kernel⟩
abbrev si_BadPaper : Stmt := inClass (top 2) 0
theorem sci_BadPaper : FnScope ["self", "part", "number"] ["self", "part", "number"] (defScope si_BadPaper) := ⟨rfl, rfl, rfl, by decide +kernel, rfl, by decide +kernel, by decide +kernel⟩
abbrev si_OutOfPlace : Stmt := inClass (top 3) 0
theorem sci_OutOfPlace : FnScope ["self", "text"] ["self", "text"] (defScope si_OutOfPlace) := ⟨rfl, rfl, rfl, by decide +kernel, rfl, by decide +kernel, by decide +kernel⟩
abbrev si_TooGreat : Stmt := inClass (top 4) 0
theorem sci_TooGreat : FnScope ["self", "most"] ["self", "most"] (defScope si_TooGreat) := ⟨rfl, rfl, rfl, by decide +kernel, rfl, by decide +kernel, by decide +kernel⟩
theorem sc_is_integer : FnScope ["thing"] ["thing"] (defScope s_is_integer) := ⟨rfl, rfl, rfl, by decide +kernel, rfl, by decide +kernel, by decide +kernel⟩
theorem sc_is_between : FnScope ["thing", "least", "most"] ["thing", "least", "most"] (defScope s_is_between) := ⟨rfl, rfl, rfl, by decide +kernel, rfl, by decide +kernel, by decide +kernel⟩
theorem sc_is_pair : FnScope ["thing"] ["thing"] (defScope s_is_pair) := ⟨rfl, rfl, rfl, by decide +kernel, rfl, by decide +kernel, by decide +kernel⟩
theorem sc_is_code : FnScope ["coder", "thing"] ["coder", "thing"] (defScope s_is_code) := ⟨rfl, rfl, rfl, by decide +kernel, rfl, by decide +kernel, by decide +kernel⟩
theorem sc_is_tuple_of_codes : FnScope ["coder", "thing", "code"] ["coder", "thing"] (defScope s_is_tuple_of_codes) := ⟨rfl, rfl, rfl, by decide +kernel, rfl, by decide +kernel, by decide +kernel⟩
theorem sc_is_place : FnScope ["coder", "thing"] ["coder", "thing"] (defScope s_is_place) := ⟨rfl, rfl, rfl, by decide +kernel, rfl, by decide +kernel, by decide +kernel⟩
theorem sc_is_state : FnScope ["coder", "thing"] ["coder", "thing"] (defScope s_is_state) := ⟨rfl, rfl, rfl, by decide +kernel, rfl, by decide +kernel, by decide +kernel⟩
theorem sc_need_state : FnScope ["coder", "thing"] ["coder", "thing"] (defScope s_need_state) := ⟨rfl, rfl, rfl, by decide +kernel, rfl, by decide +kernel, by decide +kernel⟩
theorem sc_need_few_states : FnScope ["coder", "most", "low", "high", "steps"] ["coder", "most"] (defScope s_need_few_states) := ⟨rfl, rfl, rfl, by decide +kernel, rfl, by decide +kernel, by decide +kernel⟩
theorem sc_all_states : FnScope ["coder", "low", "high", "steps", "level", "place"] ["coder"] (defScope s_all_states) := ⟨rfl, rfl, rfl, by decide +kernel, rfl, by decide +kernel, by decide +kernel⟩
theorem sc_rounded : FnScope ["number", "divisor"] ["number", "divisor"] (defScope s_rounded) := ⟨rfl, rfl, rfl, by decide +kernel, rfl, by decide +kernel, by decide +kernel⟩
theorem sc_limited : FnScope ["number", "least", "most"] ["number", "least", "most"] (defScope s_limited) := ⟨rfl, rfl, rfl, by decide +kernel, rfl, by decide +kernel, by decide +kernel⟩
theorem sc_change_at : FnScope ["coder", "code", "place", "share"] ["coder", "code", "place"] (defScope s_change_at) := ⟨rfl, rfl, rfl, by decide +kernel, rfl, by decide +kernel, by decide +kernel⟩
theorem sc_faded : FnScope ["level", "fade"] ["level", "fade"] (defScope s_faded) := ⟨rfl, rfl, rfl, by decide +kernel, rfl, by decide +kernel, by decide +kernel⟩
theorem sc_state_behind : FnScope ["coder", "state", "code", "low", "high", "steps", "moves", "fade", "level", "place", "turn", "moved"] ["coder", "state", "code"] (defScope s_state_behind) := ⟨rfl, rfl, rfl, by decide +kernel, rfl, by decide +kernel, by decide +kernel⟩
theorem sc_state_behind_row : FnScope ["coder", "row", "state", "now", "code"] ["coder", "row", "state"] (defScope s_state_behind_row) := ⟨rfl, rfl, rfl, by decide +kernel, rfl, by decide +kernel, by decide +kernel⟩
theorem sc_need_coder : FnScope ["thing", "fault"] ["thing"] (defScope s_need_coder) := ⟨rfl, rfl, rfl, by decide +kernel, rfl, by decide +kernel, by decide +kernel⟩
theorem sc_first_fault : FnScope ["thing", "low", "high", "steps", "moves", "fade", "fault"] ["thing"] (defScope s_first_fault) := ⟨rfl, rfl, rfl, by decide +kernel, rfl, by decide +kernel, by decide +kernel⟩
theorem sc_fault_of_steps : FnScope ["steps", "index", "step"] ["steps"] (defScope s_fault_of_steps) := ⟨rfl, rfl, rfl, by decide +kernel, rfl, by decide +kernel, by decide +kernel⟩
theorem sc_fault_of_moves : FnScope ["moves", "index", "move"] ["moves"] (defScope s_fault_of_moves) := ⟨rfl, rfl, rfl, by decide +kernel, rfl, by decide +kernel, by decide +kernel⟩
theorem sc_is_tuple_of : FnScope ["thing", "least", "most"] ["thing", "least", "most"] (defScope s_is_tuple_of) := ⟨rfl, rfl, rfl, by decide +kernel, rfl, by decide +kernel, by decide +kernel⟩
theorem sc_is_move : FnScope ["thing"] ["thing"] (defScope s_is_move) := ⟨rfl, rfl, rfl, by decide +kernel, rfl, by decide +kernel, by decide +kernel⟩
theorem sc_is_fade : FnScope ["thing"] ["thing"] (defScope s_is_fade) := ⟨rfl, rfl, rfl, by decide +kernel, rfl, by decide +kernel, by decide +kernel⟩
theorem sc_row_along : FnScope ["leaders", "thing", "row", "now", "code"] ["leaders", "thing"] (defScope s_row_along) := ⟨rfl, rfl, rfl, by decide +kernel, rfl, by decide +kernel, by decide +kernel⟩
theorem sc_led_states : FnScope ["coder", "led", "state", "code"] ["coder"] (defScope s_led_states) := ⟨rfl, rfl, rfl, by decide +kernel, rfl, by decide +kernel, by decide +kernel⟩
theorem sc_need_form : FnScope ["paper", "forms"] ["paper", "forms"] (defScope s_need_form) := ⟨rfl, rfl, rfl, by decide +kernel, rfl, by decide +kernel, by decide +kernel⟩
theorem sc_alike : FnScope ["coder", "other", "one", "two", "led", "led_other", "leaders", "layer", "fresh", "pair", "code", "after"] ["coder", "other", "one", "two"] (defScope s_alike) := ⟨rfl, rfl, rfl, by decide +kernel, rfl, by decide +kernel, by decide +kernel⟩
theorem sc_check_alike : FnScope ["coder", "other", "one", "two", "paper"] ["coder", "other", "one", "two", "paper"] (defScope s_check_alike) := ⟨rfl, rfl, rfl, by decide +kernel, rfl, by decide +kernel, by decide +kernel⟩
theorem sc_need_all : FnScope ["coder", "other", "one", "two"] ["coder", "other", "one", "two"] (defScope s_need_all) := ⟨rfl, rfl, rfl, by decide +kernel, rfl, by decide +kernel, by decide +kernel⟩
theorem sc_pairs_behind : FnScope ["led", "led_other", "pair"] ["led", "led_other", "pair"] (defScope s_pairs_behind) := ⟨rfl, rfl, rfl, by decide +kernel, rfl, by decide +kernel, by decide +kernel⟩
theorem sc_is_unlike : FnScope ["pair"] ["pair"] (defScope s_is_unlike) := ⟨rfl, rfl, rfl, by decide +kernel, rfl, by decide +kernel, by decide +kernel⟩
theorem sc_check_couples : FnScope ["coder", "other", "pair", "couples", "index", "thing", "led", "led_other", "couple", "listed", "after"] ["coder", "other", "pair", "couples"] (defScope s_check_couples) := ⟨rfl, rfl, rfl, by decide +kernel, rfl, by decide +kernel, by decide +kernel⟩
theorem sc_is_pair_of_states : FnScope ["coder", "other", "thing"] ["coder", "other", "thing"] (defScope s_is_pair_of_states) := ⟨rfl, rfl, rfl, by decide +kernel, rfl, by decide +kernel, by decide +kernel⟩
theorem sc_check_row : FnScope ["coder", "other", "pair", "row"] ["coder", "other", "pair", "row"] (defScope s_check_row) := ⟨rfl, rfl, rfl, by decide +kernel, rfl, by decide +kernel, by decide +kernel⟩
theorem sc_law_begun : FnScope ["script", "cell"] ["script"] (defScope s_law_begun) := ⟨rfl, rfl, rfl, by decide +kernel, rfl, by decide +kernel, by decide +kernel⟩
theorem sc_law_next : FnScope ["m", "many", "rest", "k", "cell", "mixed"] ["m", "many"] (defScope s_law_next) := ⟨rfl, rfl, rfl, by decide +kernel, rfl, by decide +kernel, by decide +kernel⟩
theorem sc_law_coder : FnScope ["m", "wide", "places", "codes", "low", "high", "k", "steps", "moves", "fade"] ["m", "wide", "places", "codes"] (defScope s_law_coder) := ⟨rfl, rfl, rfl, by decide +kernel, rfl, by decide +kernel, by decide +kernel⟩
theorem sc_law_parted : FnScope ["number", "by"] ["number", "by"] (defScope s_law_parted) := ⟨rfl, rfl, rfl, by decide +kernel, rfl, by decide +kernel, by decide +kernel⟩
theorem sc_law_limited : FnScope ["number", "least", "most"] ["number", "least", "most"] (defScope s_law_limited) := ⟨rfl, rfl, rfl, by decide +kernel, rfl, by decide +kernel, by decide +kernel⟩
theorem sc_law_led : FnScope ["coder", "here", "code", "share", "turn", "level"] ["coder", "here", "code"] (defScope s_law_led) := ⟨rfl, rfl, rfl, by decide +kernel, rfl, by decide +kernel, by decide +kernel⟩
theorem sc_law_walked : FnScope ["coder", "here", "row", "found", "code"] ["coder", "here", "row"] (defScope s_law_walked) := ⟨rfl, rfl, rfl, by decide +kernel, rfl, by decide +kernel, by decide +kernel⟩
theorem sc_law_states : FnScope ["coder", "found", "level", "place"] ["coder"] (defScope s_law_states) := ⟨rfl, rfl, rfl, by decide +kernel, rfl, by decide +kernel, by decide +kernel⟩
theorem sc_law_some_state : FnScope ["m", "coder"] ["m", "coder"] (defScope s_law_some_state) := ⟨rfl, rfl, rfl, by decide +kernel, rfl, by decide +kernel, by decide +kernel⟩
theorem sc_law_is_whole : FnScope ["thing", "least", "most"] ["thing", "least", "most"] (defScope s_law_is_whole) := ⟨rfl, rfl, rfl, by decide +kernel, rfl, by decide +kernel, by decide +kernel⟩
theorem sc_law_is_state : FnScope ["coder", "thing"] ["coder", "thing"] (defScope s_law_is_state) := ⟨rfl, rfl, rfl, by decide +kernel, rfl, by decide +kernel, by decide +kernel⟩
theorem sc_law_are_codes : FnScope ["coder", "thing", "code"] ["coder", "thing"] (defScope s_law_are_codes) := ⟨rfl, rfl, rfl, by decide +kernel, rfl, by decide +kernel, by decide +kernel⟩
theorem sc_law_is_pair : FnScope ["coder", "other", "thing"] ["coder", "other", "thing"] (defScope s_law_is_pair) := ⟨rfl, rfl, rfl, by decide +kernel, rfl, by decide +kernel, by decide +kernel⟩
theorem sc_law_pairs_fault : FnScope ["coder", "other", "pair", "couples", "k", "thing", "code", "led"] ["coder", "other", "pair", "couples"] (defScope s_law_pairs_fault) := ⟨rfl, rfl, rfl, by decide +kernel, rfl, by decide +kernel, by decide +kernel⟩
theorem sc_law_due : FnScope ["coder", "other", "one", "two", "paper", "fault", "ends"] ["coder", "other", "one", "two", "paper"] (defScope s_law_due) := ⟨rfl, rfl, rfl, by decide +kernel, rfl, by decide +kernel, by decide +kernel⟩
theorem sc_law_outcome : FnScope ["coder", "other", "one", "two", "paper", "found", "e"] ["coder", "other", "one", "two", "paper"] (defScope s_law_outcome) := ⟨rfl, rfl, rfl, by decide +kernel, rfl, by decide +kernel, by decide +kernel⟩
theorem sc_law_compared : FnScope ["coder", "other", "one", "two", "found", "e"] ["coder", "other", "one", "two"] (defScope s_law_compared) := ⟨rfl, rfl, rfl, by decide +kernel, rfl, by decide +kernel, by decide +kernel⟩
theorem sc_law_bent : FnScope ["m", "coder", "other", "paper", "way", "row", "some", "at", "thing"] ["m", "coder", "other", "paper"] (defScope s_law_bent) := ⟨rfl, rfl, rfl, by decide +kernel, rfl, by decide +kernel, by decide +kernel⟩
theorem sc_law_wrong_right : FnScope ["m", "coder", "one", "great", "less", "found", "told", "more"] ["m", "coder", "one"] (defScope s_law_wrong_right) := ⟨rfl, rfl, rfl, by decide +kernel, rfl, by decide +kernel, by decide +kernel⟩
theorem sc_law : FnScope ["script", "m", "turn", "coder", "other", "one", "two", "told", "some", "paper", "due", "many"] ["script"] (defScope s_law) := ⟨rfl, rfl, rfl, by decide +kernel, rfl, by decide +kernel, by decide +kernel⟩
structure Txt0 (K : PySem.W.Frag) (mg : Str → Option Value) where
  f_is_integer : Addr
  d_is_integer : FuncData
  F_is_integer : Fun K "is_integer" "is_integer" s_is_integer f_is_integer d_is_integer
  b_is_integer : Binds K d_is_integer ["thing"] []
  g_is_integer : mg "is_integer" = some (.ref f_is_integer)
  f_is_between : Addr
  d_is_between : FuncData
  F_is_between : Fun K "is_between" "is_between" s_is_between f_is_between d_is_between
  b_is_between : Binds K d_is_between ["thing", "least", "most"] []
  g_is_between : mg "is_between" = some (.ref f_is_between)
  f_is_pair : Addr
  d_is_pair : FuncData
  F_is_pair : Fun K "is_pair" "is_pair" s_is_pair f_is_pair d_is_pair
  b_is_pair : Binds K d_is_pair ["thing"] []
  g_is_pair : mg "is_pair" = some (.ref f_is_pair)
  f_is_code : Addr
  d_is_code : FuncData
  F_is_code : Fun K "is_code" "is_code" s_is_code f_is_code d_is_code
  b_is_code : Binds K d_is_code ["coder", "thing"] []
  g_is_code : mg "is_code" = some (.ref f_is_code)
  f_is_tuple_of_codes : Addr
  d_is_tuple_of_codes : FuncData
  F_is_tuple_of_codes : Fun K "is_tuple_of_codes" "is_tuple_of_codes" s_is_tuple_of_codes f_is_tuple_of_codes d_is_tuple_of_codes
  b_is_tuple_of_codes : Binds K d_is_tuple_of_codes ["coder", "thing"] []
  g_is_tuple_of_codes : mg "is_tuple_of_codes" = some (.ref f_is_tuple_of_codes)
  f_is_place : Addr
  d_is_place : FuncData
  F_is_place : Fun K "is_place" "is_place" s_is_place f_is_place d_is_place
  b_is_place : Binds K d_is_place ["coder", "thing"] []
  g_is_place : mg "is_place" = some (.ref f_is_place)
  f_is_state : Addr
  d_is_state : FuncData
  F_is_state : Fun K "is_state" "is_state" s_is_state f_is_state d_is_state
  b_is_state : Binds K d_is_state ["coder", "thing"] []
  g_is_state : mg "is_state" = some (.ref f_is_state)
  f_need_state : Addr
  d_need_state : FuncData
  F_need_state : Fun K "need_state" "need_state" s_need_state f_need_state d_need_state
  b_need_state : Binds K d_need_state ["coder", "thing"] []
  g_need_state : mg "need_state" = some (.ref f_need_state)
  f_need_few_states : Addr
  d_need_few_states : FuncData
  F_need_few_states : Fun K "need_few_states" "need_few_states" s_need_few_states f_need_few_states d_need_few_states
  b_need_few_states : Binds K d_need_few_states ["coder", "most"] []
  g_need_few_states : mg "need_few_states" = some (.ref f_need_few_states)
  f_all_states : Addr
  d_all_states : FuncData
  F_all_states : Fun K "all_states" "all_states" s_all_states f_all_states d_all_states
  b_all_states : Binds K d_all_states ["coder"] []
  g_all_states : mg "all_states" = some (.ref f_all_states)
structure Txt1 (K : PySem.W.Frag) (mg : Str → Option Value) extends Txt0 K mg where
  f_rounded : Addr
  d_rounded : FuncData
  F_rounded : Fun K "rounded" "rounded" s_rounded f_rounded d_rounded
  b_rounded : Binds K d_rounded ["number", "divisor"] []
  g_rounded : mg "rounded" = some (.ref f_rounded)
  f_limited : Addr
  d_limited : FuncData
  F_limited : Fun K "limited" "limited" s_limited f_limited d_limited
  b_limited : Binds K d_limited ["number", "least", "most"] []
  g_limited : mg "limited" = some (.ref f_limited)
  f_change_at : Addr
  d_change_at : FuncData
  F_change_at : Fun K "change_at" "change_at" s_change_at f_change_at d_change_at
  b_change_at : Binds K d_change_at ["coder", "code", "place"] []
  g_change_at : mg "change_at" = some (.ref f_change_at)
  f_faded : Addr
  d_faded : FuncData
  F_faded : Fun K "faded" "faded" s_faded f_faded d_faded
  b_faded : Binds K d_faded ["level", "fade"] []
  g_faded : mg "faded" = some (.ref f_faded)
  f_state_behind : Addr
  d_state_behind : FuncData
  F_state_behind : Fun K "state_behind" "state_behind" s_state_behind f_state_behind d_state_behind
  b_state_behind : Binds K d_state_behind ["coder", "state", "code"] []
  g_state_behind : mg "state_behind" = some (.ref f_state_behind)
  f_state_behind_row : Addr
  d_state_behind_row : FuncData
  F_state_behind_row : Fun K "state_behind_row" "state_behind_row" s_state_behind_row f_state_behind_row d_state_behind_row
  b_state_behind_row : Binds K d_state_behind_row ["coder", "row", "state"] []
  g_state_behind_row : mg "state_behind_row" = some (.ref f_state_behind_row)
  f_need_coder : Addr
  d_need_coder : FuncData
  F_need_coder : Fun K "need_coder" "need_coder" s_need_coder f_need_coder d_need_coder
  b_need_coder : Binds K d_need_coder ["thing"] []
  g_need_coder : mg "need_coder" = some (.ref f_need_coder)
  f__first_fault : Addr
  d__first_fault : FuncData
  F__first_fault : Fun K "_first_fault" "_first_fault" s_first_fault f__first_fault d__first_fault
  b__first_fault : Binds K d__first_fault ["thing"] []
  g__first_fault : mg "_first_fault" = some (.ref f__first_fault)
  f__fault_of_steps : Addr
  d__fault_of_steps : FuncData
  F__fault_of_steps : Fun K "_fault_of_steps" "_fault_of_steps" s_fault_of_steps f__fault_of_steps d__fault_of_steps
  b__fault_of_steps : Binds K d__fault_of_steps ["steps"] []
  g__fault_of_steps : mg "_fault_of_steps" = some (.ref f__fault_of_steps)
  f__fault_of_moves : Addr
  d__fault_of_moves : FuncData
  F__fault_of_moves : Fun K "_fault_of_moves" "_fault_of_moves" s_fault_of_moves f__fault_of_moves d__fault_of_moves
  b__fault_of_moves : Binds K d__fault_of_moves ["moves"] []
  g__fault_of_moves : mg "_fault_of_moves" = some (.ref f__fault_of_moves)
structure Txt2 (K : PySem.W.Frag) (mg : Str → Option Value) extends Txt1 K mg where
  f__is_tuple_of : Addr
  d__is_tuple_of : FuncData
  F__is_tuple_of : Fun K "_is_tuple_of" "_is_tuple_of" s_is_tuple_of f__is_tuple_of d__is_tuple_of
  b__is_tuple_of : Binds K d__is_tuple_of ["thing", "least", "most"] []
  g__is_tuple_of : mg "_is_tuple_of" = some (.ref f__is_tuple_of)
  f__is_move : Addr
  d__is_move : FuncData
  F__is_move : Fun K "_is_move" "_is_move" s_is_move f__is_move d__is_move
  b__is_move : Binds K d__is_move ["thing"] []
  g__is_move : mg "_is_move" = some (.ref f__is_move)
  f__is_fade : Addr
  d__is_fade : FuncData
  F__is_fade : Fun K "_is_fade" "_is_fade" s_is_fade f__is_fade d__is_fade
  b__is_fade : Binds K d__is_fade ["thing"] []
  g__is_fade : mg "_is_fade" = some (.ref f__is_fade)
  f_row_along : Addr
  d_row_along : FuncData
  F_row_along : Fun K "row_along" "row_along" s_row_along f_row_along d_row_along
  b_row_along : Binds K d_row_along ["leaders", "thing"] []
  g_row_along : mg "row_along" = some (.ref f_row_along)
  f_led_states : Addr
  d_led_states : FuncData
  F_led_states : Fun K "led_states" "led_states" s_led_states f_led_states d_led_states
  b_led_states : Binds K d_led_states ["coder"] []
  g_led_states : mg "led_states" = some (.ref f_led_states)
  f_need_form : Addr
  d_need_form : FuncData
  F_need_form : Fun K "need_form" "need_form" s_need_form f_need_form d_need_form
  b_need_form : Binds K d_need_form ["paper", "forms"] []
  g_need_form : mg "need_form" = some (.ref f_need_form)
  f_alike : Addr
  d_alike : FuncData
  F_alike : Fun K "alike" "alike" s_alike f_alike d_alike
  b_alike : Binds K d_alike ["coder", "other", "one", "two"] []
  g_alike : mg "alike" = some (.ref f_alike)
  f_check_alike : Addr
  d_check_alike : FuncData
  F_check_alike : Fun K "check_alike" "check_alike" s_check_alike f_check_alike d_check_alike
  b_check_alike : Binds K d_check_alike ["coder", "other", "one", "two", "paper"] []
  g_check_alike : mg "check_alike" = some (.ref f_check_alike)
  f__need_all : Addr
  d__need_all : FuncData
  F__need_all : Fun K "_need_all" "_need_all" s_need_all f__need_all d__need_all
  b__need_all : Binds K d__need_all ["coder", "other", "one", "two"] []
  g__need_all : mg "_need_all" = some (.ref f__need_all)
  f__pairs_behind : Addr
  d__pairs_behind : FuncData
  F__pairs_behind : Fun K "_pairs_behind" "_pairs_behind" s_pairs_behind f__pairs_behind d__pairs_behind
  b__pairs_behind : Binds K d__pairs_behind ["led", "led_other", "pair"] []
  g__pairs_behind : mg "_pairs_behind" = some (.ref f__pairs_behind)
structure Txt3 (K : PySem.W.Frag) (mg : Str → Option Value) extends Txt2 K mg where
  f__is_unlike : Addr
  d__is_unlike : FuncData
  F__is_unlike : Fun K "_is_unlike" "_is_unlike" s_is_unlike f__is_unlike d__is_unlike
  b__is_unlike : Binds K d__is_unlike ["pair"] []
  g__is_unlike : mg "_is_unlike" = some (.ref f__is_unlike)
  f__check_couples : Addr
  d__check_couples : FuncData
  F__check_couples : Fun K "_check_couples" "_check_couples" s_check_couples f__check_couples d__check_couples
  b__check_couples : Binds K d__check_couples ["coder", "other", "pair", "couples"] []
  g__check_couples : mg "_check_couples" = some (.ref f__check_couples)
  f__is_pair_of_states : Addr
  d__is_pair_of_states : FuncData
  F__is_pair_of_states : Fun K "_is_pair_of_states" "_is_pair_of_states" s_is_pair_of_states f__is_pair_of_states d__is_pair_of_states
  b__is_pair_of_states : Binds K d__is_pair_of_states ["coder", "other", "thing"] []
  g__is_pair_of_states : mg "_is_pair_of_states" = some (.ref f__is_pair_of_states)
  f__check_row : Addr
  d__check_row : FuncData
  F__check_row : Fun K "_check_row" "_check_row" s_check_row f__check_row d__check_row
  b__check_row : Binds K d__check_row ["coder", "other", "pair", "row"] []
  g__check_row : mg "_check_row" = some (.ref f__check_row)
  f__law_begun : Addr
  d__law_begun : FuncData
  F__law_begun : Fun K "_law_begun" "_law_begun" s_law_begun f__law_begun d__law_begun
  b__law_begun : Binds K d__law_begun ["script"] []
  g__law_begun : mg "_law_begun" = some (.ref f__law_begun)
  f__law_next : Addr
  d__law_next : FuncData
  F__law_next : Fun K "_law_next" "_law_next" s_law_next f__law_next d__law_next
  b__law_next : Binds K d__law_next ["m", "many"] []
  g__law_next : mg "_law_next" = some (.ref f__law_next)
  f__law_coder : Addr
  d__law_coder : FuncData
  F__law_coder : Fun K "_law_coder" "_law_coder" s_law_coder f__law_coder d__law_coder
  b__law_coder : Binds K d__law_coder ["m", "wide", "places", "codes"] []
  g__law_coder : mg "_law_coder" = some (.ref f__law_coder)
  f__law_parted : Addr
  d__law_parted : FuncData
  F__law_parted : Fun K "_law_parted" "_law_parted" s_law_parted f__law_parted d__law_parted
  b__law_parted : Binds K d__law_parted ["number", "by"] []
  g__law_parted : mg "_law_parted" = some (.ref f__law_parted)
  f__law_limited : Addr
  d__law_limited : FuncData
  F__law_limited : Fun K "_law_limited" "_law_limited" s_law_limited f__law_limited d__law_limited
  b__law_limited : Binds K d__law_limited ["number", "least", "most"] []
  g__law_limited : mg "_law_limited" = some (.ref f__law_limited)
  f__law_led : Addr
  d__law_led : FuncData
  F__law_led : Fun K "_law_led" "_law_led" s_law_led f__law_led d__law_led
  b__law_led : Binds K d__law_led ["coder", "here", "code"] []
  g__law_led : mg "_law_led" = some (.ref f__law_led)
structure Txt4 (K : PySem.W.Frag) (mg : Str → Option Value) extends Txt3 K mg where
  f__law_walked : Addr
  d__law_walked : FuncData
  F__law_walked : Fun K "_law_walked" "_law_walked" s_law_walked f__law_walked d__law_walked
  b__law_walked : Binds K d__law_walked ["coder", "here", "row"] []
  g__law_walked : mg "_law_walked" = some (.ref f__law_walked)
  f__law_states : Addr
  d__law_states : FuncData
  F__law_states : Fun K "_law_states" "_law_states" s_law_states f__law_states d__law_states
  b__law_states : Binds K d__law_states ["coder"] []
  g__law_states : mg "_law_states" = some (.ref f__law_states)
  f__law_some_state : Addr
  d__law_some_state : FuncData
  F__law_some_state : Fun K "_law_some_state" "_law_some_state" s_law_some_state f__law_some_state d__law_some_state
  b__law_some_state : Binds K d__law_some_state ["m", "coder"] []
  g__law_some_state : mg "_law_some_state" = some (.ref f__law_some_state)
  f__law_is_whole : Addr
  d__law_is_whole : FuncData
  F__law_is_whole : Fun K "_law_is_whole" "_law_is_whole" s_law_is_whole f__law_is_whole d__law_is_whole
  b__law_is_whole : Binds K d__law_is_whole ["thing", "least", "most"] []
  g__law_is_whole : mg "_law_is_whole" = some (.ref f__law_is_whole)
  f__law_is_state : Addr
  d__law_is_state : FuncData
  F__law_is_state : Fun K "_law_is_state" "_law_is_state" s_law_is_state f__law_is_state d__law_is_state
  b__law_is_state : Binds K d__law_is_state ["coder", "thing"] []
  g__law_is_state : mg "_law_is_state" = some (.ref f__law_is_state)
  f__law_are_codes : Addr
  d__law_are_codes : FuncData
  F__law_are_codes : Fun K "_law_are_codes" "_law_are_codes" s_law_are_codes f__law_are_codes d__law_are_codes
  b__law_are_codes : Binds K d__law_are_codes ["coder", "thing"] []
  g__law_are_codes : mg "_law_are_codes" = some (.ref f__law_are_codes)
  f__law_is_pair : Addr
  d__law_is_pair : FuncData
  F__law_is_pair : Fun K "_law_is_pair" "_law_is_pair" s_law_is_pair f__law_is_pair d__law_is_pair
  b__law_is_pair : Binds K d__law_is_pair ["coder", "other", "thing"] []
  g__law_is_pair : mg "_law_is_pair" = some (.ref f__law_is_pair)
  f__law_pairs_fault : Addr
  d__law_pairs_fault : FuncData
  F__law_pairs_fault : Fun K "_law_pairs_fault" "_law_pairs_fault" s_law_pairs_fault f__law_pairs_fault d__law_pairs_fault
  b__law_pairs_fault : Binds K d__law_pairs_fault ["coder", "other", "pair", "couples"] []
  g__law_pairs_fault : mg "_law_pairs_fault" = some (.ref f__law_pairs_fault)
  f__law_due : Addr
  d__law_due : FuncData
  F__law_due : Fun K "_law_due" "_law_due" s_law_due f__law_due d__law_due
  b__law_due : Binds K d__law_due ["coder", "other", "one", "two", "paper"] []
  g__law_due : mg "_law_due" = some (.ref f__law_due)
  f__law_outcome : Addr
  d__law_outcome : FuncData
  F__law_outcome : Fun K "_law_outcome" "_law_outcome" s_law_outcome f__law_outcome d__law_outcome
  b__law_outcome : Binds K d__law_outcome ["coder", "other", "one", "two", "paper"] []
  g__law_outcome : mg "_law_outcome" = some (.ref f__law_outcome)
structure Txt5 (K : PySem.W.Frag) (mg : Str → Option Value) extends Txt4 K mg where
  f__law_compared : Addr
  d__law_compared : FuncData
  F__law_compared : Fun K "_law_compared" "_law_compared" s_law_compared f__law_compared d__law_compared
  b__law_compared : Binds K d__law_compared ["coder", "other", "one", "two"] []
  g__law_compared : mg "_law_compared" = some (.ref f__law_compared)
  f__law_bent : Addr
  d__law_bent : FuncData
  F__law_bent : Fun K "_law_bent" "_law_bent" s_law_bent f__law_bent d__law_bent
  b__law_bent : Binds K d__law_bent ["m", "coder", "other", "paper"] []
  g__law_bent : mg "_law_bent" = some (.ref f__law_bent)
  f__law_wrong_right : Addr
  d__law_wrong_right : FuncData
  F__law_wrong_right : Fun K "_law_wrong_right" "_law_wrong_right" s_law_wrong_right f__law_wrong_right d__law_wrong_right
  b__law_wrong_right : Binds K d__law_wrong_right ["m", "coder", "one"] []
  g__law_wrong_right : mg "_law_wrong_right" = some (.ref f__law_wrong_right)
  f_law : Addr
  d_law : FuncData
  F_law : Fun K "law" "law" s_law f_law d_law
  b_law : Binds K d_law ["script"] []
  g_law : mg "law" = some (.ref f_law)
structure Txt (K : PySem.W.Frag) (mg : Str → Option Value) extends Txt5 K mg where
  z_all : mg "all" = none
  z_bool : mg "bool" = none
  z_enumerate : mg "enumerate" = none
  z_int : mg "int" = none
  z_isinstance : mg "isinstance" = none
  z_len : mg "len" = none
  z_list : mg "list" = none
  z_max : mg "max" = none
  z_min : mg "min" = none
  z_range : mg "range" = none
  z_repr : mg "repr" = none
  z_sorted : mg "sorted" = none
  z_str : mg "str" = none
  z_tuple : mg "tuple" = none
  z_zip : mg "zip" = none
  C_BadCoder : Addr
  fi_BadCoder : Addr
  di_BadCoder : FuncData
  g_BadCoder : mg "BadCoder" = some (.ref C_BadCoder)
  o_BadCoder : OexC K C_BadCoder
  i_BadCoder : PySem.W.findIn K (.ref C_BadCoder) "__init__" = some (some (.ref fi_BadCoder))
  t_BadCoder : PySem.W.typeIn K (.ref fi_BadCoder) = some (.type "function")
  x_BadCoder : XfC K C_BadCoder
  n_BadCoder_part : PySem.W.findIn K (.ref C_BadCoder) "part" = some none
  n_BadCoder_number : PySem.W.findIn K (.ref C_BadCoder) "number" = some none
  Fi_BadCoder : Fun K "__init__" "BadCoder.__init__" si_BadCoder fi_BadCoder di_BadCoder
  bi_BadCoder : Binds K di_BadCoder ["self", "part", "number"] []
  e_BadCoder : PySem.W.exmOne K (.ref C_BadCoder) (.ref C_BadCoder) = some true
  C_BadPaper : Addr
  fi_BadPaper : Addr
  di_BadPaper : FuncData
  g_BadPaper : mg "BadPaper" = some (.ref C_BadPaper)
  o_BadPaper : OexC K C_BadPaper
  i_BadPaper : PySem.W.findIn K (.ref C_BadPaper) "__init__" = some (some (.ref fi_BadPaper))
  t_BadPaper : PySem.W.typeIn K (.ref fi_BadPaper) = some (.type "function")
  x_BadPaper : XfC K C_BadPaper
  n_BadPaper_part : PySem.W.findIn K (.ref C_BadPaper) "part" = some none
  n_BadPaper_number : PySem.W.findIn K (.ref C_BadPaper) "number" = some none
  Fi_BadPaper : Fun K "__init__" "BadPaper.__init__" si_BadPaper fi_BadPaper di_BadPaper
  bi_BadPaper : Binds K di_BadPaper ["self", "part", "number"] []
  e_BadPaper : PySem.W.exmOne K (.ref C_BadPaper) (.ref C_BadPaper) = some true
  C_OutOfPlace : Addr
  fi_OutOfPlace : Addr
  di_OutOfPlace : FuncData
  g_OutOfPlace : mg "OutOfPlace" = some (.ref C_OutOfPlace)
  o_OutOfPlace : OexC K C_OutOfPlace
  i_OutOfPlace : PySem.W.findIn K (.ref C_OutOfPlace) "__init__" = some (some (.ref fi_OutOfPlace))
  t_OutOfPlace : PySem.W.typeIn K (.ref fi_OutOfPlace) = some (.type "function")
  Fi_OutOfPlace : Fun K "__init__" "OutOfPlace.__init__" si_OutOfPlace fi_OutOfPlace di_OutOfPlace
  bi_OutOfPlace : Binds K di_OutOfPlace ["self", "text"] []
  e_OutOfPlace : PySem.W.exmOne K (.ref C_OutOfPlace) (.ref C_OutOfPlace) = some true
  C_TooGreat : Addr
  fi_TooGreat : Addr
  di_TooGreat : FuncData
  g_TooGreat : mg "TooGreat" = some (.ref C_TooGreat)
  o_TooGreat : TgC K C_TooGreat
  i_TooGreat : PySem.W.findIn K (.ref C_TooGreat) "__init__" = some (some (.ref fi_TooGreat))
  t_TooGreat : PySem.W.typeIn K (.ref fi_TooGreat) = some (.type "function")
  x_TooGreat : XfC K C_TooGreat
  n_TooGreat_most : PySem.W.findIn K (.ref C_TooGreat) "most" = some none
  Fi_TooGreat : Fun K "__init__" "TooGreat.__init__" si_TooGreat fi_TooGreat di_TooGreat
  bi_TooGreat : Binds K di_TooGreat ["self", "most"] []
  e_TooGreat : PySem.W.exmOne K (.ref C_TooGreat) (.ref C_TooGreat) = some true
  e_BadCoder_BadPaper : PySem.W.exmOne K (.ref C_BadCoder) (.ref C_BadPaper) = some false
  e_BadCoder_OutOfPlace : PySem.W.exmOne K (.ref C_BadCoder) (.ref C_OutOfPlace) = some false
  e_BadCoder_TooGreat : PySem.W.exmOne K (.ref C_BadCoder) (.ref C_TooGreat) = some false
  e_BadPaper_BadCoder : PySem.W.exmOne K (.ref C_BadPaper) (.ref C_BadCoder) = some false
  e_BadPaper_OutOfPlace : PySem.W.exmOne K (.ref C_BadPaper) (.ref C_OutOfPlace) = some false
  e_BadPaper_TooGreat : PySem.W.exmOne K (.ref C_BadPaper) (.ref C_TooGreat) = some false
  e_OutOfPlace_BadCoder : PySem.W.exmOne K (.ref C_OutOfPlace) (.ref C_BadCoder) = some false
  e_OutOfPlace_BadPaper : PySem.W.exmOne K (.ref C_OutOfPlace) (.ref C_BadPaper) = some false
  e_OutOfPlace_TooGreat : PySem.W.exmOne K (.ref C_OutOfPlace) (.ref C_TooGreat) = some false
  e_TooGreat_BadCoder : PySem.W.exmOne K (.ref C_TooGreat) (.ref C_BadCoder) = some false
  e_TooGreat_BadPaper : PySem.W.exmOne K (.ref C_TooGreat) (.ref C_BadPaper) = some false
  e_TooGreat_OutOfPlace : PySem.W.exmOne K (.ref C_TooGreat) (.ref C_OutOfPlace) = some false
  vV : PySem.W.findCls K (.type "ValueError") (.type "type") "__init__" = some (.val (.builtin "ValueError.__init__"))
  zV : mg "ValueError" = none
  q_FORMS : Addr
  qs_FORMS : ∀ H, Dp K H (.ref q_FORMS) (.tuple [.tuple [.str "alike", .int 2], .tuple [.str "apart", .int 2]])
  g_FORMS : mg "FORMS" = some (.ref q_FORMS)

end My

namespace My
open PySem PySem.Spec PyProof.Rows L2
/-! ### things and their kinds -/
def tyN : PyData → String
  | .none => "NoneType"
  | .bool _ => "bool"
  | .int _ => "int"
  | .str _ => "str"
  | .list _ => "list"
  | .tuple _ => "tuple"
  | .dict _ => "dict"
def isT : PyData → Bool
  | .tuple _ => true
  | _ => false
def isI : PyData → Bool
  | .int _ => true
  | .bool _ => true
  | _ => false
def isB : PyData → Bool
  | .bool _ => true
  | _ => false
theorem tyx {K : PySem.W.Frag} {H : Hp} {v : V} {d : PyData} (h : Dp K H v d) : TyX K H v (.type (tyN d)) := by
  cases h with
  | non => exact .base .non
  | bl b => exact .base (.bl b)
  | int i => exact .base (.int i)
  | str x => exact .base (.str x)
  | lst h _ =>
    rcases h with (h | ⟨o, h⟩) | ⟨o, its, n, h, hc, _⟩
    · exact .base (.lst h)
    · exact .base (.frz h)
    · exact .kList h hc
  | tup h _ =>
    rcases h with (h | ⟨o, h⟩) | ⟨o, its, n, h, hc, _⟩
    · exact .base (.tup h)
    · exact .fTuple h
    · exact .kTuple h hc
theorem kitI {K : PySem.W.Frag} : ∀ d : PyData, PySem.W.kitOne K (.type (tyN d)) (.type "int") = some (isI d)
  | .none => kit_ty (a := "NoneType") (b := "int") (r := false) (by decide +kernel)
  | .bool _ => kit_ty (a := "bool") (b := "int") (r := true) (by decide +kernel)
  | .int _ => kit_ty (a := "int") (b := "int") (r := true) (by decide +kernel)
  | .str _ => kit_ty (a := "str") (b := "int") (r := false) (by decide +kernel)
  | .list _ => kit_ty (a := "list") (b := "int") (r := false) (by decide +kernel)
  | .tuple _ => kit_ty (a := "tuple") (b := "int") (r := false) (by decide +kernel)
  | .dict _ => kit_ty (a := "dict") (b := "int") (r := false) (by decide +kernel)
theorem kitBo {K : PySem.W.Frag} : ∀ d : PyData, PySem.W.kitOne K (.type (tyN d)) (.type "bool") = some (isB d)
  | .none => kit_ty (a := "NoneType") (b := "bool") (r := false) (by decide +kernel)
  | .bool _ => kit_ty (a := "bool") (b := "bool") (r := true) (by decide +kernel)
  | .int _ => kit_ty (a := "int") (b := "bool") (r := false) (by decide +kernel)
  | .str _ => kit_ty (a := "str") (b := "bool") (r := false) (by decide +kernel)
  | .list _ => kit_ty (a := "list") (b := "bool") (r := false) (by decide +kernel)
  | .tuple _ => kit_ty (a := "tuple") (b := "bool") (r := false) (by decide +kernel)
  | .dict _ => kit_ty (a := "dict") (b := "bool") (r := false) (by decide +kernel)
theorem kitT {K : PySem.W.Frag} : ∀ d : PyData, PySem.W.kitOne K (.type (tyN d)) (.type "tuple") = some (isT d)
  | .none => kit_ty (a := "NoneType") (b := "tuple") (r := false) (by decide +kernel)
  | .bool _ => kit_ty (a := "bool") (b := "tuple") (r := false) (by decide +kernel)
  | .int _ => kit_ty (a := "int") (b := "tuple") (r := false) (by decide +kernel)
  | .str _ => kit_ty (a := "str") (b := "tuple") (r := false) (by decide +kernel)
  | .list _ => kit_ty (a := "list") (b := "tuple") (r := false) (by decide +kernel)
  | .tuple _ => kit_ty (a := "tuple") (b := "tuple") (r := true) (by decide +kernel)
  | .dict _ => kit_ty (a := "dict") (b := "tuple") (r := false) (by decide +kernel)
def btw (d : PyData) (lo hi : Int) : Bool := match d with
  | .int n => decide (lo ≤ n) && decide (n ≤ hi)
  | _ => false
def pairD : PyData → Bool
  | .tuple ds => decide ((ds.length : Int) = 2)
  | _ => false
theorem dpAll_len {K : PySem.W.Frag} {H : Hp} : ∀ {xs : List V} {ds : List PyData}, DpAll K H xs ds → xs.length = ds.length
  | _, _, .nil => rfl
  | _, _, .cons _ t => congrArg (· + 1) (dpAll_len t)
theorem dpAll_get {K : PySem.W.Frag} {H : Hp} : ∀ {xs : List V} {ds : List PyData} {i : Nat} {x : V}, DpAll K H xs ds → xs[i]? = some x → ∃ d, ds[i]? = some d ∧ Dp K H x d
  | _, _, _, _, .nil, h => by simp at h
  | _, _, 0, _, .cons h t, e => by
    simp at e
    subst e
    exact ⟨_, by simp, h⟩
  | _, _, i + 1, x, .cons h t, e => by
    obtain ⟨d, h1, h2⟩ := dpAll_get (i := i) (x := x) t (by simpa using e)
    exact ⟨d, by simpa using h1, h2⟩
theorem dpAll_get' {K : PySem.W.Frag} {H : Hp} {xs : List V} {ds : List PyData} {i : Nat} {d : PyData} (h : DpAll K H xs ds) (e : ds[i]? = some d) : ∃ x, xs[i]? = some x ∧ Dp K H x d := by
  have hl := dpAll_len h
  have hi := (List.getElem?_eq_some_iff.mp e).1
  obtain ⟨d', h1, h2⟩ := dpAll_get (i := i) (x := xs[i]) h (List.getElem?_eq_getElem (by omega))
  rw [e] at h1
  cases h1
  exact ⟨_, List.getElem?_eq_getElem (by omega), h2⟩
mutual
theorem dp_same {K : PySem.W.Frag} {H H' : Hp} (s : Same H H') : ∀ (d : PyData) (v : V), Dp K H v d → Dp K H' v d
  | .none, _, h => by cases h; exact .non
  | .bool _, _, h => by cases h; exact .bl _
  | .int _, _, h => by cases h; exact .int _
  | .str _, _, h => by cases h; exact .str _
  | .list ds, _, h => by
    cases h with
    | lst a b => exact .lst (s.seq a) (dpAll_same s ds _ b)
  | .tuple ds, _, h => by
    cases h with
    | tup a b => exact .tup (same_tup s a) (dpAll_same s ds _ b)
  | .dict _, _, h => by cases h
theorem dpAll_same {K : PySem.W.Frag} {H H' : Hp} (s : Same H H') : ∀ (ds : List PyData) (vs : List V), DpAll K H vs ds → DpAll K H' vs ds
  | [], _, h => by cases h; exact .nil
  | d :: ds, _, h => by
    cases h with
    | cons a b => exact .cons (dp_same s d _ a) (dpAll_same s ds _ b)
end
theorem dp_tup {K : PySem.W.Frag} {H : Hp} {v : V} {ds : List PyData} (h : Dp K H v (.tuple ds)) : ∃ a xs, v = .ref a ∧ SqT K H a xs ∧ DpAll K H xs ds := by
  cases h with
  | tup a b => exact ⟨_, _, rfl, a, b⟩
/-- hands back the value z, all stands -/
def Pure (K : PySem.W.Frag) (vs : List V) (H : Hp) (Q : VK) (args : List V) (z : V) : Prop := vs = args ∧ ∀ H', Same H H' → Q z H'
section
variable {P : Program} {w : World} {K : PySem.W.Frag} {mg : Str → Option Value} {base : Heap}
def intD (d : PyData) : Bool := isI d && !isB d
def sp_is_integer (K : PySem.W.Frag) : Sp := fun vs H Q _ => ∃ (x : V) (d : PyData), vs = [x] ∧ Dp K H x d ∧ ∀ H', Same H H' → Q (.bl (intD d)) H'
theorem ok_is_integer (T : Txt K mg) : FnOk P w K mg base CX0 1 T.f_is_integer T.d_is_integer ["thing"] (sp_is_integer K) := by
  refine T.F_is_integer.ok sc_is_integer (fun vs H Q E h => ?_) (fun cdv A outer s H vs Q E hr h => ?_)
  · obtain ⟨x, d, rfl, _⟩ := h
    rfl
  · obtain ⟨x, d, rfl, hd, q⟩ := h
    refine ⟨_,
(pss_one (ps_ret (pe_and (pe_callB (call_isi) (by rfl) T.z_isinstance (by decide +kernel) (pa_cons (pv 0) (pa_cons (pe_bltn (v := .ty "int") (by rfl) T.z_int (by decide +kernel) rfl) pa_nil))) (pe_one (pe_not (pe_callB (call_isi) (by rfl) T.z_isinstance (by decide +kernel) (pa_cons (pv 0) (pa_cons (pe_bltn (v := .ty "bool") (by rfl) T.z_bool (by decide +kernel) rfl) pa_nil))))))))
, ?_⟩
    have q' : ∀ b, intD d = b → Q (.bl b) H := fun b e => e ▸ q H (Same.refl H)
    refine ⟨x, rfl, x, .ty "int", _, _, _, rfl, .ty _, tyx hd, kitI d, _, rfl, ?_⟩
    cases h1 : isI d with
    | false => exact iteF (q' _ (by unfold intD; rw [h1]; rfl))
    | true =>
      refine iteT ?_
      refine ⟨_, rfl, _, .ty "bool", _, _, _, rfl, .ty _, tyx hd, kitBo d, _, rfl, ?_⟩
      exact q' _ (by unfold intD; rw [h1]; rfl)
theorem btw_not {d : PyData} (h : intD d = false) (lo hi : Int) : btw d lo hi = false := by
  cases d <;> first | rfl | cases h
theorem intD_int {d : PyData} (h : intD d = true) : ∃ n, d = .int n := by
  cases d <;> first | exact ⟨_, rfl⟩ | cases h
def sp_is_between (K : PySem.W.Frag) : Sp := fun vs H Q _ => ∃ (x : V) (d : PyData) (lo hi : Int), vs = [x, .int lo, .int hi] ∧ Dp K H x d ∧ ∀ H', Same H H' → Q (.bl (btw d lo hi)) H'
theorem ok_is_between (T : Txt K mg) : FnOk P w K mg base CX0 2 T.f_is_between T.d_is_between ["thing", "least", "most"] (sp_is_between K) := by
  refine T.F_is_between.ok sc_is_between (fun vs H Q E h => ?_) (fun cdv A outer s H vs Q E hr h => ?_)
  · obtain ⟨x, d, lo, hi, rfl, _⟩ := h
    rfl
  · obtain ⟨x, d, lo, hi, rfl, hd, q⟩ := h
    refine ⟨_,
(pss_one (ps_ret (pe_and (pe_call (ok_is_integer T) (hr.mono (by decide)) (by rfl) T.g_is_integer T.F_is_integer.kp T.b_is_integer .nil pass0 (pa_cons (pv 0) pa_nil)) (pe_one (pe_chain op_le op_le (pv 1) (pv 0) (pv 2))))))
, ?_⟩
    refine ⟨x, rfl, x, d, rfl, hd, fun H1 s1 => ⟨_, rfl, ?_⟩⟩
    have q' : ∀ b, btw d lo hi = b → Q (.bl b) H1 := fun b e => e ▸ q H1 s1
    cases h1 : intD d with
    | false => exact iteF (q' _ (btw_not h1 lo hi))
    | true =>
      obtain ⟨n, rfl⟩ := intD_int h1
      cases hd
      refine iteT ?_
      refine ⟨_, rfl, _, rfl, lo, n, rfl, rfl, _, rfl, ?_⟩
      refine ite2 (fun e => ?_) (fun e => ?_)
      · refine ⟨_, rfl, n, hi, rfl, rfl, ?_⟩
        exact q' _ (by show (decide (lo ≤ n) && decide (n ≤ hi)) = _; rw [e]; rfl)
      · exact q' _ (by show (decide (lo ≤ n) && decide (n ≤ hi)) = _; rw [Bool.not_eq_true] at e; rw [e]; rfl)
def sp_is_pair (K : PySem.W.Frag) : Sp := fun vs H Q _ => ∃ (x : V) (d : PyData), vs = [x] ∧ Dp K H x d ∧ ∀ H', Same H H' → Q (.bl (pairD d)) H'
theorem ok_is_pair (T : Txt K mg) : FnOk P w K mg base CX0 2 T.f_is_pair T.d_is_pair ["thing"] (sp_is_pair K) := by
  refine T.F_is_pair.ok sc_is_pair (fun vs H Q E h => ?_) (fun cdv A outer s H vs Q E hr h => ?_)
  · obtain ⟨x, d, rfl, _⟩ := h
    rfl
  · obtain ⟨x, d, rfl, hd, q⟩ := h
    refine ⟨_,
(pss_one (ps_ret (pe_and (pe_callB (call_isi) (by rfl) T.z_isinstance (by decide +kernel) (pa_cons (pv 0) (pa_cons (pe_bltn (v := .ty "tuple") (by rfl) T.z_tuple (by decide +kernel) rfl) pa_nil))) (pe_one (pe_cmpR op_eq (pe_callB (call_len_seq) (by rfl) T.z_len (by decide +kernel) (pa_cons (pv 0) pa_nil)) pe_int (nomark _))))))
, ?_⟩
    have q' : ∀ b, pairD d = b → Q (.bl b) H := fun b e => e ▸ q H (Same.refl H)
    refine ⟨x, rfl, x, .ty "tuple", _, _, _, rfl, .ty _, tyx hd, kitT d, _, rfl, ?_⟩
    cases hd with
    | tup h1 h2 =>
      refine iteT ?_
      refine ⟨_, rfl, _, _, rfl, .inr h1, rfl, ?_⟩
      exact q' _ (by show decide _ = decide _; rw [dpAll_len h2]; congr 1; simp)
    | non => exact iteF (q H (Same.refl H))
    | int n => exact iteF (q H (Same.refl H))
    | bl b => exact iteF (q H (Same.refl H))
    | str z => exact iteF (q H (Same.refl H))
    | lst _ _ => exact iteF (q H (Same.refl H))
def tupD (d : PyData) (lo hi : Int) : Bool := match d with
  | .tuple ds => decide (lo ≤ (ds.length : Int)) && decide ((ds.length : Int) ≤ hi)
  | _ => false
def sp_is_tuple_of (K : PySem.W.Frag) : Sp := fun vs H Q _ => ∃ (x : V) (d : PyData) (lo hi : Int), vs = [x, .int lo, .int hi] ∧ Dp K H x d ∧ ∀ H', Same H H' → Q (.bl (tupD d lo hi)) H'
theorem ok_is_tuple_of (T : Txt K mg) : FnOk P w K mg base CX0 2 T.f__is_tuple_of T.d__is_tuple_of ["thing", "least", "most"] (sp_is_tuple_of K) := by
  refine T.F__is_tuple_of.ok sc_is_tuple_of (fun vs H Q E h => ?_) (fun cdv A outer s H vs Q E hr h => ?_)
  · obtain ⟨x, d, lo, hi, rfl, _⟩ := h
    rfl
  · obtain ⟨x, d, lo, hi, rfl, hd, q⟩ := h
    refine ⟨_,
(pss_one (ps_ret (pe_and (pe_callB (call_isi) (by rfl) T.z_isinstance (by decide +kernel) (pa_cons (pv 0) (pa_cons (pe_bltn (v := .ty "tuple") (by rfl) T.z_tuple (by decide +kernel) rfl) pa_nil))) (pe_one (pe_chain op_le op_le (pv 1) (pe_callB (call_len_seq) (by rfl) T.z_len (by decide +kernel) (pa_cons (pv 0) pa_nil)) (pv 2))))))
, ?_⟩
    have q' : ∀ b, tupD d lo hi = b → Q (.bl b) H := fun b e => e ▸ q H (Same.refl H)
    refine ⟨x, rfl, x, .ty "tuple", _, _, _, rfl, .ty _, tyx hd, kitT d, _, rfl, ?_⟩
    cases hd with
    | @tup a xs ds h1 h2 =>
      refine iteT ?_
      refine ⟨_, rfl, _, rfl, _, _, rfl, .inr h1, lo, _, rfl, rfl, _, rfl, ?_⟩
      have hl : xs.length = ds.length := dpAll_len h2
      refine ite2 (fun e => ?_) (fun e => ?_)
      · refine ⟨_, rfl, _, hi, rfl, rfl, ?_⟩
        exact q' _ (by show (decide (lo ≤ (ds.length : Int)) && decide ((ds.length : Int) ≤ hi)) = _; rw [← hl, e]; rfl)
      · exact q' _ (by show (decide (lo ≤ (ds.length : Int)) && decide ((ds.length : Int) ≤ hi)) = _; rw [← hl]; rw [Bool.not_eq_true] at e; rw [e]; rfl)
    | non => exact iteF (q H (Same.refl H))
    | int n => exact iteF (q H (Same.refl H))
    | bl b => exact iteF (q H (Same.refl H))
    | str z => exact iteF (q H (Same.refl H))
    | lst _ _ => exact iteF (q H (Same.refl H))
def moveD : PyData → Bool
  | .tuple [a, b] => btw a (-32) 32 && btw b (-15) 15
  | _ => false
def sp_is_move (K : PySem.W.Frag) : Sp := fun vs H Q _ => ∃ (x : V) (d : PyData), vs = [x] ∧ Dp K H x d ∧ ∀ H', Same H H' → Q (.bl (moveD d)) H'
theorem ok_is_move (T : Txt K mg) : FnOk P w K mg base CX0 3 T.f__is_move T.d__is_move ["thing"] (sp_is_move K) := by
  refine T.F__is_move.ok sc_is_move (fun vs H Q E h => ?_) (fun cdv A outer s H vs Q E hr h => ?_)
  · obtain ⟨x, d, rfl, _⟩ := h
    rfl
  · obtain ⟨x, d, rfl, hd, q⟩ := h
    refine ⟨_,
(pss_one (ps_ret (pe_and (pe_call (ok_is_pair T) (hr.mono (by decide)) (by rfl) T.g_is_pair T.F_is_pair.kp T.b_is_pair .nil pass0 (pa_cons (pv 0) pa_nil)) (pe_and (pe_call (ok_is_between T) (hr.mono (by decide)) (by rfl) T.g_is_between T.F_is_between.kp T.b_is_between .nil pass0 (pa_cons (pe_ix ix_tup (pv 0) pe_int (fun _ _ => rfl)) (pa_cons (pe_un un_neg pe_int) (pa_cons pe_int pa_nil)))) (pe_one (pe_call (ok_is_between T) (hr.mono (by decide)) (by rfl) T.g_is_between T.F_is_between.kp T.b_is_between .nil pass0 (pa_cons (pe_ix ix_tup (pv 0) pe_int (fun _ _ => rfl)) (pa_cons (pe_un un_neg pe_int) (pa_cons pe_int pa_nil)))))))))
, ?_⟩
    have q' : ∀ b H', Same H H' → moveD d = b → Q (.bl b) H' := fun b H' s e => e ▸ q H' s
    refine ⟨x, rfl, x, d, rfl, hd, fun H1 s1 => ⟨_, rfl, ?_⟩⟩
    by_cases hp : pairD d = true
    · rw [hp]
      refine iteT ?_
      obtain ⟨da, db, rfl⟩ : ∃ da db, d = .tuple [da, db] := by
        cases d with
        | tuple ds =>
          match ds, hp with
          | [a, b], _ => exact ⟨a, b, rfl⟩
          | [], hp => cases hp
          | [a], hp => cases hp
          | a :: b :: c :: r, hp =>
            have := of_decide_eq_true (show decide (((a :: b :: c :: r).length : Int) = 2) = true from hp)
            simp at this
            omega
        | _ => cases hp
      obtain ⟨a, xs, rfl, ha, hds⟩ := dp_tup hd
      have ha1 := same_tup s1 ha
      obtain ⟨x0, e0, h0⟩ := dpAll_get' hds (i := 0) rfl
      obtain ⟨x1, e1, h1⟩ := dpAll_get' hds (i := 1) rfl
      refine ⟨_, rfl, a, xs, 0, x0, rfl, rfl, ha1, atI_nat (j := 0) e0, 32, rfl, x0, da, -32, 32, rfl, dp_same s1 _ _ h0, fun H2 s2 => ⟨_, rfl, ?_⟩⟩
      have ha2 := same_tup s2 ha1
      cases hb : btw da (-32) 32 with
      | false =>
        refine iteF ?_
        exact q' _ H2 (s1.trans s2) (by show (btw da (-32) 32 && btw db (-15) 15) = false; rw [hb]; rfl)
      | true =>
        refine iteT ?_
        refine ⟨_, rfl, a, xs, 1, x1, rfl, rfl, ha2, atI_nat (j := 1) e1, 15, rfl, x1, db, -15, 15, rfl, dp_same s2 _ _ (dp_same s1 _ _ h1), fun H3 s3 => ?_⟩
        exact q' _ H3 ((s1.trans s2).trans s3) (by show (btw da (-32) 32 && btw db (-15) 15) = _; rw [hb]; rfl)
    · rw [Bool.not_eq_true] at hp
      rw [hp]
      refine iteF ?_
      have e : moveD d = false := by
        unfold moveD
        split
        · cases hp
        · rfl
      exact q' _ H1 s1 e
def fadeD (d : PyData) : Bool := btw d 0 0 || btw d 2 99
def sp_is_fade (K : PySem.W.Frag) : Sp := fun vs H Q _ => ∃ (x : V) (d : PyData), vs = [x] ∧ Dp K H x d ∧ ∀ H', Same H H' → Q (.bl (fadeD d)) H'
theorem ok_is_fade (T : Txt K mg) : FnOk P w K mg base CX0 3 T.f__is_fade T.d__is_fade ["thing"] (sp_is_fade K) := by
  refine T.F__is_fade.ok sc_is_fade (fun vs H Q E h => ?_) (fun cdv A outer s H vs Q E hr h => ?_)
  · obtain ⟨x, d, rfl, _⟩ := h
    rfl
  · obtain ⟨x, d, rfl, hd, q⟩ := h
    refine ⟨_,
(pss_one (ps_ret (pe_or (pe_call (ok_is_between T) (hr.mono (by decide)) (by rfl) T.g_is_between T.F_is_between.kp T.b_is_between .nil pass0 (pa_cons (pv 0) (pa_cons pe_int (pa_cons pe_int pa_nil)))) (pe_one (pe_call (ok_is_between T) (hr.mono (by decide)) (by rfl) T.g_is_between T.F_is_between.kp T.b_is_between .nil pass0 (pa_cons (pv 0) (pa_cons pe_int (pa_cons pe_int pa_nil))))))))
, ?_⟩
    have q' : ∀ b H', Same H H' → fadeD d = b → Q (.bl b) H' := fun b H' s e => e ▸ q H' s
    refine ⟨x, rfl, x, d, 0, 0, rfl, hd, fun H1 s1 => ⟨_, rfl, ?_⟩⟩
    cases hb : btw d 0 0 with
    | true =>
      refine iteT ?_
      exact q' _ H1 s1 (by unfold fadeD; rw [hb]; rfl)
    | false =>
      refine iteF ?_
      refine ⟨x, rfl, x, d, 2, 99, rfl, dp_same s1 _ _ hd, fun H2 s2 => ?_⟩
      exact q' _ H2 (s1.trans s2) (by unfold fadeD; rw [hb]; rfl)
end
end My

namespace My
open PySem PySem.Spec PyProof.Rows L2
theorem for_enumT {K : PySem.W.Frag} {a : Addr} {xs : List V} {g : TG} {tb : L2.TS} {D : Ends} {σ : L2.St} {H : Hp} (Pv : Nat → L2.St → Hp → Prop) (h0 : Pv 0 σ H)
    (still : ∀ i σ H, i ≤ xs.length → Pv i σ H → SqT K H a xs)
    (turn : ∀ i x σ H T, xs[i]? = some x → Pv i σ H → H T = none → g (.ref T) σ (upd H T (.tup [.int (i : Nat), x])) fun σ2 H2 => tb { D with nx := Pv (i + 1), ct := Pv (i + 1), bk := D.nx } σ2 H2)
    (fin : ∀ σ H, Pv xs.length σ H → D.nx σ H) :
    ∃ W : Nat → Nat → L2.St → Hp → Prop, (∃ m, W 0 m σ H) ∧ ∀ i m σ H, W i m σ H →
      ((Itu K a).stop i H ∧ D.nx σ H) ∨ ((Itu K a).go i H ∧ ∃ N : L2.St → Hp → Prop, (∀ σ' H', N σ' H' → ∃ m', m' < m ∧ W (i + 1) m' σ' H') ∧ ∀ x H', (Itu K a).yld i H x H' → g x σ H' fun σ2 H2 => tb { D with nx := N, ct := N, bk := D.nx } σ2 H2) := by
  refine ⟨fun i m σ H => m + i = xs.length ∧ Pv i σ H, ⟨xs.length, by omega, h0⟩, ?_⟩
  rintro i m σ H ⟨hm, p⟩
  have q := still i σ H (by omega) p
  rcases Nat.lt_or_ge i xs.length with hlt | hge
  · refine Or.inr ⟨⟨xs, xs[i], q, List.getElem?_eq_getElem hlt⟩, Pv (i + 1), fun σ' H' p' => ⟨m - 1, by omega, by omega, p'⟩, ?_⟩
    rintro v H' ⟨T, x, rfl, hT, rfl, hx⟩
    exact turn i x σ H T (hx xs q) p hT
  · have e : i = xs.length := by omega
    exact Or.inl ⟨⟨xs, q, e.symm⟩, fin σ H (e ▸ p)⟩
theorem st_tail {t u : L2.TS} {D : Ends} {σ : L2.St} {H : Hp} (R : L2.St → Hp → Prop) (hR : ∀ σ H, R σ H → u D σ H)
    (h : (∀ σ H, R σ H → u D σ H) → t { D with nx := u D } σ H) : tSeq t u D σ H := h hR
/-- the place of the first thing of which p does not hold -/
def badAt (p : PyData → Bool) : Nat → List PyData → Option Nat
  | _, [] => none
  | i, d :: r => if p d = true then badAt p (i + 1) r else some i
theorem badAt_step {p : PyData → Bool} {ds : List PyData} {i : Nat} {d : PyData} (h : ds[i]? = some d) : badAt p i (ds.drop i) = if p d = true then badAt p (i + 1) (ds.drop (i + 1)) else some i := by
  have hi := (List.getElem?_eq_some_iff.mp h).1
  have e : ds.drop i = d :: ds.drop (i + 1) := by
    rw [List.drop_eq_getElem_cons hi]
    rw [List.getElem?_eq_getElem hi] at h
    rw [Option.some.inj h]
  rw [e]
  rfl
def noOr : Option Nat → PyData
  | none => .none
  | some i => .int i
def faultD (s : Str) : Option Nat → PyData
  | none => .none
  | some i => .tuple [.str s, .int i]
def rowF (s : Str) (lo hi : Int) (p : PyData → Bool) (d : PyData) : PyData := match d with
  | .tuple ds => if tupD (.tuple ds) lo hi = true then faultD s (badAt p 0 ds) else .tuple [.str s, .none]
  | _ => .tuple [.str s, .none]
def stepsF : PyData → PyData := rowF "steps" 1 16 (btw · 1 9999)
def movesF : PyData → PyData := rowF "moves" 2 16 moveD
theorem upd_tup {K : PySem.W.Frag} {H : Hp} {p : Addr} {xs : List V} : SqT K (upd H p (.tup xs)) p xs := .inl (.inl upd_same)
section
variable {P : Program} {w : World} {K : PySem.W.Frag} {mg : Str → Option Value} {base : Heap}
/-- hands back a thing that is f of the argument -/
def spF (K : PySem.W.Frag) (f : PyData → PyData) : Sp := fun vs H Q _ => ∃ (x : V) (d : PyData), vs = [x] ∧ Dp K H x d ∧ ∀ z H', Same H H' → Dp K H' z (f d) → Q z H'
theorem ok_fault_of_steps (T : Txt K mg) : FnOk P w K mg base CX0 3 T.f__fault_of_steps T.d__fault_of_steps ["steps"] (spF K stepsF) := by
  refine T.F__fault_of_steps.ok sc_fault_of_steps (fun vs H Q E h => ?_) (fun cdv A outer s H vs Q E hr h => ?_)
  · obtain ⟨x, d, rfl, _⟩ := h
    rfl
  · obtain ⟨x, d, rfl, hd, q⟩ := h
    have q' : ∀ z H' e, Same H H' → stepsF d = e → Dp K H' z e → Q z H' := fun z H' e s ee hz => q z H' s (ee ▸ hz)
    refine ⟨_,
(pss_cons (ps_if (pt_not (pt_val (pe_call (ok_is_tuple_of T) (hr.mono (by decide)) (by rfl) T.g__is_tuple_of T.F__is_tuple_of.kp T.b__is_tuple_of .nil pass0 (pa_cons (pv 0) (pa_cons pe_int (pa_cons pe_int pa_nil)))))) (pss_one (ps_ret (pe_tup (pa_cons pe_str (pa_cons pe_non pa_nil))))) pss_nil)
      (pss_cons (ps_for PassesOwn.never rfl (My.pi_enumT (by rfl) T.z_enumerate (pa_cons (pv 0) pa_nil)) (pg_tup (by rfl) (pgs_cons (pg_name (i := 1) sc_fault_of_steps.nd rfl (Or.inl rfl)) (pgs_cons (pg_name (i := 2) sc_fault_of_steps.nd rfl (Or.inl rfl)) pgs_nil))) (pss_one (ps_if (pt_not (pt_val (pe_call (ok_is_between T) (hr.mono (by decide)) (by rfl) T.g_is_between T.F_is_between.kp T.b_is_between .nil pass0 (pa_cons (pv 2) (pa_cons pe_int (pa_cons pe_int pa_nil)))))) (pss_one (ps_ret (pe_tup (pa_cons pe_str (pa_cons (pv 1) pa_nil))))) pss_nil)))
      (pss_one (ps_ret pe_non))))
, ?_⟩
    refine ⟨x, rfl, x, d, 1, 16, rfl, hd, fun H1 s1 => ⟨_, rfl, ?_⟩⟩
    cases hb : tupD d 1 16 with
    | false =>
      refine iteT ?_
      refine ⟨by decide, fun p hp => ?_⟩
      refine q' _ _ _ (s1.trans (same_new hp)) ?_ (.tup upd_tup (.cons (.str _) (.cons .non .nil)))
      unfold stepsF rowF
      split
      · rw [hb]; rfl
      · rfl
    | true =>
      refine iteF ?_
      obtain ⟨ds, rfl⟩ : ∃ ds, d = .tuple ds := by
        cases d with
        | tuple ds => exact ⟨ds, rfl⟩
        | _ => cases hb
      obtain ⟨a, xs, rfl, ha, hds⟩ := dp_tup hd
      have hF : stepsF (.tuple ds) = faultD "steps" (badAt (btw · 1 9999) 0 ds) := by
        show (if _ then _ else _) = _
        rw [if_pos hb]
      refine ⟨.ref a, rfl, a, xs, rfl, same_tup s1 ha, ?_⟩
      refine for_enumT (K := K) (a := a) (xs := xs) (fun i σ H' => ∃ y1 y2, σ = [some (.ref a), y1, y2] ∧ Same H H' ∧ badAt (btw · 1 9999) 0 ds = badAt (btw · 1 9999) i (ds.drop i)) ⟨none, none, rfl, s1, rfl⟩ ?_ ?_ ?_
      · rintro i σ H' _ ⟨_, _, _, s2, _⟩
        exact same_tup s2 ha
      · rintro i v σ H' p hi ⟨y1, y2, rfl, s2, hbad⟩ hp
        obtain ⟨dv, hdv, hv⟩ := dpAll_get hds hi
        rw [badAt_step hdv] at hbad
        have s3 := s2.trans (same_new (o := .tup [.int (i : Nat), v]) hp)
        refine ⟨p, _, rfl, upd_tup, rfl, _, _, rfl, _, _, rfl, rfl, ?_⟩
        refine ⟨_, rfl, v, dv, 1, 9999, rfl, dp_same s3 _ _ hv, fun H2 s4 => ⟨_, rfl, ?_⟩⟩
        cases hg : btw dv 1 9999 with
        | true =>
          refine iteF ?_
          rw [hg] at hbad
          exact ⟨_, _, rfl, s3.trans s4, hbad⟩
        | false =>
          refine iteT ?_
          rw [hg] at hbad
          refine ⟨_, rfl, by show 2 ≤ sizeLine; decide, fun p2 hp2 => ?_⟩
          refine q' _ _ _ ((s3.trans s4).trans (same_new hp2)) (hF.trans ?_) (.tup upd_tup (.cons (.str _) (.cons (.int _) .nil)))
          rw [hbad]
          rfl
      · rintro σ H' ⟨y1, y2, rfl, s2, hbad⟩
        refine q' _ _ _ s2 (hF.trans ?_) .non
        rw [hbad, dpAll_len hds, List.drop_length]
        rfl
theorem ok_fault_of_moves (T : Txt K mg) : FnOk P w K mg base CX0 4 T.f__fault_of_moves T.d__fault_of_moves ["moves"] (spF K movesF) := by
  refine T.F__fault_of_moves.ok sc_fault_of_moves (fun vs H Q E h => ?_) (fun cdv A outer s H vs Q E hr h => ?_)
  · obtain ⟨x, d, rfl, _⟩ := h
    rfl
  · obtain ⟨x, d, rfl, hd, q⟩ := h
    have q' : ∀ z H' e, Same H H' → movesF d = e → Dp K H' z e → Q z H' := fun z H' e s ee hz => q z H' s (ee ▸ hz)
    refine ⟨_,
(pss_cons (ps_if (pt_not (pt_val (pe_call (ok_is_tuple_of T) (hr.mono (by decide)) (by rfl) T.g__is_tuple_of T.F__is_tuple_of.kp T.b__is_tuple_of .nil pass0 (pa_cons (pv 0) (pa_cons pe_int (pa_cons pe_int pa_nil)))))) (pss_one (ps_ret (pe_tup (pa_cons pe_str (pa_cons pe_non pa_nil))))) pss_nil)
      (pss_cons (ps_for PassesOwn.never rfl (My.pi_enumT (by rfl) T.z_enumerate (pa_cons (pv 0) pa_nil)) (pg_tup (by rfl) (pgs_cons (pg_name (i := 1) sc_fault_of_moves.nd rfl (Or.inl rfl)) (pgs_cons (pg_name (i := 2) sc_fault_of_moves.nd rfl (Or.inl rfl)) pgs_nil))) (pss_one (ps_if (pt_not (pt_val (pe_call (ok_is_move T) (hr.mono (by decide)) (by rfl) T.g__is_move T.F__is_move.kp T.b__is_move .nil pass0 (pa_cons (pv 2) pa_nil)))) (pss_one (ps_ret (pe_tup (pa_cons pe_str (pa_cons (pv 1) pa_nil))))) pss_nil)))
      (pss_one (ps_ret pe_non))))
, ?_⟩
    refine ⟨x, rfl, x, d, 2, 16, rfl, hd, fun H1 s1 => ⟨_, rfl, ?_⟩⟩
    cases hb : tupD d 2 16 with
    | false =>
      refine iteT ?_
      refine ⟨by decide, fun p hp => ?_⟩
      refine q' _ _ _ (s1.trans (same_new hp)) ?_ (.tup upd_tup (.cons (.str _) (.cons .non .nil)))
      unfold movesF rowF
      split
      · rw [hb]; rfl
      · rfl
    | true =>
      refine iteF ?_
      obtain ⟨ds, rfl⟩ : ∃ ds, d = .tuple ds := by
        cases d with
        | tuple ds => exact ⟨ds, rfl⟩
        | _ => cases hb
      obtain ⟨a, xs, rfl, ha, hds⟩ := dp_tup hd
      have hF : movesF (.tuple ds) = faultD "moves" (badAt moveD 0 ds) := by
        show (if _ then _ else _) = _
        rw [if_pos hb]
      refine ⟨.ref a, rfl, a, xs, rfl, same_tup s1 ha, ?_⟩
      refine for_enumT (K := K) (a := a) (xs := xs) (fun i σ H' => ∃ y1 y2, σ = [some (.ref a), y1, y2] ∧ Same H H' ∧ badAt moveD 0 ds = badAt moveD i (ds.drop i)) ⟨none, none, rfl, s1, rfl⟩ ?_ ?_ ?_
      · rintro i σ H' _ ⟨_, _, _, s2, _⟩
        exact same_tup s2 ha
      · rintro i v σ H' p hi ⟨y1, y2, rfl, s2, hbad⟩ hp
        obtain ⟨dv, hdv, hv⟩ := dpAll_get hds hi
        rw [badAt_step hdv] at hbad
        have s3 := s2.trans (same_new (o := .tup [.int (i : Nat), v]) hp)
        refine ⟨p, _, rfl, upd_tup, rfl, _, _, rfl, _, _, rfl, rfl, ?_⟩
        refine ⟨_, rfl, v, dv, rfl, dp_same s3 _ _ hv, fun H2 s4 => ⟨_, rfl, ?_⟩⟩
        cases hg : moveD dv with
        | true =>
          refine iteF ?_
          rw [hg] at hbad
          exact ⟨_, _, rfl, s3.trans s4, hbad⟩
        | false =>
          refine iteT ?_
          rw [hg] at hbad
          refine ⟨_, rfl, by show 2 ≤ sizeLine; decide, fun p2 hp2 => ?_⟩
          refine q' _ _ _ ((s3.trans s4).trans (same_new hp2)) (hF.trans ?_) (.tup upd_tup (.cons (.str _) (.cons (.int _) .nil)))
          rw [hbad]
          rfl
      · rintro σ H' ⟨y1, y2, rfl, s2, hbad⟩
        refine q' _ _ _ s2 (hF.trans ?_) .non
        rw [hbad, dpAll_len hds, List.drop_length]
        rfl
/-- the five things -/
def codF (low high steps moves fade : PyData) : PyData :=
  if btw low (-32768) 0 = true then
    if btw high 0 32767 = true then
      match stepsF steps with
      | .none => (match movesF moves with
        | .none => if fadeD fade = true then .none else .tuple [.str "fade", .none]
        | e => e)
      | e => e
    else .tuple [.str "high", .none]
  else .tuple [.str "low", .none]
def firstF : PyData → PyData
  | .tuple [low, high, steps, moves, fade] => codF low high steps moves fade
  | _ => .tuple [.str "form", .none]
def isN : PyData → Bool
  | .none => true
  | _ => false
theorem dp_isN {K : PySem.W.Frag} {H : Hp} {z : V} {e : PyData} (h : Dp K H z e) : decide (z = V.non) = isN e := by
  cases h <;> rfl
theorem len5 {ds : List PyData} (h : ds.length = 5) : ∃ a b c d e, ds = [a, b, c, d, e] := by
  match ds, h with
  | [a, b, c, d, e], _ => exact ⟨a, b, c, d, e, rfl⟩
theorem dpAll5 {K : PySem.W.Frag} {H : Hp} {xs : List V} {a b c d e : PyData} (h : DpAll K H xs [a, b, c, d, e]) : ∃ x1 x2 x3 x4 x5, xs = [x1, x2, x3, x4, x5] ∧ Dp K H x1 a ∧ Dp K H x2 b ∧ Dp K H x3 c ∧ Dp K H x4 d ∧ Dp K H x5 e := by
  cases h with
  | cons h1 h => cases h with
    | cons h2 h => cases h with
      | cons h3 h => cases h with
        | cons h4 h => cases h with
          | cons h5 h => cases h with
            | nil => exact ⟨_, _, _, _, _, rfl, h1, h2, h3, h4, h5⟩
theorem ok_first_fault (T : Txt K mg) : FnOk P w K mg base CX0 5 T.f__first_fault T.d__first_fault ["thing"] (spF K firstF) := by
  refine T.F__first_fault.ok sc_first_fault (fun vs H Q E h => ?_) (fun cdv A outer s H vs Q E hr h => ?_)
  · obtain ⟨x, d, rfl, _⟩ := h
    rfl
  · obtain ⟨x, d, rfl, hd, q⟩ := h
    have q' : ∀ z H' e, Same H H' → firstF d = e → Dp K H' z e → Q z H' := fun z H' e s ee hz => q z H' s (ee ▸ hz)
    refine ⟨_,
(pss_cons (ps_if (PW.pt (pw_or (pt_not (pt_val (pe_callB (call_isi) (by rfl) T.z_isinstance (by decide +kernel) (pa_cons (pv 0) (pa_cons (pe_bltn (v := .ty "tuple") (by rfl) T.z_tuple (by decide +kernel) rfl) pa_nil))))) (pw_or1 (pt_cmpR op_ne (pe_callB (call_len_seq) (by rfl) T.z_len (by decide +kernel) (pa_cons (pv 0) pa_nil)) pe_int (nomark _))))) (pss_one (ps_ret (pe_tup (pa_cons pe_str (pa_cons pe_non pa_nil))))) pss_nil)
      (pss_cons (ps_asg (pv 0) (pg_tup (by rfl) (pgs_cons (pg_name (i := 1) sc_first_fault.nd rfl (Or.inl rfl)) (pgs_cons (pg_name (i := 2) sc_first_fault.nd rfl (Or.inl rfl)) (pgs_cons (pg_name (i := 3) sc_first_fault.nd rfl (Or.inl rfl)) (pgs_cons (pg_name (i := 4) sc_first_fault.nd rfl (Or.inl rfl)) (pgs_cons (pg_name (i := 5) sc_first_fault.nd rfl (Or.inl rfl)) pgs_nil)))))))
      (pss_cons (ps_if (pt_not (pt_val (pe_call (ok_is_between T) (hr.mono (by decide)) (by rfl) T.g_is_between T.F_is_between.kp T.b_is_between .nil pass0 (pa_cons (pv 1) (pa_cons (pe_un un_neg pe_int) (pa_cons pe_int pa_nil)))))) (pss_one (ps_ret (pe_tup (pa_cons pe_str (pa_cons pe_non pa_nil))))) pss_nil)
      (pss_cons (ps_if (pt_not (pt_val (pe_call (ok_is_between T) (hr.mono (by decide)) (by rfl) T.g_is_between T.F_is_between.kp T.b_is_between .nil pass0 (pa_cons (pv 2) (pa_cons pe_int (pa_cons pe_int pa_nil)))))) (pss_one (ps_ret (pe_tup (pa_cons pe_str (pa_cons pe_non pa_nil))))) pss_nil)
      (pss_cons (ps_set (i := 6) sc_first_fault.nd rfl (Or.inl rfl) (pe_call (ok_fault_of_steps T) (hr.mono (by decide)) (by rfl) T.g__fault_of_steps T.F__fault_of_steps.kp T.b__fault_of_steps .nil pass0 (pa_cons (pv 3) pa_nil)))
      (pss_cons (ps_if (pt_cmpR op_isN (pv 6) pe_non (nomark _)) (pss_one (ps_set (i := 6) sc_first_fault.nd rfl (Or.inl rfl) (pe_call (ok_fault_of_moves T) (hr.mono (by decide)) (by rfl) T.g__fault_of_moves T.F__fault_of_moves.kp T.b__fault_of_moves .nil pass0 (pa_cons (pv 4) pa_nil)))) pss_nil)
      (pss_cons (ps_if (PW.pt (pw_and (pt_cmpR op_isN (pv 6) pe_non (nomark _)) (pw_and1 (pt_not (pt_val (pe_call (ok_is_fade T) (hr.mono (by decide)) (by rfl) T.g__is_fade T.F__is_fade.kp T.b__is_fade .nil pass0 (pa_cons (pv 5) pa_nil))))))) (pss_one (ps_set (i := 6) sc_first_fault.nd rfl (Or.inl rfl) (pe_tup (pa_cons pe_str (pa_cons pe_non pa_nil))))) pss_nil)
      (pss_one (ps_ret (pv 6))))))))))
, ?_⟩
    refine ⟨x, rfl, x, .ty "tuple", _, _, _, rfl, .ty _, tyx hd, kitT d, _, rfl, ?_⟩
    -- no tuple of five things
    have bad : (∀ a b c e f, d ≠ .tuple [a, b, c, e, f]) → ∀ H1, Same H H1 → ([V.str "form", V.non].length ≤ sizeLine ∧ ∀ p, H1 p = none → Q (.ref p) (upd H1 p (.tup [V.str "form", V.non]))) := fun nd H1 s1 => by
      refine ⟨by decide, fun p hp => q' _ _ _ (s1.trans (same_new hp)) ?_ (.tup upd_tup (.cons (.str _) (.cons .non .nil)))⟩
      unfold firstF
      split
      · exact absurd rfl (nd _ _ _ _ _)
      · rfl
    cases hT : isT d with
    | false =>
      refine iteT ?_
      exact bad (fun a b c e f z => by rw [z] at hT; cases hT) H (Same.refl H)
    | true =>
      refine iteF ?_
      obtain ⟨ds, rfl⟩ : ∃ ds, d = .tuple ds := by
        cases d with
        | tuple ds => exact ⟨ds, rfl⟩
        | _ => cases hT
      obtain ⟨a, xs, rfl, ha, hds⟩ := dp_tup hd
      refine ⟨_, rfl, a, xs, rfl, .inr ha, rfl, _, rfl, ?_⟩
      have hl := dpAll_len hds
      by_cases h5 : ds.length = 5
      · have e5 : decide (V.int (xs.length : Int) = V.int 5) = true := by rw [hl, h5]; rfl
        rw [e5]
        refine iteF ?_
        obtain ⟨low, high, steps, moves, fade, rfl⟩ := len5 h5
        obtain ⟨x1, x2, x3, x4, x5, rfl, d1, d2, d3, d4, d5⟩ := dpAll5 hds
        have hF : firstF (.tuple [low, high, steps, moves, fade]) = codF low high steps moves fade := rfl
        rw [hF] at q'
        refine ⟨_, rfl, a, _, rfl, ha, rfl, _, _, rfl, _, _, rfl, _, _, rfl, _, _, rfl, _, _, rfl, rfl, ?_⟩
        refine ⟨_, rfl, 32768, rfl, x1, low, -32768, 0, rfl, d1, fun H1 s1 => ⟨_, rfl, ?_⟩⟩
        cases b1 : btw low (-32768) 0 with
        | false =>
          refine iteT ?_
          refine ⟨by decide, fun p hp => q' _ _ _ (s1.trans (same_new hp)) ?_ (.tup upd_tup (.cons (.str "low") (.cons .non .nil)))⟩
          unfold codF
          rw [b1]
          rfl
        | true =>
        refine iteF ?_
        refine ⟨_, rfl, x2, high, 0, 32767, rfl, dp_same s1 _ _ d2, fun H2 s2 => ⟨_, rfl, ?_⟩⟩
        have s12 := s1.trans s2
        cases b2 : btw high 0 32767 with
        | false =>
          refine iteT ?_
          refine ⟨by decide, fun p hp => q' _ _ _ (s12.trans (same_new hp)) ?_ (.tup upd_tup (.cons (.str "high") (.cons .non .nil)))⟩
          unfold codF
          rw [b1, b2]
          rfl
        | true =>
        refine iteF ?_
        refine ⟨_, rfl, x3, steps, rfl, dp_same s12 _ _ d3, fun z1 H3 s3 hz1 => ?_⟩
        have s13 := s12.trans s3
        dsimp only
        refine st_tail (fun σ H' => ∃ (z : V) (e : PyData), σ = [some (.ref a), some x1, some x2, some x3, some x4, some x5, some z] ∧ Same H H' ∧ Dp K H' z e ∧
          codF low high steps moves fade = (if isN e = true then (if fadeD fade = true then .none else .tuple [.str "fade", .none]) else e)) ?_ fun tail => ?_
        · rintro σ H4 ⟨z, e, rfl, s4, hz, he⟩
          refine ⟨_, rfl, rfl, _, rfl, ?_⟩
          show if decide (z = V.non) = true then _ else _
          rw [dp_isN hz]
          cases hn : isN e with
          | false =>
            refine iteF ?_
            refine iteF ?_
            refine ⟨_, rfl, q' _ _ _ s4 ?_ hz⟩
            rw [he, hn]
            rfl
          | true =>
            refine iteT ?_
            refine ⟨_, rfl, x5, fade, rfl, dp_same s4 _ _ d5, fun H5 s5 => ⟨_, rfl, ?_⟩⟩
            cases hf : fadeD fade with
            | true =>
              refine iteF ?_
              have en : e = .none := by
                cases e with
                | none => rfl
                | _ => cases hn
              refine ⟨_, rfl, q' _ _ _ (s4.trans s5) ?_ (dp_same s5 _ _ hz)⟩
              rw [he, hn, hf, en]
              rfl
            | false =>
              refine iteT ?_
              refine ⟨by decide, fun p hp => ⟨_, rfl, q' _ _ _ ((s4.trans s5).trans (same_new hp)) ?_ (.tup upd_tup (.cons (.str "fade") (.cons .non .nil)))⟩⟩
              rw [he, hn, hf]
              rfl
        refine ⟨_, rfl, rfl, _, rfl, ?_⟩
        show if decide (z1 = V.non) = true then _ else _
        rw [dp_isN hz1]
        have hC : codF low high steps moves fade = (match stepsF steps with
          | .none => (match movesF moves with
            | .none => if fadeD fade = true then .none else .tuple [.str "fade", .none]
            | e => e)
          | e => e) := by
          unfold codF
          rw [b1, b2]
          rfl
        cases hn : isN (stepsF steps) with
        | false =>
          refine iteF ?_
          refine tail _ _ ⟨z1, stepsF steps, rfl, s13, hz1, ?_⟩
          rw [hC, hn]
          cases e : stepsF steps with
          | none => rw [e] at hn; cases hn
          | _ => rfl
        | true =>
          refine iteT ?_
          refine ⟨_, rfl, x4, moves, rfl, dp_same s13 _ _ d4, fun z2 H4 s4 hz2 => ?_⟩
          refine tail _ _ ⟨z2, movesF moves, rfl, s13.trans s4, hz2, ?_⟩
          rw [hC]
          have en : stepsF steps = .none := by
            cases e : stepsF steps with
            | none => rfl
            | _ => rw [e] at hn; cases hn
          rw [en]
          cases movesF moves <;> rfl
      · have e5 : decide (V.int (xs.length : Int) = V.int 5) = false := by
          rw [hl]
          refine decide_eq_false fun z => h5 ?_
          have := V.int.inj z
          omega
        rw [e5]
        refine iteT ?_
        exact bad (fun a b c e f z => by cases z; exact h5 rfl) H (Same.refl H)
end
end My

/-! the program's own errors: made, raised, caught, told -/
namespace My
open PySem PySem.Spec PyProof.Rows L2
theorem made1 {H : Hp} {a d : Addr} {o1 o2 o3 o5 : HO} (h : H a = none) (n : d ≠ a) : upd (del (upd (upd (upd H a o1) d o2) a o3) a) d o5 = upd H d o5 := by
  funext b
  show (if b = d then some o5 else if b = a then none else if b = a then some o3 else if b = d then some o2 else if b = a then some o1 else H b) = if b = d then some o5 else H b
  by_cases e : b = d
  · rw [if_pos e, if_pos e]
  · simp only [if_neg e]
    by_cases e2 : b = a
    · simp only [if_pos e2]
      rw [e2, h]
    · simp only [if_neg e2]
theorem made2 {H : Hp} {a d : Addr} {o1 o2 o3 o4 o5 : HO} (h : H a = none) (n : d ≠ a) : upd (del (upd (upd (upd (upd H a o1) d o2) a o3) d o4) a) d o5 = upd H d o5 := by
  funext b
  show (if b = d then some o5 else if b = a then none else if b = d then some o4 else if b = a then some o3 else if b = d then some o2 else if b = a then some o1 else H b) = if b = d then some o5 else H b
  by_cases e : b = d
  · rw [if_pos e, if_pos e]
  · rw [if_neg e, if_neg e]
    by_cases e2 : b = a
    · rw [if_pos e2, e2, h, if_neg (fun z => e (e2.trans z))]
    · rw [if_neg e2, if_neg e, if_neg e2, if_neg e, if_neg e2]
/-- refusals: without fields; with one; with two -/
def NilE (C : Addr) (H : Hp) (E : XK) : Prop := ∀ H', Same H H' → E (.ref C) none H'
theorem NilE.same {C : Addr} {H H' : Hp} {E : XK} (s : Same H H') (h : NilE C H E) : NilE C H' E := fun H'' s' => h H'' (s.trans s')
def OneE (C : Addr) (f : Str) (H : Hp) (E : XK) (x : V) : Prop := ∀ d H', Same H H' → H' d = some (.xd [(f, x)]) → E (.ref C) (some d) H'
theorem OneE.same {C : Addr} {f : Str} {H H' : Hp} {E : XK} {x : V} (s : Same H H') (h : OneE C f H E x) : OneE C f H' E x := fun d H'' s' hd => h d H'' (s.trans s') hd
theorem oneE_mk {C : Addr} {f : Str} {H : Hp} {E : XK} {x : V} (h : OneE C f H E x) {a d : Addr} {o1 o2 o3 : HO} (ha : H a = none) (hd : upd H a o1 d = none) (n : d ≠ a) :
    E (.ref C) (some d) (upd (del (upd (upd (upd H a o1) d o2) a o3) a) d (.xd [(f, x)])) := by
  rw [made1 ha n]
  have h0 : H d = none := (upd_ne n).symm.trans hd
  exact h d _ (same_new h0) upd_same
def TwoE (C : Addr) (f g : Str) (H : Hp) (E : XK) (x y : V) : Prop := ∀ d H', Same H H' → H' d = some (.xd [(g, y), (f, x)]) → E (.ref C) (some d) H'
theorem TwoE.same {C : Addr} {f g : Str} {H H' : Hp} {E : XK} {x y : V} (s : Same H H') (h : TwoE C f g H E x y) : TwoE C f g H' E x y := fun d H'' s' hd => h d H'' (s.trans s') hd
theorem twoE_mk {C : Addr} {f g : Str} {H : Hp} {E : XK} {x y : V} (h : TwoE C f g H E x y) {a d : Addr} {o1 o2 o3 o4 : HO} (ha : H a = none) (hd : upd H a o1 d = none) (n : d ≠ a) :
    E (.ref C) (some d) (upd (del (upd (upd (upd (upd H a o1) d o2) a o3) d o4) a) d (.xd [(g, y), (f, x)])) := by
  rw [made2 ha n]
  have h0 : H d = none := (upd_ne n).symm.trans hd
  exact h d _ (same_new h0) upd_same
def sp_init0 (K : PySem.W.Frag) (C : Addr) : Sp := fun vs H Q _ => ∃ (a : Addr) (t : Str), vs = [.ref a, .str t] ∧ H a = some (exo a C none) ∧ Q .non H
def sp_init1 (C : Addr) (f : Str) : Sp := fun vs H Q _ => ∃ (a : Addr) (x : V), vs = [.ref a, x] ∧ H a = some (exo a C none) ∧
  ∀ dx, H dx = none → dx ≠ a → Q .non (upd (upd H dx (exd dx [(f, x)])) a (exo a C (some dx)))
def sp_init2 (C : Addr) (f1 f2 : Str) : Sp := fun vs H Q _ => ∃ (a : Addr) (x y : V), vs = [.ref a, x, y] ∧ H a = some (exo a C none) ∧
  ∀ dx, H dx = none → dx ≠ a → Q .non (upd (upd (upd H dx (exd dx [(f1, x)])) a (exo a C (some dx))) dx (exd dx [(f2, y), (f1, x)]))
section
variable {P : Program} {w : World} {K : PySem.W.Frag} {mg : Str → Option Value} {base : Heap}
theorem oki_OutOfPlace (T : Txt K mg) : FnOk P w K mg base CX0 2 T.fi_OutOfPlace T.di_OutOfPlace ["self", "text"] (sp_init0 K T.C_OutOfPlace) := by
  refine T.Fi_OutOfPlace.ok sci_OutOfPlace (fun vs H Q E h => ?_) (fun cdv A outer s H vs Q E hr h => ?_)
  · obtain ⟨a, t, rfl, _⟩ := h
    rfl
  · obtain ⟨a, t, rfl, ha, q⟩ := h
    refine ⟨_, pss_one (ps_expr (pe_veinit (by rfl) T.zV T.vV (pa_cons (pv 0) (pa_cons (pv 1) pa_nil)))), ?_⟩
    exact ⟨_, rfl, _, rfl, a, T.C_OutOfPlace, [.str t], rfl, by show 1 ≤ 1000; decide, T.o_OutOfPlace, ha, q⟩
theorem oki_BadCoder (T : Txt K mg) : FnOk P w K mg base CX0 2 T.fi_BadCoder T.di_BadCoder ["self", "part", "number"] (sp_init2 T.C_BadCoder "part" "number") := by
  refine T.Fi_BadCoder.ok sci_BadCoder (fun vs H Q E h => ?_) (fun cdv A outer s H vs Q E hr h => ?_)
  · obtain ⟨a, x, y, rfl, _⟩ := h
    rfl
  · obtain ⟨a, x, y, rfl, ha, q⟩ := h
    refine ⟨_, pss_cons (ps_ost (pv 0) (pv 1)) (pss_one (ps_ost (pv 0) (pv 2))), ?_⟩
    refine ⟨_, rfl, _, rfl, a, T.C_BadCoder, rfl, T.o_BadCoder, T.n_BadCoder_part, .inl ⟨ha, fun dx hdx ne => ?_⟩⟩
    refine ⟨_, rfl, _, rfl, a, T.C_BadCoder, rfl, T.o_BadCoder, T.n_BadCoder_number, .inr ⟨dx, _, upd_same, (upd_ne ne).trans upd_same, by show 1 ≤ 900; decide, q dx hdx ne⟩⟩
theorem oki_BadPaper (T : Txt K mg) : FnOk P w K mg base CX0 2 T.fi_BadPaper T.di_BadPaper ["self", "part", "number"] (sp_init2 T.C_BadPaper "part" "number") := by
  refine T.Fi_BadPaper.ok sci_BadPaper (fun vs H Q E h => ?_) (fun cdv A outer s H vs Q E hr h => ?_)
  · obtain ⟨a, x, y, rfl, _⟩ := h
    rfl
  · obtain ⟨a, x, y, rfl, ha, q⟩ := h
    refine ⟨_, pss_cons (ps_ost (pv 0) (pv 1)) (pss_one (ps_ost (pv 0) (pv 2))), ?_⟩
    refine ⟨_, rfl, _, rfl, a, T.C_BadPaper, rfl, T.o_BadPaper, T.n_BadPaper_part, .inl ⟨ha, fun dx hdx ne => ?_⟩⟩
    refine ⟨_, rfl, _, rfl, a, T.C_BadPaper, rfl, T.o_BadPaper, T.n_BadPaper_number, .inr ⟨dx, _, upd_same, (upd_ne ne).trans upd_same, by show 1 ≤ 900; decide, q dx hdx ne⟩⟩
theorem oki_TooGreat (T : Txt K mg) : FnOk P w K mg base CX0 2 T.fi_TooGreat T.di_TooGreat ["self", "most"] (sp_init1 T.C_TooGreat "most") := by
  refine T.Fi_TooGreat.ok sci_TooGreat (fun vs H Q E h => ?_) (fun cdv A outer s H vs Q E hr h => ?_)
  · obtain ⟨a, x, rfl, _⟩ := h
    rfl
  · obtain ⟨a, x, rfl, ha, q⟩ := h
    refine ⟨_, pss_one (ps_put (pv 0) (pv 1)), ?_⟩
    exact ⟨_, rfl, _, rfl, a, T.C_TooGreat, rfl, T.o_TooGreat, T.n_TooGreat_most, ha, q⟩
end
end My

namespace My
open PySem PySem.Spec PyProof.Rows L2
/-! ### coders, states, the move of a code: the mathematics -/
structure Cod where
  low : Int
  high : Int
  steps : List Int
  moves : List (Int × Int)
  fade : Int
def pairI (p : Int × Int) : PyData := .tuple [.int p.1, .int p.2]
def Cod.dat (C : Cod) : PyData := .tuple [.int C.low, .int C.high, .tuple (C.steps.map .int), .tuple (C.moves.map pairI), .int C.fade]
structure Cod.Ok (C : Cod) : Prop where
  l1 : -32768 ≤ C.low
  l2 : C.low ≤ 0
  h1 : 0 ≤ C.high
  h2 : C.high ≤ 32767
  s1 : 1 ≤ C.steps.length
  s2 : C.steps.length ≤ 16
  s3 : ∀ s ∈ C.steps, 1 ≤ s ∧ s ≤ 9999
  m1 : 2 ≤ C.moves.length
  m2 : C.moves.length ≤ 16
  m3 : ∀ p ∈ C.moves, (-32 ≤ p.1 ∧ p.1 ≤ 32) ∧ (-15 ≤ p.2 ∧ p.2 ≤ 15)
  f1 : C.fade = 0 ∨ (2 ≤ C.fade ∧ C.fade ≤ 99)
def rnd (n d : Int) : Int := if n < 0 then -((-n).fdiv d) else n.fdiv d
def lim (n lo hi : Int) : Int := if n < lo then lo else if hi < n then hi else n
def fdd (l f : Int) : Int := if f = 0 then l else l - rnd l f
def Cod.chg (C : Cod) (k p : Nat) : Int := rnd ((C.moves.getD k (0, 0)).1 * C.steps.getD p 0) 8
def Cod.led (C : Cod) (s : Int × Int) (k : Nat) : Int × Int :=
  (lim (fdd s.1 C.fade + C.chg k s.2.toNat) C.low C.high, lim (s.2 + (C.moves.getD k (0, 0)).2) 0 ((C.steps.length : Int) - 1))
def Cod.St (C : Cod) (s : Int × Int) : Prop := C.low ≤ s.1 ∧ s.1 ≤ C.high ∧ 0 ≤ s.2 ∧ s.2 < C.steps.length
theorem lim_in {n lo hi : Int} (h : lo ≤ hi) : lo ≤ lim n lo hi ∧ lim n lo hi ≤ hi := by
  unfold lim
  split
  · omega
  · split <;> omega
theorem Cod.led_St {C : Cod} (O : C.Ok) (s : Int × Int) (k : Nat) : C.St (C.led s k) := by
  have h1 := lim_in (n := fdd s.1 C.fade + C.chg k s.2.toNat) (lo := C.low) (hi := C.high) (by have := O.l2; have := O.h1; omega)
  have h2 := lim_in (n := s.2 + (C.moves.getD k (0, 0)).2) (lo := 0) (hi := (C.steps.length : Int) - 1) (by have := O.s1; omega)
  exact ⟨h1.1, h1.2, h2.1, by show lim _ _ _ < _; omega⟩
theorem badAt_none {p : PyData → Bool} : ∀ {ds : List PyData} {i : Nat}, (∀ d ∈ ds, p d = true) → badAt p i ds = none
  | [], _, _ => rfl
  | d :: r, i, h => by
    show (if p d = true then badAt p (i + 1) r else some i) = none
    rw [if_pos (h d List.mem_cons_self)]
    exact badAt_none fun e he => h e (List.mem_cons_of_mem _ he)
theorem btw_in {n lo hi : Int} (h1 : lo ≤ n) (h2 : n ≤ hi) : btw (.int n) lo hi = true := by
  show (decide _ && decide _) = true
  rw [decide_eq_true h1, decide_eq_true h2]
  rfl
theorem tup_in {ds : List PyData} {lo hi : Int} (h1 : lo ≤ (ds.length : Int)) (h2 : (ds.length : Int) ≤ hi) : tupD (.tuple ds) lo hi = true := by
  show (decide _ && decide _) = true
  rw [decide_eq_true h1, decide_eq_true h2]
  rfl
theorem Cod.Ok.first {C : Cod} (O : C.Ok) : firstF C.dat = .none := by
  have e1 : stepsF (.tuple (C.steps.map .int)) = .none := by
    show (if _ then _ else _) = _
    rw [if_pos (tup_in (by rw [List.length_map]; have := O.s1; omega) (by rw [List.length_map]; have := O.s2; omega)), badAt_none]
    · rfl
    · intro d hd
      obtain ⟨s, hs, rfl⟩ := List.mem_map.mp hd
      exact btw_in (O.s3 s hs).1 (O.s3 s hs).2
  have e2 : movesF (.tuple (C.moves.map pairI)) = .none := by
    show (if _ then _ else _) = _
    rw [if_pos (tup_in (by rw [List.length_map]; have := O.m1; omega) (by rw [List.length_map]; have := O.m2; omega)), badAt_none]
    · rfl
    · intro d hd
      obtain ⟨p, hp, rfl⟩ := List.mem_map.mp hd
      obtain ⟨⟨a1, a2⟩, b1, b2⟩ := O.m3 p hp
      show (btw (.int p.1) (-32) 32 && btw (.int p.2) (-15) 15) = true
      rw [btw_in a1 a2, btw_in b1 b2]
      rfl
  have e3 : fadeD (.int C.fade) = true := by
    unfold fadeD
    rcases O.f1 with h | ⟨h1, h2⟩
    · rw [btw_in (by omega) (by omega)]
      rfl
    · rw [btw_in h1 h2, Bool.or_true]
  show codF (.int C.low) (.int C.high) (.tuple (C.steps.map .int)) (.tuple (C.moves.map pairI)) (.int C.fade) = .none
  unfold codF
  rw [if_pos (btw_in O.l1 O.l2), if_pos (btw_in O.h1 O.h2), e1, e2, if_pos e3]
theorem dpAll_ints {K : PySem.W.Frag} {H : Hp} : ∀ {ns : List Int} {xs : List V}, DpAll K H xs (ns.map .int) → xs = ns.map V.int
  | [], _, h => by cases h; rfl
  | n :: r, _, h => by
    cases h with
    | cons a b =>
      cases a
      rw [dpAll_ints b]
      rfl
theorem dp_int {K : PySem.W.Frag} {H : Hp} {v : V} {n : Int} (h : Dp K H v (.int n)) : v = .int n := by
  cases h
  rfl
theorem dpAll2 {K : PySem.W.Frag} {H : Hp} {xs : List V} {a b : PyData} (h : DpAll K H xs [a, b]) : ∃ x1 x2, xs = [x1, x2] ∧ Dp K H x1 a ∧ Dp K H x2 b := by
  cases h with
  | cons h1 h => cases h with
    | cons h2 h => cases h with
      | nil => exact ⟨_, _, rfl, h1, h2⟩
theorem dp_pair {K : PySem.W.Frag} {H : Hp} {v : V} {p : Int × Int} (h : Dp K H v (pairI p)) : ∃ a, v = .ref a ∧ SqT K H a [.int p.1, .int p.2] := by
  obtain ⟨a, xs, rfl, ha, hd⟩ := dp_tup h
  obtain ⟨x1, x2, rfl, h1, h2⟩ := dpAll2 hd
  rw [dp_int h1, dp_int h2] at ha
  exact ⟨a, rfl, ha⟩
/-- a coder's parts -/
theorem cod_at {K : PySem.W.Frag} {H : Hp} {c : V} {C : Cod} (h : Dp K H c C.dat) : ∃ (a s m : Addr) (ms : List V), c = .ref a ∧ SqT K H a [.int C.low, .int C.high, .ref s, .ref m, .int C.fade] ∧
    SqT K H s (C.steps.map V.int) ∧ SqT K H m ms ∧ DpAll K H ms (C.moves.map pairI) := by
  obtain ⟨a, xs, rfl, ha, hd⟩ := dp_tup h
  obtain ⟨x1, x2, x3, x4, x5, rfl, h1, h2, h3, h4, h5⟩ := dpAll5 hd
  obtain ⟨s, ys, rfl, hs, hsd⟩ := dp_tup h3
  obtain ⟨m, ms, rfl, hm, hmd⟩ := dp_tup h4
  rw [dp_int h1, dp_int h2, dp_int h5] at ha
  rw [dpAll_ints hsd] at hs
  exact ⟨a, s, m, ms, rfl, ha, hs, hm, hmd⟩
theorem move_at {K : PySem.W.Frag} {H : Hp} {C : Cod} {ms : List V} (h : DpAll K H ms (C.moves.map pairI)) {k : Nat} (hk : k < C.moves.length) :
    ∃ q, ms[k]? = some (.ref q) ∧ SqT K H q [.int (C.moves.getD k (0, 0)).1, .int (C.moves.getD k (0, 0)).2] := by
  have e : (C.moves.map pairI)[k]? = some (pairI (C.moves.getD k (0, 0))) := by
    rw [List.getElem?_map, List.getElem?_eq_getElem hk, List.getD_eq_getElem?_getD, List.getElem?_eq_getElem hk]
    rfl
  obtain ⟨x, hx, hd⟩ := dpAll_get' h e
  obtain ⟨q, rfl, hq⟩ := dp_pair hd
  exact ⟨q, hx, hq⟩
theorem step_at {C : Cod} {p : Nat} (hp : p < C.steps.length) : (C.steps.map V.int)[p]? = some (.int (C.steps.getD p 0)) := by
  rw [List.getElem?_map, List.getElem?_eq_getElem hp, List.getD_eq_getElem?_getD, List.getElem?_eq_getElem hp]
  rfl
theorem btw_out {d : PyData} {lo hi : Int} (h : btw d lo hi = true) : ∃ n, d = .int n ∧ lo ≤ n ∧ n ≤ hi := by
  cases d with
  | int n =>
    obtain ⟨a, b⟩ := Bool.and_eq_true_iff.mp (show (decide (lo ≤ n) && decide (n ≤ hi)) = true from h)
    exact ⟨n, rfl, of_decide_eq_true a, of_decide_eq_true b⟩
  | _ => cases h
theorem badAt_all {p : PyData → Bool} : ∀ {ds : List PyData} {i : Nat}, badAt p i ds = none → ∀ d ∈ ds, p d = true
  | [], _, _, _, hd => by cases hd
  | d :: r, i, h, e, he => by
    have h : (if p d = true then badAt p (i + 1) r else some i) = none := h
    by_cases q : p d = true
    · rw [if_pos q] at h
      rcases List.mem_cons.mp he with z | z
      · rw [z]; exact q
      · exact badAt_all h e z
    · rw [if_neg q] at h
      cases h
theorem badAt_lt {p : PyData → Bool} : ∀ {ds : List PyData} {i k : Nat}, badAt p i ds = some k → k < i + ds.length
  | [], _, _, h => by cases h
  | d :: r, i, k, h => by
    have h : (if p d = true then badAt p (i + 1) r else some i) = some k := h
    rw [List.length_cons]
    by_cases e : p d = true
    · rw [if_pos e] at h
      have := badAt_lt h
      omega
    · rw [if_neg e] at h
      cases h
      omega
/-- a fault's form: nothing, or a short word and nothing or a small number -/
def Flt (e : PyData) : Prop := e = .none ∨ ∃ s : Str, s ∈ (["form", "low", "high", "steps", "moves", "fade"] : List Str) ∧ (e = .tuple [.str s, .none] ∨ ∃ k : Nat, k ≤ 16 ∧ e = .tuple [.str s, .int (k : Int)])
theorem rowF_flt {s : Str} {lo hi : Int} {p : PyData → Bool} (hs : s ∈ (["form", "low", "high", "steps", "moves", "fade"] : List Str)) (hh : hi ≤ 16) (d : PyData) : Flt (rowF s lo hi p d) := by
  cases d with
  | tuple ds =>
    show Flt (if tupD (.tuple ds) lo hi = true then faultD s (badAt p 0 ds) else .tuple [.str s, .none])
    by_cases h : tupD (.tuple ds) lo hi = true
    · rw [if_pos h]
      cases e : badAt p 0 ds with
      | none => exact .inl rfl
      | some k =>
        have h1 := badAt_lt e
        have h2 := of_decide_eq_true (Bool.and_eq_true_iff.mp (show (decide (lo ≤ (ds.length : Int)) && decide ((ds.length : Int) ≤ hi)) = true from h)).2
        exact .inr ⟨s, hs, .inr ⟨k, by omega, rfl⟩⟩
    · rw [if_neg h]
      exact .inr ⟨s, hs, .inl rfl⟩
  | _ => exact .inr ⟨s, hs, .inl rfl⟩
theorem stepsF_flt (d : PyData) : Flt (stepsF d) := rowF_flt (by decide +kernel) (by decide) d
theorem movesF_flt (d : PyData) : Flt (movesF d) := rowF_flt (by decide +kernel) (by decide) d
theorem codF_flt (a b c d e : PyData) : Flt (codF a b c d e) := by
  unfold codF
  by_cases h1 : btw a (-32768) 0 = true
  · rw [if_pos h1]
    by_cases h2 : btw b 0 32767 = true
    · rw [if_pos h2]
      rcases stepsF_flt c with z | ⟨s, hs, z | ⟨k, hk, z⟩⟩
      · rw [z]
        rcases movesF_flt d with y | ⟨s, hs, y | ⟨k, hk, y⟩⟩
        · rw [y]
          dsimp only
          by_cases h3 : fadeD e = true
          · rw [if_pos h3]; exact .inl rfl
          · rw [if_neg h3]; exact .inr ⟨"fade", by decide +kernel, .inl rfl⟩
        · rw [y]; exact .inr ⟨s, hs, .inl rfl⟩
        · rw [y]; exact .inr ⟨s, hs, .inr ⟨k, hk, rfl⟩⟩
      · rw [z]; exact .inr ⟨s, hs, .inl rfl⟩
      · rw [z]; exact .inr ⟨s, hs, .inr ⟨k, hk, rfl⟩⟩
    · rw [if_neg h2]; exact .inr ⟨"high", by decide +kernel, .inl rfl⟩
  · rw [if_neg h1]; exact .inr ⟨"low", by decide +kernel, .inl rfl⟩
theorem firstF_flt (d : PyData) : Flt (firstF d) := by
  unfold firstF
  split
  · exact codF_flt ..
  · exact .inr ⟨"form", by decide +kernel, .inl rfl⟩
theorem rowF_none {s : Str} {lo hi : Int} {p : PyData → Bool} {d : PyData} (h : rowF s lo hi p d = .none) : ∃ ds, d = .tuple ds ∧ lo ≤ (ds.length : Int) ∧ (ds.length : Int) ≤ hi ∧ ∀ e ∈ ds, p e = true := by
  cases d with
  | tuple ds =>
    have h : (if tupD (.tuple ds) lo hi = true then faultD s (badAt p 0 ds) else .tuple [.str s, .none]) = .none := h
    by_cases q : tupD (.tuple ds) lo hi = true
    · rw [if_pos q] at h
      obtain ⟨a, b⟩ := Bool.and_eq_true_iff.mp (show (decide (lo ≤ (ds.length : Int)) && decide ((ds.length : Int) ≤ hi)) = true from q)
      cases e : badAt p 0 ds with
      | none => exact ⟨ds, rfl, of_decide_eq_true a, of_decide_eq_true b, badAt_all e⟩
      | some k => rw [e] at h; cases h
    · rw [if_neg q] at h
      cases h
  | _ => cases h
theorem ints_of {lo hi : Int} : ∀ {ds : List PyData}, (∀ e ∈ ds, btw e lo hi = true) → ∃ ns : List Int, ds = ns.map .int ∧ ∀ n ∈ ns, lo ≤ n ∧ n ≤ hi
  | [], _ => ⟨[], rfl, fun _ h => by cases h⟩
  | d :: r, h => by
    obtain ⟨n, rfl, h1, h2⟩ := btw_out (h d List.mem_cons_self)
    obtain ⟨ns, rfl, hn⟩ := ints_of fun e he => h e (List.mem_cons_of_mem _ he)
    refine ⟨n :: ns, rfl, fun k hk => ?_⟩
    rcases List.mem_cons.mp hk with z | z
    · rw [z]; exact ⟨h1, h2⟩
    · exact hn k z
theorem pairs_of : ∀ {ds : List PyData}, (∀ e ∈ ds, moveD e = true) → ∃ ps : List (Int × Int), ds = ps.map pairI ∧ ∀ p ∈ ps, (-32 ≤ p.1 ∧ p.1 ≤ 32) ∧ (-15 ≤ p.2 ∧ p.2 ≤ 15)
  | [], _ => ⟨[], rfl, fun _ h => by cases h⟩
  | d :: r, h => by
    obtain ⟨ps, rfl, hn⟩ := pairs_of fun e he => h e (List.mem_cons_of_mem _ he)
    have hd := h d List.mem_cons_self
    obtain ⟨a, b, rfl, h1, h2⟩ : ∃ a b, d = .tuple [a, b] ∧ btw a (-32) 32 = true ∧ btw b (-15) 15 = true := by
      unfold moveD at hd
      split at hd
      · exact ⟨_, _, rfl, Bool.and_eq_true_iff.mp hd⟩
      · cases hd
    obtain ⟨x, rfl, x1, x2⟩ := btw_out h1
    obtain ⟨y, rfl, y1, y2⟩ := btw_out h2
    refine ⟨(x, y) :: ps, rfl, fun k hk => ?_⟩
    rcases List.mem_cons.mp hk with z | z
    · rw [z]; exact ⟨⟨x1, x2⟩, y1, y2⟩
    · exact hn k z
/-- what has no fault is a coder -/
theorem firstF_cod {d : PyData} (h : firstF d = .none) : ∃ C : Cod, C.Ok ∧ d = C.dat := by
  unfold firstF at h
  split at h
  · rename_i a b c e f
    unfold codF at h
    by_cases h1 : btw a (-32768) 0 = true
    · rw [if_pos h1] at h
      by_cases h2 : btw b 0 32767 = true
      · rw [if_pos h2] at h
        cases hs : stepsF c with
        | none =>
          rw [hs] at h
          dsimp only at h
          cases hm : movesF e with
          | none =>
            rw [hm] at h
            dsimp only at h
            by_cases h3 : fadeD f = true
            · obtain ⟨low, rfl, a1, a2⟩ := btw_out h1
              obtain ⟨high, rfl, b1, b2⟩ := btw_out h2
              obtain ⟨ds, rfl, d1, d2, d3⟩ := rowF_none hs
              obtain ⟨ns, rfl, hn⟩ := ints_of d3
              obtain ⟨es, rfl, e1, e2, e3⟩ := rowF_none hm
              obtain ⟨ps, rfl, hp⟩ := pairs_of e3
              rw [List.length_map] at d1 d2 e1 e2
              obtain ⟨n, rfl, f1⟩ : ∃ n, f = .int n ∧ (n = 0 ∨ (2 ≤ n ∧ n ≤ 99)) := by
                unfold fadeD at h3
                rcases Bool.or_eq_true_iff.mp h3 with z | z
                · obtain ⟨n, rfl, z1, z2⟩ := btw_out z
                  exact ⟨n, rfl, .inl (by omega)⟩
                · obtain ⟨n, rfl, z1, z2⟩ := btw_out z
                  exact ⟨n, rfl, .inr ⟨z1, z2⟩⟩
              exact ⟨⟨low, high, ns, ps, n⟩, ⟨a1, a2, b1, b2, by show 1 ≤ ns.length; omega, by show ns.length ≤ 16; omega, hn, by show 2 ≤ ps.length; omega, by show ps.length ≤ 16; omega, hp, f1⟩, rfl⟩
            · rw [if_neg h3] at h
              cases h
          | _ => rw [hm] at h; cases h
        | _ => rw [hs] at h; cases h
      · rw [if_neg h2] at h
        cases h
    · rw [if_neg h1] at h
      cases h
  · cases h
section
variable {P : Program} {w : World} {K : PySem.W.Frag} {mg : Str → Option Value} {base : Heap}
/-- the two fields of a fault -/
inductive FltV : PyData → V → V → Prop
  | non (s : Str) : FltV (.tuple [.str s, .none]) (.str s) .non
  | int (s : Str) (k : Int) : FltV (.tuple [.str s, .int k]) (.str s) (.int k)
def sp_need_coder (K : PySem.W.Frag) (B : Addr) : Sp := fun vs H Q E => ∃ (x : V) (d : PyData), vs = [x] ∧ Dp K H x d ∧ (firstF d = .none → ∀ H', Same H H' → Q x H') ∧
  (∀ y z, FltV (firstF d) y z → TwoE B "part" "number" H E y z)
theorem ok_need_coder (T : Txt K mg) : FnOk P w K mg base (L2.CX P w) 6 T.f_need_coder T.d_need_coder ["thing"] (sp_need_coder K T.C_BadCoder) := by
  refine T.F_need_coder.okX sc_need_coder (fun vs H Q E h => ?_) (fun cdv A outer s H vs Q E hr h => ?_)
  · obtain ⟨x, d, rfl, _⟩ := h
    rfl
  · obtain ⟨x, d, rfl, hd, q1, q2⟩ := h
    refine ⟨_,
(pss_cons (ps_set (i := 1) sc_need_coder.nd rfl (Or.inl rfl) (pe_call (ok_first_fault T) (hr.mono (by decide)) (by rfl) T.g__first_fault T.F__first_fault.kp T.b__first_fault .nil pass0 (pa_cons (pv 0) pa_nil)))
      (pss_cons (ps_if (pt_cmpR op_notN (pv 1) pe_non (nomark _)) (pss_one (ps_raise rfl (takes_of rfl rfl rfl rfl) (pmk_oex T.o_BadCoder T.i_BadCoder T.t_BadCoder (oki_BadCoder T) (hr.mono (by decide)) T.bi_BadCoder .nil pass0 (by rfl) T.g_BadCoder (pa_cons (pe_ix ix_tup (pv 1) pe_int (fun _ _ => rfl)) (pa_cons (pe_ix ix_tup (pv 1) pe_int (fun _ _ => rfl)) pa_nil))))) pss_nil)
      (pss_one (ps_ret (pv 0)))))
, ?_⟩
    refine ⟨x, rfl, x, d, rfl, hd, fun z H1 s1 hz => ?_⟩
    refine ⟨_, rfl, rfl, _, rfl, ?_⟩
    show if (!decide (z = V.non)) = true then _ else _
    rw [dp_isN hz]
    rcases firstF_flt d with e | ⟨s, _, e | ⟨k, _, e⟩⟩
    · rw [e]
      refine iteF ?_
      exact ⟨x, rfl, q1 e H1 s1⟩
    · rw [e] at hz q2 ⊢
      refine iteT ?_
      obtain ⟨a, xs, rfl, ha, hds⟩ := dp_tup hz
      obtain ⟨x1, x2, rfl, h1, h2⟩ := dpAll2 hds
      cases h1
      cases h2
      exact ⟨_, rfl, a, _, 0, _, rfl, rfl, ha, atI_nat (j := 0) rfl, _, rfl, a, _, 1, _, rfl, rfl, ha, atI_nat (j := 1) rfl, by show 2 ≤ 1000; decide, fun b hb => ⟨b, _, _, rfl, upd_same, fun dd hd n =>
        ⟨rfl, dd, _, (upd_ne n.symm).trans upd_same, upd_same, (upd_ne n).symm.trans hd, twoE_mk ((q2 _ _ (.non s)).same s1) hb hd n⟩⟩⟩
    · rw [e] at hz q2 ⊢
      refine iteT ?_
      obtain ⟨a, xs, rfl, ha, hds⟩ := dp_tup hz
      obtain ⟨x1, x2, rfl, h1, h2⟩ := dpAll2 hds
      cases h1
      cases h2
      exact ⟨_, rfl, a, _, 0, _, rfl, rfl, ha, atI_nat (j := 0) rfl, _, rfl, a, _, 1, _, rfl, rfl, ha, atI_nat (j := 1) rfl, by show 2 ≤ 1000; decide, fun b hb => ⟨b, _, _, rfl, upd_same, fun dd hd n =>
        ⟨rfl, dd, _, (upd_ne n.symm).trans upd_same, upd_same, (upd_ne n).symm.trans hd, twoE_mk ((q2 _ _ (.int s _)).same s1) hb hd n⟩⟩⟩
def sp_is_code (K : PySem.W.Frag) : Sp := fun vs H Q _ => ∃ (c x : V) (C : Cod) (d : PyData), vs = [c, x] ∧ Dp K H c C.dat ∧ Dp K H x d ∧ ∀ H', Same H H' → Q (.bl (btw d 0 ((C.moves.length : Int) - 1))) H'
theorem ok_is_code (T : Txt K mg) : FnOk P w K mg base CX0 3 T.f_is_code T.d_is_code ["coder", "thing"] (sp_is_code K) := by
  refine T.F_is_code.ok sc_is_code (fun vs H Q E h => ?_) (fun cdv A outer s H vs Q E hr h => ?_)
  · obtain ⟨c, x, C, d, rfl, _⟩ := h
    rfl
  · obtain ⟨c, x, C, d, rfl, hc, hd, q⟩ := h
    obtain ⟨a, s, m, ms, rfl, ha, hs, hm, hmd⟩ := cod_at hc
    refine ⟨_,
(pss_one (ps_ret (pe_call (ok_is_between T) (hr.mono (by decide)) (by rfl) T.g_is_between T.F_is_between.kp T.b_is_between .nil pass0 (pa_cons (pv 1) (pa_cons pe_int (pa_cons (pe_op op_sub (pe_callB (call_len_seq) (by rfl) T.z_len (by decide +kernel) (pa_cons (pe_ix ix_tup (pv 0) pe_int (fun _ _ => rfl)) pa_nil)) pe_int) pa_nil))))))
, ?_⟩
    refine ⟨x, rfl, _, rfl, a, _, 3, .ref m, rfl, rfl, ha, atI_nat (j := 3) rfl, m, ms, rfl, .inr hm, _, _, rfl, rfl, ?_⟩
    have e : (ms.length : Int) - 1 = (C.moves.length : Int) - 1 := by rw [dpAll_len hmd, List.length_map]
    refine ⟨x, d, 0, _, rfl, hd, fun H1 s1 => ?_⟩
    show Q (.bl (btw d 0 ((ms.length : Int) - 1))) H1
    rw [e]
    exact q H1 s1
def sp_is_place (K : PySem.W.Frag) : Sp := fun vs H Q _ => ∃ (c x : V) (C : Cod) (d : PyData), vs = [c, x] ∧ Dp K H c C.dat ∧ Dp K H x d ∧ ∀ H', Same H H' → Q (.bl (btw d 0 ((C.steps.length : Int) - 1))) H'
theorem ok_is_place (T : Txt K mg) : FnOk P w K mg base CX0 3 T.f_is_place T.d_is_place ["coder", "thing"] (sp_is_place K) := by
  refine T.F_is_place.ok sc_is_place (fun vs H Q E h => ?_) (fun cdv A outer s H vs Q E hr h => ?_)
  · obtain ⟨c, x, C, d, rfl, _⟩ := h
    rfl
  · obtain ⟨c, x, C, d, rfl, hc, hd, q⟩ := h
    obtain ⟨a, s, m, ms, rfl, ha, hs, hm, hmd⟩ := cod_at hc
    refine ⟨_,
(pss_one (ps_ret (pe_call (ok_is_between T) (hr.mono (by decide)) (by rfl) T.g_is_between T.F_is_between.kp T.b_is_between .nil pass0 (pa_cons (pv 1) (pa_cons pe_int (pa_cons (pe_op op_sub (pe_callB (call_len_seq) (by rfl) T.z_len (by decide +kernel) (pa_cons (pe_ix ix_tup (pv 0) pe_int (fun _ _ => rfl)) pa_nil)) pe_int) pa_nil))))))
, ?_⟩
    refine ⟨x, rfl, _, rfl, a, _, 2, .ref s, rfl, rfl, ha, atI_nat (j := 2) rfl, s, _, rfl, .inr hs, _, _, rfl, rfl, ?_⟩
    refine ⟨x, d, 0, _, rfl, hd, fun H1 s1 => ?_⟩
    show Q (.bl (btw d 0 (((C.steps.map V.int).length : Int) - 1))) H1
    rw [List.length_map]
    exact q H1 s1
def stateD (C : Cod) : PyData → Bool
  | .tuple [a, b] => btw a C.low C.high && btw b 0 ((C.steps.length : Int) - 1)
  | _ => false
theorem pairD_two {d : PyData} (h : pairD d = true) : ∃ a b, d = .tuple [a, b] := by
  cases d with
  | tuple ds =>
    match ds, h with
    | [a, b], _ => exact ⟨a, b, rfl⟩
    | [], hp => cases hp
    | [a], hp => cases hp
    | a :: b :: c :: r, hp =>
      have := of_decide_eq_true (show decide (((a :: b :: c :: r).length : Int) = 2) = true from hp)
      simp at this
      omega
  | _ => cases h
def sp_is_state (K : PySem.W.Frag) : Sp := fun vs H Q _ => ∃ (c x : V) (C : Cod) (d : PyData), vs = [c, x] ∧ Dp K H c C.dat ∧ Dp K H x d ∧ ∀ H', Same H H' → Q (.bl (stateD C d)) H'
theorem ok_is_state (T : Txt K mg) : FnOk P w K mg base CX0 4 T.f_is_state T.d_is_state ["coder", "thing"] (sp_is_state K) := by
  refine T.F_is_state.ok sc_is_state (fun vs H Q E h => ?_) (fun cdv A outer s H vs Q E hr h => ?_)
  · obtain ⟨c, x, C, d, rfl, _⟩ := h
    rfl
  · obtain ⟨c, x, C, d, rfl, hc, hd, q⟩ := h
    have q' : ∀ b H', Same H H' → stateD C d = b → Q (.bl b) H' := fun b H' s e => e ▸ q H' s
    refine ⟨_,
(pss_one (ps_ret (pe_and (pe_call (ok_is_pair T) (hr.mono (by decide)) (by rfl) T.g_is_pair T.F_is_pair.kp T.b_is_pair .nil pass0 (pa_cons (pv 1) pa_nil)) (pe_and (pe_call (ok_is_between T) (hr.mono (by decide)) (by rfl) T.g_is_between T.F_is_between.kp T.b_is_between .nil pass0 (pa_cons (pe_ix ix_tup (pv 1) pe_int (fun _ _ => rfl)) (pa_cons (pe_ix ix_tup (pv 0) pe_int (fun _ _ => rfl)) (pa_cons (pe_ix ix_tup (pv 0) pe_int (fun _ _ => rfl)) pa_nil)))) (pe_one (pe_call (ok_is_place T) (hr.mono (by decide)) (by rfl) T.g_is_place T.F_is_place.kp T.b_is_place .nil pass0 (pa_cons (pv 0) (pa_cons (pe_ix ix_tup (pv 1) pe_int (fun _ _ => rfl)) pa_nil))))))))
, ?_⟩
    refine ⟨x, rfl, x, d, rfl, hd, fun H1 s1 => ⟨_, rfl, ?_⟩⟩
    cases hp : pairD d with
    | false =>
      refine iteF (q' _ _ s1 ?_)
      unfold stateD
      split
      · cases hp
      · rfl
    | true =>
      refine iteT ?_
      obtain ⟨da, db, rfl⟩ := pairD_two hp
      obtain ⟨a, s, m, ms, rfl, ha, hs, hm, hmd⟩ := cod_at (dp_same s1 _ _ hc)
      obtain ⟨t, ts, rfl, ht, htd⟩ := dp_tup (dp_same s1 _ _ hd)
      obtain ⟨x1, x2, rfl, h1, h2⟩ := dpAll2 htd
      refine ⟨_, rfl, t, _, 0, x1, rfl, rfl, ht, atI_nat (j := 0) rfl, _, rfl, a, _, 0, _, rfl, rfl, ha, atI_nat (j := 0) rfl, _, rfl, a, _, 1, _, rfl, rfl, ha, atI_nat (j := 1) rfl,
        x1, da, C.low, C.high, rfl, h1, fun H2 s2 => ⟨_, rfl, ?_⟩⟩
      cases hb : btw da C.low C.high with
      | false => exact iteF (q' _ _ (s1.trans s2) (by show (btw da C.low C.high && btw db 0 ((C.steps.length : Int) - 1)) = false; rw [hb]; rfl))
      | true =>
        refine iteT ?_
        refine ⟨_, rfl, _, rfl, t, _, 1, x2, rfl, rfl, same_tup s2 ht, atI_nat (j := 1) rfl, .ref a, x2, C, db, rfl, dp_same s2 _ _ (dp_same s1 _ _ hc), dp_same s2 _ _ h2, fun H3 s3 => ?_⟩
        exact q' _ _ ((s1.trans s2).trans s3) (by show (btw da C.low C.high && btw db 0 ((C.steps.length : Int) - 1)) = _; rw [hb]; rfl)
end
end My

namespace My
open PySem PySem.Spec PyProof.Rows L2
theorem lim_of {n lo hi : Int} (h : lo ≤ hi) : (if (if hi < n then hi else n) > lo then (if hi < n then hi else n) else lo) = lim n lo hi := by
  unfold lim
  split <;> split <;> split <;> omega
section
variable {P : Program} {w : World} {K : PySem.W.Frag} {mg : Str → Option Value} {base : Heap}
theorem okD0 {x qual : Str} {params : Arguments} {body : List Stmt} {scope : Scope} {dvs : List V} {f : Addr} {fd : FuncData} {N ps : List Str} {k : Nat} {sp : Sp}
    (F : ∃ q : Addr, FunD K x qual params body scope dvs [("state", V.ref q)] f fd) (S : FnScope N ps scope) (len : ∀ vs H Q E, sp vs H Q E → vs.length = ps.length)
    (hbody : ∀ (cdv : Value) (A : Around) (outer : List Env) (s : Shared) (H : Hp) (vs : List V) (Q : VK) (E : XK), Room k (A.deeper (envOfC qual scope s.heap.objs.size f cdv)) → sp vs H Q E →
      ∃ t, PSs (cxOf CX0 P w K mg base N qual scope f cdv A outer s H E).nox body t ∧ t { nx := fun _ H' => Q .non H', rt := Q } (start N vs) H) : FnOk P w K mg base CX0 (k + 1) f fd ps sp := by
  obtain ⟨q, F⟩ := F
  refine F.ok S len fun cdv A outer s H vs Q E hr h => ?_
  obtain ⟨t, ht, hq⟩ := hbody cdv A outer s H vs Q E hr h
  exact ⟨t, ht.nox, hq⟩
def sp_rounded : Sp := fun vs H Q _ => ∃ (n d : Int), vs = [.int n, .int d] ∧ 0 < d ∧ d < 1000 ∧ Q (.int (rnd n d)) H
theorem ok_rounded (T : Txt K mg) : FnOk P w K mg base CX0 2 T.f_rounded T.d_rounded ["number", "divisor"] sp_rounded := by
  refine T.F_rounded.ok sc_rounded (fun vs H Q E h => ?_) (fun cdv A outer s H vs Q E hr h => ?_)
  · obtain ⟨n, d, rfl, _⟩ := h
    rfl
  · obtain ⟨n, d, rfl, h1, h2, q⟩ := h
    have q' : ∀ z, rnd n d = z → Q (.int z) H := fun z e => e ▸ q
    refine ⟨_,
(pss_cons (ps_if (pt_cmpR op_lt (pv 0) pe_int (nomark _)) (pss_one (ps_ret (pe_un un_neg (pe_op op_fdivN (pe_un un_neg (pv 0)) (pv 1))))) pss_nil)
      (pss_one (ps_ret (pe_op op_fdivN (pv 0) (pv 1)))))
, ?_⟩
    refine ⟨_, rfl, n, 0, rfl, rfl, _, rfl, ?_⟩
    refine ite2 (fun e => ?_) (fun e => ?_)
    · have e := of_decide_eq_true e
      refine ⟨_, rfl, n, rfl, _, rfl, -n, d, rfl, rfl, ⟨by omega, by omega⟩, _, rfl, q' _ ?_⟩
      unfold rnd
      rw [if_pos e]
    · have e : ¬ n < 0 := fun z => e (decide_eq_true z)
      refine ⟨_, rfl, _, rfl, n, d, rfl, rfl, ⟨by omega, by omega⟩, q' _ ?_⟩
      unfold rnd
      rw [if_neg e]
def sp_limited : Sp := fun vs H Q _ => ∃ (n lo hi : Int), vs = [.int n, .int lo, .int hi] ∧ lo ≤ hi ∧ Q (.int (lim n lo hi)) H
theorem ok_limited (T : Txt K mg) : FnOk P w K mg base CX0 2 T.f_limited T.d_limited ["number", "least", "most"] sp_limited := by
  refine T.F_limited.ok sc_limited (fun vs H Q E h => ?_) (fun cdv A outer s H vs Q E hr h => ?_)
  · obtain ⟨n, lo, hi, rfl, _⟩ := h
    rfl
  · obtain ⟨n, lo, hi, rfl, h1, q⟩ := h
    refine ⟨_,
(pss_one (ps_ret (pe_callB (call_max2 rfl) (by rfl) T.z_max (by decide +kernel) (pa_cons (pv 1) (pa_cons (pe_callB (call_min2 rfl) (by rfl) T.z_min (by decide +kernel) (pa_cons (pv 0) (pa_cons (pv 2) pa_nil))) pa_nil)))))
, ?_⟩
    refine ⟨_, rfl, _, rfl, _, rfl, n, hi, rfl, lo, _, rfl, ?_⟩
    have e := lim_of (n := n) h1
    show Q (.int (if (if hi < n then hi else n) > lo then (if hi < n then hi else n) else lo)) H
    rw [e]
    exact q
def sp_change_at (K : PySem.W.Frag) : Sp := fun vs H Q _ => ∃ (c : V) (C : Cod) (k p : Nat), vs = [c, .int k, .int p] ∧ C.Ok ∧ Dp K H c C.dat ∧ k < C.moves.length ∧ p < C.steps.length ∧ Q (.int (C.chg k p)) H
theorem ok_change_at (T : Txt K mg) : FnOk P w K mg base CX0 3 T.f_change_at T.d_change_at ["coder", "code", "place"] (sp_change_at K) := by
  refine T.F_change_at.ok sc_change_at (fun vs H Q E h => ?_) (fun cdv A outer s H vs Q E hr h => ?_)
  · obtain ⟨c, C, k, p, rfl, _⟩ := h
    rfl
  · obtain ⟨c, C, k, p, rfl, O, hc, hk, hp, q⟩ := h
    obtain ⟨a, s, m, ms, rfl, ha, hs, hm, hmd⟩ := cod_at hc
    obtain ⟨t, ht, hT⟩ := move_at hmd hk
    refine ⟨_,
(pss_cons (ps_set (i := 3) sc_change_at.nd rfl (Or.inl rfl) (pe_ix ix_tup (pe_ix ix_tup (pe_ix ix_tup (pv 0) pe_int (fun _ _ => rfl)) (pv 1) (fun _ _ => rfl)) pe_int (fun _ _ => rfl)))
      (pss_one (ps_ret (pe_call (ok_rounded T) (hr.mono (by decide)) (by rfl) T.g_rounded T.F_rounded.kp T.b_rounded .nil pass0 (pa_cons (pe_op op_mul (pv 3) (pe_ix ix_tup (pe_ix ix_tup (pv 0) pe_int (fun _ _ => rfl)) (pv 2) (fun _ _ => rfl))) (pa_cons pe_int pa_nil))))))
, ?_⟩
    refine ⟨_, rfl, a, _, 3, _, rfl, rfl, ha, atI_nat (j := 3) rfl, _, rfl, m, _, k, _, rfl, rfl, hm, atI_nat ht, t, _, 0, _, rfl, rfl, hT, atI_nat (j := 0) rfl, ?_⟩
    refine ⟨_, rfl, _, rfl, a, _, 2, _, rfl, rfl, ha, atI_nat (j := 2) rfl, _, rfl, s, _, p, _, rfl, rfl, hs, atI_nat (step_at hp), _, _, rfl, rfl, ?_, ?_⟩
    · have hm3 : (C.moves.getD k (0, 0)) ∈ C.moves := by
        rw [List.getD_eq_getElem?_getD, List.getElem?_eq_getElem hk]
        exact List.getElem_mem hk
      have := O.m3 _ hm3
      exact .inl ⟨by omega, by omega⟩
    exact ⟨_, 8, rfl, by decide, by decide, q⟩
def sp_faded : Sp := fun vs H Q _ => ∃ (l f : Int), vs = [.int l, .int f] ∧ (f = 0 ∨ (2 ≤ f ∧ f ≤ 99)) ∧ Q (.int (fdd l f)) H
theorem ok_faded (T : Txt K mg) : FnOk P w K mg base CX0 3 T.f_faded T.d_faded ["level", "fade"] sp_faded := by
  refine T.F_faded.ok sc_faded (fun vs H Q E h => ?_) (fun cdv A outer s H vs Q E hr h => ?_)
  · obtain ⟨l, f, rfl, _⟩ := h
    rfl
  · obtain ⟨l, f, rfl, h1, q⟩ := h
    have q' : ∀ z, fdd l f = z → Q (.int z) H := fun z e => e ▸ q
    refine ⟨_,
(pss_cons (ps_if (pt_cmpR op_eq (pv 1) pe_int (nomark _)) (pss_one (ps_ret (pv 0))) pss_nil)
      (pss_one (ps_ret (pe_op op_sub (pv 0) (pe_call (ok_rounded T) (hr.mono (by decide)) (by rfl) T.g_rounded T.F_rounded.kp T.b_rounded .nil pass0 (pa_cons (pv 0) (pa_cons (pv 1) pa_nil)))))))
, ?_⟩
    refine ⟨_, rfl, rfl, _, rfl, ?_⟩
    refine ite2 (fun e => ?_) (fun e => ?_)
    · have e : f = 0 := V.int.inj (of_decide_eq_true e)
      refine ⟨_, rfl, q' _ ?_⟩
      unfold fdd
      rw [if_pos e]
    · have e : ¬ f = 0 := fun z => e (decide_eq_true (by rw [z]))
      refine ⟨_, rfl, _, rfl, _, rfl, l, f, rfl, by omega, by omega, _, _, rfl, rfl, q' _ ?_⟩
      unfold fdd
      rw [if_neg e]
def sd (s : Int × Int) : PyData := pairI s
/-- a state's pair, as it is read -/
def sp_state_behind (K : PySem.W.Frag) : Sp := fun vs H Q _ => ∃ (c x : V) (C : Cod) (s : Int × Int) (k : Nat), vs = [c, x, .int k] ∧ C.Ok ∧ Dp K H c C.dat ∧ Dp K H x (pairI s) ∧ C.St s ∧ k < C.moves.length ∧
  ∀ p, H p = none → Q (.ref p) (upd H p (.tup [.int (C.led s k).1, .int (C.led s k).2]))
set_option maxHeartbeats 4000000 in
theorem ok_state_behind (T : Txt K mg) : FnOk P w K mg base CX0 4 T.f_state_behind T.d_state_behind ["coder", "state", "code"] (sp_state_behind K) := by
  refine T.F_state_behind.ok sc_state_behind (fun vs H Q E h => ?_) (fun cdv A outer s H vs Q E hr h => ?_)
  · obtain ⟨c, x, C, s, k, rfl, _⟩ := h
    rfl
  · obtain ⟨c, x, C, st, k, rfl, O, hc, hx, hst, hk, q⟩ := h
    have hc' := hc
    obtain ⟨a, s, m, ms, rfl, ha, hs, hm, hmd⟩ := cod_at hc
    obtain ⟨t, ht, hT⟩ := move_at hmd hk
    obtain ⟨b, rfl, hb⟩ := dp_pair hx
    obtain ⟨i1, i2, i3, i4⟩ := hst
    refine ⟨_,
(pss_cons (ps_asg (pv 0) (pg_tup (by rfl) (pgs_cons (pg_name (i := 3) sc_state_behind.nd rfl (Or.inl rfl)) (pgs_cons (pg_name (i := 4) sc_state_behind.nd rfl (Or.inl rfl)) (pgs_cons (pg_name (i := 5) sc_state_behind.nd rfl (Or.inl rfl)) (pgs_cons (pg_name (i := 6) sc_state_behind.nd rfl (Or.inl rfl)) (pgs_cons (pg_name (i := 7) sc_state_behind.nd rfl (Or.inl rfl)) pgs_nil)))))))
      (pss_cons (ps_asg (pv 1) (pg_tup (by rfl) (pgs_cons (pg_name (i := 8) sc_state_behind.nd rfl (Or.inl rfl)) (pgs_cons (pg_name (i := 9) sc_state_behind.nd rfl (Or.inl rfl)) pgs_nil))))
      (pss_cons (ps_set (i := 10) sc_state_behind.nd rfl (Or.inl rfl) (pe_ix ix_tup (pe_ix ix_tup (pv 6) (pv 2) (fun _ _ => rfl)) pe_int (fun _ _ => rfl)))
      (pss_cons (ps_set (i := 11) sc_state_behind.nd rfl (Or.inl rfl) (pe_op op_add (pe_call (ok_faded T) (hr.mono (by decide)) (by rfl) T.g_faded T.F_faded.kp T.b_faded .nil pass0 (pa_cons (pv 8) (pa_cons (pv 7) pa_nil))) (pe_call (ok_change_at T) (hr.mono (by decide)) (by rfl) T.g_change_at T.F_change_at.kp T.b_change_at .nil pass0 (pa_cons (pv 0) (pa_cons (pv 2) (pa_cons (pv 9) pa_nil))))))
      (pss_one (ps_ret (pe_tup (pa_cons (pe_call (ok_limited T) (hr.mono (by decide)) (by rfl) T.g_limited T.F_limited.kp T.b_limited .nil pass0 (pa_cons (pv 11) (pa_cons (pv 3) (pa_cons (pv 4) pa_nil)))) (pa_cons (pe_call (ok_limited T) (hr.mono (by decide)) (by rfl) T.g_limited T.F_limited.kp T.b_limited .nil pass0 (pa_cons (pe_op op_add (pv 9) (pv 10)) (pa_cons pe_int (pa_cons (pe_op op_sub (pe_callB (call_len_seq) (by rfl) T.z_len (by decide +kernel) (pa_cons (pv 5) pa_nil)) pe_int) pa_nil)))) pa_nil)))))))))
, ?_⟩
    refine ⟨_, rfl, a, _, rfl, ha, rfl, _, _, rfl, _, _, rfl, _, _, rfl, _, _, rfl, _, _, rfl, rfl, ?_⟩
    refine ⟨_, rfl, b, _, rfl, hb, rfl, _, _, rfl, _, _, rfl, rfl, ?_⟩
    refine ⟨_, rfl, _, rfl, m, _, k, _, rfl, rfl, hm, atI_nat ht, t, _, 1, _, rfl, rfl, hT, atI_nat (j := 1) rfl, ?_⟩
    refine ⟨_, rfl, _, rfl, st.1, C.fade, rfl, O.f1, ?_⟩
    have e2 : st.2 = (st.2.toNat : Int) := by omega
    refine ⟨_, rfl, _, rfl, _, rfl, .ref a, C, k, st.2.toNat, by show [V.ref a, V.int k, V.int st.2] = _; rw [← e2], O, hc', hk, by omega, _, _, rfl, rfl, ?_⟩
    refine ⟨_, rfl, _, rfl, _, rfl, _, _, _, rfl, by have := O.l2; have := O.h1; omega, ?_⟩
    refine ⟨.int st.2, rfl, .int (C.moves.getD k (0, 0)).2, rfl, st.2, (C.moves.getD k (0, 0)).2, rfl, rfl, .ref s, rfl, s, C.steps.map V.int, rfl, .inr hs, ((C.steps.map V.int).length : Int), 1, rfl, rfl, ?_⟩
    refine ⟨st.2 + (C.moves.getD k (0, 0)).2, 0, ((C.steps.map V.int).length : Int) - 1, rfl, ?_, ?_⟩
    · show (0 : Int) ≤ ((C.steps.map V.int).length : Int) - 1
      rw [List.length_map]
      have := O.s1
      omega
    refine ⟨by show 2 ≤ sizeLine; decide, fun p hp => ?_⟩
    have := q p hp
    unfold Cod.led at this
    have e : ((C.steps.map V.int).length : Int) = (C.steps.length : Int) := by rw [List.length_map]
    rw [← e] at this
    exact this
end
end My

namespace My
open PySem PySem.Spec PyProof.Rows L2
def Cod.run (C : Cod) (s : Int × Int) : List Nat → Int × Int
  | [] => s
  | k :: r => Cod.run C (C.led s k) r
def Cod.lev (C : Cod) (s : Int × Int) : List Nat → List Int
  | [] => []
  | k :: r => (C.led s k).1 :: Cod.lev C (C.led s k) r
theorem run_snoc {C : Cod} : ∀ (r : List Nat) (s : Int × Int) (k : Nat), C.run s (r ++ [k]) = C.led (C.run s r) k
  | [], _, _ => rfl
  | j :: r, s, k => run_snoc r (C.led s j) k
theorem run_app {C : Cod} : ∀ (r : List Nat) (s : Int × Int) (q : List Nat), C.run s (r ++ q) = C.run (C.run s r) q
  | [], _, _ => rfl
  | j :: r, s, q => run_app r (C.led s j) q
theorem lev_snoc {C : Cod} : ∀ (r : List Nat) (s : Int × Int) (k : Nat), C.lev s (r ++ [k]) = C.lev s r ++ [(C.led (C.run s r) k).1]
  | [], _, _ => rfl
  | j :: r, s, k => by
    show (C.led s j).1 :: C.lev (C.led s j) (r ++ [k]) = _
    rw [lev_snoc r (C.led s j) k]
    rfl
theorem lev_app {C : Cod} : ∀ (r : List Nat) (s : Int × Int) (q : List Nat), C.lev s (r ++ q) = C.lev s r ++ C.lev (C.run s r) q
  | [], _, _ => rfl
  | j :: r, s, q => by
    show (C.led s j).1 :: C.lev (C.led s j) (r ++ q) = _
    rw [lev_app r (C.led s j) q]
    rfl
theorem lev_len {C : Cod} : ∀ (r : List Nat) (s : Int × Int), (C.lev s r).length = r.length
  | [], _ => rfl
  | j :: r, s => congrArg (· + 1) (lev_len r (C.led s j))
theorem run_St {C : Cod} (O : C.Ok) : ∀ (r : List Nat) {s : Int × Int}, C.St s → C.St (C.run s r)
  | [], _, h => h
  | k :: r, s, _ => run_St O r (C.led_St O s k)
theorem lev_in {C : Cod} (O : C.Ok) : ∀ (r : List Nat) (s : Int × Int), ∀ z ∈ C.lev s r, C.low ≤ z ∧ z ≤ C.high
  | [], _, _, h => by cases h
  | k :: r, s, z, h => by
    rcases List.mem_cons.mp h with e | e
    · rw [e]
      have := C.led_St O s k
      exact ⟨this.1, this.2.1⟩
    · exact lev_in O r _ z e
def rowI (r : List Nat) : PyData := .tuple (r.map fun k : Nat => PyData.int (k : Int))
def rowV (r : List Nat) : List V := r.map fun k : Nat => V.int (k : Int)
structure Cod.Row (C : Cod) (r : List Nat) : Prop where
  len : r.length ≤ 2000
  lt : ∀ k ∈ r, k < C.moves.length
theorem Cod.St.ok {C : Cod} {s : Int × Int} (h : C.St s) : stateD C (pairI s) = true := by
  show (btw (.int s.1) _ _ && btw (.int s.2) _ _) = true
  rw [btw_in h.1 h.2.1, btw_in h.2.2.1 (by have := h.2.2.2; omega)]
  rfl
theorem dpAll_row {K : PySem.W.Frag} {H : Hp} : ∀ {r : List Nat} {xs : List V}, DpAll K H xs (r.map fun k : Nat => PyData.int (k : Int)) → xs = rowV r
  | [], _, h => by cases h; rfl
  | n :: r, _, h => by
    cases h with
    | cons a b =>
      cases a
      rw [dpAll_row b]
      rfl
theorem row_at {K : PySem.W.Frag} {H : Hp} {v : V} {r : List Nat} (h : Dp K H v (rowI r)) : ∃ a, v = .ref a ∧ SqT K H a (rowV r) := by
  obtain ⟨a, xs, rfl, ha, hd⟩ := dp_tup h
  rw [dpAll_row hd] at ha
  exact ⟨a, rfl, ha⟩
theorem rowV_get {r : List Nat} {i : Nat} {x : V} (h : (rowV r)[i]? = some x) : ∃ k, r[i]? = some k ∧ x = .int (k : Int) := by
  unfold rowV at h
  rw [List.getElem?_map] at h
  cases e : r[i]? with
  | none => rw [e] at h; cases h
  | some k => rw [e] at h; exact ⟨k, rfl, (Option.some.inj h).symm⟩
theorem take_snoc {α : Type} {r : List α} {i : Nat} {k : α} (h : r[i]? = some k) : r.take (i + 1) = r.take i ++ [k] := by
  rw [List.take_add_one, h]
  rfl
/-- a tuple stands while a list is changed -/
theorem sqt_set {K : PySem.W.Frag} {H : Hp} {p a : Addr} {ys xs : List V} {o : HO} (hp : H p = some (.lst ys)) (h : SqT K H a xs) : SqT K (upd H p o) a xs := by
  rcases h with (h | ⟨u, h⟩) | h
  · exact .inl (.inl ((upd_ne (ne_of h hp nofun)).trans h))
  · exact .inl (.inr ⟨u, (upd_ne (ne_of h hp nofun)).trans h⟩)
  · exact .inr h
theorem dp_mkpair {K : PySem.W.Frag} {H : Hp} {a : Addr} {s : Int × Int} (h : SqT K H a [.int s.1, .int s.2]) : Dp K H (.ref a) (pairI s) := .tup h (.cons (.int _) (.cons (.int _) .nil))
theorem dp_tints {K : PySem.W.Frag} {H : Hp} {a : Addr} {ns : List Int} (h : SqT K H a (ns.map V.int)) : Dp K H (.ref a) (.tuple (ns.map .int)) := by
  refine .tup h ?_
  clear h
  induction ns with
  | nil => exact .nil
  | cons n r ih => exact .cons (.int n) ih
end My

namespace My
open PySem PySem.Spec PyProof.Rows L2
theorem dg_l {H : Hp} {m c l : Addr} {k : Int} (h : H m = some (.dK (dd c l k))) : DGet H m (.str "left") (some (.ref l)) := by
  have e := DGet.k (k := .inr "left") h
  rw [dd_l] at e
  exact e
theorem dg_c {H : Hp} {m c l : Addr} {k : Int} (h : H m = some (.dK (dd c l k))) : DGet H m (.str "cells") (some (.ref c)) := by
  have e := DGet.k (k := .inr "cells") h
  rw [dd_c] at e
  exact e
theorem dg_a {H : Hp} {m c l : Addr} {k : Int} (h : H m = some (.dK (dd c l k))) : DGet H m (.str "at") (some (.int k)) := by
  have e := DGet.k (k := .inr "at") h
  rw [dd_a] at e
  exact e
theorem dp_l {H : Hp} {m c l p : Addr} {k : Int} (h : H m = some (.dK (dd c l k))) : DPut H m (.str "left") (.ref p) (upd H m (.dK (dd c p k))) := by
  have e := DPut.k (k := .inr "left") (v := .ref p) h (by show 3 < sizeLine; decide)
  rw [dd_pl] at e
  exact e
theorem dp_a {H : Hp} {m c l : Addr} {k z : Int} (h : H m = some (.dK (dd c l k))) : DPut H m (.str "at") (.int z) (upd H m (.dK (dd c l z))) := by
  have e := DPut.k (k := .inr "at") (v := .int z) h (by show 3 < sizeLine; decide)
  rw [dd_pa] at e
  exact e
def pis (ns : List Int) : List PyData := ns.map .int
theorem dp_ints {K : PySem.W.Frag} {H : Hp} : ∀ ns : List Int, DpAll K H (ns.map V.int) (pis ns)
  | [] => .nil
  | n :: r => .cons (.int n) (dp_ints r)
theorem lay_ints : ∀ ns : List Int, PyData.canLayAll0 (pis ns) = true ∧ PyData.depthAll (pis ns) = 0
  | [] => ⟨rfl, rfl⟩
  | n :: r => by
    obtain ⟨h1, h2⟩ := lay_ints r
    exact ⟨by show ((PyData.int n).canLay0 && PyData.canLayAll0 (pis r)) = true; rw [h1]; rfl, by show max 0 (PyData.depthAll (pis r)) = 0; rw [h2]; rfl⟩
theorem shaped_ints (ns : List Int) : SeqAt.shaped (.list (pis ns)) = true := by
  obtain ⟨h1, h2⟩ := lay_ints ns
  show (PyData.canLayAll0 (pis ns) && decide (PyData.depthAll (pis ns) + 1 ≤ 64)) = true
  rw [h1, h2]
  rfl
theorem eqv_nil (ns : List Int) : PyData.eqv (.list (pis ns)) (.list []) = ns.isEmpty := by
  cases ns <;> rfl
section
variable {P : Program} {w : World} {K : PySem.W.Frag} {mg : Str → Option Value} {base : Heap}
theorem ixN_nat {n j : Nat} (h : j < n) : ixN n (j : Int) = some j := by
  unfold ixN
  rw [if_pos (by omega), if_pos (by omega)]
  simp
def sp_law_next : Sp := fun vs H Q _ => ∃ (m c l : Addr) (n : Nat) (many : Int), vs = [.ref m, .int many] ∧ 0 < many ∧ many < 2 ^ 100 ∧ Dr H m c l (n + 1) ∧
  ∀ (r : Int) (l' : Addr) (H' : Hp), 0 ≤ r → r < many → Kp m l H l' H' → Dr H' m c l' n → Q (.int r) H'
theorem ok_law_next (T : Txt K mg) : FnOk P w K mg base CX0 2 T.f__law_next T.d__law_next ["m", "many"] sp_law_next := by
  refine T.F__law_next.ok sc_law_next (fun vs H Q E h => ?_) (fun cdv A outer s H vs Q E hr h => ?_)
  · obtain ⟨m, c, l, n, many, rfl, _⟩ := h
    rfl
  · obtain ⟨m, c, l, n, many, rfl, p1, p2, D, q⟩ := h
    have hu := hu_of hr
    refine ⟨_,
(pss_cons (ps_while PassesOwn.never (PW.pt (pw_and (pt_cmpR (op_neD hr.units) (pe_dget hu (pv 0) pe_str (fun _ _ => rfl)) (pe_lst pa_nil) (nomark _)) (pw_and1 (pt_cmpR op_eq (pe_ix ix_list (pe_dget hu (pv 0) pe_str (fun _ _ => rfl)) pe_int (fun _ _ => rfl)) pe_int (nomark _))))) (pss_one (ps_dput hu (pv 0) pe_str (pe_slice sl_list (pe_dget hu (pv 0) pe_str (fun _ _ => rfl)) (po_some pe_int) po_none) rfl)))
      (pss_cons (ps_if (pt_cmpR (op_neD hr.units) (pe_dget hu (pv 0) pe_str (fun _ _ => rfl)) (pe_lst pa_nil) (nomark _)) (pss_cons (ps_set (i := 2) sc_law_next.nd rfl (Or.inl rfl) (pe_callTy call_int1 (by rfl) T.z_int (by decide +kernel) (pa_cons (pe_ix ix_list (pe_dget hu (pv 0) pe_str (fun _ _ => rfl)) pe_int (fun _ _ => rfl)) pa_nil)))
      (pss_cons (ps_asg (pe_op op_fdivW (pv 2) (pv 1)) (pg_sub (pe_dget hu (pv 0) pe_str (fun _ _ => rfl)) pe_int set_list))
      (pss_one (ps_ret (pe_op op_modN (pv 2) (pv 1)))))) pss_nil)
      (pss_cons (ps_set (i := 3) sc_law_next.nd rfl (Or.inl rfl) (pe_op op_add (pe_dget hu (pv 0) pe_str (fun _ _ => rfl)) pe_int))
      (pss_cons (ps_dput hu (pv 0) pe_str (pv 3) rfl)
      (pss_cons (ps_set (i := 4) sc_law_next.nd rfl (Or.inl rfl) (pe_ifExp (pt_cmpR (op_neD hr.units) (pe_dget hu (pv 0) pe_str (fun _ _ => rfl)) (pe_lst pa_nil) (nomark _)) (pe_ix ix_list (pe_dget hu (pv 0) pe_str (fun _ _ => rfl)) (pe_op op_modN (pe_callTy call_int1 (by rfl) T.z_int (by decide +kernel) (pa_cons (pv 3) pa_nil)) (pe_callB (call_len_seq) (by rfl) T.z_len (by decide +kernel) (pa_cons (pe_dget hu (pv 0) pe_str (fun _ _ => rfl)) pa_nil))) (fun _ _ => rfl)) pe_int))
      (pss_cons (ps_set (i := 5) sc_law_next.nd rfl (Or.inl rfl) (pe_op op_mul (pe_callTy call_int1 (by rfl) T.z_int (by decide +kernel) (pa_cons (pe_op op_add (pe_op op_add (pe_op op_modN (pe_callTy call_int1 (by rfl) T.z_int (by decide +kernel) (pa_cons (pv 4) pa_nil)) pe_int) (pe_op op_mul pe_int (pv 3))) (pe_op op_mul (pe_op op_mul pe_int (pv 3)) (pv 3))) pa_nil)) pe_int))
      (pss_cons (ps_set (i := 5) sc_law_next.nd rfl (Or.inl rfl) (pe_op op_mul (pe_callTy call_int1 (by rfl) T.z_int (by decide +kernel) (pa_cons (pe_op op_add (pe_op op_modN (pe_callTy call_int1 (by rfl) T.z_int (by decide +kernel) (pa_cons (pv 5) pa_nil)) pe_int) (pe_op op_mul pe_int (pv 3))) pa_nil)) pe_int))
      (pss_one (ps_ret (pe_op op_modN (pe_callTy call_int1 (by rfl) T.z_int (by decide +kernel) (pa_cons (pe_op op_fdivN (pe_op op_modN (pe_callTy call_int1 (by rfl) T.z_int (by decide +kernel) (pa_cons (pv 5) pa_nil)) pe_int) pe_int) pa_nil)) (pv 1)))))))))))
, ?_⟩
    refine st_tail (fun σ H' => ∃ (l' : Addr), σ = [some (.ref m), some (.int many), none, none, none, none] ∧ Kp m l H l' H' ∧ Dr H' m c l' (n + 1)) ?_ fun tail => ?_
    · rintro σ H1 ⟨l1, rfl, kp, D1⟩
      obtain ⟨cs, ls, k, h1, h2, h3, ncl, lc, ll, pos, k0, kn⟩ := D1.ex
      have nml : m ≠ l1 := ne_of h1 h3 nofun
      have nmc : m ≠ c := ne_of h1 h2 nofun
      -- if m['left'] != []
      refine ⟨_, rfl, m, .ref l1, rfl, dg_l h1, Nat.zero_le _, fun p hp => ?_⟩
      have g1 := same_new (o := .lst []) hp _ _ h1
      have g2 := same_new (o := .lst []) hp _ _ h2
      have g3 := same_new (o := .lst []) hp _ _ h3
      refine ⟨.list (pis ls), .list [], .lst (SqL.of g3) (dp_ints ls), .lst (SqL.of upd_same) .nil, shaped_ints ls, by rfl, _, rfl, ?_⟩
      rw [eqv_nil]
      have kp2 : Kp m l H l1 (upd H1 p (.lst [])) := kp.trans (Kp.new hp)
      have D2 : Dr (upd H1 p (.lst [])) m c l1 (n + 1) := D1.new hp
      cases ls with
      | cons x r =>
        refine iteT ?_
        have x0 : 0 ≤ x := pos x List.mem_cons_self
        refine ⟨_, rfl, m, .ref l1, rfl, dg_l g1, l1, _, 0, .int x, rfl, rfl, SqL.of g3, atI_nat (j := 0) rfl, .inl ⟨x, rfl, ?_⟩⟩
        -- m['left'][0] = rest // many
        refine ⟨_, rfl, _, rfl, x, many, rfl, rfl, wide_div (b := 100) p1 (by omega) (by decide) (by decide), _, rfl, m, .ref l1, rfl, dg_l g1, l1, _, 0, 0, rfl, rfl, g3, ixN_nat (j := 0) (by simp), ?_⟩
        refine ⟨_, rfl, _, rfl, x, many, rfl, rfl, by omega, ?_⟩
        show Q (.int (x.fmod many)) (upd (upd H1 p (.lst [])) l1 (.lst (((x / many) :: r).map V.int)))
        rw [Int.fmod_eq_emod_of_nonneg x (by omega)]
        refine q _ l1 _ (Int.emod_nonneg _ (by omega)) (Int.emod_lt_of_pos _ p1) ⟨fun b o hb n1 n2 => ?_, kp2.nw, fun b hb => ?_⟩ ⟨cs, (x / many) :: r, k, ?_, ?_, ?_, ncl, lc, ll, ?_, k0, by omega⟩
        · have e := kp2.st b o hb n1 n2
          rw [upd_ne (kp2.off hb n2)]
          exact e
        · refine kp2.dm b ?_
          unfold upd at hb ⊢
          split at hb
          · cases hb
          · exact hb
        · rw [upd_ne nml]; exact g1
        · rw [upd_ne ncl]; exact g2
        · exact upd_same
        · intro y hy
          rcases List.mem_cons.mp hy with e | e
          · rw [e]; exact Int.ediv_nonneg x0 (by omega)
          · exact pos y (List.mem_cons_of_mem _ e)
      | nil =>
        refine iteF ?_
        refine ⟨_, rfl, m, .int k, rfl, dg_a g1, _, _, rfl, rfl, _, rfl, _, rfl, m, _, rfl, dp_a g1, ?_⟩
        have a1 : (upd (upd H1 p (.lst [])) m (.dK (dd c l1 (k + 1)))) m = some (.dK (dd c l1 (k + 1))) := upd_same
        have a2 := (upd_ne (H := upd H1 p (.lst [])) (o := .dK (dd c l1 (k + 1))) nmc.symm).trans g2
        have a3 := (upd_ne (H := upd H1 p (.lst [])) (o := .dK (dd c l1 (k + 1))) nml.symm).trans g3
        have kp3 : Kp m l H l1 (upd (upd H1 p (.lst [])) m (.dK (dd c l1 (k + 1)))) := ⟨fun b o hb n1 n2 => (upd_ne n1).trans (kp2.st b o hb n1 n2), kp2.nw, fun b hb => kp2.dm b (by
          unfold upd at hb ⊢
          split at hb
          · cases hb
          · exact hb)⟩
        have D3 : Dr (upd (upd H1 p (.lst [])) m (.dK (dd c l1 (k + 1)))) m c l1 n := ⟨cs, [], k + 1, a1, a2, a3, ncl, lc, ll, pos, by omega, by omega⟩
        generalize upd (upd H1 p (.lst [])) m (.dK (dd c l1 (k + 1))) = H3 at a1 a2 a3 kp3 D3
        -- cell
        dsimp only
        refine st_tail (fun σ H' => ∃ (z : Int), σ = [some (.ref m), some (.int many), none, some (.int (k + 1)), some (.int z), none] ∧ Kp m l H l1 H' ∧ Dr H' m c l1 n) ?_ fun tail => ?_
        · rintro σ H4 ⟨z, rfl, kp4, D4⟩
          have kb : k + 1 ≤ 1000000 := by omega
          refine ⟨_, rfl, .inl ⟨z, rfl, _, _, rfl, rfl, (show (2147483629 : Int) ≠ 0 by decide), _, rfl, _, _, rfl, rfl, .inl ⟨by decide, by decide⟩, _, _, rfl, rfl, _, rfl, _, _, rfl, rfl, .inl ⟨by decide, by decide⟩,
            _, rfl, _, _, rfl, rfl, .inl ⟨by show -(2 ^ 64) < 19 * (k + 1); omega, by show 19 * (k + 1) < 2 ^ 64; omega⟩, _, _, rfl, rfl, .inl ⟨_, rfl, _, _, rfl, rfl, .inr ⟨by decide, by decide⟩, ?_⟩⟩⟩
          refine ⟨_, rfl, .inl ⟨_, rfl, _, _, rfl, rfl, (show (2147483647 : Int) ≠ 0 by decide), _, rfl, _, _, rfl, rfl, .inl ⟨by decide, by decide⟩, _, _, rfl, rfl, .inl ⟨_, rfl, _, _, rfl, rfl, .inr ⟨by decide, by decide⟩, ?_⟩⟩⟩
          refine ⟨_, rfl, .inl ⟨_, rfl, _, _, rfl, rfl, (show (2147483587 : Int) ≠ 0 by decide), _, _, rfl, rfl, ⟨by decide, by decide⟩, .inl ⟨_, rfl, _, rfl, _, _, rfl, rfl, by omega, ?_⟩⟩⟩
          refine q _ l1 _ ?_ ?_ kp4 D4
          · rw [Int.fmod_eq_emod_of_nonneg _ (by omega)]
            exact Int.emod_nonneg _ (by omega)
          · rw [Int.fmod_eq_emod_of_nonneg _ (by omega)]
            exact Int.emod_lt_of_pos _ p1
        refine ⟨_, rfl, m, .ref c, rfl, dg_c a1, Nat.zero_le _, fun p' hp' => ?_⟩
        have b1 := same_new (o := .lst []) hp' _ _ a1
        have b2 := same_new (o := .lst []) hp' _ _ a2
        refine ⟨.list (pis cs), .list [], .lst (SqL.of b2) (dp_ints cs), .lst (SqL.of upd_same) .nil, shaped_ints cs, by rfl, _, rfl, ?_⟩
        rw [eqv_nil]
        have kp4 : Kp m l H l1 (upd H3 p' (.lst [])) := kp3.trans (Kp.new hp')
        have D4 : Dr (upd H3 p' (.lst [])) m c l1 n := D3.new hp'
        cases cs with
        | nil =>
          refine iteF ?_
          exact tail _ _ ⟨3, rfl, kp4, D4⟩
        | cons y r =>
          refine iteT ?_
          obtain ⟨j, z, hj⟩ : ∃ (j : Nat) (z : Int), (k + 1).fmod (((y :: r).map V.int).length : Int) = (j : Int) ∧ ((y :: r).map V.int)[j]? = some (.int z) := by
            have hl : (0 : Int) < (((y :: r).map V.int).length : Int) := by
              show (0 : Int) < (((r.map V.int).length + 1 : Nat) : Int)
              omega
            rw [Int.fmod_eq_emod_of_nonneg _ (by omega)]
            have e1 := Int.emod_nonneg (k + 1) (b := (((y :: r).map V.int).length : Int)) (by omega)
            have e2 := Int.emod_lt_of_pos (k + 1) hl
            have hj : ((k + 1) % (((y :: r).map V.int).length : Int)).toNat < (y :: r).length := by
              have : ((y :: r).map V.int).length = (y :: r).length := List.length_map ..
              omega
            refine ⟨((k + 1) % (((y :: r).map V.int).length : Int)).toNat, (y :: r)[((k + 1) % (((y :: r).map V.int).length : Int)).toNat], by omega, ?_⟩
            rw [List.getElem?_map, List.getElem?_eq_getElem hj]
            rfl
          refine ⟨_, rfl, m, .ref c, rfl, dg_c b1, _, rfl, .inl ⟨_, rfl, _, rfl, m, .ref c, rfl, dg_c b1, c, _, rfl, .inl (SqL.of b2), _, _, rfl, rfl, by show (((y :: r).map V.int).length : Int) ≠ 0; simp; omega, c, _, _, .int z, rfl, rfl, SqL.of b2, ?_, ?_⟩⟩
          · show atI _ ((k + 1).fmod (((y :: r).map V.int).length : Int)) = some _
            rw [hj.1]
            exact atI_nat hj.2
          exact tail _ _ ⟨z, rfl, kp4, D4⟩
    -- the loop
    refine ⟨fun cnt σ H' => ∃ (l' : Addr) (cs ls : List Int) (k : Int), σ = [some (.ref m), some (.int many), none, none, none, none] ∧ Kp m l H l' H' ∧ ls.length = cnt ∧
      H' m = some (.dK (dd c l' k)) ∧ H' c = some (.lst (cs.map V.int)) ∧ H' l' = some (.lst (ls.map V.int)) ∧ c ≠ l' ∧
      cs.length ≤ 63 ∧ ls.length ≤ 63 ∧ (∀ x ∈ ls, 0 ≤ x) ∧ 0 ≤ k ∧ k + ((n + 1 : Nat) : Int) ≤ 1000000, ?_, ?_⟩
    · obtain ⟨cs, ls, k, r⟩ := D.ex
      exact ⟨ls.length, l, cs, ls, k, rfl, Kp.refl m l H, rfl, r⟩
    rintro cnt σ H1 ⟨l1, cs, ls, k, rfl, kp, hcnt, h1, h2, h3, ncl, lc, ll, pos, k0, kn⟩
    have nml : m ≠ l1 := ne_of h1 h3 nofun
    have nmc : m ≠ c := ne_of h1 h2 nofun
    refine ⟨_, rfl, m, .ref l1, rfl, dg_l h1, Nat.zero_le _, fun p hp => ?_⟩
    have g1 := same_new (o := .lst []) hp _ _ h1
    have g2 := same_new (o := .lst []) hp _ _ h2
    have g3 := same_new (o := .lst []) hp _ _ h3
    have kp2 : Kp m l H l1 (upd H1 p (.lst [])) := kp.trans (Kp.new hp)
    have D2 : Dr (upd H1 p (.lst [])) m c l1 (n + 1) := ⟨cs, ls, k, g1, g2, g3, ncl, lc, ll, pos, k0, kn⟩
    refine ⟨.list (pis ls), .list [], .lst (SqL.of g3) (dp_ints ls), .lst (SqL.of upd_same) .nil, shaped_ints ls, by rfl, _, rfl, ?_⟩
    rw [eqv_nil]
    cases ls with
    | nil =>
      refine iteF ?_
      refine iteF ?_
      exact tail _ _ ⟨l1, rfl, kp2, D2⟩
    | cons x r =>
      refine iteT ?_
      refine ⟨_, rfl, m, .ref l1, rfl, dg_l g1, l1, _, 0, .int x, rfl, rfl, SqL.of g3, atI_nat (j := 0) rfl, rfl, _, rfl, ?_⟩
      refine ite2 (fun e => ?_) (fun e => tail _ _ ⟨l1, rfl, kp2, D2⟩)
      generalize upd H1 p (.lst []) = H3 at g1 g2 g3 kp2 D2
      refine ⟨_, fun σ' H' hN => hN, ?_⟩
      refine ⟨_, rfl, m, .ref l1, rfl, dg_l g1, 1, rfl, l1, _, rfl, SqL.of g3, fun p2 hp2 => ⟨_, rfl, m, _, rfl, dp_l (same_new hp2 _ _ g1), ?_⟩⟩
      have np1 : p2 ≠ m := (ne_of_none g1 hp2).symm
      have np2 : p2 ≠ c := (ne_of_none g2 hp2).symm
      refine ⟨r.length, by rw [← hcnt]; simp, p2, cs, r, k, rfl, ⟨fun b o hb q1 q2 => ?_, ?_, fun b hb => ?_⟩, rfl, upd_same, (upd_ne nmc.symm).trans ((upd_ne np2.symm).trans g2), (upd_ne np1).trans ?_, np2.symm, lc, by simp at ll ⊢; omega, fun y hy => pos y (List.mem_cons_of_mem _ hy), k0, kn⟩
      · have e := kp2.st b o hb q1 q2
        rw [upd_ne q1, upd_ne (ne_of_none e hp2)]
        exact e
      · exact .inr (kp2.dm _ hp2)
      · refine kp2.dm b ?_
        unfold upd at hb
        split at hb
        · cases hb
        · split at hb
          · cases hb
          · exact hb
      · rw [upd_same]
        unfold cutV
        rw [HT.sIx_none, show HT.sIx ((x :: r).map V.int).length 0 (some 1) = min 1 ((x :: r).map V.int).length from HT.sIx_nat _ 0 1, show min 1 ((x :: r).map V.int).length = 1 by simp]
        show some (HO.lst (List.take (((x :: r).map V.int).length - 1) (r.map V.int))) = _
        rw [List.take_of_length_le (by simp)]
def sp_law_begun (K : PySem.W.Frag) : Sp := fun vs H Q _ => ∃ (a : Addr) (ns : List Int), vs = [.ref a] ∧ SqL K H a (ns.map V.int) ∧ ns.length ≤ 63 ∧
  ∀ (m c l : Addr) (H' : Hp), Same H H' → H m = none → H c = none → H l = none → Dr H' m c l 900000 → Q (.ref m) H'
theorem ok_law_begun (T : Txt K mg) : FnOk P w K mg base CX0 2 T.f__law_begun T.d__law_begun ["script"] (sp_law_begun K) := by
  refine T.F__law_begun.ok sc_law_begun (fun vs H Q E h => ?_) (fun cdv A outer s H vs Q E hr h => ?_)
  · obtain ⟨a, ns, rfl, _⟩ := h
    rfl
  · obtain ⟨a, ns, rfl, hS, hl, q⟩ := h
    have hu := hu_of hr
    refine ⟨_,
(pss_one (ps_ret (pe_disp (pps_cons pe_str (pe_callTy call_list_of (by rfl) T.z_list (by decide +kernel) (pa_cons (pv 0) pa_nil)) (pps_cons pe_str (pe_lc (own := [("cell", 1)]) rfl sc_law_begun.nd (pi_list (pv 0)) (blkOk_by (own := [("cell", 1)]) (N := ["script", "cell"]) (sc := defScope s_law_begun) (by decide +kernel)) (fun _ _ _ _ _ => (pg_name (i := 1) sc_law_begun.nd rfl (Or.inl rfl))) (fun _ _ _ _ _ => pts_one (pt_cmpR op_ge (pv 1) (pe_op op_pow pe_int pe_int) (nomark _))) (fun _ _ _ _ _ => (pv 1))) (pps_cons pe_str pe_int pps_nil))) (by rfl) (by rfl) (fun z => by cases z) (by decide))))
, ?_⟩
    intro p hp
    have s1 : Same H (upd H p (.dK [])) := same_new hp
    refine ⟨.ref a, rfl, a, _, rfl, .inl (s1.seq hS), fun c hc => ?_⟩
    have s2 := s1.trans (same_new (o := .lst (ns.map V.int)) hc)
    have ncp : p ≠ c := fun e => by rw [← e, upd_same] at hc; cases hc
    have e1 : upd (upd H p (.dK [])) c (.lst (ns.map V.int)) p = some (.dK []) := (upd_ne ncp).trans upd_same
    have e2 : upd (upd H p (.dK [])) c (.lst (ns.map V.int)) c = some (.lst (ns.map V.int)) := upd_same
    have hc0 : H c = none := s1.free hc
    generalize upd (upd H p (.dK [])) c (.lst (ns.map V.int)) = H1 at s2 e1 e2
    refine ⟨.ref a, rfl, a, rfl, ⟨_, s2.seq hS⟩, fun l hD => ?_⟩
    have nlp : p ≠ l := ne_of_none e1 hD
    have nlc : c ≠ l := ne_of_none e2 hD
    have hl0 : H l = none := s2.free hD
    refine lc_list (K := K) (a := a) (xs := ns.map V.int) (fun i H' => ∃ ls : List Int, ls.length ≤ i ∧ (∀ x ∈ ls, 0 ≤ x) ∧ H' = upd H1 l (.lst (ls.map V.int))) ⟨[], by simp, by simp, rfl⟩ ?_ ?_ ?_
    · rintro i H' _ ⟨ls, _, _, rfl⟩
      exact (same_new hD).seq (s2.seq hS)
    · rintro i x H' hx ⟨ls, h1, h2, rfl⟩
      obtain ⟨z, rfl⟩ : ∃ z, x = V.int z := by
        rw [List.getElem?_map] at hx
        cases e : ns[i]? with
        | none => rw [e] at hx; cases hx
        | some z => rw [e] at hx; exact ⟨z, (Option.some.inj hx).symm⟩
      have hi : i < 63 := by
        have := (List.getElem?_eq_some_iff.mp hx).1
        rw [List.length_map] at this
        omega
      refine ⟨rfl, _, rfl, 10, 18, rfl, rfl, ⟨by decide, by decide, by decide⟩, z, 1000000000000000000, rfl, rfl, _, rfl, ?_⟩
      refine ite2 (fun e => ?_) (fun e => ⟨ls, by omega, h2, rfl⟩)
      refine ⟨.int z, rfl, _, upd_same, ?_, ls ++ [z], ?_, ?_, ?_⟩
      · rw [List.length_map]; exact small1000 (by omega)
      · simp; omega
      · intro y hy
        rcases List.mem_append.mp hy with k | k
        · exact h2 y k
        · rw [List.mem_singleton.mp k]
          have := of_decide_eq_true e
          omega
      · rw [upd_upd, List.map_append]
        rfl
    · rintro H' ⟨ls, h1, h2, rfl⟩
      refine ⟨(upd_ne nlp).trans e1, [(Sum.inr "cells", V.ref c), (Sum.inr "left", V.ref l), (Sum.inr "at", V.int 0)], rfl, by show 3 ≤ 15; decide, ?_⟩
      rw [dd_mk]
      refine q p c l _ (fun b o hb => ?_) hp hc0 hl0 ⟨ns, ls, 0, upd_same, ?_, ?_, nlc, hl, by rw [List.length_map] at h1; omega, h2, by decide, by decide⟩
      · rw [upd_ne (ne_of_none hb hp), upd_ne (ne_of_none hb hl0)]
        exact s2 _ _ hb
      · rw [upd_ne ncp.symm, upd_ne nlc]; exact e2
      · rw [upd_ne nlp.symm, upd_same]
end
end My

namespace My
open PySem PySem.Spec PyProof.Rows L2
theorem dpAll_app {K : PySem.W.Frag} {H : Hp} : ∀ {xs ys : List V} {ds es : List PyData}, DpAll K H xs ds → DpAll K H ys es → DpAll K H (xs ++ ys) (ds ++ es)
  | _, _, _, _, .nil, h => h
  | _, _, _, _, .cons a b, h => .cons a (dpAll_app b h)
theorem pairs_set {K : PySem.W.Frag} {H : Hp} {p : Addr} {zs : List V} {o : HO} (hp : H p = some (.lst zs)) : ∀ {ss : List (Int × Int)} {xs : List V}, DpAll K H xs (ss.map pairI) → DpAll K (upd H p o) xs (ss.map pairI)
  | [], _, h => by cases h; exact .nil
  | s :: r, _, h => by
    cases h with
    | cons a b =>
      obtain ⟨t, rfl, ht⟩ := dp_pair a
      exact .cons (dp_mkpair (sqt_set hp ht)) (pairs_set hp b)
/-! ### what stands through draws: tuples -/
def Tp : HO → Prop
  | .tup _ => True
  | .frz _ _ => True
  | _ => False
def Keep (H H' : Hp) : Prop := ∀ b o, H b = some o → Tp o → H' b = some o
theorem Keep.refl (H : Hp) : Keep H H := fun _ _ h _ => h
theorem Keep.trans {H H1 H2 : Hp} (a : Keep H H1) (b : Keep H1 H2) : Keep H H2 := fun c o h t => b c o (a c o h t) t
theorem keep_same {H H' : Hp} (s : Same H H') : Keep H H' := fun b o h _ => s b o h
theorem keep_set {H : Hp} {p : Addr} {ys : List V} {o : HO} (hp : H p = some (.lst ys)) : Keep H (upd H p o) := fun b u h t => by
  have nb : b ≠ p := fun e => by
    rw [e, hp] at h
    cases h
    exact t
  rw [upd_ne nb]
  exact h
theorem keep_draw {m c l l' n : Addr} {H H' : Hp} (k : Kp m l H l' H') (d : Dr H m c l n) : Keep H H' := fun b o h t => by
  obtain ⟨cs, ls, z, h1, h2, h3, r⟩ := d.ex
  refine k.st b o h (fun e => ?_) (fun e => ?_)
  · rw [e, h1] at h
    cases h
    exact t
  · rw [e, h3] at h
    cases h
    exact t
theorem Keep.tup {K : PySem.W.Frag} {H H' : Hp} {a : Addr} {xs : List V} (k : Keep H H') (h : SqT K H a xs) : SqT K H' a xs := by
  rcases h with (h | ⟨u, h⟩) | h
  · exact .inl (.inl (k _ _ h trivial))
  · exact .inl (.inr ⟨u, k _ _ h trivial⟩)
  · exact .inr h
mutual
def noL : PyData → Bool
  | .list _ => false
  | .tuple ds => noLs ds
  | _ => true
def noLs : List PyData → Bool
  | [] => true
  | d :: r => noL d && noLs r
end
mutual
theorem dp_keep {K : PySem.W.Frag} {H H' : Hp} (s : Keep H H') : ∀ (d : PyData) (v : V), noL d = true → Dp K H v d → Dp K H' v d
  | .none, _, _, h => by cases h; exact .non
  | .bool _, _, _, h => by cases h; exact .bl _
  | .int _, _, _, h => by cases h; exact .int _
  | .str _, _, _, h => by cases h; exact .str _
  | .list ds, _, n, h => by cases n
  | .tuple ds, _, n, h => by
    cases h with
    | tup a b => exact .tup (s.tup a) (dpAll_keep s ds _ n b)
  | .dict _, _, _, h => by cases h
theorem dpAll_keep {K : PySem.W.Frag} {H H' : Hp} (s : Keep H H') : ∀ (ds : List PyData) (vs : List V), noLs ds = true → DpAll K H vs ds → DpAll K H' vs ds
  | [], _, _, h => by cases h; exact .nil
  | d :: ds, _, n, h => by
    cases h with
    | cons a b =>
      obtain ⟨n1, n2⟩ := Bool.and_eq_true_iff.mp (show (noL d && noLs ds) = true from n)
      exact .cons (dp_keep s d _ n1 a) (dpAll_keep s ds _ n2 b)
end
theorem noLs_all : ∀ {ds : List PyData}, (∀ d ∈ ds, noL d = true) → noLs ds = true
  | [], _ => rfl
  | d :: r, h => by
    show (noL d && noLs r) = true
    rw [h d List.mem_cons_self, noLs_all fun e he => h e (List.mem_cons_of_mem _ he)]
    rfl
theorem noL_pair (p : Int × Int) : noL (pairI p) = true := rfl
theorem noLs_pairs (ps : List (Int × Int)) : noLs (ps.map pairI) = true := noLs_all fun d hd => by
  obtain ⟨p, _, rfl⟩ := List.mem_map.mp hd
  rfl
theorem noLs_ints (ns : List Int) : noLs (ns.map .int) = true := noLs_all fun d hd => by
  obtain ⟨p, _, rfl⟩ := List.mem_map.mp hd
  rfl
theorem noL_row (r : List Nat) : noL (rowI r) = true := noLs_all fun d hd => by
  obtain ⟨p, _, rfl⟩ := List.mem_map.mp hd
  rfl
theorem noL_cod (C : Cod) : noL C.dat = true := by
  show (true && (true && (noLs (C.steps.map .int) && (noLs (C.moves.map pairI) && (true && true))))) = true
  rw [noLs_ints, noLs_pairs]
  rfl
/-- an own list through a draw -/
theorem Kp.own {m l l' : Addr} {H H' : Hp} (k : Kp m l H l' H') {p : Addr} {o : HO} (h : H p = some o) (n1 : p ≠ m) (n2 : p ≠ l) : H' p = some o ∧ p ≠ l' := ⟨k.st p o h n1 n2, k.off h n2⟩
/-- a change of an own list: for what stood ahead of it -/
theorem Kp.set {m l l' : Addr} {H H' : Hp} (k : Kp m l H l' H') {p : Addr} {o : HO} (h : H p = none) : Kp m l H l' (upd H' p o) := by
  refine ⟨fun b u hb n1 n2 => ?_, k.nw, fun b hb => ?_⟩
  · rw [upd_ne (ne_of_none hb h)]
    exact k.st b u hb n1 n2
  · unfold upd at hb
    split at hb
    · cases hb
    · exact k.dm b hb
/-- a list of one's own, apart from the drawer -/
structure Own (H : Hp) (m c l p : Addr) (xs : List V) : Prop where
  st : H p = some (.lst xs)
  nm : p ≠ m
  nc : p ≠ c
  nl : p ≠ l
theorem own_mk {H : Hp} {m c l p n : Nat} {xs : List V} (D : Dr H m c l n) (hp : H p = none) : Own (upd H p (.lst xs)) m c l p xs := by
  obtain ⟨cs, ls, z, e1, e2, e3, _⟩ := D.ex
  exact ⟨upd_same, (ne_of_none e1 hp).symm, (ne_of_none e2 hp).symm, (ne_of_none e3 hp).symm⟩
theorem Own.kp {H H' : Hp} {m c l l' p : Addr} {xs : List V} (o : Own H m c l p xs) (k : Kp m l H l' H') : Own H' m c l' p xs := ⟨k.st p _ o.st o.nm o.nl, o.nm, o.nc, k.off o.st o.nl⟩
theorem Own.same {H H' : Hp} {m c l p : Addr} {xs : List V} (o : Own H m c l p xs) (s : Same H H') : Own H' m c l p xs := ⟨s _ _ o.st, o.nm, o.nc, o.nl⟩
theorem Own.set {H : Hp} {m c l p q : Addr} {xs : List V} {u : HO} (o : Own H m c l p xs) (h : p ≠ q) : Own (upd H q u) m c l p xs := ⟨(upd_ne h).trans o.st, o.nm, o.nc, o.nl⟩
theorem Own.put {H : Hp} {m c l p : Addr} {xs ys : List V} (o : Own H m c l p xs) : Own (upd H p (.lst ys)) m c l p ys := ⟨upd_same, o.nm, o.nc, o.nl⟩
theorem Dr.put {H : Hp} {m c l n p : Nat} {xs ys : List V} (D : Dr H m c l n) (o : Own H m c l p xs) : Dr (upd H p (.lst ys)) m c l n := D.set o.nm o.nc o.nl
theorem Own.ne {H : Hp} {m c l p q : Addr} {xs : List V} (o : Own H m c l p xs) (h : H q = none) : p ≠ q := ne_of_none o.st h
theorem at3 {a b c : V} {g : Int} (h0 : 0 ≤ g) (h1 : g < 3) : ∃ v, atI [a, b, c] g = some v ∧ (v = a ∨ v = b ∨ v = c) := by
  have hg : g = 0 ∨ g = 1 ∨ g = 2 := by omega
  rcases hg with e | e | e <;> subst e
  · exact ⟨a, atI_nat (j := 0) rfl, .inl rfl⟩
  · exact ⟨b, atI_nat (j := 1) rfl, .inr (.inl rfl)⟩
  · exact ⟨c, atI_nat (j := 2) rfl, .inr (.inr rfl)⟩
theorem at4 {a b c d : V} {g : Int} (h0 : 0 ≤ g) (h1 : g < 4) : ∃ v, atI [a, b, c, d] g = some v ∧ (v = a ∨ v = b ∨ v = c ∨ v = d) := by
  have hg : g = 0 ∨ g = 1 ∨ g = 2 ∨ g = 3 := by omega
  rcases hg with e | e | e | e <;> subst e
  · exact ⟨a, atI_nat (j := 0) rfl, .inl rfl⟩
  · exact ⟨b, atI_nat (j := 1) rfl, .inr (.inl rfl)⟩
  · exact ⟨c, atI_nat (j := 2) rfl, .inr (.inr (.inl rfl))⟩
  · exact ⟨d, atI_nat (j := 3) rfl, .inr (.inr (.inr rfl))⟩
section
variable {P : Program} {w : World} {K : PySem.W.Frag} {mg : Str → Option Value} {base : Heap}
theorem yes_turn {te : TE} {σ : L2.St} {H : Hp} {Q : VK} {R : Hp → Prop} (h : te σ H Q) : tYes σ H fun b H3 => if b = true then te σ H3 Q else R H3 := by
  show if true = true then te σ H Q else R H
  rw [if_pos rfl]
  exact h
/-- n draws at most, behind which z stands for something of which G holds -/
def spDraw (args : Addr → List V → Prop) (n : Nat) (G : Hp → V → Prop) : Sp := fun vs H Q _ => ∃ (m c l : Addr) (k : Nat), args m vs ∧ Dr H m c l (k + n) ∧
  ∀ z l' H', Kp m l H l' H' → Dr H' m c l' k → G H' z → Q z H'
/-- what a drawn coder is like -/
structure Small (C : Cod) (wide places codes : Int) : Prop where
  lo : -wide ≤ C.low ∧ C.low ≤ 0
  hi : 0 ≤ C.high ∧ C.high ≤ wide
  st : 1 ≤ C.steps.length ∧ (C.steps.length : Int) ≤ places
  ss : ∀ s ∈ C.steps, 1 ≤ s ∧ s ≤ 2 * wide + 2
  mv : 2 ≤ C.moves.length ∧ (C.moves.length : Int) ≤ codes
  mm : ∀ p ∈ C.moves, (-16 ≤ p.1 ∧ p.1 ≤ 16) ∧ (-2 ≤ p.2 ∧ p.2 ≤ 2)
  fd : C.fade = 0 ∨ (2 ≤ C.fade ∧ C.fade ≤ 5)
theorem Small.ok {C : Cod} {wide places codes : Int} (h : Small C wide places codes) (h1 : wide ≤ 4000) (h2 : places ≤ 16) (h3 : codes ≤ 16) : C.Ok := by
  obtain ⟨⟨a1, a2⟩, ⟨b1, b2⟩, ⟨c1, c2⟩, d, ⟨e1, e2⟩, f, g⟩ := h
  refine ⟨by omega, a2, b1, by omega, c1, by omega, fun s hs => ?_, e1, by omega, fun p hp => ?_, by omega⟩
  · have := d s hs
    omega
  · have := f p hp
    omega
def sp_law_coder (K : PySem.W.Frag) : Sp := fun vs H Q _ => ∃ (m c l : Addr) (k : Nat) (wide places codes : Int), vs = [.ref m, .int wide, .int places, .int codes] ∧ (1 ≤ wide ∧ wide ≤ 4000) ∧ (1 ≤ places ∧ places ≤ 16) ∧ (2 ≤ codes ∧ codes ≤ 16) ∧
  Dr H m c l (k + 60) ∧ ∀ z (C : Cod) l' H', Kp m l H l' H' → Dr H' m c l' k → Small C wide places codes → Dp K H' z C.dat → Q z H'
set_option maxHeartbeats 4000000 in
theorem ok_law_coder (T : Txt K mg) : FnOk P w K mg base CX0 3 T.f__law_coder T.d__law_coder ["m", "wide", "places", "codes"] (sp_law_coder K) := by
  refine T.F__law_coder.ok sc_law_coder (fun vs H Q E h => ?_) (fun cdv A outer s H vs Q E hr h => ?_)
  · obtain ⟨m, c, l, k, wide, places, codes, rfl, _⟩ := h
    rfl
  · obtain ⟨m, c, l, k, wide, places, codes, rfl, ⟨w1, w2⟩, ⟨p1, p2⟩, ⟨c1, c2⟩, D0, q⟩ := h
    refine ⟨_,
(pss_cons (ps_par (i := 4) (j := 5) (by rfl) sc_law_coder.nd rfl rfl (by decide) rfl rfl (pa_cons (pe_op op_sub pe_int (pe_call (ok_law_next T) (hr.mono (by decide)) (by rfl) T.g__law_next T.F__law_next.kp T.b__law_next .nil pass0 (pa_cons (pv 0) (pa_cons (pe_op op_add (pv 1) pe_int) pa_nil)))) (pa_cons (pe_call (ok_law_next T) (hr.mono (by decide)) (by rfl) T.g__law_next T.F__law_next.kp T.b__law_next .nil pass0 (pa_cons (pv 0) (pa_cons (pe_op op_add (pv 1) pe_int) pa_nil))) pa_nil)) (by rfl))
      (pss_cons (ps_setLc (i := 7) (own := [("k", 6)]) rfl sc_law_coder.nd rfl rfl (sw_true rfl rfl rfl (by decide +kernel)) (pi_range1 (by rfl) T.z_range (pa_cons (pe_op op_add pe_int (pe_call (ok_law_next T) (hr.mono (by decide)) (by rfl) T.g__law_next T.F__law_next.kp T.b__law_next .nil pass0 (pa_cons (pv 0) (pa_cons (pv 2) pa_nil)))) pa_nil)) (blkOk_by (own := [("k", 6)]) (N := ["m", "wide", "places", "codes", "low", "high", "k", "steps", "moves", "fade"]) (sc := defScope s_law_coder) (by decide +kernel)) (fun _ _ _ _ _ => (pg_name (i := 6) sc_law_coder.nd rfl (Or.inl rfl))) (fun _ _ _ _ _ => pts_nil) (fun _ _ _ _ _ => (pe_op op_add pe_int (pe_call (ok_law_next T) (hr.mono (by decide)) (by rfl) T.g__law_next T.F__law_next.kp T.b__law_next .nil pass0 (pa_cons (pv 0) (pa_cons (pe_op op_add (pe_op op_mul pe_int (pv 1)) pe_int) pa_nil))))))
      (pss_cons (ps_set (i := 8) sc_law_coder.nd rfl (Or.inl rfl) (pe_lst pa_nil))
      (pss_cons (ps_for PassesOwn.never rfl (pi_range1 (by rfl) T.z_range (pa_cons (pe_op op_add pe_int (pe_call (ok_law_next T) (hr.mono (by decide)) (by rfl) T.g__law_next T.F__law_next.kp T.b__law_next .nil pass0 (pa_cons (pv 0) (pa_cons (pe_op op_sub (pv 3) pe_int) pa_nil)))) pa_nil)) (pg_name (i := 6) sc_law_coder.nd rfl (Or.inl rfl)) (pss_one (ps_expr (pe_bm PySem.F.plainAttrs_list PySem.F.slot_list_append PySem.F.type_list_append mt_append (pv 8) (pa_cons (pe_tup (pa_cons (pe_op op_sub (pe_call (ok_law_next T) (hr.mono (by decide)) (by rfl) T.g__law_next T.F__law_next.kp T.b__law_next .nil pass0 (pa_cons (pv 0) (pa_cons pe_int pa_nil))) pe_int) (pa_cons (pe_op op_sub (pe_call (ok_law_next T) (hr.mono (by decide)) (by rfl) T.g__law_next T.F__law_next.kp T.b__law_next .nil pass0 (pa_cons (pv 0) (pa_cons pe_int pa_nil))) pe_int) pa_nil))) pa_nil)))))
      (pss_cons (ps_set (i := 9) sc_law_coder.nd rfl (Or.inl rfl) (pe_ix ix_list (pe_lst (pa_cons pe_int (pa_cons pe_int (pa_cons pe_int (pa_cons (pe_op op_add pe_int (pe_call (ok_law_next T) (hr.mono (by decide)) (by rfl) T.g__law_next T.F__law_next.kp T.b__law_next .nil pass0 (pa_cons (pv 0) (pa_cons pe_int pa_nil)))) pa_nil))))) (pe_call (ok_law_next T) (hr.mono (by decide)) (by rfl) T.g__law_next T.F__law_next.kp T.b__law_next .nil pass0 (pa_cons (pv 0) (pa_cons pe_int pa_nil))) (fun _ _ => rfl)))
      (pss_one (ps_ret (pe_tup (pa_cons (pv 4) (pa_cons (pv 5) (pa_cons (pe_callTy call_tuple_of (by rfl) T.z_tuple (by decide +kernel) (pa_cons (pv 7) pa_nil)) (pa_cons (pe_callTy call_tuple_of (by rfl) T.z_tuple (by decide +kernel) (pa_cons (pv 8) pa_nil)) (pa_cons (pv 9) pa_nil)))))))))))))
, ?_⟩
    -- low, high
    refine ⟨_, rfl, _, rfl, _, _, rfl, rfl, m, c, l, k + 59, wide + 1, rfl, by omega, by omega, D0, fun a l1 H1 a0 a1 kp1 D1 => ⟨0, a, rfl, rfl, ?_⟩⟩
    refine ⟨_, rfl, _, rfl, _, _, rfl, rfl, m, c, l1, k + 58, wide + 1, rfl, by omega, by omega, D1, fun b l2 H2 b0 b1 kp2 D2 => ⟨_, _, rfl, ?_⟩⟩
    have kp12 := kp1.trans kp2
    -- steps
    refine ⟨_, rfl, _, rfl, m, c, l2, k + 57, places, rfl, by omega, by omega, D2, fun np l3 H3 n0 n1 kp3 D3 => ⟨1, np, rfl, rfl, _, rfl, by omega, by omega, fun S hS => ?_⟩⟩
    have kp13 := kp12.trans kp3
    obtain ⟨cs3, ls3, z3, e31, e32, e33, _⟩ := D3.ex
    refine lc_range (lo := 0) (n := (1 + np).toNat) (fun i H' => ∃ (l' : Addr) (ss : List Int), H' S = some (.lst (ss.map V.int)) ∧ ss.length = i ∧ (∀ s ∈ ss, 1 ≤ s ∧ s ≤ 2 * wide + 2) ∧ Kp m l3 H3 l' H' ∧ Dr H' m c l' (k + 57 - i) ∧ S ≠ m ∧ S ≠ c ∧ S ≠ l')
      ⟨l3, [], upd_same, rfl, by simp, Kp.new hS, D3.new hS, (ne_of_none e31 hS).symm, (ne_of_none e32 hS).symm, (ne_of_none e33 hS).symm⟩ ?_ ?_
    · rintro i H' hi ⟨l', ss, hL, hlen, hss, kp, D, nm, nc, nl⟩
      have hi' : i < 17 := by omega
      refine ⟨rfl, yes_turn ?_⟩
      refine ⟨_, rfl, _, rfl, 2, wide, rfl, rfl, .inl ⟨by decide, by decide⟩, _, _, rfl, rfl, m, c, l', k + 57 - (i + 1), 2 * wide + 2, rfl, by omega, by omega, by
          have e : k + 57 - (i + 1) + 1 = k + 57 - i := by omega
          rw [e]; exact D, fun r l'' H'' r0 r1 kp' D' => ⟨1, r, rfl, rfl, ?_⟩⟩
      obtain ⟨hL', nl'⟩ := kp'.own hL nm nl
      refine ⟨_, hL', ?_, l'', ss ++ [1 + r], ?_, by simp [hlen], ?_, (kp.trans kp').set hS, D'.set nm nc nl', nm, nc, nl'⟩
      · rw [List.length_map]
        exact small1000 (by omega)
      · rw [upd_same, List.map_append]
        rfl
      · intro s hs
        rcases List.mem_append.mp hs with h | h
        · exact hss s h
        · rw [List.mem_singleton.mp h]
          omega
    · rintro H4 ⟨l4, ss, hL, hlen, hss, kp4, D4, nSm, nSc, nSl⟩
      have kp14 := kp13.trans kp4
      have hSm := nSm
      have len16 : (1 + np).toNat ≤ 16 := by omega
      have D4 : Dr H4 m c l4 (k + 41) := D4.less (by omega)
      refine ⟨Nat.zero_le _, fun M hM => ?_⟩
      obtain ⟨cs4, ls4, z4, e41, e42, e43, _⟩ := D4.ex
      have nMm : M ≠ m := (ne_of_none e41 hM).symm
      have nMc : M ≠ c := (ne_of_none e42 hM).symm
      have nMl : M ≠ l4 := (ne_of_none e43 hM).symm
      have nMS : S ≠ M := ne_of_none hL hM
      have hL5 := same_new (o := .lst []) hM _ _ hL
      have kp5 : Kp m l H l4 (upd H4 M (.lst [])) := kp14.trans (Kp.new hM)
      have D5 : Dr (upd H4 M (.lst [])) m c l4 (k + 41) := D4.new hM
      have hM5 : (upd H4 M (.lst [])) M = some (.lst []) := upd_same
      have hM0 : H M = none := kp14.dm M hM
      generalize upd H4 M (.lst []) = H5 at hL5 kp5 D5 hM5
      refine ⟨_, rfl, _, rfl, _, _, rfl, rfl, m, c, l4, k + 40, codes - 1, rfl, by omega, by omega, D5, fun nm l6 H6 n60 n61 kp6 D6 => ⟨2, nm, rfl, rfl, _, rfl, by omega, by omega, ?_⟩⟩
      obtain ⟨hL6, nSl6⟩ := kp6.own hL5 nSm nSl
      obtain ⟨hM6, nMl6⟩ := kp6.own hM5 nMm nMl
      refine for_range (lo := 0) (n := (2 + nm).toNat) (fun i σ H' => ∃ (y : Option V) (l' : Addr) (ms : List V) (mvs : List (Int × Int)),
          σ = [some (.ref m), some (.int wide), some (.int places), some (.int codes), some (.int (0 - a)), some (.int b), y, some (.ref S), some (.ref M), none] ∧
          H' M = some (.lst ms) ∧ DpAll K H' ms (mvs.map pairI) ∧ mvs.length = i ∧ (∀ p ∈ mvs, (-16 ≤ p.1 ∧ p.1 ≤ 16) ∧ (-2 ≤ p.2 ∧ p.2 ≤ 2)) ∧
          H' S = some (.lst (ss.map V.int)) ∧ Kp m l H l' H' ∧ Dr H' m c l' (k + 40 - 2 * i) ∧ M ≠ l' ∧ S ≠ l')
        ⟨none, l6, [], [], rfl, hM6, .nil, rfl, by simp, hL6, kp5.trans kp6, D6, nMl6, nSl6⟩ ?_ ?_
      · rintro i σ H7 hi ⟨y, l7, ms, mvs, rfl, hM7, hD7, hlen7, hb7, hS7, kp7, D7, nMl7, nSl7⟩
        have hi' : i < 16 := by omega
        have e1 : k + 40 - 2 * i = k + 40 - 2 * (i + 1) + 2 := by omega
        rw [e1] at D7
        refine ⟨.ref M, rfl, .inl ⟨rfl, _, SqL.of hM7⟩, ?_⟩
        refine ⟨_, rfl, m, c, l7, k + 40 - 2 * (i + 1) + 1, 33, rfl, by decide, by decide, D7, fun r1 l8 H8 r10 r11 kp8 D8 => ⟨r1, 16, rfl, rfl, ?_⟩⟩
        obtain ⟨hM8, nMl8⟩ := kp8.own hM7 nMm nMl7
        obtain ⟨hS8, nSl8⟩ := kp8.own hS7 nSm nSl7
        refine ⟨_, rfl, m, c, l8, k + 40 - 2 * (i + 1), 5, rfl, by decide, by decide, D8, fun r2 l9 H9 r20 r21 kp9 D9 => ⟨r2, 2, rfl, rfl, by show 2 ≤ sizeLine; decide, fun p hp => ?_⟩⟩
        obtain ⟨hM9, nMl9⟩ := kp9.own hM8 nMm nMl8
        obtain ⟨hS9, nSl9⟩ := kp9.own hS8 nSm nSl8
        have hD9 : DpAll K H9 ms (mvs.map pairI) := dpAll_keep (keep_draw kp9 D8) _ _ (noLs_pairs _) (dpAll_keep (keep_draw kp8 D7) _ _ (noLs_pairs _) hD7)
        have sp := same_new (o := .tup [.int (r1 - 16), .int (r2 - 2)]) hp
        have hM10 := sp _ _ hM9
        have hS10 := sp _ _ hS9
        refine ⟨M, ms, _, rfl, rfl, hM10, ?_, ?_⟩
        · rw [dpAll_len hD7, List.length_map, hlen7]
          exact small1000 (by omega)
        · refine ⟨_, l9, ms ++ [.ref p], mvs ++ [(r1 - 16, r2 - 2)], rfl, upd_same, ?_, by simp [hlen7], ?_, (upd_ne nMS).trans hS10, (((kp7.trans kp8).trans kp9).trans (Kp.new hp)).set hM0, (D9.new hp).set nMm nMc nMl9, nMl9, nSl9⟩
          · rw [List.map_append]
            exact dpAll_app (pairs_set hM10 (dpAll_same sp _ _ hD9)) (.cons (dp_mkpair (s := (r1 - 16, r2 - 2)) (sqt_set hM10 upd_tup)) .nil)
          · intro x hx
            rcases List.mem_append.mp hx with h | h
            · exact hb7 x h
            · rw [List.mem_singleton.mp h]
              exact ⟨⟨by show -16 ≤ r1 - 16; omega, by show r1 - 16 ≤ 16; omega⟩, by show -2 ≤ r2 - 2; omega, by show r2 - 2 ≤ 2; omega⟩
      · rintro σ H7 ⟨y, l7, ms, mvs, rfl, hM7, hD7, hlen7, hb7, hS7, kp7, D7, nMl7, nSl7⟩
        have D7 : Dr H7 m c l7 (k + 2) := D7.less (by omega)
        -- fade
        refine ⟨_, rfl, m, c, l7, k + 1, 4, rfl, by decide, by decide, D7, fun f l8 H8 f0 f1 kp8 D8 => ⟨2, f, rfl, rfl, by show 4 ≤ sizeLine; decide, fun L hL8 => ?_⟩⟩
        obtain ⟨hM8, nMl8⟩ := kp8.own hM7 nMm nMl7
        obtain ⟨hS8, nSl8⟩ := kp8.own hS7 nSm nSl7
        have hD8 : DpAll K H8 ms (mvs.map pairI) := dpAll_keep (keep_draw kp8 D7) _ _ (noLs_pairs _) hD7
        obtain ⟨cs8, ls8, z8, e81, e82, e83, _⟩ := D8.ex
        have nLm : L ≠ m := (ne_of_none e81 hL8).symm
        have nLl : L ≠ l8 := (ne_of_none e83 hL8).symm
        have sL := same_new (o := .lst [V.int 0, V.int 0, V.int 2, V.int (2 + f)]) hL8
        have D9 : Dr (upd H8 L (.lst [V.int 0, V.int 0, V.int 2, V.int (2 + f)])) m c l8 (k + 1) := D8.new hL8
        have hL9 : (upd H8 L (.lst [V.int 0, V.int 0, V.int 2, V.int (2 + f)])) L = some (.lst [V.int 0, V.int 0, V.int 2, V.int (2 + f)]) := upd_same
        have kp9 : Kp m l H l8 (upd H8 L (.lst [V.int 0, V.int 0, V.int 2, V.int (2 + f)])) := (kp7.trans kp8).trans (Kp.new hL8)
        have hM9 := sL _ _ hM8
        have hS9 := sL _ _ hS8
        have hD9 := dpAll_same sL _ _ hD8
        generalize upd H8 L (.lst [V.int 0, V.int 0, V.int 2, V.int (2 + f)]) = H9 at sL D9 hL9 kp9 hM9 hS9 hD9
        refine ⟨_, rfl, m, c, l8, k, 4, rfl, by decide, by decide, D9, fun g l10 H10 g0 g1 kp10 D10 => ?_⟩
        obtain ⟨hL10, _⟩ := kp10.own hL9 nLm nLl
        obtain ⟨hM10, nMl10⟩ := kp10.own hM9 nMm nMl8
        obtain ⟨hS10, nSl10⟩ := kp10.own hS9 nSm nSl8
        have hD10 : DpAll K H10 ms (mvs.map pairI) := dpAll_keep (keep_draw kp10 D9) _ _ (noLs_pairs _) hD9
        obtain ⟨fd, hfd, hat⟩ : ∃ fd : Int, (fd = 0 ∨ (2 ≤ fd ∧ fd ≤ 5)) ∧ atI [V.int 0, V.int 0, V.int 2, V.int (2 + f)] g = some (.int fd) := by
          have hg : g = 0 ∨ g = 1 ∨ g = 2 ∨ g = 3 := by omega
          rcases hg with e | e | e | e <;> subst e
          · exact ⟨0, .inl rfl, atI_nat (j := 0) rfl⟩
          · exact ⟨0, .inl rfl, atI_nat (j := 1) rfl⟩
          · exact ⟨2, .inr ⟨by omega, by omega⟩, atI_nat (j := 2) rfl⟩
          · exact ⟨2 + f, .inr ⟨by omega, by omega⟩, atI_nat (j := 3) rfl⟩
        refine ⟨L, _, g, .int fd, rfl, rfl, SqL.of hL10, hat, ?_⟩
        -- the tuple
        refine ⟨_, rfl, _, rfl, .ref S, rfl, S, _, rfl, .inl ⟨SqL.of hS10, fun ts hts => ?_⟩⟩
        have s11 := same_new (o := .tup (ss.map V.int)) hts
        have hM11 := s11 _ _ hM10
        have t11 : (upd H10 ts (.tup (ss.map V.int))) ts = some (.tup (ss.map V.int)) := upd_same
        have hD11 := dpAll_same s11 _ _ hD10
        have kp11 : Kp m l H l10 (upd H10 ts (.tup (ss.map V.int))) := (kp9.trans kp10).trans (Kp.new hts)
        have D11 : Dr (upd H10 ts (.tup (ss.map V.int))) m c l10 k := D10.new hts
        generalize upd H10 ts (.tup (ss.map V.int)) = H11 at hM11 t11 hD11 kp11 D11
        refine ⟨.ref M, rfl, M, _, rfl, .inl ⟨SqL.of hM11, fun tm htm => ?_⟩⟩
        have s12 := same_new (o := .tup ms) htm
        have t12 := s12 _ _ t11
        have m12 : (upd H11 tm (.tup ms)) tm = some (.tup ms) := upd_same
        have hD12 := dpAll_same s12 _ _ hD11
        have kp12' : Kp m l H l10 (upd H11 tm (.tup ms)) := kp11.trans (Kp.new htm)
        have D12 : Dr (upd H11 tm (.tup ms)) m c l10 k := D11.new htm
        generalize upd H11 tm (.tup ms) = H12 at t12 m12 hD12 kp12' D12
        refine ⟨_, rfl, by show 5 ≤ sizeLine; decide, fun p hp => ?_⟩
        have s13 := same_new (o := .tup [V.int (0 - a), V.int b, V.ref ts, V.ref tm, V.int fd]) hp
        refine q _ ⟨0 - a, b, ss, mvs, fd⟩ l10 _ (kp12'.trans (Kp.new hp)) (D12.new hp) ⟨⟨by show -wide ≤ 0 - a; omega, by show 0 - a ≤ 0; omega⟩, ⟨b0, by show b ≤ wide; omega⟩, ⟨by show 1 ≤ ss.length; omega, by show (ss.length : Int) ≤ places; omega⟩, hss, ⟨by show 2 ≤ mvs.length; omega, by show (mvs.length : Int) ≤ codes; omega⟩, hb7, hfd⟩ ?_
        refine .tup upd_tup (.cons (.int _) (.cons (.int _) (.cons ?_ (.cons ?_ (.cons (.int _) .nil)))))
        · exact dp_tints (.inl (.inl (s13 _ _ t12)))
        · exact .tup (.inl (.inl (s13 _ _ m12))) (dpAll_same s13 _ _ hD12)
end
end My

namespace My
open PySem PySem.Spec PyProof.Rows L2
/-! ### the size of what is written out -/
structure Sh (k n : Nat) (d : PyData) : Prop where
  sh : d.showable = true
  nd : d.hasDict = false
  dp : d.depth ≤ k
  le : d.shown.length ≤ n
theorem Sh.mono {k n k' n' : Nat} {d : PyData} (h : Sh k n d) (h1 : k ≤ k') (h2 : n ≤ n') : Sh k' n' d := ⟨h.sh, h.nd, Nat.le_trans h.dp h1, Nat.le_trans h.le h2⟩
theorem sh_int {i : Int} (h : i.natAbs < 2 ^ 64) : Sh 0 1921 (.int i) := by
  have hl : i.natAbs.log2 < 1920 := Nat.lt_trans (PySem.Flt.log2_lt_of (by decide) h) (by decide)
  exact ⟨decide_eq_true hl, rfl, Nat.le_refl _, int_text_len_1921 hl⟩
theorem sh_all {k n : Nat} : ∀ {ds : List PyData}, (∀ d ∈ ds, Sh k n d) → PyData.showableAll ds = true ∧ PyData.hasDictAll ds = false ∧ PyData.depthAll ds ≤ k ∧ piled (PyData.shownAll ds) ≤ ds.length * (n + 2) ∧ (PyData.shownAll ds).length = ds.length
  | [], _ => ⟨rfl, rfl, Nat.zero_le _, Nat.zero_le _, rfl⟩
  | d :: r, h => by
    obtain ⟨h1, h2, h3, h4, h5⟩ := sh_all fun e he => h e (List.mem_cons_of_mem d he)
    have hd := h d List.mem_cons_self
    refine ⟨?_, ?_, ?_, ?_, ?_⟩
    · show (d.showable && PyData.showableAll r) = true
      rw [hd.sh, h1]
      rfl
    · show (d.hasDict || PyData.hasDictAll r) = false
      rw [hd.nd, h2]
      rfl
    · show max d.depth (PyData.depthAll r) ≤ k
      exact Nat.max_le.mpr ⟨hd.dp, h3⟩
    · show piled (d.shown :: PyData.shownAll r) ≤ (r.length + 1) * (n + 2)
      rw [piled_cons, Nat.succ_mul]
      have := hd.le
      omega
    · show (PyData.shownAll r).length + 1 = r.length + 1
      rw [h5]
theorem sh_tup {k n : Nat} {ds : List PyData} (h : ∀ d ∈ ds, Sh k n d) : Sh (k + 1) (ds.length * (n + 2) + 3) (.tuple ds) := by
  obtain ⟨h1, h2, h3, h4, h5⟩ := sh_all h
  refine ⟨h1, h2, Nat.succ_le_succ h3, ?_⟩
  show (tupleText (PyData.shownAll ds)).length ≤ _
  unfold tupleText
  rw [strLen_append, strLen_append]
  have e1 : ((("(" : String) : Str)).length = 1 := rfl
  have e3 : (((if (PyData.shownAll ds).length == 1 then ",)" else ")" : String) : Str)).length ≤ 2 := by split <;> decide
  rw [e1]
  by_cases hn : PyData.shownAll ds = []
  · rw [hn] at e3 ⊢
    have : (Str.join ", " []).length = 0 := rfl
    omega
  · have := join_length_add (PyData.shownAll ds) hn
    omega
theorem sh_list2 {k n : Nat} {a b : PyData} (h1 : Sh k n a) (h2 : Sh k n b) : Sh (k + 1) (2 * n + 4) (.list [a, b]) := by
  refine ⟨?_, ?_, ?_, ?_⟩
  · show (a.showable && (b.showable && true)) = true
    rw [h1.sh, h2.sh]
    rfl
  · show (a.hasDict || (b.hasDict || false)) = false
    rw [h1.nd, h2.nd]
    rfl
  · show max a.depth (max b.depth 0) + 1 ≤ k + 1
    have := h1.dp
    have := h2.dp
    omega
  · show (listText [a.shown, b.shown]).length ≤ _
    have e : listText [a.shown, b.shown] = (((((Str.ofString "[" ++ Str.ofString "") ++ a.shown) ++ Str.ofString ", ") ++ b.shown) ++ Str.ofString "]") := rfl
    rw [e, strLen_append, strLen_append, strLen_append, strLen_append, strLen_append]
    have e0 : (Str.ofString "").length = 0 := by decide
    have e1 : (Str.ofString "[").length = 1 := by decide
    have e2 : (Str.ofString "]").length = 1 := by decide
    have e3 : (Str.ofString ", ").length = 2 := by decide
    have := h1.le
    have := h2.le
    omega
theorem sh_ints {ns : List Int} (h : ∀ z ∈ ns, z.natAbs < 2 ^ 64) : Sh 1 (ns.length * 1923 + 3) (.tuple (ns.map .int)) := by
  have := sh_tup (k := 0) (n := 1921) (ds := ns.map .int) fun d hd => by
    obtain ⟨z, hz, rfl⟩ := List.mem_map.mp hd
    exact sh_int (h z hz)
  rw [List.length_map] at this
  exact this
theorem sh_pair {s : Int × Int} (h1 : s.1.natAbs < 2 ^ 64) (h2 : s.2.natAbs < 2 ^ 64) : Sh 1 4000 (pairI s) :=
  (sh_tup (k := 0) (n := 1921) (ds := [.int s.1, .int s.2]) fun d hd => by
    rcases List.mem_cons.mp hd with e | e
    · rw [e]; exact sh_int h1
    · rw [List.mem_singleton.mp e]; exact sh_int h2).mono (Nat.le_refl _) (by simp)
theorem sz_line {n : Nat} (h : n ≤ 1000000) : n ≤ sizeLine := Nat.le_trans h (by decide)
/-! ### slices and sums of tuples -/
theorem cut_take {xs : List V} {n : Nat} (h : n ≤ xs.length) : cutV xs none (some (n : Int)) = xs.take n := by
  unfold cutV
  rw [HT.sIx_none, HT.sIx_nat, Nat.min_eq_left h]
  rfl
theorem cut_drop {xs : List V} {n : Nat} (h : n ≤ xs.length) : cutV xs (some (n : Int)) none = xs.drop n := by
  unfold cutV
  rw [HT.sIx_none, HT.sIx_nat, Nat.min_eq_left h]
  exact List.take_of_length_le (by simp)
theorem dp_row {K : PySem.W.Frag} {H : Hp} {a : Addr} {r : List Nat} (h : SqT K H a (rowV r)) : Dp K H (.ref a) (rowI r) := by
  refine .tup h ?_
  clear h
  induction r with
  | nil => exact .nil
  | cons n r ih => exact .cons (.int n) ih
theorem sl_take {K : PySem.W.Frag} {H : Hp} {a : Addr} {r : List Nat} {n : Nat} {Q : VK} (h : SqT K H a (rowV r)) (hn : n ≤ r.length) (k : ∀ v H', Same H H' → Dp K H' v (rowI (r.take n)) → Q v H') :
    rSlA K (.ref a) none (some (n : Int)) H Q := by
  have hl : (rowV r).length = r.length := List.length_map ..
  refine ⟨a, rowV r, rfl, h, fun ⟨_, e⟩ => ?_, fun _ p hp => ?_⟩
  · rw [HT.sIx_nat, hl, Nat.min_eq_left hn] at e
    refine k _ H (Same.refl H) ?_
    rw [e, List.take_length]
    exact dp_row h
  · refine k _ _ (same_new hp) ?_
    rw [cut_take (by omega), show (rowV r).take n = rowV (r.take n) from List.map_take.symm]
    exact dp_row upd_tup
theorem sl_drop {K : PySem.W.Frag} {H : Hp} {a : Addr} {r : List Nat} {n : Nat} {Q : VK} (h : SqT K H a (rowV r)) (hn : n ≤ r.length) (k : ∀ v H', Same H H' → Dp K H' v (rowI (r.drop n)) → Q v H') :
    rSlA K (.ref a) (some (n : Int)) none H Q := by
  have hl : (rowV r).length = r.length := List.length_map ..
  refine ⟨a, rowV r, rfl, h, fun ⟨e, _⟩ => ?_, fun _ p hp => ?_⟩
  · rw [HT.sIx_nat, hl, Nat.min_eq_left hn] at e
    refine k _ H (Same.refl H) ?_
    rw [e]
    exact dp_row h
  · refine k _ _ (same_new hp) ?_
    rw [cut_drop (by omega), show (rowV r).drop n = rowV (r.drop n) from List.map_drop.symm]
    exact dp_row upd_tup
theorem cat_ints {K : PySem.W.Frag} {H : Hp} {a b : Addr} {ns ms : List Int} {Q : VK} (ha : SqT K H a (ns.map V.int)) (hb : SqT K H b (ms.map V.int)) (hl : ns.length + ms.length ≤ sizeLine)
    (k : ∀ v H', Same H H' → Dp K H' v (.tuple ((ns ++ ms).map .int)) → Q v H') : rCatA K (.ref a) (.ref b) H Q := by
  refine ⟨a, b, _, _, rfl, rfl, ha, hb, by rw [List.length_map, List.length_map]; exact hl, fun e => ?_, fun _ e => ?_, fun _ _ p hp => ?_⟩
  · have e' : ns = [] := List.map_eq_nil_iff.mp e
    refine k _ H (Same.refl H) ?_
    rw [e']
    exact dp_tints hb
  · have e' : ms = [] := List.map_eq_nil_iff.mp e
    refine k _ H (Same.refl H) ?_
    rw [e', List.append_nil]
    exact dp_tints ha
  · refine k _ _ (same_new hp) (dp_tints ?_)
    rw [List.map_append]
    exact upd_tup
theorem dp_last {K : PySem.W.Frag} {H : Hp} {xs : List V} {ps : List (Int × Int)} {s : Int × Int} (h : DpAll K H xs ((ps ++ [s]).map pairI)) : ∃ ys z, xs = ys ++ [z] ∧ Dp K H z (pairI s) := by
  have hl := dpAll_len h
  have hne : xs ≠ [] := by
    intro e
    rw [e] at hl
    simp at hl
  obtain ⟨z, hz, hd⟩ := dpAll_get' h (i := ps.length) (d := pairI s) (by rw [List.map_append, List.getElem?_append_right (by simp)]; simp)
  refine ⟨xs.dropLast, z, ?_, hd⟩
  have hxl : xs.length = ps.length + 1 := by rw [hl]; simp
  have : xs.getLast hne = z := by
    rw [List.getLast_eq_getElem]
    have e : xs[xs.length - 1]? = some z := by rw [hxl]; exact hz
    exact (List.getElem?_eq_some_iff.mp e).2
  rw [← this]
  exact (List.dropLast_concat_getLast hne).symm
/-- repr(..) of data that is small -/
theorem rr {K : PySem.W.Frag} {H : Hp} {v : V} {d : PyData} {k n : Nat} {Q : VK} (h : Dp K H v d) (s : Sh k n d) (hk : k ≤ 60) (hn : n ≤ 1000000) (q : Q (.str d.shown) H) : rRepr K [v] H Q :=
  ⟨v, d, rfl, h, s.sh, s.nd, Nat.le_trans s.dp hk, sz_line (Nat.le_trans s.le hn), q⟩
/-- x != y of equal texts -/
theorem ne_same {x : Str} {A B : Hp → Prop} {H : Hp} (q : B H) : rNe (.str x) (.str x) H fun v H' => ∃ c, v = .bl c ∧ if c = true then A H' else B H' := by
  refine ⟨rfl, false, ?_, iteF q⟩
  show V.bl (!decide (V.str x = V.str x)) = V.bl false
  rw [decide_eq_true rfl]
  rfl
theorem eq_same {x : Str} {H : Hp} {Q : VK} (q : Q (.bl true) H) : rEq (.str x) (.str x) H Q := by
  refine ⟨rfl, ?_⟩
  rw [decide_eq_true rfl]
  exact q
section
variable {P : Program} {w : World} {K : PySem.W.Frag} {mg : Str → Option Value} {base : Heap}
def sp_law_some_state (K : PySem.W.Frag) : Sp := fun vs H Q _ => ∃ (m c l : Addr) (k : Nat) (x : V) (C : Cod), vs = [.ref m, x] ∧ C.Ok ∧ Dp K H x C.dat ∧ Dr H m c l (k + 2) ∧
  ∀ z s l' H', Kp m l H l' H' → Dr H' m c l' k → C.St s → Dp K H' z (pairI s) → Q z H'
theorem ok_law_some_state (T : Txt K mg) : FnOk P w K mg base CX0 3 T.f__law_some_state T.d__law_some_state ["m", "coder"] (sp_law_some_state K) := by
  refine T.F__law_some_state.ok sc_law_some_state (fun vs H Q E h => ?_) (fun cdv A outer s H vs Q E hr h => ?_)
  · obtain ⟨m, c, l, k, x, C, rfl, _⟩ := h
    rfl
  · obtain ⟨m, c, l, k, x, C, rfl, O, hc, D, q⟩ := h
    obtain ⟨a, s, mm, ms, rfl, ha, hs, hm, hmd⟩ := cod_at hc
    have := O.l1
    have := O.l2
    have := O.h1
    have := O.h2
    have := O.s1
    have := O.s2
    refine ⟨_,
(pss_one (ps_ret (pe_tup (pa_cons (pe_op op_add (pe_ix ix_tup (pv 1) pe_int (fun _ _ => rfl)) (pe_call (ok_law_next T) (hr.mono (by decide)) (by rfl) T.g__law_next T.F__law_next.kp T.b__law_next .nil pass0 (pa_cons (pv 0) (pa_cons (pe_op op_add (pe_op op_sub (pe_ix ix_tup (pv 1) pe_int (fun _ _ => rfl)) (pe_ix ix_tup (pv 1) pe_int (fun _ _ => rfl))) pe_int) pa_nil)))) (pa_cons (pe_call (ok_law_next T) (hr.mono (by decide)) (by rfl) T.g__law_next T.F__law_next.kp T.b__law_next .nil pass0 (pa_cons (pv 0) (pa_cons (pe_callB (call_len_seq) (by rfl) T.z_len (by decide +kernel) (pa_cons (pe_ix ix_tup (pv 1) pe_int (fun _ _ => rfl)) pa_nil)) pa_nil))) pa_nil)))))
, ?_⟩
    refine ⟨_, rfl, a, _, 0, _, rfl, rfl, ha, atI_nat (j := 0) rfl, ?_⟩
    refine ⟨_, rfl, _, rfl, a, _, 1, _, rfl, rfl, ha, atI_nat (j := 1) rfl, _, rfl, a, _, 0, _, rfl, rfl, ha, atI_nat (j := 0) rfl, C.high, C.low, rfl, rfl, _, _, rfl, rfl, m, c, l, k + 1, C.high - C.low + 1, rfl, by omega, by omega, D,
      fun r l1 H1 r0 r1 kp1 D1 => ⟨C.low, r, rfl, rfl, ?_⟩⟩
    have K1 := keep_draw kp1 D
    refine ⟨_, rfl, _, rfl, a, _, 2, _, rfl, rfl, K1.tup ha, atI_nat (j := 2) rfl, s, _, rfl, .inr (K1.tup hs), m, c, l1, k, ((C.steps.map V.int).length : Int), rfl, ?_, ?_, D1, fun p l2 H2 p0 p1 kp2 D2 => ⟨by show 2 ≤ sizeLine; decide, fun z hz => ?_⟩⟩
    · rw [List.length_map]; omega
    · rw [List.length_map]; omega
    rw [List.length_map] at p1
    exact q _ (C.low + r, p) l2 _ ((kp1.trans kp2).trans (Kp.new hz)) (D2.new hz) ⟨by show C.low ≤ C.low + r; omega, by show C.low + r ≤ C.high; omega, p0, p1⟩ (dp_mkpair upd_tup)
end
end My

/-! how long the texts of data are -/
namespace My
open PySem PySem.Spec PyProof.Rows L2
theorem textFrom_le {n : Nat} : ∀ (ts : List Str) (k : Nat) (acc : Str), (∀ t ∈ ts, t.length ≤ n) → (textFrom k acc ts).length ≤ acc.length + ts.length * (n + 2)
  | [], k, acc, _ => by show acc.length ≤ _; omega
  | t :: ts, k, acc, h => by
    have ht := h t List.mem_cons_self
    have hr := textFrom_le ts (k + 1) (acc ++ (if k > 0 then ", " else "" : String) ++ t) fun e he => h e (List.mem_cons_of_mem _ he)
    show (textFrom (k + 1) (acc ++ (if k > 0 then ", " else "" : String) ++ t) ts).length ≤ _
    have e : (((if k > 0 then ", " else "" : String) : Str)).length ≤ 2 := by split <;> decide
    rw [strLen_append, strLen_append] at hr
    rw [List.length_cons, Nat.succ_mul]
    omega
theorem shown_all {n : Nat} : ∀ {ds : List PyData}, (∀ d ∈ ds, d.shown.length ≤ n) → ∀ t ∈ PyData.shownAll ds, t.length ≤ n
  | [], _, _, ht => by cases ht
  | d :: r, h, t, ht => by
    rcases List.mem_cons.mp (show t ∈ d.shown :: PyData.shownAll r from ht) with e | e
    · rw [e]; exact h d List.mem_cons_self
    · exact shown_all (fun e he => h e (List.mem_cons_of_mem _ he)) t e
theorem sh_list {k n : Nat} {ds : List PyData} (h : ∀ d ∈ ds, Sh k n d) : Sh (k + 1) (ds.length * (n + 2) + 2) (.list ds) := by
  obtain ⟨h1, h2, h3, h4, h5⟩ := sh_all h
  refine ⟨h1, h2, Nat.succ_le_succ h3, ?_⟩
  show (listText (PyData.shownAll ds)).length ≤ _
  unfold listText
  rw [strLen_append]
  have e1 : ((("[" : String) : Str)).length = 1 := rfl
  have e2 : ((("]" : String) : Str)).length = 1 := rfl
  have := textFrom_le (n := n) (PyData.shownAll ds) 0 "[" (shown_all fun d hd => (h d hd).le)
  rw [h5] at this
  omega
theorem sh_cod {C : Cod} (O : C.Ok) : Sh 3 400000 C.dat := by
  have a : Sh 2 70000 (.tuple (C.steps.map .int)) := (sh_ints fun z hz => by
    have := O.s3 z hz
    omega).mono (by decide) (by have := O.s2; omega)
  have b : Sh 2 70000 (.tuple (C.moves.map pairI)) := by
    refine (sh_tup (k := 1) (n := 4000) (ds := C.moves.map pairI) fun d hd => ?_).mono (Nat.le_refl _) (by rw [List.length_map]; have := O.m2; omega)
    obtain ⟨p, hp, rfl⟩ := List.mem_map.mp hd
    have := O.m3 p hp
    exact sh_pair (by omega) (by omega)
  have l := O.l1
  have l2 := O.l2
  have h1 := O.h1
  have h2 := O.h2
  have i : ∀ z : Int, z.natAbs < 2 ^ 64 → Sh 2 70000 (.int z) := fun z hz => (sh_int hz).mono (by decide) (by decide)
  refine (sh_tup (k := 2) (n := 70000) (ds := [.int C.low, .int C.high, .tuple (C.steps.map .int), .tuple (C.moves.map pairI), .int C.fade]) fun d hd => ?_).mono (Nat.le_refl _) (by simp)
  rcases List.mem_cons.mp hd with e | hd
  · rw [e]; exact i _ (by omega)
  rcases List.mem_cons.mp hd with e | hd
  · rw [e]; exact i _ (by omega)
  rcases List.mem_cons.mp hd with e | hd
  · rw [e]; exact a
  rcases List.mem_cons.mp hd with e | hd
  · rw [e]; exact b
  · rw [List.mem_singleton.mp hd]; exact i _ (by have := O.f1; omega)
theorem sh_non : Sh 0 2000 .none := ⟨rfl, rfl, Nat.le_refl _, by decide +kernel⟩
theorem sh_bl : Sh 0 2000 (.bool true) := ⟨rfl, rfl, Nat.le_refl _, by decide +kernel⟩
theorem sh_bf : Sh 0 2000 (.bool false) := ⟨rfl, rfl, Nat.le_refl _, by decide +kernel⟩
theorem sh_i {i : Int} (h : i.natAbs < 2 ^ 64) : Sh 0 2000 (.int i) := (sh_int h).mono (Nat.le_refl _) (by decide)
theorem all0 {p : PyData → Prop} : ∀ d ∈ ([] : List PyData), p d := fun _ h => by cases h
theorem all1 {p : PyData → Prop} {a : PyData} {r : List PyData} (h : p a) (hr : ∀ d ∈ r, p d) : ∀ d ∈ a :: r, p d := fun d hd => by
  rcases List.mem_cons.mp hd with e | e
  · rw [e]; exact h
  · exact hr d e
/-- of at most three small things -/
theorem sh_t {k n : Nat} {ds : List PyData} (hl : ds.length ≤ 3) (h : ∀ d ∈ ds, Sh k n d) : Sh (k + 1) (3 * (n + 2) + 3) (.tuple ds) :=
  (sh_tup h).mono (Nat.le_refl _) (Nat.add_le_add_right (Nat.mul_le_mul_right _ hl) _)
theorem sh_l {k n : Nat} {ds : List PyData} (hl : ds.length ≤ 3) (h : ∀ d ∈ ds, Sh k n d) : Sh (k + 1) (3 * (n + 2) + 3) (.list ds) :=
  (sh_list h).mono (Nat.le_refl _) (Nat.add_le_add (Nat.mul_le_mul_right _ hl) (by decide))
end My

namespace My
open PySem PySem.Spec PyProof.Rows L2
section
variable {P : Program} {w : World} {K : PySem.W.Frag} {mg : Str → Option Value} {base : Heap}
theorem ok_law_parted (T : Txt K mg) : FnOk P w K mg base CX0 2 T.f__law_parted T.d__law_parted ["number", "by"] sp_rounded := by
  refine T.F__law_parted.ok sc_law_parted (fun vs H Q E h => ?_) (fun cdv A outer s H vs Q E hr h => ?_)
  · obtain ⟨n, d, rfl, _⟩ := h
    rfl
  · obtain ⟨n, d, rfl, h1, h2, q⟩ := h
    have q' : ∀ z, rnd n d = z → Q (.int z) H := fun z e => e ▸ q
    refine ⟨_,
(pss_one (ps_ret (pe_ifExp (pt_cmpR op_ge (pv 0) pe_int (nomark _)) (pe_op op_fdivN (pv 0) (pv 1)) (pe_op op_sub pe_int (pe_op op_fdivN (pe_op op_sub pe_int (pv 0)) (pv 1))))))
, ?_⟩
    refine ⟨_, rfl, n, 0, rfl, rfl, _, rfl, ?_⟩
    refine ite2 (fun e => ?_) (fun e => ?_)
    · have e := of_decide_eq_true e
      refine ⟨_, rfl, _, rfl, n, d, rfl, rfl, ⟨by omega, by omega⟩, q' _ ?_⟩
      unfold rnd
      rw [if_neg (by omega)]
    · have e : ¬ 0 ≤ n := fun z => e (decide_eq_true z)
      refine ⟨_, rfl, 0, n, rfl, rfl, _, rfl, _, d, rfl, rfl, ⟨by omega, by omega⟩, 0, _, rfl, rfl, q' _ ?_⟩
      unfold rnd
      rw [if_pos (by omega), Int.zero_sub, Int.zero_sub]
theorem ok_law_limited (T : Txt K mg) : FnOk P w K mg base CX0 2 T.f__law_limited T.d__law_limited ["number", "least", "most"] sp_limited := by
  refine T.F__law_limited.ok sc_law_limited (fun vs H Q E h => ?_) (fun cdv A outer s H vs Q E hr h => ?_)
  · obtain ⟨n, lo, hi, rfl, _⟩ := h
    rfl
  · obtain ⟨n, lo, hi, rfl, h1, q⟩ := h
    have q' : ∀ z, lim n lo hi = z → Q (.int z) H := fun z e => e ▸ q
    refine ⟨_,
(pss_one (ps_ret (pe_ifExp (pt_cmpR op_lt (pv 0) (pv 1) (nomark _)) (pv 1) (pe_ifExp (pt_cmpR op_gt (pv 0) (pv 2) (nomark _)) (pv 2) (pv 0)))))
, ?_⟩
    refine ⟨_, rfl, _, rfl, n, lo, rfl, rfl, _, rfl, ?_⟩
    refine ite2 (fun e => ?_) (fun e => ?_)
    · have e := of_decide_eq_true e
      refine ⟨_, rfl, q' _ ?_⟩
      unfold lim
      rw [if_pos e]
    · have e : ¬ n < lo := fun z => e (decide_eq_true z)
      refine ⟨_, rfl, _, rfl, n, hi, rfl, rfl, _, rfl, ?_⟩
      refine ite2 (fun e' => ?_) (fun e' => ?_)
      · have e' := of_decide_eq_true e'
        refine ⟨_, rfl, q' _ ?_⟩
        unfold lim
        rw [if_neg e, if_pos (by omega)]
      · have e' : ¬ hi < n := fun z => e' (decide_eq_true z)
        refine ⟨_, rfl, q' _ ?_⟩
        unfold lim
        rw [if_neg e, if_neg (by omega)]
set_option maxHeartbeats 4000000 in
theorem ok_law_led (T : Txt K mg) : FnOk P w K mg base CX0 3 T.f__law_led T.d__law_led ["coder", "here", "code"] (sp_state_behind K) := by
  refine T.F__law_led.ok sc_law_led (fun vs H Q E h => ?_) (fun cdv A outer s H vs Q E hr h => ?_)
  · obtain ⟨c, x, C, s, k, rfl, _⟩ := h
    rfl
  · obtain ⟨c, x, C, st, k, rfl, O, hc, hx, hst, hk, q⟩ := h
    obtain ⟨a, s, m, ms, rfl, ha, hs, hm, hmd⟩ := cod_at hc
    obtain ⟨t, ht, hT⟩ := move_at hmd hk
    obtain ⟨b, rfl, hb⟩ := dp_pair hx
    obtain ⟨i1, i2, i3, i4⟩ := hst
    have e2 : st.2 = (st.2.toNat : Int) := by omega
    refine ⟨_,
(pss_cons (ps_asg (pe_ix ix_tup (pe_ix ix_tup (pv 0) pe_int (fun _ _ => rfl)) (pv 2) (fun _ _ => rfl)) (pg_tup (by rfl) (pgs_cons (pg_name (i := 3) sc_law_led.nd rfl (Or.inl rfl)) (pgs_cons (pg_name (i := 4) sc_law_led.nd rfl (Or.inl rfl)) pgs_nil))))
      (pss_cons (ps_set (i := 5) sc_law_led.nd rfl (Or.inl rfl) (pe_ix ix_tup (pv 1) pe_int (fun _ _ => rfl)))
      (pss_cons (ps_if (pt_cmpR op_ne (pe_ix ix_tup (pv 0) pe_int (fun _ _ => rfl)) pe_int (nomark _)) (pss_one (ps_set (i := 5) sc_law_led.nd rfl (Or.inl rfl) (pe_op op_sub (pv 5) (pe_call (ok_law_parted T) (hr.mono (by decide)) (by rfl) T.g__law_parted T.F__law_parted.kp T.b__law_parted .nil pass0 (pa_cons (pv 5) (pa_cons (pe_ix ix_tup (pv 0) pe_int (fun _ _ => rfl)) pa_nil)))))) pss_nil)
      (pss_cons (ps_set (i := 5) sc_law_led.nd rfl (Or.inl rfl) (pe_op op_add (pv 5) (pe_call (ok_law_parted T) (hr.mono (by decide)) (by rfl) T.g__law_parted T.F__law_parted.kp T.b__law_parted .nil pass0 (pa_cons (pe_op op_mul (pv 3) (pe_ix ix_tup (pe_ix ix_tup (pv 0) pe_int (fun _ _ => rfl)) (pe_ix ix_tup (pv 1) pe_int (fun _ _ => rfl)) (fun _ _ => rfl))) (pa_cons pe_int pa_nil)))))
      (pss_one (ps_ret (pe_tup (pa_cons (pe_call (ok_law_limited T) (hr.mono (by decide)) (by rfl) T.g__law_limited T.F__law_limited.kp T.b__law_limited .nil pass0 (pa_cons (pv 5) (pa_cons (pe_ix ix_tup (pv 0) pe_int (fun _ _ => rfl)) (pa_cons (pe_ix ix_tup (pv 0) pe_int (fun _ _ => rfl)) pa_nil)))) (pa_cons (pe_call (ok_law_limited T) (hr.mono (by decide)) (by rfl) T.g__law_limited T.F__law_limited.kp T.b__law_limited .nil pass0 (pa_cons (pe_op op_add (pe_ix ix_tup (pv 1) pe_int (fun _ _ => rfl)) (pv 4)) (pa_cons pe_int (pa_cons (pe_op op_sub (pe_callB (call_len_seq) (by rfl) T.z_len (by decide +kernel) (pa_cons (pe_ix ix_tup (pv 0) pe_int (fun _ _ => rfl)) pa_nil)) pe_int) pa_nil)))) pa_nil)))))))))
, ?_⟩
    refine ⟨_, rfl, a, _, 3, _, rfl, rfl, ha, atI_nat (j := 3) rfl, _, rfl, m, _, k, _, rfl, rfl, hm, atI_nat ht, t, _, rfl, hT, rfl, _, _, rfl, _, _, rfl, rfl, ?_⟩
    refine ⟨_, rfl, b, _, 0, _, rfl, rfl, hb, atI_nat (j := 0) rfl, ?_⟩
    dsimp only
    refine st_tail (fun σ H' => σ = [some (.ref a), some (.ref b), some (.int k), some (.int (C.moves.getD k (0, 0)).1), some (.int (C.moves.getD k (0, 0)).2), some (.int (fdd st.1 C.fade))] ∧ H' = H) ?_ fun tail => ?_
    · rintro σ H' ⟨rfl, rfl⟩
      refine ⟨_, rfl, _, rfl, .ref a, rfl, a, _, 2, _, rfl, rfl, ha, atI_nat (j := 2) rfl, _, rfl, b, _, 1, _, rfl, rfl, hb, atI_nat (j := 1) rfl, s, _, st.2, .int (C.steps.getD st.2.toNat 0), rfl, rfl, hs, ?_, _, _, rfl, rfl, ?_, ?_⟩
      · rw [e2]
        exact atI_nat (step_at (by omega))
      · have hm3 : (C.moves.getD k (0, 0)) ∈ C.moves := by
          rw [List.getD_eq_getElem?_getD, List.getElem?_eq_getElem hk]
          exact List.getElem_mem hk
        have := O.m3 _ hm3
        exact .inl ⟨by omega, by omega⟩
      refine ⟨_, 8, rfl, by decide, by decide, _, _, rfl, rfl, ?_⟩
      refine ⟨_, rfl, _, rfl, a, _, 0, _, rfl, rfl, ha, atI_nat (j := 0) rfl, _, rfl, a, _, 1, _, rfl, rfl, ha, atI_nat (j := 1) rfl, _, _, _, rfl, by have := O.l2; have := O.h1; omega, ?_⟩
      refine ⟨_, rfl, b, _, 1, _, rfl, rfl, hb, atI_nat (j := 1) rfl, .int (C.moves.getD k (0, 0)).2, rfl, _, _, rfl, rfl, .ref a, rfl, a, _, 2, _, rfl, rfl, ha, atI_nat (j := 2) rfl, s, C.steps.map V.int, rfl, .inr hs, ((C.steps.map V.int).length : Int), 1, rfl, rfl, ?_⟩
      refine ⟨st.2 + (C.moves.getD k (0, 0)).2, 0, ((C.steps.map V.int).length : Int) - 1, rfl, ?_, ?_⟩
      · show (0 : Int) ≤ ((C.steps.map V.int).length : Int) - 1
        rw [List.length_map]
        have := O.s1
        omega
      refine ⟨by show 2 ≤ sizeLine; decide, fun p hp => ?_⟩
      have := q p hp
      unfold Cod.led at this
      have e : ((C.steps.map V.int).length : Int) = (C.steps.length : Int) := by rw [List.length_map]
      rw [← e] at this
      exact this
    · refine ⟨_, rfl, a, _, 4, _, rfl, rfl, ha, atI_nat (j := 4) rfl, rfl, _, rfl, ?_⟩
      show if (!decide (V.int C.fade = V.int 0)) = true then _ else _
      by_cases e : C.fade = 0
      · rw [e]
        refine iteF ?_
        refine tail _ _ ⟨?_, rfl⟩
        unfold fdd
        rw [if_pos e]
        rfl
      · have e' : decide (V.int C.fade = V.int 0) = false := decide_eq_false fun z => e (V.int.inj z)
        rw [e']
        refine iteT ?_
        refine ⟨.int st.1, rfl, .int st.1, rfl, .ref a, rfl, a, _, 4, _, rfl, rfl, ha, atI_nat (j := 4) rfl, st.1, C.fade, rfl, by have := O.f1; omega, by have := O.f1; omega, st.1, rnd st.1 C.fade, rfl, rfl, ?_⟩
        refine tail _ _ ⟨?_, rfl⟩
        unfold fdd
        rw [if_neg e]
        rfl
/-- the states of a row, the beginning one too -/
def Cod.path (C : Cod) (s : Int × Int) : List Nat → List (Int × Int)
  | [] => [s]
  | k :: r => s :: Cod.path C (C.led s k) r
theorem path_snoc {C : Cod} : ∀ (r : List Nat) (s : Int × Int) (k : Nat), C.path s (r ++ [k]) = C.path s r ++ [C.led (C.run s r) k]
  | [], _, _ => rfl
  | j :: r, s, k => by
    show s :: C.path (C.led s j) (r ++ [k]) = _
    rw [path_snoc r (C.led s j) k]
    rfl
theorem path_last {C : Cod} : ∀ (r : List Nat) (s : Int × Int), ∃ l, C.path s r = l ++ [C.run s r]
  | [], s => ⟨[], rfl⟩
  | j :: r, s => by
    obtain ⟨l, e⟩ := path_last r (C.led s j)
    exact ⟨s :: l, by show s :: C.path (C.led s j) r = _; rw [e]; rfl⟩
theorem path_len {C : Cod} : ∀ (r : List Nat) (s : Int × Int), (C.path s r).length = r.length + 1
  | [], _ => rfl
  | j :: r, s => congrArg (· + 1) (path_len r (C.led s j))
theorem path_get {C : Cod} : ∀ (r : List Nat) (s : Int × Int) (i : Nat), i ≤ r.length → (C.path s r)[i]? = some (C.run s (r.take i))
  | [], _, 0, _ => rfl
  | [], _, i + 1, h => by simp at h
  | j :: r, s, 0, _ => rfl
  | j :: r, s, i + 1, h => by
    show (C.path (C.led s j) r)[i]? = _
    exact path_get r _ i (by simpa using h)
theorem path_tail {C : Cod} : ∀ (r : List Nat) (s : Int × Int), ((C.path s r).drop 1).map (·.1) = C.lev s r
  | [], _ => rfl
  | [k], _ => rfl
  | k :: j :: r, s => by
    have ih := path_tail (C := C) (j :: r) (C.led s k)
    show (C.path (C.led s k) (j :: r)).map (·.1) = (C.led s k).1 :: C.lev (C.led s k) (j :: r)
    rw [← ih]
    rfl
/-- a row of codes, maybe longer than a row may be -/
structure Cod.RowL (C : Cod) (r : List Nat) : Prop where
  len : r.length ≤ 70000
  lt : ∀ k ∈ r, k < C.moves.length
def sp_law_walked (K : PySem.W.Frag) : Sp := fun vs H Q _ => ∃ (c x r : V) (C : Cod) (row : List Nat) (s : Int × Int), vs = [c, x, r] ∧ C.Ok ∧ Dp K H c C.dat ∧ Dp K H r (rowI row) ∧ C.RowL row ∧ Dp K H x (pairI s) ∧ C.St s ∧
  ∀ p xs H', Same H H' → H p = none → H' p = some (.lst xs) → DpAll K H' xs ((C.path s row).map pairI) → Q (.ref p) H'
theorem ok_law_walked (T : Txt K mg) : FnOk P w K mg base CX0 4 T.f__law_walked T.d__law_walked ["coder", "here", "row"] (sp_law_walked K) := by
  refine T.F__law_walked.ok sc_law_walked (fun vs H Q E h => ?_) (fun cdv A outer s H vs Q E hr h => ?_)
  · obtain ⟨c, x, r, C, row, s, rfl, _⟩ := h
    rfl
  · obtain ⟨c, x, r, C, row, st, rfl, O, hc, hrow, R, hx, hst, q⟩ := h
    refine ⟨_,
(pss_cons (ps_set (i := 3) sc_law_walked.nd rfl (Or.inl rfl) (pe_lst (pa_cons (pv 1) pa_nil)))
      (pss_cons (ps_for PassesOwn.never rfl (pi_tup (pv 2)) (pg_name (i := 4) sc_law_walked.nd rfl (Or.inl rfl)) (pss_one (ps_expr (pe_bm PySem.F.plainAttrs_list PySem.F.slot_list_append PySem.F.type_list_append mt_append (pv 3) (pa_cons (pe_call (ok_law_led T) (hr.mono (by decide)) (by rfl) T.g__law_led T.F__law_led.kp T.b__law_led .nil pass0 (pa_cons (pv 0) (pa_cons (pe_ix ix_list (pv 3) (pe_un un_neg pe_int) (fun _ _ => rfl)) (pa_cons (pv 4) pa_nil)))) pa_nil)))))
      (pss_one (ps_ret (pv 3)))))
, ?_⟩
    refine ⟨x, rfl, by show 1 ≤ sizeLine; decide, fun l hl => ?_⟩
    have s1 := same_new (o := .lst [x]) hl
    obtain ⟨a, rfl, ha⟩ := row_at hrow
    refine ⟨.ref a, rfl, a, rfl, ⟨_, same_tup s1 ha⟩, ?_⟩
    refine for_tup (K := K) (a := a) (xs := rowV row) (fun i σ H' => ∃ xs y, σ = [some c, some x, some (.ref a), some (.ref l), y] ∧ Same H H' ∧ H' l = some (.lst xs) ∧ DpAll K H' xs ((C.path st (row.take i)).map pairI))
      ⟨[x], none, rfl, s1, upd_same, .cons (dp_same s1 _ _ hx) .nil⟩ ?_ ?_ ?_
    · rintro i σ H' _ ⟨_, _, _, s2, _⟩
      exact same_tup s2 ha
    · rintro i v σ H' hi ⟨xs, y, rfl, s2, hL, hD⟩
      obtain ⟨k, hk, rfl⟩ := rowV_get hi
      obtain ⟨ps, hps⟩ := path_last (C := C) (row.take i) st
      obtain ⟨x1, x2, rfl, z, e2, hz⟩ : ∃ x1 x2, xs = x1 ++ x2 ∧ ∃ z, x2 = [z] ∧ Dp K H' z (pairI (C.run st (row.take i))) := by
        have hl2 := dpAll_len hD
        rw [hps] at hD hl2
        have hne : xs ≠ [] := by
          intro e
          rw [e] at hl2
          simp at hl2
        refine ⟨xs.dropLast, [xs.getLast hne], (List.dropLast_concat_getLast hne).symm, _, rfl, ?_⟩
        obtain ⟨z, hz, hd⟩ := dpAll_get' hD (i := ps.length) (d := pairI (C.run st (row.take i))) (by rw [List.map_append, List.getElem?_append_right (by simp)]; simp)
        have hxl : xs.length = ps.length + 1 := by rw [hl2]; simp
        have : xs.getLast hne = z := by
          rw [List.getLast_eq_getElem]
          have e : xs[xs.length - 1]? = some z := by rw [hxl]; exact hz
          exact (List.getElem?_eq_some_iff.mp e).2
        rw [this]
        exact hd
      subst e2
      have hlen : i < 70000 := by
        have h1 := (List.getElem?_eq_some_iff.mp hk).1
        have := R.len
        omega
      refine ⟨.ref l, rfl, .inl ⟨rfl, _, SqL.of hL⟩, c, rfl, .ref l, rfl, 1, rfl, l, _, -1, z, rfl, rfl, SqL.of hL, atI_last _ _, .int k, rfl, c, z, C, _, k, rfl, O, dp_same s2 _ _ hc, hz, run_St O _ hst, R.lt k (List.mem_of_getElem? hk), fun p hp => ?_⟩
      have s3 := s2.trans (same_new (o := .tup [.int (C.led (C.run st (row.take i)) k).1, .int (C.led (C.run st (row.take i)) k).2]) hp)
      have hL3 := same_new (o := .tup [.int (C.led (C.run st (row.take i)) k).1, .int (C.led (C.run st (row.take i)) k).2]) hp _ _ hL
      have hD3 := dpAll_same (same_new (o := .tup [.int (C.led (C.run st (row.take i)) k).1, .int (C.led (C.run st (row.take i)) k).2]) hp) _ _ hD
      refine ⟨l, _, _, rfl, rfl, hL3, ?_, ?_⟩
      · rw [dpAll_len hD, List.length_map, path_len, List.length_take]
        exact Nat.lt_of_le_of_lt (Nat.add_le_add_right (Nat.min_le_left _ _) 1) (by have : i + 1 ≤ 70000 := hlen; exact Nat.lt_of_le_of_lt this (by decide))
      · refine ⟨_, _, rfl, fun b o hb => ?_, upd_same, ?_⟩
        · rw [upd_ne (ne_of_none hb hl)]
          exact s3 b o hb
        · rw [take_snoc hk, path_snoc, List.map_append]
          exact dpAll_app (pairs_set hL3 hD3) (.cons (dp_mkpair (sqt_set hL3 upd_tup)) .nil)
    · rintro σ H' ⟨xs, y, rfl, s2, hL, hD⟩
      have e : row.take (rowV row).length = row := by
        unfold rowV
        rw [List.length_map, List.take_length]
      rw [e] at hD
      exact ⟨.ref l, rfl, q l xs H' s2 hl hL hD⟩
end
end My

namespace My
open PySem PySem.Spec PyProof.Rows L2
/-! ### what rows do to places and levels -/
def Cod.plc (C : Cod) (p : Int) (k : Nat) : Int := lim (p + (C.moves.getD k (0, 0)).2) 0 ((C.steps.length : Int) - 1)
def Cod.pl (C : Cod) (p : Int) : List Nat → Int
  | [] => p
  | k :: r => Cod.pl C (C.plc p k) r
def Cod.chs (C : Cod) (p : Int) : List Nat → List Int
  | [] => []
  | k :: r => C.chg k p.toNat :: Cod.chs C (C.plc p k) r
def Cod.lvc (C : Cod) (l c : Int) : Int := lim (fdd l C.fade + c) C.low C.high
def Cod.lv (C : Cod) (l : Int) : List Int → Int
  | [] => l
  | c :: r => Cod.lv C (C.lvc l c) r
theorem run_split {C : Cod} : ∀ (row : List Nat) (l p : Int), C.run (l, p) row = (C.lv l (C.chs p row), C.pl p row)
  | [], _, _ => rfl
  | k :: r, l, p => run_split r (C.lvc l (C.chg k p.toNat)) (C.plc p k)
theorem run_eq {C : Cod} (row : List Nat) (s : Int × Int) : C.run s row = (C.lv s.1 (C.chs s.2 row), C.pl s.2 row) := run_split row s.1 s.2
theorem pl_snoc {C : Cod} : ∀ (r : List Nat) (p : Int) (k : Nat), C.pl p (r ++ [k]) = C.plc (C.pl p r) k
  | [], _, _ => rfl
  | j :: r, p, k => pl_snoc r (C.plc p j) k
theorem chs_snoc {C : Cod} : ∀ (r : List Nat) (p : Int) (k : Nat), C.chs p (r ++ [k]) = C.chs p r ++ [C.chg k (C.pl p r).toNat]
  | [], _, _ => rfl
  | j :: r, p, k => congrArg (C.chg j p.toNat :: ·) (chs_snoc r (C.plc p j) k)
theorem chs_len {C : Cod} : ∀ (r : List Nat) (p : Int), (C.chs p r).length = r.length
  | [], _ => rfl
  | _ :: r, _ => congrArg (· + 1) (chs_len r _)
theorem lv_snoc {C : Cod} : ∀ (r : List Int) (l c : Int), C.lv l (r ++ [c]) = C.lvc (C.lv l r) c
  | [], _, _ => rfl
  | j :: r, l, c => lv_snoc r (C.lvc l j) c
def Cod.pIn (C : Cod) (p : Int) : Prop := 0 ≤ p ∧ p ≤ (C.steps.length : Int) - 1
def Cod.lIn (C : Cod) (l : Int) : Prop := C.low ≤ l ∧ l ≤ C.high
theorem plc_in {C : Cod} (O : C.Ok) (p : Int) (k : Nat) : C.pIn (C.plc p k) := lim_in (by have := O.s1; omega)
theorem lvc_in {C : Cod} (O : C.Ok) (l c : Int) : C.lIn (C.lvc l c) := lim_in (by have := O.l2; have := O.h1; omega)
theorem pl_in {C : Cod} (O : C.Ok) : ∀ (r : List Nat) {p : Int}, C.pIn p → C.pIn (C.pl p r)
  | [], _, h => h
  | k :: r, p, _ => pl_in O r (plc_in O p k)
theorem lv_in {C : Cod} (O : C.Ok) : ∀ (r : List Int) {l : Int}, C.lIn l → C.lIn (C.lv l r)
  | [], _, h => h
  | c :: r, l, _ => lv_in O r (lvc_in O l c)
theorem lim_mono {a b lo hi : Int} (h : a ≤ b) (hl : lo ≤ hi) : lim a lo hi ≤ lim b lo hi := by
  unfold lim
  split <;> split <;> (try split) <;> omega
theorem lim_step {a b lo hi : Int} (h : a ≤ b) (h1 : b ≤ a + 1) (hl : lo ≤ hi) : lim b lo hi ≤ lim a lo hi + 1 := by
  unfold lim
  split <;> split <;> (try split) <;> omega
theorem div_next {a f : Int} (hf : 2 ≤ f) : (a + 1) / f ≤ a / f + 1 := by
  have h : (a + f) / f = a / f + 1 := Int.add_ediv_of_dvd_right (Int.dvd_refl f) |>.trans (by rw [Int.ediv_self (by omega)])
  rw [← h]
  exact Int.ediv_le_ediv (by omega) (by omega)
theorem rnd_next {a f : Int} (hf : 2 ≤ f) : rnd a f ≤ rnd (a + 1) f ∧ rnd (a + 1) f ≤ rnd a f + 1 := by
  unfold rnd
  split
  · rename_i h
    rw [Int.fdiv_eq_ediv_of_nonneg _ (by omega)]
    split
    · rw [Int.fdiv_eq_ediv_of_nonneg _ (by omega)]
      have h1 := div_next (a := -(a + 1)) hf
      have h2 : -(a + 1) / f ≤ -a / f := Int.ediv_le_ediv (by omega) (by omega)
      rw [show -(a + 1) + 1 = -a by omega] at h1
      omega
    · rw [Int.fdiv_eq_ediv_of_nonneg _ (by omega)]
      have e : a = -1 := by omega
      subst e
      have h0 : (0 : Int) / f = 0 := Int.zero_ediv f
      have h1 : (1 : Int) / f = 0 := Int.ediv_eq_zero_of_lt (by omega) (by omega)
      simp [h0, h1]
  · rename_i h
    rw [if_neg (by omega), Int.fdiv_eq_ediv_of_nonneg _ (by omega), Int.fdiv_eq_ediv_of_nonneg _ (by omega)]
    exact ⟨Int.ediv_le_ediv (by omega) (by omega), div_next hf⟩
theorem fdd_next {a f : Int} (hf : f = 0 ∨ 2 ≤ f) : fdd a f ≤ fdd (a + 1) f ∧ fdd (a + 1) f ≤ fdd a f + 1 := by
  unfold fdd
  split
  · omega
  · have := rnd_next (a := a) (f := f) (by omega)
    omega
theorem lvc_next {C : Cod} (O : C.Ok) (l c : Int) : C.lvc l c ≤ C.lvc (l + 1) c ∧ C.lvc (l + 1) c ≤ C.lvc l c + 1 := by
  have h := fdd_next (a := l) (f := C.fade) (by have := O.f1; omega)
  have hl : C.low ≤ C.high := by have := O.l2; have := O.h1; omega
  exact ⟨lim_mono (by omega) hl, lim_step (by omega) (by omega) hl⟩
theorem mono_of_next {f : Int → Int} (h : ∀ a, f a ≤ f (a + 1)) {a b : Int} (hab : a ≤ b) : f a ≤ f b := by
  obtain ⟨n, rfl⟩ : ∃ n : Nat, b = a + n := ⟨(b - a).toNat, by omega⟩
  clear hab
  induction n with
  | zero => simp
  | succ n ih =>
    have := h (a + n)
    rw [show a + ((n + 1 : Nat) : Int) = a + n + 1 by omega]
    omega
theorem lv_next {C : Cod} (O : C.Ok) : ∀ (r : List Int) (l m : Int), l ≤ m → m ≤ l + 1 → C.lv l r ≤ C.lv m r ∧ C.lv m r ≤ C.lv l r + 1
  | [], l, m, h1, h2 => ⟨h1, h2⟩
  | c :: r, l, m, h1, h2 => by
    have h : m = l ∨ m = l + 1 := by omega
    rcases h with e | e
    · subst e
      exact ⟨Int.le_refl _, by omega⟩
    · subst e
      have := lvc_next O l c
      exact lv_next O r _ _ this.1 this.2
theorem lv_mono {C : Cod} (O : C.Ok) (r : List Int) {a b : Int} (h : a ≤ b) : C.lv a r ≤ C.lv b r :=
  mono_of_next (f := fun l => C.lv l r) (fun a => (lv_next O r a (a + 1) (by omega) (by omega)).1) h
theorem pl_mono {C : Cod} (O : C.Ok) : ∀ (r : List Nat) {a b : Int}, a ≤ b → C.pl a r ≤ C.pl b r
  | [], _, _, h => h
  | k :: r, a, b, h => pl_mono O r (lim_mono (by omega) (by have := O.s1; omega))
/-- without a fade: three integers tell the map -/
theorem lv_limits {C : Cod} (O : C.Ok) (h0 : C.fade = 0) (l : Int) (hl : C.lIn l) : ∀ (r : List Int),
    C.lv l r = lim (l + r.sum) (C.lv C.low r) (C.lv C.high r) := by
  have key : ∀ (n : Nat) (r : List Int), r.length = n → C.lv l r = lim (l + r.sum) (C.lv C.low r) (C.lv C.high r) ∧ C.lv C.low r ≤ C.lv C.high r := by
    intro n
    induction n with
    | zero =>
      intro r hr
      have e : r = [] := List.length_eq_zero_iff.mp hr
      subst e
      have := hl.1
      have := hl.2
      refine ⟨?_, by show C.low ≤ C.high; omega⟩
      show l = lim (l + 0) C.low C.high
      unfold lim
      rw [if_neg (by omega), if_neg (by omega)]
      omega
    | succ n ih =>
      intro r hr
      obtain ⟨q, c, rfl⟩ : ∃ q c, r = q ++ [c] := ⟨r.dropLast, r.getLast (by intro e; rw [e] at hr; cases hr), (List.dropLast_concat_getLast _).symm⟩
      have hq : q.length = n := by simp at hr; exact hr
      obtain ⟨e, hle⟩ := ih q hq
      rw [lv_snoc, lv_snoc, lv_snoc, e]
      have hs : (q ++ [c]).sum = q.sum + c := by simp
      rw [hs]
      unfold Cod.lvc fdd
      rw [if_pos h0, if_pos h0, if_pos h0]
      have hlh : C.low ≤ C.high := by have := O.l2; have := O.h1; omega
      generalize C.lv C.low q = A at *
      generalize C.lv C.high q = B at *
      generalize q.sum = S
      refine ⟨?_, lim_mono (by omega) hlh⟩
      unfold lim
      (repeat' split) <;> omega
  exact fun r => (key r.length r rfl).1
theorem lv_lim_le {C : Cod} (O : C.Ok) (r : List Int) : C.lv C.low r ≤ C.lv C.high r := lv_mono O r (by have := O.l2; have := O.h1; omega)
/-! ### repetitions -/
def itr (f : Int → Int) : Nat → Int → Int
  | 0, x => x
  | n + 1, x => f (itr f n x)
theorem itr_in {f : Int → Int} {lo hi x : Int} (hf : ∀ y, lo ≤ y ∧ y ≤ hi → lo ≤ f y ∧ f y ≤ hi) (hx : lo ≤ x ∧ x ≤ hi) : ∀ n, lo ≤ itr f n x ∧ itr f n x ≤ hi
  | 0 => hx
  | n + 1 => hf _ (itr_in hf hx n)
theorem itr_le {f : Int → Int} {lo hi x : Int} (hf : ∀ y, lo ≤ y ∧ y ≤ hi → lo ≤ f y ∧ f y ≤ hi) (hm : ∀ a b, a ≤ b → f a ≤ f b) (hx : lo ≤ x ∧ x ≤ hi)
    {n : Nat} (h : ∀ j < n, itr f (j + 1) x ≠ itr f j x) : (n : Int) ≤ hi - lo := by
  rcases Int.le_total x (f x) with hd | hd
  · have up : ∀ j, itr f j x ≤ itr f (j + 1) x := by
      intro j
      induction j with
      | zero => exact hd
      | succ j ih => exact hm _ _ ih
    have : ∀ j ≤ n, x + (j : Int) ≤ itr f j x := by
      intro j
      induction j with
      | zero => intro _; show x + 0 ≤ x; omega
      | succ j ih =>
        intro hj
        have h1 := ih (by omega)
        have h2 := up j
        have h3 := h j (by omega)
        omega
    have h1 := this n (Nat.le_refl _)
    have h2 := itr_in hf hx n
    omega
  · have dn : ∀ j, itr f (j + 1) x ≤ itr f j x := by
      intro j
      induction j with
      | zero => exact hd
      | succ j ih => exact hm _ _ ih
    have : ∀ j ≤ n, itr f j x ≤ x - (j : Int) := by
      intro j
      induction j with
      | zero => intro _; show x ≤ x - 0; omega
      | succ j ih =>
        intro hj
        have h1 := ih (by omega)
        have h2 := dn j
        have h3 := h j (by omega)
        omega
    have h1 := this n (Nat.le_refl _)
    have h2 := itr_in hf hx n
    omega
theorem itr_rest {f : Int → Int} {x : Int} {n : Nat} (h : itr f (n + 1) x = itr f n x) : ∀ k, itr f (n + k) x = itr f n x
  | 0 => rfl
  | k + 1 => by
    show f (itr f (n + k) x) = _
    rw [itr_rest h k]
    exact h
def Cod.rep (C : Cod) (row : List Nat) (s : Int × Int) : Nat → Int × Int
  | 0 => s
  | n + 1 => C.run (Cod.rep C row s n) row
theorem rep_St {C : Cod} (O : C.Ok) {row : List Nat} {s : Int × Int} (h : C.St s) : ∀ n, C.St (C.rep row s n)
  | 0 => h
  | n + 1 => run_St O row (rep_St O h n)
theorem rep_pl {C : Cod} {row : List Nat} {s : Int × Int} : ∀ n, (C.rep row s n).2 = itr (fun p => C.pl p row) n s.2
  | 0 => rfl
  | n + 1 => by
    show (C.run (C.rep row s n) row).2 = C.pl (itr (fun p => C.pl p row) n s.2) row
    rw [run_eq, ← rep_pl n]
theorem rep_lv {C : Cod} {row : List Nat} {s : Int × Int} {P : Nat} (hP : (C.rep row s (P + 1)).2 = (C.rep row s P).2) :
    ∀ j, C.rep row s (P + j) = (itr (fun l => C.lv l (C.chs (C.rep row s P).2 row)) j (C.rep row s P).1, (C.rep row s P).2)
  | 0 => rfl
  | j + 1 => by
    show C.run (C.rep row s (P + j)) row = _
    rw [rep_lv hP j, run_eq]
    have e : C.pl (C.rep row s P).2 row = (C.rep row s P).2 := by
      have : (C.run (C.rep row s P) row).2 = (C.rep row s P).2 := hP
      rw [run_eq] at this
      exact this
    rw [e]
    rfl
theorem rep_rest {C : Cod} {row : List Nat} {s : Int × Int} {T : Nat} (h : C.rep row s (T + 1) = C.rep row s T) : ∀ k, C.rep row s (T + k) = C.rep row s T
  | 0 => rfl
  | k + 1 => by
    show C.run (C.rep row s (T + k)) row = _
    rw [rep_rest h k]
    exact h
/-- the places come to rest behind just P repetitions -/
structure Rests (C : Cod) (row : List Nat) (s : Int × Int) (P : Nat) : Prop where
  mv : ∀ j < P, (C.rep row s (j + 1)).2 ≠ (C.rep row s j).2
  st : (C.rep row s (P + 1)).2 = (C.rep row s P).2
/-- the row settles behind just T repetitions, the place with P of them -/
structure Settles (C : Cod) (row : List Nat) (s : Int × Int) (T P : Nat) : Prop where
  mv : ∀ j < T, C.rep row s (j + 1) ≠ C.rep row s j
  st : C.rep row s (T + 1) = C.rep row s T
  pl : (C.rep row s (P + 1)).2 = (C.rep row s P).2
  pT : P ≤ T
  pm : (P : Int) ≤ (C.steps.length : Int) - 1
  tm : (T : Int) ≤ (C.steps.length : Int) - 1 + (C.high - C.low)
theorem places_le {C : Cod} (O : C.Ok) {row : List Nat} {s : Int × Int} (hs : C.St s) {n : Nat} (h : ∀ j < n, (C.rep row s (j + 1)).2 ≠ (C.rep row s j).2) : (n : Int) ≤ (C.steps.length : Int) - 1 := by
  have := itr_le (f := fun p => C.pl p row) (lo := 0) (hi := (C.steps.length : Int) - 1) (x := s.2) (fun y hy => pl_in O row hy) (fun a b hab => pl_mono O row hab) ⟨hs.2.2.1, by have := hs.2.2.2; omega⟩
    (n := n) (fun j hj => by rw [← rep_pl, ← rep_pl]; exact h j hj)
  omega
theorem levels_le {C : Cod} (O : C.Ok) {cs : List Int} {l : Int} (hl : C.lIn l) {n : Nat} (h : ∀ j < n, itr (fun l => C.lv l cs) (j + 1) l ≠ itr (fun l => C.lv l cs) j l) : (n : Int) ≤ C.high - C.low :=
  itr_le (f := fun l => C.lv l cs) (fun _ hy => lv_in O cs hy) (fun _ _ hab => lv_mono O cs hab) hl h
theorem settles_of {C : Cod} (O : C.Ok) {row : List Nat} {s : Int × Int} (hs : C.St s) {P Q : Nat} (r : Rests C row s P)
    (mv : ∀ j < Q, itr (fun l => C.lv l (C.chs (C.rep row s P).2 row)) (j + 1) (C.rep row s P).1 ≠ itr (fun l => C.lv l (C.chs (C.rep row s P).2 row)) j (C.rep row s P).1)
    (st : itr (fun l => C.lv l (C.chs (C.rep row s P).2 row)) (Q + 1) (C.rep row s P).1 = itr (fun l => C.lv l (C.chs (C.rep row s P).2 row)) Q (C.rep row s P).1) : Settles C row s (P + Q) P := by
  have h1 := places_le O hs r.mv
  have hS := rep_St O (row := row) hs P
  have h2 := levels_le O ⟨hS.1, hS.2.1⟩ mv
  refine ⟨fun j hj e => ?_, ?_, r.st, by omega, h1, by omega⟩
  · rcases Nat.lt_or_ge j P with h | h
    · exact r.mv j h (by rw [e])
    · obtain ⟨i, rfl⟩ : ∃ i, j = P + i := ⟨j - P, by omega⟩
      have e' : C.rep row s (P + (i + 1)) = C.rep row s (P + i) := e
      rw [rep_lv r.st, rep_lv r.st] at e'
      exact mv i (by omega) (congrArg Prod.fst e')
  · show C.rep row s (P + (Q + 1)) = _
    rw [rep_lv r.st, rep_lv r.st, st]
end My

namespace My
open PySem PySem.Spec PyProof.Rows L2
theorem same_put {H H' : Hp} {p : Addr} {o : HO} (s : Same H H') (h : H p = none) : Same H (upd H' p o) := fun b u e => by
  rw [upd_ne (ne_of_none e h)]
  exact s b u e
theorem cut2 (a b c d e : V) : cutV [a, b, c, d, e] none (some 2) = [a, b] := rfl
theorem cut3 (a b c d e : V) : cutV [a, b, c, d, e] none (some 3) = [a, b, c] := rfl
def Cod.reps (C : Cod) (row : List Nat) (s : Int × Int) (n : Nat) : List (Int × Int) := (List.range n).map (C.rep row s)
theorem reps_succ {C : Cod} {row : List Nat} {s : Int × Int} (n : Nat) : C.reps row s (n + 1) = C.reps row s n ++ [C.rep row s n] := by
  unfold Cod.reps
  rw [List.range_succ, List.map_append]
  rfl
theorem reps_len {C : Cod} {row : List Nat} {s : Int × Int} (n : Nat) : (C.reps row s n).length = n := by
  unfold Cod.reps
  rw [List.length_map, List.length_range]
/-- what one more repetition makes of a level, without a fade by three integers -/
def Cod.lim3 (C : Cod) (cs : List Int) : Int × Int × Int := (cs.sum, C.lv C.low cs, C.lv C.high cs)
section
variable {P : Program} {w : World} {K : PySem.W.Frag} {mg : Str → Option Value} {base : Heap}
def sp_row_behind (K : PySem.W.Frag) : Sp := fun vs H Q _ => ∃ (c r x : V) (C : Cod) (row : List Nat) (s : Int × Int), vs = [c, r, x] ∧ C.Ok ∧ Dp K H c C.dat ∧ Dp K H r (rowI row) ∧ (∀ k ∈ row, k < C.moves.length) ∧ Dp K H x (pairI s) ∧ C.St s ∧
  ∀ z H', Same H H' → Dp K H' z (pairI (C.run s row)) → Q z H'
theorem ok_state_behind_row (T : Txt K mg) : FnOk P w K mg base CX0 5 T.f_state_behind_row T.d_state_behind_row ["coder", "row", "state"] (sp_row_behind K) := by
  refine T.F_state_behind_row.ok sc_state_behind_row (fun vs H Q E h => ?_) (fun cdv A outer s H vs Q E hr h => ?_)
  · obtain ⟨c, r, x, C, row, s, rfl, _⟩ := h
    rfl
  · obtain ⟨c, r, x, C, row, st, rfl, O, hc, hrow, R, hx, hst, q⟩ := h
    refine ⟨_,
(pss_cons (ps_set (i := 3) sc_state_behind_row.nd rfl (Or.inl rfl) (pv 2))
      (pss_cons (ps_for PassesOwn.never rfl (pi_tup (pv 1)) (pg_name (i := 4) sc_state_behind_row.nd rfl (Or.inl rfl)) (pss_one (ps_set (i := 3) sc_state_behind_row.nd rfl (Or.inl rfl) (pe_call (ok_state_behind T) (hr.mono (by decide)) (by rfl) T.g_state_behind T.F_state_behind.kp T.b_state_behind .nil pass0 (pa_cons (pv 0) (pa_cons (pv 3) (pa_cons (pv 4) pa_nil)))))))
      (pss_one (ps_ret (pv 3)))))
, ?_⟩
    obtain ⟨a, rfl, ha⟩ := row_at hrow
    refine ⟨x, rfl, .ref a, rfl, a, rfl, ⟨_, ha⟩, ?_⟩
    refine for_tup (K := K) (a := a) (xs := rowV row) (fun i σ H' => ∃ z y, σ = [some c, some (.ref a), some x, some z, y] ∧ Same H H' ∧ Dp K H' z (pairI (C.run st (row.take i)))) ⟨x, none, rfl, Same.refl H, hx⟩ ?_ ?_ ?_
    · rintro i σ H' _ ⟨_, _, _, s2, _⟩
      exact same_tup s2 ha
    · rintro i v σ H' hi ⟨z, y, rfl, s2, hz⟩
      obtain ⟨k, hk, rfl⟩ := rowV_get hi
      refine ⟨c, rfl, z, rfl, .int k, rfl, c, z, C, _, k, rfl, O, dp_same s2 _ _ hc, hz, run_St O _ hst, R k (List.mem_of_getElem? hk), fun p hp => ?_⟩
      refine ⟨.ref p, _, rfl, s2.trans (same_new hp), ?_⟩
      rw [take_snoc hk, run_snoc]
      exact dp_mkpair upd_tup
    · rintro σ H' ⟨z, y, rfl, s2, hz⟩
      have e : row.take (rowV row).length = row := by
        unfold rowV
        rw [List.length_map, List.take_length]
      rw [e] at hz
      exact ⟨z, rfl, q z H' s2 hz⟩
end
end My

namespace My
open PySem PySem.Spec PyProof.Rows L2
/-! ### what is right passes -/
def rowD (C : Cod) : PyData → Bool
  | .tuple ds => decide (ds.length ≤ 2000) && ds.all fun d => btw d 0 ((C.moves.length : Int) - 1)
  | _ => false
theorem Cod.Row.ok {C : Cod} {r : List Nat} (h : C.Row r) : rowD C (rowI r) = true := by
  show (decide _ && _) = true
  rw [decide_eq_true (by rw [List.length_map]; exact h.len), Bool.true_and, List.all_eq_true]
  intro d hd
  obtain ⟨k, hk, rfl⟩ := List.mem_map.mp hd
  have := h.lt k hk
  exact btw_in (by omega) (by omega)
section
variable {P : Program} {w : World} {K : PySem.W.Frag} {mg : Str → Option Value} {base : Heap}
end
end My

/-! refusals of rows and states -/
namespace My
open PySem PySem.Spec PyProof.Rows L2
/-- a thing handed in as a row: a tuple of data, or anything but a tuple -/
def Th (K : PySem.W.Frag) (H : Hp) (x : V) : Option (List PyData) → Prop
  | none => ∃ T : String, TyX K H x (.type T) ∧ PySem.W.kitOne K (.type T) (.type "tuple") = some false
  | some ds => Dp K H x (.tuple ds)
theorem Th.same {K : PySem.W.Frag} {H H' : Hp} {x : V} {r : Option (List PyData)} (s : Same H H') (h : Th K H x r) : Th K H' x r := by
  cases r with
  | some ds => exact dp_same s _ _ h
  | none =>
    obtain ⟨T, h1, h2⟩ := h
    refine ⟨T, ?_, h2⟩
    cases h1 with
    | base h =>
      cases h with
      | non => exact .base .non
      | bl b => exact .base (.bl b)
      | int i => exact .base (.int i)
      | str x => exact .base (.str x)
      | flt x => exact .base (.flt x)
      | lst e => exact .base (.lst (s _ _ e))
      | frz e => exact .base (.frz (s _ _ e))
      | tup e => exact .base (.tup (s _ _ e))
      | dK e => exact .base (.dK (s _ _ e))
      | dT e => exact .base (.dT (s _ _ e))
    | byt b => exact .byt b
    | set e => exact .set (s _ _ e)
    | kList e c => exact .kList e c
    | kTuple e c => exact .kTuple e c
    | kDict e c => exact .kDict e c
    | fTuple e => exact .fTuple (s _ _ e)
    | fDict e => exact .fDict (s _ _ e)
def codeD (C : Cod) (d : PyData) : Bool := btw d 0 ((C.moves.length : Int) - 1)
/-- the place of the first thing that cannot stand in a row -/
def rowBad (C : Cod) : Nat → List PyData → Option Nat
  | _, [] => none
  | i, d :: r => if (decide (i = 2000) || !codeD C d) = true then some i else rowBad C (i + 1) r
theorem rowBad_step {C : Cod} {ds : List PyData} {i : Nat} {d : PyData} (h : ds[i]? = some d) : rowBad C i (ds.drop i) = if (decide (i = 2000) || !codeD C d) = true then some i else rowBad C (i + 1) (ds.drop (i + 1)) := by
  have hi := (List.getElem?_eq_some_iff.mp h).1
  have e : ds.drop i = d :: ds.drop (i + 1) := by
    rw [List.drop_eq_getElem_cons hi]
    rw [List.getElem?_eq_getElem hi] at h
    rw [Option.some.inj h]
  rw [e]
  rfl
def rowRes (C : Cod) : Option (List PyData) → Option (Int × Int)
  | none => some (0, 0)
  | some ds => (rowBad C 0 ds).map fun (i : Nat) => ((1 : Int), (i : Int) + 1)
theorem rowRes_bad {C : Cod} {ds : List PyData} {i : Nat} (h : rowBad C 0 ds = some i) : rowRes C (some ds) = some (1, (i : Int) + 1) := by
  show (rowBad C 0 ds).map _ = _
  rw [h]
  rfl
theorem rowRes_ok {C : Cod} {ds : List PyData} (h : rowBad C 0 ds = none) : rowRes C (some ds) = none := by
  show (rowBad C 0 ds).map _ = _
  rw [h]
  rfl
theorem codeD_out {C : Cod} {d : PyData} (h : codeD C d = true) : ∃ k : Nat, d = .int (k : Int) ∧ k < C.moves.length := by
  cases d with
  | int n =>
    obtain ⟨a, b⟩ := Bool.and_eq_true_iff.mp (show (decide (0 ≤ n) && decide (n ≤ (C.moves.length : Int) - 1)) = true from h)
    have a := of_decide_eq_true a
    have b := of_decide_eq_true b
    exact ⟨n.toNat, by congr 1; omega, by omega⟩
  | _ => cases h
theorem rowBad_none {C : Cod} : ∀ {ds : List PyData} {i : Nat}, i ≤ 2000 → rowBad C i ds = none → i + ds.length ≤ 2000 ∧ ∃ row : List Nat, ds = row.map (fun k : Nat => PyData.int (k : Int)) ∧ ∀ k ∈ row, k < C.moves.length
  | [], i, hi, _ => ⟨hi, [], rfl, fun _ h => by cases h⟩
  | d :: r, i, hi, h => by
    replace h : (if (decide (i = 2000) || !codeD C d) = true then some i else rowBad C (i + 1) r) = none := h
    by_cases e : (decide (i = 2000) || !codeD C d) = true
    · rw [if_pos e] at h
      cases h
    · rw [if_neg e] at h
      have e : (decide (i = 2000) || !codeD C d) = false := by
        cases hb : (decide (i = 2000) || !codeD C d) with
        | true => exact absurd hb e
        | false => rfl
      obtain ⟨e1, e2⟩ := Bool.or_eq_false_iff.mp e
      have e1 := of_decide_eq_false e1
      have e2 : codeD C d = true := by
        cases hb : codeD C d with
        | true => rfl
        | false => rw [hb] at e2; cases e2
      obtain ⟨k, rfl, hk⟩ := codeD_out e2
      obtain ⟨h1, row, rfl, h2⟩ := rowBad_none (by omega) h
      refine ⟨by rw [List.length_cons]; omega, k :: row, rfl, fun j hj => ?_⟩
      rcases List.mem_cons.mp hj with z | z
      · rw [z]; exact hk
      · exact h2 j z
theorem rowRes_row {C : Cod} {r : Option (List PyData)} (h : rowRes C r = none) : ∃ row : List Nat, r = some (row.map (fun k : Nat => PyData.int (k : Int))) ∧ C.Row row := by
  cases r with
  | none => cases h
  | some ds =>
    have h : (rowBad C 0 ds).map (fun (i : Nat) => ((1 : Int), (i : Int) + 1)) = none := h
    cases e : rowBad C 0 ds with
    | some i => rw [e] at h; cases h
    | none =>
      obtain ⟨h1, row, rfl, h2⟩ := rowBad_none (by omega) e
      rw [List.length_map] at h1
      exact ⟨row, rfl, by omega, h2⟩
theorem stateD_out {C : Cod} {d : PyData} (h : stateD C d = true) : ∃ s, d = pairI s ∧ C.St s := by
  cases d with
  | tuple ds =>
    match ds, h with
    | [a, b], h =>
      obtain ⟨h1, h2⟩ := Bool.and_eq_true_iff.mp (show (btw a C.low C.high && btw b 0 ((C.steps.length : Int) - 1)) = true from h)
      obtain ⟨n, rfl, a1, a2⟩ := btw_out h1
      obtain ⟨p, rfl, b1, b2⟩ := btw_out h2
      exact ⟨(n, p), rfl, a1, a2, b1, by show p < C.steps.length; omega⟩
  | _ => cases h
/-- a refusal with BadRow(i, j): a new dict, all else stands -/
def RowE (C : Addr) (H : Hp) (E : XK) (i j : Int) : Prop := ∀ d H', Same H H' → H' d = some (.xd [("word", V.int j), ("row", V.int i)]) → E (.ref C) (some d) H'
theorem RowE.same {C : Addr} {H H' : Hp} {E : XK} {i j : Int} (s : Same H H') (h : RowE C H E i j) : RowE C H' E i j := fun d H'' s' hd => h d H'' (s.trans s') hd
theorem rowE_mk {C : Addr} {H : Hp} {E : XK} {i j : Int} (h : RowE C H E i j) {a d : Addr} {o1 o2 o3 o4 : HO} (ha : H a = none) (hd : upd H a o1 d = none) (n : d ≠ a) :
    E (.ref C) (some d) (upd (del (upd (upd (upd (upd H a o1) d o2) a o3) d o4) a) d (.xd [("word", V.int j), ("row", V.int i)])) := by
  rw [made2 ha n]
  have h0 : H d = none := (upd_ne n).symm.trans hd
  exact h d _ (same_new h0) upd_same
section
variable {P : Program} {w : World} {K : PySem.W.Frag} {mg : Str → Option Value} {base : Heap}
theorem okDX {x qual : Str} {params : Arguments} {body : List Stmt} {scope : Scope} {f : Addr} {fd : FuncData} {N ps : List Str} {k : Nat} {sp : Sp}
    (F : ∃ q, FunD K x qual params body scope [] [("state", V.ref q)] f fd) (S : FnScope N ps scope) (len : ∀ vs H Q E, sp vs H Q E → vs.length = ps.length)
    (hbody : ∀ (cdv : Value) (A : Around) (outer : List Env) (s : Shared) (H : Hp) (vs : List V) (Q : VK) (E : XK), Room k (A.deeper (envOfC qual scope s.heap.objs.size f cdv)) → sp vs H Q E →
      ∃ t, PSs (cxOf (L2.CX P w) P w K mg base N qual scope f cdv A outer s H E) body t ∧ t { nx := fun _ H' => Q .non H', rt := Q } (start N vs) H) : FnOk P w K mg base (L2.CX P w) (k + 1) f fd ps sp := by
  obtain ⟨q, F⟩ := F
  exact F.ok S len hbody
/-- a refusal with OutOfPlace: the heap stands -/
def spNeed (K : PySem.W.Frag) (O : Addr) (f : Cod → PyData → Bool) : Sp := fun vs H Q E => ∃ (c x : V) (C : Cod) (d : PyData), vs = [c, x] ∧ Dp K H c C.dat ∧ Dp K H x d ∧
  (f C d = true → ∀ H', Same H H' → Q .non H') ∧ (f C d = false → ∀ H', Same H H' → E (.ref O) none H')
theorem ok_need_state (T : Txt K mg) : FnOk P w K mg base (L2.CX P w) 5 T.f_need_state T.d_need_state ["coder", "thing"] (spNeed K T.C_OutOfPlace stateD) := by
  refine T.F_need_state.okX sc_need_state (fun vs H Q E h => ?_) (fun cdv A outer s H vs Q E hr h => ?_)
  · obtain ⟨c, x, C, d, rfl, _⟩ := h
    rfl
  · obtain ⟨c, x, C, d, rfl, hc, hd, q1, q2⟩ := h
    refine ⟨_,
(pss_one (ps_if (pt_not (pt_val (pe_call (ok_is_state T) (hr.mono (by decide)) (by rfl) T.g_is_state T.F_is_state.kp T.b_is_state .nil pass0 (pa_cons (pv 0) (pa_cons (pv 1) pa_nil))))) (pss_one (ps_raise rfl (takes_of rfl rfl rfl rfl) (My.pmk0 T.o_OutOfPlace T.i_OutOfPlace T.t_OutOfPlace (oki_OutOfPlace T) (hr.mono (by decide)) T.bi_OutOfPlace T.g_OutOfPlace (pa_cons pe_str pa_nil)))) pss_nil))
, ?_⟩
    refine ⟨_, rfl, _, rfl, c, x, C, d, rfl, hc, hd, fun H1 s1 => ⟨_, rfl, ?_⟩⟩
    cases h0 : stateD C d with
    | true => exact iteF (q1 h0 H1 s1)
    | false =>
      refine iteT ?_
      refine ⟨by decide, fun a ha => ⟨a, _, rfl, upd_same, rfl, upd_same, ?_⟩⟩
      rw [del_new ha]
      exact q2 h0 H1 s1
end
end My

/-! coders with too many states -/
namespace My
open PySem PySem.Spec PyProof.Rows L2
def Cod.cnt (C : Cod) : Int := (C.high - C.low + 1) * (C.steps.length : Int)
section
variable {P : Program} {w : World} {K : PySem.W.Frag} {mg : Str → Option Value} {base : Heap}
def sp_need_few (K : PySem.W.Frag) (TG : Addr) : Sp := fun vs H Q E => ∃ (c : V) (C : Cod) (most : Int), vs = [c, .int most] ∧ C.Ok ∧ Dp K H c C.dat ∧
  (C.cnt ≤ most → ∀ H', Same H H' → Q .non H') ∧ (most < C.cnt → OneE TG "most" H E (.int most))
theorem ok_need_few_states (T : Txt K mg) : FnOk P w K mg base (L2.CX P w) 4 T.f_need_few_states T.d_need_few_states ["coder", "most"] (sp_need_few K T.C_TooGreat) := by
  refine T.F_need_few_states.okX sc_need_few_states (fun vs H Q E h => ?_) (fun cdv A outer s H vs Q E hr h => ?_)
  · obtain ⟨c, C, most, rfl, _⟩ := h
    rfl
  · obtain ⟨c, C, most, rfl, O, hc, q1, q2⟩ := h
    obtain ⟨a, s, mm, ms, rfl, ha, hs, hm, hmd⟩ := cod_at hc
    refine ⟨_,
(pss_cons (ps_asg (pe_slice sl_tupA (pv 0) po_none (po_some pe_int)) (pg_tup (by rfl) (pgs_cons (pg_name (i := 2) sc_need_few_states.nd rfl (Or.inl rfl)) (pgs_cons (pg_name (i := 3) sc_need_few_states.nd rfl (Or.inl rfl)) (pgs_cons (pg_name (i := 4) sc_need_few_states.nd rfl (Or.inl rfl)) pgs_nil)))))
      (pss_one (ps_if (pt_cmpR op_gt (pe_op op_mul (pe_op op_add (pe_op op_sub (pv 3) (pv 2)) pe_int) (pe_callB (call_len_seq) (by rfl) T.z_len (by decide +kernel) (pa_cons (pv 4) pa_nil))) (pv 1) (nomark _)) (pss_one (ps_raise rfl (takes_of rfl rfl rfl rfl) (My.pmk_tg T.o_TooGreat T.i_TooGreat T.t_TooGreat (oki_TooGreat T) (hr.mono (by decide)) T.bi_TooGreat .nil pass0 (by rfl) T.g_TooGreat (pa_cons (pv 1) pa_nil)))) pss_nil)))
, ?_⟩
    refine ⟨_, rfl, 3, rfl, a, _, rfl, ha, fun hw => absurd (show (3 : Nat) = 5 from hw.2) (by decide), fun _ p hp => ?_⟩
    rw [cut3]
    have s1 := same_new (o := .tup [V.int C.low, V.int C.high, V.ref s]) hp
    refine ⟨p, _, rfl, upd_tup, rfl, _, _, rfl, _, _, rfl, _, _, rfl, rfl, ?_⟩
    generalize upd H p (.tup [V.int C.low, V.int C.high, V.ref s]) = H1 at s1
    have l1 := O.l1
    have l2 := O.l2
    have h1 := O.h1
    have h2 := O.h2
    refine ⟨_, rfl, _, rfl, _, _, rfl, rfl, _, _, rfl, rfl, _, rfl, s, _, rfl, .inr (same_tup s1 hs), _, _, rfl, rfl, .inl ⟨by omega, by omega⟩, _, rfl, _, _, rfl, rfl, _, rfl, ?_⟩
    have ec : (C.high - C.low + 1) * (((C.steps.map V.int).length : Nat) : Int) = C.cnt := by rw [List.length_map]; rfl
    rw [ec]
    refine ite2 (fun e => ?_) (fun e => ?_)
    · have e := of_decide_eq_true e
      have q2 := q2 (by omega)
      refine ⟨_, rfl, by show 1 ≤ 1000; decide, fun b hb => ⟨b, .int most, rfl, upd_same, fun d hd n => ⟨rfl, d, _, upd_same, (upd_ne n).trans upd_same, (upd_ne n).symm.trans hd, oneE_mk (q2.same s1) hb hd n⟩⟩⟩
    · exact q1 (by
        have e := of_decide_eq_false (Bool.not_eq_true _ ▸ e)
        omega) _ s1
end
end My

/-! the first of the shortest rows to somewhere -/
namespace My
open PySem PySem.Spec PyProof.Rows L2
theorem same_at {H H' : Hp} {p : Addr} {o : HO} (s : Same H H') (h : H p = none) : Same H (upd H' p o) := fun b u e => by
  rw [upd_ne (ne_of_none e h)]
  exact s b u e
def kS (s : Int × Int) : NK := .tup [.num s.1, .num s.2]
theorem kS_data (s : Int × Int) : (kS s).data = pairI s := by simp [kS, NestedKey.data, NestedKey.datas, pairI]
theorem kS_dep (s : Int × Int) : (kS s).depth ≤ 8 := by simp [kS, NestedKey.depth, NestedKey.depthAll]
theorem kS_inj (a b : Int × Int) (h : kS a = kS b) : a = b := by
  unfold kS at h
  injection h with h
  injection h with h1 h
  injection h with h2 _
  injection h1 with h1
  injection h2 with h2
  exact Prod.ext h1 h2
theorem keyS {K : PySem.W.Frag} {H : Hp} {v : V} {s : Int × Int} (h : Dp K H v (pairI s)) : KeyAt K H v (kS s) := by
  obtain ⟨a, rfl, _⟩ := dp_pair h
  exact ⟨⟨a, rfl⟩, by rw [kS_data]; exact h, kS_dep s⟩
theorem keyS_out {K : PySem.W.Frag} {H : Hp} {v : V} {s : Int × Int} (h : KeyAt K H v (kS s)) : Dp K H v (pairI s) := by rw [← kS_data]; exact h.dp
theorem kS_ne {k : NK} {s : Int × Int} (h : k = kS s) : k.depth ≤ 8 := by rw [h]; exact kS_dep s
section
variable {α : Type} {K : PySem.W.Frag} {H H' : Hp} {key : α → NK}
/-- from where one was come to -/
def LeadV (K : PySem.W.Frag) (H : Hp) (key : α → NK) (E : List (α × List Nat)) (v : V) (e : α × List Nat) : Prop :=
  (e.2 = [] ∧ v = .non) ∨ ∃ (t : Addr) (x : V) (p : α) (r : List Nat) (k : Nat), v = .ref t ∧ SqT K H t [x, .int (k : Int)] ∧ KeyAt K H x (key p) ∧ (p, r) ∈ E ∧ e.2 = r ++ [k]
theorem LeadV.mono {E E' : List (α × List Nat)} {v : V} {e : α × List Nat} (h : LeadV K H key E v e) (t : TS K H H') (s : ∀ x ∈ E, x ∈ E') : LeadV K H' key E' v e := by
  rcases h with h | ⟨a, x, p, r, k, h1, h2, h3, h4, h5⟩
  · exact .inl h
  · exact .inr ⟨a, x, p, r, k, h1, t _ _ h2, h3.ts t, s _ h4, h5⟩
abbrev LDr (K : PySem.W.Frag) (H : Hp) (key : α → NK) (E0 : List (α × List Nat)) : List (NK × V) → List (α × List Nat) → Prop := Paired fun p e => p.1 = key e.1 ∧ LeadV K H key E0 p.2 e
theorem LDr.mono {E E' : List (α × List Nat)} {kvs : List (NK × V)} {L : List (α × List Nat)} (h : LDr K H key E kvs L) (t : TS K H H') (s : ∀ x ∈ E, x ∈ E') : LDr K H' key E' kvs L := Paired.mapP h fun _ _ z => ⟨z.1, z.2.mono t s⟩
theorem ld_get (inj : ∀ a b, key a = key b → a = b) {R : V → α × List Nat → Prop} {kvs : List (NK × V)} {L : List (α × List Nat)} (h : Paired (fun (p : NK × V) e => p.1 = key e.1 ∧ R p.2 e) kvs L) (nd : (L.map (·.1)).Nodup) {e : α × List Nat} (he : e ∈ L) : ∃ v, valV kvs (key e.1) = some v ∧ R v e := by
  induction h with
  | nil => cases he
  | @cons p q ps qs h t ih =>
    rw [List.map_cons, List.nodup_cons] at nd
    rcases List.mem_cons.mp he with rfl | he
    · exact ⟨_, valV_pos h.1, h.2⟩
    · obtain ⟨v, h1, h2⟩ := ih nd.2 he
      refine ⟨v, ?_, h2⟩
      rw [valV_neg (fun z => nd.1 (by rw [inj _ _ (h.1.symm.trans z)]; exact List.mem_map.mpr ⟨e, he, rfl⟩))]
      exact h1
theorem ld_none (inj : ∀ a b, key a = key b → a = b) {R : V → α × List Nat → Prop} {kvs : List (NK × V)} {L : List (α × List Nat)} (h : Paired (fun (p : NK × V) e => p.1 = key e.1 ∧ R p.2 e) kvs L) {a : α} (ha : a ∉ L.map (·.1)) : valV kvs (key a) = none := by
  induction h with
  | nil => rfl
  | @cons p q ps qs h t ih =>
    rw [List.map_cons, List.mem_cons, not_or] at ha
    rw [valV_neg (fun z => ha.1 (inj _ _ (h.1.symm.trans z)).symm)]
    exact ih ha.2
theorem ld_put (inj : ∀ a b, key a = key b → a = b) {R : V → α × List Nat → Prop} {kvs : List (NK × V)} {L : List (α × List Nat)} (h : Paired (fun (p : NK × V) e => p.1 = key e.1 ∧ R p.2 e) kvs L) {e : α × List Nat} {v : V} (ha : e.1 ∉ L.map (·.1)) (hr : R v e) : Paired (fun (p : NK × V) e => p.1 = key e.1 ∧ R p.2 e) (putK kvs (key e.1) v) (L ++ [e]) := by
  rw [putK_new v (ld_none inj h ha)]
  exact Paired.snoc h ⟨rfl, hr⟩
end
section
variable {P : Program} {w : World} {K : PySem.W.Frag} {mg : Str → Option Value} {base : Heap}
def sp_row_along {α : Type} (P : Program) (w : World) (K : PySem.W.Frag) (key : α → NK) : Sp := fun vs H Q _ => ∃ (d : Addr) (x : V) (kvs : List (NK × V)) (E : List (α × List Nat)) (e : α × List Nat), vs = [.ref d, x] ∧ DNr P w K H d kvs ∧ LDr K H key E kvs E ∧ (E.map (·.1)).Nodup ∧
  e ∈ E ∧ KeyAt K H x (key e.1) ∧ e.2.length ≤ 100000 ∧ ∀ t H', Same H H' → Dp K H' t (rowI e.2) → Q t H'
theorem ok_row_along {α : Type} (T : Txt K mg) (key : α → NK) (inj : ∀ a b, key a = key b → a = b) : FnOk P w K mg base CX0 1 T.f_row_along T.d_row_along ["leaders", "thing"] (sp_row_along P w K key) := by
  refine T.F_row_along.ok sc_row_along (fun vs H Q E h => ?_) (fun cdv A outer s H vs Q E hr h => ?_)
  · obtain ⟨d, x, kvs, E, e, rfl, _⟩ := h
    rfl
  · obtain ⟨d, x, kvs, E, e, rfl, hd, ld, nd, he, hx, hl, q⟩ := h
    refine ⟨_,
(pss_cons (ps_set (i := 2) sc_row_along.nd rfl (Or.inl rfl) (pe_lst pa_nil))
      (pss_cons (ps_set (i := 3) sc_row_along.nd rfl (Or.inl rfl) (pv 1))
      (pss_cons (ps_while PassesOwn.never (pt_cmpR op_notN (pe_ix (My.ix_dn (P := P) (w := w) (K := K) hr.units) (pv 0) (pv 3) (fun _ _ => rfl)) pe_non (nomark _)) (pss_cons (ps_asg (pe_ix (My.ix_dn (P := P) (w := w) (K := K) hr.units) (pv 0) (pv 3) (fun _ _ => rfl)) (pg_tup (by rfl) (pgs_cons (pg_name (i := 3) sc_row_along.nd rfl (Or.inl rfl)) (pgs_cons (pg_name (i := 4) sc_row_along.nd rfl (Or.inl rfl)) pgs_nil))))
      (pss_one (ps_expr (pe_bm PySem.F.plainAttrs_list PySem.F.slot_list_append PySem.F.type_list_append mt_append (pv 2) (pa_cons (pv 4) pa_nil))))))
      (pss_one (ps_ret (pe_callTy call_tuple_of (by rfl) T.z_tuple (by decide +kernel) (pa_cons (pe_revL (pv 2)) pa_nil)))))))
, ?_⟩
    refine ⟨by show 0 ≤ sizeLine; decide, fun R hR => ⟨_, rfl, ?_⟩⟩
    refine ⟨fun n σ H' => ∃ (nv : V) (cv : Option V) (e' : α × List Nat) (qs : List Nat), σ = [some (.ref d), some x, some (.ref R), some nv, cv] ∧ Same H H' ∧ H' R = some (.lst (rowV qs)) ∧ e' ∈ E ∧ KeyAt K H' nv (key e'.1) ∧ e.2 = e'.2 ++ qs.reverse ∧ n = e'.2.length,
      ⟨_, x, none, e, [], rfl, same_new hR, upd_same, he, hx.ts (ts_same (same_new hR)), by simp, rfl⟩, ?_⟩
    rintro n σ H1 ⟨nv, cv, e', qs, rfl, s1, hR1, he', hnv, heq, rfl⟩
    obtain ⟨v, hv, hle⟩ := ld_get inj ld nd he'
    have hle := hle.mono (ts_same s1) (fun _ h => h)
    have hql : qs.length ≤ 100000 := by
      have := congrArg List.length heq
      rw [List.length_append, List.length_reverse] at this
      omega
    refine ⟨_, rfl, _, rfl, d, kvs, key e'.1, v, rfl, hd.same s1, hnv, hv, rfl, _, rfl, ?_⟩
    rcases hle with ⟨e0, rfl⟩ | ⟨t, xp, p, r, k, rfl, ht, hxp, hpE, er⟩
    · refine iteF ?_
      refine ⟨_, rfl, R, _, rfl, SqL.of hR1, fun p hp => ⟨p, _, rfl, .inl ⟨SqL.of upd_same, fun t ht => ?_⟩⟩⟩
      refine q _ _ ((s1.trans (same_new hp)).trans (same_new ht)) ?_
      rw [heq, e0, List.nil_append]
      refine dp_row (.inl (.inl ?_))
      rw [upd_same]
      unfold rowV
      rw [List.map_reverse]
    · refine iteT ?_
      refine ⟨fun σ' H' => ∃ m', m' < e'.2.length ∧ _, fun σ' H' h => h, ?_⟩
      refine ⟨_, rfl, _, rfl, d, kvs, key e'.1, _, rfl, hd.same s1, hnv, hv, t, _, rfl, ht, rfl, _, _, rfl, _, _, rfl, rfl, ?_⟩
      refine ⟨_, rfl, .inl ⟨rfl, _, SqL.of hR1⟩, _, rfl, R, _, _, rfl, rfl, hR1, by rw [show (rowV qs).length = qs.length from List.length_map ..]; exact sz_line (by omega), ?_⟩
      refine ⟨r.length, by rw [er, List.length_append]; show r.length < r.length + 1; omega, xp, some (.int (k : Int)), (p, r), qs ++ [k], rfl, same_at s1 hR, ?_, hpE, hxp.ts (ts_upd hR1 True.intro), ?_, rfl⟩
      · rw [upd_same]
        unfold rowV
        rw [List.map_append]
        rfl
      · rw [heq, er, List.reverse_append]
        simp
def optRow : Option (List Nat) → PyData
  | none => .none
  | some r => rowI r
/-- where row_into stands -/
structure WI (P : Program) (w : World) (K : PySem.W.Frag) (C : Cod) (H H' : Hp) (CD D LY FR : Addr) (B F L : List ((Int × Int) × List Nat)) : Prop where
  s : Same H H'
  cd : H' CD = some (.lst ((List.range C.moves.length).map fun k : Nat => V.int (k : Int)))
  dn : ∃ kvs, DN P w K H' D kvs ∧ LDr K H' kS (B ++ F) kvs (B ++ F)
  ly : ∃ lv, H' LY = some (.lst lv) ∧ Paired (fun v (e : (Int × Int) × List Nat) => KeyAt K H' v (kS e.1)) lv L
  fr : ∃ fv, H' FR = some (.lst fv) ∧ Paired (fun v (e : (Int × Int) × List Nat) => KeyAt K H' v (kS e.1)) fv F
  n1 : CD ≠ FR
  n2 : LY ≠ FR
theorem WI.same {C : Cod} {H H' H2 : Hp} {CD D LY FR : Addr} {B F L : List ((Int × Int) × List Nat)} (h : WI P w K C H H' CD D LY FR B F L) (e : Same H' H2) : WI P w K C H H2 CD D LY FR B F L := by
  obtain ⟨kvs, d1, d2⟩ := h.dn
  obtain ⟨lv, l1, l2⟩ := h.ly
  obtain ⟨fv, f1, f2⟩ := h.fr
  exact ⟨h.s.trans e, e _ _ h.cd, ⟨kvs, d1.same e, d2.mono (ts_same e) fun _ h => h⟩, ⟨lv, e _ _ l1, Paired.mapP l2 fun _ _ z => z.ts (ts_same e)⟩, ⟨fv, e _ _ f1, Paired.mapP f2 fun _ _ z => z.ts (ts_same e)⟩, h.n1, h.n2⟩
theorem WI.push {C : Cod} {H H' : Hp} {CD D LY FR t : Addr} {B F L : List ((Int × Int) × List Nat)} {kvs : List (NK × V)} {fv : List V} {av sv : V} {a : Int × Int} {e : (Int × Int) × List Nat} {k : Nat} {u : HO} (h : WI P w K C H H' CD D LY FR B F L)
    (hD : H D = none) (hF : H FR = none) (d1 : DN P w K H' D kvs) (d2 : LDr K H' kS (B ++ F) kvs (B ++ F)) (f1 : H' FR = some (.lst fv)) (f2 : Paired (fun v (e : (Int × Int) × List Nat) => KeyAt K H' v (kS e.1)) fv F)
    (he : e ∈ B) (ha : a ∉ (B ++ F).map (·.1)) (hav : KeyAt K H' av (kS a)) (hsv : KeyAt K H' sv (kS e.1)) (ht : SqT K H' t [sv, .int (k : Int)]) (hu : DN P w K (upd H' D u) D (putK kvs (kS a) (.ref t))) :
    WI P w K C H (upd (upd H' D u) FR (.lst (fv ++ [av]))) CD D LY FR B (F ++ [(a, e.2 ++ [k])]) L := by
  obtain ⟨φ, hφ⟩ := d1.there
  have nF : FR ≠ D := fun z => by rw [z, hφ] at f1; cases f1
  have f1' : upd H' D u FR = some (.lst fv) := (upd_ne nF).trans f1
  have t1 : TS K H' (upd H' D u) := d1.ts_at
  have t2 : TS K H' (upd (upd H' D u) FR (.lst (fv ++ [av]))) := t1.trans (ts_upd f1' True.intro)
  obtain ⟨lv, l1, l2⟩ := h.ly
  refine ⟨same_at (same_at h.s hD) hF, ?_, ⟨_, hu.upd f1' True.intro nofun, ?_⟩, ⟨lv, ?_, Paired.mapP l2 fun _ _ z => z.ts t2⟩, ⟨_, upd_same, ?_⟩, h.n1, h.n2⟩
  · exact (upd_ne h.n1).trans ((upd_ne fun z => by have := h.cd; rw [z, hφ] at this; cases this).trans h.cd)
  · have d3 : LDr K (upd (upd H' D u) FR (.lst (fv ++ [av]))) kS (B ++ (F ++ [(a, e.2 ++ [k])])) kvs (B ++ F) := d2.mono t2 fun x hx => by
      rw [← List.append_assoc]
      exact List.mem_append_left _ hx
    rw [← List.append_assoc] at d3 ⊢
    exact ld_put kS_inj d3 (e := (a, e.2 ++ [k])) ha (.inr ⟨t, sv, e.1, e.2, k, rfl, t2 _ _ ht, hsv.ts t2, List.mem_append_left _ (List.mem_append_left _ he), rfl⟩)
  · exact (upd_ne h.n2).trans ((upd_ne fun z => by rw [z, hφ] at l1; cases l1).trans l1)
  · exact Paired.snoc (Paired.mapP f2 fun _ _ z => z.ts t2) (hav.ts t2)
theorem paired_at {A B : Type} {R : A → B → Prop} {l1 : List A} {l2 : List B} {i : Nat} {v : A} (h : Paired R l1 l2) (e : l1[i]? = some v) : ∃ b, l2[i]? = some b ∧ R v b := by
  obtain ⟨b, h1, h2⟩ := paired_get h e
  exact ⟨b, h1, h2⟩
theorem rgV_nat (n : Nat) : rgV 0 (n : Int) = (List.range n).map fun k : Nat => V.int (k : Int) := by
  unfold rgV
  rw [show ((n : Int) - 0).toNat = n by omega]
  refine List.map_congr_left fun k _ => ?_
  rw [Int.zero_add]
theorem fold_St {C : Cod} (O : C.Ok) : ∀ {s : Int × Int}, C.St s → ∀ r : List Nat, C.St (r.foldl C.led s)
  | _, h, [] => h
  | _, _, k :: r => fold_St O (Cod.led_St O _ k) r
end
end My

namespace My
open PySem PySem.Spec PyProof.Rows L2
/-! ### the states of a coder -/
def rowS (z : Int) (j : Nat) : List (Int × Int) := (List.range j).map fun k : Nat => (z, (k : Int))
theorem rowS_succ (z : Int) (j : Nat) : rowS z (j + 1) = rowS z j ++ [(z, (j : Int))] := by
  unfold rowS
  rw [List.range_succ, List.map_append]
  rfl
theorem rowS_len (z : Int) (j : Nat) : (rowS z j).length = j := by
  unfold rowS
  rw [List.length_map, List.length_range]
def stsTo (lo : Int) (n : Nat) : Nat → List (Int × Int)
  | 0 => []
  | i + 1 => stsTo lo n i ++ rowS (lo + (i : Int)) n
theorem stsTo_len (lo : Int) (n : Nat) : ∀ i, (stsTo lo n i).length = i * n
  | 0 => by rw [Nat.zero_mul]; rfl
  | i + 1 => by
    show (stsTo lo n i ++ rowS _ n).length = _
    rw [List.length_append, stsTo_len lo n i, rowS_len, Nat.succ_mul]
def Cod.lvN (C : Cod) : Nat := (C.high + 1 - C.low).toNat
def Cod.sts (C : Cod) : List (Int × Int) := stsTo C.low C.steps.length C.lvN
theorem Cod.Ok.cnt_len {C : Cod} (O : C.Ok) : C.cnt = (C.sts.length : Int) := by
  unfold Cod.sts Cod.cnt
  rw [stsTo_len]
  have h1 := O.l2
  have h2 := O.h1
  have e : (C.lvN : Int) = C.high - C.low + 1 := by
    unfold Cod.lvN
    omega
  rw [Int.natCast_mul, e]
theorem rowS_in {z : Int} {j : Nat} {s : Int × Int} (h : s ∈ rowS z j) : s.1 = z ∧ 0 ≤ s.2 ∧ s.2 < j := by
  unfold rowS at h
  obtain ⟨k, hk, rfl⟩ := List.mem_map.mp h
  have := List.mem_range.mp hk
  exact ⟨rfl, by show (0 : Int) ≤ (k : Int); omega, by show (k : Int) < j; omega⟩
theorem stsTo_in {lo : Int} {n : Nat} : ∀ {i : Nat} {s : Int × Int}, s ∈ stsTo lo n i → lo ≤ s.1 ∧ s.1 < lo + (i : Int) ∧ 0 ≤ s.2 ∧ s.2 < n
  | 0, _, h => by cases h
  | i + 1, s, h => by
    rcases List.mem_append.mp (show s ∈ stsTo lo n i ++ rowS (lo + (i : Int)) n from h) with h | h
    · obtain ⟨a, b, c⟩ := stsTo_in h
      exact ⟨a, by omega, c⟩
    · obtain ⟨a, c⟩ := rowS_in h
      exact ⟨by omega, by omega, c⟩
theorem sts_in {C : Cod} (O : C.Ok) {s : Int × Int} (h : s ∈ C.sts) : C.St s := by
  obtain ⟨a, b, c, d⟩ := stsTo_in h
  have h1 := O.l2
  have h2 := O.h1
  unfold Cod.lvN at b
  exact ⟨a, by omega, c, d⟩
/-- a loop over a range: the bookkeeping -/
theorem rng_W {lo : Int} {n : Nat} {H0 : Hp} {Qd : Hp → Prop} {F : (Hp → Prop) → V → Hp → Prop} (Pv : Nat → Hp → Prop) (h0 : Pv 0 H0)
    (hs : ∀ i H, i < n → Pv i H → F (Pv (i + 1)) (.int (lo + (i : Int))) H) (hd : ∀ H, Pv n H → Qd H) :
    ∃ W : Nat → Nat → Hp → Prop, (∃ m, W 0 m H0) ∧ ∀ i m H, W i m H →
      ((Itr lo n).stop i H ∧ Qd H) ∨ ((Itr lo n).go i H ∧ ∃ Nx : Hp → Prop, (∀ H', Nx H' → ∃ m', m' < m ∧ W (i + 1) m' H') ∧ ∀ x H', (Itr lo n).yld i H x H' → F Nx x H') := by
  refine ⟨fun i m H => m = n - i ∧ i ≤ n ∧ Pv i H, ⟨n, by simp, Nat.zero_le _, h0⟩, ?_⟩
  rintro i m H ⟨rfl, hi, p⟩
  by_cases hlt : i < n
  · refine .inr ⟨hlt, Pv (i + 1), fun H' p' => ⟨n - (i + 1), by omega, rfl, hlt, p'⟩, fun x H' y => ?_⟩
    obtain ⟨e, y⟩ := y
    subst e y
    exact hs i _ hlt p
  · have e : i = n := by omega
    subst e
    exact .inl ⟨Nat.le_refl _, hd H p⟩
theorem yes_any {σ : L2.St} {H : Hp} {A B : Hp → Prop} (h : A H) : tYes σ H fun b H3 => if b = true then A H3 else B H3 := by
  show if true = true then A H else B H
  rw [if_pos rfl]
  exact h
theorem rowS_mem {z : Int} {j : Nat} {p : Int} (h0 : 0 ≤ p) (h1 : p < j) : (z, p) ∈ rowS z j := List.mem_map.mpr ⟨p.toNat, List.mem_range.mpr (by omega), by rw [Int.toNat_of_nonneg h0]⟩
theorem stsTo_mem {lo : Int} {n : Nat} {s : Int × Int} (h0 : lo ≤ s.1) (h2 : 0 ≤ s.2) (h3 : s.2 < n) : ∀ {i : Nat}, s.1 < lo + (i : Int) → s ∈ stsTo lo n i
  | 0, h => by omega
  | i + 1, h => by
    show s ∈ stsTo lo n i ++ rowS (lo + (i : Int)) n
    by_cases e : s.1 < lo + (i : Int)
    · exact List.mem_append_left _ (stsTo_mem h0 h2 h3 e)
    · have e2 : s.1 = lo + (i : Int) := by omega
      refine List.mem_append_right _ ?_
      rw [← e2]
      exact rowS_mem (z := s.1) h2 h3
theorem sts_mem {C : Cod} (O : C.Ok) {s : Int × Int} (h : C.St s) : s ∈ C.sts := by
  obtain ⟨a, b, c, d⟩ := h
  refine stsTo_mem a c d ?_
  unfold Cod.lvN
  have := O.l2
  have := O.h1
  omega
section
variable {P : Program} {w : World} {K : PySem.W.Frag} {mg : Str → Option Value} {base : Heap}
set_option maxHeartbeats 4000000 in
def sp_all_states (K : PySem.W.Frag) : Sp := fun vs H Q _ => ∃ (c : V) (C : Cod), vs = [c] ∧ C.Ok ∧ Dp K H c C.dat ∧ C.cnt ≤ 4096 ∧ ∀ t xs H', Same H H' → H' t = some (.tup xs) → DpAll K H' xs (C.sts.map pairI) → Q (.ref t) H'
theorem ok_all_states (T : Txt K mg) : FnOk P w K mg base CX0 1 T.f_all_states T.d_all_states ["coder"] (sp_all_states K) := by
  refine T.F_all_states.ok sc_all_states (fun vs H Q E h => ?_) (fun cdv A outer s H vs Q E hr h => ?_)
  · obtain ⟨c, C, rfl, _⟩ := h
    rfl
  · obtain ⟨c, C, rfl, O, hc, few, q1⟩ := h
    refine ⟨_,
(pss_cons (ps_asg (pe_slice sl_tupA (pv 0) po_none (po_some pe_int)) (pg_tup (by rfl) (pgs_cons (pg_name (i := 1) sc_all_states.nd rfl (Or.inl rfl)) (pgs_cons (pg_name (i := 2) sc_all_states.nd rfl (Or.inl rfl)) (pgs_cons (pg_name (i := 3) sc_all_states.nd rfl (Or.inr rfl)) pgs_nil)))))
      (pss_one (ps_ret (pe_callTy call_tuple_of (by rfl) T.z_tuple (by decide +kernel) (pa_cons (pe_lc2 (own := [("level", 4), ("place", 5)]) (vs1 := [5]) rfl sc_all_states.nd (pi_range2 (by rfl) T.z_range (pa_cons (pv 1) (pa_cons (pe_op op_add (pv 2) pe_int) pa_nil))) (blkOk_by (own := [("level", 4), ("place", 5)]) (N := ["coder", "low", "high", "steps", "level", "place"]) (sc := defScope s_all_states) (by decide +kernel)) (by decide) (fun _ _ _ _ _ => (pg_name (i := 4) sc_all_states.nd rfl (Or.inl rfl))) (fun _ _ _ _ _ => pts_nil) (fun _ _ _ _ _ => (pi_range1 (by rfl) T.z_range (pa_cons (pe_callB (My.call_lenK (K := K)) (by rfl) T.z_len (by decide +kernel) (pa_cons (pv 3) pa_nil)) pa_nil))) (fun _ _ _ _ _ => (pg_name (i := 5) sc_all_states.nd rfl (Or.inl rfl))) (fun _ _ _ _ _ => pts_nil) (fun _ _ _ _ _ => (pe_tup (pa_cons (pv 4) (pa_cons (pv 5) pa_nil))))) pa_nil)))))
, ?_⟩
    obtain ⟨a, s, mm, ms, rfl, ha, hs, hm, hmd⟩ := cod_at hc
    refine ⟨_, rfl, 3, rfl, a, _, rfl, ha, fun hw => absurd (show (3 : Nat) = 5 from hw.2) (by decide), fun _ p hp => ?_⟩
    rw [cut3]
    have s3 := same_new (o := .tup [V.int C.low, V.int C.high, V.ref s]) hp
    refine ⟨p, _, rfl, upd_tup, rfl, _, _, rfl, _, _, rfl, _, _, rfl, rfl, ?_⟩
    generalize upd H p (.tup [V.int C.low, V.int C.high, V.ref s]) = H3 at s3
    have s13 := s3
    have hs3 := same_tup s3 hs
    have l1 := O.l1
    have l2 := O.l2
    have h1 := O.h1
    have h2 := O.h2
    have small := O.cnt_len
    refine ⟨_, rfl, _, rfl, _, _, rfl, rfl, _, _, rfl, ⟨by omega, by omega, by omega, by omega⟩, fun D hD => ?_⟩
    have lenAt : ∀ i, i ≤ C.lvN → i * C.steps.length ≤ C.sts.length := fun i hi => by
      unfold Cod.sts
      rw [stsTo_len]
      exact Nat.mul_le_mul_right _ hi
    refine rng_W (lo := C.low) (n := (C.high + 1 - C.low).toNat) (fun i H' => ∃ xs, H' D = some (.lst xs) ∧ DpAll K H' xs ((stsTo C.low C.steps.length i).map pairI) ∧ Same H3 H') ⟨[], upd_same, .nil, same_new hD⟩ ?_ ?_
    · rintro i H' hi ⟨xs, hx, hxd, sx⟩
      refine ⟨rfl, yes_any ?_⟩
      refine ⟨_, rfl, s, _, rfl, .inr (same_tup sx hs3), _, rfl, by omega, by rw [List.length_map]; have := O.s2; omega, ?_⟩
      have li := lenAt (i + 1) hi
      rw [Nat.succ_mul] at li
      refine rng_W (lo := 0) (n := ((((C.steps.map V.int).length : Nat) : Int)).toNat) (fun j H' => ∃ xs, H' D = some (.lst xs) ∧ DpAll K H' xs ((stsTo C.low C.steps.length i ++ rowS (C.low + (i : Int)) j).map pairI) ∧ Same H3 H') ⟨xs, hx, by rw [show rowS (C.low + (i : Int)) 0 = [] from rfl, List.append_nil]; exact hxd, sx⟩ ?_ ?_
      · rintro j H5 hj ⟨ys, hy, hyd, sy⟩
        have hj' : j < C.steps.length := by rw [List.length_map] at hj; omega
        refine ⟨rfl, yes_turn ?_⟩
        refine ⟨_, rfl, _, rfl, by show 2 ≤ sizeLine; decide, fun q hq => ?_⟩
        have sp := same_new (o := .tup [V.int (C.low + (i : Int)), V.int (0 + (j : Int))]) hq
        have hy6 := sp _ _ hy
        have yl : ys.length = i * C.steps.length + j := by
          rw [dpAll_len hyd, List.length_map, List.length_append, stsTo_len, rowS_len]
        refine ⟨ys, hy6, ?_, ys ++ [.ref q], upd_same, ?_, same_put (sy.trans sp) hD⟩
        · rw [yl]
          exact Nat.lt_of_lt_of_le (by omega) (show 4097 ≤ sizeLine by decide)
        · rw [rowS_succ, ← List.append_assoc, List.map_append]
          refine dpAll_app (pairs_set hy6 (dpAll_same sp _ _ hyd)) (.cons (dp_mkpair (s := (C.low + (i : Int), (j : Int))) (sqt_set hy6 ?_)) .nil)
          rw [Int.zero_add]
          exact upd_tup
      · rintro H5 ⟨ys, hy, hyd, sy⟩
        rw [List.length_map, Int.toNat_natCast] at hyd
        exact ⟨ys, hy, hyd, sy⟩
    · rintro H4 ⟨xs, hx, hxd, sx⟩
      refine ⟨D, xs, rfl, .inl ⟨SqL.of hx, fun t ht => ?_⟩⟩
      have s5 := same_new (o := .tup xs) ht
      exact q1 t xs _ ((s13.trans sx).trans s5) upd_same (dpAll_same s5 _ _ hxd)
def sp_law_states (K : PySem.W.Frag) : Sp := fun vs H Q _ => ∃ (c : V) (C : Cod), vs = [c] ∧ C.Ok ∧ Dp K H c C.dat ∧ C.sts.length ≤ 4096 ∧
  ∀ p xs H', Same H H' → H p = none → H' p = some (.lst xs) → DpAll K H' xs (C.sts.map pairI) → Q (.ref p) H'
set_option maxHeartbeats 4000000 in
theorem ok_law_states (T : Txt K mg) : FnOk P w K mg base CX0 1 T.f__law_states T.d__law_states ["coder"] (sp_law_states K) := by
  refine T.F__law_states.ok sc_law_states (fun vs H Q E h => ?_) (fun cdv A outer s H vs Q E hr h => ?_)
  · obtain ⟨c, C, rfl, _⟩ := h
    rfl
  · obtain ⟨c, C, rfl, O, hc, few, q⟩ := h
    obtain ⟨a, s, mm, ms, rfl, ha, hs, hm, hmd⟩ := cod_at hc
    have l1 := O.l1
    have l2 := O.l2
    have h1 := O.h1
    have h2 := O.h2
    have lenAt : ∀ i, i ≤ C.lvN → i * C.steps.length ≤ C.sts.length := fun i hi => by
      unfold Cod.sts
      rw [stsTo_len]
      exact Nat.mul_le_mul_right _ hi
    refine ⟨_,
(pss_cons (ps_set (i := 1) sc_law_states.nd rfl (Or.inl rfl) (pe_lst pa_nil))
      (pss_cons (ps_for PassesOwn.never rfl (pi_range2 (by rfl) T.z_range (pa_cons (pe_ix ix_tup (pv 0) pe_int (fun _ _ => rfl)) (pa_cons (pe_op op_add (pe_ix ix_tup (pv 0) pe_int (fun _ _ => rfl)) pe_int) pa_nil))) (pg_name (i := 2) sc_law_states.nd rfl (Or.inr rfl)) (pss_one (ps_set (i := 1) sc_law_states.nd rfl (Or.inl rfl) (pe_op op_cat (pv 1) (pe_lc (own := [("place", 3)]) rfl sc_law_states.nd (pi_range1 (by rfl) T.z_range (pa_cons (pe_callB (call_len_seq) (by rfl) T.z_len (by decide +kernel) (pa_cons (pe_ix ix_tup (pv 0) pe_int (fun _ _ => rfl)) pa_nil)) pa_nil)) (blkOk_by (own := [("place", 3)]) (N := ["coder", "found", "level", "place"]) (sc := defScope s_law_states) (by decide +kernel)) (fun _ _ _ _ _ => (pg_name (i := 3) sc_law_states.nd rfl (Or.inl rfl))) (fun _ _ _ _ _ => pts_nil) (fun _ _ _ _ _ => (pe_tup (pa_cons (pv 2) (pa_cons (pv 3) pa_nil)))))))))
      (pss_one (ps_ret (pv 1)))))
, ?_⟩
    refine ⟨Nat.zero_le _, fun F hF => ?_⟩
    have s1 := same_new (o := .lst []) hF
    refine ⟨_, rfl, a, _, 0, _, rfl, rfl, same_tup s1 ha, atI_nat (j := 0) rfl, _, rfl, a, _, 1, _, rfl, rfl, same_tup s1 ha, atI_nat (j := 1) rfl, _, _, rfl, rfl, _, _, rfl, ⟨by omega, by omega, by omega, by omega⟩, ?_⟩
    refine for_range (lo := C.low) (n := (C.high + 1 - C.low).toNat) (fun i σ H' => ∃ (F : Addr) (xs : List V) (y : Option V), σ = [some (.ref a), some (.ref F), y, none] ∧ H' F = some (.lst xs) ∧ DpAll K H' xs ((stsTo C.low C.steps.length i).map pairI) ∧ Same H H' ∧ H F = none)
      ⟨F, [], none, rfl, upd_same, .nil, s1, hF⟩ ?_ ?_
    · rintro i σ H2 hi ⟨F, xs, y, rfl, hx, hxd, sx, _⟩
      have li := lenAt (i + 1) hi
      rw [Nat.succ_mul] at li
      refine ⟨_, rfl, _, rfl, a, _, 2, _, rfl, rfl, same_tup sx ha, atI_nat (j := 2) rfl, s, _, rfl, .inr (same_tup sx hs), _, rfl, by omega, by rw [List.length_map]; have := O.s2; omega, fun D hD => ?_⟩
      refine lc_range (lo := 0) (n := ((((C.steps.map V.int).length : Nat) : Int) - 0).toNat) (fun j H' => ∃ ys, H' D = some (.lst ys) ∧ DpAll K H' ys ((rowS (C.low + (i : Int)) j).map pairI) ∧ Same H2 H') ⟨[], upd_same, .nil, same_new hD⟩ ?_ ?_
      · rintro j H5 hj ⟨ys, hy, hyd, sy⟩
        have hj' : j < C.steps.length := by rw [List.length_map] at hj; omega
        refine ⟨rfl, yes_turn ?_⟩
        refine ⟨_, rfl, _, rfl, by show 2 ≤ sizeLine; decide, fun q hq => ?_⟩
        have sp := same_new (o := .tup [V.int (C.low + (i : Int)), V.int (0 + (j : Int))]) hq
        have hy6 := sp _ _ hy
        have yl : ys.length = j := by
          rw [dpAll_len hyd, List.length_map, rowS_len]
        refine ⟨ys, hy6, ?_, ys ++ [.ref q], upd_same, ?_, same_put (sy.trans sp) hD⟩
        · rw [yl]
          exact Nat.lt_of_lt_of_le (by have := O.s2; omega) (show 4097 ≤ sizeLine by decide)
        · rw [rowS_succ, List.map_append]
          refine dpAll_app (pairs_set hy6 (dpAll_same sp _ _ hyd)) (.cons (dp_mkpair (s := (C.low + (i : Int), (j : Int))) (sqt_set hy6 ?_)) .nil)
          rw [Int.zero_add]
          exact upd_tup
      · rintro H5 ⟨ys, hy, hyd, sy⟩
        rw [List.length_map, show (((C.steps.length : Nat) : Int) - 0).toNat = C.steps.length by omega] at hyd
        have xl : xs.length = i * C.steps.length := by rw [dpAll_len hxd, List.length_map, stsTo_len]
        have yl : ys.length = C.steps.length := by rw [dpAll_len hyd, List.length_map, rowS_len]
        refine ⟨F, D, xs, ys, rfl, rfl, sy _ _ hx, hy, ?_, fun p hp => ?_⟩
        · rw [xl, yl]
          exact Nat.le_trans (by omega) (show 4097 ≤ sizeLine by decide)
        have sp := same_new (o := .lst (xs ++ ys)) hp
        refine ⟨p, xs ++ ys, _, rfl, upd_same, ?_, (sx.trans sy).trans sp, by
          cases e : H p with
          | none => rfl
          | some o => have := (sx.trans sy) _ _ e; rw [this] at hp; cases hp⟩
        show DpAll K _ (xs ++ ys) ((stsTo C.low C.steps.length i ++ rowS (C.low + (i : Int)) C.steps.length).map pairI)
        rw [List.map_append]
        exact dpAll_app (dpAll_same (sy.trans sp) _ _ hxd) (dpAll_same sp _ _ hyd)
    · rintro σ H2 ⟨F, xs, y, rfl, hx, hxd, sx, hn⟩
      exact ⟨_, rfl, q F xs H2 sx hn hx hxd⟩
end
end My

/-! couples of states: the mathematics -/
namespace My
open PySem PySem.Spec PyProof.Rows L2
abbrev Cpl := (Int × Int) × (Int × Int)
theorem ltPB_irr (a : Int × Int) : ltPB a a = false := by
  unfold ltPB
  rw [if_pos rfl]
  exact decide_eq_false (Int.lt_irrefl _)
theorem ltPB_flip {a b : Int × Int} (h : a ≠ b) (h2 : ltPB a b = false) : ltPB b a = true := by
  rw [ltPB_iff]
  have h3 : ¬ (a.1 < b.1 ∨ a.1 = b.1 ∧ a.2 < b.2) := fun z => by rw [ltPB_iff.mpr z] at h2; cases h2
  by_cases e : a.1 = b.1
  · have : a.2 ≠ b.2 := fun z => h (Prod.ext e z)
    exact .inr ⟨e.symm, by omega⟩
  · exact .inl (by omega)
theorem ltPB_asym {a b : Int × Int} (h : ltPB a b = true) : ltPB b a = false := by
  cases h2 : ltPB b a with
  | false => rfl
  | true =>
    rw [ltPB_iff] at h h2
    omega
theorem ltPB_ne {a b : Int × Int} (h : ltPB a b = true) : a ≠ b := fun e => by rw [e, ltPB_irr] at h; cases h
def cpl (a b : Int × Int) : Option Cpl := if a = b then none else if ltPB a b = true then some (a, b) else some (b, a)
theorem cpl_none {a b : Int × Int} : cpl a b = none ↔ a = b := by
  unfold cpl
  constructor
  · intro h
    by_cases e : a = b
    · exact e
    · rw [if_neg e] at h
      split at h <;> cases h
  · exact fun e => if_pos e
theorem cpl_lt {a b : Int × Int} (h : ltPB a b = true) : cpl a b = some (a, b) := by
  unfold cpl
  rw [if_neg (ltPB_ne h), if_pos h]
theorem cpl_gt {a b : Int × Int} (h : a ≠ b) (h2 : ltPB a b = false) : cpl a b = some (b, a) := by
  unfold cpl
  rw [if_neg h, if_neg (by rw [h2]; exact Bool.false_ne_true)]
theorem cpl_comm (a b : Int × Int) : cpl a b = cpl b a := by
  by_cases e : a = b
  · rw [e]
  · cases h : ltPB a b with
    | true => rw [cpl_lt h, cpl_gt (Ne.symm e) (ltPB_asym h)]
    | false => rw [cpl_gt e h, cpl_lt (ltPB_flip e h)]
theorem cpl_some {a b : Int × Int} {c : Cpl} (h : cpl a b = some c) : (c = (a, b) ∨ c = (b, a)) ∧ ltPB c.1 c.2 = true := by
  by_cases e : a = b
  · rw [cpl_none.mpr e] at h; cases h
  · cases h2 : ltPB a b with
    | true => rw [cpl_lt h2] at h; cases h; exact ⟨.inl rfl, h2⟩
    | false => rw [cpl_gt e h2] at h; cases h; exact ⟨.inr rfl, ltPB_flip e h2⟩
theorem cpl_self {c : Cpl} (h : ltPB c.1 c.2 = true) : cpl c.1 c.2 = some c := cpl_lt h
/-- a couple led on -/
def Cod.cled (C : Cod) : Option Cpl → Nat → Option Cpl
  | none, _ => none
  | some c, k => cpl (C.led c.1 k) (C.led c.2 k)
theorem cled_cpl (C : Cod) (a b : Int × Int) (k : Nat) : C.cled (cpl a b) k = cpl (C.led a k) (C.led b k) := by
  cases h : cpl a b with
  | none =>
    rw [cpl_none.mp h]
    exact (cpl_none.mpr rfl).symm
  | some c =>
    obtain ⟨h | h, _⟩ := cpl_some h
    · rw [h]; rfl
    · rw [h]; exact cpl_comm _ _
theorem cfold (C : Cod) : ∀ (q : List Nat) (a b : Int × Int), q.foldl C.cled (cpl a b) = cpl (q.foldl C.led a) (q.foldl C.led b)
  | [], _, _ => rfl
  | k :: q, a, b => by
    rw [List.foldl_cons, cled_cpl, cfold C q, List.foldl_cons, List.foldl_cons]
def kC (c : Cpl) : NK := .tup [kS c.1, kS c.2]
def kO : Option Cpl → NK
  | none => .none
  | some c => kC c
def cplI (c : Cpl) : PyData := .tuple [pairI c.1, pairI c.2]
def cplO : Option Cpl → PyData
  | none => .none
  | some c => cplI c
theorem kC_data (c : Cpl) : (kC c).data = cplI c := by simp [kC, NestedKey.data, NestedKey.datas, kS_data, cplI]
theorem kO_data (c : Option Cpl) : (kO c).data = cplO c := by
  cases c with
  | none => simp [kO, NestedKey.data, cplO]
  | some c => exact kC_data c
theorem kC_dep (c : Cpl) : (kC c).depth ≤ 8 := by simp [kC, kS, NestedKey.depth, NestedKey.depthAll]
theorem kC_inj (a b : Cpl) (h : kC a = kC b) : a = b := by
  unfold kC at h
  injection h with h
  injection h with h1 h
  injection h with h2 _
  exact Prod.ext (kS_inj _ _ h1) (kS_inj _ _ h2)
theorem kO_inj (a b : Option Cpl) (h : kO a = kO b) : a = b := by
  cases a with
  | none =>
    cases b with
    | none => rfl
    | some b => simp [kO, kC] at h
  | some a =>
    cases b with
    | none => simp [kO, kC] at h
    | some b => rw [kC_inj a b h]
theorem keyC {K : PySem.W.Frag} {H : Hp} {v : V} {c : Cpl} (h : Dp K H v (cplI c)) : KeyAt K H v (kC c) := by
  have h2 := h
  unfold cplI at h2
  cases h2 with
  | tup hs ha => exact ⟨⟨_, rfl⟩, by rw [kC_data]; exact h, kC_dep c⟩
theorem keyC_out {K : PySem.W.Frag} {H : Hp} {v : V} {c : Cpl} (h : KeyAt K H v (kC c)) : Dp K H v (cplI c) := by rw [← kC_data]; exact h.dp
def Cod.StC (C : Cod) (c : Cpl) : Prop := C.St c.1 ∧ C.St c.2
theorem StC_of {C : Cod} {a b : Int × Int} {c : Cpl} (h : cpl a b = some c) (ha : C.St a) (hb : C.St b) : C.StC c := by
  obtain ⟨h | h, _⟩ := cpl_some h
  · rw [h]; exact ⟨ha, hb⟩
  · rw [h]; exact ⟨hb, ha⟩
def Cod.cpls (C : Cod) : List (Option Cpl) := none :: C.sts.flatMap fun a => C.sts.map fun b => some (a, b)
theorem flat_len {α β : Type} (l : List α) (f : α → List β) (n : Nat) (h : ∀ a ∈ l, (f a).length = n) : (l.flatMap f).length = l.length * n := by
  induction l with
  | nil => simp
  | cons a t ih =>
    rw [List.flatMap_cons, List.length_append, h a (.head _), ih fun b hb => h b (.tail _ hb), List.length_cons, Nat.succ_mul]
    omega
theorem cpls_len (C : Cod) : C.cpls.length = C.sts.length * C.sts.length + 1 := by
  unfold Cod.cpls
  rw [List.length_cons, flat_len _ _ C.sts.length fun a _ => List.length_map ..]
theorem cpls_mem {C : Cod} (O : C.Ok) {a b : Int × Int} (ha : C.St a) (hb : C.St b) : cpl a b ∈ C.cpls := by
  unfold Cod.cpls
  cases h : cpl a b with
  | none => exact .head _
  | some c =>
    obtain ⟨h1, h2⟩ := StC_of h ha hb
    exact .tail _ (List.mem_flatMap.mpr ⟨c.1, sts_mem O h1, List.mem_map.mpr ⟨c.2, sts_mem O h2, rfl⟩⟩)
section
variable {α : Type} [DecidableEq α] {led : α → Nat → α} {m : Nat}
theorem Few.up {s : α} {N M : Nat} (h : Few led m s N) (l : N ≤ M) : Few led m s M := fun E g => Nat.le_trans (h E g) l
theorem stC_pre {B F : List (α × List Nat)} {e : α × List Nat} {k : Nat} : ∃ R, stC led B e F k = F ++ R := by
  unfold stC
  split
  · exact ⟨[], by rw [List.append_nil]⟩
  · exact ⟨_, rfl⟩
theorem stN_pre {B F : List (α × List Nat)} {e : α × List Nat} {n : Nat} : ∀ d, ∃ R, stN led B F e (n + d) = stN led B F e n ++ R
  | 0 => ⟨[], by rw [List.append_nil]; rfl⟩
  | d + 1 => by
    obtain ⟨R, h⟩ := stN_pre (B := B) (F := F) (e := e) (n := n) d
    obtain ⟨R2, h2⟩ := stC_pre (led := led) (B := B) (F := stN led B F e (n + d)) (e := e) (k := n + d)
    exact ⟨R ++ R2, by rw [show n + (d + 1) = (n + d) + 1 from rfl, stN_succ, h2, h, List.append_assoc]⟩
theorem nxI_pre {B L : List (α × List Nat)} {i : Nat} : ∀ d, i + d ≤ L.length → ∃ R, nxI led m B L (i + d) = nxI led m B L i ++ R
  | 0, _ => ⟨[], by rw [List.append_nil]; rfl⟩
  | d + 1, hl => by
    obtain ⟨R, h⟩ := nxI_pre (B := B) (L := L) (i := i) d (by omega)
    rw [show i + (d + 1) = (i + d) + 1 from rfl, nxI_succ (List.getElem?_eq_getElem (show i + d < L.length by omega))]
    obtain ⟨R2, h2⟩ := stN_pre (led := led) (B := B) (F := nxI led m B L (i + d)) (e := L[i + d]) (n := 0) m
    rw [Nat.zero_add] at h2
    exact ⟨R ++ R2, by rw [h2, stN_zero, h, List.append_assoc]⟩
/-- what the round n finds while it is under way stands in order in all that is found -/
theorem allB_mid {s : α} {n N i j : Nat} {e : α × List Nat} (f : Few led m s N) (hn : (lyr led m s n).2 ≠ []) (he : (lyr led m s n).2[i]? = some e) (hj : j ≤ m) : ∃ R, allB led m s N = (lyr led m s n).1 ++ (lyr led m s n).2 ++ stN led ((lyr led m s n).1 ++ (lyr led m s n).2) (nxI led m ((lyr led m s n).1 ++ (lyr led m s n).2) (lyr led m s n).2 i) e j ++ R := by
  have hi := (List.getElem?_eq_some_iff.mp he).1
  have many := lyr_many (led := led) (m := m) s n hn
  have le := f _ (Gd.lyr (led := led) (m := m) s n)
  obtain ⟨R1, h1⟩ := allB_ext (led := led) (m := m) f (show n + 1 ≤ N by omega)
  rw [lyr_S] at h1
  obtain ⟨R2, h2⟩ := nxI_pre (led := led) (m := m) (B := (lyr led m s n).1 ++ (lyr led m s n).2) (L := (lyr led m s n).2) (i := i + 1) ((lyr led m s n).2.length - (i + 1)) (by omega)
  rw [show i + 1 + ((lyr led m s n).2.length - (i + 1)) = (lyr led m s n).2.length by omega, nxI_all, nxI_succ he] at h2
  obtain ⟨R3, h3⟩ := stN_pre (led := led) (B := (lyr led m s n).1 ++ (lyr led m s n).2) (F := nxI led m ((lyr led m s n).1 ++ (lyr led m s n).2) (lyr led m s n).2 i) (e := e) (n := j) (m - j)
  rw [show j + (m - j) = m by omega] at h3
  refine ⟨R3 ++ R2 ++ R1, ?_⟩
  rw [h1]
  show (lyr led m s n).1 ++ (lyr led m s n).2 ++ nxt led m ((lyr led m s n).1 ++ (lyr led m s n).2) (lyr led m s n).2 ++ R1 = _
  rw [h2, h3]
  simp only [List.append_assoc]
end
theorem few_cled {C : Cod} (O : C.Ok) {a b : Int × Int} (ha : C.St a) (hb : C.St b) {m : Nat} (few : C.cnt ≤ 256) : ∃ N, N ≤ 100000 ∧ Few C.cled m (cpl a b) N := by
  have h := few_of (led := C.cled) (m := m) (s := cpl a b) (L := C.cpls) fun E g e he => by
    rw [(g.run e he).1, cfold]
    exact cpls_mem O (fold_St O ha _) (fold_St O hb _)
  rw [cpls_len] at h
  refine ⟨_, ?_, h⟩
  have := O.cnt_len
  have hl : C.sts.length ≤ 256 := by omega
  have := Nat.mul_le_mul hl hl
  omega
/-- a row that joins them -/
def Joins (C : Cod) (a b : Int × Int) : List Nat → Prop := fun q => q.foldl C.led a = q.foldl C.led b
/-- the first of them -/
def JoinRow (C : Cod) (a b : Int × Int) : Option (List Nat) → Prop := IsFirst C.moves.length (Joins C a b)
theorem joinRow_pick {C : Cod} {a b : Int × Int} {N : Nat} (f : Few C.cled C.moves.length (cpl a b) N) : JoinRow C a b (pick Option.isNone (allB C.cled C.moves.length (cpl a b) N)) := by
  refine IsFirst.congr (fun q _ => ?_) (pick_is f _)
  rw [cfold]
  unfold Joins
  rw [Option.isNone_iff_eq_none, cpl_none]
theorem JoinRow.comm {C : Cod} {a b : Int × Int} {o : Option (List Nat)} (h : JoinRow C a b o) : JoinRow C b a o := IsFirst.congr (fun _ _ => ⟨Eq.symm, Eq.symm⟩) h
end My

/-! couples of states: the program's search -/
namespace My
open PySem PySem.Spec PyProof.Rows L2
/-- where the codes lead a state -/
def folD (C : Cod) (s : Int × Int) : PyData := .tuple ((List.range C.moves.length).map fun k => pairI (C.led s k))
/-- what led_states tells -/
def LedAt (P : Program) (w : World) (K : PySem.W.Frag) (H : Hp) (d : Addr) (C : Cod) : Prop := ∃ kvs, DNr P w K H d kvs ∧ ∀ s, C.St s → ∃ v, valV kvs (kS s) = some v ∧ Dp K H v (folD C s)
theorem LedAt.same {P : Program} {w : World} {K : PySem.W.Frag} {H H' : Hp} {d : Addr} {C : Cod} (h : LedAt P w K H d C) (e : Same H H') : LedAt P w K H' d C := by
  obtain ⟨kvs, d1, h1⟩ := h
  exact ⟨kvs, d1.same e, fun s hs => by
    obtain ⟨v, e1, e2⟩ := h1 s hs
    exact ⟨v, e1, dp_same e _ _ e2⟩⟩
/-- the followers of a couple -/
structure FolAt (K : PySem.W.Frag) (H : Hp) (C : Cod) (c : Cpl) (xs : List V) : Prop where
  len : xs.length = C.moves.length
  at_ : ∀ j v, xs[j]? = some v → Dp K H v (kO (C.cled (some c) j)).data
theorem FolAt.ts {K : PySem.W.Frag} {H H' : Hp} {C : Cod} {c : Cpl} {xs : List V} (h : FolAt K H C c xs) (t : TS K H H') : FolAt K H' C c xs := ⟨h.len, fun j v e => dp_ts t _ _ (h.at_ j v e)⟩
/-- where row_joining stands -/
structure WJ (P : Program) (w : World) (K : PySem.W.Frag) (H H' : Hp) (D LY FR : Addr) (B F L : List (Option Cpl × List Nat)) : Prop where
  s : Same H H'
  dn : ∃ kvs, DN P w K H' D kvs ∧ LDr K H' kO (B ++ F) kvs (B ++ F)
  ly : ∃ lv, H' LY = some (.lst lv) ∧ Paired (fun v (e : Option Cpl × List Nat) => KeyAt K H' v (kO e.1)) lv L
  fr : ∃ fv, H' FR = some (.lst fv) ∧ Paired (fun v (e : Option Cpl × List Nat) => KeyAt K H' v (kO e.1)) fv F
  n2 : LY ≠ FR
theorem WJ.same {P : Program} {w : World} {K : PySem.W.Frag} {H H' H2 : Hp} {D LY FR : Addr} {B F L : List (Option Cpl × List Nat)} (h : WJ P w K H H' D LY FR B F L) (e : Same H' H2) : WJ P w K H H2 D LY FR B F L := by
  obtain ⟨kvs, d1, d2⟩ := h.dn
  obtain ⟨lv, l1, l2⟩ := h.ly
  obtain ⟨fv, f1, f2⟩ := h.fr
  exact ⟨h.s.trans e, ⟨kvs, d1.same e, d2.mono (ts_same e) fun _ h => h⟩, ⟨lv, e _ _ l1, Paired.mapP l2 fun _ _ z => z.ts (ts_same e)⟩, ⟨fv, e _ _ f1, Paired.mapP f2 fun _ _ z => z.ts (ts_same e)⟩, h.n2⟩
theorem WJ.push {P : Program} {w : World} {K : PySem.W.Frag} {H H' : Hp} {D LY FR t : Addr} {B F L : List (Option Cpl × List Nat)} {kvs : List (NK × V)} {fv : List V} {av sv : V} {a : Option Cpl} {e : Option Cpl × List Nat} {k : Nat} {u : HO} (h : WJ P w K H H' D LY FR B F L)
    (hD : H D = none) (hF : H FR = none) (d1 : DN P w K H' D kvs) (d2 : LDr K H' kO (B ++ F) kvs (B ++ F)) (f1 : H' FR = some (.lst fv)) (f2 : Paired (fun v (e : Option Cpl × List Nat) => KeyAt K H' v (kO e.1)) fv F)
    (he : e ∈ B) (ha : a ∉ (B ++ F).map (·.1)) (hav : KeyAt K H' av (kO a)) (hsv : KeyAt K H' sv (kO e.1)) (ht : SqT K H' t [sv, .int (k : Int)]) (hu : DN P w K (upd H' D u) D (putK kvs (kO a) (.ref t))) :
    WJ P w K H (upd (upd H' D u) FR (.lst (fv ++ [av]))) D LY FR B (F ++ [(a, e.2 ++ [k])]) L := by
  obtain ⟨φ, hφ⟩ := d1.there
  have nF : FR ≠ D := fun z => by rw [z, hφ] at f1; cases f1
  have f1' : upd H' D u FR = some (.lst fv) := (upd_ne nF).trans f1
  have t1 : TS K H' (upd H' D u) := d1.ts_at
  have t2 : TS K H' (upd (upd H' D u) FR (.lst (fv ++ [av]))) := t1.trans (ts_upd f1' True.intro)
  obtain ⟨lv, l1, l2⟩ := h.ly
  refine ⟨same_at (same_at h.s hD) hF, ⟨_, hu.upd f1' True.intro nofun, ?_⟩, ⟨lv, ?_, Paired.mapP l2 fun _ _ z => z.ts t2⟩, ⟨_, upd_same, ?_⟩, h.n2⟩
  · have d3 : LDr K (upd (upd H' D u) FR (.lst (fv ++ [av]))) kO (B ++ (F ++ [(a, e.2 ++ [k])])) kvs (B ++ F) := d2.mono t2 fun x hx => by
      rw [← List.append_assoc]
      exact List.mem_append_left _ hx
    rw [← List.append_assoc] at d3 ⊢
    exact ld_put kO_inj d3 (e := (a, e.2 ++ [k])) ha (.inr ⟨t, sv, e.1, e.2, k, rfl, t2 _ _ ht, hsv.ts t2, List.mem_append_left _ (List.mem_append_left _ he), rfl⟩)
  · exact (upd_ne h.n2).trans ((upd_ne fun z => by rw [z, hφ] at l1; cases l1).trans l1)
  · exact Paired.snoc (Paired.mapP f2 fun _ _ z => z.ts t2) (hav.ts t2)
theorem pairI_inj (a b : Int × Int) (h : pairI a = pairI b) : a = b := by
  unfold pairI at h
  injection h with h
  injection h with h1 h
  injection h with h2 _
  injection h1 with h1
  injection h2 with h2
  exact Prod.ext h1 h2
theorem pz_pairI (s : Int × Int) : PZ 1 (pairI s) := ⟨rfl, Nat.le_refl _⟩
theorem shaped_pairI (s : Int × Int) : SeqAt.shaped (pairI s) = true := (pz_pairI s).shaped
theorem eqv_pairI (s t : Int × Int) : PyData.eqv (pairI s) (pairI t) = decide (s = t) := PZ.eqvD pairI_inj (pz_pairI s) (pz_pairI t)
def kF (C : Cod) (s : Int × Int) : NK := .tup ((List.range C.moves.length).map fun k => kS (C.led s k))
theorem datas_map {α : Type} (f : α → NK) : ∀ l : List α, NestedKey.datas (l.map f) = l.map fun x => (f x).data
  | [] => by simp [NestedKey.datas]
  | x :: l => by rw [List.map_cons, NestedKey.datas, datas_map f l]; rfl
theorem kF_data (C : Cod) (s : Int × Int) : (kF C s).data = folD C s := by
  unfold kF folD
  rw [NestedKey.data, datas_map]
  simp only [kS_data]
section
variable {P : Program} {w : World} {K : PySem.W.Frag} {mg : Str → Option Value} {base : Heap}
theorem catA_row {H : Hp} {x y : V} {r q : List Nat} {Q : VK} (hx : Dp K H x (rowI r)) (hy : Dp K H y (rowI q)) (hl : r.length + q.length ≤ 2000000) (k : ∀ a H', Same H H' → SqT K H' a (rowV (r ++ q)) → Q (.ref a) H') : rCatA K x y H Q := by
  obtain ⟨a, rfl, ha⟩ := row_at hx
  obtain ⟨b, rfl, hb⟩ := row_at hy
  have e : rowV r ++ rowV q = rowV (r ++ q) := by unfold rowV; rw [List.map_append]
  refine ⟨a, b, _, _, rfl, rfl, ha, hb, by unfold rowV; rw [List.length_map, List.length_map]; exact Nat.le_trans hl (by decide), fun z => k _ _ (Same.refl _) ?_, fun _ z => k _ _ (Same.refl _) ?_, fun _ _ p hp => k _ _ (same_new hp) ?_⟩
  · rw [← e, z]; exact hb
  · rw [← e, z, List.append_nil]; exact ha
  · rw [← e]; exact upd_tup
theorem dpAll_two {H : Hp} {xs : List V} {d e : PyData} (h : DpAll K H xs [d, e]) : ∃ x y, xs = [x, y] ∧ Dp K H x d ∧ Dp K H y e := by
  cases h with
  | cons a b =>
    cases b with
    | cons b c =>
      cases c
      exact ⟨_, _, rfl, a, b⟩
def sp_led_states (P : Program) (w : World) (K : PySem.W.Frag) : Sp := fun vs H Q _ => ∃ (c : V) (C : Cod), vs = [c] ∧ C.Ok ∧ Dp K H c C.dat ∧ C.cnt ≤ 4096 ∧ ∀ d H', Same H H' → H d = none → LedAt P w K H' d C → Q (.ref d) H'
set_option maxHeartbeats 2000000 in
theorem ok_led_states (T : Txt K mg) : FnOk P w K mg base CX0 5 T.f_led_states T.d_led_states ["coder"] (sp_led_states P w K) := by
  refine T.F_led_states.ok sc_led_states (fun vs H Q E h => ?_) (fun cdv A outer s H vs Q E hr h => ?_)
  · obtain ⟨c, C, rfl, _⟩ := h
    rfl
  · obtain ⟨c, C, rfl, O, hc, few, q⟩ := h
    obtain ⟨a, sv, mv, ms, rfl, ha, hs, hm, hmd⟩ := cod_at hc
    have hml := dpAll_len hmd
    rw [List.length_map] at hml
    have hM := O.m2
    refine ⟨_,
(pss_cons (ps_set (i := 1) sc_led_states.nd rfl (Or.inl rfl) (My.pe_dnewN (P := P) (w := w) (K := K)))
      (pss_cons (ps_for PassesOwn.never rfl (pi_tup (pe_call (ok_all_states T) (hr.mono (by decide)) (by rfl) T.g_all_states T.F_all_states.kp T.b_all_states .nil pass0 (pa_cons (pv 0) pa_nil))) (pg_name (i := 2) sc_led_states.nd rfl (Or.inr rfl)) (pss_one (ps_asg (pe_callTy call_tuple_of (by rfl) T.z_tuple (by decide +kernel) (pa_cons (pe_lc (own := [("code", 3)]) rfl sc_led_states.nd (pi_range1 (by rfl) T.z_range (pa_cons (pe_callB (call_len_seq) (by rfl) T.z_len (by decide +kernel) (pa_cons (pe_ix ix_tup (pv 0) pe_int (fun _ _ => rfl)) pa_nil)) pa_nil)) (blkOk_by (own := [("code", 3)]) (N := ["coder", "led", "state", "code"]) (sc := defScope s_led_states) (by decide +kernel)) (fun _ _ _ _ _ => (pg_name (i := 3) sc_led_states.nd rfl (Or.inl rfl))) (fun _ _ _ _ _ => pts_nil) (fun _ _ _ _ _ => (pe_call (ok_state_behind T) (hr.mono (by decide)) (by rfl) T.g_state_behind T.F_state_behind.kp T.b_state_behind .nil pass0 (pa_cons (pv 0) (pa_cons (pv 2) (pa_cons (pv 3) pa_nil)))))) pa_nil)) (pg_sub (pv 1) (pv 2) (My.set_dn (P := P) (w := w) (K := K) hr.units)))))
      (pss_one (ps_ret (pv 1)))))
, ?_⟩
    refine fun D u0 hD0 d0 => ⟨_, rfl, .ref a, C, rfl, O, dp_same (same_new hD0) _ _ hc, few, fun t xs H1 s1 ht hxs => ?_⟩
    have hxl := dpAll_len hxs
    rw [List.length_map] at hxl
    have hcl := O.cnt_len
    have s01 := same_put (o := u0) (Same.refl H) hD0
    have s0 : Same H H1 := (same_new hD0).trans s1
    refine ⟨t, rfl, ⟨xs, .inl (.inl ht)⟩, ?_⟩
    refine for_tup (K := K) (a := t) (xs := xs) (fun i σ H' => ∃ (y2 y3 : Option V) (kvs : List (NK × V)), σ = [some (.ref a), some (.ref D), y2, y3] ∧ Same H H' ∧ SqT K H' t xs ∧ DpAll K H' xs (C.sts.map pairI) ∧ DN P w K H' D kvs ∧ kvs.length ≤ i ∧
      ∀ s ∈ C.sts.take i, ∃ v, valV kvs (kS s) = some v ∧ Dp K H' v (kF C s).data) ⟨none, none, [], rfl, s0, .inl (.inl ht), hxs, d0.same s1, Nat.le_refl _, by simp⟩ ?_ ?_ ?_
    · rintro i σ H' _ ⟨_, _, _, _, _, h, _⟩
      exact h
    · rintro i v σ H2 hi ⟨y2, y3, kvs, rfl, s2, ht2, hxs2, dn, hkl, hall⟩
      have hil := (List.getElem?_eq_some_iff.mp hi).1
      obtain ⟨dv, hdv, hv⟩ := dpAll_get hxs2 hi
      rw [List.getElem?_map] at hdv
      obtain ⟨st, hst, rfl⟩ := Option.map_eq_some_iff.mp hdv
      have hSt := sts_in O (List.mem_of_getElem? hst)
      have hc2 := dp_same s2 _ _ hc
      have hm2 := same_tup s2 hm
      refine ⟨_, rfl, a, _, 3, _, rfl, rfl, same_tup s2 ha, atI_nat (j := 3) rfl, mv, _, rfl, .inr hm2, _, rfl, by omega, by rw [hml]; omega, fun L hL => ?_⟩
      refine lc_range (lo := 0) (n := ((((ms.length : Nat) : Int)) - 0).toNat) (fun j H' => ∃ ys, H' L = some (.lst ys) ∧ DpAll K H' ys ((((List.range C.moves.length).take j).map fun k => C.led st k).map pairI) ∧ Same H2 H') ⟨[], upd_same, by simp; exact .nil, same_new hL⟩ ?_ ?_
      · rintro j H5 hj ⟨ys, hy, hyd, sy⟩
        have hjm : j < C.moves.length := by omega
        refine ⟨rfl, yes_turn ?_⟩
        refine ⟨_, rfl, _, rfl, _, rfl, .ref a, v, C, st, j, by rw [Int.zero_add]; rfl, O, dp_same sy _ _ hc2, dp_same sy _ _ hv, hSt, hjm, fun p hp => ?_⟩
        have sp := same_new (o := .tup [V.int (C.led st j).1, V.int (C.led st j).2]) hp
        have hy6 := sp _ _ hy
        have yl : ys.length = j := by
          rw [dpAll_len hyd, List.length_map, List.length_map, List.length_take, List.length_range]
          omega
        refine ⟨ys, hy6, by rw [yl]; exact small1000 (by omega), ys ++ [.ref p], upd_same, ?_, same_put (sy.trans sp) hL⟩
        rw [take_snoc (show (List.range C.moves.length)[j]? = some j from List.getElem?_range hjm), List.map_append, List.map_append]
        exact dpAll_app (pairs_set hy6 (dpAll_same sp _ _ hyd)) (.cons (dp_mkpair (s := C.led st j) (sqt_set hy6 upd_tup)) .nil)
      · rintro H5 ⟨ys, hy, hyd, sy⟩
        rw [List.take_of_length_le (by rw [List.length_range]; omega)] at hyd
        refine ⟨L, ys, rfl, .inl ⟨SqL.of hy, fun z hz => ?_⟩⟩
        have s6 := same_new (o := .tup ys) hz
        have s26 := sy.trans s6
        have hF : Dp K (upd H5 z (.tup ys)) (.ref z) (folD C st) := .tup upd_tup (by rw [List.map_map] at hyd; exact dpAll_same s6 _ _ hyd)
        have hk : KeyAt K (upd H5 z (.tup ys)) v (kS st) := keyS (dp_same s26 _ _ hv)
        have dn6 := dn.same s26
        refine ⟨_, rfl, _, rfl, D, kvs, kS st, rfl, dn6, hk, Nat.lt_of_le_of_lt (by omega) (show 4097 < sizeLine by decide), fun u du => ?_⟩
        have t7 := dn6.ts_at (o := u)
        refine ⟨_, _, _, rfl, same_at (s2.trans s26) hD0, t7 _ _ (same_tup s26 ht2), ?_, du, ?_, ?_⟩
        · have h := dpAll_same s26 _ _ hxs2
          have e : C.sts.map pairI = NestedKey.datas (C.sts.map kS) := by rw [datas_map]; simp only [kS_data]
          rw [e] at h ⊢
          exact dps_ts t7 _ _ h
        · have := length_putK kvs (kS st) (.ref z)
          omega
        · intro s hs
          rw [valV_put]
          by_cases e : kS s = kS st
          · rw [if_pos e]
            refine ⟨_, rfl, dp_ts t7 _ _ ?_⟩
            rw [kS_inj _ _ e, kF_data]
            exact hF
          · rw [if_neg e]
            rw [take_snoc hst] at hs
            rcases List.mem_append.mp hs with hs | hs
            · obtain ⟨x, x1, x2⟩ := hall s hs
              exact ⟨x, x1, dp_ts t7 _ _ (dp_same s26 _ _ x2)⟩
            · exact absurd (by rw [List.mem_singleton.mp hs]) e
    · rintro σ H2 ⟨y2, y3, kvs, rfl, s2, _, _, dn, _, hall⟩
      rw [hxl, List.take_length] at hall
      exact ⟨_, rfl, q D H2 s2 hD0 ⟨kvs, dn.rd, fun s hs => by
        obtain ⟨x, x1, x2⟩ := hall s (sts_mem O hs)
        rw [kF_data] at x2
        exact ⟨x, x1, x2⟩⟩⟩
end
end My

set_option pp.maxSteps 400
/-! couples sorted (what SO holds without ranks) -/
namespace My
open PySem PySem.Spec PyProof.Rows L2
theorem pw_unique {α : Type} {R : α → α → Prop} (irr : ∀ a, ¬ R a a) (asy : ∀ {a b}, R a b → ¬ R b a) : ∀ {a b : List α}, a.Pairwise R → b.Pairwise R → (∀ x, x ∈ a ↔ x ∈ b) → a = b
  | [], [], _, _, _ => rfl
  | [], y :: b, _, _, h => absurd ((h y).mpr List.mem_cons_self) List.not_mem_nil
  | x :: a, [], _, _, h => absurd ((h x).mp List.mem_cons_self) List.not_mem_nil
  | x :: a, y :: b, ha, hb, h => by
    rw [List.pairwise_cons] at ha hb
    have e : x = y := by
      rcases List.mem_cons.mp ((h x).mp List.mem_cons_self) with e | h1
      · exact e
      · rcases List.mem_cons.mp ((h y).mpr List.mem_cons_self) with e | h2
        · exact e.symm
        · exact absurd (ha.1 y h2) (asy (hb.1 x h1))
    subst e
    rw [pw_unique irr asy ha.2 hb.2 fun z => ⟨fun hz => ?_, fun hz => ?_⟩]
    · rcases List.mem_cons.mp ((h z).mp (List.mem_cons_of_mem _ hz)) with e | h'
      · exact absurd (ha.1 z hz) (by rw [e]; exact irr _)
      · exact h'
    · rcases List.mem_cons.mp ((h z).mpr (List.mem_cons_of_mem _ hz)) with e | h'
      · exact absurd (hb.1 z hz) (by rw [e]; exact irr _)
      · exact h'
structure Ord {α : Type} (R : α → α → Prop) : Prop where
  irr : ∀ a, ¬ R a a
  asy : ∀ {a b}, R a b → ¬ R b a
  tr : ∀ {a b c}, R a b → R b c → R a c
  tri : ∀ {a b}, ¬ R a b → ¬ R b a → a = b
theorem sort_gen {α : Type} {f : α → PyData} {R : α → α → Prop} (o : Ord R) (hR : ∀ a b, PySem.W.dataLt (f a) (f b) = true ↔ R a b) {l : List α} (nd : l.Nodup) : (l.mergeSort (PySem.W.dataLe false f)).Pairwise R := by
  have hle : ∀ a b, PySem.W.dataLe false f a b = true ↔ ¬ R b a := fun a b => by
    rw [PySem.W.dataLe_eq, ← hR]
    show (!PySem.W.dataLt (f b) (f a)) = true ↔ _
    cases PySem.W.dataLt (f b) (f a) <;> simp
  have h1 := List.pairwise_mergeSort (le := PySem.W.dataLe false f) (fun a b c h1 h2 => by
    rw [hle] at h1 h2 ⊢
    intro z
    by_cases e : R a b
    · exact h2 (o.tr z e)
    · exact h2 (o.tri e h1 ▸ z)) (fun a b => by
    rw [Bool.or_eq_true, hle, hle]
    by_cases e : R a b
    · exact .inl (o.asy e)
    · exact .inr e) l
  have h2 : (l.mergeSort (PySem.W.dataLe false f)).Nodup := (List.mergeSort_perm l _).nodup_iff.mpr nd
  refine (h1.and h2).imp fun {a b} ⟨h1, h2⟩ => ?_
  exact Classical.byContradiction fun z => h2 (o.tri z ((hle _ _).mp h1))
def ltC (a b : Cpl) : Prop := ltP a.1 b.1 ∨ a.1 = b.1 ∧ ltP a.2 b.2
theorem ltP_ord : Ord ltP := by
  refine ⟨fun a h => ?_, fun {a b} h1 h2 => ?_, fun {a b c} h1 h2 => ?_, fun {a b} h1 h2 => ?_⟩
  · unfold ltP at h; omega
  · unfold ltP at h1 h2; omega
  · unfold ltP at h1 h2 ⊢; omega
  · unfold ltP at h1 h2
    exact Prod.ext (by omega) (by omega)
theorem lex_ord {α β : Type} {R : α → α → Prop} {S : β → β → Prop} (o : Ord R) (p : Ord S) : Ord fun a b : α × β => R a.1 b.1 ∨ a.1 = b.1 ∧ S a.2 b.2 := by
  refine ⟨fun a h => ?_, fun {a b} h1 h2 => ?_, fun {a b c} h1 h2 => ?_, fun {a b} h1 h2 => ?_⟩
  · rcases h with h | ⟨_, h⟩
    · exact o.irr _ h
    · exact p.irr _ h
  · rcases h1 with h1 | ⟨e1, h1⟩ <;> rcases h2 with h2 | ⟨e2, h2⟩
    · exact o.asy h1 h2
    · rw [e2] at h1; exact o.irr _ h1
    · rw [e1] at h2; exact o.irr _ h2
    · exact p.asy h1 h2
  · rcases h1 with h1 | ⟨e1, h1⟩ <;> rcases h2 with h2 | ⟨e2, h2⟩
    · exact .inl (o.tr h1 h2)
    · exact .inl (e2 ▸ h1)
    · exact .inl (e1 ▸ h2)
    · exact .inr ⟨e1.trans e2, p.tr h1 h2⟩
  · have e : a.1 = b.1 := o.tri (fun z => h1 (.inl z)) fun z => h2 (.inl z)
    exact Prod.ext e (p.tri (fun z => h1 (.inr ⟨e, z⟩)) fun z => h2 (.inr ⟨e.symm, z⟩))
theorem ltC_ord : Ord ltC := lex_ord ltP_ord ltP_ord
theorem lt_pairI (a b : Int × Int) : PySem.W.dataLt (pairI a) (pairI b) = true ↔ ltP a b := by
  show PySem.W.dataLt (.tuple [.int a.1, .int a.2]) (.tuple [.int b.1, .int b.2]) = true ↔ _
  rw [PySem.W.dataLt_ii, decide_eq_true_iff]
  rfl
theorem al_pairI (a b : Int × Int) : PySem.W.alike (pairI a) (pairI b) = true := by
  show PySem.W.alike (.tuple _) (.tuple _) = true
  simp [PySem.W.alike, PySem.W.alikeAll]
theorem al_cplI (a b : Cpl) : PySem.W.alike (cplI a) (cplI b) = true := by
  show PySem.W.alike (.tuple _) (.tuple _) = true
  simp [PySem.W.alike, PySem.W.alikeAll, al_pairI]
theorem eqv_cplI (a b : Cpl) : PyData.eqv (cplI a) (cplI b) = decide (a = b) := by
  show PyData.eqv (.tuple [pairI a.1, pairI a.2]) (.tuple [pairI b.1, pairI b.2]) = _
  simp only [PyData.eqv, PyData.eqvAll, eqv_pairI, Bool.and_true]
  by_cases e : a = b
  · subst e; simp
  · rw [decide_eq_false e]
    by_cases e1 : a.1 = b.1
    · have : a.2 ≠ b.2 := fun z => e (Prod.ext e1 z)
      simp [e1, this]
    · simp [e1]
theorem lt_cplI (a b : Cpl) : PySem.W.dataLt (cplI a) (cplI b) = true ↔ ltC a b := by
  show PySem.W.dataLt (.tuple [pairI a.1, pairI a.2]) (.tuple [pairI b.1, pairI b.2]) = true ↔ _
  rw [PySem.W.dataLt_pair (al_pairI _ _) (al_pairI _ _), eqv_pairI, eqv_pairI]
  unfold ltC
  by_cases e1 : a.1 = b.1
  · rw [if_pos (decide_eq_true e1)]
    by_cases e2 : a.2 = b.2
    · rw [if_pos (decide_eq_true e2)]
      refine ⟨nofun, fun h => ?_⟩
      rcases h with h | ⟨_, h⟩
      · rw [e1] at h; exact absurd h (ltP_ord.irr _)
      · rw [e2] at h; exact absurd h (ltP_ord.irr _)
    · rw [if_neg (by simp [e2]), lt_pairI]
      exact ⟨fun h => .inr ⟨e1, h⟩, fun h => h.elim (fun h => absurd h (e1 ▸ ltP_ord.irr _)) (·.2)⟩
  · rw [if_neg (by simp [e1]), lt_pairI]
    exact ⟨.inl, fun h => h.elim id fun h => absurd h.1 e1⟩
/-- sorted as couples, as ranks -/
def SrtC (G T : List Cpl) : Prop := T.Pairwise ltC ∧ ∀ x, x ∈ T ↔ x ∈ G
theorem SrtC.uniq {G T U : List Cpl} (a : SrtC G T) (b : SrtC G U) : T = U := pw_unique ltC_ord.irr ltC_ord.asy a.1 b.1 fun x => (a.2 x).trans (b.2 x).symm
theorem srtC {G : List Cpl} (nd : G.Nodup) : SrtC G (G.mergeSort (PySem.W.dataLe false cplI)) := ⟨sort_gen ltC_ord lt_cplI nd, fun x => List.mem_mergeSort⟩
theorem sortOk_cpls (l : List Cpl) : SortOk (l.map cplI) := by
  refine ⟨fun d hd d' hd' => ?_, .inl fun d hd => ?_, fun d hd => ?_⟩
  · obtain ⟨a, _, rfl⟩ := List.mem_map.mp hd
    obtain ⟨b, _, rfl⟩ := List.mem_map.mp hd'
    exact al_cplI a b
  · obtain ⟨a, _, rfl⟩ := List.mem_map.mp hd
    exact ⟨_, _, rfl⟩
  · obtain ⟨a, _, rfl⟩ := List.mem_map.mp hd
    show (2 : Nat) ≤ 32
    decide
theorem sorted_cpls {K : PySem.W.Frag} {H : Hp} {G : List Cpl} {bs : List (V × NK)} (hb : bs.map (·.2) = G.map kC) (hk : ∀ b ∈ bs, KeyAt K H b.1 b.2) :
    DpAll K H ((bs.mergeSort (PySem.W.dataLe false fun b => b.2.data)).map (·.1)) ((G.mergeSort (PySem.W.dataLe false cplI)).map cplI) := by
  have e1 : (bs.mergeSort (PySem.W.dataLe false fun b => b.2.data)).map (·.2) = (bs.map (·.2)).mergeSort (PySem.W.dataLe false fun k : NK => k.data) := PySem.W.sort_maps (fun b : V × NK => b.2) fun a _ b _ => rfl
  have e2 : (G.mergeSort (PySem.W.dataLe false cplI)).map kC = (G.map kC).mergeSort (PySem.W.dataLe false fun k : NK => k.data) := PySem.W.sort_maps kC fun a _ b _ => by
    rw [PySem.W.dataLe_eq, PySem.W.dataLe_eq]
    show (!PySem.W.dataLt (cplI b) (cplI a)) = (!PySem.W.dataLt (kC b).data (kC a).data)
    rw [kC_data, kC_data]
  rw [hb, ← e2] at e1
  have hm : ∀ b ∈ bs.mergeSort (PySem.W.dataLe false fun b : V × NK => b.2.data), KeyAt K H b.1 b.2 := fun b h => hk b (List.mem_mergeSort.mp h)
  generalize bs.mergeSort (PySem.W.dataLe false fun b : V × NK => b.2.data) = S at e1 hm
  generalize G.mergeSort (PySem.W.dataLe false cplI) = T at e1
  clear hb hk e2
  induction T generalizing S with
  | nil =>
    rw [List.map_nil, List.map_eq_nil_iff] at e1
    subst e1
    exact .nil
  | cons t T ih =>
    cases S with
    | nil => cases e1
    | cons b S =>
      rw [List.map_cons, List.map_cons] at e1
      injection e1 with e4 e5
      refine .cons ?_ (ih S (fun b' h => hm b' (List.mem_cons_of_mem _ h)) e5)
      have := hm b List.mem_cons_self
      rw [e4] at this
      exact keyC_out this
end My

set_option pp.maxSteps 400
/-! two coders led on side by side: the mathematics -/
namespace My
open PySem PySem.Spec PyProof.Rows L2
/-- a pair of states, one of each coder, led on; none where the levels are unlike -/
def Cod.aled (C D : Cod) : Option Cpl → Nat → Option Cpl
  | none, _ => none
  | some c, k => if (C.led c.1 k).1 = (D.led c.2 k).1 then some (C.led c.1 k, D.led c.2 k) else none
def StD (C D : Cod) (c : Cpl) : Prop := C.St c.1 ∧ D.St c.2
theorem aled_StD {C D : Cod} (O : C.Ok) (O' : D.Ok) {c c' : Cpl} {k : Nat} (h : StD C D c) (e : C.aled D (some c) k = some c') : StD C D c' := by
  have e : (if (C.led c.1 k).1 = (D.led c.2 k).1 then some (C.led c.1 k, D.led c.2 k) else none) = some c' := e
  split at e
  · cases e
    exact ⟨fold_St O h.1 [k], fold_St O' h.2 [k]⟩
  · cases e
theorem aled_none (C D : Cod) : ∀ r : List Nat, r.foldl (C.aled D) none = none
  | [] => rfl
  | k :: r => by
    show r.foldl (C.aled D) none = none
    exact aled_none C D r
theorem run_StD {C D : Cod} (O : C.Ok) (O' : D.Ok) : ∀ {r : List Nat} {c c' : Cpl}, StD C D c → some c' = r.foldl (C.aled D) (some c) → StD C D c'
  | [], c, c', h, e => by cases e; exact h
  | k :: r, c, c', h, e => by
    have e : some c' = r.foldl (C.aled D) (C.aled D (some c) k) := e
    cases z : C.aled D (some c) k with
    | none => rw [z, aled_none] at e; cases e
    | some d => rw [z] at e; exact run_StD O O' (aled_StD O O' h z) e
def alks (C D : Cod) : List (Option Cpl) := none :: C.sts.flatMap fun a => D.sts.map fun b => some (a, b)
def alkN (C D : Cod) : Nat := C.sts.length * D.sts.length + 1
theorem alks_len (C D : Cod) : (alks C D).length = alkN C D := by
  unfold alks alkN
  rw [List.length_cons, flat_len _ _ D.sts.length fun a _ => List.length_map ..]
theorem alk_few {C D : Cod} (O : C.Ok) (O' : D.Ok) {c : Cpl} (h : StD C D c) : Few (C.aled D) C.moves.length (some c) (alkN C D) := by
  rw [← alks_len]
  refine few_of fun E g e he => ?_
  have hr := (g.run e he).1
  unfold alks
  cases z : e.1 with
  | none => exact .head _
  | some d =>
    rw [z] at hr
    obtain ⟨h1, h2⟩ := run_StD O O' h hr
    exact .tail _ (List.mem_flatMap.mpr ⟨d.1, sts_mem O h1, List.mem_map.mpr ⟨d.2, sts_mem O' h2, rfl⟩⟩)
theorem alkN_small {C D : Cod} (O : C.Ok) (O' : D.Ok) (h1 : C.cnt ≤ 256) (h2 : D.cnt ≤ 256) : alkN C D ≤ 100000 := by
  have a : C.sts.length ≤ 256 := by have := O.cnt_len; omega
  have b : D.sts.length ≤ 256 := by have := O'.cnt_len; omega
  have := Nat.mul_le_mul a b
  unfold alkN
  omega
/-- all that is come to, in the order of the rows -/
def alkB (C D : Cod) (c : Cpl) : List (Option Cpl × List Nat) := allB (C.aled D) C.moves.length (some c) (alkN C D)
def alkP (C D : Cod) (c : Cpl) : List Cpl := (alkB C D c).filterMap (·.1)
def wAlike : PyData := .str (Str.ofString "alike")
def wApart : PyData := .str (Str.ofString "apart")
/-- the paper of two coders, each with a state -/
def AlkOut (C D : Cod) (c : Cpl) (d : PyData) : Prop := match pick Option.isNone (alkB C D c) with
  | some r => d = .tuple [wApart, rowI r]
  | none => ∃ T, SrtC (alkP C D c) T ∧ d = .tuple [wAlike, .tuple (T.map cplI)]
theorem AlkOut.uniq {C D : Cod} {c : Cpl} {d d' : PyData} (h : AlkOut C D c d) (h' : AlkOut C D c d') : d = d' := by
  unfold AlkOut at h h'
  cases e : pick Option.isNone (alkB C D c) with
  | some r =>
    rw [e] at h h'
    exact h.trans h'.symm
  | none =>
    rw [e] at h h'
    obtain ⟨T, h1, rfl⟩ := h
    obtain ⟨T', h1', rfl⟩ := h'
    rw [SrtC.uniq h1 h1']
theorem alkP_nd {C D : Cod} {c : Cpl} (gd : Gd (C.aled D) C.moves.length (some c) (alkB C D c)) : (alkP C D c).Nodup := by
  have nd := gd.nd
  unfold alkP
  generalize alkB C D c = E at nd
  clear gd
  induction E with
  | nil => exact List.nodup_nil
  | cons e E ih =>
    rw [List.map_cons, List.nodup_cons] at nd
    rw [List.filterMap_cons]
    cases z : e.1 with
    | none => exact ih nd.2
    | some d =>
      refine List.nodup_cons.mpr ⟨fun hm => nd.1 ?_, ih nd.2⟩
      obtain ⟨x, hx, ex⟩ := List.mem_filterMap.mp hm
      exact List.mem_map.mpr ⟨x, hx, by rw [ex, z]⟩
theorem fm_map : ∀ {E : List (Option Cpl × List Nat)}, (∀ e ∈ E, e.1.isNone = false) → (E.filterMap (·.1)).map some = E.map (·.1)
  | [], _ => rfl
  | e :: E, h => by
    have ih := fm_map fun x hx => h x (List.mem_cons_of_mem _ hx)
    rw [List.filterMap_cons, List.map_cons]
    cases z : e.1 with
    | none => have := h e List.mem_cons_self; rw [z] at this; cases this
    | some d => rw [List.map_cons, ih]
/-! the other way round -/
section
variable {α β : Type} [DecidableEq α] [DecidableEq β] {led : α → Nat → α} {led' : β → Nat → β} {m : Nat} {f : α → β}
def mpE (f : α → β) (e : α × List Nat) : β × List Nat := (f e.1, e.2)
theorem stC_mp (inj : ∀ a b, f a = f b → a = b) (hl : ∀ a k, f (led a k) = led' (f a) k) {B F : List (α × List Nat)} {e : α × List Nat} {k : Nat} : stC led' (B.map (mpE f)) (mpE f e) (F.map (mpE f)) k = (stC led B e F k).map (mpE f) := by
  have hm : led' (mpE f e).1 k ∈ ((B.map (mpE f)) ++ (F.map (mpE f))).map (·.1) ↔ led e.1 k ∈ (B ++ F).map (·.1) := by
    rw [← List.map_append, List.map_map, List.mem_map, List.mem_map]
    show (∃ a, a ∈ B ++ F ∧ f a.1 = led' (f e.1) k) ↔ _
    rw [← hl]
    exact ⟨fun ⟨x, h1, h2⟩ => ⟨x, h1, inj _ _ h2⟩, fun ⟨x, h1, h2⟩ => ⟨x, h1, congrArg f h2⟩⟩
  by_cases h : led e.1 k ∈ (B ++ F).map (·.1)
  · rw [stC_yes h, stC_yes (hm.mpr h)]
  · rw [stC_no h, stC_no fun z => h (hm.mp z), List.map_append]
    show _ = _ ++ [(f (led e.1 k), e.2 ++ [k])]
    rw [hl]
    rfl
theorem stN_mp (inj : ∀ a b, f a = f b → a = b) (hl : ∀ a k, f (led a k) = led' (f a) k) {B F : List (α × List Nat)} {e : α × List Nat} : ∀ n, stN led' (B.map (mpE f)) (F.map (mpE f)) (mpE f e) n = (stN led B F e n).map (mpE f)
  | 0 => rfl
  | n + 1 => by rw [stN_succ, stN_succ, stN_mp inj hl n, stC_mp inj hl]
theorem nxI_mp (inj : ∀ a b, f a = f b → a = b) (hl : ∀ a k, f (led a k) = led' (f a) k) {B L : List (α × List Nat)} : ∀ i, i ≤ L.length → nxI led' m (B.map (mpE f)) (L.map (mpE f)) i = (nxI led m B L i).map (mpE f)
  | 0, _ => rfl
  | i + 1, h => by
    have e : L[i]? = some L[i] := List.getElem?_eq_getElem (by omega)
    rw [nxI_succ e, nxI_succ (e := mpE f L[i]) (by rw [List.getElem?_map, e]; rfl), nxI_mp inj hl i (by omega), stN_mp inj hl]
theorem lyr_mp (inj : ∀ a b, f a = f b → a = b) (hl : ∀ a k, f (led a k) = led' (f a) k) (s : α) : ∀ n, (lyr led' m (f s) n).1 = (lyr led m s n).1.map (mpE f) ∧ (lyr led' m (f s) n).2 = (lyr led m s n).2.map (mpE f)
  | 0 => ⟨rfl, rfl⟩
  | n + 1 => by
    obtain ⟨h1, h2⟩ := lyr_mp inj hl s n
    rw [lyr_S, lyr_S, h1, h2]
    refine ⟨(List.map_append ..).symm, ?_⟩
    have := nxI_mp (m := m) inj hl (B := (lyr led m s n).1 ++ (lyr led m s n).2) (L := (lyr led m s n).2) (lyr led m s n).2.length (Nat.le_refl _)
    rw [nxI_all, List.map_append] at this
    show nxt led' m _ _ = _
    rw [← nxI_all, List.length_map, this]
    try rfl
theorem allB_mp (inj : ∀ a b, f a = f b → a = b) (hl : ∀ a k, f (led a k) = led' (f a) k) (s : α) (N : Nat) : allB led' m (f s) N = (allB led m s N).map (mpE f) := (lyr_mp inj hl s N).1
end
def swp : Option Cpl → Option Cpl
  | none => none
  | some c => some (c.2, c.1)
theorem swp_inj (a b : Option Cpl) (h : swp a = swp b) : a = b := by
  cases a with
  | none => cases b with
    | none => rfl
    | some _ => cases h
  | some x => cases b with
    | none => cases h
    | some y =>
      injection h with h
      injection h with h1 h2
      exact congrArg some (Prod.ext h2 h1)
theorem swp_led (C D : Cod) (a : Option Cpl) (k : Nat) : swp (C.aled D a k) = D.aled C (swp a) k := by
  cases a with
  | none => rfl
  | some c =>
    show swp (if (C.led c.1 k).1 = (D.led c.2 k).1 then _ else _) = if (D.led c.2 k).1 = (C.led c.1 k).1 then _ else _
    by_cases h : (C.led c.1 k).1 = (D.led c.2 k).1
    · rw [if_pos h, if_pos h.symm]; rfl
    · rw [if_neg h, if_neg fun z => h z.symm]; rfl
theorem alkB_swp {C D : Cod} (hm : C.moves.length = D.moves.length) (c : Cpl) : pick Option.isNone (alkB D C (c.2, c.1)) = pick Option.isNone (alkB C D c) := by
  have e : alkB D C (c.2, c.1) = (alkB C D c).map (mpE swp) := by
    unfold alkB
    rw [← hm, show alkN D C = alkN C D by unfold alkN; rw [Nat.mul_comm]]
    exact allB_mp swp_inj (swp_led C D) (some c) _
  rw [e]
  generalize alkB C D c = E
  unfold pick
  rw [List.find?_map, Option.map_map]
  have : (fun e : Option Cpl × List Nat => e.1.isNone) = (fun e => e.1.isNone) ∘ mpE swp := by
    funext e
    show _ = (swp e.1).isNone
    cases e.1 <;> rfl
  rw [← this]
  rfl
end My

set_option maxHeartbeats 2000000
/-! list(zip(a, b)): the pairs of two things, each a list or a tuple, in a new list -/
namespace My
open PySem PySem.Spec PyProof.Rows L2
theorem zip_no_len : typeLookup (.type "zip") "__len__" = pure none := by rw [typeLookup_type, builtinLookup_eq_fast]; kernel_rfl
theorem zip_no_hint : typeLookup (.type "zip") "__length_hint__" = pure none := by rw [typeLookup_type, builtinLookup_eq_fast]; kernel_rfl
section
variable {prog : Program} {w : World} {A : Around} {E : Value → Shared → Prop} {s : Shared} {z TI TO i1 i2 : Addr} {fp1 fp2 : List Addr} {n1 n2 i : Nat} {P1 P2 : Nat → Value → Prop} {St1 St2 : Nat → Heap → Prop} {T : Addr} {f : Bool} {oT : Obj}
theorem zipH_next_item {Q : Value → Shared → Prop} (S : ZipSep2 z TI TO i1 i2 fp1 fp2) (D1 : Draws prog w A i1 fp1 n1 P1 St1) (D2 : Draws prog w A i2 fp2 n2 P2 St2)
    (hz : IsZipHeld s.heap z TI TO T f) (hT : s.heap.get? T = some oT) (hTI : IsTupOf2 s.heap TI (.ref i1) (.ref i2)) (st1 : St1 i s.heap) (st2 : St2 i s.heap) (hlt1 : i < n1) (hlt2 : i < n2)
    (hQ : ∀ x1 x2 h' tk, P1 i x1 → P2 i x2 → IsZipHeld h' z TI TO T true → St1 (i + 1) h' → St2 (i + 1) h' → IsTupOf2 h' s.heap.objs.size x1 x2 → h'.objs.size = s.heap.objs.size + 1 →
      (∀ c o, c ≠ z → c ≠ i1 → c ≠ i2 → s.heap.get? c = some o → h'.get? c = some o) → Q (.ref s.heap.objs.size) { s with heap := h', toks := tk }) :
    wpAny (model prog w) A (Builtin.«zip.__next__» ⟨[.ref z], []⟩) (fun fin s' => ∃ v, fin = .done (.ret v) ∧ Q v s') E s := by
  obtain ⟨hp, g, d, tk0, os⟩ := s
  show wpAny _ _ (field (.ref z) 2 >>= _) _ _ _
  refine wpAny_bind (wpAny_field hz rfl (x := .bool false) rfl ?_)
  show wpAny _ _ (field (.ref z) 3 >>= _) _ _ _
  refine wpAny_bind (wpAny_field hz rfl (x := .ref TI) rfl ?_)
  refine wpAny_bind (wpAny_seqItems hTI rfl ?_)
  show wpAny _ _ (Builtin.SmallTypes.ownedTupleIsFree (.ref z) >>= _) _ _ _
  refine wpAny_bind (wpAny_tupleHeld_zip hz hT fun h₁ hz₁ hs₁ => ?_)
  simp only [Bool.false_eq_true, if_false]
  refine wpAny_bind ?_
  rw [← Array.forIn_toList]
  simp only [List.forIn_cons, List.forIn_nil]
  refine wpAny_bind (wpAny_bind (wpAny_holding ?_))
  show wpAny _ _ (Builtin.SmallTypes.nextOf (.ref i1) >>= _) _ _ _
  replace hs₁ : Heap.SameBut z hp h₁ := hs₁
  refine wpAny_bind (D1.item i _ _ _ hlt1 (D1.over st1 hs₁ S.zf1) fun x1 p1 tk1 hx1 sn1 hp1 => wpAny_pure ?_)
  replace hp1 : Heap.SameBut i1 h₁ p1 := hp1
  refine wpAny_pure ?_
  refine wpAny_bind (wpAny_bind (wpAny_holding ?_))
  show wpAny _ _ (Builtin.SmallTypes.nextOf (.ref i2) >>= _) _ _ _
  refine wpAny_bind (D2.item i _ _ _ hlt2 (D2.over (D2.over st2 hs₁ S.zf2) hp1 S.sep1_2) fun x2 p2 tk2 hx2 sn2 hp2 => wpAny_pure ?_)
  replace hp2 : Heap.SameBut i2 p1 p2 := hp2
  refine wpAny_pure (wpAny_pure ?_)
  show wpAny _ _ (newTuple [x1, x2] >>= _) _ _ _
  refine wpAny_bind (wpAny_newTuple ?_)
  have hsz : p2.objs.size = hp.objs.size := by rw [hp2.1, hp1.1, hs₁.1]
  have hz2 : IsZipHeld p2 z TI TO T true := hp2.extBut _ _ S.zi2 (hp1.extBut _ _ S.zi1 hz₁)
  have hk : ∀ c o, c ≠ z → c ≠ i1 → c ≠ i2 → hp.get? c = some o → p2.get? c = some o := fun c o c1 c2 c3 e => hp2.extBut _ _ c3 (hp1.extBut _ _ c2 (hs₁.extBut _ _ c1 e))
  have hj1 : St1 (i + 1) p2 := D1.over sn1 hp2 S.sep2_1
  refine wpAny_pure ⟨_, rfl, ?_⟩
  show Q (.ref p2.objs.size) _
  have hp' : IsTupOf2 (p2.push { cls := .type "tuple", data := .seq #[x1, x2] }) p2.objs.size x1 x2 := Heap.get?_push_size _ rfl
  have hz4 : (p2.push { cls := .type "tuple", data := .seq #[x1, x2] }).objs.size = p2.objs.size + 1 := Heap.size_push ..
  rw [hsz] at hp' hz4 ⊢
  exact hQ x1 x2 _ _ hx1 hx2 (Heap.get?_push_of_some _ hz2) (D1.frame _ _ _ hj1 fun b _ o e => Heap.get?_push_of_some _ e) (D2.frame _ _ _ sn2 fun b _ o e => Heap.get?_push_of_some _ e) hp' hz4 fun c o c1 c2 c3 e => Heap.get?_push_of_some _ (hk c o c1 c2 c3 e)
theorem zipH_next_end {Q : Fin → Shared → Prop} (S : ZipSep2 z TI TO i1 i2 fp1 fp2) (D1 : Draws prog w A i1 fp1 n1 P1 St1) (D2 : Draws prog w A i2 fp2 n2 P2 St2)
    (hz : IsZipHeld s.heap z TI TO T f) (hT : s.heap.get? T = some oT) (hTI : IsTupOf2 s.heap TI (.ref i1) (.ref i2)) (st1 : St1 i s.heap) (st2 : St2 i s.heap) (hle1 : i ≤ n1) (hle2 : i ≤ n2) (hend : i = n1 ∨ i = n2)
    (hE : ∀ h' tk e, (∀ c o, c ≠ z → c ≠ i1 → c ≠ i2 → s.heap.get? c = some o → h'.get? c = some o) → (∃ o, h'.get? e = some o ∧ o.cls = .type "StopIteration") → E (.ref e) { s with heap := h', toks := tk }) :
    wpAny (model prog w) A (Builtin.«zip.__next__» ⟨[.ref z], []⟩) Q E s := by
  obtain ⟨hp, g, d, tk0, os⟩ := s
  show wpAny _ _ (field (.ref z) 2 >>= _) _ _ _
  refine wpAny_bind (wpAny_field hz rfl (x := .bool false) rfl ?_)
  show wpAny _ _ (field (.ref z) 3 >>= _) _ _ _
  refine wpAny_bind (wpAny_field hz rfl (x := .ref TI) rfl ?_)
  refine wpAny_bind (wpAny_seqItems hTI rfl ?_)
  show wpAny _ _ (Builtin.SmallTypes.ownedTupleIsFree (.ref z) >>= _) _ _ _
  refine wpAny_bind (wpAny_tupleHeld_zip hz hT fun h₁ hz₁ hs₁ => ?_)
  replace hs₁ : Heap.SameBut z hp h₁ := hs₁
  simp only [Bool.false_eq_true, if_false]
  refine wpAny_bind ?_
  rw [← Array.forIn_toList]
  simp only [List.forIn_cons, List.forIn_nil]
  refine wpAny_bind (wpAny_bind (wpAny_holding ?_))
  show wpAny _ _ (Builtin.SmallTypes.nextOf (.ref i1) >>= _) _ _ _
  by_cases hlt1 : i < n1
  · refine wpAny_bind (D1.item i _ _ _ hlt1 (D1.over st1 hs₁ S.zf1) fun x1 p1 tk1 hx1 sn1 hp1 => wpAny_pure ?_)
    replace hp1 : Heap.SameBut i1 h₁ p1 := hp1
    have hi2 : i = n2 := by omega
    refine wpAny_pure ?_
    refine wpAny_bind (wpAny_bind (wpAny_holding ?_))
    show wpAny _ _ (Builtin.SmallTypes.nextOf (.ref i2) >>= _) _ _ _
    refine wpAny_bind (D2.done _ _ _ (by rw [← hi2]; exact D2.over (D2.over st2 hs₁ S.zf2) hp1 S.sep1_2) fun q e hq he => ?_)
    exact hE q tk1 e (fun c o c1 c2 c3 x => hq _ _ c3 (hp1.extBut _ _ c2 (hs₁.extBut _ _ c1 x))) he
  · have hi1 : i = n1 := by omega
    refine wpAny_bind (D1.done _ _ _ (by rw [← hi1]; exact D1.over st1 hs₁ S.zf1) fun q e hq he => ?_)
    exact hE q _ e (fun c o c1 c2 _ x => hq _ _ c2 (hs₁.extBut _ _ c1 x)) he
theorem wpAny_pyNext_zipH_item {Q : Option Value → Shared → Prop} (S : ZipSep2 z TI TO i1 i2 fp1 fp2) (D1 : Draws prog w A.in1 i1 fp1 n1 P1 St1) (D2 : Draws prog w A.in1 i2 fp2 n2 P2 St2)
    (hz : IsZipHeld s.heap z TI TO T f) (hT : s.heap.get? T = some oT) (hTI : IsTupOf2 s.heap TI (.ref i1) (.ref i2)) (st1 : St1 i s.heap) (st2 : St2 i s.heap) (hlt1 : i < n1) (hlt2 : i < n2)
    (hQ : ∀ x1 x2 h' tk, P1 i x1 → P2 i x2 → IsZipHeld h' z TI TO T true → St1 (i + 1) h' → St2 (i + 1) h' → IsTupOf2 h' s.heap.objs.size x1 x2 → h'.objs.size = s.heap.objs.size + 1 →
      (∀ c o, c ≠ z → c ≠ i1 → c ≠ i2 → s.heap.get? c = some o → h'.get? c = some o) → Q (some (.ref s.heap.objs.size)) { s with heap := h', toks := tk }) :
    wpAny (model prog w) A (pyNext (.ref z)) Q E s := by
  have hTy : s.TypeIs (.ref z) "zip" := ⟨_, hz, rfl⟩
  unfold pyNext
  exact wpAny_bind (wpAny_attempt (wpAny_callSpecial?_slot (name := Str.ofString "__next__") hTy F.slot_zip_next
    (wpAny_call_entry F.slot_zip_next hTy F.entry_zip_next
      (zipH_next_item S D1 D2 hz hT hTI st1 st2 hlt1 hlt2 fun x1 x2 h' tk y1 y2 b1 d1 d2 b5 b6 b7 => wpAny_pure (hQ x1 x2 h' tk y1 y2 b1 d1 d2 b5 b6 b7)) (F.args_zip_next_1 _))))
theorem wpAny_pyNext_zipH_end {Q : Option Value → Shared → Prop} (S : ZipSep2 z TI TO i1 i2 fp1 fp2) (D1 : Draws prog w A.in1 i1 fp1 n1 P1 St1) (D2 : Draws prog w A.in1 i2 fp2 n2 P2 St2)
    (hz : IsZipHeld s.heap z TI TO T f) (hT : s.heap.get? T = some oT) (hTI : IsTupOf2 s.heap TI (.ref i1) (.ref i2)) (st1 : St1 i s.heap) (st2 : St2 i s.heap) (hle1 : i ≤ n1) (hle2 : i ≤ n2) (hend : i = n1 ∨ i = n2)
    (hQ : ∀ h' tk, (∀ c o, c ≠ z → c ≠ i1 → c ≠ i2 → s.heap.get? c = some o → h'.get? c = some o) → Q none { s with heap := h', toks := tk }) : wpAny (model prog w) A (pyNext (.ref z)) Q E s := by
  have hTy : s.TypeIs (.ref z) "zip" := ⟨_, hz, rfl⟩
  unfold pyNext
  refine wpAny_bind (wpAny_attempt (wpAny_callSpecial?_slot (name := Str.ofString "__next__") hTy F.slot_zip_next
    (wpAny_call_entry F.slot_zip_next hTy F.entry_zip_next (zipH_next_end S D1 D2 hz hT hTI st1 st2 hle1 hle2 hend fun h' tk e hk he => ?_) (F.args_zip_next_1 _))))
  obtain ⟨o, ho, hc⟩ := he
  refine wpAny_bind (wpAny_isInstance (T := "StopIteration") (b := true) ⟨o, ho, hc⟩ isSubtype_stop ?_)
  exact wpAny_pure (hQ _ _ hk)
end
/-- a zip at a turn; its tuple may be out -/
def ZSt (k1 k2 : Bool) (z TI TO i1 i2 a b S : Addr) (i : Nat) (h : Heap) : Prop := IsTupOf2 h TI (.ref i1) (.ref i2) ∧ IsSI k1 h i1 a i ∧ IsSI k2 h i2 b i ∧
  ((IsZip h z TI TO .none ∧ ∃ x y, IsTupOf2 h TO x y) ∨ ∃ T f oT, IsZipHeld h z TI TO T f ∧ h.get? T = some oT ∧ T ≠ z ∧ T ≠ TO ∧ T ≠ i1 ∧ T ≠ i2 ∧ T ≠ S)
theorem ZSt.keep {k1 k2 : Bool} {z TI TO i1 i2 a b S : Addr} {i : Nat} {h h' : Heap} (x : ZSt k1 k2 z TI TO i1 i2 a b S i h) (n1 : TI ≠ S) (n2 : i1 ≠ S) (n3 : i2 ≠ S) (n4 : z ≠ S) (n5 : TO ≠ S) (k : ∀ c o, c ≠ S → h.get? c = some o → h'.get? c = some o) : ZSt k1 k2 z TI TO i1 i2 a b S i h' := by
  obtain ⟨x1, x2, x3, x4⟩ := x
  refine ⟨k _ _ n1 x1, x2.at fun o e => k _ _ n2 e, x3.at fun o e => k _ _ n3 e, ?_⟩
  rcases x4 with ⟨y1, u, v, y2⟩ | ⟨T, f, oT, y1, y2, y3, y4, y5, y6, y7⟩
  · exact .inl ⟨k _ _ n4 y1, u, v, k _ _ n5 y2⟩
  · exact .inr ⟨T, f, oT, k _ _ n4 y1, k _ _ y7 y2, y3, y4, y5, y6, y7⟩
theorem IsS.at {k : Bool} {h h' : Heap} {a : Addr} {items : Array Value} (x : IsS k h a items) (e : ∀ o, h.get? a = some o → h'.get? a = some o) : IsS k h' a items := by
  cases k with
  | true => exact Heap.IsList.at x e
  | false => exact Heap.IsTuple.at x e
structure ZG (xs ys : Array Value) (lo : Addr) (h : Heap) (as : List Addr) : Prop where
  rise : as.Pairwise (· < ·)
  above : ∀ a ∈ as, lo < a
  pairs : ∀ (j : Nat) (a : Addr), as[j]? = some a → ∃ u v, xs[j]? = some u ∧ ys[j]? = some v ∧ h.get? a = some { cls := .type "tuple", data := .seq #[u, v] }
theorem ZG.there {xs ys : Array Value} {lo : Addr} {h : Heap} {as : List Addr} (g : ZG xs ys lo h as) {a : Addr} (ha : a ∈ as) : a < h.objs.size := by
  obtain ⟨j, hj⟩ := List.mem_iff_getElem?.mp ha
  obtain ⟨_, _, _, _, e⟩ := g.pairs j a hj
  exact Heap.lt_size e
theorem ZG.low {xs ys : Array Value} {lo lo' : Addr} {h : Heap} {as : List Addr} (g : ZG xs ys lo h as) (hl : lo' ≤ lo) : ZG xs ys lo' h as := ⟨g.rise, fun a ha => Nat.lt_of_le_of_lt hl (g.above a ha), g.pairs⟩
section
variable {prog : Program} {w : World} {A : Around} {E : Value → Shared → Prop} {s : Shared} {k1 k2 : Bool} {z TI TO i1 i2 a b S : Addr} {xs ys : Array Value}
theorem zl_item {i : Nat} {Q : Option Value → Shared → Prop} (hh : A.handled = none) (Z : ZipSep2 z TI TO i1 i2 [i1, a] [i2, b]) (st : ZSt k1 k2 z TI TO i1 i2 a b S i s.heap) (hS : S < s.heap.objs.size) (pa : IsS k1 s.heap a xs) (pb : IsS k2 s.heap b ys) (ha : a ≠ i1) (hb : b ≠ i2)
    (l1 : i < xs.size) (l2 : i < ys.size)
    (hQ : ∀ h' tk u v, xs[i]? = some u → ys[i]? = some v → ZSt k1 k2 z TI TO i1 i2 a b S (i + 1) h' → h'.get? s.heap.objs.size = some { cls := .type "tuple", data := .seq #[u, v] } → h'.objs.size = s.heap.objs.size + 1 →
      (∀ c o, c ≠ z → c ≠ TO → c ≠ i1 → c ≠ i2 → s.heap.get? c = some o → h'.get? c = some o) → Q (some (.ref s.heap.objs.size)) { s with heap := h', toks := tk }) :
    wpAny (model prog w) A (pyNext (.ref z)) Q E s := by
  obtain ⟨x1, x2, x3, x4⟩ := st
  have lt : ∀ {c o}, s.heap.get? c = some o → s.heap.objs.size ≠ c := fun e => Nat.ne_of_gt (Heap.lt_size e)
  obtain ⟨_, g1, _⟩ := x2.nocell
  obtain ⟨_, g2, _⟩ := x3.nocell
  rcases x4 with ⟨y1, u, v, y2⟩ | ⟨T, f, oT, y1, y2, y3, y4, y5, y6, y7⟩
  · refine wpAny_pyNext_zipD2_item Z (drawsS (A := A.in1) hh k1 i1 a ha xs) (drawsS (A := A.in1) hh k2 i2 b hb ys) y1 x1 y2 ⟨x2, pa⟩ ⟨x3, pb⟩ l1 l2 fun u v h' tk e1 e2 z' to' s1 s2 hT hsz hk => ?_
    exact hQ h' tk u v e1 e2 ⟨hk _ _ Z.TIz Z.TITO Z.TIi1 Z.TIi2 x1, s1.1, s2.1, .inr ⟨s.heap.objs.size, false, _, z', hT, lt y1, lt y2, lt g1, lt g2, Nat.ne_of_gt hS⟩⟩ hT hsz hk
  · refine wpAny_pyNext_zipH_item Z (drawsS (A := A.in1) hh k1 i1 a ha xs) (drawsS (A := A.in1) hh k2 i2 b hb ys) y1 y2 x1 ⟨x2, pa⟩ ⟨x3, pb⟩ l1 l2 fun u v h' tk e1 e2 z' s1 s2 hT hsz hk => ?_
    exact hQ h' tk u v e1 e2 ⟨hk _ _ Z.TIz Z.TIi1 Z.TIi2 x1, s1.1, s2.1, .inr ⟨T, true, oT, z', hk _ _ y3 y5 y6 y2, y3, y4, y5, y6, y7⟩⟩ hT hsz fun c o c1 _ c3 c4 e => hk c o c1 c3 c4 e
theorem zl_done {i : Nat} {Q : Option Value → Shared → Prop} (hh : A.handled = none) (Z : ZipSep2 z TI TO i1 i2 [i1, a] [i2, b]) (st : ZSt k1 k2 z TI TO i1 i2 a b S i s.heap) (pa : IsS k1 s.heap a xs) (pb : IsS k2 s.heap b ys) (ha : a ≠ i1) (hb : b ≠ i2)
    (hi : i = min xs.size ys.size) (hQ : ∀ h' tk, (∀ c o, c ≠ z → c ≠ TO → c ≠ i1 → c ≠ i2 → s.heap.get? c = some o → h'.get? c = some o) → Q none { s with heap := h', toks := tk }) :
    wpAny (model prog w) A (pyNext (.ref z)) Q E s := by
  obtain ⟨x1, x2, x3, x4⟩ := st
  rcases x4 with ⟨y1, u, v, y2⟩ | ⟨T, f, oT, y1, y2, y3, y4, y5, y6, y7⟩
  · exact wpAny_pyNext_zipD2_end Z (drawsS (A := A.in1) hh k1 i1 a ha xs) (drawsS (A := A.in1) hh k2 i2 b hb ys) y1 x1 y2 ⟨x2, pa⟩ ⟨x3, pb⟩ (by omega) (by omega) (by omega) hQ
  · exact wpAny_pyNext_zipH_end Z (drawsS (A := A.in1) hh k1 i1 a ha xs) (drawsS (A := A.in1) hh k2 i2 b hb ys) y1 y2 x1 ⟨x2, pa⟩ ⟨x3, pb⟩ (by omega) (by omega) (by omega) fun h' tk hk => hQ h' tk fun c o c1 _ c3 c4 e => hk c o c1 c3 c4 e
end
section
variable {prog : Program} {w : World} {A : Around} {s : Shared} {R : Result → Shared → Prop} {k1 k2 : Bool} {z TI TO i1 i2 a b : Addr} {xs ys : Array Value}
theorem zl_loop {S : Addr} (hh : A.handled = none) (Z : ZipSep2 z TI TO i1 i2 [i1, a] [i2, b]) (ha : a ≠ i1) (hb : b ≠ i2) (n1 : TI ≠ S) (n2 : i1 ≠ S) (n3 : i2 ≠ S) (n4 : z ≠ S) (n5 : TO ≠ S) (na : a ≠ S) (nb : b ≠ S) (az : a ≠ z) (bz : b ≠ z) (aT : a ≠ TO) (bT : b ≠ TO) (ai : a ≠ i2) (bi : b ≠ i1)
    (hn : min xs.size ys.size ≤ sizeLine) (res : Value) {h₁ : Heap} (lo : Addr) (hSl : S ≤ lo) (hzl : z ≤ lo) (hTl : TO ≤ lo) (h1l : i1 ≤ lo) (h2l : i2 ≤ lo)
    (hR : ∀ h' tk acc c as, (∀ b o, b ≠ S → b ≠ z → b ≠ TO → b ≠ i1 → b ≠ i2 → h₁.get? b = some o → h'.get? b = some o) → h'.get? S = some { cls := .type "list", dict := none, data := .seq acc c, slots := #[] } → as.length = min xs.size ys.size → ZG xs ys lo h' as →
      acc.toList = as.map Value.ref → R (.ok (.ret res)) { s with heap := h', toks := tk }) :
    ∀ (k i : Nat) (h : Heap) (tk c : Nat) (acc : Array Value) (as : List Addr), min xs.size ys.size - i = k → i ≤ min xs.size ys.size → ZSt k1 k2 z TI TO i1 i2 a b S i h → IsS k1 h a xs → IsS k2 h b ys →
      (∀ b o, b ≠ S → b ≠ z → b ≠ TO → b ≠ i1 → b ≠ i2 → h₁.get? b = some o → h.get? b = some o) →
      h.get? S = some { cls := .type "list", dict := none, data := .seq acc c, slots := #[] } → acc.toList = as.map Value.ref → as.length = i → ZG xs ys lo h as → lo < h.objs.size →
      codeAny (model prog w) A (.builtin "list.extend.loop" ⟨[.ref S, .ref z, res], []⟩) R { s with heap := h, toks := tk } := by
  intro k
  induction k with
  | zero =>
    intro i h tk c acc as hk hi hst pa pb hkeep hS hacc hal hG hls
    have hin : i = min xs.size ys.size := by omega
    refine codeAny_builtin PySem.F.entry_extend_loop ?_
    rw [Around.under_plainId PySem.F.plain_extend_loop _]
    show wpAny _ A.in1 (pyNext (.ref z) >>= _) _ _ _
    refine wpAny_bind (zl_done (s := { s with heap := h, toks := tk }) (A := A.in1) hh Z hst pa pb ha hb hin fun h' tk' he => ?_)
    refine wpAny_pure (hR h' tk' acc c as (fun b o q1 q2 q3 q4 q5 e => he b o q2 q3 q4 q5 (hkeep b o q1 q2 q3 q4 q5 e)) (he S _ n4.symm n5.symm n2.symm n3.symm hS) (by omega) ⟨hG.rise, hG.above, fun j t hj => ?_⟩ hacc)
    obtain ⟨u, v, e1, e2, e3⟩ := hG.pairs j t hj
    have ht := hG.above t (List.mem_of_getElem? hj)
    exact ⟨u, v, e1, e2, he t _ (Nat.ne_of_gt (Nat.lt_of_le_of_lt hzl ht)) (Nat.ne_of_gt (Nat.lt_of_le_of_lt hTl ht)) (Nat.ne_of_gt (Nat.lt_of_le_of_lt h1l ht)) (Nat.ne_of_gt (Nat.lt_of_le_of_lt h2l ht)) e3⟩
  | succ k ih =>
    intro i h tk c acc as hk hi hst pa pb hkeep hS hacc hal hG hls
    have hsz : acc.size = i := by rw [← Array.length_toList, hacc, List.length_map, hal]
    refine codeAny_builtin PySem.F.entry_extend_loop ?_
    rw [Around.under_plainId PySem.F.plain_extend_loop _]
    show wpAny _ A.in1 (pyNext (.ref z) >>= _) _ _ _
    have hSlt : S < h.objs.size := Heap.lt_size hS
    refine wpAny_bind (zl_item (s := { s with heap := h, toks := tk }) (A := A.in1) (S := S) hh Z hst hSlt pa pb ha hb (by omega) (by omega) fun h' tk' u v e1 e2 hst' ht hz hkp => ?_)
    dsimp only at ht hz hkp ⊢
    have hS' := hkp S _ n4.symm n5.symm n2.symm n3.symm hS
    have up : ∀ b o, b ≠ S → h'.get? b = some o → (h'.update S (Obj.mapSeq (·.push (Value.ref h.objs.size)))).get? b = some o := fun b o hb e => (Heap.get?_update_other _ _ (Ne.symm hb)).trans e
    show wpAny _ A.in1 (updateSeq S (·.push (Value.ref h.objs.size)) >>= _) _ _ _
    refine wpAny_bind ?_
    refine wpAny_updateSeq hS' rfl (wpAny_pure ⟨plainId_quiet PySem.F.plain_extend_loop _, ih (i + 1) _ tk' _ (acc.push (Value.ref h.objs.size)) (as ++ [h.objs.size]) (by omega) (by omega) (hst'.keep n1 n2 n3 n4 n5 up)
      (pa.at fun o e => up a o na (hkp a o az aT ha ai e)) (pb.at fun o e => up b o nb (hkp b o bz bT bi hb e))
      (fun b o q1 q2 q3 q4 q5 e => up b o q1 (hkp b o q2 q3 q4 q5 (hkeep b o q1 q2 q3 q4 q5 e))) (Heap.get?_update_self _ hS' rfl) (by rw [Array.toList_push, hacc, List.map_append]; rfl) (by rw [List.length_append, hal]; rfl) ⟨?_, ?_, ?_⟩ ?_⟩) (by rw [hsz]; omega) (by show (acc.push (Value.ref h.objs.size)).size ≤ sizeLine + 1; rw [Array.size_push, hsz]; omega)
    · refine List.pairwise_append.mpr ⟨hG.rise, List.pairwise_singleton _ _, fun a ha b hb => ?_⟩
      rw [List.mem_singleton.mp hb]
      exact hG.there ha
    · intro t ht
      rcases List.mem_append.mp ht with ht | ht
      · exact hG.above t ht
      · rw [List.mem_singleton.mp ht]; exact hls
    · intro j t hj
      rcases Nat.lt_trichotomy j as.length with q1 | q1 | q1
      · rw [List.getElem?_append_left q1] at hj
        obtain ⟨u', v', f1, f2, f3⟩ := hG.pairs j t hj
        have hb := hG.above t (List.mem_of_getElem? hj)
        exact ⟨u', v', f1, f2, up t _ (Nat.ne_of_gt (Nat.lt_of_le_of_lt hSl hb)) (hkp t _ (Nat.ne_of_gt (Nat.lt_of_le_of_lt hzl hb)) (Nat.ne_of_gt (Nat.lt_of_le_of_lt hTl hb)) (Nat.ne_of_gt (Nat.lt_of_le_of_lt h1l hb)) (Nat.ne_of_gt (Nat.lt_of_le_of_lt h2l hb)) f3)⟩
      · subst q1
        have hb : h.objs.size = t := by simpa using hj
        subst hb
        exact ⟨u, v, by rw [hal]; exact e1, by rw [hal]; exact e2, up _ _ (Nat.ne_of_gt hSlt) ht⟩
      · have hnone : (as ++ [h.objs.size])[j]? = none := List.getElem?_eq_none (by rw [List.length_append, List.length_singleton]; omega)
        rw [hnone] at hj; cases hj
    · have e : (h'.update S (Obj.mapSeq (·.push (Value.ref h.objs.size)))).get? h.objs.size = _ := up _ _ (Nat.ne_of_gt hSlt) ht
      exact Nat.lt_trans hls (Heap.lt_size e)
end
section
open PySem.W PySem.Calls
variable {prog : Program} {w : World} {A : Around} {E : Value → Shared → Prop} {s : Shared} {k1 k2 : Bool} {n a b : Nat} {xs ys : Array Value}
theorem sep_zl (ha : a < n) (hb : b < n) : ZipSep2 (n + 4) (n + 2) (n + 3) n (n + 1) [n, a] [n + 1, b] := sepS ha hb
theorem zip_hint {z : Addr} {s : Shared} (hT : s.TypeIs (.ref z) "zip") {Q : Bool → Shared → Prop} (h : Q true s) : wpAny (model prog w) A (Builtin.List.listLengthHint (.ref z)) Q E s := by
  unfold Builtin.List.listLengthHint
  refine wpAny_bind (wpAny_specialOf hT zip_no_len ?_)
  show wpAny _ _ (specialOf (Value.ref z) (Str.ofString "__length_hint__") >>= _) _ _ _
  exact wpAny_bind (wpAny_specialOf hT zip_no_hint (wpAny_pure h))
theorem zl_extend {R : Result → Shared → Prop} (hh : A.handled = none) (hz : IsZip s.heap (n + 4) (n + 2) (n + 3) .none) (hTI : IsTupOf2 s.heap (n + 2) (.ref n) (.ref (n + 1))) (hTO : ∃ x y, IsTupOf2 s.heap (n + 3) x y)
    (h1 : IsSI k1 s.heap n a 0) (h2 : IsSI k2 s.heap (n + 1) b 0) (pa : IsS k1 s.heap a xs) (pb : IsS k2 s.heap b ys) (ha : a < n) (hb : b < n) (S : Nat) (hS5 : n + 5 ≤ S) (res : Value) (c₀ : Nat) (hS : s.heap.get? S = some { cls := .type "list", data := .seq #[] c₀ })
    (hR : ∀ h' tk acc c as, (∀ b o, b < n → s.heap.get? b = some o → h'.get? b = some o) → h'.get? S = some { cls := .type "list", dict := none, data := .seq acc c, slots := #[] } → as.length = min xs.size ys.size → ZG xs ys S h' as →
      acc.toList = as.map Value.ref → R (.ok (.ret res)) { s with heap := h', toks := tk }) (hn : min xs.size ys.size ≤ sizeLine) :
    wpAny (model prog w) A.in1 (Builtin.List.listExtendWith (.ref S) (.ref (n + 4)) res)
      (fun fin s' => match fin with | .done f => R (.ok f) s' | .again c' => c'.quiet = true ∧ codeAny (model prog w) A c' R s') (fun e s' => R (.error e) s') s := by
  have hT : s.TypeIs (.ref (n + 4)) "zip" := ⟨_, hz, rfl⟩
  have Sl : S < s.heap.objs.size := Heap.lt_size hS
  unfold Builtin.List.listExtendWith
  refine wpAny_bind (wpAny_typeOf hT ?_)
  have e1 : Builtin.List.listSameRef (.ref S) (.ref (n + 4)) = false := by simp [Builtin.List.listSameRef, show S ≠ n + 4 by omega]
  have e2 : (Value.type "zip" == Value.type "list") = false := by decide
  have e3 : (Value.type "zip" == Value.type "tuple") = false := by decide
  simp only [e1, e2, e3, Bool.or_false, Bool.false_eq_true, if_false]
  refine wpAny_bind (wpAny_pyIter_zip hz ?_)
  refine wpAny_bind (wpAny_holding (zip_hint hT ?_))
  show wpAny _ A.in1 (rule "list.extend.makes-room" >>= fun _ => Builtin.List.listTouch (.ref S) >>= fun _ => again (.builtin "list.extend.loop" ⟨[.ref S, .ref (n + 4), res], []⟩)) _ _ _
  refine wpAny_bind (wpAny_rule ?_)
  refine wpAny_bind ?_
  show wpAny _ A.in1 (updateSeq S (·.push .none) >>= fun _ => updateSeq S (·.pop)) _ _ _
  refine wpAny_bind (wpAny_updateSeq hS rfl ?_)
  have hS₂ := Heap.get?_update_self (Obj.mapSeq (·.push Value.none)) hS rfl
  refine wpAny_updateSeq (hz := by seq_fits) hS₂ rfl ?_
  have hS₃ := Heap.get?_update_self (Obj.mapSeq (·.pop)) hS₂ rfl
  have oth : ∀ b o, b ≠ S → s.heap.get? b = some o → ((s.heap.update S (Obj.mapSeq (·.push Value.none))).update S (Obj.mapSeq (·.pop))).get? b = some o :=
    fun b o hb e => (Heap.get?_update_other _ _ (Ne.symm hb)).trans ((Heap.get?_update_other _ _ (Ne.symm hb)).trans e)
  have q1 : n + 2 ≠ S := by omega
  have q2 : n ≠ S := by omega
  have q3 : n + 1 ≠ S := by omega
  have q4 : n + 4 ≠ S := by omega
  have q5 : n + 3 ≠ S := by omega
  have q6 : a ≠ S := by omega
  have q7 : b ≠ S := by omega
  have r1 : a ≠ n := by omega
  have r2 : b ≠ n + 1 := by omega
  have r3 : a ≠ n + 4 := by omega
  have r4 : b ≠ n + 4 := by omega
  have r5 : a ≠ n + 3 := by omega
  have r6 : b ≠ n + 3 := by omega
  have r7 : a ≠ n + 1 := by omega
  have r8 : b ≠ n := by omega
  have t1 : n + 4 ≤ S := by omega
  have t2 : n + 3 ≤ S := by omega
  have t3 : n ≤ S := by omega
  have t4 : n + 1 ≤ S := by omega
  have off : ∀ b : Nat, b < n → ∀ c : Nat, n ≤ c → b ≠ c := fun b h1 c h2 => by omega
  have st0 : ZSt k1 k2 (n + 4) (n + 2) (n + 3) n (n + 1) a b S 0 s.heap := ⟨hTI, h1, h2, .inl ⟨hz, hTO⟩⟩
  refine wpAny_pure ⟨plainId_quiet PySem.F.plain_extend_loop _, zl_loop (s := s) (h₁ := s.heap) hh (sepS ha hb) r1 r2 q1 q2 q3 q4 q5 q6 q7 r3 r4 r5 r6 r7 r8 hn res S (Nat.le_refl _) t1 t2 t3 t4
    (fun h' tk acc c as hk hS' hl hG hacc => hR h' tk acc c as (fun b o hb e => hk b o (off b hb S (by omega)) (off b hb (n + 4) (by omega)) (off b hb (n + 3) (by omega)) (off b hb n (by omega)) (off b hb (n + 1) (by omega)) e) hS' hl hG hacc)
    _ 0 _ s.toks _ _ [] (Nat.sub_zero _) (Nat.zero_le _) (st0.keep q1 q2 q3 q4 q5 oth) (pa.at fun o e => oth a o q6 e) (pb.at fun o e => oth b o q7 e) (fun b o hb _ _ _ _ e => oth b o hb e) hS₃ rfl rfl
    ⟨List.Pairwise.nil, (fun _ ha => nomatch ha), (fun j a hj => by simp at hj)⟩ ?_⟩
  rw [Heap.size_update, Heap.size_update]
  exact Sl
theorem zl_init {R : Result → Shared → Prop} (hh : A.handled = none) (hz : IsZip s.heap (n + 4) (n + 2) (n + 3) .none) (hTI : IsTupOf2 s.heap (n + 2) (.ref n) (.ref (n + 1))) (hTO : ∃ x y, IsTupOf2 s.heap (n + 3) x y)
    (h1 : IsSI k1 s.heap n a 0) (h2 : IsSI k2 s.heap (n + 1) b 0) (pa : IsS k1 s.heap a xs) (pb : IsS k2 s.heap b ys) (ha : a < n) (hb : b < n) (S : Nat) (hS5 : n + 5 ≤ S) (hS : s.heap.get? S = some { cls := .type "list", data := .seq #[] })
    (hR : ∀ h' tk acc c as, (∀ b o, b < n → s.heap.get? b = some o → h'.get? b = some o) → h'.get? S = some { cls := .type "list", dict := none, data := .seq acc c, slots := #[] } → as.length = min xs.size ys.size → ZG xs ys S h' as →
      acc.toList = as.map Value.ref → R (.ok (.ret .none)) { s with heap := h', toks := tk }) (hn : min xs.size ys.size ≤ sizeLine) :
    wpAny (model prog w) A.in1 (Builtin.«list.__init__» ⟨[.ref S, .ref (n + 4)], []⟩)
      (fun fin s' => match fin with | .done f => R (.ok f) s' | .again c' => c'.quiet = true ∧ codeAny (model prog w) A c' R s') (fun e s' => R (.error e) s') s := by
  show wpAny _ _ (do let old ← Builtin.List.listItems (.ref S); Builtin.List.listUpdate (.ref S) (fun _ => #[]); letGo old.toList.reverse; Builtin.List.listExtendWith (.ref S) (.ref (n + 4)) .none) _ _ s
  refine wpAny_bind ?_
  unfold Builtin.List.listItems
  refine wpAny_bind (wpAny_seqItems hS rfl (wpAny_pure ?_))
  show wpAny _ _ (updateSeq S (fun _ => #[]) >>= fun _ => letGo (#[] : Array Value).toList.reverse >>= fun _ => Builtin.List.listExtendWith (.ref S) (.ref (n + 4)) .none) _ _ s
  refine wpAny_bind (wpAny_updateSeq hS rfl ?_)
  have hS₂ := Heap.get?_update_self (Obj.mapSeq (fun _ => (#[] : Array Value))) hS rfl
  have oth : ∀ b o, b ≠ S → s.heap.get? b = some o → (s.heap.update S (Obj.mapSeq (fun _ => (#[] : Array Value)))).get? b = some o :=
    fun b o hb e => (Heap.get?_update_other _ _ (Ne.symm hb)).trans e
  refine wpAny_bind (wpAny_letGo ?_)
  obtain ⟨x, y, hTO⟩ := hTO
  refine zl_extend hh (oth _ _ (by omega) hz) (oth _ _ (by omega) hTI) ⟨x, y, oth _ _ (by omega) hTO⟩ (h1.at fun o e => oth _ o (by omega) e) (h2.at fun o e => oth _ o (by omega) e) (pa.at fun o e => oth _ o (by omega) e) (pb.at fun o e => oth _ o (by omega) e) ha hb S hS5 .none _ hS₂ (fun h' tk acc c as hk hS' hl hG hacc => ?_) hn
  exact hR h' tk acc c as (fun b o hb e => hk b o hb (oth b o (by omega) e)) hS' hl hG hacc
theorem zl_call {Q : Value → Shared → Prop} (hh : A.handled = none) (hz : IsZip s.heap (n + 4) (n + 2) (n + 3) .none) (hTI : IsTupOf2 s.heap (n + 2) (.ref n) (.ref (n + 1))) (hTO : ∃ x y, IsTupOf2 s.heap (n + 3) x y)
    (h1 : IsSI k1 s.heap n a 0) (h2 : IsSI k2 s.heap (n + 1) b 0) (pa : IsS k1 s.heap a xs) (pb : IsS k2 s.heap b ys) (ha : a < n) (hb : b < n) (hn : min xs.size ys.size ≤ sizeLine)
    (hQ : ∀ h' tk acc c as, (∀ b o, b < n → s.heap.get? b = some o → h'.get? b = some o) → h'.get? s.heap.objs.size = some { cls := .type "list", dict := none, data := .seq acc c, slots := #[] } → as.length = min xs.size ys.size → ZG xs ys s.heap.objs.size h' as →
      acc.toList = as.map Value.ref → Q (.ref s.heap.objs.size) { s with heap := h', toks := tk }) :
    wpAny (model prog w) A (call (.type "list") [.ref (n + 4)]) Q E s := by
  refine callType_codes (Q₁ := fun obj s₁ => obj = .ref s.heap.objs.size ∧ s₁ = { s with heap := s.heap.push { cls := .type "list", data := .seq #[] } }) PySem.F.called_list (PySem.F.typeCall_list_1 _) PySem.F.entry_list_init
    (code_list_new _ ⟨rfl, rfl⟩) fun obj s₁ h₁ => ?_
  obtain ⟨rfl, rfl⟩ := h₁
  have hS : (s.heap.push { cls := .type "list", data := .seq #[] }).get? s.heap.objs.size = some { cls := .type "list", data := .seq #[] } := Heap.get?_push_size _ rfl
  have pu : ∀ b o, s.heap.get? b = some o → (s.heap.push { cls := .type "list", data := .seq #[] }).get? b = some o := fun b o e => Heap.get?_push_of_some _ e
  obtain ⟨x, y, hTO⟩ := hTO
  have hlt : n + 4 < s.heap.objs.size := Heap.lt_size hz
  refine ⟨⟨_, hS, rfl⟩, PySem.F.args_list_init_2 _ _, zl_init (A := A.in1) hh (pu _ _ hz) (pu _ _ hTI) ⟨x, y, pu _ _ hTO⟩ (h1.at fun o e => pu _ o e) (h2.at fun o e => pu _ o e) (pa.at fun o e => pu _ o e) (pb.at fun o e => pu _ o e) ha hb _ hlt hS (fun h' tk acc c as hk hS' hl hG hacc => ?_) hn⟩
  exact ⟨rfl, hQ h' tk acc c as (fun b o hb e => hk b o hb (pu b o e)) hS' hl hG hacc⟩
end
end My

set_option maxHeartbeats 2000000
/-! list(zip(a, b)) as a value -/
namespace My
open PySem PySem.Spec PyProof.Rows L2
def tListZip (K : PySem.W.Frag) (ta : TA) : TE := fun σ H Q => ta σ H fun vs H1 => ∃ (a b : Addr) (xs ys : List V) (k1 k2 : Bool), vs = [.ref a, .ref b] ∧ Sq k1 K H1 a xs ∧ Sq k2 K H1 b ys ∧ min xs.length ys.length ≤ 1000000 ∧
  ∀ (H' : Hp) (p : Addr) (zs : List V), Same H1 H' → H1 p = none → H' p = some (.lst zs) → zs.length = min xs.length ys.length → (∀ (j : Nat) (z : V), zs[j]? = some z → ∃ (t : Addr) (x y : V), z = V.ref t ∧ H' t = some (.tup [x, y]) ∧ xs[j]? = some x ∧ ys[j]? = some y) → Q (.ref p) H'
theorem paired_get' {α β : Type} {F : α → β → Prop} : ∀ {xs : List α} {ys : List β}, Paired F xs ys → ∀ {j : Nat} {x : α}, xs[j]? = some x → ∃ y, ys[j]? = some y ∧ F x y
  | _, _, .cons h _, 0, _, e => by cases e; exact ⟨_, rfl, h⟩
  | _, _, .cons _ t, j + 1, x, e => paired_get' t (j := j) (x := x) e
theorem vals_refs : ∀ as : List Addr, Vals (as.map V.ref) (as.map Value.ref)
  | [] => .nil
  | a :: as => .cons rfl (vals_refs as)
section
variable {X : Cx} {pins : List (Addr × Obj)} {σ : L2.St} {H : Hp} {s : Shared}
theorem tupsL_laid {h' : Heap} {tk S c : Nat} {as : List Addr} {vss : List (List V)} (I : Inv X pins σ H s) (hk : ∀ b o, s.heap.get? b = some o → h'.get? b = some o) (rise : as.Pairwise (· < ·)) (hS : s.heap.objs.size ≤ S) (above : ∀ a ∈ as, S < a) (hl : as.length = vss.length) (hz : as.length ≤ sizeLine)
    (hp : ∀ (j : Nat) (a : Addr) (vs : List V), as[j]? = some a → vss[j]? = some vs → vs.length ≤ sizeLine ∧ ∃ us, Vals vs us ∧ h'.get? a = some { cls := .type "tuple", data := .seq us.toArray }) (hL : h'.get? S = some { cls := .type "list", data := .seq (as.map Value.ref).toArray c }) :
    ∃ H' : Hp, (∀ b o, H b = some o → H' b = some o) ∧ H S = none ∧ H' S = some (.lst (as.map V.ref)) ∧ Paired (fun (t : Addr) (p : List V) => H' t = some (.tup p)) as vss ∧ Inv X pins σ H' { s with heap := h', toks := tk } := by
  have nd : as.Nodup := List.Pairwise.imp (fun {a b} (h : a < b) => Nat.ne_of_lt h) rise
  have new : ∀ t ∈ as, H t = none := fun t ht => I.hok.fresh (Nat.le_of_lt (Nat.lt_of_le_of_lt hS (above t ht)))
  have newS : H S = none := I.hok.fresh hS
  have offS : ∀ t ∈ as, t ≠ S := fun t ht => Nat.ne_of_gt (above t ht)
  have atP := putTs_at as vss H hl nd
  have off : ∀ b, b ∉ as → putTs H as vss b = H b := fun b h1 => putTs_off as vss _ h1
  have low : ∀ b o, s.heap.get? b = some o → b ∉ as := fun b o e z => absurd (Heap.lt_size e) (Nat.not_lt.mpr (Nat.le_of_lt (Nat.lt_of_le_of_lt hS (above b z))))
  have lowS : ∀ b o, s.heap.get? b = some o → b ≠ S := fun b o e z => absurd (Heap.lt_size e) (Nat.not_lt.mpr (by rw [z]; exact hS))
  have kp : ∀ b u, H b = some u → upd (putTs H as vss) S (.lst (as.map V.ref)) b = some u := fun b u e => by
    rw [upd_ne (fun z => by rw [z, newS] at e; cases e), off b (fun z => by rw [new b z] at e; cases e)]
    exact e
  have atQ : Paired (fun (t : Addr) (p : List V) => upd (putTs H as vss) S (.lst (as.map V.ref)) t = some (.tup p)) as vss := by
    have : ∀ (l : List Addr) (m : List (List V)), (∀ t ∈ l, t ≠ S) → Paired (fun (t : Addr) (p : List V) => putTs H as vss t = some (.tup p)) l m → Paired (fun (t : Addr) (p : List V) => upd (putTs H as vss) S (.lst (as.map V.ref)) t = some (.tup p)) l m := by
      intro l m hn h
      induction h with
      | nil => exact .nil
      | cons h1 _ ih => exact .cons (by rw [upd_ne (hn _ List.mem_cons_self)]; exact h1) (ih fun t ht => hn t (List.mem_cons_of_mem _ ht))
    exact this as vss offS atP
  refine ⟨upd (putTs H as vss) S (.lst (as.map V.ref)), kp, newS, upd_same, atQ, ?_⟩
  refine I.call' (ch := []) rfl ⟨fun b o q _ _ _ => hk b o q, fun b o q _ _ _ => ⟨o.slots, hk b o q⟩, fun b o q n _ => ?_, fun b o q _ => ⟨o, hk b o q⟩, fun b xs q => kp b _ q, fun b o u q => kp b _ q, fun b ps q => ⟨#[], by rw [kp b _ q]; simp⟩⟩ (fun b u q => ?_) I.bare fun b z => by simp at z
  · rw [upd_ne (lowS b o q), off b (low b o q)]
    exact n
  · by_cases hs : b = S
    · subst hs
      rw [upd_same] at q
      cases q
      exact ⟨by rw [List.length_map]; exact hz, as.map Value.ref, c, vals_refs as, hL⟩
    by_cases hb : b ∈ as
    · obtain ⟨j, pk, e1, e2, e3⟩ := paired_ixL atQ hb
      rw [e3] at q
      cases q
      obtain ⟨z1, us, z2, z3⟩ := hp j b pk e1 e2
      exact ⟨z1, us, z2, ⟨_, z3, rfl, _, rfl⟩⟩
    · rw [upd_ne hs, off b hb] at q
      exact (I.hok b u q).stay (fun d v _ y => hk d v y) (fun d y => kp d _ y) fun d xs y => kp d _ y
end
theorem pe_listZip {X : Cx} {e e2 : Expr} {ta : TA} {p p2 pos pos2 : Pos} (hc : X.calm = true) (hgl : Gl X "list") (hml : X.mg "list" = none) (hg : Gl X "zip") (hm : X.mg "zip" = none) (ha : PA X [e, e2] ta)
    (hs : starEach [e, e2] X.env = (false, eval e X.env) :: starEach [e2] X.env := by rfl) (hpl : (backTo pos (starEach [e2] X.env)).any (·.1) = false := by rfl)
    (hs2 : starEach [.Call (.Name "zip" p) [e, e2] [] pos] X.env = (false, eval (.Call (.Name "zip" p) [e, e2] [] pos) X.env) :: starEach [] X.env := by rfl) :
    PE X (.Call (.Name "list" p2) [.Call (.Name "zip" p) [e, e2] [] pos] [] pos2) (tListZip X.K ta) := by
  refine ⟨fun pins s σ H Q I h => ?_⟩
  refine wpAny_Call_Name_kw (ld_blt I hgl hml PyProof.Rows.boot_list ?_)
  refine PyProof.Rows.callWith_type1 ?_ hs2 rfl
  rw [hs2]
  show wpAny _ _ (spliced ((false, eval (.Call (.Name "zip" p) [e, e2] [] pos) X.env) :: backTo pos2 (starEach [] X.env))) _ _ s
  refine Calls.spliced_cons ?_
  refine wpAny_Call_Name_kw (ld_blt I hg hm PyProof.Rows.boot_zip ?_)
  refine PyProof.Rows.callWith_type1 (thn (ha.run pos pins s σ H _ I h) fun us s1 ⟨vs, H1, I1, r1, q1⟩ => ?_) hs hpl
  obtain ⟨a, b, xs, ys, k1, k2, ex, hqx, hqy, hmn, q⟩ := q1
  subst ex
  cases r1 with
  | cons r rr =>
    cases rr with
    | cons r' rr =>
      cases rr
      cases r
      cases r'
      obtain ⟨its, rv, p1⟩ := inv_sq I1 hqx
      obtain ⟨its2, rv2, p2⟩ := inv_sq I1 hqy
      have l1 := rv.length
      have l2 := rv2.length
      refine zip_begins2 (beginsS k1 a its.toArray) (beginsS k2 b its2.toArray) p1 p2 fun h' hz hTI hTO h1 h2 hsz hk => ?_
      have I2 : Inv X pins σ H1 { s1 with heap := h' } := I1.kept (t' := s1.toks) hk
      refine Calls.spliced_nil ?_
      have hmin : min its.toArray.size its2.toArray.size = min xs.length ys.length := by rw [List.size_toArray, List.size_toArray]; omega
      refine zl_call (n := s1.heap.objs.size) (xs := its.toArray) (ys := its2.toArray) (I1.ok.hd hc) hz hTI ⟨_, _, hTO⟩ (isSI_new h1) (isSI_new h2) (p1.at fun o e => hk _ o e) (p2.at fun o e => hk _ o e) p1.lt p2.lt (by rw [hmin, sizeLine_eq]; omega) fun h2' tk acc c as hk2 hS' hl hG hacc => ?_
      have hvl : as.length = (List.zipWith (fun x y => [x, y]) xs ys).length := by rw [List.length_zipWith]; omega
      have hst : s1.heap.objs.size ≤ h'.objs.size := by rw [hsz]; exact Nat.le_add_right _ _
      obtain ⟨H', kp, hn, hL, atP, I3⟩ := tupsL_laid (tk := tk) (S := h'.objs.size) (c := c) (vss := List.zipWith (fun x y => [x, y]) xs ys) I1 (fun b o e => hk2 b o (Heap.lt_size e) (hk b o e)) hG.rise hst hG.above hvl (by rw [sizeLine_eq]; omega) (fun j t vs e1 e2 => by
        obtain ⟨u, v, g1, g2, g3⟩ := hG.pairs j t e1
        rw [List.getElem?_zipWith] at e2
        have hx : j < xs.length := by
          have := (List.getElem?_eq_some_iff.mp (show its[j]? = some u by simpa using g1)).1
          omega
        have hy : j < ys.length := by
          have := (List.getElem?_eq_some_iff.mp (show its2[j]? = some v by simpa using g2)).1
          omega
        rw [List.getElem?_eq_getElem hx, List.getElem?_eq_getElem hy] at e2
        cases e2
        obtain ⟨u', hu, ru⟩ := rv.get (List.getElem?_eq_getElem hx)
        obtain ⟨v', hv, rw'⟩ := rv2.get (List.getElem?_eq_getElem hy)
        have eu : u' = u := Option.some.inj (hu.symm.trans (by simpa using g1))
        have ev : v' = v := Option.some.inj (hv.symm.trans (by simpa using g2))
        subst eu ev
        exact ⟨by show 2 ≤ sizeLine; decide, [u', v'], .cons ru (.cons rw' .nil), g3⟩) (by rw [← hacc]; exact hS')
      refine ⟨.ref h'.objs.size, H', I3, rfl, q H' h'.objs.size _ (fun b u e => kp b u e) hn hL (by rw [List.length_map]; omega) fun j z ez => ?_⟩
      rw [List.getElem?_map] at ez
      cases et : as[j]? with
      | none => rw [et] at ez; cases ez
      | some t =>
        rw [et] at ez
        cases ez
        obtain ⟨vs, ev, hT⟩ := paired_get' atP et
        have hj := (List.getElem?_eq_some_iff.mp et).1
        have hx : j < xs.length := by omega
        have hy : j < ys.length := by omega
        rw [List.getElem?_zipWith, List.getElem?_eq_getElem hx, List.getElem?_eq_getElem hy] at ev
        cases ev
        exact ⟨t, xs[j], ys[j], rfl, hT, List.getElem?_eq_getElem hx, List.getElem?_eq_getElem hy⟩
end My

set_option pp.maxSteps 400
/-! two coders led on side by side: the program's small defs -/
namespace My
open PySem PySem.Spec PyProof.Rows L2
/-- the pairs behind a pair -/
structure PolAt (K : PySem.W.Frag) (H : Hp) (C D : Cod) (c : Cpl) (xs : List V) : Prop where
  len : xs.length = C.moves.length
  at_ : ∀ j v, xs[j]? = some v → Dp K H v (cplI (C.led c.1 j, D.led c.2 j))
theorem PolAt.ts {K : PySem.W.Frag} {H H' : Hp} {C D : Cod} {c : Cpl} {xs : List V} (h : PolAt K H C D c xs) (t : TS K H H') : PolAt K H' C D c xs := ⟨h.len, fun j v e => by
  rw [← kC_data]
  exact dp_ts t _ _ (by rw [kC_data]; exact h.at_ j v e)⟩
section
variable {P : Program} {w : World} {K : PySem.W.Frag} {mg : Str → Option Value} {base : Heap}
def sp_is_unlike (K : PySem.W.Frag) : Sp := fun vs H Q _ => ∃ (x : V) (c : Cpl), vs = [x] ∧ Dp K H x (cplI c) ∧ ∀ H', Same H H' → Q (.bl (!decide (c.1.1 = c.2.1))) H'
theorem ok_is_unlike (T : Txt K mg) : FnOk P w K mg base CX0 1 T.f__is_unlike T.d__is_unlike ["pair"] (sp_is_unlike K) := by
  refine T.F__is_unlike.ok sc_is_unlike (fun vs H Q E h => ?_) (fun cdv A outer s H vs Q E hr h => ?_)
  · obtain ⟨x, c, rfl, _⟩ := h
    rfl
  · obtain ⟨x, c, rfl, hx, q⟩ := h
    refine ⟨_,
(pss_one (ps_ret (pe_cmpR op_ne (pe_ix ix_tup (pe_ix ix_tup (pv 0) pe_int (fun _ _ => rfl)) pe_int (fun _ _ => rfl)) (pe_ix ix_tup (pe_ix ix_tup (pv 0) pe_int (fun _ _ => rfl)) pe_int (fun _ _ => rfl)) (nomark _))))
, ?_⟩
    obtain ⟨p, xs, rfl, hp, ha⟩ := dp_tup (show Dp K H x (.tuple [pairI c.1, pairI c.2]) from hx)
    obtain ⟨x1, x2, rfl, g1, g2⟩ := dpAll_two ha
    obtain ⟨p1, rfl, hp1⟩ := dp_pair g1
    obtain ⟨p2, rfl, hp2⟩ := dp_pair g2
    refine ⟨_, rfl, p, _, 0, _, rfl, rfl, hp, atI_nat (j := 0) rfl, p1, _, 0, _, rfl, rfl, hp1, atI_nat (j := 0) rfl, _, rfl, p, _, 1, _, rfl, rfl, hp, atI_nat (j := 1) rfl, p2, _, 0, _, rfl, rfl, hp2, atI_nat (j := 0) rfl, ?_⟩
    refine ⟨rfl, ?_⟩
    have : decide (V.int c.1.1 = V.int c.2.1) = decide (c.1.1 = c.2.1) := by simp
    rw [this]
    exact q H (Same.refl H)
def sp_pairs_behind (P : Program) (w : World) (K : PySem.W.Frag) : Sp := fun vs H Q _ => ∃ (d e : Addr) (x : V) (C D : Cod) (c : Cpl), vs = [.ref d, .ref e, x] ∧ C.Ok ∧ D.Ok ∧ C.moves.length = D.moves.length ∧ LedAt P w K H d C ∧ LedAt P w K H e D ∧ Dp K H x (cplI c) ∧ StD C D c ∧
  ∀ p xs H', Same H H' → H p = none → H' p = some (.lst xs) → PolAt K H' C D c xs → Q (.ref p) H'
theorem ok_pairs_behind (T : Txt K mg) : FnOk P w K mg base CX0 2 T.f__pairs_behind T.d__pairs_behind ["led", "led_other", "pair"] (sp_pairs_behind P w K) := by
  refine T.F__pairs_behind.ok sc_pairs_behind (fun vs H Q E h => ?_) (fun cdv A outer s H vs Q E hr h => ?_)
  · obtain ⟨d, e, x, C, D, c, rfl, _⟩ := h
    rfl
  · obtain ⟨d, e, x, C, D, c, rfl, O, O', hm, hd, he, hx, hst, q⟩ := h
    obtain ⟨kvs, dn, hall⟩ := hd
    obtain ⟨kvs', dn', hall'⟩ := he
    obtain ⟨v1, e1, f1⟩ := hall _ hst.1
    obtain ⟨v2, e2, f2⟩ := hall' _ hst.2
    have hM := O.m2
    refine ⟨_,
(pss_one (ps_ret (My.pe_listZip (by rfl) (by rfl) T.z_list (by rfl) T.z_zip (pa_cons (pe_ix (My.ix_dn (P := P) (w := w) (K := K) hr.units) (pv 0) (pe_ix ix_tup (pv 2) pe_int (fun _ _ => rfl)) (fun _ _ => rfl)) (pa_cons (pe_ix (My.ix_dn (P := P) (w := w) (K := K) hr.units) (pv 1) (pe_ix ix_tup (pv 2) pe_int (fun _ _ => rfl)) (fun _ _ => rfl)) pa_nil)))))
, ?_⟩
    obtain ⟨p, xs, rfl, hp, ha⟩ := dp_tup (show Dp K H x (.tuple [pairI c.1, pairI c.2]) from hx)
    obtain ⟨x1, x2, rfl, g1, g2⟩ := dpAll_two ha
    obtain ⟨p1, xs1, rfl, hp1, ha1⟩ := dp_tup (show Dp K H v1 (.tuple _) from f1)
    obtain ⟨p2, xs2, rfl, hp2, ha2⟩ := dp_tup (show Dp K H v2 (.tuple _) from f2)
    have l1 := dpAll_len ha1
    have l2 := dpAll_len ha2
    rw [List.length_map, List.length_range] at l1 l2
    refine ⟨_, rfl, _, rfl, p, _, 0, _, rfl, rfl, hp, atI_nat (j := 0) rfl, d, kvs, kS c.1, _, rfl, dn, keyS g1, e1, _, rfl, _, rfl, p, _, 1, _, rfl, rfl, hp, atI_nat (j := 1) rfl, e, kvs', kS c.2, _, rfl, dn', keyS g2, e2, p1, p2, xs1, xs2, false, false, rfl, hp1, hp2, by omega, fun H' t zs s1 ht hL hl hz => ?_⟩
    refine q t zs H' s1 ht hL ⟨by omega, fun j v ev => ?_⟩
    obtain ⟨a, u1, u2, rfl, ha', hu1, hu2⟩ := hz j v ev
    have hj := (List.getElem?_eq_some_iff.mp hu1).1
    have hj' := (List.getElem?_eq_some_iff.mp hu2).1
    obtain ⟨dv1, hdv1, hv1⟩ := dpAll_get ha1 hu1
    obtain ⟨dv2, hdv2, hv2⟩ := dpAll_get ha2 hu2
    rw [List.getElem?_map, List.getElem?_range (by omega)] at hdv1 hdv2
    cases hdv1
    cases hdv2
    exact .tup (.inl (.inl ha')) (.cons (dp_same s1 _ _ hv1) (.cons (dp_same s1 _ _ hv2) .nil))
end
end My

set_option pp.maxSteps 400
/-! alike -/
namespace My
open PySem PySem.Spec PyProof.Rows L2
section
variable {P : Program} {w : World} {K : PySem.W.Frag} {mg : Str → Option Value} {base : Heap}
theorem ld_keys {α : Type} {key : α → NK} {H : Hp} {E0 : List (α × List Nat)} {kvs : List (NK × V)} {E1 : List (α × List Nat)} (h : LDr K H key E0 kvs E1) : kvs.map (·.1) = (E1.map (·.1)).map key := by
  unfold LDr at h
  induction h with
  | nil => rfl
  | cons h _ ih => rw [List.map_cons, List.map_cons, List.map_cons, ih, h.1]
end
end My

set_option pp.maxSteps 400
set_option pp.deepTerms false
/-! a law's own judge of things: numbers, states, codes, couples, ranks -/
namespace My
open PySem PySem.Spec PyProof.Rows L2
theorem ifYes {A B : Prop} {b : Bool} (e : b = true) (h : A) : if b = true then A else B := by
  rw [if_pos e]
  exact h
theorem ifNo {A B : Prop} {b : Bool} (e : b = false) (h : B) : if b = true then A else B := by
  rw [e, if_neg Bool.false_ne_true]
  exact h
def codesD (C : Cod) : PyData → Bool
  | .tuple ds => ds.all fun d => btw d 0 ((C.moves.length : Int) - 1)
  | _ => false
def coupleD (C : Cod) : PyData → Bool
  | .tuple [a, b] => stateD C a && (stateD C b && PySem.W.dataLt a b)
  | _ => false
def posD : PyData → Bool
  | .int n => decide (1 ≤ n)
  | _ => false
def rankD (C : Cod) : PyData → Bool
  | .tuple [a, b] => coupleD C a && posD b
  | _ => false
theorem stateD_pair {C : Cod} {d : PyData} (h : stateD C d = true) : ∃ p, d = pairI p ∧ C.St p := by
  unfold stateD at h
  split at h
  · rename_i a b
    obtain ⟨h1, h2⟩ := Bool.and_eq_true_iff.mp h
    obtain ⟨n, rfl, e1, e2⟩ : ∃ n, a = .int n ∧ C.low ≤ n ∧ n ≤ C.high := by
      cases a <;> first | cases h1; done | skip
      exact ⟨_, rfl, of_decide_eq_true (Bool.and_eq_true_iff.mp h1).1, of_decide_eq_true (Bool.and_eq_true_iff.mp h1).2⟩
    obtain ⟨k, rfl, e3, e4⟩ : ∃ n, b = .int n ∧ 0 ≤ n ∧ n ≤ (C.steps.length : Int) - 1 := by
      cases b <;> first | cases h2; done | skip
      exact ⟨_, rfl, of_decide_eq_true (Bool.and_eq_true_iff.mp h2).1, of_decide_eq_true (Bool.and_eq_true_iff.mp h2).2⟩
    exact ⟨(n, k), rfl, e1, e2, e3, by omega⟩
  · cases h
section
variable {P : Program} {w : World} {K : PySem.W.Frag} {mg : Str → Option Value} {base : Heap}
theorem ok_law_is_whole (T : Txt K mg) : FnOk P w K mg base CX0 2 T.f__law_is_whole T.d__law_is_whole ["thing", "least", "most"] (sp_is_between K) := by
  refine T.F__law_is_whole.ok sc_law_is_whole (fun vs H Q E h => ?_) (fun cdv A outer s H vs Q E hr h => ?_)
  · obtain ⟨x, d, lo, hi, rfl, _⟩ := h
    rfl
  · obtain ⟨x, d, lo, hi, rfl, hd, q⟩ := h
    refine ⟨_,
(pss_one (ps_ret (pe_and (pe_callB (call_isi) (by rfl) T.z_isinstance (by decide +kernel) (pa_cons (pv 0) (pa_cons (pe_bltn (v := .ty "int") (by rfl) T.z_int (by decide +kernel) rfl) pa_nil))) (pe_and (pe_not (pe_callB (call_isi) (by rfl) T.z_isinstance (by decide +kernel) (pa_cons (pv 0) (pa_cons (pe_bltn (v := .ty "bool") (by rfl) T.z_bool (by decide +kernel) rfl) pa_nil)))) (pe_one (pe_chain op_le op_le (pv 1) (pv 0) (pv 2)))))))
, ?_⟩
    have q' : ∀ b, btw d lo hi = b → Q (.bl b) H := fun b e => e ▸ q H (Same.refl H)
    refine ⟨x, rfl, x, .ty "int", _, _, _, rfl, .ty _, tyx hd, kitI d, _, rfl, ?_⟩
    cases hd with
    | int n =>
      refine iteT ?_
      refine ⟨_, rfl, _, .ty "bool", _, _, _, rfl, .ty _, tyx (.int n), kitBo (.int n), false, rfl, _, rfl, ?_⟩
      refine iteT ?_
      refine ⟨_, rfl, _, rfl, lo, n, rfl, rfl, _, rfl, ?_⟩
      refine ite2 (fun e => ?_) (fun e => ?_)
      · refine ⟨_, rfl, n, hi, rfl, rfl, ?_⟩
        exact q' _ (by show (decide (lo ≤ n) && decide (n ≤ hi)) = _; rw [e]; rfl)
      · exact q' _ (by show (decide (lo ≤ n) && decide (n ≤ hi)) = _; rw [Bool.not_eq_true] at e; rw [e]; rfl)
    | bl b =>
      refine iteT ?_
      refine ⟨_, rfl, _, .ty "bool", _, _, _, rfl, .ty _, tyx (.bl b), kitBo (.bool b), true, rfl, _, rfl, ?_⟩
      refine iteF ?_
      exact q H (Same.refl H)
    | non => exact iteF (q H (Same.refl H))
    | str z => exact iteF (q H (Same.refl H))
    | lst _ _ => exact iteF (q H (Same.refl H))
    | tup _ _ => exact iteF (q H (Same.refl H))
theorem ok_law_is_state (T : Txt K mg) : FnOk P w K mg base CX0 4 T.f__law_is_state T.d__law_is_state ["coder", "thing"] (sp_is_state K) := by
  refine T.F__law_is_state.ok sc_law_is_state (fun vs H Q E h => ?_) (fun cdv A outer s H vs Q E hr h => ?_)
  · obtain ⟨c, x, C, d, rfl, _⟩ := h
    rfl
  · obtain ⟨c, x, C, d, rfl, hc, hd, q⟩ := h
    have q' : ∀ b H', Same H H' → stateD C d = b → Q (.bl b) H' := fun b H' s e => e ▸ q H' s
    refine ⟨_,
(pss_cons (ps_if (PW.pt (pw_or (pt_not (pt_val (pe_callB (call_isi) (by rfl) T.z_isinstance (by decide +kernel) (pa_cons (pv 1) (pa_cons (pe_bltn (v := .ty "tuple") (by rfl) T.z_tuple (by decide +kernel) rfl) pa_nil))))) (pw_or1 (pt_cmpR op_ne (pe_callB (call_len_seq) (by rfl) T.z_len (by decide +kernel) (pa_cons (pv 1) pa_nil)) pe_int (nomark _))))) (pss_one (ps_ret pe_bl)) pss_nil)
      (pss_one (ps_ret (pe_and (pe_call (ok_law_is_whole T) (hr.mono (by decide)) (by rfl) T.g__law_is_whole T.F__law_is_whole.kp T.b__law_is_whole .nil pass0 (pa_cons (pe_ix ix_tup (pv 1) pe_int (fun _ _ => rfl)) (pa_cons (pe_ix ix_tup (pv 0) pe_int (fun _ _ => rfl)) (pa_cons (pe_ix ix_tup (pv 0) pe_int (fun _ _ => rfl)) pa_nil)))) (pe_one (pe_call (ok_law_is_whole T) (hr.mono (by decide)) (by rfl) T.g__law_is_whole T.F__law_is_whole.kp T.b__law_is_whole .nil pass0 (pa_cons (pe_ix ix_tup (pv 1) pe_int (fun _ _ => rfl)) (pa_cons pe_int (pa_cons (pe_op op_sub (pe_callB (call_len_seq) (by rfl) T.z_len (by decide +kernel) (pa_cons (pe_ix ix_tup (pv 0) pe_int (fun _ _ => rfl)) pa_nil)) pe_int) pa_nil)))))))))
, ?_⟩
    refine ⟨x, rfl, x, .ty "tuple", _, _, _, rfl, .ty _, tyx hd, kitT d, _, rfl, ?_⟩
    cases hd with
    | tup h1 h2 =>
      refine iteF ?_
      have hl := dpAll_len h2
      refine ⟨_, rfl, _, _, rfl, .inr h1, rfl, _, rfl, ?_⟩
      rename_i t xs ds
      by_cases h2' : ds.length = 2
      · refine ifNo (by rw [hl, h2']; rfl) ?_
        match ds, h2' with
        | [da, db], _ =>
        obtain ⟨x1, x2, rfl, g1, g2⟩ := dpAll_two h2
        obtain ⟨a, sv, mv, ms, rfl, ha, hs, hm, hmd⟩ := cod_at hc
        refine ⟨_, rfl, t, _, 0, x1, rfl, rfl, h1, atI_nat (j := 0) rfl, _, rfl, a, _, 0, _, rfl, rfl, ha, atI_nat (j := 0) rfl, _, rfl, a, _, 1, _, rfl, rfl, ha, atI_nat (j := 1) rfl,
          x1, da, C.low, C.high, rfl, g1, fun H2 s2 => ⟨_, rfl, ?_⟩⟩
        cases hb : btw da C.low C.high with
        | false => exact iteF (q' _ _ s2 (by show (btw da C.low C.high && btw db 0 ((C.steps.length : Int) - 1)) = false; rw [hb]; rfl))
        | true =>
          refine iteT ?_
          refine ⟨_, rfl, t, _, 1, x2, rfl, rfl, same_tup s2 h1, atI_nat (j := 1) rfl, _, rfl, a, _, 2, _, rfl, rfl, same_tup s2 ha, atI_nat (j := 2) rfl, sv, _, rfl, .inr (same_tup s2 hs), _, _, rfl, rfl, x2, db, 0, _, rfl, dp_same s2 _ _ g2, fun H3 s3 => ?_⟩
          refine q' _ _ (s2.trans s3) ?_
          rw [List.length_map]
          show (btw da C.low C.high && btw db 0 ((C.steps.length : Int) - 1)) = _
          rw [hb]
          rfl
      · refine ifYes (by rw [hl]; simp [h2']; omega) ?_
        refine q' _ _ (Same.refl H) ?_
        unfold stateD
        split
        · rename_i e
          injection e with e
          rw [e] at h2'
          exact absurd rfl h2'
        · rfl
    | non => exact iteT (q H (Same.refl H))
    | int n => exact iteT (q H (Same.refl H))
    | bl b => exact iteT (q H (Same.refl H))
    | str z => exact iteT (q H (Same.refl H))
    | lst _ _ => exact iteT (q H (Same.refl H))
def sp_law_are_codes (K : PySem.W.Frag) : Sp := fun vs H Q _ => ∃ (c x : V) (C : Cod) (d : PyData), vs = [c, x] ∧ Dp K H c C.dat ∧ Dp K H x d ∧ (∀ ds, d = .tuple ds → ds.length ≤ 70000) ∧ ∀ H', Same H H' → Q (.bl (codesD C d)) H'
theorem ok_law_are_codes (T : Txt K mg) : FnOk P w K mg base CX0 4 T.f__law_are_codes T.d__law_are_codes ["coder", "thing"] (sp_law_are_codes K) := by
  refine T.F__law_are_codes.ok sc_law_are_codes (fun vs H Q E h => ?_) (fun cdv A outer s H vs Q E hr h => ?_)
  · obtain ⟨c, x, C, d, rfl, _⟩ := h
    rfl
  · obtain ⟨c, x, C, d, rfl, hc, hd, hlen, q⟩ := h
    refine ⟨_,
(pss_cons (ps_if (pt_not (pt_val (pe_callB (call_isi) (by rfl) T.z_isinstance (by decide +kernel) (pa_cons (pv 1) (pa_cons (pe_bltn (v := .ty "tuple") (by rfl) T.z_tuple (by decide +kernel) rfl) pa_nil))))) (pss_one (ps_ret pe_bl)) pss_nil)
      (pss_one (ps_ret (pe_cmpR (My.op_eqNil hr.units) (pe_lc (own := [("code", 2)]) rfl sc_law_are_codes.nd (pi_tup (pv 1)) (blkOk_by (own := [("code", 2)]) (N := ["coder", "thing", "code"]) (sc := defScope s_law_are_codes) (by decide +kernel)) (fun _ _ _ _ _ => (pg_name (i := 2) sc_law_are_codes.nd rfl (Or.inl rfl))) (fun _ _ _ _ _ => pts_one (pt_not (pt_val (pe_call (ok_law_is_whole T) (hr.mono (by decide)) (by rfl) T.g__law_is_whole T.F__law_is_whole.kp T.b__law_is_whole .nil pass0 (pa_cons (pv 2) (pa_cons pe_int (pa_cons (pe_op op_sub (pe_callB (My.call_lenK (K := K)) (by rfl) T.z_len (by decide +kernel) (pa_cons (pe_ix (My.ix_tupK (K := K)) (pv 0) pe_int (fun _ _ => rfl)) pa_nil)) pe_int) pa_nil))))))) (fun _ _ _ _ _ => (pv 2))) (pe_lst pa_nil) (nomark _)))))
, ?_⟩
    refine ⟨x, rfl, x, .ty "tuple", _, _, _, rfl, .ty _, tyx hd, kitT d, _, rfl, ?_⟩
    cases hd with
    | tup h1 h2 =>
      rename_i t xs ds
      refine iteF ?_
      have hl := dpAll_len h2
      have hl7 := hlen ds rfl
      obtain ⟨a, sv, mv, ms, rfl, ha, hs, hm, hmd⟩ := cod_at hc
      have hml := dpAll_len hmd
      rw [List.length_map] at hml
      refine ⟨_, rfl, t, rfl, ⟨_, h1⟩, fun D hD => ?_⟩
      refine lc_tup (K := K) (a := t) (xs := xs) (fun j H' => ∃ ys, H' D = some (.lst ys) ∧ ys.isEmpty = (ds.take j).all (fun d => btw d 0 ((C.moves.length : Int) - 1)) ∧ ys.length ≤ j ∧ Same H H') ⟨[], upd_same, rfl, Nat.le_refl _, same_new hD⟩ ?_ ?_ ?_
      · rintro j H' _ ⟨_, _, _, _, s7⟩
        exact same_tup s7 h1
      · rintro j xv H' hj ⟨ys, hys, hye, hyl, s7⟩
        obtain ⟨dx, hdx, hxv⟩ := dpAll_get h2 hj
        have hjl := (List.getElem?_eq_some_iff.mp hj).1
        refine ⟨rfl, _, rfl, _, rfl, a, _, 3, _, rfl, rfl, same_tup s7 ha, atI_nat (j := 3) rfl, mv, _, rfl, .inr (same_tup s7 hm), _, _, rfl, rfl, xv, dx, 0, _, rfl, dp_same s7 _ _ hxv, fun H3 s8 => ⟨_, rfl, ?_⟩⟩
        rw [take_snoc hdx, List.all_append, hml]
        have hys3 := s8 _ _ hys
        cases hb : btw dx 0 ((C.moves.length : Int) - 1) with
        | true =>
          refine iteF ⟨ys, hys3, ?_, by omega, s7.trans s8⟩
          rw [hye]
          simp [hb]
        | false =>
          refine iteT ⟨_, rfl, ys, hys3, Nat.lt_of_le_of_lt (show ys.length ≤ 70000 by omega) (by decide), ys ++ [xv], upd_same, ?_, by rw [List.length_append]; exact Nat.succ_le_succ hyl, same_put (s7.trans s8) hD⟩
          simp [hb]
      rintro H7 ⟨ys, hys, hye, hyl, s7⟩
      refine ⟨by show 0 ≤ sizeLine; decide, fun nl hnl => ⟨D, nl, ys, rfl, rfl, SqL.of (same_new hnl _ _ hys), SqL.of upd_same, ?_⟩⟩
      rw [hye, hl, List.take_length]
      exact q _ (s7.trans (same_new hnl))
    | non => exact iteT (q H (Same.refl H))
    | int n => exact iteT (q H (Same.refl H))
    | bl b => exact iteT (q H (Same.refl H))
    | str z => exact iteT (q H (Same.refl H))
    | lst _ _ => exact iteT (q H (Same.refl H))
end
end My

/-! name = {k: v for ..} on one line, keys that are tuples -/
namespace My
open PySem PySem.Spec PyProof.Rows L2
section
variable {X : Cx}
theorem dc_core {P : Program} {w : World} {K : PySem.W.Frag} {pins : List (Addr × Obj)} {s : Shared} {σ : L2.St} {H : Hp} {Q : VK} {kx vx tg iter : Expr} {ifs : List Expr} {scope : Scope} {own : List (Str × Nat)} {pos : Pos} {wi : TI} {g : TG} {tt : TT} {tk tv : TE} {use : Option (Value → Sem Unit)} {Qf : Value → Shared → Prop} (hc : X.calm = true) (hN : X.N.Nodup) (I : Inv X pins σ H s) (hi : PI X tg iter wi) (ok : BlkOk X.N X.env.scope scope own)
    (hg : ∀ (s : Shared) (H : Hp) (C : Addr) (cl : List (Str × Addr)) (fp : List Addr), PG (X.blk s H scope (compEnvC scope cl C X.env) fp) tg g) (ht : ∀ (s : Shared) (H : Hp) (C : Addr) (cl : List (Str × Addr)) (fp : List Addr), PTs (X.blk s H scope (compEnvC scope cl C X.env) fp) ifs tt)
    (hk : ∀ (s : Shared) (H : Hp) (C : Addr) (cl : List (Str × Addr)) (fp : List Addr), PE (X.blk s H scope (compEnvC scope cl C X.env) fp) kx tk)
    (he : ∀ (s : Shared) (H : Hp) (C : Addr) (cl : List (Str × Addr)) (fp : List Addr), PE (X.blk s H scope (compEnvC scope cl C X.env) fp) vx tv) (hu : X.A.units + 64 < cLine)
    (hP : X.prog = P) (hw : X.w = w) (hK : X.K = K) (hs : ∀ x, foldedSetIterable iter X.env x = pure x)
    (h : tDcN P w K wi g tt tk tv (own.map (·.2)) σ H Q)
    (hRR : ∀ D C s' m H', Inv X pins σ H' s' → Q (.ref D) H' → s'.heap.Ns C m → FpOk X pins H' C → compPost (model X.prog X.w) X.A X.xe use Qf (.ref D) C (.ok .next) s') :
    wpAny (model X.prog X.w) X.A (comprehension (.DictComp kx vx [⟨tg, iter, ifs, 0⟩] scope pos) scope X.env (firstIterPos [⟨tg, iter, ifs, 0⟩] pos) newDict false (eval iter X.env) use) Qf X.xe s := by
  subst hP hw hK
  -- names that come from around are there
  have cells : ∀ y ∈ scope.names, y.2 = .free → ∃ c, X.env.cells.lookup y.1 = some c := fun y hy fr => by
    rcases ok.free y hy fr with q | q
    · exact I.ok.has _ (.inl q)
    · exact I.ok.has _ (.inr q)
  refine wpAny_comprehension_free (use := use) rfl hs (closure_ok cells) ok.kind (fun y hy fr => by rw [ok.uniq y hy, fr])
    (thn (hi.run pins s σ H _ I h) fun xv s1 hx => thn hx fun itv s2 got => ?_)
  obtain ⟨it, fp, tn, J, H2, ei, I2, T, st2, far, q⟩ := got
  subst ei
  refine wpAny_newObj_type (newEnv_comp ?_)
  obtain ⟨I3, d3⟩ := dn_laid (tk := s2.toks) I2
  have Dn := I2.hok.fresh (Nat.le_refl s2.heap.objs.size)
  obtain ⟨W, ⟨m0, w0⟩, turn⟩ := q s2.heap.objs.size _ Dn d3
  have heap3 : ({ s2 with heap := s2.heap.push { cls := .type "dict", data := .dict #[] } } : Shared).heap = s2.heap.push { cls := .type "dict", data := .dict #[] } := rfl
  generalize hs3 : ({ s2 with heap := s2.heap.push { cls := .type "dict", data := .dict #[] } } : Shared) = s3 at I3 heap3
  generalize hD : s2.heap.objs.size = D at I3 d3 Dn w0 turn
  have low : ∀ b ∈ fp, b < s2.heap.objs.size := fun b hb => by
    obtain ⟨o, there, _⟩ := T.obj _ _ st2 b hb
    exact Heap.lt_size there
  have far3 : ∀ b ∈ fp, FpOk X pins (upd H2 D (dnO X.prog X.w D [])) b ∧ b < s3.heap.objs.size := fun b hb => by
    have lt := low b hb
    refine ⟨⟨?_, (far b hb).2⟩, by rw [heap3, Heap.size_push]; exact Nat.lt_succ_of_lt lt⟩
    rw [upd_ne (by rw [← hD]; exact Nat.ne_of_lt lt)]
    exact (far b hb).1
  have st3 : tn 0 s3.heap := T.keep _ _ _ st2 fun b _ o there => by rw [heap3]; exact Heap.get?_push_of_some _ there
  have I4 := block_start I3 ok hN far3
  have pg := hg s3 (upd H2 D (dnO X.prog X.w D [])) s3.heap.objs.size (cellsFrom (s3.heap.objs.size + 1) scope.names (cloFrom X.env.cells scope.names [])) fp
  have pt := ht s3 (upd H2 D (dnO X.prog X.w D [])) s3.heap.objs.size (cellsFrom (s3.heap.objs.size + 1) scope.names (cloFrom X.env.cells scope.names [])) fp
  have pk := hk s3 (upd H2 D (dnO X.prog X.w D [])) s3.heap.objs.size (cellsFrom (s3.heap.objs.size + 1) scope.names (cloFrom X.env.cells scope.names [])) fp
  have pe := he s3 (upd H2 D (dnO X.prog X.w D [])) s3.heap.objs.size (cellsFrom (s3.heap.objs.size + 1) scope.names (cloFrom X.env.cells scope.names [])) fp
  show codeAny _ _ (.compStart (.DictComp kx vx [⟨tg, iter, ifs, 0⟩] scope pos) 0 (.ref it) (.ref D) (compEnvC scope (cellsFrom (s3.heap.objs.size + 1) scope.names (cloFrom X.env.cells scope.names [])) s3.heap.objs.size X.env)) (compPost (model X.prog X.w) X.A X.xe use Qf (.ref D) s3.heap.objs.size) { s3 with heap := pushCells (s3.heap.push { cls := .type "dict", data := .dict #[] }) scope.names }
  have gone : ∀ b ∈ fp, (upd H2 D (dnO X.prog X.w D [])) b = none := fun b hb => (far3 b hb).1.1
  generalize hce : compEnvC scope (cellsFrom (s3.heap.objs.size + 1) scope.names (cloFrom X.env.cells scope.names [])) s3.heap.objs.size X.env = ce at I4 pg pt pk pe ⊢
  have atC : ce.locals = s3.heap.objs.size := by subst hce; rfl
  generalize hB : ({ s3 with heap := pushCells (s3.heap.push { cls := .type "dict", data := .dict #[] }) scope.names } : Shared) = sB at I4 ⊢
  have stB : tn 0 sB.heap := T.keep _ _ _ st3 fun b _ o there => by rw [← hB]; exact pushCells_keeps _ _ _ _ (Heap.get?_push_of_some _ there)
  generalize dnO X.prog X.w D [] = u0 at I3 d3 w0 far3 I4 pg pt pk pe gone
  -- what the walk asks of its own objects, within the block
  have held : ∀ {σ' : L2.St} {H' : Hp} {s' : Shared}, Inv (X.blk s3 (upd H2 D u0) scope ce fp) [] σ' H' s' → (∀ b ∈ fp, H' b = none) → ∀ b ∈ fp, FpOk (X.blk s3 (upd H2 D u0) scope ce fp) [] H' b := fun {σ' H' s'} J' non b hb =>
    ⟨non b hb, (J'.ok.exf b hb).1, J'.ok.exfs b hb, .inl hb, fun x c fr => (J'.ok.exf b hb).2 x c fr, fun p hp => absurd (show p ∈ ([] : List (Addr × Obj)) ++ [] from hp) (by simp)⟩
  have loop : codeAny (model X.prog X.w) X.A (.compLoop (.DictComp kx vx [⟨tg, iter, ifs, 0⟩] scope pos) 0 (.ref it) (.ref D) ce) (compPost (model X.prog X.w) X.A X.xe use Qf (.ref D) s3.heap.objs.size) sB := by
    refine compLoop_anyD (fun n s' => ∃ i H', Inv (X.blk s3 (upd H2 D u0) scope ce fp) [] (wipe σ (own.map (·.2))) H' s' ∧ tn i s'.heap ∧ (∀ b ∈ fp, H' b = none) ∧ W i n H') ?_ m0 ⟨0, upd H2 D u0, I4, stB, gone, w0⟩
    rintro n s5 ⟨i, H5, I5, st5, non5, w5⟩
    rcases turn i n H5 w5 with ⟨stop, fin⟩ | ⟨goes, Nx, next, step⟩
    · have over := T.done (X.blk s3 (upd H2 D u0) scope ce fp) rfl rfl rfl hc i [] s5 _ H5 (fun _ _ => False) I5 (held I5 non5) st5 stop
      refine thnF over fun r s6 ⟨er, I6⟩ => ?_
      subst er
      have I7 : Inv X pins σ H5 s6 := I3.call' (ch := fp) I6.os I6.base I6.hok I6.bare fun b hb => ⟨(far3 b hb).1.2.2.2.1, (far3 b hb).1.2.1, (far3 b hb).1.2.2.2.2.1, (far3 b hb).1.2.2.2.2.2⟩
      have free : H5 s3.heap.objs.size = none := by
        have z : H5 ce.locals = none := I6.free
        rw [atC] at z
        exact z
      obtain ⟨m, names, _⟩ := I6.loc
      have names : s6.heap.Ns ce.locals m := names
      rw [atC] at names
      exact hRR D s3.heap.objs.size s6 m H5 I7 fin names (I3.fpOk (Nat.le_refl _) free)
    · have itm := T.item (X.blk s3 (upd H2 D u0) scope ce fp) rfl rfl rfl hc i [] s5 _ H5 (fun _ _ => False) I5 (held I5 non5) st5 goes
      refine thnF itm fun r s6 ⟨u, er, h6⟩ => ?_
      subst er
      refine thnF h6 fun _ s7 ⟨x, H7, I7, r7, y7, st7, non7⟩ => ?_
      have I8 := I7.pinned (held I7 non7) (T.obj _ _ st7)
      refine thnF (pg.run _ s7 _ H7 x u _ I8 r7 (step x H7 y7)) fun _ s8 ⟨σ8, H8, I9, back8, q8⟩ => ?_
      refine thnF (pt.run _ s8 σ8 H8 _ I9 q8) fun b s9 ⟨H9, I10, q9⟩ => ?_
      have close : ∀ {s' : Shared} {H' : Hp}, Inv (X.blk s3 (upd H2 D u0) scope ce fp) ([] ++ pinsAt fp s7.heap) σ8 H' s' → Nx H' → ∃ m, m < n ∧ ∃ i H', Inv (X.blk s3 (upd H2 D u0) scope ce fp) [] (wipe σ (own.map (·.2))) H' s' ∧ tn i s'.heap ∧ (∀ b ∈ fp, H' b = none) ∧ W i m H' := fun {s' H'} J' nx => by
        obtain ⟨m', less, w'⟩ := next H' nx
        have pinned : ∀ b ∈ fp, ∀ o, s7.heap.get? b = some o → s'.heap.get? b = some o ∧ H' b = none := fun b hb o there =>
          let z := J'.pin (b, o) (List.mem_append_right _ (List.mem_append_right _ (mem_pinsAt hb there)))
          ⟨z.1, z.2.1⟩
        have long : (wipe σ (own.map (·.2))).length = σ8.length := by rw [← back8, wipe_length]
        refine ⟨m', less, i + 1, H', (J'.unpinned (pins := [])).weak long (fun j v e => ?_), T.keep _ _ _ st7 fun b hb o there => (pinned b hb o there).1, fun b hb => ?_, w'⟩
        · rw [← back8] at e
          exact (wipe_some e).1
        · obtain ⟨o, there, _⟩ := T.obj _ _ st7 b hb
          exact (pinned b hb o there).2
      cases b with
      | false =>
        simp only [Bool.false_eq_true, if_false] at q9 ⊢
        exact close I10 q9
      | true =>
        simp only [if_true] at q9 ⊢
        refine thnF (pk.run _ s9 σ8 H9 _ I10 q9) fun z s10 ⟨yk, H10, I11, r10, q10⟩ => ?_
        refine thnF (pe.run _ s10 σ8 H10 _ I11 q10) fun z2 s11 ⟨yv, H11, I12, r11, kvs, k, d11, hk11, small, nx⟩ => ?_
        exact dn_store (X := X.blk s3 (upd H2 D u0) scope ce fp) hu I12 d11 hk11 r10 r11 small fun s12 o I13 d12 => close I13 (nx o d12)
  exact codeAny_compStart_dict loop (T.self X.A 0 _ _ _ stB loop)

theorem ps_setDc {P : Program} {w : World} {K : PySem.W.Frag} {i : Nat} {y : Str} {py : Pos} {kx vx tg iter : Expr} {ifs : List Expr} {scope : Scope} {own : List (Str × Nat)} {pos spos : Pos} {wi : TI} {g : TG} {tt : TT} {tk tv : TE} (hc : X.calm = true) (hN : X.N.Nodup) (hy : X.N[i]? = some y) (hyl : X.env.scope.names.lookup y = some .local)
    (hsw : swapsWith (.DictComp kx vx [⟨tg, iter, ifs, 0⟩] scope pos) (some (.Name y py)) spos.line X.env = pure true) (hi : PI X tg iter wi) (ok : BlkOk X.N X.env.scope scope own)
    (hg : ∀ (s : Shared) (H : Hp) (C : Addr) (cl : List (Str × Addr)) (fp : List Addr), PG (X.blk s H scope (compEnvC scope cl C X.env) fp) tg g) (ht : ∀ (s : Shared) (H : Hp) (C : Addr) (cl : List (Str × Addr)) (fp : List Addr), PTs (X.blk s H scope (compEnvC scope cl C X.env) fp) ifs tt)
    (hk : ∀ (s : Shared) (H : Hp) (C : Addr) (cl : List (Str × Addr)) (fp : List Addr), PE (X.blk s H scope (compEnvC scope cl C X.env) fp) kx tk)
    (he : ∀ (s : Shared) (H : Hp) (C : Addr) (cl : List (Str × Addr)) (fp : List Addr), PE (X.blk s H scope (compEnvC scope cl C X.env) fp) vx tv) (hu : X.A.units + 64 < cLine)
    (hP : X.prog = P := by rfl) (hw : X.w = w := by rfl) (hK : X.K = K := by rfl) (hs : ∀ x, foldedSetIterable iter X.env x = pure x := by intro _; rfl) :
    PS X (.Assign [.Name y py] (.DictComp kx vx [⟨tg, iter, ifs, 0⟩] scope pos) spos) (tAsg (tDcN P w K wi g tt tk tv (own.map (·.2))) (gName i)) := by
  refine ⟨fun pins s σ H D I h => ?_⟩
  rw [exec_Assign_Name_used _ _ _ _ hsw]
  refine wpAny_bind (wpAny_standAt (wpAny_bind ?_))
  show wpAny _ X.A (do let _ ← comprehension (.DictComp kx vx [⟨tg, iter, ifs, 0⟩] scope pos) scope X.env (firstIterPos [⟨tg, iter, ifs, 0⟩] pos) newDict false (eval iter X.env) (some (assign (.Name y py) X.env))) _ _ s
  have h : tDcN P w K wi g tt tk tv (own.map (·.2)) σ H (fun x H1 => gName i x σ H1 D.nx) := h
  refine wpAny_bind (thn (dc_core (Qf := fun _ s' => SP X pins D .next s') hc hN I hi ok hg ht hk he hu hP hw hK hs h fun L C s' m H' I' q hn f => ?_) fun _ s' hq => wpAny_pure (wpAny_pure hq))
  show wpAny _ _ (assign (.Name y py) X.env (.ref L)) _ _ _
  refine wpAny_assign_Name (store_ok2 (v := V.ref L) I' hN hy (.inl hyl) rfl (fun s2 I2 ⟨a, sb, ha⟩ => ?_) (.inr hyl))
  obtain ⟨f0, f1, f2, f3, f4, f5⟩ := f
  have haC : C ≠ a := by
    rcases ha with z | z
    · rw [z]; exact f1
    · exact fun e => f4 y a z e.symm
  refine ⟨m, hn.sameBut sb haC, fun h3 sb3 => ?_⟩
  exact ⟨_, H', I2.turned (t' := s2.toks) (fun b o hb e => (sb3.2 b hb).trans e) f0 f1 f3 f4 f5, q⟩
theorem swD_true {kx vx : Expr} {gs : List Comprehension} {scope : Scope} {pos py : Pos} {y : Str} {l : Nat} {env : Env} (hk : env.scope.kind = .function) (hy : env.scope.names.lookup y = some .local) (hl : (py.line == pos.line) = true)
    (ha : (scope.names.any fun (n, k) => n == y && (k == .local || k == .cell)) = false) : swapsWith (.DictComp kx vx gs scope pos) (some (.Name y py)) l env = pure true := by
  have ky : env.kindOf y = some .local := hy
  have hb : env.blockKind = .function := by unfold Env.blockKind; rw [hk]; rfl
  unfold swapsWith
  simp only [hb, ky, ha, Expr.pos, hl]
  rfl
end
end My

set_option pp.maxSteps 400
set_option pp.deepTerms false
/-! papers of two coders, judged: the mathematics -/
namespace My
open PySem PySem.Spec PyProof.Rows L2
def isS : PyData → Bool
  | .str _ => true
  | _ => false
theorem kitS {K : PySem.W.Frag} : ∀ d : PyData, PySem.W.kitOne K (.type (tyN d)) (.type "str") = some (isS d)
  | .none => kit_ty (a := "NoneType") (b := "str") (r := false) (by decide +kernel)
  | .bool _ => kit_ty (a := "bool") (b := "str") (r := false) (by decide +kernel)
  | .int _ => kit_ty (a := "int") (b := "str") (r := false) (by decide +kernel)
  | .str _ => kit_ty (a := "str") (b := "str") (r := true) (by decide +kernel)
  | .list _ => kit_ty (a := "list") (b := "str") (r := false) (by decide +kernel)
  | .tuple _ => kit_ty (a := "tuple") (b := "str") (r := false) (by decide +kernel)
  | .dict _ => kit_ty (a := "dict") (b := "str") (r := false) (by decide +kernel)
def prD (C D : Cod) : PyData → Bool
  | .tuple [a, b] => stateD C a && stateD D b
  | _ => false
theorem prD_out {C D : Cod} {d : PyData} (h : prD C D d = true) : ∃ c : Cpl, d = cplI c ∧ StD C D c := by
  unfold prD at h
  split at h
  · obtain ⟨h1, h2⟩ := Bool.and_eq_true_iff.mp h
    obtain ⟨p, rfl, hp⟩ := stateD_pair h1
    obtain ⟨q, rfl, hq⟩ := stateD_pair h2
    exact ⟨(p, q), rfl, hp, hq⟩
  · cases h
/-- the first number below n that is bad -/
def fstBad (p : Nat → Bool) (n : Nat) : Option Nat := (List.range n).find? p
theorem fb_some {p : Nat → Bool} {n i : Nat} (h : i < n) (hp : p i = true) (hn : ∀ j, j < i → p j = false) : fstBad p n = some i :=
  List.find?_range_eq_some.mpr ⟨hp, List.mem_range.mpr h, fun j hj => by rw [hn j hj]; rfl⟩
theorem fb_none {p : Nat → Bool} {n : Nat} (hn : ∀ j, j < n → p j = false) : fstBad p n = none :=
  List.find?_range_eq_none.mpr fun j hj => by rw [hn j hj]; rfl
theorem step_ok {p : Nat → Bool} {i : Nat} (hn : ∀ j, j < i → p j = false) (h : p i = false) : ∀ j, j < i + 1 → p j = false := fun j hj => by
  rcases Nat.lt_or_ge j i with z | z
  · exact hn j z
  · rw [show j = i by omega]; exact h
def cplOf : PyData → Cpl
  | .tuple [.tuple [.int a, .int b], .tuple [.int c, .int d]] => ((a, b), (c, d))
  | _ => ((0, 0), (0, 0))
theorem cplOf_I (c : Cpl) : cplOf (cplI c) = c := rfl
/-- a thing that cannot stand there, by itself or by what stands ahead of it -/
def p1 (C D : Cod) (ds : List PyData) (k : Nat) : Bool := !prD C D (ds.getD k .none) || (decide (0 < k) && !PySem.W.dataLt (ds.getD (k - 1) .none) (ds.getD k .none))
/-- one code: what it leads to is not listed, or is unlike -/
def q2 (C D : Cod) (T : List Cpl) (c : Cpl) (j : Nat) : Bool := !decide ((C.led c.1 j, D.led c.2 j) ∈ T) || !decide ((C.led c.1 j).1 = (D.led c.2 j).1)
def p2 (C D : Cod) (T : List Cpl) (k : Nat) : Bool := (fstBad (q2 C D T (T.getD k ((0, 0), (0, 0)))) C.moves.length).isSome
def couplesF (C D : Cod) (c : Cpl) (ds : List PyData) : Option Nat := match fstBad (p1 C D ds) ds.length with
  | some k => some k
  | none => match fstBad (p2 C D (ds.map cplOf)) ds.length with
    | some k => some k
    | none => if c ∈ ds.map cplOf then none else some ds.length
theorem p1_all {C D : Cod} {ds : List PyData} (h : ∀ j, j < ds.length → p1 C D ds j = false) : ∃ T : List Cpl, ds = T.map cplI ∧ ∀ c ∈ T, StD C D c := by
  have one : ∀ d ∈ ds, prD C D d = true := fun d hd => by
    obtain ⟨j, hj, e⟩ := List.mem_iff_getElem.mp hd
    have z := (Bool.or_eq_false_iff.mp (h j hj)).1
    rw [List.getD_eq_getElem?_getD, List.getElem?_eq_getElem hj, e] at z
    cases e2 : prD C D d with
    | true => rfl
    | false =>
      have z : (!prD C D d) = false := z
      rw [e2] at z
      cases z
  refine ⟨ds.map cplOf, ?_, fun c hc => ?_⟩
  · rw [List.map_map]
    refine (List.map_id ds).symm.trans (List.map_congr_left fun d hd => ?_)
    obtain ⟨c, rfl, _⟩ := prD_out (one d hd)
    rfl
  · obtain ⟨d, hd, rfl⟩ := List.mem_map.mp hc
    obtain ⟨c, rfl, h⟩ := prD_out (one d hd)
    exact h
inductive Res where
  | yes (b : Bool)
  | bad (w : Str) (n : Option Int)
def nD : Option Int → PyData
  | none => .none
  | some i => .int i
def nV : Option Int → V
  | none => .non
  | some i => .int i
theorem dp_n {K : PySem.W.Frag} {H : Hp} (n : Option Int) : Dp K H (nV n) (nD n) := by
  cases n with
  | none => exact .non
  | some i => exact .int i
def Res.dat : Res → PyData
  | .yes b => .bool b
  | .bad w n => .tuple [.str w, nD n]
def rowOf : PyData → List Nat
  | .tuple ds => ds.map fun d => match d with | .int i => i.toNat | _ => 0
  | _ => []
theorem rowOf_I (r : List Nat) : rowOf (rowI r) = r := by
  show (r.map fun k : Nat => PyData.int (k : Int)).map _ = r
  rw [List.map_map]
  exact (List.map_congr_left fun k _ => rfl).trans (List.map_id r)
theorem codesD_out {C : Cod} {d : PyData} (h : codesD C d = true) : ∃ r : List Nat, d = rowI r ∧ ∀ k ∈ r, k < C.moves.length := by
  cases d with
  | tuple ds =>
    have h : (ds.all fun d => btw d 0 ((C.moves.length : Int) - 1)) = true := h
    refine ⟨rowOf (.tuple ds), ?_, ?_⟩
    · show _ = PyData.tuple ((ds.map _).map _)
      rw [List.map_map]
      congr 1
      refine (List.map_id ds).symm.trans (List.map_congr_left fun d hd => ?_)
      obtain ⟨n, rfl, h1, h2⟩ := btw_out (List.all_eq_true.mp h d hd)
      show PyData.int n = PyData.int ((n.toNat : Nat) : Int)
      rw [Int.toNat_of_nonneg h1]
    · intro k hk
      obtain ⟨d, hd, rfl⟩ := List.mem_map.mp hk
      obtain ⟨n, rfl, h1, h2⟩ := btw_out (List.all_eq_true.mp h d hd)
      show n.toNat < _
      omega
  | _ => cases h
def wCouples : Str := Str.ofString "couples"
/-- what couples are worth: none is right, otherwise the number of the fault -/
def cplsR (C D : Cod) (c : Cpl) : PyData → Option (Option Int)
  | .tuple ds => (couplesF C D c ds).map fun (k : Nat) => some (k : Int)
  | _ => some none
/-- whether a row tells two states apart -/
def rowR (C D : Cod) (c : Cpl) (d : PyData) : Bool := codesD C d && (!decide (rowOf d = []) && !decide ((C.run c.1 (rowOf d)).1 = (D.run c.2 (rowOf d)).1))
/-- what a paper is worth -/
def resA (C D : Cod) (c : Cpl) : PyData → Res
  | .tuple [.str s, x] => if s = Str.ofString "alike" then (match cplsR C D c x with
      | none => .yes true
      | some n => .bad (Str.ofString "couples") n)
    else if s = Str.ofString "apart" then (if rowR C D c x = true then .yes false else .bad (Str.ofString "row") none)
    else .bad (Str.ofString "form") none
  | _ => .bad (Str.ofString "form") none
end My

set_option pp.maxSteps 400
set_option pp.deepTerms false
/-! papers of two coders: the program's small defs with refusals -/
namespace My
open PySem PySem.Spec PyProof.Rows L2
theorem raise2 {BP : Addr} {f g : Str} {H : Hp} {E : XK} {x y : V} (h : TwoE BP f g H E x y) : ([x, y] : List V).length ≤ 1000 ∧ ∀ a', H a' = none →
    sp_init2 BP f g (.ref a' :: ([x, y] ++ [])) (upd H a' (exo a' BP none)) (fun v H2 => v = .non ∧ ∃ (d : Addr) (fs : List (Str × V)), H2 a' = some (exo a' BP (some d)) ∧ H2 d = some (exd d fs) ∧ H d = none ∧
      E (.ref BP) (some d) (upd (del H2 a') d (.xd fs))) (fun _ _ _ => False) :=
  ⟨by show 2 ≤ 1000; decide, fun a' ha' => ⟨a', x, y, rfl, upd_same, fun d hd n => ⟨rfl, d, _, (upd_ne n.symm).trans upd_same, upd_same, (upd_ne n).symm.trans hd, twoE_mk h ha' hd n⟩⟩⟩
/-- the forms of papers: words with lengths -/
def formD (F : List PyData) : PyData → Bool
  | .tuple (.str s :: r) => F.any fun z => PyData.eqv z (.tuple [.str s, .int ((r.length : Int) + 1)])
  | _ => false
/-- what two coders and two things beside them are refused by -/
structure AllQ (C D : Cod) (H : Hp) (E : XK) (TG OP : Addr) (dx dy : PyData) : Prop where
  great : (256 < C.cnt ∨ 256 < D.cnt) → OneE TG "most" H E (.int 256)
  place : C.cnt ≤ 256 → D.cnt ≤ 256 → (C.moves.length ≠ D.moves.length ∨ stateD C dx = false ∨ stateD D dy = false) → NilE OP H E
theorem AllQ.same {C D : Cod} {H H' : Hp} {E : XK} {TG OP : Addr} {dx dy : PyData} (h : AllQ C D H E TG OP dx dy) (s : Same H H') : AllQ C D H' E TG OP dx dy :=
  ⟨fun g => (h.great g).same s, fun a b c => (h.place a b c).same s⟩
section
variable {P : Program} {w : World} {K : PySem.W.Frag} {mg : Str → Option Value} {base : Heap}
def sp_is_pair_of_states (K : PySem.W.Frag) : Sp := fun vs H Q _ => ∃ (c o x : V) (C D : Cod) (d : PyData), vs = [c, o, x] ∧ Dp K H c C.dat ∧ Dp K H o D.dat ∧ Dp K H x d ∧ ∀ H', Same H H' → Q (.bl (prD C D d)) H'
theorem ok_is_pair_of_states (T : Txt K mg) : FnOk P w K mg base CX0 6 T.f__is_pair_of_states T.d__is_pair_of_states ["coder", "other", "thing"] (sp_is_pair_of_states K) := by
  refine T.F__is_pair_of_states.ok sc_is_pair_of_states (fun vs H Q E h => ?_) (fun cdv A outer s H vs Q E hr h => ?_)
  · obtain ⟨c, o, x, C, D, d, rfl, _⟩ := h
    rfl
  · obtain ⟨c, o, x, C, D, d, rfl, hc, ho, hd, q⟩ := h
    have q' : ∀ b H', Same H H' → prD C D d = b → Q (.bl b) H' := fun b H' s e => e ▸ q H' s
    refine ⟨_,
(pss_one (ps_ret (pe_and (pe_call (ok_is_pair T) (hr.mono (by decide)) (by rfl) T.g_is_pair T.F_is_pair.kp T.b_is_pair .nil pass0 (pa_cons (pv 2) pa_nil)) (pe_and (pe_call (ok_is_state T) (hr.mono (by decide)) (by rfl) T.g_is_state T.F_is_state.kp T.b_is_state .nil pass0 (pa_cons (pv 0) (pa_cons (pe_ix ix_tup (pv 2) pe_int (fun _ _ => rfl)) pa_nil))) (pe_one (pe_call (ok_is_state T) (hr.mono (by decide)) (by rfl) T.g_is_state T.F_is_state.kp T.b_is_state .nil pass0 (pa_cons (pv 1) (pa_cons (pe_ix ix_tup (pv 2) pe_int (fun _ _ => rfl)) pa_nil))))))))
, ?_⟩
    refine ⟨x, rfl, x, d, rfl, hd, fun H1 s1 => ⟨_, rfl, ?_⟩⟩
    by_cases hp : ∃ da db, d = .tuple [da, db]
    · obtain ⟨da, db, rfl⟩ := hp
      obtain ⟨t, xs, rfl, ht, hds⟩ := dp_tup (dp_same s1 _ _ hd)
      obtain ⟨x1, x2, rfl, g1, g2⟩ := dpAll_two hds
      refine iteT ?_
      refine ⟨_, rfl, _, rfl, t, _, 0, x1, rfl, rfl, ht, atI_nat (j := 0) rfl, c, x1, C, da, rfl, dp_same s1 _ _ hc, g1, fun H2 s2 => ⟨_, rfl, ?_⟩⟩
      cases hb : stateD C da with
      | false => exact iteF (q' _ _ (s1.trans s2) (by show (stateD C da && stateD D db) = false; rw [hb]; rfl))
      | true =>
        refine iteT ?_
        refine ⟨_, rfl, _, rfl, t, _, 1, x2, rfl, rfl, same_tup s2 ht, atI_nat (j := 1) rfl, o, x2, D, db, rfl, dp_same (s1.trans s2) _ _ ho, dp_same s2 _ _ g2, fun H3 s3 => ?_⟩
        exact q' _ _ ((s1.trans s2).trans s3) (by show (stateD C da && stateD D db) = _; rw [hb]; rfl)
    · have hn : prD C D d = false := by
        unfold prD
        split
        · exact absurd ⟨_, _, rfl⟩ hp
        · rfl
      have hn2 : pairD d = false := by
        cases d with
        | tuple ds =>
          refine decide_eq_false fun z => hp ?_
          match ds, z with
          | [da, db], _ => exact ⟨da, db, rfl⟩
        | _ => rfl
      rw [hn2]
      exact iteF (q' _ _ s1 hn)
def sp_is_tuple_of_codes (K : PySem.W.Frag) : Sp := fun vs H Q _ => ∃ (c x : V) (C : Cod) (d : PyData), vs = [c, x] ∧ Dp K H c C.dat ∧ Dp K H x d ∧ (∀ ds, d = .tuple ds → ds.length ≤ 70000) ∧ ∀ H', Same H H' → Q (.bl (codesD C d)) H'
theorem ok_is_tuple_of_codes (T : Txt K mg) : FnOk P w K mg base CX0 5 T.f_is_tuple_of_codes T.d_is_tuple_of_codes ["coder", "thing"] (sp_is_tuple_of_codes K) := by
  refine T.F_is_tuple_of_codes.ok sc_is_tuple_of_codes (fun vs H Q E h => ?_) (fun cdv A outer s H vs Q E hr h => ?_)
  · obtain ⟨c, x, C, d, rfl, _⟩ := h
    rfl
  · obtain ⟨c, x, C, d, rfl, hc, hd, hlen, q⟩ := h
    refine ⟨_,
(pss_one (ps_ret (pe_and (pe_callB (call_isi) (by rfl) T.z_isinstance (by decide +kernel) (pa_cons (pv 1) (pa_cons (pe_bltn (v := .ty "tuple") (by rfl) T.z_tuple (by decide +kernel) rfl) pa_nil))) (pe_one (pe_callB ((cr_all rfl)) (by rfl) T.z_all (by decide +kernel) (pa_cons (pe_lc (own := [("code", 2)]) rfl sc_is_tuple_of_codes.nd (pi_tup (pv 1)) (blkOk_by (own := [("code", 2)]) (N := ["coder", "thing", "code"]) (sc := defScope s_is_tuple_of_codes) (by decide +kernel)) (fun _ _ _ _ _ => (pg_name (i := 2) sc_is_tuple_of_codes.nd rfl (Or.inl rfl))) (fun _ _ _ _ _ => pts_nil) (fun _ _ _ _ _ => (pe_call (ok_is_code T) (hr.mono (by decide)) (by rfl) T.g_is_code T.F_is_code.kp T.b_is_code .nil pass0 (pa_cons (pv 0) (pa_cons (pv 2) pa_nil))))) pa_nil))))))
, ?_⟩
    refine ⟨x, rfl, x, .ty "tuple", _, _, _, rfl, .ty _, tyx hd, kitT d, _, rfl, ?_⟩
    cases hd with
    | tup h1 h2 =>
      rename_i t xs ds
      refine iteT ?_
      have hl := dpAll_len h2
      have hl7 := hlen ds rfl
      refine ⟨_, rfl, t, rfl, ⟨_, h1⟩, fun D hD => ?_⟩
      refine lc_tup (K := K) (a := t) (xs := xs) (fun j H' => H' D = some (.lst (((ds.take j).map fun d => btw d 0 ((C.moves.length : Int) - 1)).map V.bl)) ∧ Same H H') ⟨upd_same, same_new hD⟩ ?_ ?_ ?_
      · rintro j H' _ ⟨_, s7⟩
        exact same_tup s7 h1
      · rintro j xv H' hj ⟨hys, s7⟩
        obtain ⟨dx, hdx, hxv⟩ := dpAll_get h2 hj
        refine ⟨rfl, yes_turn ?_⟩
        refine ⟨_, rfl, _, rfl, c, xv, C, dx, rfl, dp_same s7 _ _ hc, dp_same s7 _ _ hxv, fun H3 s8 => ?_⟩
        refine ⟨_, s8 _ _ hys, ?_, ?_, same_put (s7.trans s8) hD⟩
        · rw [List.length_map, List.length_map, List.length_take]
          exact Nat.lt_of_le_of_lt (show _ ≤ 70000 by omega) (by decide)
        · rw [take_snoc hdx, List.map_append, List.map_append]
          exact upd_same
      rintro H7 ⟨hys, s7⟩
      refine ⟨D, _, rfl, SqL.of hys, ?_⟩
      rw [hl, List.take_length, List.all_map]
      exact q _ s7
    | non => exact iteF (q H (Same.refl H))
    | int n => exact iteF (q H (Same.refl H))
    | bl b => exact iteF (q H (Same.refl H))
    | str z => exact iteF (q H (Same.refl H))
    | lst _ _ => exact iteF (q H (Same.refl H))
def sp_need_form (K : PySem.W.Frag) (BP : Addr) : Sp := fun vs H Q E => ∃ (p f : V) (d : PyData) (F : List PyData), vs = [p, f] ∧ Dp K H p d ∧ Dp K H f (.tuple F) ∧ SeqAt.shaped (.tuple F) = true ∧ (∀ s r, d = .tuple (.str s :: r) → (PyData.str s).canLay0 = true) ∧
  (formD F d = true → ∀ H', Same H H' → Q .non H') ∧ (formD F d = false → TwoE BP "part" "number" H E (.str (Str.ofString "form")) .non)
theorem ok_need_form (T : Txt K mg) : FnOk P w K mg base (L2.CX P w) 4 T.f_need_form T.d_need_form ["paper", "forms"] (sp_need_form K T.C_BadPaper) := by
  refine T.F_need_form.okX sc_need_form (fun vs H Q E h => ?_) (fun cdv A outer s H vs Q E hr h => ?_)
  · obtain ⟨p, f, d, F, rfl, _⟩ := h
    rfl
  · obtain ⟨p, f, d, F, rfl, hp, hf, sF, hlay, q1, q2⟩ := h
    refine ⟨_,
(pss_cons (ps_if (PW.pt (pw_or (pt_not (pt_val (pe_callB (call_isi) (by rfl) T.z_isinstance (by decide +kernel) (pa_cons (pv 0) (pa_cons (pe_bltn (v := .ty "tuple") (by rfl) T.z_tuple (by decide +kernel) rfl) pa_nil))))) (pw_or (pt_cmpR op_eq (pe_callB (call_len_seq) (by rfl) T.z_len (by decide +kernel) (pa_cons (pv 0) pa_nil)) pe_int (nomark _)) (pw_or1 (pt_not (pt_val (pe_callB (call_isi) (by rfl) T.z_isinstance (by decide +kernel) (pa_cons (pe_ix ix_tup (pv 0) pe_int (fun _ _ => rfl)) (pa_cons (pe_bltn (v := .ty "str") (by rfl) T.z_str (by decide +kernel) rfl) pa_nil))))))))) (pss_one (ps_raise rfl (takes_of rfl rfl rfl rfl) (pmk_oex T.o_BadPaper T.i_BadPaper T.t_BadPaper (oki_BadPaper T) (hr.mono (by decide)) T.bi_BadPaper .nil pass0 (by rfl) T.g_BadPaper (pa_cons pe_str (pa_cons pe_non pa_nil))))) pss_nil)
      (pss_one (ps_if (pt_cmpR (My.op_notInT (K := K) (My.un65 hr)) (pe_tup (pa_cons (pe_ix ix_tup (pv 0) pe_int (fun _ _ => rfl)) (pa_cons (pe_callB (call_len_seq) (by rfl) T.z_len (by decide +kernel) (pa_cons (pv 0) pa_nil)) pa_nil))) (pv 1) (by with_unfolding_all rfl)) (pss_one (ps_raise rfl (takes_of rfl rfl rfl rfl) (pmk_oex T.o_BadPaper T.i_BadPaper T.t_BadPaper (oki_BadPaper T) (hr.mono (by decide)) T.bi_BadPaper .nil pass0 (by rfl) T.g_BadPaper (pa_cons pe_str (pa_cons pe_non pa_nil))))) pss_nil)))
, ?_⟩
    refine ⟨p, rfl, _, .ty "tuple", _, _, _, rfl, .ty _, tyx hp, kitT _, _, rfl, ?_⟩
    have bad : ∀ H1, Same H H1 → formD F d = false → _ := fun H1 s1 h => raise2 ((q2 h).same s1)
    cases hp with
    | tup h1 h2 =>
      rename_i t xs ds
      refine iteF ?_
      have hl := dpAll_len h2
      refine ⟨_, rfl, _, _, rfl, .inr h1, rfl, _, rfl, ?_⟩
      cases ds with
      | nil => exact ifYes (by rw [hl]; rfl) (bad H (Same.refl H) rfl)
      | cons e r =>
        rw [List.length_cons] at hl
        refine ifNo (decide_eq_false fun z => by
          have := V.int.inj z
          omega) ?_
        cases h2 with
        | cons g0 g1 =>
        rename_i v vs
        refine ⟨_, rfl, t, _, 0, v, rfl, rfl, h1, atI_nat (j := 0) rfl, v, .ty "str", _, _, _, rfl, .ty _, tyx g0, kitS e, _, rfl, ?_⟩
        cases g0 with
        | str z =>
          refine iteF ?_
          refine ⟨_, rfl, t, _, 0, _, rfl, rfl, h1, atI_nat (j := 0) rfl, _, rfl, t, _, rfl, .inr h1, ?_⟩
          rw [List.length_cons, dpAll_len g1]
          refine ⟨by show 2 ≤ sizeLine; decide, fun T1 h_T1 => ?_⟩
          have s_T1 := same_new (o := .tup [.str z, .int ((r.length + 1 : Nat) : Int)]) h_T1
          have t_T1 : SqT K (upd H T1 (.tup [.str z, .int ((r.length + 1 : Nat) : Int)])) T1 [.str z, .int ((r.length + 1 : Nat) : Int)] := upd_tup
          generalize upd H T1 (.tup [.str z, .int ((r.length + 1 : Nat) : Int)]) = H2 at s_T1 t_T1
          clear h_T1
          have sd : SeqAt.shaped (.tuple [.str z, .int ((r.length + 1 : Nat) : Int)]) = true := by
            show (((PyData.str z).canLay0 && _) && decide _) = true
            rw [hlay z r rfl]
            rfl
          refine ⟨_, rfl, .tuple [.str z, .int ((r.length + 1 : Nat) : Int)], _, .tup t_T1 (.cons (.str _) (.cons (.int _) .nil)), dp_same s_T1 _ _ hf, sd, sF, _, rfl, ?_⟩
          have ef : (F.any fun x => PyData.eqv x (.tuple [.str z, .int ((r.length + 1 : Nat) : Int)])) = formD F (.tuple (.str z :: r)) := rfl
          rw [ef]
          cases hb : formD F (.tuple (.str z :: r)) with
          | true => exact iteF (q1 hb _ s_T1)
          | false => exact iteT (bad _ s_T1 hb)
        | non => exact iteT (bad H (Same.refl H) rfl)
        | int n => exact iteT (bad H (Same.refl H) rfl)
        | bl b => exact iteT (bad H (Same.refl H) rfl)
        | tup _ _ => exact iteT (bad H (Same.refl H) rfl)
        | lst _ _ => exact iteT (bad H (Same.refl H) rfl)
    | non => exact iteT (bad H (Same.refl H) rfl)
    | int n => exact iteT (bad H (Same.refl H) rfl)
    | bl b => exact iteT (bad H (Same.refl H) rfl)
    | str z => exact iteT (bad H (Same.refl H) rfl)
    | lst _ _ => exact iteT (bad H (Same.refl H) rfl)
/-- the first coder is too great, whatever stands beside it -/
def spGreat (K : PySem.W.Frag) (TG : Addr) (n : Nat) : Sp := fun vs H Q E => ∃ (c : V) (us : List V) (C : Cod), vs = c :: us ∧ us.length = n ∧ C.Ok ∧ Dp K H c C.dat ∧ 256 < C.cnt ∧ OneE TG "most" H E (.int 256)
def sp_need_allR (K : PySem.W.Frag) (TG OP : Addr) : Sp := fun vs H Q E => spGreat K TG 3 vs H Q E ∨ ∃ (c o x y : V) (C D : Cod) (dx dy : PyData), vs = [c, o, x, y] ∧ C.Ok ∧ D.Ok ∧ Dp K H c C.dat ∧ Dp K H o D.dat ∧ Dp K H x dx ∧ Dp K H y dy ∧ AllQ C D H E TG OP dx dy ∧
  (∀ a b, C.cnt ≤ 256 → D.cnt ≤ 256 → C.moves.length = D.moves.length → dx = pairI a → dy = pairI b → C.St a → D.St b → ∀ H', Same H H' → Q .non H')
theorem us3 {us : List V} (h : us.length = 3) : ∃ a b c, us = [a, b, c] := by
  match us, h with
  | [a, b, c], _ => exact ⟨a, b, c, rfl⟩
theorem us4 {us : List V} (h : us.length = 4) : ∃ a b c d, us = [a, b, c, d] := by
  match us, h with
  | [a, b, c, d], _ => exact ⟨a, b, c, d, rfl⟩
theorem ok_need_all (T : Txt K mg) : FnOk P w K mg base (L2.CX P w) 9 T.f__need_all T.d__need_all ["coder", "other", "one", "two"] (sp_need_allR K T.C_TooGreat T.C_OutOfPlace) := by
  refine T.F__need_all.okX sc_need_all (fun vs H Q E h => ?_) (fun cdv A outer s H vs Q E hr h => ?_)
  · rcases h with ⟨c, us, C, rfl, hl, _⟩ | ⟨c, o, x, y, C, D, dx, dy, rfl, _⟩
    · rw [List.length_cons, hl]; rfl
    · rfl
  · refine ⟨_,
(pss_cons (ps_expr (pe_call (ok_need_coder T) (hr.mono (by decide)) (by rfl) T.g_need_coder T.F_need_coder.kp T.b_need_coder .nil (passes_call (takes_of rfl rfl rfl rfl) (fun _ _ _ _ h => h)) (pa_cons (pv 0) pa_nil)))
      (pss_cons (ps_expr (pe_call (ok_need_few_states T) (hr.mono (by decide)) (by rfl) T.g_need_few_states T.F_need_few_states.kp T.b_need_few_states .nil (passes_call (takes_of rfl rfl rfl rfl) (fun _ _ _ _ h => h)) (pa_cons (pv 0) (pa_cons pe_int pa_nil))))
      (pss_cons (ps_expr (pe_call (ok_need_coder T) (hr.mono (by decide)) (by rfl) T.g_need_coder T.F_need_coder.kp T.b_need_coder .nil (passes_call (takes_of rfl rfl rfl rfl) (fun _ _ _ _ h => h)) (pa_cons (pv 1) pa_nil)))
      (pss_cons (ps_expr (pe_call (ok_need_few_states T) (hr.mono (by decide)) (by rfl) T.g_need_few_states T.F_need_few_states.kp T.b_need_few_states .nil (passes_call (takes_of rfl rfl rfl rfl) (fun _ _ _ _ h => h)) (pa_cons (pv 1) (pa_cons pe_int pa_nil))))
      (pss_cons (ps_if (pt_cmpR op_ne (pe_callB (call_len_seq) (by rfl) T.z_len (by decide +kernel) (pa_cons (pe_ix ix_tup (pv 0) pe_int (fun _ _ => rfl)) pa_nil)) (pe_callB (call_len_seq) (by rfl) T.z_len (by decide +kernel) (pa_cons (pe_ix ix_tup (pv 1) pe_int (fun _ _ => rfl)) pa_nil)) (nomark _)) (pss_one (ps_raise rfl (takes_of rfl rfl rfl rfl) (My.pmk0 T.o_OutOfPlace T.i_OutOfPlace T.t_OutOfPlace (oki_OutOfPlace T) (hr.mono (by decide)) T.bi_OutOfPlace T.g_OutOfPlace (pa_cons pe_str pa_nil)))) pss_nil)
      (pss_cons (ps_expr (pe_call (ok_need_state T) (hr.mono (by decide)) (by rfl) T.g_need_state T.F_need_state.kp T.b_need_state .nil (passes_call (takes_of rfl rfl rfl rfl) (fun _ _ _ _ h => h)) (pa_cons (pv 0) (pa_cons (pv 2) pa_nil))))
      (pss_one (ps_expr (pe_call (ok_need_state T) (hr.mono (by decide)) (by rfl) T.g_need_state T.F_need_state.kp T.b_need_state .nil (passes_call (takes_of rfl rfl rfl rfl) (fun _ _ _ _ h => h)) (pa_cons (pv 1) (pa_cons (pv 3) pa_nil)))))))))))
, ?_⟩
    rcases h with ⟨c, us, C, rfl, hl, O, hc, g, q⟩ | ⟨c, o, x, y, C, D, dx, dy, rfl, O, O', hc, ho, hx, hy, al, q⟩
    · obtain ⟨o, x, y, rfl⟩ := us3 hl
      refine ⟨c, rfl, c, _, rfl, hc, fun _ H1 s1 => ?_, fun y z hf => ?_⟩
      · exact ⟨c, rfl, c, C, 256, rfl, O, dp_same s1 _ _ hc, fun few => by omega, fun _ => q.same s1⟩
      · rw [O.first] at hf
        cases hf
    refine ⟨c, rfl, c, _, rfl, hc, fun _ H1 s1 => ?_, fun y z hf => ?_⟩
    case refine_2 =>
      rw [O.first] at hf
      cases hf
    refine ⟨c, rfl, c, C, 256, rfl, O, dp_same s1 _ _ hc, fun few1 H2 s2 => ?_, fun g => (al.great (.inl g)).same s1⟩
    have s12 := s1.trans s2
    refine ⟨o, rfl, o, _, rfl, dp_same s12 _ _ ho, fun _ H3 s3 => ?_, fun y z hf => ?_⟩
    case refine_2 =>
      rw [O'.first] at hf
      cases hf
    have s13 := s12.trans s3
    refine ⟨o, rfl, o, D, 256, rfl, O', dp_same s13 _ _ ho, fun few2 H4 s4 => ?_, fun g => (al.great (.inr g)).same s13⟩
    have s14 := s13.trans s4
    obtain ⟨ca, cs, cm, ms, rfl, hca, hcs, hcm, hmd⟩ := cod_at (dp_same s14 _ _ hc)
    obtain ⟨oa, os, om, ns, rfl, hoa, hos, hom, hnd⟩ := cod_at (dp_same s14 _ _ ho)
    have l1 := dpAll_len hmd
    have l2 := dpAll_len hnd
    rw [List.length_map] at l1 l2
    refine ⟨_, rfl, ca, _, 3, _, rfl, rfl, hca, atI_nat (j := 3) rfl, cm, _, rfl, .inr hcm, _, rfl, oa, _, 3, _, rfl, rfl, hoa, atI_nat (j := 3) rfl, om, _, rfl, .inr hom, ?_⟩
    refine ⟨rfl, _, rfl, ?_⟩
    by_cases hm : C.moves.length = D.moves.length
    · refine iteNS (by rw [l1, l2, hm]) ?_
      refine ⟨_, rfl, _, rfl, _, _, C, dx, rfl, dp_same s14 _ _ hc, dp_same s14 _ _ hx, fun h1 H5 s5 => ?_, fun h1 H5 s5 => al.place few1 few2 (.inr (.inl h1)) _ (s14.trans s5)⟩
      have s15 := s14.trans s5
      refine ⟨_, rfl, _, rfl, _, _, D, dy, rfl, dp_same s15 _ _ ho, dp_same s15 _ _ hy, fun h2 H6 s6 => ?_, fun h2 H6 s6 => al.place few1 few2 (.inr (.inr h2)) _ (s15.trans s6)⟩
      obtain ⟨a, e1, ha⟩ := stateD_out h1
      obtain ⟨b, e2, hb⟩ := stateD_out h2
      exact q a b few1 few2 hm e1 e2 ha hb _ (s15.trans s6)
    · have e : (!decide (V.int (ms.length : Int) = V.int (ns.length : Int))) = true := by
        rw [decide_eq_false fun z => by
          have := V.int.inj z
          omega]
        rfl
      rw [e]
      refine iteT ?_
      refine ⟨by decide, fun a ha => ⟨a, _, rfl, upd_same, rfl, upd_same, ?_⟩⟩
      rw [del_new ha]
      exact al.place few1 few2 (.inl hm) _ s14
def sp_check_row (K : PySem.W.Frag) (BP : Addr) : Sp := fun vs H Q E => ∃ (c o p x : V) (C D : Cod) (cc : Cpl) (d : PyData), vs = [c, o, p, x] ∧ C.Ok ∧ D.Ok ∧ C.moves.length = D.moves.length ∧ Dp K H c C.dat ∧ Dp K H o D.dat ∧ Dp K H p (cplI cc) ∧ StD C D cc ∧ Dp K H x d ∧ (∀ ds, d = .tuple ds → ds.length ≤ 70000) ∧
  (rowR C D cc d = true → ∀ H', Same H H' → Q .non H') ∧ (rowR C D cc d = false → TwoE BP "part" "number" H E (.str (Str.ofString "row")) .non)
theorem ok_check_row (T : Txt K mg) : FnOk P w K mg base (L2.CX P w) 7 T.f__check_row T.d__check_row ["coder", "other", "pair", "row"] (sp_check_row K T.C_BadPaper) := by
  refine T.F__check_row.okX sc_check_row (fun vs H Q E h => ?_) (fun cdv A outer s H vs Q E hr h => ?_)
  · obtain ⟨c, o, p, x, C, D, cc, d, rfl, _⟩ := h
    rfl
  · obtain ⟨c, o, p, x, C, D, cc, d, rfl, O, O', hm, hc, ho, hp, hst, hx, hlen, q1, q2⟩ := h
    refine ⟨_,
(pss_cons (ps_if (PW.pt (pw_or (pt_not (pt_val (pe_call (ok_is_tuple_of_codes T) (hr.mono (by decide)) (by rfl) T.g_is_tuple_of_codes T.F_is_tuple_of_codes.kp T.b_is_tuple_of_codes .nil pass0 (pa_cons (pv 0) (pa_cons (pv 3) pa_nil))))) (pw_or1 (pt_cmpR op_eq (pe_callB (call_len_seq) (by rfl) T.z_len (by decide +kernel) (pa_cons (pv 3) pa_nil)) pe_int (nomark _))))) (pss_one (ps_raise rfl (takes_of rfl rfl rfl rfl) (pmk_oex T.o_BadPaper T.i_BadPaper T.t_BadPaper (oki_BadPaper T) (hr.mono (by decide)) T.bi_BadPaper .nil pass0 (by rfl) T.g_BadPaper (pa_cons pe_str (pa_cons pe_non pa_nil))))) pss_nil)
      (pss_one (ps_if (pt_not (pt_val (pe_call (ok_is_unlike T) (hr.mono (by decide)) (by rfl) T.g__is_unlike T.F__is_unlike.kp T.b__is_unlike .nil pass0 (pa_cons (pe_tup (pa_cons (pe_call (ok_state_behind_row T) (hr.mono (by decide)) (by rfl) T.g_state_behind_row T.F_state_behind_row.kp T.b_state_behind_row .nil pass0 (pa_cons (pv 0) (pa_cons (pv 3) (pa_cons (pe_ix ix_tup (pv 2) pe_int (fun _ _ => rfl)) pa_nil)))) (pa_cons (pe_call (ok_state_behind_row T) (hr.mono (by decide)) (by rfl) T.g_state_behind_row T.F_state_behind_row.kp T.b_state_behind_row .nil pass0 (pa_cons (pv 1) (pa_cons (pv 3) (pa_cons (pe_ix ix_tup (pv 2) pe_int (fun _ _ => rfl)) pa_nil)))) pa_nil))) pa_nil)))) (pss_one (ps_raise rfl (takes_of rfl rfl rfl rfl) (pmk_oex T.o_BadPaper T.i_BadPaper T.t_BadPaper (oki_BadPaper T) (hr.mono (by decide)) T.bi_BadPaper .nil pass0 (by rfl) T.g_BadPaper (pa_cons pe_str (pa_cons pe_non pa_nil))))) pss_nil)))
, ?_⟩
    have bad : ∀ H1, Same H H1 → rowR C D cc d = false → _ := fun H1 s1 h => raise2 ((q2 h).same s1)
    refine ⟨_, rfl, _, rfl, c, x, C, d, rfl, hc, hx, hlen, fun H1 s1 => ⟨_, rfl, ?_⟩⟩
    cases hb : codesD C d with
    | false => exact iteT (bad H1 s1 (by unfold rowR; rw [hb]; rfl))
    | true =>
      refine iteF ?_
      obtain ⟨r, rfl, hr⟩ := codesD_out hb
      obtain ⟨ra, rfl, hra⟩ := row_at (dp_same s1 _ _ hx)
      refine ⟨_, rfl, ra, _, rfl, .inr hra, rfl, _, rfl, ?_⟩
      have hrl : (rowV r).length = r.length := List.length_map ..
      rw [hrl]
      cases r with
      | nil => exact ifYes rfl (bad H1 s1 (by unfold rowR; rw [hb]; rfl))
      | cons k r =>
        refine ifNo (decide_eq_false fun z => by
          have := V.int.inj z
          rw [List.length_cons] at this
          omega) ?_
        obtain ⟨pa, pxs, rfl, hpa, hpd⟩ := dp_tup (show Dp K H1 p (.tuple [pairI cc.1, pairI cc.2]) from dp_same s1 _ _ hp)
        obtain ⟨x1, x2, rfl, g1, g2⟩ := dpAll_two hpd
        refine ⟨c, rfl, _, rfl, _, rfl, pa, _, 0, x1, rfl, rfl, hpa, atI_nat (j := 0) rfl, c, _, x1, C, k :: r, cc.1, rfl, O, dp_same s1 _ _ hc, dp_row hra, hr, g1, hst.1, fun z1 H2 s2 hz1 => ?_⟩
        have s12 := s1.trans s2
        refine ⟨o, rfl, _, rfl, _, rfl, pa, _, 1, x2, rfl, rfl, same_tup s2 hpa, atI_nat (j := 1) rfl, o, _, x2, D, k :: r, cc.2, rfl, O', dp_same s12 _ _ ho, dp_same s2 _ _ (dp_row hra), fun j hj => hm ▸ hr j hj, dp_same s2 _ _ g2, hst.2, fun z2 H3 s3 hz2 => ?_⟩
        refine ⟨by show 2 ≤ sizeLine; decide, fun t ht => ?_⟩
        have s4 := same_new (o := .tup [z1, z2]) ht
        have s14 := (s12.trans s3).trans s4
        refine ⟨_, (C.run cc.1 (k :: r), D.run cc.2 (k :: r)), rfl, .tup upd_tup (.cons (dp_same (s3.trans s4) _ _ hz1) (.cons (dp_same s4 _ _ hz2) .nil)), fun H5 s5 => ⟨_, rfl, ?_⟩⟩
        have er : rowR C D cc (rowI (k :: r)) = !decide ((C.run cc.1 (k :: r)).1 = (D.run cc.2 (k :: r)).1) := by
          unfold rowR
          rw [hb, rowOf_I]
          rfl
        dsimp only
        cases hu : (!decide ((C.run cc.1 (k :: r)).1 = (D.run cc.2 (k :: r)).1)) with
        | true => exact iteF (q1 (er.trans hu) _ (s14.trans s5))
        | false => exact iteT (bad _ (s14.trans s5) (er.trans hu))
end
end My

set_option pp.maxSteps 400
set_option pp.deepTerms false
/-! papers of two coders: the couples judged -/
namespace My
open PySem PySem.Spec PyProof.Rows L2
/-- the dict of the couples of a list, by turns -/
def MarkC (kvs : List (NK × V)) (l : List Cpl) : Prop := ∀ c, (valV kvs (kC c)).isSome = decide (c ∈ l)
theorem MarkC.nil : MarkC [] [] := fun c => rfl
theorem MarkC.put {kvs : List (NK × V)} {l : List Cpl} {a : Cpl} {v : V} (h : MarkC kvs l) : MarkC (putK kvs (kC a) v) (l ++ [a]) := fun c => by
  rw [valV_put]
  by_cases e : c = a
  · subst e
    rw [if_pos rfl]
    simp
  · rw [if_neg (fun z => e (kC_inj _ _ z)), h c]
    exact decide_eq_decide.mpr ⟨fun z => List.mem_append_left _ z, fun z => (List.mem_append.mp z).resolve_right fun q => e (List.mem_singleton.mp q)⟩
theorem yes_any2 {σ : L2.St} {H : Hp} {A B : Hp → Prop} (h : A H) : tYes σ H fun b H3 => if b = true then A H3 else B H3 := by
  show if true = true then A H else B H
  rw [if_pos rfl]
  exact h
theorem map_cplOf (L : List Cpl) : (L.map cplI).map cplOf = L := by
  rw [List.map_map]
  exact (List.map_congr_left fun c _ => cplOf_I c).trans (List.map_id L)
theorem getD_of {α : Type} {l : List α} {i : Nat} {d a : α} (h : l[i]? = some a) : l.getD i d = a := by
  rw [List.getD_eq_getElem?_getD, h]
  rfl
section
variable {P : Program} {w : World} {K : PySem.W.Frag} {mg : Str → Option Value} {base : Heap}
def sp_check_couples (K : PySem.W.Frag) (BP : Addr) : Sp := fun vs H Q E => ∃ (c o p x : V) (C D : Cod) (cc : Cpl) (d : PyData), vs = [c, o, p, x] ∧ C.Ok ∧ D.Ok ∧ C.cnt ≤ 256 ∧ D.cnt ≤ 256 ∧ C.moves.length = D.moves.length ∧ Dp K H c C.dat ∧ Dp K H o D.dat ∧ Dp K H p (cplI cc) ∧ StD C D cc ∧ Dp K H x d ∧ (∀ ds, d = .tuple ds → ds.length ≤ 70000) ∧
  (cplsR C D cc d = none → ∀ H', Same H H' → Q .non H') ∧ (∀ n, cplsR C D cc d = some n → TwoE BP "part" "number" H E (.str (Str.ofString "couples")) (nV n))
set_option maxHeartbeats 4000000 in
theorem ok_check_couples (T : Txt K mg) : FnOk P w K mg base (L2.CX P w) 9 T.f__check_couples T.d__check_couples ["coder", "other", "pair", "couples"] (sp_check_couples K T.C_BadPaper) := by
  refine T.F__check_couples.okX sc_check_couples (fun vs H Q E h => ?_) (fun cdv A outer s H vs Q E hr h => ?_)
  · obtain ⟨c, o, p, x, C, D, cc, d, rfl, _⟩ := h
    rfl
  · obtain ⟨c, o, p, x, C, D, cc, d, rfl, O, O', few1, few2, hm, hc, ho, hp, hst, hx, hlen, qo, qx⟩ := h
    refine ⟨_,
(pss_cons (ps_if (pt_not (pt_val (pe_callB (call_isi) (by rfl) T.z_isinstance (by decide +kernel) (pa_cons (pv 3) (pa_cons (pe_bltn (v := .ty "tuple") (by rfl) T.z_tuple (by decide +kernel) rfl) pa_nil))))) (pss_one (ps_raise rfl (takes_of rfl rfl rfl rfl) (pmk_oex T.o_BadPaper T.i_BadPaper T.t_BadPaper (oki_BadPaper T) (hr.mono (by decide)) T.bi_BadPaper .nil pass0 (by rfl) T.g_BadPaper (pa_cons pe_str (pa_cons pe_non pa_nil))))) pss_nil)
      (pss_cons (ps_for (passes_of rfl) rfl (My.pi_enumT (by rfl) T.z_enumerate (pa_cons (pv 3) pa_nil)) (pg_tup (by rfl) (pgs_cons (pg_name (i := 4) sc_check_couples.nd rfl (Or.inl rfl)) (pgs_cons (pg_name (i := 5) sc_check_couples.nd rfl (Or.inl rfl)) pgs_nil))) (pss_one (ps_if (PW.pt (pw_or (pt_not (pt_val (pe_call (ok_is_pair_of_states T) (hr.mono (by decide)) (by rfl) T.g__is_pair_of_states T.F__is_pair_of_states.kp T.b__is_pair_of_states .nil pass0 (pa_cons (pv 0) (pa_cons (pv 1) (pa_cons (pv 5) pa_nil)))))) (pw_or1 (PW.pt (pw_and (pt_cmpR op_gt (pv 4) pe_int (nomark _)) (pw_and1 (pt_cmpR (My.op_leD (K := K) hr.units) (pv 5) (pe_ix ix_tup (pv 3) (pe_op op_sub (pv 4) pe_int) (fun _ _ => rfl)) (nomark _)))))))) (pss_one (ps_raise rfl (takes_of rfl rfl rfl rfl) (pmk_oex T.o_BadPaper T.i_BadPaper T.t_BadPaper (oki_BadPaper T) (hr.mono (by decide)) T.bi_BadPaper .nil pass0 (by rfl) T.g_BadPaper (pa_cons pe_str (pa_cons (pv 4) pa_nil))))) pss_nil)))
      (pss_cons (ps_par (i := 6) (j := 7) (by rfl) sc_check_couples.nd rfl rfl (by decide) rfl rfl (pa_cons (pe_call (ok_led_states T) (hr.mono (by decide)) (by rfl) T.g_led_states T.F_led_states.kp T.b_led_states .nil pass0 (pa_cons (pv 0) pa_nil)) (pa_cons (pe_call (ok_led_states T) (hr.mono (by decide)) (by rfl) T.g_led_states T.F_led_states.kp T.b_led_states .nil pass0 (pa_cons (pv 1) pa_nil)) pa_nil)) (by rfl))
      (pss_cons (My.ps_setDc (P := P) (w := w) (K := K) (i := 9) (own := [("couple", 8)]) rfl sc_check_couples.nd rfl rfl (My.swD_true rfl rfl rfl (by decide +kernel)) (pi_tup (pv 3)) (blkOk_by (own := [("couple", 8)]) (N := ["coder", "other", "pair", "couples", "index", "thing", "led", "led_other", "couple", "listed", "after"]) (sc := defScope s_check_couples) (by decide +kernel)) (fun _ _ _ _ _ => (pg_name (i := 8) sc_check_couples.nd rfl (Or.inl rfl))) (fun _ _ _ _ _ => pts_nil) (fun _ _ _ _ _ => (pv 8)) (fun _ _ _ _ _ => pe_bl) hr.units)
      (pss_cons (ps_for (passes_of rfl) rfl (My.pi_enumT (by rfl) T.z_enumerate (pa_cons (pv 3) pa_nil)) (pg_tup (by rfl) (pgs_cons (pg_name (i := 4) sc_check_couples.nd rfl (Or.inl rfl)) (pgs_cons (pg_name (i := 8) sc_check_couples.nd rfl (Or.inl rfl)) pgs_nil))) (pss_one (ps_for (passes_of rfl) rfl (pi_list (pe_call (ok_pairs_behind T) (hr.mono (by decide)) (by rfl) T.g__pairs_behind T.F__pairs_behind.kp T.b__pairs_behind .nil pass0 (pa_cons (pv 6) (pa_cons (pv 7) (pa_cons (pv 8) pa_nil))))) (pg_name (i := 10) sc_check_couples.nd rfl (Or.inl rfl)) (pss_one (ps_if (PW.pt (pw_or (pt_cmpR (My.op_notInN (P := P) (w := w) (K := K) hr.units) (pv 10) (pv 9) (by with_unfolding_all rfl)) (pw_or1 (pt_val (pe_call (ok_is_unlike T) (hr.mono (by decide)) (by rfl) T.g__is_unlike T.F__is_unlike.kp T.b__is_unlike .nil pass0 (pa_cons (pv 10) pa_nil)))))) (pss_one (ps_raise rfl (takes_of rfl rfl rfl rfl) (pmk_oex T.o_BadPaper T.i_BadPaper T.t_BadPaper (oki_BadPaper T) (hr.mono (by decide)) T.bi_BadPaper .nil pass0 (by rfl) T.g_BadPaper (pa_cons pe_str (pa_cons (pv 4) pa_nil))))) pss_nil)))))
      (pss_one (ps_if (pt_cmpR (My.op_notInN (P := P) (w := w) (K := K) hr.units) (pv 2) (pv 9) (by with_unfolding_all rfl)) (pss_one (ps_raise rfl (takes_of rfl rfl rfl rfl) (pmk_oex T.o_BadPaper T.i_BadPaper T.t_BadPaper (oki_BadPaper T) (hr.mono (by decide)) T.bi_BadPaper .nil pass0 (by rfl) T.g_BadPaper (pa_cons pe_str (pa_cons (pe_callB (call_len_seq) (by rfl) T.z_len (by decide +kernel) (pa_cons (pv 3) pa_nil)) pa_nil))))) pss_nil)))))))
, ?_⟩
    have bad : ∀ n H1, Same H H1 → cplsR C D cc d = some n → _ := fun n H1 s1 h => raise2 ((qx n h).same s1)
    refine ⟨x, rfl, x, .ty "tuple", _, _, _, rfl, .ty _, tyx hx, kitT d, _, rfl, ?_⟩
    cases hx with
    | tup h1 h2 =>
      rename_i t xs ds
      refine iteF ?_
      have hl := dpAll_len h2
      have hl7 := hlen ds rfl
      have hM := O.m2
      refine ⟨_, rfl, t, xs, rfl, h1, ?_⟩
      refine for_enumT (K := K) (a := t) (xs := xs) (fun i σ H' => ∃ y4 y5, σ = [some c, some o, some p, some (.ref t), y4, y5, none, none, none, none, none] ∧ Same H H' ∧ ∀ j, j < i → p1 C D ds j = false) ⟨none, none, rfl, Same.refl H, fun j hj => absurd hj (Nat.not_lt_zero j)⟩ ?_ ?_ ?_
      · rintro i σ H' _ ⟨_, _, _, s2, _⟩
        exact same_tup s2 h1
      · rintro i v σ H' tp hi ⟨y4, y5, rfl, s2, hok⟩ htp
        obtain ⟨dv, hdv, hv⟩ := dpAll_get h2 hi
        have hil := (List.getElem?_eq_some_iff.mp hi).1
        have s3 := s2.trans (same_new (o := .tup [.int (i : Nat), v]) htp)
        refine ⟨tp, _, rfl, upd_tup, rfl, _, _, rfl, _, _, rfl, rfl, ?_⟩
        generalize upd H' tp (.tup [.int (i : Nat), v]) = H2 at s3
        have bad1 : p1 C D ds i = true → cplsR C D cc (.tuple ds) = some (some (i : Int)) := fun h => by
          show (couplesF C D cc ds).map _ = _
          unfold couplesF
          rw [fb_some (by omega) h hok]
          rfl
        refine ⟨_, rfl, _, rfl, _, rfl, c, o, v, C, D, dv, rfl, dp_same s3 _ _ hc, dp_same s3 _ _ ho, dp_same s3 _ _ hv, fun H3 s4 => ⟨_, rfl, ?_⟩⟩
        have s34 := s3.trans s4
        cases hb : prD C D dv with
        | false =>
          refine iteT (iteT ?_)
          refine ⟨_, rfl, bad _ H3 s34 (bad1 ?_)⟩
          show (!prD C D (ds.getD i .none) || _) = true
          rw [getD_of hdv, hb]
          rfl
        | true =>
          refine iteF ?_
          obtain ⟨e, rfl, he⟩ := prD_out hb
          refine ⟨_, rfl, _, _, rfl, rfl, _, rfl, ?_⟩
          by_cases h0 : i = 0
          · refine ifNo (decide_eq_false (by omega)) (iteF ?_)
            refine ⟨_, _, rfl, s34, step_ok hok ?_⟩
            show (!prD C D (ds.getD i .none) || (decide (0 < i) && _)) = false
            rw [getD_of hdv, hb, decide_eq_false (by omega)]
            rfl
          · refine ifYes (decide_eq_true (by omega)) ?_
            obtain ⟨j, rfl⟩ : ∃ j, i = j + 1 := ⟨i - 1, by omega⟩
            have hj : xs[j]? = some xs[j] := List.getElem?_eq_getElem (by omega)
            generalize xs[j] = v' at hj
            obtain ⟨dv', hdv', hv'⟩ := dpAll_get h2 hj
            have hj' := (Bool.or_eq_false_iff.mp (hok j (Nat.lt_succ_self j))).1
            rw [getD_of hdv'] at hj'
            obtain ⟨e', rfl, he'⟩ := prD_out (C := C) (D := D) (d := dv') (by cases z : prD C D dv' with | true => rfl | false => rw [z] at hj'; cases hj')
            have hjj : (((j + 1 : Nat) : Int) - 1) = (j : Int) := by omega
            have ep : p1 C D ds (j + 1) = !PySem.W.dataLt (cplI e') (cplI e) := by
              show (!prD C D (ds.getD (j + 1) .none) || (decide (0 < j + 1) && !PySem.W.dataLt (ds.getD j .none) (ds.getD (j + 1) .none))) = _
              rw [getD_of hdv, getD_of hdv', hb, decide_eq_true (Nat.succ_pos j)]
              rfl
            refine ⟨_, rfl, _, rfl, _, rfl, _, _, rfl, rfl, ?_⟩
            refine ⟨t, xs, _, _, rfl, rfl, same_tup s34 h1, by rw [hjj]; exact atI_nat hj, _, _, dp_same s34 _ _ hv, dp_same s34 _ _ hv', al_cplI _ _, nofun, by show 2 ≤ 64; decide, _, rfl, ?_⟩
            rw [← ep]
            cases hz : p1 C D ds (j + 1) with
            | true =>
              refine iteT ?_
              exact ⟨_, rfl, bad _ H3 s34 (bad1 hz)⟩
            | false =>
              refine iteF ?_
              exact ⟨_, _, rfl, s34, step_ok hok hz⟩
      · rintro σ H2 ⟨y4, y5, rfl, s2, hok⟩
        rw [hl] at hok
        have e1 : fstBad (p1 C D ds) ds.length = none := fb_none hok
        obtain ⟨L, rfl, hL⟩ := p1_all hok
        rw [List.length_map] at hl hl7 e1
        refine ⟨c, rfl, c, C, rfl, O, dp_same s2 _ _ hc, by omega, fun ld H3 s3 hld hled => ?_⟩
        refine ⟨o, rfl, o, D, rfl, O', dp_same (s2.trans s3) _ _ ho, by omega, fun le H4 s4 hle hled' => ?_⟩
        refine ⟨_, _, rfl, ?_⟩
        have hled := hled.same s4
        have s24 := (s2.trans s3).trans s4
        refine ⟨_, rfl, t, rfl, ⟨xs, same_tup s24 h1⟩, fun LD u0 hLD d0 => ?_⟩
        refine dcN_it (K := K) (walk_tup (K := K) (a := t) (xs := xs)) (fun i H' => Same H4 H' ∧ ∃ kvs, DN P w K H' LD kvs ∧ kvs.length ≤ i ∧ MarkC kvs (L.take i)) ⟨same_new hLD, [], d0, Nat.le_refl _, MarkC.nil⟩ ?_ ?_ ?_
        · rintro i H' _ ⟨s5, _⟩
          exact same_tup (s24.trans s5) h1
        · rintro i v H5 H5' hi ⟨s5, kvs, d5, kl, mk⟩ ⟨rfl, hv⟩
          obtain ⟨dv, hdv, hdd⟩ := dpAll_get h2 hv
          rw [List.getElem?_map] at hdv
          obtain ⟨e, hev, rfl⟩ := Option.map_eq_some_iff.mp hdv
          refine ⟨rfl, yes_any2 ?_⟩
          refine ⟨_, rfl, kvs, kC e, d5, keyC (dp_same (s24.trans s5) _ _ hdd), Nat.lt_of_le_of_lt (show kvs.length ≤ 70000 by omega) (by decide), fun u d6 => ⟨same_at s5 hLD, _, d6, ?_, ?_⟩⟩
          · have := length_putK kvs (kC e) (.bl true)
            omega
          · rw [List.take_add_one, hev]
            exact mk.put
        rintro H5 ⟨s5, kvs, d5, _, mk⟩
        rw [hl, List.take_length] at mk
        have hled := hled.same s5
        have hled' := hled'.same s5
        have s25 := s24.trans s5
        clear hLD d0
        refine ⟨_, rfl, t, xs, rfl, same_tup s25 h1, ?_⟩
        have e2 : (L.map cplI).map cplOf = L := map_cplOf L
        refine for_enumT (K := K) (a := t) (xs := xs) (fun i σ H' => ∃ y4 y8 y10, σ = [some c, some o, some p, some (.ref t), y4, y5, some (.ref ld), some (.ref le), y8, some (.ref LD), y10] ∧ Same H5 H' ∧ ∀ j, j < i → p2 C D L j = false) ⟨_, _, _, rfl, Same.refl _, fun j hj => absurd hj (Nat.not_lt_zero j)⟩ ?_ ?_ ?_
        · rintro i σ H' _ ⟨_, _, _, _, s6, _⟩
          exact same_tup (s25.trans s6) h1
        · rintro i v σ H' tp hi ⟨y4, y8, y10, rfl, s6, hok2⟩ htp
          obtain ⟨dv, hdv, hv⟩ := dpAll_get h2 hi
          rw [List.getElem?_map] at hdv
          obtain ⟨e, hev, rfl⟩ := Option.map_eq_some_iff.mp hdv
          have heL : e ∈ L := List.mem_of_getElem? hev
          have hil := (List.getElem?_eq_some_iff.mp hi).1
          have s7 := s6.trans (same_new (o := .tup [.int (i : Nat), v]) htp)
          refine ⟨tp, _, rfl, upd_tup, rfl, _, _, rfl, _, _, rfl, rfl, ?_⟩
          generalize upd H' tp (.tup [.int (i : Nat), v]) = H7 at s7
          have s27 := s25.trans s7
          have ep : p2 C D L i = (fstBad (q2 C D L e) C.moves.length).isSome := by
            unfold p2
            rw [getD_of hev]
          have bad2 : p2 C D L i = true → cplsR C D cc (.tuple (L.map cplI)) = some (some (i : Int)) := fun h => by
            show (couplesF C D cc (L.map cplI)).map _ = _
            unfold couplesF
            rw [List.length_map, e1, e2, fb_some (by omega) h hok2]
            rfl
          refine ⟨_, rfl, _, rfl, _, rfl, ld, le, v, C, D, e, rfl, O, O', hm, hled.same s7, hled'.same s7, dp_same s27 _ _ hv, hL e heL, fun FL fxs H8 s8 _ hFL hfol => ?_⟩
          have s78 := s7.trans s8
          refine ⟨FL, rfl, ⟨fxs, SqL.of hFL⟩, ?_⟩
          refine for_list (K := K) (a := FL) (xs := fxs) (fun j σ H' => ∃ y10, σ = [some c, some o, some p, some (.ref t), some (.int (i : Nat)), y5, some (.ref ld), some (.ref le), some v, some (.ref LD), y10] ∧ Same H8 H' ∧ ∀ j', j' < j → q2 C D L e j' = false) ⟨_, rfl, Same.refl _, fun j hj => absurd hj (Nat.not_lt_zero j)⟩ ?_ ?_ ?_
          · rintro j σ H' _ ⟨_, _, s9, _⟩
            exact SqL.of (s9 _ _ hFL)
          · rintro j xv σ H9 hj ⟨y10, rfl, s9, hok3⟩
            have hjm : j < C.moves.length := by rw [← hfol.len]; exact (List.getElem?_eq_some_iff.mp hj).1
            have hx := dp_same s9 (cplI _) _ (hfol.at_ j xv hj)
            obtain ⟨wa, rfl⟩ := (keyC hx).rf
            have s99 := (s27.trans s8).trans s9
            have d9 := d5.same ((s7.trans s8).trans s9)
            have bad3 : q2 C D L e j = true → cplsR C D cc (.tuple (L.map cplI)) = some (some (i : Int)) := fun h => bad2 (by
              rw [ep, fb_some hjm h hok3]
              rfl)
            refine ⟨_, rfl, _, rfl, LD, kvs, kC (C.led e.1 j, D.led e.2 j), rfl, d9.rd, keyC hx, _, rfl, ?_⟩
            rw [mk]
            by_cases hin : (C.led e.1 j, D.led e.2 j) ∈ L
            · rw [decide_eq_true hin]
              refine iteF ?_
              refine ⟨_, rfl, _, _, rfl, hx, fun H10 s10 => ⟨_, rfl, ?_⟩⟩
              have eq2 : q2 C D L e j = !decide ((C.led e.1 j).1 = (D.led e.2 j).1) := by
                unfold q2
                rw [decide_eq_true hin]
                rfl
              dsimp only
              rw [← eq2]
              cases hz : q2 C D L e j with
              | true =>
                refine iteT ?_
                exact ⟨_, rfl, bad _ _ (s99.trans s10) (bad3 hz)⟩
              | false =>
                refine iteF ?_
                exact ⟨_, rfl, s9.trans s10, step_ok hok3 hz⟩
            · rw [decide_eq_false hin]
              refine iteT (iteT ?_)
              refine ⟨_, rfl, bad _ _ s99 (bad3 ?_)⟩
              unfold q2
              rw [decide_eq_false hin]
              rfl
          · rintro σ H9 ⟨y10, rfl, s9, hok3⟩
            rw [hfol.len] at hok3
            refine ⟨_, _, _, rfl, s78.trans s9, step_ok hok2 ?_⟩
            rw [ep, fb_none hok3]
            rfl
        · rintro σ H6 ⟨y4, y8, y10, rfl, s6, hok2⟩
          rw [hl] at hok2
          have s26 := s25.trans s6
          have hp6 := keyC (c := cc) (dp_same s26 _ _ hp)
          obtain ⟨wp, rfl⟩ := hp6.rf
          have ec : cplsR C D cc (.tuple (L.map cplI)) = if cc ∈ L then none else some (some (L.length : Int)) := by
            show (couplesF C D cc (L.map cplI)).map _ = _
            unfold couplesF
            rw [List.length_map, e1, e2, fb_none hok2]
            show (if cc ∈ L then none else some L.length).map _ = _
            by_cases z : cc ∈ L
            · rw [if_pos z, if_pos z]; rfl
            · rw [if_neg z, if_neg z]; rfl
          refine ⟨_, rfl, _, rfl, LD, kvs, kC cc, rfl, (d5.same s6).rd, hp6, _, rfl, ?_⟩
          rw [mk]
          by_cases hin : cc ∈ L
          · rw [decide_eq_true hin]
            refine iteF ?_
            exact qo (by rw [ec, if_pos hin]) _ s26
          · rw [decide_eq_false hin]
            refine iteT ?_
            refine ⟨_, rfl, t, xs, rfl, .inr (same_tup s26 h1), ?_⟩
            rw [hl]
            exact bad _ _ s26 (by rw [ec, if_neg hin])
    | non => exact iteT (bad none H (Same.refl H) rfl)
    | int n => exact iteT (bad none H (Same.refl H) rfl)
    | bl b => exact iteT (bad none H (Same.refl H) rfl)
    | str z => exact iteT (bad none H (Same.refl H) rfl)
    | lst _ _ => exact iteT (bad none H (Same.refl H) rfl)
end
end My

set_option pp.maxSteps 400
set_option pp.deepTerms false
/-! alike and check_alike with refusals -/
namespace My
open PySem PySem.Spec PyProof.Rows L2
section
variable {P : Program} {w : World} {K : PySem.W.Frag} {mg : Str → Option Value} {base : Heap}
def sp_alikeR (K : PySem.W.Frag) (TG OP : Addr) : Sp := fun vs H Q E => spGreat K TG 3 vs H Q E ∨ ∃ (c o x y : V) (C G : Cod) (dx dy : PyData), vs = [c, o, x, y] ∧ C.Ok ∧ G.Ok ∧ Dp K H c C.dat ∧ Dp K H o G.dat ∧ Dp K H x dx ∧ Dp K H y dy ∧ AllQ C G H E TG OP dx dy ∧
  (∀ a b, C.cnt ≤ 256 → G.cnt ≤ 256 → C.moves.length = G.moves.length → dx = pairI a → dy = pairI b → C.St a → G.St b → ∀ z d H', Same H H' → AlkOut C G (a, b) d → Dp K H' z d → Q z H')
set_option maxHeartbeats 4000000 in
theorem ok_alike (T : Txt K mg) : FnOk P w K mg base (L2.CX P w) 10 T.f_alike T.d_alike ["coder", "other", "one", "two"] (sp_alikeR K T.C_TooGreat T.C_OutOfPlace) := by
  refine T.F_alike.okX sc_alike (fun vs H Q E h => ?_) (fun cdv A outer s H vs Q E hr h => ?_)
  · rcases h with ⟨c, us, C, rfl, hl, _⟩ | ⟨c, o, x, y, C, G, dx, dy, rfl, _⟩
    · rw [List.length_cons, hl]; rfl
    · rfl
  · refine ⟨_,
(pss_cons (ps_expr (pe_call (ok_need_all T) (hr.mono (by decide)) (by rfl) T.g__need_all T.F__need_all.kp T.b__need_all .nil (passes_call (takes_of rfl rfl rfl rfl) (fun _ _ _ _ h => h)) (pa_cons (pv 0) (pa_cons (pv 1) (pa_cons (pv 2) (pa_cons (pv 3) pa_nil))))))
      (pss_cons (ps_par (i := 4) (j := 5) (by rfl) sc_alike.nd rfl rfl (by decide) rfl rfl (pa_cons (pe_call (ok_led_states T) (hr.mono (by decide)) (by rfl) T.g_led_states T.F_led_states.kp T.b_led_states .nil pass0 (pa_cons (pv 0) pa_nil)) (pa_cons (pe_call (ok_led_states T) (hr.mono (by decide)) (by rfl) T.g_led_states T.F_led_states.kp T.b_led_states .nil pass0 (pa_cons (pv 1) pa_nil)) pa_nil)) (by rfl))
      (pss_cons (ps_set (i := 6) sc_alike.nd rfl (Or.inl rfl) (My.pe_disp1N (P := P) (w := w) (K := K) (pe_tup (pa_cons (pv 2) (pa_cons (pv 3) pa_nil))) pe_non hr.units))
      (pss_cons (ps_set (i := 7) sc_alike.nd rfl (Or.inl rfl) (pe_lst (pa_cons (pe_tup (pa_cons (pv 2) (pa_cons (pv 3) pa_nil))) pa_nil)))
      (pss_cons (ps_while (passes_of rfl) (pt_truth (pv 7) (fun _ => rfl)) (pss_cons (ps_set (i := 8) sc_alike.nd rfl (Or.inl rfl) (pe_lst pa_nil))
      (pss_cons (ps_for (passes_of rfl) rfl (pi_list (pv 7)) (pg_name (i := 9) sc_alike.nd rfl (Or.inl rfl)) (pss_one (ps_for (passes_of rfl) rfl (pi_enum (by rfl) T.z_enumerate (pa_cons (pe_call (ok_pairs_behind T) (hr.mono (by decide)) (by rfl) T.g__pairs_behind T.F__pairs_behind.kp T.b__pairs_behind .nil pass0 (pa_cons (pv 4) (pa_cons (pv 5) (pa_cons (pv 9) pa_nil)))) pa_nil)) (pg_tup (by rfl) (pgs_cons (pg_name (i := 10) sc_alike.nd rfl (Or.inl rfl)) (pgs_cons (pg_name (i := 11) sc_alike.nd rfl (Or.inl rfl)) pgs_nil))) (pss_cons (ps_if (pt_val (pe_call (ok_is_unlike T) (hr.mono (by decide)) (by rfl) T.g__is_unlike T.F__is_unlike.kp T.b__is_unlike .nil pass0 (pa_cons (pv 11) pa_nil))) (pss_one (ps_ret (pe_tup (pa_cons pe_str (pa_cons (pe_op op_catA (pe_call (ok_row_along T kO kO_inj) (hr.mono (by decide)) (by rfl) T.g_row_along T.F_row_along.kp T.b_row_along .nil pass0 (pa_cons (pv 6) (pa_cons (pv 9) pa_nil))) (pe_tup (pa_cons (pv 10) pa_nil))) pa_nil))))) pss_nil)
      (pss_one (ps_if (pt_cmpR (My.op_notInN (P := P) (w := w) (K := K) hr.units) (pv 11) (pv 6) (by with_unfolding_all rfl)) (pss_cons (ps_asg (pe_tup (pa_cons (pv 9) (pa_cons (pv 10) pa_nil))) (pg_sub (pv 6) (pv 11) (My.set_dn (P := P) (w := w) (K := K) hr.units)))
      (pss_one (ps_expr (pe_bm PySem.F.plainAttrs_list PySem.F.slot_list_append PySem.F.type_list_append mt_append (pv 8) (pa_cons (pv 11) pa_nil))))) pss_nil))))))
      (pss_one (ps_set (i := 7) sc_alike.nd rfl (Or.inl rfl) (pv 8))))))
      (pss_one (ps_ret (pe_tup (pa_cons pe_str (pa_cons (pe_callTy call_tuple_of (by rfl) T.z_tuple (by decide +kernel) (pa_cons (pe_callB ((My.cr_sortedN (P := P) (w := w) (K := K) (by rfl) hr.units)) (by rfl) T.z_sorted (by decide +kernel) (pa_cons (pv 6) pa_nil)) pa_nil)) pa_nil))))))))))
, ?_⟩
    rcases h with ⟨c, us, C, rfl, hl, O, hc, g, q⟩ | ⟨c, o, x, y, C, G, dx, dy, rfl, O, O', hc, ho, hx, hy, al, q0⟩
    · obtain ⟨o, x, y, rfl⟩ := us3 hl
      exact ⟨c, rfl, o, rfl, x, rfl, y, rfl, .inl ⟨c, _, C, rfl, rfl, O, hc, g, q⟩⟩
    refine ⟨c, rfl, o, rfl, x, rfl, y, rfl, .inr ⟨c, o, x, y, C, G, dx, dy, rfl, O, O', hc, ho, hx, hy, al, fun a b few1 few2 hm ex ey ha hb H1 s1 => ?_⟩⟩
    subst ex ey
    have q := q0 a b few1 few2 hm rfl rfl ha hb
    have hM := O.m2
    have hst : StD C G (a, b) := ⟨ha, hb⟩
    have few := alk_few O O' hst
    have hN := alkN_small O O' few1 few2
    have qq : ∀ z d H', Same H H' → AlkOut C G (a, b) d → Dp K H' z d → Q z H' := q
    unfold AlkOut alkP alkB at q
    generalize hNN : alkN C G = N at few hN q
    refine ⟨c, rfl, c, C, rfl, O, dp_same s1 _ _ hc, (by omega), fun ld H2 s2 hld hled => ?_⟩
    refine ⟨o, rfl, o, G, rfl, O', dp_same (s1.trans s2) _ _ ho, (by omega), fun le H3 s3 hle hled' => ?_⟩
    refine ⟨_, _, rfl, ?_⟩
    have s13 := (s1.trans s2).trans s3
    have hled := hled.same s3
    refine fun D u0 hD0 d0 => ⟨x, rfl, y, rfl, by show 2 ≤ sizeLine; decide, fun t ht => ⟨d0.same (same_new ht), kO (some (a, b)), keyC (c := (a, b)) (.tup upd_tup (.cons (dp_same ((s13.trans (same_new hD0)).trans (same_new ht)) _ _ hx) (.cons (dp_same ((s13.trans (same_new hD0)).trans (same_new ht)) _ _ hy) .nil))), fun u1 d1 => ?_⟩⟩
    have sD : Same H3 (upd (upd (upd H3 D u0) t (.tup [x, y])) D u1) := same_put ((same_new hD0).trans (same_new ht)) hD0
    have hDH := hD0
    generalize upd (upd (upd H3 D u0) t (.tup [x, y])) D u1 = H4 at sD d1
    clear ht d0
    refine ⟨x, rfl, y, rfl, by show 2 ≤ sizeLine; decide, fun t2 ht2 => ?_⟩
    have s5 := same_new (o := .tup [x, y]) ht2
    have kx : KeyAt K (upd H4 t2 (.tup [x, y])) (.ref t2) (kO (some (a, b))) := keyC (c := (a, b)) (.tup upd_tup (.cons (dp_same ((s13.trans sD).trans s5) _ _ hx) (.cons (dp_same ((s13.trans sD).trans s5) _ _ hy) .nil)))
    have d1 := d1.same s5
    have sD := sD.trans s5
    generalize upd H4 t2 (.tup [x, y]) = H5 at sD d1 kx
    refine ⟨by show 1 ≤ sizeLine; decide, fun LY0 hLY0 => ?_⟩
    dsimp only
    have hLYH : H3 LY0 = none := by
      cases e : H3 LY0 with
      | none => rfl
      | some o => have := sD _ _ e; rw [this] at hLY0; cases hLY0
    have sN := same_new (o := .lst [V.ref t2]) hLY0
    have s2' := sD.trans sN
    -- the rounds
    refine ⟨fun μ σ H' => ∃ (LY n : Nat) (y8 y9 y10 y11 : Option V), σ = [some c, some o, some x, some y, some (.ref ld), some (.ref le), some (.ref D), some (.ref LY), y8, y9, y10, y11] ∧ H3 LY = none ∧ Same H3 H' ∧
      (∃ kvs, DN P w K H' D kvs ∧ LDr K H' kO ((lyr (C.aled G) C.moves.length (some (a, b)) n).1 ++ (lyr (C.aled G) C.moves.length (some (a, b)) n).2) kvs ((lyr (C.aled G) C.moves.length (some (a, b)) n).1 ++ (lyr (C.aled G) C.moves.length (some (a, b)) n).2)) ∧
      (∃ lv, H' LY = some (.lst lv) ∧ Paired (fun v (e : Option Cpl × List Nat) => KeyAt K H' v (kO e.1)) lv (lyr (C.aled G) C.moves.length (some (a, b)) n).2) ∧ (∀ e ∈ (lyr (C.aled G) C.moves.length (some (a, b)) n).1 ++ (lyr (C.aled G) C.moves.length (some (a, b)) n).2, e.1.isNone = false) ∧ n ≤ N ∧ μ = N + 1 - n, ⟨_, LY0, 0, none, none, none, none, rfl, hLYH, s2', ⟨_, d1.same sN, .cons ⟨rfl, .inl ⟨rfl, rfl⟩⟩ .nil⟩, ⟨_, upd_same, .cons (kx.ts (ts_same sN)) .nil⟩, fun e he => by rw [List.mem_singleton.mp (show e ∈ [(some (a, b), [])] from he)]; rfl, Nat.zero_le _, rfl⟩, ?_⟩
    clear hLYH s2' sN hLY0 d1 kx sD s5 ht2 hD0 s1 s2 s3
    rintro μ σ H2 ⟨LY, n, y8, y9, y10, y11, rfl, hLY, s2, ⟨kvs, d2, ld2⟩, ⟨lv, hl2, pl2⟩, hno, hnN, rfl⟩
    refine ⟨_, rfl, _, .inl ⟨lv, SqL.of hl2, rfl⟩, ?_⟩
    have hlen : lv.length = (lyr (C.aled G) C.moves.length (some (a, b)) n).2.length := Paired.length pl2
    cases hle : lv.isEmpty with
    | true =>
      refine iteF ?_
      have h0 : (lyr (C.aled G) C.moves.length (some (a, b)) n).2 = [] := by
        rw [List.isEmpty_iff.mp hle] at hlen
        exact List.length_eq_zero_iff.mp hlen.symm
      have hB := allB_of (led := C.aled G) (m := C.moves.length) (some (a, b)) h0 hnN
      have gd := Gd.lyr (led := C.aled G) (m := C.moves.length) (some (a, b)) n
      rw [h0, List.append_nil] at ld2 gd hno
      have hp := pick_none (p := Option.isNone) hno
      have hk : kvs.map (·.1) = ((lyr (C.aled G) C.moves.length (some (a, b)) n).1.filterMap (·.1)).map kC := by
        have e1 := ld_keys ld2
        rw [e1, ← fm_map hno, List.map_map]
        rfl
      have nd := gd.nd
      have nd2 := alkP_nd (C := C) (D := G) (c := (a, b)) (by unfold alkB; rw [hNN, hB]; exact gd)
      unfold alkP alkB at nd2
      rw [hNN, hB] at nd2
      refine ⟨.ref D, rfl, D, kvs, rfl, d2.rd, ?_, fun bs S hbs hkb hS => ?_⟩
      · have : kvs.map (fun x => x.1.data) = ((lyr (C.aled G) C.moves.length (some (a, b)) n).1.filterMap (·.1)).map cplI := by
          have := congrArg (List.map NestedKey.data) hk
          rw [List.map_map, List.map_map] at this
          refine this.trans (List.map_congr_left fun c _ => kC_data c)
        rw [this]
        exact sortOk_cpls _
      · have dT := sorted_cpls (hbs.trans hk) hkb
        generalize (bs.mergeSort (PySem.W.dataLe false fun b => b.2.data)).map (·.1) = xs at dT
        have zS := same_new (o := .lst xs) hS
        dsimp only [tNil]
        refine ⟨S, _, rfl, .inl ⟨SqL.of upd_same, fun A1 hA1 => ?_⟩⟩
        have z1 := same_new (o := .tup xs) hA1
        refine ⟨by show 2 ≤ sizeLine; decide, fun A2 hA2 => ?_⟩
        have z2 := same_new (o := .tup [.str (Str.ofString "alike"), .ref A1]) hA2
        refine q _ _ _ ((((s13.trans s2).trans zS).trans z1).trans z2) ?_ (.tup upd_tup (.cons (.str _) (.cons (dp_same z2 (.tuple _) _ (.tup upd_tup (dpAll_same (zS.trans z1) _ _ dT))) .nil)))
        rw [hB, hp]
        exact ⟨_, srtC nd2, rfl⟩
    | false =>
      refine iteT ?_
      have hne : (lyr (C.aled G) C.moves.length (some (a, b)) n).2 ≠ [] := fun z => by
        rw [z] at hlen
        rw [List.length_eq_zero_iff.mp hlen] at hle
        cases hle
      have gd := Gd.lyr (led := C.aled G) (m := C.moves.length) (some (a, b)) n
      have hmany := lyr_many (some (a, b)) n hne
      have hmany2 := few _ gd
      have rl : ∀ e ∈ (lyr (C.aled G) C.moves.length (some (a, b)) n).1 ++ (lyr (C.aled G) C.moves.length (some (a, b)) n).2, e.2.length ≤ n := lyr_lenB (some (a, b)) n
      have hmid := fun (i j : Nat) (e : Option Cpl × List Nat) (he : (lyr (C.aled G) C.moves.length (some (a, b)) n).2[i]? = some e) (hj : j ≤ C.moves.length) => allB_mid few hne he hj
      have hSn := lyr_S (led := C.aled G) (m := C.moves.length) (some (a, b)) n
      generalize hb' : (lyr (C.aled G) C.moves.length (some (a, b)) n).1 = B at hno gd hmany hmany2 ld2 rl hmid hSn
      generalize hL : (lyr (C.aled G) C.moves.length (some (a, b)) n).2 = L at hno gd hmany hmany2 ld2 rl hmid hSn hne hlen pl2
      refine ⟨fun σ' H' => ∃ m', m' < N + 1 - n ∧ _, fun σ' H' h => h, ?_⟩
      refine ⟨by show 0 ≤ sizeLine; decide, fun FR hFR => ?_⟩
      have hFRH : H3 FR = none := by
        cases e : H3 FR with
        | none => rfl
        | some o => have := s2 _ _ e; rw [this] at hFR; cases hFR
      have sN := same_new (o := .lst []) hFR
      have wi : WJ P w K H3 (upd H2 FR (.lst [])) D LY FR (B ++ L) [] L := by
        refine ⟨s2.trans sN, ⟨kvs, d2.same sN, ?_⟩, ⟨lv, sN _ _ hl2, Paired.mapP pl2 fun _ _ z => z.ts (ts_same sN)⟩, ⟨[], upd_same, .nil⟩, ne_of_none hl2 hFR⟩
        rw [List.append_nil]
        exact ld2.mono (ts_same sN) fun _ h => h
      refine ⟨_, rfl, LY, rfl, ⟨lv, SqL.of (sN _ _ hl2)⟩, ?_⟩
      refine for_list (K := K) (a := LY) (xs := lv) (fun i σ H' => ∃ (z9 z10 z11 : Option V), σ = [some c, some o, some x, some y, some (.ref ld), some (.ref le), some (.ref D), some (.ref LY), some (.ref FR), z9, z10, z11] ∧
        WJ P w K H3 H' D LY FR (B ++ L) (nxI (C.aled G) C.moves.length (B ++ L) L i) L ∧ H' LY = some (.lst lv) ∧ ∀ e ∈ nxI (C.aled G) C.moves.length (B ++ L) L i, e.1.isNone = false) ⟨y9, y10, y11, rfl, wi, sN _ _ hl2, nofun⟩ ?_ ?_ ?_
      · rintro i σ H' _ ⟨_, _, _, _, _, h, _⟩
        exact SqL.of h
      · rintro i v σ H4 hi ⟨z9, z10, z11, rfl, wi3, hl3, hno3⟩
        have hil := (List.getElem?_eq_some_iff.mp hi).1
        obtain ⟨lv', hl3', pl3⟩ := wi3.ly
        obtain rfl : lv = lv' := by rw [hl3] at hl3'; cases hl3'; rfl
        obtain ⟨e, he, hve⟩ := paired_at pl3 hi
        have heL : e ∈ L := List.mem_of_getElem? he
        have heB : e ∈ B ++ L := List.mem_append_right _ heL
        obtain ⟨⟨e1, er⟩, rfl⟩ : ∃ e0 : Option Cpl × List Nat, e0 = e := ⟨e, rfl⟩
        cases e1 with
        | none => have := hno _ heB; cases this
        | some ec =>
        have hstE : StD C G ec := run_StD O O' hst (gd.run _ heB).1
        have gdi := gd.nxI (L := L) (fun e he => List.mem_append_right _ he) i (by omega)
        refine ⟨_, rfl, _, rfl, _, rfl, ld, le, v, C, G, ec, rfl, O, O', hm, hled.same wi3.s, hled'.same wi3.s, keyC_out hve, hstE, fun FL fxs H5 s4 hFL3 hFL hfol => ?_⟩
        have wi4 := wi3.same s4
        have hve4 := hve.ts (ts_same s4)
        obtain ⟨kvs4, d4, _⟩ := wi4.dn
        obtain ⟨φ4, hφ4⟩ := d4.there
        have nFD : FL ≠ D := fun z => by rw [z, hφ4] at hFL; cases hFL
        have nFR : FL ≠ FR := fun z => by
          obtain ⟨fv, f1, _⟩ := wi3.fr
          rw [z, f1] at hFL3
          cases hFL3
        refine ⟨FL, fxs, rfl, SqL.of hFL, ?_⟩
        refine for_it (walk_enum (K := K) (a := FL) (xs := fxs)) (fun j σ H' => ∃ (z10 z11 : Option V), σ = [some c, some o, some x, some y, some (.ref ld), some (.ref le), some (.ref D), some (.ref LY), some (.ref FR), some v, z10, z11] ∧
            WJ P w K H3 H' D LY FR (B ++ L) (stN (C.aled G) (B ++ L) (nxI (C.aled G) C.moves.length (B ++ L) L i) (some ec, er) j) L ∧ H' LY = some (.lst lv) ∧ KeyAt K H' v (kO (some ec)) ∧ H' FL = some (.lst fxs) ∧ PolAt K H' C G ec fxs ∧
            ∀ e ∈ stN (C.aled G) (B ++ L) (nxI (C.aled G) C.moves.length (B ++ L) L i) (some ec, er) j, e.1.isNone = false) ⟨z10, z11, rfl, wi4, s4 _ _ hl3, hve4, hFL, hfol, hno3⟩ ?_ ?_ ?_
        · rintro j σ H' _ ⟨_, _, _, _, _, _, h, _⟩
          exact SqL.of h
        · rintro j xv σ H6 H7 hj ⟨z10, z11, rfl, wi5, hl5, hv5, hFL5, hfol5, hno5⟩ ⟨T0, w1, w2, rfl, hT0, rfl, hw1, hw2⟩
          cases hw1
          have hjm : j < C.moves.length := by rw [← hfol.len]; exact hj
          have s6 := same_new (o := .tup [.int (j : Nat), w2]) hT0
          have wi6 := wi5.same s6
          have hl6 := s6 _ _ hl5
          have hv6 := hv5.ts (ts_same s6)
          have hFL6 := s6 _ _ hFL5
          have hfol6 := hfol5.ts (ts_same s6)
          have ht0 : SqT K (upd H6 T0 (.tup [.int (j : Nat), w2])) T0 [.int (j : Nat), w2] := upd_tup
          generalize upd H6 T0 (.tup [.int (j : Nat), w2]) = H7 at s6 wi6 hl6 hv6 hFL6 hfol6 ht0
          have gdj := gdi.stN (e := (some ec, er)) heB j (by omega)
          refine ⟨T0, _, rfl, ht0, rfl, _, _, rfl, _, _, rfl, rfl, ?_⟩
          have hw := hfol6.at_ j w2 hw2
          have cno : ∀ y ∈ (B ++ L) ++ stN (C.aled G) (B ++ L) (nxI (C.aled G) C.moves.length (B ++ L) L i) (some ec, er) j, y.1.isNone = false := fun y hy => by
            rcases List.mem_append.mp hy with h | h
            · exact hno y h
            · exact hno5 y h
          refine ⟨w2, rfl, w2, _, rfl, hw, fun H8 s8 => ?_⟩
          have wi6 := wi6.same s8
          have hl6 := s8 _ _ hl6
          have hv6 := hv6.ts (ts_same s8)
          have hFL6 := s8 _ _ hFL6
          have hfol6 := hfol6.ts (ts_same s8)
          have hw := dp_same s8 (cplI _) _ hw
          obtain ⟨kvs6, d6, ld6⟩ := wi6.dn
          by_cases hu : (C.led ec.1 j).1 = (G.led ec.2 j).1
          · have hf : C.aled G (some ec) j = some (C.led ec.1 j, G.led ec.2 j) := if_pos hu
            refine ⟨_, rfl, ?_⟩
            dsimp only
            rw [decide_eq_true hu]
            refine iteF ?_
            have ha6 : KeyAt K H8 w2 (kO (C.aled G (some ec) j)) := by rw [hf]; exact keyC hw
            obtain ⟨wa, rfl⟩ := ha6.rf
            refine ⟨_, rfl, _, rfl, D, kvs6, kO (C.aled G (some ec) j), rfl, d6.rd, ha6, _, rfl, ?_⟩
            by_cases hmem : C.aled G (some ec) j ∈ ((B ++ L) ++ stN (C.aled G) (B ++ L) (nxI (C.aled G) C.moves.length (B ++ L) L i) (some ec, er) j).map (·.1)
            · obtain ⟨e2, he2, ee⟩ := List.mem_map.mp hmem
              obtain ⟨v2, hv2, _⟩ := ld_get kO_inj ld6 gdj.nd he2
              rw [ee] at hv2
              rw [hv2]
              refine iteF ?_
              refine ⟨_, _, rfl, ?_, hl6, hv6, hFL6, hfol6, ?_⟩
              · rw [stN_succ, stC_yes hmem]
                exact wi6
              · rw [stN_succ, stC_yes hmem]
                exact hno5
            · rw [ld_none kO_inj ld6 hmem]
              refine iteT ?_
              refine ⟨_, rfl, _, rfl, by show 2 ≤ sizeLine; decide, fun t ht => ?_⟩
              have sT := same_new (o := .tup [v, .int (j : Nat)]) ht
              have wi7 := wi6.same sT
              have hl7 := sT _ _ hl6
              have hv7 := hv6.ts (ts_same sT)
              have ha7 := ha6.ts (ts_same sT)
              have hFL7 := sT _ _ hFL6
              have hfol7 := hfol6.ts (ts_same sT)
              have ht7 : SqT K (upd H8 t (.tup [v, .int (j : Nat)])) t [v, .int (j : Nat)] := upd_tup
              generalize upd H8 t (.tup [v, .int (j : Nat)]) = H9 at wi7 hl7 hv7 ha7 ht7 hFL7 hfol7
              obtain ⟨kvs7, d7, ld7⟩ := wi7.dn
              have hk7 : kvs7.length ≤ N := by
                rw [Paired.length ld7]
                exact few _ gdj
              refine ⟨_, rfl, _, rfl, D, kvs7, kO (C.aled G (some ec) j), rfl, d7, ha7, Nat.lt_of_le_of_lt hk7 (Nat.lt_of_le_of_lt hN (by decide)), fun u d8 => ?_⟩
              obtain ⟨fv, f1, f2⟩ := wi7.fr
              obtain ⟨φ, hφ⟩ := d7.there
              have nF : FR ≠ D := fun z => by rw [z, hφ] at f1; cases f1
              have f1' : upd H9 D u FR = some (.lst fv) := (upd_ne nF).trans f1
              have hfl : fv.length ≤ N := by
                rw [Paired.length f2]
                have := few _ gdj
                rw [List.length_append] at this
                omega
              refine ⟨_, rfl, .inl ⟨rfl, _, SqL.of f1'⟩, _, rfl, FR, fv, _, rfl, rfl, f1', Nat.lt_of_le_of_lt hfl (Nat.lt_of_le_of_lt hN (by decide)), ?_⟩
              have wi8 := wi7.push hDH hFRH d7 ld7 f1 f2 heB hmem ha7 hv7 ht7 d8
              have t9 := d7.ts_at.trans (ts_upd (K := K) (o' := .lst (fv ++ [V.ref wa])) f1' True.intro)
              refine ⟨_, _, rfl, ?_, ?_, hv7.ts t9, ?_, hfol7.ts t9, ?_⟩
              · rw [stN_succ, stC_no hmem]
                exact wi8
              · exact (upd_ne wi7.n2).trans ((upd_ne fun z => by rw [z, hφ] at hl7; cases hl7).trans hl7)
              · exact (upd_ne nFR).trans ((upd_ne nFD).trans hFL7)
              · rw [stN_succ, stC_no hmem]
                intro y hy
                rcases List.mem_append.mp hy with h | h
                · exact hno5 y h
                · rw [List.mem_singleton.mp h, hf]; rfl
          · have hf : C.aled G (some ec) j = none := if_neg hu
            refine ⟨_, rfl, ?_⟩
            dsimp only
            rw [decide_eq_false hu]
            refine iteT ?_
            have hmem : C.aled G (some ec) j ∉ ((B ++ L) ++ stN (C.aled G) (B ++ L) (nxI (C.aled G) C.moves.length (B ++ L) L i) (some ec, er) j).map (·.1) := fun h => by
              obtain ⟨y, hy, hy2⟩ := List.mem_map.mp h
              have := cno y hy
              rw [hy2, hf] at this
              cases this
            refine ⟨_, rfl, _, rfl, D, v, kvs6, _, (some ec, er), rfl, d6.rd, ld6, gdj.nd, List.mem_append_left _ heB, hv6, Nat.le_trans (rl _ heB) (by omega), fun t H9 s9 ht9 => ?_⟩
            refine ⟨_, rfl, by show 1 ≤ sizeLine; decide, fun t1 ht1 => ?_⟩
            have s10 := same_new (o := .tup [V.int (j : Nat)]) ht1
            have hrow1 : Dp K (upd H9 t1 (.tup [V.int (j : Nat)])) (.ref t1) (rowI [j]) := .tup upd_tup (.cons (.int _) .nil)
            refine catA_row (dp_same s10 _ _ ht9) hrow1 ?_ fun a9 H10 s11 h11 => ?_
            · have := rl _ heB
              show er.length + 1 ≤ 2000000
              have : er.length ≤ n := this
              omega
            refine ⟨by show 2 ≤ sizeLine; decide, fun A2 hA2 => ?_⟩
            have z2 := same_new (o := .tup [.str (Str.ofString "apart"), .ref a9]) hA2
            refine q _ _ _ (((((s13.trans wi6.s).trans s9).trans s10).trans s11).trans z2) ?_ (.tup upd_tup (.cons (.str _) (.cons (dp_same z2 _ _ (dp_row h11)) .nil)))
            obtain ⟨R, hR⟩ := hmid i (j + 1) _ he (by omega)
            rw [stN_succ, stC_no hmem, hf] at hR
            rw [hR, show ∀ (X Y R : List (Option Cpl × List Nat)) (e : Option Cpl × List Nat), X ++ (Y ++ [e]) ++ R = (X ++ Y) ++ e :: R from fun X Y R e => by simp, pick_at cno rfl]
            rfl
        · rintro σ H4' ⟨z10, z11, rfl, wi4', hl4, _, _, _, hno4⟩
          rw [hfol.len] at wi4' hno4
          refine ⟨_, _, _, rfl, ?_, hl4, ?_⟩
          · rw [nxI_succ he]
            exact wi4'
          · rw [nxI_succ he]
            exact hno4
      · rintro σ H4 ⟨z9, z10, z11, rfl, wi3, hl3, hno3⟩
        rw [hlen] at wi3 hno3
        rw [nxI_all] at wi3 hno3
        refine ⟨_, rfl, N + 1 - (n + 1), by omega, FR, n + 1, _, _, _, _, rfl, hFRH, wi3.s, ?_, ?_, ?_, by omega, rfl⟩
        · rw [hSn]
          exact wi3.dn
        · rw [hSn]
          exact wi3.fr
        · rw [hSn]
          intro y hy
          rcases List.mem_append.mp hy with h | h
          · exact hno y h
          · exact hno3 y h
/-- what is asked of a paper that is handed in: no great tuple, no odd word -/
structure PapOk (d : PyData) : Prop where
  lay : ∀ s r, d = .tuple (.str s :: r) → (PyData.str s).canLay0 = true
  len : ∀ a ds r, d = .tuple (a :: .tuple ds :: r) → ds.length ≤ 70000
def ResQ (BP : Addr) (H : Hp) (Q : VK) (E : XK) : Res → Prop
  | .yes b => ∀ H', Same H H' → Q (.bl b) H'
  | .bad s n => TwoE BP "part" "number" H E (.str s) (nV n)
def sp_check_alike (K : PySem.W.Frag) (TG OP BP : Addr) : Sp := fun vs H Q E => spGreat K TG 4 vs H Q E ∨ ∃ (c o x y p : V) (C G : Cod) (dx dy d : PyData), vs = [c, o, x, y, p] ∧ C.Ok ∧ G.Ok ∧ Dp K H c C.dat ∧ Dp K H o G.dat ∧ Dp K H x dx ∧ Dp K H y dy ∧ Dp K H p d ∧ PapOk d ∧ AllQ C G H E TG OP dx dy ∧
  (∀ a b, C.cnt ≤ 256 → G.cnt ≤ 256 → C.moves.length = G.moves.length → dx = pairI a → dy = pairI b → C.St a → G.St b → ResQ BP H Q E (resA C G (a, b) d))
def formsL : List PyData := [.tuple [.str (Str.ofString "alike"), .int 2], .tuple [.str (Str.ofString "apart"), .int 2]]
theorem any_form (s : Str) (n : Int) : (formsL.any fun z => PyData.eqv z (.tuple [.str s, .int n])) = ((decide (s = Str.ofString "alike") || decide (s = Str.ofString "apart")) && decide (n = 2)) := by
  show (((Str.ofString "alike" == s) && (((2 : Int) == n) && true)) || (((Str.ofString "apart" == s) && (((2 : Int) == n) && true)) || false)) = _
  have e : ∀ {α : Type} [DecidableEq α] [BEq α] [LawfulBEq α] (a b : α), (a == b) = decide (b = a) := fun a b => by
    by_cases h : a = b
    · rw [h]; simp
    · rw [beq_eq_false_iff_ne.mpr h, decide_eq_false (fun z => h z.symm)]
  rw [e, e, e]
  cases decide (s = Str.ofString "alike") <;> cases decide (s = Str.ofString "apart") <;> cases decide (n = 2) <;> rfl
theorem formA_out {d : PyData} (h : formD formsL d = true) : ∃ x, d = .tuple [.str (Str.ofString "alike"), x] ∨ d = .tuple [.str (Str.ofString "apart"), x] := by
  unfold formD at h
  split at h
  · rename_i s r
    rw [any_form] at h
    obtain ⟨h1, h2⟩ := Bool.and_eq_true_iff.mp h
    have h2 := of_decide_eq_true h2
    match r, h2 with
    | [x], _ =>
      rcases Bool.or_eq_true_iff.mp h1 with h1 | h1
      · exact ⟨x, .inl (by rw [of_decide_eq_true h1])⟩
      · exact ⟨x, .inr (by rw [of_decide_eq_true h1])⟩
    | [], h2 => exact absurd h2 (by decide)
    | _ :: _ :: _, h2 =>
      rw [List.length_cons, List.length_cons] at h2
      omega
  · cases h
theorem formA_no {d : PyData} (h : formD formsL d = false) (C D : Cod) (c : Cpl) : resA C D c d = .bad (Str.ofString "form") none := by
  unfold resA
  split
  · rename_i s x
    have h : (formsL.any fun z => PyData.eqv z (.tuple [.str s, .int 2])) = false := h
    rw [any_form, decide_eq_true rfl, Bool.and_true] at h
    obtain ⟨h1, h2⟩ := Bool.or_eq_false_iff.mp h
    rw [if_neg (of_decide_eq_false h1), if_neg (of_decide_eq_false h2)]
  · rfl
theorem ok_check_alike (T : Txt K mg) : FnOk P w K mg base (L2.CX P w) 11 T.f_check_alike T.d_check_alike ["coder", "other", "one", "two", "paper"] (sp_check_alike K T.C_TooGreat T.C_OutOfPlace T.C_BadPaper) := by
  refine T.F_check_alike.okX sc_check_alike (fun vs H Q E h => ?_) (fun cdv A outer s H vs Q E hr h => ?_)
  · rcases h with ⟨c, us, C, rfl, hl, _⟩ | ⟨c, o, x, y, p, C, G, dx, dy, d, rfl, _⟩
    · rw [List.length_cons, hl]; rfl
    · rfl
  · refine ⟨_,
(pss_cons (ps_expr (pe_call (ok_need_all T) (hr.mono (by decide)) (by rfl) T.g__need_all T.F__need_all.kp T.b__need_all .nil (passes_call (takes_of rfl rfl rfl rfl) (fun _ _ _ _ h => h)) (pa_cons (pv 0) (pa_cons (pv 1) (pa_cons (pv 2) (pa_cons (pv 3) pa_nil))))))
      (pss_cons (ps_expr (pe_call (ok_need_form T) (hr.mono (by decide)) (by rfl) T.g_need_form T.F_need_form.kp T.b_need_form .nil (passes_call (takes_of rfl rfl rfl rfl) (fun _ _ _ _ h => h)) (pa_cons (pv 4) (pa_cons (pe_glob (v := .ref T.q_FORMS) (by rfl) T.g_FORMS rfl) pa_nil))))
      (pss_cons (ps_if (pt_cmpR op_eq (pe_ix ix_tup (pv 4) pe_int (fun _ _ => rfl)) pe_str (nomark _)) (pss_cons (ps_expr (pe_call (ok_check_couples T) (hr.mono (by decide)) (by rfl) T.g__check_couples T.F__check_couples.kp T.b__check_couples .nil (passes_call (takes_of rfl rfl rfl rfl) (fun _ _ _ _ h => h)) (pa_cons (pv 0) (pa_cons (pv 1) (pa_cons (pe_tup (pa_cons (pv 2) (pa_cons (pv 3) pa_nil))) (pa_cons (pe_ix ix_tup (pv 4) pe_int (fun _ _ => rfl)) pa_nil))))))
      (pss_one (ps_ret pe_bl))) pss_nil)
      (pss_cons (ps_expr (pe_call (ok_check_row T) (hr.mono (by decide)) (by rfl) T.g__check_row T.F__check_row.kp T.b__check_row .nil (passes_call (takes_of rfl rfl rfl rfl) (fun _ _ _ _ h => h)) (pa_cons (pv 0) (pa_cons (pv 1) (pa_cons (pe_tup (pa_cons (pv 2) (pa_cons (pv 3) pa_nil))) (pa_cons (pe_ix ix_tup (pv 4) pe_int (fun _ _ => rfl)) pa_nil))))))
      (pss_one (ps_ret pe_bl))))))
, ?_⟩
    rcases h with ⟨c, us, C, rfl, hl, O, hc, g, q⟩ | ⟨c, o, x, y, p, C, G, dx, dy, d, rfl, O, O', hc, ho, hx, hy, hp, po, al, q0⟩
    · obtain ⟨o, x, y, p, rfl⟩ := us4 hl
      exact ⟨c, rfl, o, rfl, x, rfl, y, rfl, .inl ⟨c, _, C, rfl, rfl, O, hc, g, q⟩⟩
    refine ⟨c, rfl, o, rfl, x, rfl, y, rfl, .inr ⟨c, o, x, y, C, G, dx, dy, rfl, O, O', hc, ho, hx, hy, al, fun a b few1 few2 hm ex ey ha hb H1 s1 => ?_⟩⟩
    subst ex ey
    have q := q0 a b few1 few2 hm rfl rfl ha hb
    refine ⟨_, rfl, p, .ref T.q_FORMS, d, _, rfl, dp_same s1 _ _ hp, T.qs_FORMS H1, by decide +kernel, po.lay, fun hf H2 s2 => ?_, fun hf => ?_⟩
    · have s12 := s1.trans s2
      have hp2 := dp_same s12 _ _ hp
      have hx2 := dp_same s12 (pairI a) _ hx
      have hy2 := dp_same s12 (pairI b) _ hy
      obtain ⟨xd, e | e⟩ := formA_out hf
      · subst e
        obtain ⟨pa, pxs, rfl, hpa, hpd⟩ := dp_tup hp2
        obtain ⟨v0, v1, rfl, g0, g1⟩ := dpAll_two hpd
        cases g0
        refine ⟨_, rfl, pa, _, 0, _, rfl, rfl, hpa, atI_nat (j := 0) rfl, rfl, _, rfl, ifYes (decide_eq_true rfl) ?_⟩
        refine ⟨c, rfl, o, rfl, x, rfl, y, rfl, by show 2 ≤ sizeLine; decide, fun t ht => ?_⟩
        have s3 := same_new (o := .tup [x, y]) ht
        have s13 := s12.trans s3
        have er : resA C G (a, b) (.tuple [.str (Str.ofString "alike"), xd]) = match cplsR C G (a, b) xd with
          | none => .yes true
          | some n => .bad (Str.ofString "couples") n := by
          unfold resA
          dsimp only
          rw [if_pos rfl]
          try rfl
        refine ⟨_, rfl, pa, _, 1, v1, rfl, rfl, same_tup s3 hpa, atI_nat (j := 1) rfl, c, o, .ref t, v1, C, G, (a, b), xd, rfl, O, O', few1, few2, hm, dp_same s13 _ _ hc, dp_same s13 _ _ ho, .tup upd_tup (.cons (dp_same s3 _ _ hx2) (.cons (dp_same s3 _ _ hy2) .nil)), ⟨ha, hb⟩, dp_same s3 _ _ g1, fun ds e => po.len _ ds [] (by rw [e]), fun h H4 s4 => ?_, fun n h => ?_⟩
        · rw [er, h] at q
          exact q _ (s13.trans s4)
        · rw [er, h] at q
          exact TwoE.same s13 q
      · subst e
        obtain ⟨pa, pxs, rfl, hpa, hpd⟩ := dp_tup hp2
        obtain ⟨v0, v1, rfl, g0, g1⟩ := dpAll_two hpd
        cases g0
        refine ⟨_, rfl, pa, _, 0, _, rfl, rfl, hpa, atI_nat (j := 0) rfl, rfl, _, rfl, ifNo (by decide +kernel) ?_⟩
        refine ⟨c, rfl, o, rfl, x, rfl, y, rfl, by show 2 ≤ sizeLine; decide, fun t ht => ?_⟩
        have s3 := same_new (o := .tup [x, y]) ht
        have s13 := s12.trans s3
        have er : resA C G (a, b) (.tuple [.str (Str.ofString "apart"), xd]) = if rowR C G (a, b) xd = true then .yes false else .bad (Str.ofString "row") none := by
          unfold resA
          dsimp only
          rw [if_neg (show ¬Str.ofString "apart" = Str.ofString "alike" by decide +kernel), if_pos rfl]
          try rfl
        refine ⟨_, rfl, pa, _, 1, v1, rfl, rfl, same_tup s3 hpa, atI_nat (j := 1) rfl, c, o, .ref t, v1, C, G, (a, b), xd, rfl, O, O', hm, dp_same s13 _ _ hc, dp_same s13 _ _ ho, .tup upd_tup (.cons (dp_same s3 _ _ hx2) (.cons (dp_same s3 _ _ hy2) .nil)), ⟨ha, hb⟩, dp_same s3 _ _ g1, fun ds e => po.len _ ds [] (by rw [e]), fun h H4 s4 => ?_, fun h => ?_⟩
        · rw [er, if_pos h] at q
          exact q _ (s13.trans s4)
        · rw [er, if_neg (by rw [h]; exact Bool.false_ne_true)] at q
          exact TwoE.same s13 q
    · have q' := q
      rw [formA_no hf] at q'
      exact TwoE.same s1 q'
end
end My

set_option pp.maxSteps 400
set_option pp.deepTerms false
/-! papers of two coders: the law's own judge -/
namespace My
open PySem PySem.Spec PyProof.Rows L2
theorem pz_cp (c : Cpl) : PZ 3 (cplI c) := (PZ.two (pz_pairI c.1) (pz_pairI c.2)).up (by decide)
theorem cp_inj (a b : Cpl) (h : cplI a = cplI b) : a = b := congrArg cplOf h
theorem any_yes {L : List Cpl} {c : Cpl} (h : c ∈ L) : ((L.map cplI).any fun z => PyData.eqv z (cplI c)) = true := by
  rw [PZ.any cp_inj pz_cp]
  simp [h]
theorem any_no {L : List Cpl} {c : Cpl} (h : c ∉ L) : ((L.map cplI).any fun z => PyData.eqv z (cplI c)) = false := by
  rw [PZ.any cp_inj pz_cp]
  simp [h]
def resL : Option (Option Int) → List V
  | none => []
  | some n => [nV n]
section
variable {P : Program} {w : World} {K : PySem.W.Frag} {mg : Str → Option Value} {base : Heap}
theorem ok_law_is_pair (T : Txt K mg) : FnOk P w K mg base CX0 6 T.f__law_is_pair T.d__law_is_pair ["coder", "other", "thing"] (sp_is_pair_of_states K) := by
  refine T.F__law_is_pair.ok sc_law_is_pair (fun vs H Q E h => ?_) (fun cdv A outer s H vs Q E hr h => ?_)
  · obtain ⟨c, o, x, C, D, d, rfl, _⟩ := h
    rfl
  · obtain ⟨c, o, x, C, D, d, rfl, hc, ho, hd, q⟩ := h
    have q' : ∀ b H', Same H H' → prD C D d = b → Q (.bl b) H' := fun b H' s e => e ▸ q H' s
    refine ⟨_,
(pss_cons (ps_if (PW.pt (pw_or (pt_not (pt_val (pe_callB (call_isi) (by rfl) T.z_isinstance (by decide +kernel) (pa_cons (pv 2) (pa_cons (pe_bltn (v := .ty "tuple") (by rfl) T.z_tuple (by decide +kernel) rfl) pa_nil))))) (pw_or1 (pt_cmpR op_ne (pe_callB (call_len_seq) (by rfl) T.z_len (by decide +kernel) (pa_cons (pv 2) pa_nil)) pe_int (nomark _))))) (pss_one (ps_ret pe_bl)) pss_nil)
      (pss_one (ps_ret (pe_and (pe_call (ok_law_is_state T) (hr.mono (by decide)) (by rfl) T.g__law_is_state T.F__law_is_state.kp T.b__law_is_state .nil pass0 (pa_cons (pv 0) (pa_cons (pe_ix ix_tup (pv 2) pe_int (fun _ _ => rfl)) pa_nil))) (pe_one (pe_call (ok_law_is_state T) (hr.mono (by decide)) (by rfl) T.g__law_is_state T.F__law_is_state.kp T.b__law_is_state .nil pass0 (pa_cons (pv 1) (pa_cons (pe_ix ix_tup (pv 2) pe_int (fun _ _ => rfl)) pa_nil))))))))
, ?_⟩
    refine ⟨x, rfl, x, .ty "tuple", _, _, _, rfl, .ty _, tyx hd, kitT d, _, rfl, ?_⟩
    cases hd with
    | tup h1 h2 =>
      refine iteF ?_
      have hl := dpAll_len h2
      refine ⟨_, rfl, _, _, rfl, .inr h1, rfl, _, rfl, ?_⟩
      rename_i t xs ds
      by_cases h2' : ds.length = 2
      · refine ifNo (by rw [hl, h2']; rfl) ?_
        match ds, h2' with
        | [da, db], _ =>
        obtain ⟨x1, x2, rfl, g1, g2⟩ := dpAll_two h2
        refine ⟨_, rfl, _, rfl, t, _, 0, x1, rfl, rfl, h1, atI_nat (j := 0) rfl, c, x1, C, da, rfl, hc, g1, fun H2 s2 => ⟨_, rfl, ?_⟩⟩
        cases hb : stateD C da with
        | false => exact iteF (q' _ _ s2 (by show (stateD C da && stateD D db) = false; rw [hb]; rfl))
        | true =>
          refine iteT ?_
          refine ⟨_, rfl, _, rfl, t, _, 1, x2, rfl, rfl, same_tup s2 h1, atI_nat (j := 1) rfl, o, x2, D, db, rfl, dp_same s2 _ _ ho, dp_same s2 _ _ g2, fun H3 s3 => ?_⟩
          exact q' _ _ (s2.trans s3) (by show (stateD C da && stateD D db) = _; rw [hb]; rfl)
      · refine ifYes (by rw [hl]; simp [h2']; omega) ?_
        refine q' _ _ (Same.refl H) ?_
        unfold prD
        split
        · rename_i e
          injection e with e
          rw [e] at h2'
          exact absurd rfl h2'
        · rfl
    | non => exact iteT (q H (Same.refl H))
    | int n => exact iteT (q H (Same.refl H))
    | bl b => exact iteT (q H (Same.refl H))
    | str z => exact iteT (q H (Same.refl H))
    | lst _ _ => exact iteT (q H (Same.refl H))
def sp_law_pairs_fault (K : PySem.W.Frag) : Sp := fun vs H Q _ => ∃ (c o p x : V) (C D : Cod) (cc : Cpl) (d : PyData), vs = [c, o, p, x] ∧ C.Ok ∧ D.Ok ∧ C.moves.length = D.moves.length ∧ Dp K H c C.dat ∧ Dp K H o D.dat ∧ Dp K H p (cplI cc) ∧ StD C D cc ∧ Dp K H x d ∧ (∀ ds, d = .tuple ds → ds.length ≤ 70000) ∧
  ∀ a H', Same H H' → H' a = some (.lst (resL (cplsR C D cc d))) → Q (.ref a) H'
set_option maxHeartbeats 4000000 in
theorem ok_law_pairs_fault (T : Txt K mg) : FnOk P w K mg base CX0 7 T.f__law_pairs_fault T.d__law_pairs_fault ["coder", "other", "pair", "couples"] (sp_law_pairs_fault K) := by
  refine T.F__law_pairs_fault.ok sc_law_pairs_fault (fun vs H Q E h => ?_) (fun cdv A outer s H vs Q E hr h => ?_)
  · obtain ⟨c, o, p, x, C, D, cc, d, rfl, _⟩ := h
    rfl
  · obtain ⟨c, o, p, x, C, D, cc, d, rfl, O, O', hm, hc, ho, hp, hst, hx, hlen, q⟩ := h
    refine ⟨_,
(pss_cons (ps_if (pt_not (pt_val (pe_callB (call_isi) (by rfl) T.z_isinstance (by decide +kernel) (pa_cons (pv 3) (pa_cons (pe_bltn (v := .ty "tuple") (by rfl) T.z_tuple (by decide +kernel) rfl) pa_nil))))) (pss_one (ps_ret (pe_lst (pa_cons pe_non pa_nil)))) pss_nil)
      (pss_cons (ps_for PassesOwn.never rfl (My.pi_enumT (by rfl) T.z_enumerate (pa_cons (pv 3) pa_nil)) (pg_tup (by rfl) (pgs_cons (pg_name (i := 4) sc_law_pairs_fault.nd rfl (Or.inl rfl)) (pgs_cons (pg_name (i := 5) sc_law_pairs_fault.nd rfl (Or.inl rfl)) pgs_nil))) (pss_one (ps_if (PW.pt (pw_or (pt_not (pt_val (pe_call (ok_law_is_pair T) (hr.mono (by decide)) (by rfl) T.g__law_is_pair T.F__law_is_pair.kp T.b__law_is_pair .nil pass0 (pa_cons (pv 0) (pa_cons (pv 1) (pa_cons (pv 5) pa_nil)))))) (pw_or1 (PW.pt (pw_and (pt_cmpR op_gt (pv 4) pe_int (nomark _)) (pw_and1 (pt_not (pt_cmpR (My.op_ltD (K := K) hr.units) (pe_ix ix_tup (pv 3) (pe_op op_sub (pv 4) pe_int) (fun _ _ => rfl)) (pv 5) (nomark _))))))))) (pss_one (ps_ret (pe_lst (pa_cons (pv 4) pa_nil)))) pss_nil)))
      (pss_cons (ps_for PassesOwn.never rfl (My.pi_enumT (by rfl) T.z_enumerate (pa_cons (pv 3) pa_nil)) (pg_tup (by rfl) (pgs_cons (pg_name (i := 4) sc_law_pairs_fault.nd rfl (Or.inl rfl)) (pgs_cons (pg_name (i := 5) sc_law_pairs_fault.nd rfl (Or.inl rfl)) pgs_nil))) (pss_one (ps_for PassesOwn.never rfl (pi_range1 (by rfl) T.z_range (pa_cons (pe_callB (call_len_seq) (by rfl) T.z_len (by decide +kernel) (pa_cons (pe_ix ix_tup (pv 0) pe_int (fun _ _ => rfl)) pa_nil)) pa_nil)) (pg_name (i := 6) sc_law_pairs_fault.nd rfl (Or.inl rfl)) (pss_cons (ps_set (i := 7) sc_law_pairs_fault.nd rfl (Or.inl rfl) (pe_tup (pa_cons (pe_call (ok_law_led T) (hr.mono (by decide)) (by rfl) T.g__law_led T.F__law_led.kp T.b__law_led .nil pass0 (pa_cons (pv 0) (pa_cons (pe_ix ix_tup (pv 5) pe_int (fun _ _ => rfl)) (pa_cons (pv 6) pa_nil)))) (pa_cons (pe_call (ok_law_led T) (hr.mono (by decide)) (by rfl) T.g__law_led T.F__law_led.kp T.b__law_led .nil pass0 (pa_cons (pv 1) (pa_cons (pe_ix ix_tup (pv 5) pe_int (fun _ _ => rfl)) (pa_cons (pv 6) pa_nil)))) pa_nil))))
      (pss_one (ps_if (PW.pt (pw_or (pt_cmpR (My.op_notInT (K := K) (My.un65 hr)) (pv 7) (pv 3) (by with_unfolding_all rfl)) (pw_or1 (pt_cmpR op_ne (pe_ix ix_tup (pe_ix ix_tup (pv 7) pe_int (fun _ _ => rfl)) pe_int (fun _ _ => rfl)) (pe_ix ix_tup (pe_ix ix_tup (pv 7) pe_int (fun _ _ => rfl)) pe_int (fun _ _ => rfl)) (nomark _))))) (pss_one (ps_ret (pe_lst (pa_cons (pv 4) pa_nil)))) pss_nil))))))
      (pss_one (ps_ret (pe_ifExp (pt_cmpR (My.op_inT (K := K) (My.un65 hr)) (pv 2) (pv 3) (by with_unfolding_all rfl)) (pe_lst pa_nil) (pe_lst (pa_cons (pe_callB (call_len_seq) (by rfl) T.z_len (by decide +kernel) (pa_cons (pv 3) pa_nil)) pa_nil))))))))
, ?_⟩
    have bad : ∀ n H1, Same H H1 → cplsR C D cc d = some n → ([nV n] : List V).length ≤ sizeLine ∧ ∀ a, H1 a = none → Q (.ref a) (upd H1 a (.lst [nV n])) := fun n H1 s1 h => ⟨by show 1 ≤ sizeLine; decide, fun a ha => q a _ (s1.trans (same_new ha)) (by rw [h]; exact upd_same)⟩
    refine ⟨x, rfl, x, .ty "tuple", _, _, _, rfl, .ty _, tyx hx, kitT d, _, rfl, ?_⟩
    cases hx with
    | tup h1 h2 =>
      rename_i t xs ds
      refine iteF ?_
      have hl := dpAll_len h2
      have hl7 := hlen ds rfl
      have hM := O.m2
      refine ⟨_, rfl, t, xs, rfl, h1, ?_⟩
      refine for_enumT (K := K) (a := t) (xs := xs) (fun i σ H' => ∃ y4 y5, σ = [some c, some o, some p, some (.ref t), y4, y5, none, none] ∧ Same H H' ∧ ∀ j, j < i → p1 C D ds j = false) ⟨none, none, rfl, Same.refl H, fun j hj => absurd hj (Nat.not_lt_zero j)⟩ ?_ ?_ ?_
      · rintro i σ H' _ ⟨_, _, _, s2, _⟩
        exact same_tup s2 h1
      · rintro i v σ H' tp hi ⟨y4, y5, rfl, s2, hok⟩ htp
        obtain ⟨dv, hdv, hv⟩ := dpAll_get h2 hi
        have hil := (List.getElem?_eq_some_iff.mp hi).1
        have s3 := s2.trans (same_new (o := .tup [.int (i : Nat), v]) htp)
        refine ⟨tp, _, rfl, upd_tup, rfl, _, _, rfl, _, _, rfl, rfl, ?_⟩
        generalize upd H' tp (.tup [.int (i : Nat), v]) = H2 at s3
        have bad1 : p1 C D ds i = true → cplsR C D cc (.tuple ds) = some (some (i : Int)) := fun h => by
          show (couplesF C D cc ds).map _ = _
          unfold couplesF
          rw [fb_some (by omega) h hok]
          rfl
        refine ⟨_, rfl, _, rfl, _, rfl, c, o, v, C, D, dv, rfl, dp_same s3 _ _ hc, dp_same s3 _ _ ho, dp_same s3 _ _ hv, fun H3 s4 => ⟨_, rfl, ?_⟩⟩
        have s34 := s3.trans s4
        cases hb : prD C D dv with
        | false =>
          refine iteT (iteT ?_)
          refine ⟨_, rfl, bad _ H3 s34 (bad1 ?_)⟩
          show (!prD C D (ds.getD i .none) || _) = true
          rw [getD_of hdv, hb]
          rfl
        | true =>
          refine iteF ?_
          obtain ⟨e, rfl, he⟩ := prD_out hb
          refine ⟨_, rfl, _, _, rfl, rfl, _, rfl, ?_⟩
          by_cases h0 : i = 0
          · refine ifNo (decide_eq_false (by omega)) (iteF ?_)
            refine ⟨_, _, rfl, s34, step_ok hok ?_⟩
            show (!prD C D (ds.getD i .none) || (decide (0 < i) && _)) = false
            rw [getD_of hdv, hb, decide_eq_false (by omega)]
            rfl
          · refine ifYes (decide_eq_true (by omega)) ?_
            obtain ⟨j, rfl⟩ : ∃ j, i = j + 1 := ⟨i - 1, by omega⟩
            have hj : xs[j]? = some xs[j] := List.getElem?_eq_getElem (by omega)
            generalize xs[j] = v' at hj
            obtain ⟨dv', hdv', hv'⟩ := dpAll_get h2 hj
            have hj' := (Bool.or_eq_false_iff.mp (hok j (Nat.lt_succ_self j))).1
            rw [getD_of hdv'] at hj'
            obtain ⟨e', rfl, he'⟩ := prD_out (C := C) (D := D) (d := dv') (by cases z : prD C D dv' with | true => rfl | false => rw [z] at hj'; cases hj')
            have hjj : (((j + 1 : Nat) : Int) - 1) = (j : Int) := by omega
            have ep : p1 C D ds (j + 1) = !PySem.W.dataLt (cplI e') (cplI e) := by
              show (!prD C D (ds.getD (j + 1) .none) || (decide (0 < j + 1) && !PySem.W.dataLt (ds.getD j .none) (ds.getD (j + 1) .none))) = _
              rw [getD_of hdv, getD_of hdv', hb, decide_eq_true (Nat.succ_pos j)]
              rfl
            refine ⟨_, rfl, _, rfl, _, _, rfl, rfl, ?_⟩
            refine ⟨t, xs, _, _, rfl, rfl, same_tup s34 h1, by rw [hjj]; exact atI_nat hj, _, rfl, _, _, dp_same s34 _ _ hv', dp_same s34 _ _ hv, al_cplI _ _, nofun, by show 2 ≤ 64; decide, _, rfl, ?_⟩
            cases hz : p1 C D ds (j + 1) with
            | true =>
              rw [show PySem.W.dataLt (cplI e') (cplI e) = false by rw [hz] at ep; cases zz : PySem.W.dataLt (cplI e') (cplI e) with | false => rfl | true => rw [zz] at ep; cases ep]
              refine iteT ?_
              exact ⟨_, rfl, bad _ H3 s34 (bad1 hz)⟩
            | false =>
              rw [show PySem.W.dataLt (cplI e') (cplI e) = true by rw [hz] at ep; cases zz : PySem.W.dataLt (cplI e') (cplI e) with | true => rfl | false => rw [zz] at ep; cases ep]
              refine iteF ?_
              exact ⟨_, _, rfl, s34, step_ok hok hz⟩
      · rintro σ H2 ⟨y4, y5, rfl, s2, hok⟩
        rw [hl] at hok
        have e1 : fstBad (p1 C D ds) ds.length = none := fb_none hok
        obtain ⟨L, rfl, hL⟩ := p1_all hok
        rw [List.length_map] at hl hl7 e1
        have e2 : (L.map cplI).map cplOf = L := map_cplOf L
        refine ⟨_, rfl, t, xs, rfl, same_tup s2 h1, ?_⟩
        refine for_enumT (K := K) (a := t) (xs := xs) (fun i σ H' => ∃ y4 y5 y6 y7, σ = [some c, some o, some p, some (.ref t), y4, y5, y6, y7] ∧ Same H2 H' ∧ ∀ j, j < i → p2 C D L j = false) ⟨_, _, _, _, rfl, Same.refl _, fun j hj => absurd hj (Nat.not_lt_zero j)⟩ ?_ ?_ ?_
        · rintro i σ H' _ ⟨_, _, _, _, _, s6, _⟩
          exact same_tup (s2.trans s6) h1
        · rintro i v σ H' tp hi ⟨y4, y5, y6, y7, rfl, s6, hok2⟩ htp
          obtain ⟨dv, hdv, hv⟩ := dpAll_get h2 hi
          rw [List.getElem?_map] at hdv
          obtain ⟨e, hev, rfl⟩ := Option.map_eq_some_iff.mp hdv
          have heL : e ∈ L := List.mem_of_getElem? hev
          have hil := (List.getElem?_eq_some_iff.mp hi).1
          have s7 := s6.trans (same_new (o := .tup [.int (i : Nat), v]) htp)
          refine ⟨tp, _, rfl, upd_tup, rfl, _, _, rfl, _, _, rfl, rfl, ?_⟩
          generalize upd H' tp (.tup [.int (i : Nat), v]) = H7 at s7
          have s27 := s2.trans s7
          have ep : p2 C D L i = (fstBad (q2 C D L e) C.moves.length).isSome := by
            unfold p2
            rw [getD_of hev]
          have bad2 : p2 C D L i = true → cplsR C D cc (.tuple (L.map cplI)) = some (some (i : Int)) := fun h => by
            show (couplesF C D cc (L.map cplI)).map _ = _
            unfold couplesF
            rw [List.length_map, e1, e2, fb_some (by omega) h hok2]
            rfl
          obtain ⟨pv, pvs, rfl, hpv, hpvd⟩ := dp_tup (show Dp K H7 v (.tuple [pairI e.1, pairI e.2]) from dp_same s27 _ _ hv)
          obtain ⟨u1, u2, rfl, hu1, hu2⟩ := dpAll_two hpvd
          obtain ⟨ca, cs, cm, ms, rfl, hca, hcs, hcm, hmd⟩ := cod_at (dp_same s27 _ _ hc)
          have hml := dpAll_len hmd
          rw [List.length_map] at hml
          have hstE := hL e heL
          refine ⟨_, rfl, ca, _, 3, _, rfl, rfl, hca, atI_nat (j := 3) rfl, cm, _, rfl, .inr hcm, _, rfl, by omega, by rw [hml]; omega, ?_⟩
          refine for_range (lo := 0) (n := ((((ms.length : Nat) : Int)) - 0).toNat) (fun j σ H' => ∃ y6 y7, σ = [some (.ref ca), some o, some p, some (.ref t), some (.int (i : Nat)), some (.ref pv), y6, y7] ∧ Same H7 H' ∧ ∀ j', j' < j → q2 C D L e j' = false) ⟨_, _, rfl, Same.refl _, fun j hj => absurd hj (Nat.not_lt_zero j)⟩ ?_ ?_
          · rintro j σ H8 hj ⟨y6, y7, rfl, s8, hok3⟩
            have hjm : j < C.moves.length := by omega
            have eM : j < D.moves.length := by omega
            refine ⟨_, rfl, _, rfl, pv, _, 0, u1, rfl, rfl, same_tup s8 hpv, atI_nat (j := 0) rfl, _, rfl, .ref ca, u1, C, e.1, j, by rw [Int.zero_add]; rfl, O, dp_same (s27.trans s8) _ _ hc, dp_same s8 _ _ hu1, hstE.1, hjm, fun p1 hp1 => ?_⟩
            have sp1 := same_new (o := .tup [V.int (C.led e.1 j).1, V.int (C.led e.1 j).2]) hp1
            have d1 : Dp K (upd H8 p1 (.tup [V.int (C.led e.1 j).1, V.int (C.led e.1 j).2])) (.ref p1) (pairI (C.led e.1 j)) := dp_mkpair upd_tup
            generalize upd H8 p1 (.tup [V.int (C.led e.1 j).1, V.int (C.led e.1 j).2]) = H9 at sp1 d1
            have s89 := s8.trans sp1
            refine ⟨_, rfl, _, rfl, pv, _, 1, u2, rfl, rfl, same_tup s89 hpv, atI_nat (j := 1) rfl, _, rfl, o, u2, D, e.2, j, by rw [Int.zero_add]; rfl, O', dp_same (s27.trans s89) _ _ ho, dp_same s89 _ _ hu2, hstE.2, eM, fun p2 hp2 => ?_⟩
            have sp2 := same_new (o := .tup [V.int (D.led e.2 j).1, V.int (D.led e.2 j).2]) hp2
            have d2 : Dp K (upd H9 p2 (.tup [V.int (D.led e.2 j).1, V.int (D.led e.2 j).2])) (.ref p2) (pairI (D.led e.2 j)) := dp_mkpair upd_tup
            have d1 := dp_same sp2 _ _ d1
            have s810 := s89.trans sp2
            generalize upd H9 p2 (.tup [V.int (D.led e.2 j).1, V.int (D.led e.2 j).2]) = H10 at s810 d1 d2
            refine ⟨by show 2 ≤ sizeLine; decide, fun LT hLT => ?_⟩
            have sp3 := same_new (o := .tup [V.ref p1, V.ref p2]) hLT
            have d1 := dp_same sp3 _ _ d1
            have d2 := dp_same sp3 _ _ d2
            have tLT : SqT K (upd H10 LT (.tup [V.ref p1, V.ref p2])) LT [V.ref p1, V.ref p2] := upd_tup
            have s811 := s810.trans sp3
            generalize upd H10 LT (.tup [V.ref p1, V.ref p2]) = H11 at s811 d1 d2 tLT
            have dLT : Dp K H11 (.ref LT) (cplI (C.led e.1 j, D.led e.2 j)) := .tup tLT (.cons d1 (.cons d2 .nil))
            clear sp1 sp2 sp3 hp1 hp2 hLT s810 s89
            have s211 := s27.trans s811
            have bad3 : q2 C D L e j = true → cplsR C D cc (.tuple (L.map cplI)) = some (some (i : Int)) := fun h => bad2 (by
              rw [ep, fb_some hjm h hok3]
              rfl)
            refine ⟨_, rfl, _, rfl, cplI (C.led e.1 j, D.led e.2 j), _, dLT, .tup (same_tup s211 h1) (dpAll_same s211 _ _ h2), (pz_cp _).shaped, (PZ.tmap (f := cplI) pz_cp).shaped, _, rfl, ?_⟩
            by_cases hin : (C.led e.1 j, D.led e.2 j) ∈ L
            · rw [any_yes hin]
              refine iteF ?_
              obtain ⟨q1, eq1, t1⟩ := dp_pair d1
              obtain ⟨q2', eq2, t2⟩ := dp_pair d2
              cases eq1
              cases eq2
              refine ⟨_, rfl, LT, _, 0, _, rfl, rfl, tLT, atI_nat (j := 0) rfl, p1, _, 0, _, rfl, rfl, t1, atI_nat (j := 0) rfl, _, rfl, LT, _, 1, _, rfl, rfl, tLT, atI_nat (j := 1) rfl, p2, _, 0, _, rfl, rfl, t2, atI_nat (j := 0) rfl, ?_⟩
              refine ⟨rfl, _, rfl, ?_⟩
              have eq3 : q2 C D L e j = !decide ((C.led e.1 j).1 = (D.led e.2 j).1) := by
                unfold q2
                rw [decide_eq_true hin]
                rfl
              have eq4 : (!decide (V.int (C.led e.1 j).1 = V.int (D.led e.2 j).1)) = q2 C D L e j := by
                rw [eq3]
                congr 1
                exact decide_eq_decide.mpr ⟨fun z => V.int.inj z, fun z => by rw [z]⟩
              rw [eq4]
              cases hz : q2 C D L e j with
              | true =>
                refine iteT ?_
                exact ⟨_, rfl, bad _ _ s211 (bad3 hz)⟩
              | false =>
                refine iteF ?_
                exact ⟨_, _, rfl, s811, step_ok hok3 hz⟩
            · rw [any_no hin]
              refine iteT (iteT ?_)
              refine ⟨_, rfl, bad _ _ s211 (bad3 ?_)⟩
              unfold q2
              rw [decide_eq_false hin]
              rfl
          · rintro σ H8 ⟨y6, y7, rfl, s8, hok3⟩
            refine ⟨_, _, _, _, rfl, s7.trans s8, step_ok hok2 ?_⟩
            rw [ep, fb_none fun j hj => hok3 j (by omega)]
            rfl
        · rintro σ H6 ⟨y4, y5, y6, y7, rfl, s6, hok2⟩
          rw [hl] at hok2
          have s26 := s2.trans s6
          have ec : cplsR C D cc (.tuple (L.map cplI)) = if cc ∈ L then none else some (some (L.length : Int)) := by
            show (couplesF C D cc (L.map cplI)).map _ = _
            unfold couplesF
            rw [List.length_map, e1, e2, fb_none hok2]
            show (if cc ∈ L then none else some L.length).map _ = _
            by_cases z : cc ∈ L
            · rw [if_pos z, if_pos z]; rfl
            · rw [if_neg z, if_neg z]; rfl
          refine ⟨_, rfl, _, rfl, cplI cc, _, dp_same s26 _ _ hp, .tup (same_tup s26 h1) (dpAll_same s26 _ _ h2), (pz_cp cc).shaped, (PZ.tmap (f := cplI) pz_cp).shaped, _, rfl, ?_⟩
          by_cases hin : cc ∈ L
          · refine ifYes (any_yes hin) ?_
            refine ⟨by show 0 ≤ sizeLine; decide, fun a ha => q a _ (s26.trans (same_new ha)) (by rw [ec, if_pos hin]; exact upd_same)⟩
          · refine ifNo (any_no hin) ?_
            refine ⟨_, rfl, t, xs, rfl, .inr (same_tup s26 h1), ?_⟩
            rw [hl]
            exact bad _ _ s26 (by rw [ec, if_neg hin])
    | non => exact iteT (bad none H (Same.refl H) rfl)
    | int n => exact iteT (bad none H (Same.refl H) rfl)
    | bl b => exact iteT (bad none H (Same.refl H) rfl)
    | str z => exact iteT (bad none H (Same.refl H) rfl)
    | lst _ _ => exact iteT (bad none H (Same.refl H) rfl)
end
end My

set_option pp.maxSteps 400
set_option pp.deepTerms false
/-! papers of two coders: what is due, what comes out -/
namespace My
open PySem PySem.Spec PyProof.Rows L2
theorem resA_word {C D : Cod} {c : Cpl} {s : Str} {x : PyData} (h1 : s ≠ Str.ofString "alike") (h2 : s ≠ Str.ofString "apart") : resA C D c (.tuple [.str s, x]) = .bad (Str.ofString "form") none := by
  unfold resA
  dsimp only
  rw [if_neg h1, if_neg h2]
theorem resA_alike {C D : Cod} {c : Cpl} {x : PyData} : resA C D c (.tuple [.str (Str.ofString "alike"), x]) = match cplsR C D c x with
    | none => .yes true
    | some n => .bad (Str.ofString "couples") n := by
  unfold resA
  dsimp only
  rw [if_pos rfl]
  try rfl
theorem resA_apart {C D : Cod} {c : Cpl} {x : PyData} : resA C D c (.tuple [.str (Str.ofString "apart"), x]) = if rowR C D c x = true then .yes false else .bad (Str.ofString "row") none := by
  unfold resA
  dsimp only
  rw [if_neg (show ¬Str.ofString "apart" = Str.ofString "alike" by decide +kernel), if_pos rfl]
  try rfl
theorem last_path {K : PySem.W.Frag} {H : Hp} {xs : List V} {C : Cod} {row : List Nat} {st : Int × Int} (hD : DpAll K H xs ((C.path st row).map pairI)) : ∃ x1 z, xs = x1 ++ [z] ∧ Dp K H z (pairI (C.run st row)) := by
  obtain ⟨ps, hps⟩ := path_last (C := C) row st
  have hl2 := dpAll_len hD
  rw [hps] at hD hl2
  have hne : xs ≠ [] := by
    intro e
    rw [e] at hl2
    simp at hl2
  refine ⟨xs.dropLast, xs.getLast hne, (List.dropLast_concat_getLast hne).symm, ?_⟩
  obtain ⟨z, hz, hd⟩ := dpAll_get' hD (i := ps.length) (d := pairI (C.run st row)) (by rw [List.map_append, List.getElem?_append_right (by simp)]; simp)
  have hxl : xs.length = ps.length + 1 := by rw [hl2]; simp
  have : xs.getLast hne = z := by
    rw [List.getLast_eq_getElem]
    have e : xs[xs.length - 1]? = some z := by rw [hxl]; exact hz
    exact (List.getElem?_eq_some_iff.mp e).2
  rw [this]
  exact hd
section
variable {P : Program} {w : World} {K : PySem.W.Frag} {mg : Str → Option Value} {base : Heap}
def sp_law_due (K : PySem.W.Frag) : Sp := fun vs H Q _ => ∃ (c o x y p : V) (C G : Cod) (a b : Int × Int) (d : PyData), vs = [c, o, x, y, p] ∧ C.Ok ∧ G.Ok ∧ C.moves.length = G.moves.length ∧ Dp K H c C.dat ∧ Dp K H o G.dat ∧ Dp K H x (pairI a) ∧ Dp K H y (pairI b) ∧ C.St a ∧ G.St b ∧ Dp K H p d ∧ PapOk d ∧
  ∀ z H', Same H H' → Dp K H' z (resA C G (a, b) d).dat → Q z H'
set_option maxHeartbeats 2000000 in
theorem ok_law_due (T : Txt K mg) : FnOk P w K mg base CX0 9 T.f__law_due T.d__law_due ["coder", "other", "one", "two", "paper"] (sp_law_due K) := by
  refine T.F__law_due.ok sc_law_due (fun vs H Q E h => ?_) (fun cdv A outer s H vs Q E hr h => ?_)
  · obtain ⟨c, o, x, y, p, C, G, a, b, d, rfl, _⟩ := h
    rfl
  · obtain ⟨c, o, x, y, p, C, G, a, b, d, rfl, O, O', hm, hc, ho, hx, hy, ha, hb, hp, po, q⟩ := h
    refine ⟨_,
(pss_cons (ps_if (PW.pt (pw_or (pt_not (pt_val (pe_callB (call_isi) (by rfl) T.z_isinstance (by decide +kernel) (pa_cons (pv 4) (pa_cons (pe_bltn (v := .ty "tuple") (by rfl) T.z_tuple (by decide +kernel) rfl) pa_nil))))) (pw_or (pt_cmpR op_ne (pe_callB (call_len_seq) (by rfl) T.z_len (by decide +kernel) (pa_cons (pv 4) pa_nil)) pe_int (nomark _)) (pw_or1 (pt_not (pt_val (pe_callB (call_isi) (by rfl) T.z_isinstance (by decide +kernel) (pa_cons (pe_ix ix_tup (pv 4) pe_int (fun _ _ => rfl)) (pa_cons (pe_bltn (v := .ty "str") (by rfl) T.z_str (by decide +kernel) rfl) pa_nil))))))))) (pss_one (ps_ret (pe_tup (pa_cons pe_str (pa_cons pe_non pa_nil))))) pss_nil)
      (pss_cons (ps_if (pt_cmpR op_eq (pe_ix ix_tup (pv 4) pe_int (fun _ _ => rfl)) pe_str (nomark _)) (pss_cons (ps_set (i := 5) sc_law_due.nd rfl (Or.inl rfl) (pe_call (ok_law_pairs_fault T) (hr.mono (by decide)) (by rfl) T.g__law_pairs_fault T.F__law_pairs_fault.kp T.b__law_pairs_fault .nil pass0 (pa_cons (pv 0) (pa_cons (pv 1) (pa_cons (pe_tup (pa_cons (pv 2) (pa_cons (pv 3) pa_nil))) (pa_cons (pe_ix ix_tup (pv 4) pe_int (fun _ _ => rfl)) pa_nil))))))
      (pss_one (ps_ret (pe_ifExp (pt_cmpR (My.op_eqNil hr.units) (pv 5) (pe_lst pa_nil) (nomark _)) pe_bl (pe_tup (pa_cons pe_str (pa_cons (pe_ix ix_list (pv 5) pe_int (fun _ _ => rfl)) pa_nil))))))) pss_nil)
      (pss_cons (ps_if (pt_cmpR op_ne (pe_ix ix_tup (pv 4) pe_int (fun _ _ => rfl)) pe_str (nomark _)) (pss_one (ps_ret (pe_tup (pa_cons pe_str (pa_cons pe_non pa_nil))))) pss_nil)
      (pss_cons (ps_if (PW.pt (pw_or (pt_not (pt_val (pe_call (ok_law_are_codes T) (hr.mono (by decide)) (by rfl) T.g__law_are_codes T.F__law_are_codes.kp T.b__law_are_codes .nil pass0 (pa_cons (pv 0) (pa_cons (pe_ix ix_tup (pv 4) pe_int (fun _ _ => rfl)) pa_nil))))) (pw_or1 (pt_cmpR (op_eqD hr.units) (pe_ix ix_tup (pv 4) pe_int (fun _ _ => rfl)) (pe_tup pa_nil) (nomark _))))) (pss_one (ps_ret (pe_tup (pa_cons pe_str (pa_cons pe_non pa_nil))))) pss_nil)
      (pss_cons (ps_set (i := 6) sc_law_due.nd rfl (Or.inl rfl) (pe_lst (pa_cons (pe_ix ix_list (pe_call (ok_law_walked T) (hr.mono (by decide)) (by rfl) T.g__law_walked T.F__law_walked.kp T.b__law_walked .nil pass0 (pa_cons (pv 0) (pa_cons (pv 2) (pa_cons (pe_ix ix_tup (pv 4) pe_int (fun _ _ => rfl)) pa_nil)))) (pe_un un_neg pe_int) (fun _ _ => rfl)) (pa_cons (pe_ix ix_list (pe_call (ok_law_walked T) (hr.mono (by decide)) (by rfl) T.g__law_walked T.F__law_walked.kp T.b__law_walked .nil pass0 (pa_cons (pv 1) (pa_cons (pv 3) (pa_cons (pe_ix ix_tup (pv 4) pe_int (fun _ _ => rfl)) pa_nil)))) (pe_un un_neg pe_int) (fun _ _ => rfl)) pa_nil))))
      (pss_one (ps_ret (pe_ifExp (pt_cmpR op_ne (pe_ix ix_tup (pe_ix ix_list (pv 6) pe_int (fun _ _ => rfl)) pe_int (fun _ _ => rfl)) (pe_ix ix_tup (pe_ix ix_list (pv 6) pe_int (fun _ _ => rfl)) pe_int (fun _ _ => rfl)) (nomark _)) pe_bl (pe_tup (pa_cons pe_str (pa_cons pe_non pa_nil)))))))))))
, ?_⟩
    have bad : ∀ (s : Str) H1, Same H H1 → resA C G (a, b) d = .bad s none → ([V.str s, V.non] : List V).length ≤ sizeLine ∧ ∀ t, H1 t = none → Q (.ref t) (upd H1 t (.tup [V.str s, V.non])) := fun s H1 s1 h => ⟨by show 2 ≤ sizeLine; decide, fun t ht => q _ _ (s1.trans (same_new ht)) (by rw [h]; exact .tup upd_tup (.cons (.str _) (.cons .non .nil)))⟩
    refine ⟨p, rfl, p, .ty "tuple", _, _, _, rfl, .ty _, tyx hp, kitT d, _, rfl, ?_⟩
    cases hp with
    | tup h1 h2 =>
      rename_i t xs ds
      refine iteF ?_
      have hl := dpAll_len h2
      refine ⟨_, rfl, _, _, rfl, .inr h1, rfl, _, rfl, ?_⟩
      by_cases h2' : ds.length = 2
      · refine ifNo (by rw [hl, h2']; rfl) ?_
        match ds, h2' with
        | [d0, xd], _ =>
        obtain ⟨v0, v1, rfl, g0, g1⟩ := dpAll_two h2
        refine ⟨_, rfl, t, _, 0, v0, rfl, rfl, h1, atI_nat (j := 0) rfl, v0, .ty "str", _, _, _, rfl, .ty _, tyx g0, kitS d0, _, rfl, ?_⟩
        cases g0 with
        | str wd =>
          refine iteF ?_
          refine ⟨_, rfl, t, _, 0, _, rfl, rfl, h1, atI_nat (j := 0) rfl, rfl, _, rfl, ?_⟩
          by_cases e1 : wd = Str.ofString "alike"
          · subst e1
            refine ifYes (decide_eq_true rfl) ?_
            rw [resA_alike] at q
            refine ⟨c, rfl, o, rfl, x, rfl, y, rfl, by show 2 ≤ sizeLine; decide, fun tt ht => ?_⟩
            have s1 := same_new (o := .tup [x, y]) ht
            refine ⟨_, rfl, t, _, 1, v1, rfl, rfl, same_tup s1 h1, atI_nat (j := 1) rfl, c, o, .ref tt, v1, C, G, (a, b), xd, rfl, O, O', hm, dp_same s1 _ _ hc, dp_same s1 _ _ ho, .tup upd_tup (.cons (dp_same s1 _ _ hx) (.cons (dp_same s1 _ _ hy) .nil)), ⟨ha, hb⟩, dp_same s1 _ _ g1, fun ds e => po.len _ ds [] (by rw [e]), fun fl H2 s2 hfl => ?_⟩
            have s12 := s1.trans s2
            refine ⟨_, rfl, by show 0 ≤ sizeLine; decide, fun nl hnl => ⟨fl, nl, _, rfl, rfl, SqL.of (same_new hnl _ _ hfl), SqL.of upd_same, ?_⟩⟩
            have s3 := same_new (o := .lst []) hnl
            have hfl := s3 _ _ hfl
            generalize upd H2 nl (.lst []) = H3 at s3 hfl
            have s13 := s12.trans s3
            cases hcp : cplsR C G (a, b) xd with
            | none =>
              rw [hcp] at q hfl
              refine ⟨_, rfl, iteT ?_⟩
              exact q _ _ s13 (.bl true)
            | some n =>
              rw [hcp] at q hfl
              refine ⟨_, rfl, iteF ?_⟩
              refine ⟨_, rfl, fl, _, 0, nV n, rfl, rfl, SqL.of hfl, atI_nat (j := 0) rfl, by show 2 ≤ sizeLine; decide, fun t2 ht2 => ?_⟩
              exact q _ _ (s13.trans (same_new ht2)) (.tup upd_tup (.cons (.str _) (.cons (dp_n n) .nil)))
          · refine ifNo (decide_eq_false fun z => e1 (V.str.inj z)) ?_
            refine ⟨_, rfl, t, _, 0, _, rfl, rfl, h1, atI_nat (j := 0) rfl, rfl, _, rfl, ?_⟩
            by_cases e2 : wd = Str.ofString "apart"
            · subst e2
              refine iteNS rfl ?_
              rw [resA_apart] at q
              refine ⟨_, rfl, _, rfl, t, _, 1, v1, rfl, rfl, h1, atI_nat (j := 1) rfl, c, v1, C, xd, rfl, hc, g1, fun ds e => po.len _ ds [] (by rw [e]), fun H2 s2 => ⟨_, rfl, ?_⟩⟩
              have badr : ∀ H1, Same H H1 → rowR C G (a, b) xd = false → ([V.str (Str.ofString "row"), V.non] : List V).length ≤ sizeLine ∧ ∀ t, H1 t = none → Q (.ref t) (upd H1 t (.tup [V.str (Str.ofString "row"), V.non])) := fun H1 s1 h => ⟨by show 2 ≤ sizeLine; decide, fun t ht => q _ _ (s1.trans (same_new ht)) (by rw [if_neg (by rw [h]; exact Bool.false_ne_true)]; exact .tup upd_tup (.cons (.str _) (.cons .non .nil)))⟩
              cases hcd : codesD C xd with
              | false => exact iteT (badr H2 s2 (by unfold rowR; rw [hcd]; rfl))
              | true =>
                refine iteF ?_
                obtain ⟨r, rfl, hr⟩ := codesD_out hcd
                have hrl : r.length ≤ 70000 := by
                  have := po.len _ _ [] rfl
                  rw [List.length_map] at this
                  exact this
                refine ⟨_, rfl, t, _, 1, v1, rfl, rfl, same_tup s2 h1, atI_nat (j := 1) rfl, by show 0 ≤ sizeLine; decide, fun nt hnt => ⟨rowI r, .tuple [], dp_same (s2.trans (same_new hnt)) _ _ g1, .tup upd_tup .nil, (PZ.tmap (n := 0) (f := fun k : Nat => PyData.int (k : Int)) fun k => PZ.int _).shaped, (PZ.tup (n := 0) (l := []) nofun).shaped, _, rfl, ?_⟩⟩
                have s3 := s2.trans (same_new (o := .tup []) hnt)
                generalize upd H2 nt (.tup []) = H3 at s3
                cases r with
                | nil => exact ifYes rfl (badr H3 s3 (by unfold rowR; rw [hcd]; rfl))
                | cons k r =>
                  refine ifNo rfl ?_
                  have er : rowR C G (a, b) (rowI (k :: r)) = !decide ((C.run a (k :: r)).1 = (G.run b (k :: r)).1) := by
                    unfold rowR
                    rw [hcd, rowOf_I]
                    rfl
                  refine ⟨c, rfl, x, rfl, _, rfl, t, _, 1, v1, rfl, rfl, same_tup s3 h1, atI_nat (j := 1) rfl, c, x, v1, C, k :: r, a, rfl, O, dp_same s3 _ _ hc, dp_same s3 _ _ g1, ⟨hrl, hr⟩, dp_same s3 _ _ hx, ha, fun p1 xs1 H4 s4 _ hp1 hd1 => ?_⟩
                  have s34 := s3.trans s4
                  obtain ⟨i1, z1, rfl, hz1⟩ := last_path hd1
                  refine ⟨1, rfl, p1, _, -1, z1, rfl, rfl, SqL.of hp1, atI_last _ _, ?_⟩
                  refine ⟨o, rfl, y, rfl, _, rfl, t, _, 1, v1, rfl, rfl, same_tup s34 h1, atI_nat (j := 1) rfl, o, y, v1, G, k :: r, b, rfl, O', dp_same s34 _ _ ho, dp_same s34 _ _ g1, ⟨hrl, fun j hj => hm ▸ hr j hj⟩, dp_same s34 _ _ hy, hb, fun p2 xs2 H5 s5 _ hp2 hd2 => ?_⟩
                  have s35 := s34.trans s5
                  obtain ⟨i2, z2, rfl, hz2⟩ := last_path hd2
                  refine ⟨1, rfl, p2, _, -1, z2, rfl, rfl, SqL.of hp2, atI_last _ _, ?_⟩
                  refine ⟨by show 2 ≤ sizeLine; decide, fun le hle => ?_⟩
                  have s6 := same_new (o := .lst [z1, z2]) hle
                  have s36 := s35.trans s6
                  obtain ⟨b1, rfl, hb1⟩ := dp_pair (dp_same (s5.trans s6) _ _ hz1)
                  obtain ⟨b2, rfl, hb2⟩ := dp_pair (dp_same s6 _ _ hz2)
                  refine ⟨_, rfl, le, _, 0, _, rfl, rfl, SqL.of upd_same, atI_nat (j := 0) rfl, b1, _, 0, _, rfl, rfl, hb1, atI_nat (j := 0) rfl, _, rfl, le, _, 1, _, rfl, rfl, SqL.of upd_same, atI_nat (j := 1) rfl, b2, _, 0, _, rfl, rfl, hb2, atI_nat (j := 0) rfl, ?_⟩
                  refine ⟨rfl, _, rfl, ?_⟩
                  have eq4 : (!decide (V.int (C.run a (k :: r)).1 = V.int (G.run b (k :: r)).1)) = rowR C G (a, b) (rowI (k :: r)) := by
                    rw [er]
                    congr 1
                    exact decide_eq_decide.mpr ⟨fun z => V.int.inj z, fun z => by rw [z]⟩
                  rw [eq4]
                  cases hz : rowR C G (a, b) (rowI (k :: r)) with
                  | true =>
                    rw [if_pos hz] at q
                    exact iteT (q _ _ s36 (.bl false))
                  | false => exact iteF (badr _ s36 hz)
            · rw [decide_eq_false fun z => e2 (V.str.inj z)]
              exact iteT (bad _ H (Same.refl H) (resA_word e1 e2))
        | non => exact iteT (bad _ H (Same.refl H) rfl)
        | int n => exact iteT (bad _ H (Same.refl H) rfl)
        | bl b => exact iteT (bad _ H (Same.refl H) rfl)
        | tup _ _ => exact iteT (bad _ H (Same.refl H) rfl)
        | lst _ _ => exact iteT (bad _ H (Same.refl H) rfl)
      · refine ifYes (by rw [hl]; simp [h2']; omega) ?_
        refine bad _ H (Same.refl H) ?_
        unfold resA
        split
        · rename_i e
          injection e with e
          rw [e] at h2'
          exact absurd rfl h2'
        · rfl
    | non => exact iteT (bad _ H (Same.refl H) rfl)
    | int n => exact iteT (bad _ H (Same.refl H) rfl)
    | bl b => exact iteT (bad _ H (Same.refl H) rfl)
    | str z => exact iteT (bad _ H (Same.refl H) rfl)
    | lst _ _ => exact iteT (bad _ H (Same.refl H) rfl)
/-- what comes out of a call, as data -/
inductive OutA (C G : Cod) (dx dy d : PyData) : PyData → Prop
  | great : (256 < C.cnt ∨ 256 < G.cnt) → OutA C G dx dy d (.int 256)
  | place : C.cnt ≤ 256 → G.cnt ≤ 256 → (C.moves.length ≠ G.moves.length ∨ stateD C dx = false ∨ stateD G dy = false) → OutA C G dx dy d (.str (Str.ofString "place"))
  | res (a b : Int × Int) : C.cnt ≤ 256 → G.cnt ≤ 256 → C.moves.length = G.moves.length → dx = pairI a → dy = pairI b → C.St a → G.St b → OutA C G dx dy d (resA C G (a, b) d).dat
def spGr (K : PySem.W.Frag) (n : Nat) : Sp := fun vs H Q _ => ∃ (c : V) (us : List V) (C : Cod), vs = c :: us ∧ us.length = n ∧ C.Ok ∧ Dp K H c C.dat ∧ 256 < C.cnt ∧ ∀ H', Same H H' → Q (.int 256) H'
def sp_law_outcome (K : PySem.W.Frag) : Sp := fun vs H Q E => spGr K 4 vs H Q E ∨ ∃ (c o x y p : V) (C G : Cod) (dx dy d : PyData), vs = [c, o, x, y, p] ∧ C.Ok ∧ G.Ok ∧ Dp K H c C.dat ∧ Dp K H o G.dat ∧ Dp K H x dx ∧ Dp K H y dy ∧ Dp K H p d ∧ PapOk d ∧
  ∀ z r H', Same H H' → OutA C G dx dy d r → Dp K H' z r → Q z H'
set_option maxHeartbeats 4000000 in
theorem ok_law_outcome (T : Txt K mg) : FnOk P w K mg base CX0 13 T.f__law_outcome T.d__law_outcome ["coder", "other", "one", "two", "paper"] (sp_law_outcome K) := by
  refine T.F__law_outcome.ok sc_law_outcome (fun vs H Q E h => ?_) (fun cdv A outer s H vs Q E hr h => ?_)
  · rcases h with ⟨c, us, C, rfl, hl, _⟩ | ⟨c, o, x, y, p, C, G, dx, dy, d, rfl, _⟩
    · rw [List.length_cons, hl]; rfl
    · rfl
  · refine ⟨_,
(pss_cons (ps_set (i := 5) sc_law_outcome.nd rfl (Or.inl rfl) pe_str)
      (pss_cons (My.ps_try_hs rfl rfl sc_law_outcome.nd takes0 (fun W pn xe tk po => (pss_one (ps_set (i := 5) sc_law_outcome.nd rfl (Or.inl rfl) (pe_callS (ok_check_alike T) (hr.mono (by decide)) (by rfl) T.g_check_alike T.F_check_alike.kp T.b_check_alike (fun σ => passAt tk σ) (pa_cons (pv 0) (pa_cons (pv 1) (pa_cons (pv 2) (pa_cons (pv 3) (pa_cons (pv 4) pa_nil))))))))) (.as (i := 6) rfl rfl ⟨by rfl, by decide, .inl T.g_BadPaper⟩ (fun a oe cls d pn hz hf => (pss_one (ps_set (i := 5) sc_law_outcome.nd rfl (Or.inl rfl) (pe_tup (pa_cons (pe_xf T.x_BadPaper T.n_BadPaper_part hz hf (pv 6)) (pa_cons (pe_xf T.x_BadPaper T.n_BadPaper_number hz hf (pv 6)) pa_nil)))))) (.bare ⟨by rfl, by decide, .inl T.g_OutOfPlace⟩ (fun a oe cls d pn hz hf => (pss_one (ps_set (i := 5) sc_law_outcome.nd rfl (Or.inl rfl) pe_str))) (.as (i := 6) rfl rfl ⟨by rfl, by decide, .inl T.g_TooGreat⟩ (fun a oe cls d pn hz hf => (pss_one (ps_set (i := 5) sc_law_outcome.nd rfl (Or.inl rfl) (pe_xf T.x_TooGreat T.n_TooGreat_most hz hf (pv 6))))) .nil))))
      (pss_one (ps_ret (pv 5)))))
, ?_⟩
    rcases h with ⟨c, us, C, rfl, hl, O, hc, g, q⟩ | ⟨c, o, x, y, p, C, G, dx, dy, d, rfl, O, O', hc, ho, hx, hy, hp, po, q⟩
    · obtain ⟨o, x, y, p, rfl⟩ := us4 hl
      refine ⟨_, rfl, _, rfl, _, rfl, _, rfl, _, rfl, .inl ⟨c, _, C, rfl, rfl, O, hc, g, fun dd H1 s1 hd => ?_⟩⟩
      exact ⟨false, T.e_TooGreat_BadPaper, fun z => (nomatch z), fun _ => ⟨false, T.e_TooGreat_OutOfPlace, fun z => (nomatch z), fun _ => ⟨true, T.e_TooGreat, fun _ a ha => ⟨_, rfl, rfl, rfl, dd, _, _, rfl, hd, rfl, _, rfl, q _ s1⟩, fun z => (nomatch z)⟩⟩⟩
    refine ⟨_, rfl, _, rfl, _, rfl, _, rfl, _, rfl, .inr ⟨c, o, x, y, p, C, G, dx, dy, d, rfl, O, O', hc, ho, hx, hy, hp, po, ⟨fun g dd H1 s1 hd => ?_, fun few1 few2 bad H1 s1 => ?_⟩, fun a b few1 few2 hm ex ey ha hb => ?_⟩⟩
    · exact ⟨false, T.e_TooGreat_BadPaper, fun z => (nomatch z), fun _ => ⟨false, T.e_TooGreat_OutOfPlace, fun z => (nomatch z), fun _ => ⟨true, T.e_TooGreat, fun _ a ha => ⟨_, rfl, rfl, rfl, dd, _, _, rfl, hd, rfl, _, rfl, q _ _ _ s1 (.great g) (.int _)⟩, fun z => (nomatch z)⟩⟩⟩
    · exact ⟨false, T.e_OutOfPlace_BadPaper, fun z => (nomatch z), fun _ => ⟨true, T.e_OutOfPlace, fun _ a ha => ⟨_, rfl, q _ _ _ s1 (.place few1 few2 bad) (.str _)⟩, fun z => (nomatch z)⟩⟩
    · have q' := q
      have rr : OutA C G dx dy d (resA C G (a, b) d).dat := .res a b few1 few2 hm ex ey ha hb
      cases hR : resA C G (a, b) d with
      | yes bb =>
        rw [hR] at rr
        intro H1 s1
        exact ⟨_, rfl, q _ _ _ s1 rr (.bl _)⟩
      | bad wd n =>
        rw [hR] at rr
        intro dd H1 s1 hd
        refine ⟨true, T.e_BadPaper, fun _ a ha => ⟨_, rfl, rfl, rfl, dd, _, _, rfl, hd, rfl, _, rfl, rfl, rfl, dd, _, _, rfl, hd, rfl, by show 2 ≤ sizeLine; decide, fun t ht => ?_⟩, fun z => (nomatch z)⟩
        exact ⟨_, rfl, q _ _ _ (s1.trans (same_new ht)) rr (.tup upd_tup (.cons (.str _) (.cons (dp_n n) .nil)))⟩
/-- what comes out of alike: only whether something is refused -/
inductive OutC (C G : Cod) (dx dy : PyData) : PyData → Prop
  | great : (256 < C.cnt ∨ 256 < G.cnt) → OutC C G dx dy (.int 256)
  | place : C.cnt ≤ 256 → G.cnt ≤ 256 → (C.moves.length ≠ G.moves.length ∨ stateD C dx = false ∨ stateD G dy = false) → OutC C G dx dy (.str (Str.ofString "place"))
  | none (a b : Int × Int) : C.cnt ≤ 256 → G.cnt ≤ 256 → C.moves.length = G.moves.length → dx = pairI a → dy = pairI b → C.St a → G.St b → OutC C G dx dy .none
def sp_law_compared (K : PySem.W.Frag) : Sp := fun vs H Q E => spGr K 3 vs H Q E ∨ ∃ (c o x y : V) (C G : Cod) (dx dy : PyData), vs = [c, o, x, y] ∧ C.Ok ∧ G.Ok ∧ Dp K H c C.dat ∧ Dp K H o G.dat ∧ Dp K H x dx ∧ Dp K H y dy ∧
  ∀ z r H', Same H H' → OutC C G dx dy r → Dp K H' z r → Q z H'
set_option maxHeartbeats 4000000 in
theorem ok_law_compared (T : Txt K mg) : FnOk P w K mg base CX0 13 T.f__law_compared T.d__law_compared ["coder", "other", "one", "two"] (sp_law_compared K) := by
  refine T.F__law_compared.ok sc_law_compared (fun vs H Q E h => ?_) (fun cdv A outer s H vs Q E hr h => ?_)
  · rcases h with ⟨c, us, C, rfl, hl, _⟩ | ⟨c, o, x, y, C, G, dx, dy, rfl, _⟩
    · rw [List.length_cons, hl]; rfl
    · rfl
  · refine ⟨_,
(pss_cons (ps_set (i := 4) sc_law_compared.nd rfl (Or.inl rfl) pe_non)
      (pss_cons (My.ps_try_hs rfl rfl sc_law_compared.nd takes0 (fun W pn xe tk po => (pss_one (ps_expr (pe_callS (ok_alike T) (hr.mono (by decide)) (by rfl) T.g_alike T.F_alike.kp T.b_alike (fun σ => passAt tk σ) (pa_cons (pv 0) (pa_cons (pv 1) (pa_cons (pv 2) (pa_cons (pv 3) pa_nil)))))))) (.bare ⟨by rfl, by decide, .inl T.g_OutOfPlace⟩ (fun a oe cls d pn hz hf => (pss_one (ps_set (i := 4) sc_law_compared.nd rfl (Or.inl rfl) pe_str))) (.as (i := 5) rfl rfl ⟨by rfl, by decide, .inl T.g_TooGreat⟩ (fun a oe cls d pn hz hf => (pss_one (ps_set (i := 4) sc_law_compared.nd rfl (Or.inl rfl) (pe_xf T.x_TooGreat T.n_TooGreat_most hz hf (pv 5))))) .nil)))
      (pss_one (ps_ret (pv 4)))))
, ?_⟩
    rcases h with ⟨c, us, C, rfl, hl, O, hc, g, q⟩ | ⟨c, o, x, y, C, G, dx, dy, rfl, O, O', hc, ho, hx, hy, q⟩
    · obtain ⟨o, x, y, rfl⟩ := us3 hl
      refine ⟨_, rfl, _, rfl, _, rfl, _, rfl, .inl ⟨c, _, C, rfl, rfl, O, hc, g, fun dd H1 s1 hd => ?_⟩⟩
      exact ⟨false, T.e_TooGreat_OutOfPlace, fun z => (nomatch z), fun _ => ⟨true, T.e_TooGreat, fun _ a ha => ⟨_, rfl, rfl, rfl, dd, _, _, rfl, hd, rfl, _, rfl, q _ s1⟩, fun z => (nomatch z)⟩⟩
    refine ⟨_, rfl, _, rfl, _, rfl, _, rfl, .inr ⟨c, o, x, y, C, G, dx, dy, rfl, O, O', hc, ho, hx, hy, ⟨fun g dd H1 s1 hd => ?_, fun few1 few2 bad H1 s1 => ?_⟩, fun a b few1 few2 hm ex ey ha hb z d H1 s1 _ _ => ?_⟩⟩
    · exact ⟨false, T.e_TooGreat_OutOfPlace, fun z => (nomatch z), fun _ => ⟨true, T.e_TooGreat, fun _ a ha => ⟨_, rfl, rfl, rfl, dd, _, _, rfl, hd, rfl, _, rfl, q _ _ _ s1 (.great g) (.int _)⟩, fun z => (nomatch z)⟩⟩
    · exact ⟨true, T.e_OutOfPlace, fun _ a ha => ⟨_, rfl, q _ _ _ s1 (.place few1 few2 bad) (.str _)⟩, fun z => (nomatch z)⟩
    · exact ⟨_, rfl, q _ _ _ s1 (.none a b few1 few2 hm ex ey ha hb) .non⟩
end
end My

/-! t * k of any tuple and any small k -/
namespace My
open PySem PySem.Spec PyProof.Rows L2
theorem wp_yes {α : Type} {M : Model} {A : Around} {c : Prop} [Decidable c] {x y : Sem α} {Q : α → Shared → Prop} {E : Value → Shared → Prop} {s : Shared} (h : c) (k : wpAny M A x Q E s) : wpAny M A (if c then x else y) Q E s := by
  rw [if_pos h]
  exact k
theorem wp_no {α : Type} {M : Model} {A : Around} {c : Prop} [Decidable c] {x y : Sem α} {Q : α → Shared → Prop} {E : Value → Shared → Prop} {s : Shared} (h : ¬ c) (k : wpAny M A y Q E s) : wpAny M A (if c then x else y) Q E s := by
  rw [if_neg h]
  exact k
set_option maxHeartbeats 4000000 in
theorem mul_nil (a : Addr) (m : Nat) (dict : Option Addr) (slots : Array (Option Value)) (x : Int) (u : Tok) (c0 : (decide (x < -(2 ^ 63)) || decide (x ≥ 2 ^ 63)) = false) :
    Meets (Builtin.«tuple.__mul__» ⟨[.ref a, .int x u], []⟩) (fun _ R s => s.heap.get? a = some { cls := .type "tuple", dict := dict, data := .seq #[] m, slots := slots } ∧
      R (.ok (.ret (.ref a))) s) :=
  .of_wp fun prog w A R s h => by
    obtain ⟨hp, g, d, tk, os⟩ := s
    obtain ⟨at0, h⟩ := h
    have f1 := AutoSeq1.idx_int
    wp_walk using wpAny_loadPart' at0
    repeat first
      | (refine wpAny_ite_false (decide_eq_false (by rw [c0]; exact Bool.false_ne_true)) ?_; wp_walk using wpAny_loadPart' at0)
      | exact ⟨_, rfl, h⟩
set_option maxHeartbeats 4000000 in
theorem mul_zero (a : Addr) (items : Array Value) (m : Nat) (dict : Option Addr) (slots : Array (Option Value)) (u : Tok) (c1 : items.isEmpty = false) :
    Meets (Builtin.«tuple.__mul__» ⟨[.ref a, .int 0 u], []⟩) (fun _ R s => s.heap.get? a = some { cls := .type "tuple", dict := dict, data := .seq items m, slots := slots } ∧
      R (.ok (.ret (Value.ref s.heap.objs.size))) { s with heap := s.heap.push { cls := Value.type "tuple", data := Data.seq #[] }, toks := s.toks }) :=
  .of_wp fun prog w A R s h => by
    obtain ⟨hp, g, d, tk, os⟩ := s
    obtain ⟨at0, h⟩ := h
    have f1 := AutoSeq1.idx_int
    wp_walk using wpAny_loadPart' at0
    repeat first
      | (refine wpAny_ite_false (decide_eq_false (by rw [c1]; decide)) ?_; wp_walk using wpAny_loadPart' at0)
      | exact ⟨_, rfl, h⟩
def rRepA (K : PySem.W.Frag) : R2 := fun x y H Q => ∃ (a : Addr) (n : Nat) (xs : List V), x = .ref a ∧ y = .int (n : Int) ∧ SqT K H a xs ∧ n ≤ 1000 ∧ xs.length ≤ 1000 ∧
  ∀ b H', Same H H' → SqT K H' b (List.replicate n xs).flatten → Q (.ref b) H'
theorem flat_nil {α : Type} : ∀ n : Nat, (List.replicate n ([] : List α)).flatten = []
  | 0 => rfl
  | n + 1 => by rw [List.replicate_succ, List.flatten_cons, flat_nil n]; rfl
set_option maxHeartbeats 4000000 in
theorem op_repA {X : Cx} : OpR X (binaryOp .Mult) (rRepA X.K) := by
  intro pins st σ H x y v u Q I rx ry want
  obtain ⟨a, n, xs, rfl, rfl, seq, few, short, q⟩ := want
  by_cases big : xs ≠ [] ∧ 2 ≤ n
  · refine op_repT pins st σ H _ _ v u Q I rx ry ⟨a, (n : Int), xs, rfl, rfl, seq, big.1, by have := big.2; omega, by omega, short, fun b hb => ?_⟩
    have e : ((n : Int)).toNat = n := by omega
    rw [e]
    exact q b _ (same_new hb) (.inl (.inl upd_same))
  cases rx
  obtain ⟨tk, rfl⟩ := ry
  obtain ⟨vals, rel, ⟨⟨cl, dict, data, slots⟩, found, isT, m, isS⟩, small⟩ := I.tuple seq
  simp only at isT isS
  subst isT isS
  have bound : (decide ((n : Int) < -(2 ^ 63)) || decide ((n : Int) ≥ 2 ^ 63)) = false := by
    rw [decide_eq_false (by omega), decide_eq_false (by omega)]
    rfl
  refine wpAny_binaryOp_repeat_ref (T := "tuple") (U := "int") (by decide) ⟨_, found, rfl⟩ (fun s2 => typeIs_int s2 (n : Int) tk)
    noFill_tuple_mul F.fills_int_mul F.slot_int_rmul
    repeat_tuple F.slot_int_index.lookup ?_
  refine call_meets F.slot_int_rmul (typeIs_int st (n : Int) tk) F.entry_int_rmul (F.args_int_rmul_2 _ _)
    (int_rmul_tuple (n : Int) tk a vals.toArray m dict slots) ⟨found, rfl, ⟨_, found, rfl⟩, ?_⟩
  by_cases hx : xs = []
  · subst hx
    cases rel
    refine call_meets F.slot_tuple_mul ⟨_, found, rfl⟩ F.entry_tuple_mul (F.args_tuple_mul_2 _ _) (mul_nil a m dict slots (n : Int) tk bound) ⟨found, ?_⟩
    exact ⟨.ref a, H, I, rfl, q a H (Same.refl H) (by rw [flat_nil]; exact seq)⟩
  · have hn : n = 0 ∨ n = 1 := by
      rcases Nat.lt_or_ge n 2 with h | h
      · omega
      · exact absurd ⟨hx, h⟩ big
    rcases hn with rfl | rfl
    · have full : vals.toArray.isEmpty = false := by
        cases rel with
        | nil => exact absurd rfl hx
        | cons _ _ => rfl
      refine call_meets F.slot_tuple_mul ⟨_, found, rfl⟩ F.entry_tuple_mul (F.args_tuple_mul_2 _ _) (mul_zero a vals.toArray m dict slots tk full) ⟨found, ?_⟩
      refine ⟨.ref st.heap.objs.size, _, I.laid (t' := st.toks) (o := .tup []) (fun b ob q => Heap.get?_push_of_some _ q) (Nat.le_refl _) ?_, rfl, q _ _ (same_new (I.hok.fresh (Nat.le_refl _))) (.inl (.inl upd_same))⟩
      exact ⟨Nat.zero_le _, [], .nil, IsTup.new _ _⟩
    · refine call_meets F.slot_tuple_mul ⟨_, found, rfl⟩ F.entry_tuple_mul (F.args_tuple_mul_2 _ _) (mul_one a vals.toArray m dict slots tk) ⟨found, ?_⟩
      exact ⟨.ref a, H, I, rfl, q a H (Same.refl H) (by simpa using seq)⟩
end My

/-! t[::-1], t a tuple -/
namespace My
open PySem PySem.Spec PyProof.Rows L2
section
variable {prog : Program} {w : World} {A : Around} {E : Value → Shared → Prop} {s : Shared}
theorem adjust_rev (n : Nat) : Builtin.Slice.sliceAdjust none none (-1) (n : Int) = ((n : Int) - 1, -1) := by
  unfold Builtin.Slice.sliceAdjust
  simp only [show ((-1 : Int) < 0) from by decide, if_true]
theorem places_rev (n : Nat) : Builtin.Slice.slicePlaces ((n : Int) - 1) (-1) (-1) = n := by
  unfold Builtin.Slice.slicePlaces
  have h1 : ¬ ((-1 : Int) > 0) := by decide
  simp only [h1, if_false]
  by_cases h : (n : Int) - 1 > -1
  · rw [if_pos h, show (-(-1) : Int) = 1 from rfl, Int.ediv_one]
    omega
  · rw [if_neg h]
    omega
theorem applied_rev {sl : Addr} {tk : Tok} {n : Nat} {Q : Int × Int × Nat → Shared → Prop} (hs : s.heap.IsSliceOf sl .none .none (.int (-1) tk))
    (h : Q ((n : Int) - 1, -1, n) s) : wpAny (model prog w) A (Builtin.Slice.sliceApplied (.ref sl) (pure (n : Int))) Q E s := by
  obtain ⟨os, hos, hcs, hds⟩ := id hs
  unfold Builtin.Slice.sliceApplied Builtin.Slice.sliceFields
  refine wpAny_bind (wpAny_bind (wpAny_field hos hds (x := .none) rfl (wpAny_bind (wpAny_field hos hds (x := .none) rfl (wpAny_bind (wpAny_field hos hds (x := .int (-1) tk) rfl (wpAny_pure ?_)))))))
  refine wpAny_bind (slicePart_int ?_)
  show wpAny _ _ (if ((-1 : Int) == 0) = true then _ else _) _ _ s
  rw [if_neg (by decide)]
  refine wpAny_bind (slicePart_none (wpAny_bind (slicePart_none (wpAny_bind (wpAny_pure ?_)))))
  show wpAny _ _ (match Builtin.Slice.sliceAdjust none none (-1) (n : Int) with | (lo, hi) => pure (lo, (-1 : Int), Builtin.Slice.slicePlaces lo hi (-1))) _ _ s
  rw [adjust_rev n]
  show wpAny _ _ (pure ((n : Int) - 1, (-1 : Int), Builtin.Slice.slicePlaces ((n : Int) - 1) (-1) (-1))) _ _ s
  rw [places_rev]
  exact wpAny_pure h
theorem pick_rev (xs : Array Value) : ((List.range xs.size).filterMap fun (m : Nat) => xs[(((xs.size : Int) - 1) + (m : Int) * (-1)).toNat]?).toArray = xs.toList.reverse.toArray := by
  congr 1
  have e : (fun (m : Nat) => xs[(((xs.size : Int) - 1) + (m : Int) * (-1)).toNat]?) = (xs[·]?) ∘ fun m => xs.size - 1 - m := by
    funext m
    show _ = xs[xs.size - 1 - m]?
    rw [show (((xs.size : Int) - 1) + (m : Int) * (-1)).toNat = xs.size - 1 - m by omega]
  rw [e, ← List.filterMap_map, PySem.W.krv_range, List.filterMap_reverse, PySem.W.krv_all]
open PySem.SeqAt in
open PySem.AutoSeq1 (wpAny_loadPart') in
open PySem.MeetsSeq PySem.MeetsSeq2 PySem.MeetsSeq3 in
theorem getItem_tuple_rev {t sl : Addr} {items : Array Value} {tk : Tok} {Q : Value → Shared → Prop} (ht : IsTup s.heap t items) (hs : s.heap.IsSliceOf sl .none .none (.int (-1) tk))
    (h : Q (.ref s.heap.objs.size) { s with heap := s.heap.push { cls := .type "tuple", data := .seq items.toList.reverse.toArray } })
    (hsz : items.size ≤ sizeLine) : wpAny (model prog w) A (getItem (.ref t) (.ref sl)) Q E s := by
  have htake : sizeOk (.seq items.toList.reverse.toArray) := by
    show items.toList.reverse.toArray.size ≤ sizeLine
    rw [List.size_toArray, List.length_reverse, Array.length_toList]
    exact hsz
  obtain ⟨os, hos, hcs, hds⟩ := id hs
  have hTs : s.TypeIs (.ref sl) "slice" := ⟨os, hos, hcs⟩
  unfold getItem
  try with_reducible refine wpAny_holding ?_
  first | refine wpAny_bind (wpAny_pure ?_) | skip
  refine wpAny_bind (wpAny_sequenceKey ht.typeIs (by decide) ?_)
  refine wpAny_bind (wpAny_callSpecial?_slot (name := Str.ofString "__getitem__") ht.typeIs PyProof.Rows.slot_tuple_getitem
    (wpAny_call_entry PyProof.Rows.slot_tuple_getitem ht.typeIs entry_tuple_getitem ?_ (args_tuple_getitem _ _)))
  show wpAny _ _ (Builtin.Tuple.tupleItemsOf (.ref t) >>= _) _ _ s
  refine wpAny_bind (tupleItemsOf_ ht ?_)
  refine wpAny_bind (wpAny_typeOf hTs ?_)
  rw [if_pos (by decide)]
  refine wpAny_bind (applied_rev hs ?_)
  have hno : ¬ ((((items.size : Int) - 1) == 0 && (-1 : Int) == 1 && items.size == items.size) = true) := by
    intro q
    rw [Bool.and_eq_true, Bool.and_eq_true] at q
    exact absurd (eq_of_beq q.1.2) (by decide)
  show wpAny _ _ (if (((items.size : Int) - 1) == 0 && (-1 : Int) == 1 && items.size == items.size) = true then _ else _) _ _ s
  rw [if_neg hno, pick_rev]
  first
    | exact wpAny_bind (m := Builtin.Tuple.tupleExact _) (wpAny_newObj_type (wpAny_pure ⟨_, rfl, wpAny_pure h⟩) htake)
    | exact wpAny_bind (m := Builtin.Tuple.tupleExact _) (wpAny_newObj_type (wpAny_bind (wpAny_pure (wpAny_pure ⟨_, rfl, wpAny_pure h⟩))) htake)
    | exact wpAny_bind (wpAny_bind (m := Builtin.Tuple.tupleExact _) (wpAny_newObj_type (wpAny_pure (wpAny_pure ⟨_, rfl, wpAny_pure h⟩)) htake))
    | exact wpAny_bind (wpAny_bind (m := Builtin.Tuple.tupleExact _) (wpAny_newObj_type (wpAny_pure ⟨_, rfl, wpAny_pure h⟩) htake))
end
/-- t[::-1] -/
def tRevT (K : PySem.W.Frag) (te : TE) : TE := fun σ H Q => te σ H fun x H1 => ∃ a xs, x = .ref a ∧ SqT K H1 a xs ∧ ∀ p, H1 p = none → Q (.ref p) (upd H1 p (.tup xs.reverse))
section
variable {X : Cx} {e : Expr} {te : TE} {pos p1 p2 p3 : Pos} {k1 : Nat}
theorem rel_reverse {xs : List V} {us : List Value} (r : Vals xs us) : Vals xs.reverse us.reverse := by
  induction r with
  | nil => exact .nil
  | cons h t ih =>
    rw [List.reverse_cons, List.reverse_cons]
    exact ih.append (.cons h .nil)
theorem pe_revT (he : PE X e te) : PE X (.Subscript e (.Slice none none (some (.UnaryOp .USub (.Constant (.int 1) k1 p1) p3)) p2) pos) (tRevT X.K te) := by
  refine ⟨fun pins s σ H Q I h => ?_⟩
  refine Subscript_ (thn (he.run pins s σ H _ I h) fun v s1 ⟨x, H1, I1, r1, q1⟩ => ?_)
  obtain ⟨a, xs, rfl, hx, q⟩ := q1
  refine wpAny_Slice ?_
  rw [evalPart_none]
  refine wpAny_pure (wpAny_pure ?_)
  rw [evalPart_some]
  have st : PE X (.UnaryOp .USub (.Constant (.int 1) k1 p1) p3) _ := pe_un un_neg pe_int
  refine thn (st.run pins s1 σ H1 (fun y H' => y = .int (-1) ∧ H' = H1) I1 ⟨1, rfl, rfl, rfl⟩) fun u s2 ⟨y, H2, I2, r2, e1, e2⟩ => ?_
  subst e1 e2
  obtain ⟨tk, rfl⟩ := r2
  have I4 : Inv X pins σ H2 { s2 with heap := s2.heap.push { cls := .type "slice", data := .fields #[.none, .none, .int (-1) tk] } } := I2.kept (t' := s2.toks) fun b ob q => Heap.get?_push_of_some _ q
  cases r1
  obtain ⟨its, r, ht, hz⟩ := I4.tuple hx
  have hlen : its.toArray.size = xs.length := by rw [List.size_toArray]; exact r.length.symm
  show wpAny (model X.prog X.w) X.A (subscriptTail e (.Slice none none (some (.UnaryOp .USub (.Constant (.int 1) k1 p1) p3)) p2) (.ref a) (.ref s2.heap.objs.size)) (EP X pins σ Q) X.xe { s2 with heap := s2.heap.push { cls := .type "slice", data := .fields #[.none, .none, .int (-1) tk] } }
  refine tail_any (ops := [.ref a, .ref s2.heap.objs.size]) ht.typeIs PyProof.Rows.slot_tuple_getitem.lookup ?_ (by with_unfolding_all rfl)
  refine getItem_tuple_rev ht (Heap.IsSliceOf.new ..) ?_ (by rw [hlen]; exact hz)
  refine ⟨.ref _, _, I4.laid (t' := s2.toks) (o := .tup xs.reverse) (fun b ob q => Heap.get?_push_of_some _ q) (Nat.le_refl _) ?_, rfl, q _ (I4.hok.fresh (Nat.le_refl _))⟩
  exact ⟨by rw [List.length_reverse]; exact hz, its.reverse, rel_reverse r, IsTup.new _ _⟩
end
end My

namespace My
open PySem PySem.Spec PyProof.Rows L2
/-! ### slices and sums of tuples of anything -/
theorem sl_takeV {K : PySem.W.Frag} {H : Hp} {a : Addr} {xs : List V} {n : Nat} {Q : VK} (h : SqT K H a xs) (hn : n ≤ xs.length) (k : ∀ b H', Same H H' → SqT K H' b (xs.take n) → Q (.ref b) H') :
    rSlA K (.ref a) none (some (n : Int)) H Q := by
  refine ⟨a, xs, rfl, h, fun ⟨_, e⟩ => ?_, fun _ p hp => ?_⟩
  · rw [HT.sIx_nat, Nat.min_eq_left hn] at e
    refine k _ H (Same.refl H) ?_
    rw [e, List.take_length]
    exact h
  · refine k _ _ (same_new hp) ?_
    rw [cut_take hn]
    exact upd_tup
theorem sl_dropV {K : PySem.W.Frag} {H : Hp} {a : Addr} {xs : List V} {n : Nat} {Q : VK} (h : SqT K H a xs) (hn : n ≤ xs.length) (k : ∀ b H', Same H H' → SqT K H' b (xs.drop n) → Q (.ref b) H') :
    rSlA K (.ref a) (some (n : Int)) none H Q := by
  refine ⟨a, xs, rfl, h, fun ⟨e, _⟩ => ?_, fun _ p hp => ?_⟩
  · rw [HT.sIx_nat, Nat.min_eq_left hn] at e
    refine k _ H (Same.refl H) ?_
    rw [e]
    exact h
  · refine k _ _ (same_new hp) ?_
    rw [cut_drop hn]
    exact upd_tup
theorem cat_any {K : PySem.W.Frag} {H : Hp} {a b : Addr} {xs ys : List V} {Q : VK} (ha : SqT K H a xs) (hb : SqT K H b ys) (hl : xs.length + ys.length ≤ sizeLine)
    (k : ∀ c H', Same H H' → SqT K H' c (xs ++ ys) → Q (.ref c) H') : rCatA K (.ref a) (.ref b) H Q := by
  refine ⟨a, b, _, _, rfl, rfl, ha, hb, hl, fun e => ?_, fun _ e => ?_, fun _ _ p hp => ?_⟩
  · refine k _ H (Same.refl H) ?_
    rw [e]
    exact hb
  · refine k _ H (Same.refl H) ?_
    rw [e, List.append_nil]
    exact ha
  · exact k _ _ (same_new hp) upd_tup
theorem dpAll_take {K : PySem.W.Frag} {H : Hp} : ∀ {xs : List V} {ds : List PyData} (n : Nat), DpAll K H xs ds → DpAll K H (xs.take n) (ds.take n)
  | _, _, 0, _ => .nil
  | _, _, n + 1, .nil => .nil
  | _, _, n + 1, .cons a b => .cons a (dpAll_take n b)
theorem dpAll_drop {K : PySem.W.Frag} {H : Hp} : ∀ {xs : List V} {ds : List PyData} (n : Nat), DpAll K H xs ds → DpAll K H (xs.drop n) (ds.drop n)
  | _, _, 0, h => h
  | _, _, n + 1, .nil => .nil
  | _, _, n + 1, .cons a b => dpAll_drop n b
end My

set_option pp.maxSteps 400
set_option pp.deepTerms false
/-! how long what alike tells can be; tuples of any things through draws -/
namespace My
open PySem PySem.Spec PyProof.Rows L2
def hide (m l : Addr) (H : Hp) : Hp := fun b => if b = m ∨ b = l then none else H b
theorem hide_same {m l : Addr} {H H' : Hp} (s : Same H H') : Same (hide m l H) (hide m l H') := fun b o h => by
  unfold hide at h ⊢
  by_cases e : b = m ∨ b = l
  · rw [if_pos e] at h
    cases h
  · rw [if_neg e] at h ⊢
    exact s _ _ h
theorem hide_kp {m l l' : Addr} {H H' : Hp} (k : Kp m l H l' H') : Same (hide m l H) H' := fun b o h => by
  unfold hide at h
  by_cases e : b = m ∨ b = l
  · rw [if_pos e] at h
    cases h
  · rw [if_neg e] at h
    exact k.st b o h (fun z => e (.inl z)) (fun z => e (.inr z))
theorem hide_sub {m l : Addr} {H : Hp} : Same (hide m l H) H := fun b o h => by
  unfold hide at h
  by_cases e : b = m ∨ b = l
  · rw [if_pos e] at h
    cases h
  · rw [if_neg e] at h
    exact h
theorem hide_step {m l l' : Addr} {H H' : Hp} (k : Kp m l H l' H') : Same (hide m l H) (hide m l' H') := fun b o h => by
  have h1 : H b = some o := hide_sub b o h
  have h2 := hide_kp k b o h
  unfold hide at h ⊢
  by_cases e : b = m ∨ b = l
  · rw [if_pos e] at h
    cases h
  · rw [if_neg (fun z => by
      rcases z with z | z
      · exact e (.inl z)
      · rcases k.nw with y | y
        · exact e (.inr (z.trans y))
        · rw [z, y] at h1
          cases h1)]
    exact h2
theorem sq_hide {K : PySem.W.Frag} {H : Hp} {m c l n a : Addr} {xs : List V} (D : Dr H m c l n) (h : SqT K H a xs) : SqT K (hide m l H) a xs := by
  obtain ⟨cs, ls, k, h1, h2, h3, _⟩ := D.ex
  have hh : ∀ o, H a = some o → Tp o → hide m l H a = some o := fun o e t => by
    unfold hide
    rw [if_neg (fun z => by
      rcases z with z | z
      · rw [z, h1] at e; cases e; exact t
      · rw [z, h3] at e; cases e; exact t)]
    exact e
  rcases h with (h | ⟨o, h⟩) | h
  · exact .inl (.inl (hh _ h trivial))
  · exact .inl (.inr ⟨o, hh _ h trivial⟩)
  · exact .inr h
theorem kp_of {m l : Addr} {H H' : Hp} (s : Same H H') : Kp m l H l H' := ⟨fun b o h _ _ => s b o h, .inl rfl, fun b h => by
  cases e : H b with
  | none => rfl
  | some o => rw [s b o e] at h; cases h⟩
theorem hide_at {m c l n p : Addr} {H : Hp} {o : HO} (D : Dr H m c l n) (h : H p = none) : hide m l (upd H p o) p = some o := by
  obtain ⟨cs, ls, k, h1, h2, h3, r⟩ := D.ex
  unfold hide
  rw [if_neg (fun e => by
    rcases e with e | e
    · rw [e, h1] at h; cases h
    · rw [e, h3] at h; cases h)]
  exact upd_same
/-! the bound -/
theorem aled_lev {C D : Cod} : ∀ (r : List Nat) (c c' : Cpl), some c' = r.foldl (C.aled D) (some c) → c' = c ∨ c'.1.1 = c'.2.1 := by
  intro r c c' h
  rcases List.eq_nil_or_concat r with rfl | ⟨q, k, rfl⟩
  · cases h
    exact .inl rfl
  · refine .inr ?_
    rw [List.concat_eq_append, List.foldl_append] at h
    have h : some c' = C.aled D (q.foldl (C.aled D) (some c)) k := h
    cases z : q.foldl (C.aled D) (some c) with
    | none => rw [z] at h; cases h
    | some e =>
      rw [z] at h
      have h : some c' = if (C.led e.1 k).1 = (D.led e.2 k).1 then some (C.led e.1 k, D.led e.2 k) else none := h
      split at h
      · rename_i g
        cases h
        exact g
      · cases h
def alkM (C D : Cod) : Nat := C.sts.length * D.steps.length + 2
def lvl (C D : Cod) (c : Cpl) : List (Option Cpl) := none :: some c :: C.sts.flatMap fun a => (List.range D.steps.length).map fun k : Nat => some (a, (a.1, (k : Int)))
theorem alk_few2 {C D : Cod} (O : C.Ok) (O' : D.Ok) {c : Cpl} (h : StD C D c) : Few (C.aled D) C.moves.length (some c) (alkM C D) := by
  have e : (lvl C D c).length = alkM C D := by
    unfold lvl alkM
    rw [List.length_cons, List.length_cons, flat_len _ _ D.steps.length fun a _ => by rw [List.length_map, List.length_range]]
  rw [← e]
  refine few_of fun E g e he => ?_
  have hr := (g.run e he).1
  unfold lvl
  cases z : e.1 with
  | none => exact .head _
  | some d =>
    rw [z] at hr
    obtain ⟨h1, h2⟩ := run_StD O O' h hr
    rcases aled_lev _ _ _ hr with rfl | hl
    · exact .tail _ (.head _)
    · refine .tail _ (.tail _ (List.mem_flatMap.mpr ⟨d.1, sts_mem O h1, List.mem_map.mpr ⟨d.2.2.toNat, List.mem_range.mpr ?_, ?_⟩⟩))
      · have := h2.2.2
        omega
      · have := h2.2.2.1
        exact congrArg some (Prod.ext rfl (Prod.ext hl (by show ((d.2.2.toNat : Nat) : Int) = d.2.2; omega)))
theorem alkM_N {C D : Cod} (O' : D.Ok) (hc : 1 ≤ C.sts.length) : alkM C D ≤ alkM C D + alkN C D := Nat.le_add_right _ _
/-- a paper that is told: a word and a tuple that is not long -/
theorem alk_len {C D : Cod} {c : Cpl} {d : PyData} (O : C.Ok) (O' : D.Ok) (h : StD C D c) (a : AlkOut C D c d) : ∃ s ds, d = .tuple [.str s, .tuple ds] ∧ ds.length ≤ alkM C D ∧ (s = Str.ofString "alike" ∨ s = Str.ofString "apart") := by
  have few := alk_few O O' h
  have few2 := alk_few2 O O' h
  have gd := Gd.lyr (led := C.aled D) (m := C.moves.length) (some c) (alkN C D)
  rw [lyr_stops few, List.append_nil] at gd
  have hB := few2 _ gd
  unfold AlkOut at a
  cases hp : pick Option.isNone (alkB C D c) with
  | some r =>
    rw [hp] at a
    subst a
    refine ⟨_, _, rfl, ?_, .inr rfl⟩
    rw [List.length_map]
    unfold pick at hp
    obtain ⟨e, he, rfl⟩ := Option.map_eq_some_iff.mp hp
    have hm := List.mem_of_find?_eq_some he
    rcases Nat.le_total (alkM C D) (alkN C D) with hn | hn
    · have hall : alkB C D c = (lyr (C.aled D) C.moves.length (some c) (alkM C D)).1 := allB_of (some c) (lyr_stops few2) hn
      rw [hall] at hm
      exact lyr_lenB (led := C.aled D) (m := C.moves.length) (some c) (alkM C D) e (List.mem_append_left _ hm)
    · have := lyr_lenB (led := C.aled D) (m := C.moves.length) (some c) (alkN C D) e (List.mem_append_left _ hm)
      omega
  | none =>
    rw [hp] at a
    obtain ⟨T, hT, rfl⟩ := a
    refine ⟨_, _, rfl, ?_, .inl rfl⟩
    have nd : T.Nodup := by
      show List.Pairwise (fun a b => a ≠ b) T
      exact List.Pairwise.imp (fun {a b} (h : ltC a b) (z : a = b) => ltC_ord.irr b (by rw [z] at h; exact h)) hT.1
    have h1 := List.Nodup.length_le_of_subset nd (fun x hx => (hT.2 x).mp hx : T ⊆ alkP C D c)
    have h2 : (alkP C D c).length ≤ (alkB C D c).length := List.length_filterMap_le ..
    rw [List.length_map]
    exact Nat.le_trans h1 (Nat.le_trans h2 hB)
/-! one list more that is hidden: a law's own, which is changed while the facts stand -/
def hd (S m l : Addr) (H : Hp) : Hp := fun b => if b = m ∨ b = l ∨ b = S then none else H b
theorem hd_sub {S m l : Addr} {H : Hp} : Same (hd S m l H) H := fun b o h => by
  unfold hd at h
  split at h
  · cases h
  · exact h
theorem hd_of {S m l : Addr} {H : Hp} {b : Addr} {o : HO} (h : H b = some o) (n1 : b ≠ m) (n2 : b ≠ l) (n3 : b ≠ S) : hd S m l H b = some o := by
  unfold hd
  rw [if_neg (fun z => by rcases z with z | z | z <;> contradiction)]
  exact h
theorem hd_ne {S m l : Addr} {H : Hp} {b : Addr} {o : HO} (h : hd S m l H b = some o) : b ≠ m ∧ b ≠ l ∧ b ≠ S := by
  unfold hd at h
  split at h
  · cases h
  · rename_i e
    exact ⟨fun z => e (.inl z), fun z => e (.inr (.inl z)), fun z => e (.inr (.inr z))⟩
theorem hd_same {S m l : Addr} {H H' : Hp} (s : Same H H') : Same (hd S m l H) (hd S m l H') := fun b o h => by
  obtain ⟨a1, a2, a3⟩ := hd_ne h
  exact hd_of (s b o (hd_sub b o h)) a1 a2 a3
theorem hd_step {S m l l' : Addr} {H H' : Hp} (k : Kp m l H l' H') : Same (hd S m l H) (hd S m l' H') := fun b o h => by
  obtain ⟨a1, a2, a3⟩ := hd_ne h
  have h1 := hd_sub b o h
  exact hd_of (k.st b o h1 a1 a2) a1 (k.off h1 a2) a3
theorem hd_kp {S m l l' : Addr} {H H' : Hp} (k : Kp m l H l' H') : Same (hd S m l H) H' := (hd_step k).trans hd_sub
/-- the drawer, and a list that is hidden -/
structure Ds (S : Addr) (H : Hp) (m c l n : Nat) : Prop where
  d : Dr H m c l n
  s : ∃ xs, H S = some (.lst xs)
  m : S ≠ m
  l : S ≠ l
theorem Ds.same {S : Addr} {H H' : Hp} {m c l n : Nat} (D : Ds S H m c l n) (s : Same H H') : Ds S H' m c l n := ⟨D.d.same s, D.s.imp fun _ h => s _ _ h, D.m, D.l⟩
theorem Ds.less {S : Addr} {H : Hp} {m c l n k : Nat} (D : Ds S H m c l n) (h : k ≤ n) : Ds S H m c l k := ⟨D.d.less h, D.s, D.m, D.l⟩
theorem Ds.draw {S : Addr} {H H' : Hp} {m c l l' n n' : Nat} (D : Ds S H m c l n) (k : Kp m l H l' H') (d : Dr H' m c l' n') : Ds S H' m c l' n' := by
  obtain ⟨xs, h⟩ := D.s
  exact ⟨d, ⟨xs, k.st _ _ h D.m D.l⟩, D.m, k.off h D.l⟩
theorem Ds.fresh {S : Addr} {H : Hp} {m c l n p : Nat} (D : Ds S H m c l n) (h : H p = none) : p ≠ m ∧ p ≠ l ∧ p ≠ S := by
  obtain ⟨cs, ls, k, h1, h2, h3, _⟩ := D.d.ex
  obtain ⟨xs, h4⟩ := D.s
  refine ⟨fun z => ?_, fun z => ?_, fun z => ?_⟩
  · rw [z, h1] at h; cases h
  · rw [z, h3] at h; cases h
  · rw [z, h4] at h; cases h
theorem hd_at {S m c l n p : Addr} {H : Hp} {o : HO} (D : Ds S H m c l n) (h : H p = none) : hd S m l (upd H p o) p = some o := by
  obtain ⟨a1, a2, a3⟩ := D.fresh h
  exact hd_of upd_same a1 a2 a3
theorem keep_hd {S : Addr} {H : Hp} {m c l n : Nat} (D : Ds S H m c l n) : Keep H (hd S m l H) := fun b o e t => by
  obtain ⟨cs, ls, k, h1, h2, h3, _⟩ := D.d.ex
  obtain ⟨xs, h4⟩ := D.s
  refine hd_of e (fun z => ?_) (fun z => ?_) (fun z => ?_)
  · rw [z, h1] at e; cases e; exact t
  · rw [z, h3] at e; cases e; exact t
  · rw [z, h4] at e; cases e; exact t
theorem sq_hd {K : PySem.W.Frag} {S : Addr} {H : Hp} {m c l n a : Addr} {xs : List V} (D : Ds S H m c l n) (h : SqT K H a xs) : SqT K (hd S m l H) a xs := (keep_hd D).tup h
/-! tuples of any things -/
structure PapN (n : Nat) (d : PyData) : Prop where
  lay : ∀ s r, d = .tuple (.str s :: r) → (PyData.str s).canLay0 = true
  len : ∀ a ds r, d = .tuple (a :: .tuple ds :: r) → ds.length ≤ n
  hd : ∀ a r, d = .tuple (a :: r) → a = .none ∨ ∃ s, a = .str s
theorem PapN.ok {n : Nat} {d : PyData} (h : PapN n d) (hn : n ≤ 70000) : PapOk d := ⟨h.lay, fun a ds r e => Nat.le_trans (h.len a ds r e) hn⟩
theorem PapN.mono {n k : Nat} {d : PyData} (h : PapN n d) (hn : n ≤ k) : PapN k d := ⟨h.lay, fun a ds r e => Nat.le_trans (h.len a ds r e) hn, h.hd⟩
theorem papN_other {n : Nat} {d : PyData} (h : ∀ ds, d ≠ .tuple ds) : PapN n d := ⟨fun s r e => absurd e (h _), fun a ds r e => absurd e (h _), fun a r e => absurd e (h _)⟩
def Dw (K : PySem.W.Frag) (H : Hp) (v : V) (n : Nat) : Prop := ∃ ds, Dp K H v (.tuple ds) ∧ ds.length ≤ n
section
variable {K : PySem.W.Frag}
theorem Dw.same {H H' : Hp} {v : V} {n : Nat} (h : Dw K H v n) (s : Same H H') : Dw K H' v n := by
  obtain ⟨ds, h1, h2⟩ := h
  exact ⟨ds, dp_same s _ _ h1, h2⟩
theorem Dw.mono {H : Hp} {v : V} {n n' : Nat} (h : Dw K H v n) (hn : n ≤ n') : Dw K H v n' := by
  obtain ⟨ds, h1, h2⟩ := h
  exact ⟨ds, h1, Nat.le_trans h2 hn⟩
theorem dw_cat {S : Addr} {H : Hp} {m c l k n1 n2 : Nat} {v1 v2 : V} {Q : VK} (D : Ds S H m c l k) (h1 : Dw K (hd S m l H) v1 n1) (h2 : Dw K (hd S m l H) v2 n2) (hl : n1 + n2 ≤ 60000)
    (q : ∀ v H', Same H H' → Ds S H' m c l k → Dw K (hd S m l H') v (n1 + n2) → Q v H') : rCatA K v1 v2 H Q := by
  obtain ⟨ds, a1, a2⟩ := h1
  obtain ⟨es, b1, b2⟩ := h2
  obtain ⟨a, xs, rfl, ha, hda⟩ := dp_tup a1
  obtain ⟨b, ys, rfl, hb, hdb⟩ := dp_tup b1
  have l1 := dpAll_len hda
  have l2 := dpAll_len hdb
  refine cat_any (same_tup hd_sub ha) (same_tup hd_sub hb) (Nat.le_trans (show _ ≤ 60000 by omega) (by decide)) fun c' H' s hc => ?_
  have D' := D.same s
  exact q _ H' s D' ⟨_, .tup (sq_hd D' hc) (dpAll_app (dpAll_same (hd_same s) _ _ hda) (dpAll_same (hd_same s) _ _ hdb)), by rw [List.length_append]; omega⟩
theorem dw_cut {S : Addr} {H : Hp} {m c l k n : Nat} {v : V} {lo hi : Option Int} {Q : VK} (D : Ds S H m c l k) (h : Dw K (hd S m l H) v n)
    (q : ∀ v H', Same H H' → Ds S H' m c l k → Dw K (hd S m l H') v n → Q v H') : rSlA K v lo hi H Q := by
  obtain ⟨ds, a1, a2⟩ := h
  obtain ⟨a, xs, rfl, ha, hda⟩ := dp_tup a1
  refine ⟨a, xs, rfl, same_tup hd_sub ha, fun _ => q _ H (Same.refl H) D ⟨ds, a1, a2⟩, fun _ p hp => ?_⟩
  have s := same_new (o := .tup (cutV xs lo hi)) hp
  have D' := D.same s
  exact q _ _ s D' ⟨_, .tup (sq_hd D' upd_tup) (dpAll_same (hd_same s) _ _ (dpAll_take _ (dpAll_drop _ hda))), by rw [List.length_take, List.length_drop]; omega⟩
theorem dp_new {S : Addr} {H : Hp} {m c l k : Nat} {vs : List V} {ds : List PyData} {p : Addr} (D : Ds S H m c l k) (h : DpAll K (hd S m l H) vs ds) (hp : H p = none) : Ds S (upd H p (.tup vs)) m c l k ∧ Same H (upd H p (.tup vs)) ∧ Dp K (hd S m l (upd H p (.tup vs))) (.ref p) (.tuple ds) := by
  have s := same_new (o := .tup vs) hp
  have D' := D.same s
  exact ⟨D', s, .tup (sq_hd D' upd_tup) (dpAll_same (hd_same s) _ _ h)⟩
theorem dp_newL {S : Addr} {H : Hp} {m c l k : Nat} {vs : List V} {ds : List PyData} {p : Addr} (D : Ds S H m c l k) (h : DpAll K (hd S m l H) vs ds) (hp : H p = none) : Ds S (upd H p (.lst vs)) m c l k ∧ Same H (upd H p (.lst vs)) ∧ Dp K (hd S m l (upd H p (.lst vs))) (.ref p) (.list ds) := by
  have s := same_new (o := .lst vs) hp
  have D' := D.same s
  exact ⟨D', s, .lst (SqL.of (hd_at D hp)) (dpAll_same (hd_same s) _ _ h)⟩
/-- a thing that may be a paper -/
def El (K : PySem.W.Frag) (H : Hp) (n : Nat) (v : V) : Prop := ∃ d, Dp K H v d ∧ PapN n d
theorem El.same {H H' : Hp} {n : Nat} {v : V} (h : El K H n v) (s : Same H H') : El K H' n v := by
  obtain ⟨d, h1, h2⟩ := h
  exact ⟨d, dp_same s _ _ h1, h2⟩
theorem El.mono {H : Hp} {n n' : Nat} {v : V} (h : El K H n v) (hn : n ≤ n') : El K H n' v := by
  obtain ⟨d, h1, h2⟩ := h
  exact ⟨d, h1, h2.mono hn⟩
/-- a thing that may be the second part of a paper -/
def Sc (K : PySem.W.Frag) (H : Hp) (n : Nat) (v : V) : Prop := ∃ d, Dp K H v d ∧ ∀ ds, d = .tuple ds → ds.length ≤ n
theorem Sc.same {H H' : Hp} {n : Nat} {v : V} (h : Sc K H n v) (s : Same H H') : Sc K H' n v := by
  obtain ⟨d, h1, h2⟩ := h
  exact ⟨d, dp_same s _ _ h1, h2⟩
theorem Sc.mono {H : Hp} {n n' : Nat} {v : V} (h : Sc K H n v) (hn : n ≤ n') : Sc K H n' v := by
  obtain ⟨d, h1, h2⟩ := h
  exact ⟨d, h1, fun ds e => Nat.le_trans (h2 ds e) hn⟩
theorem Dw.sc {H : Hp} {n n' : Nat} {v : V} (h : Dw K H v n) (hn : n ≤ n') : Sc K H n' v := by
  obtain ⟨ds, h1, h2⟩ := h
  exact ⟨_, h1, fun es e => by cases e; exact Nat.le_trans h2 hn⟩
theorem pick_v {xs : List V} {r : Int} (h0 : 0 ≤ r) (h1 : r < (xs.length : Int)) : ∃ z, z ∈ xs ∧ atI xs r = some z := by
  obtain ⟨n, rfl⟩ := Int.eq_ofNat_of_zero_le h0
  have hn : n < xs.length := by omega
  exact ⟨xs[n], List.getElem_mem hn, atI_nat (List.getElem?_eq_getElem hn)⟩
theorem dp_cat {S : Addr} {H : Hp} {m c l k : Nat} {v1 v2 : V} {ds es : List PyData} {Q : VK} (D : Ds S H m c l k) (h1 : Dp K (hd S m l H) v1 (.tuple ds)) (h2 : Dp K (hd S m l H) v2 (.tuple es)) (hl : ds.length + es.length ≤ 60000)
    (q : ∀ v H', Same H H' → Ds S H' m c l k → Dp K (hd S m l H') v (.tuple (ds ++ es)) → Q v H') : rCatA K v1 v2 H Q := by
  obtain ⟨a, xs, rfl, ha, hda⟩ := dp_tup h1
  obtain ⟨b, ys, rfl, hb, hdb⟩ := dp_tup h2
  have l1 := dpAll_len hda
  have l2 := dpAll_len hdb
  refine cat_any (same_tup hd_sub ha) (same_tup hd_sub hb) (Nat.le_trans (show _ ≤ 60000 by omega) (by decide)) fun c' H' s hc => ?_
  have D' := D.same s
  exact q _ H' s D' (.tup (sq_hd D' hc) (dpAll_app (dpAll_same (hd_same s) _ _ hda) (dpAll_same (hd_same s) _ _ hdb)))
def Els (K : PySem.W.Frag) (H : Hp) (n : Nat) (xs : List V) : Prop := ∀ z ∈ xs, El K H n z
theorem Els.nil {H : Hp} {n : Nat} : Els K H n [] := fun _ h => nomatch h
theorem Els.snoc {H H' : Hp} {n : Nat} {xs : List V} {v : V} (h : Els K H n xs) (s : Same H H') (e : El K H' n v) : Els K H' n (xs ++ [v]) := fun z hz => by
  rcases List.mem_append.mp hz with h' | h'
  · exact (h z h').same s
  · rw [List.mem_singleton.mp h']; exact e
theorem Els.same {H H' : Hp} {n : Nat} {xs : List V} (h : Els K H n xs) (s : Same H H') : Els K H' n xs := fun z hz => (h z hz).same s
def Scs (K : PySem.W.Frag) (H : Hp) (n : Nat) (xs : List V) : Prop := ∀ z ∈ xs, Sc K H n z
theorem Scs.nil {H : Hp} {n : Nat} : Scs K H n [] := fun _ h => nomatch h
theorem Scs.snoc {H H' : Hp} {n : Nat} {xs : List V} {v : V} (h : Scs K H n xs) (s : Same H H') (e : Sc K H' n v) : Scs K H' n (xs ++ [v]) := fun z hz => by
  rcases List.mem_append.mp hz with h' | h'
  · exact (h z h').same s
  · rw [List.mem_singleton.mp h']; exact e
theorem Scs.same {H H' : Hp} {n : Nat} {xs : List V} (h : Scs K H n xs) (s : Same H H') : Scs K H' n xs := fun z hz => (h z hz).same s
/-- two parts in a tuple -/
theorem el_two {H : Hp} {n : Nat} {v : V} {d0 d1 : PyData} (h : Dp K H v (.tuple [d0, d1])) (lay : ∀ s, d0 = .str s → (PyData.str s).canLay0 = true) (hd : d0 = .none ∨ ∃ s, d0 = .str s) (len : ∀ ds, d1 = .tuple ds → ds.length ≤ n) : El K H n v :=
  ⟨_, h, fun s r e => lay s (by cases e; rfl), fun a ds r e => len ds (by cases e; rfl), fun a r e => by cases e; exact hd⟩
theorem dp_hidep {S : Addr} {H : Hp} {m c l k : Nat} {v : V} {s : Int × Int} (D : Ds S H m c l k) (h : Dp K H v (pairI s)) : Dp K (hd S m l H) v (pairI s) := by
  obtain ⟨p, rfl, hp⟩ := dp_pair h
  exact dp_mkpair (sq_hd D hp)
theorem dpAll_rev {H : Hp} : ∀ {xs : List V} {ds : List PyData}, DpAll K H xs ds → DpAll K H xs.reverse ds.reverse
  | _, _, .nil => .nil
  | _, _, .cons h r => by
    rw [List.reverse_cons, List.reverse_cons]
    exact dpAll_app (dpAll_rev r) (.cons h .nil)
theorem dw_rev {S : Addr} {H : Hp} {m c l k n : Nat} {v : V} (D : Ds S H m c l k) (h : Dw K (hd S m l H) v n) :
    ∃ a xs, v = .ref a ∧ SqT K H a xs ∧ ∀ p, H p = none → Ds S (upd H p (.tup xs.reverse)) m c l k ∧ Same H (upd H p (.tup xs.reverse)) ∧ Dw K (hd S m l (upd H p (.tup xs.reverse))) (.ref p) n := by
  obtain ⟨ds, a1, a2⟩ := h
  obtain ⟨a, xs, rfl, ha, hda⟩ := dp_tup a1
  refine ⟨a, xs, rfl, same_tup hd_sub ha, fun p hp => ?_⟩
  obtain ⟨D', s, b⟩ := dp_new D (dpAll_rev hda) hp
  exact ⟨D', s, _, b, by rw [List.length_reverse]; exact a2⟩
theorem dpAll_two2 {H : Hp} {xs : List V} {ds : List PyData} (h : DpAll K H xs ds) : DpAll K H (List.replicate 2 xs).flatten (ds ++ ds) := by
  show DpAll K H (xs ++ (xs ++ [])) (ds ++ ds)
  rw [List.append_nil]
  exact dpAll_app h h
theorem dw_twice {S : Addr} {H : Hp} {m c l k n : Nat} {v : V} (D : Ds S H m c l k) (h : Dw K (hd S m l H) v n) (hn : n ≤ 1000) :
    ∃ a xs, v = .ref a ∧ SqT K H a xs ∧ xs.length ≤ 1000 ∧ ∀ b H', Same H H' → SqT K H' b (List.replicate 2 xs).flatten → Ds S H' m c l k ∧ Dw K (hd S m l H') (.ref b) (n + n) := by
  obtain ⟨ds, a1, a2⟩ := h
  obtain ⟨a, xs, rfl, ha, hda⟩ := dp_tup a1
  have hl := dpAll_len hda
  refine ⟨a, xs, rfl, same_tup hd_sub ha, by omega, fun b H' s hb => ?_⟩
  have D' := D.same s
  exact ⟨D', _, .tup (sq_hd D' hb) (dpAll_two2 (dpAll_same (hd_same s) _ _ hda)), by rw [List.length_append]; omega⟩
theorem dw_list {S : Addr} {H : Hp} {m c l k n : Nat} {v : V} (D : Ds S H m c l k) (h : Dw K (hd S m l H) v n) :
    ∃ p ys, [v] = [.ref p] ∧ (SqL K H p ys ∨ SqT K H p ys) ∧ ∀ a, H a = none → Ds S (upd H a (.lst ys)) m c l k ∧ Same H (upd H a (.lst ys)) ∧ Sc K (hd S m l (upd H a (.lst ys))) n (.ref a) := by
  obtain ⟨ds, a1, a2⟩ := h
  obtain ⟨a, xs, rfl, ha, hda⟩ := dp_tup a1
  refine ⟨a, xs, rfl, .inr (same_tup hd_sub ha), fun p hp => ?_⟩
  obtain ⟨D', s, b⟩ := dp_newL D hda hp
  exact ⟨D', s, _, b, nofun⟩
end
end My

set_option pp.maxSteps 400
set_option pp.deepTerms false
/-! papers bent -/
namespace My
open PySem PySem.Spec PyProof.Rows L2
section
variable {P : Program} {w : World} {K : PySem.W.Frag} {mg : Str → Option Value} {base : Heap}
def sp_law_bent (K : PySem.W.Frag) : Sp := fun vs H Q _ => ∃ (S m q l : Addr) (k n : Nat) (c o p : V) (C G : Cod) (d0 d1 : PyData), vs = [.ref m, c, o, p] ∧ C.Ok ∧ G.Ok ∧ Ds S H m q l (k + 8) ∧ Dp K (hd S m l H) c C.dat ∧ Dp K (hd S m l H) o G.dat ∧ Dp K (hd S m l H) p (.tuple [d0, d1]) ∧ PapN n (.tuple [d0, d1]) ∧ n ≤ 400 ∧
  ∀ z l' H', Kp m l H l' H' → Ds S H' m q l' k → El K (hd S m l' H') (2 * n + 1) z → Q z H'
set_option maxHeartbeats 4000000 in
theorem ok_law_bent (T : Txt K mg) : FnOk P w K mg base CX0 4 T.f__law_bent T.d__law_bent ["m", "coder", "other", "paper"] (sp_law_bent K) := by
  refine T.F__law_bent.ok sc_law_bent (fun vs H Q E h => ?_) (fun cdv A outer s H vs Q E hr h => ?_)
  · obtain ⟨S, m, q, l, k, n, c, o, p, C, G, d0, d1, rfl, _⟩ := h
    rfl
  · obtain ⟨S, m, q, l, k, n, c, o, p, C, G, d0, d1, rfl, O, O', D, hc, ho, hp, pn, hn, qq⟩ := h
    refine ⟨_,
(pss_cons (ps_par (i := 4) (j := 5) (by rfl) sc_law_bent.nd rfl rfl (by decide) rfl rfl (pa_cons (pe_call (ok_law_next T) (hr.mono (by decide)) (by rfl) T.g__law_next T.F__law_next.kp T.b__law_next .nil pass0 (pa_cons (pv 0) (pa_cons pe_int pa_nil))) (pa_cons (pe_ix ix_tup (pv 3) pe_int (fun _ _ => rfl)) pa_nil)) (by rfl))
      (pss_cons (ps_if (pt_cmpR op_eq (pv 4) pe_int (nomark _)) (pss_cons (ps_set (i := 6) sc_law_bent.nd rfl (Or.inl rfl) (pe_lst (pa_cons (pe_slice sl_tupA (pv 3) po_none (po_some pe_int)) (pa_cons (pe_op op_catA (pv 3) (pe_tup (pa_cons (pe_tup pa_nil) pa_nil))) (pa_cons (pe_callTy call_list_of (by rfl) T.z_list (by decide +kernel) (pa_cons (pv 3) pa_nil)) (pa_cons pe_non (pa_cons (pe_tup (pa_cons pe_non (pa_cons (pv 5) pa_nil))) (pa_cons (pe_tup (pa_cons pe_str (pa_cons (pv 5) pa_nil))) (pa_cons (pe_tup (pa_cons pe_str (pa_cons (pv 5) pa_nil))) pa_nil)))))))))
      (pss_one (ps_ret (pe_ix ix_list (pe_op op_cat (pv 6) (pe_lst (pa_cons (pe_tup (pa_cons pe_str (pa_cons (pv 5) pa_nil))) pa_nil))) (pe_call (ok_law_next T) (hr.mono (by decide)) (by rfl) T.g__law_next T.F__law_next.kp T.b__law_next .nil pass0 (pa_cons (pv 0) (pa_cons pe_int pa_nil))) (fun _ _ => rfl))))) pss_nil)
      (pss_cons (ps_if (pt_not (pt_val (pe_callB (call_isi) (by rfl) T.z_isinstance (by decide +kernel) (pa_cons (pv 5) (pa_cons (pe_bltn (v := .ty "tuple") (by rfl) T.z_tuple (by decide +kernel) rfl) pa_nil))))) (pss_one (ps_ret (pv 3))) pss_nil)
      (pss_cons (ps_set (i := 7) sc_law_bent.nd rfl (Or.inl rfl) (pe_call (ok_law_next T) (hr.mono (by decide)) (by rfl) T.g__law_next T.F__law_next.kp T.b__law_next .nil pass0 (pa_cons (pv 0) (pa_cons (pe_callB (call_max2 rfl) (by rfl) T.z_max (by decide +kernel) (pa_cons pe_int (pa_cons (pe_callB (call_len_seq) (by rfl) T.z_len (by decide +kernel) (pa_cons (pv 5) pa_nil)) pa_nil))) pa_nil))))
      (pss_cons (ps_set (i := 8) sc_law_bent.nd rfl (Or.inl rfl) (pe_tup (pa_cons (pe_call (ok_law_some_state T) (hr.mono (by decide)) (by rfl) T.g__law_some_state T.F__law_some_state.kp T.b__law_some_state .nil pass0 (pa_cons (pv 0) (pa_cons (pv 1) pa_nil))) (pa_cons (pe_call (ok_law_some_state T) (hr.mono (by decide)) (by rfl) T.g__law_some_state T.F__law_some_state.kp T.b__law_some_state .nil pass0 (pa_cons (pv 0) (pa_cons (pv 2) pa_nil))) pa_nil))))
      (pss_cons (ps_if (pt_cmpR op_eq (pe_ix ix_tup (pv 3) pe_int (fun _ _ => rfl)) pe_str (nomark _)) (pss_one (ps_set (i := 8) sc_law_bent.nd rfl (Or.inl rfl) (pe_call (ok_law_next T) (hr.mono (by decide)) (by rfl) T.g__law_next T.F__law_next.kp T.b__law_next .nil pass0 (pa_cons (pv 0) (pa_cons (pe_callB (call_len_seq) (by rfl) T.z_len (by decide +kernel) (pa_cons (pe_ix ix_tup (pv 1) pe_int (fun _ _ => rfl)) pa_nil)) pa_nil))))) pss_nil)
      (pss_cons (ps_set (i := 6) sc_law_bent.nd rfl (Or.inl rfl) (pe_lst (pa_cons (pe_op op_catA (pe_slice sl_tupA (pv 5) po_none (po_some (pv 7))) (pe_slice sl_tupA (pv 5) (po_some (pe_op op_add (pv 7) pe_int)) po_none)) (pa_cons (pe_op op_catA (pe_op op_catA (pe_slice sl_tupA (pv 5) po_none (po_some (pv 7))) (pe_tup (pa_cons (pv 8) pa_nil))) (pe_slice sl_tupA (pv 5) (po_some (pv 7)) po_none)) (pa_cons (pe_op op_catA (pe_op op_catA (pe_slice sl_tupA (pv 5) po_none (po_some (pv 7))) (pe_tup (pa_cons (pv 8) pa_nil))) (pe_slice sl_tupA (pv 5) (po_some (pe_op op_add (pv 7) pe_int)) po_none)) (pa_cons (My.pe_revT (pv 5)) (pa_cons (pe_tup pa_nil) pa_nil)))))))
      (pss_cons (ps_set (i := 6) sc_law_bent.nd rfl (Or.inl rfl) (pe_op op_cat (pv 6) (pe_lst (pa_cons (pe_op op_catA (pe_op op_catA (pe_slice sl_tupA (pv 5) po_none (po_some (pv 7))) (pe_tup (pa_cons pe_non pa_nil))) (pe_slice sl_tupA (pv 5) (po_some (pe_op op_add (pv 7) pe_int)) po_none)) (pa_cons (pe_callTy call_list_of (by rfl) T.z_list (by decide +kernel) (pa_cons (pv 5) pa_nil)) (pa_cons (pe_op op_catA (pv 5) (pe_slice sl_tupA (pv 5) (po_some (pv 7)) (po_some (pe_op op_add (pv 7) pe_int)))) (pa_cons pe_non (pa_cons (pe_op op_catA (pv 5) (pe_tup (pa_cons (pe_un un_neg pe_int) pa_nil))) (pa_cons (pe_op My.op_repA (pv 5) pe_int) pa_nil)))))))))
      (pss_one (ps_ret (pe_tup (pa_cons (pe_ix ix_tup (pv 3) pe_int (fun _ _ => rfl)) (pa_cons (pe_ix ix_list (pv 6) (pe_call (ok_law_next T) (hr.mono (by decide)) (by rfl) T.g__law_next T.F__law_next.kp T.b__law_next .nil pass0 (pa_cons (pv 0) (pa_cons pe_int pa_nil))) (fun _ _ => rfl)) pa_nil)))))))))))))
, ?_⟩
    refine ⟨_, rfl, m, q, l, k + 7, 4, rfl, by decide, by decide, D.d, fun way l1 H1 w0 w1 k1 D1 => ?_⟩
    have D1 := D.draw k1 D1
    have e1 := hd_step (S := S) k1
    have hc1 := dp_same e1 _ _ hc
    have ho1 := dp_same e1 _ _ ho
    have hp1 := dp_same e1 _ _ hp
    obtain ⟨pa, pxs, rfl, hpa, hpd⟩ := dp_tup hp1
    obtain ⟨v0, v1, rfl, g0, g1⟩ := dpAll_two hpd
    refine ⟨_, rfl, pa, _, 0 + 1, v1, rfl, rfl, same_tup hd_sub hpa, atI_nat (j := 1) rfl, ?_⟩
    refine ⟨_, _, rfl, ?_⟩
    refine ⟨_, rfl, rfl, _, rfl, ?_⟩
    have hd0 : d0 = .none ∨ ∃ s, d0 = .str s := pn.hd d0 [d1] rfl
    have lay0 : ∀ s, d0 = .str s → (PyData.str s).canLay0 = true := fun s e => pn.lay s [d1] (by rw [e])
    have sc1 : Sc K (hd S m l1 H1) n v1 := ⟨d1, g1, fun ds e => pn.len d0 ds [] (by rw [e])⟩
    by_cases w00 : way = 0
    · refine ifYes (decide_eq_true (by rw [w00])) ?_
      have len1 : ∀ ds, d1 = .tuple ds → ds.length ≤ 2 * n + 1 := fun ds e => Nat.le_trans (pn.len d0 ds [] (by rw [e])) (by omega)
      refine ⟨_, rfl, 1, rfl, pa, _, rfl, same_tup hd_sub hpa, fun hw => absurd (show (1 : Nat) = 2 from hw.2) (by decide), fun _ t1 ht1 => ?_⟩
      rw [show cutV [v0, v1] none (some 1) = [v0] from rfl]
      obtain ⟨D2, s2, b1⟩ := dp_new D1 (.cons g0 .nil) ht1
      generalize upd H1 t1 (.tup [v0]) = H2 at D2 s2 b1
      have E2 : Els K (hd S m l1 H2) (2 * n + 1) [.ref t1] := Els.nil.snoc (Same.refl _) ⟨_, b1, fun s r e => lay0 s (by cases e; rfl), fun a ds r e => (by cases e), fun a r e => (by cases e; exact hd0)⟩
      have hp2 := dp_same (hd_same s2) _ _ hp1
      have g12 := dp_same (hd_same s2) _ _ g1
      refine ⟨_, rfl, by show 0 ≤ sizeLine; decide, fun t2 ht2 => ?_⟩
      obtain ⟨D3, s3, b2⟩ := dp_new D2 .nil ht2
      generalize upd H2 t2 (.tup []) = H3 at D3 s3 b2
      refine ⟨by show 1 ≤ sizeLine; decide, fun t3 ht3 => ?_⟩
      obtain ⟨D4, s4, b3⟩ := dp_new D3 (.cons b2 .nil) ht3
      generalize upd H3 t3 (.tup [.ref t2]) = H4 at D4 s4 b3
      have s24 := s3.trans s4
      refine dp_cat D4 (dp_same (hd_same s24) _ _ hp2) b3 (by show 2 + 1 ≤ 60000; decide) fun v4 H5 s5 D5 b4 => ?_
      have s25 := s24.trans s5
      have E5 := E2.snoc (hd_same s25) ⟨_, b4, fun s r e => lay0 s (by cases e; rfl), fun a ds r e => len1 ds (by cases e; rfl), fun a r e => (by cases e; exact hd0)⟩
      have s15 := s2.trans s25
      refine ⟨_, rfl, pa, _, rfl, .inr (same_tup s15 (same_tup hd_sub hpa)), fun L6 hL6 => ?_⟩
      obtain ⟨D6, s6, b6⟩ := dp_newL D5 (dpAll_same (hd_same s15) _ _ hpd) hL6
      generalize upd H5 L6 (.lst [v0, v1]) = H6 at D6 s6 b6
      have E6 := (E5.snoc (hd_same s6) ⟨_, b6, papN_other nofun⟩).snoc (Same.refl _) ⟨_, .non, papN_other nofun⟩
      have s16 := s15.trans s6
      have g16 := dp_same (hd_same s16) _ _ g1
      refine ⟨_, rfl, by show 2 ≤ sizeLine; decide, fun t7 ht7 => ?_⟩
      obtain ⟨D7, s7, b7⟩ := dp_new D6 (.cons .non (.cons g16 .nil)) ht7
      generalize upd H6 t7 (.tup [.non, v1]) = H7 at D7 s7 b7
      have E7 := E6.snoc (hd_same s7) (el_two b7 nofun (.inl rfl) len1)
      have g17 := dp_same (hd_same s7) _ _ g16
      refine ⟨_, rfl, by show 2 ≤ sizeLine; decide, fun t8 ht8 => ?_⟩
      obtain ⟨D8, s8, b8⟩ := dp_new D7 (.cons (.str (Str.ofString "never")) (.cons g17 .nil)) ht8
      generalize upd H7 t8 (.tup [.str (Str.ofString "never"), v1]) = H8 at D8 s8 b8
      have E8 := E7.snoc (hd_same s8) (el_two b8 (fun s e => by cases e; decide +kernel) (.inr ⟨_, rfl⟩) len1)
      have g18 := dp_same (hd_same s8) _ _ g17
      refine ⟨_, rfl, by show 2 ≤ sizeLine; decide, fun t9 ht9 => ?_⟩
      obtain ⟨D9, s9, b9⟩ := dp_new D8 (.cons (.str (Str.ofString "apart")) (.cons g18 .nil)) ht9
      generalize upd H8 t9 (.tup [.str (Str.ofString "apart"), v1]) = H9 at D9 s9 b9
      have E9 := E8.snoc (hd_same s9) (el_two b9 (fun s e => by cases e; decide +kernel) (.inr ⟨_, rfl⟩) len1)
      have g19 := dp_same (hd_same s9) _ _ g18
      refine ⟨by show 7 ≤ sizeLine; decide, fun SL hSL => ?_⟩
      have s10 := same_new (o := .lst [V.ref t1, v4, V.ref L6, V.non, V.ref t7, V.ref t8, V.ref t9]) hSL
      have D10 := D9.same s10
      have hs10 : upd H9 SL (.lst [V.ref t1, v4, V.ref L6, V.non, V.ref t7, V.ref t8, V.ref t9]) SL = some (.lst [V.ref t1, v4, V.ref L6, V.non, V.ref t7, V.ref t8, V.ref t9]) := upd_same
      generalize upd H9 SL (.lst [V.ref t1, v4, V.ref L6, V.non, V.ref t7, V.ref t8, V.ref t9]) = H10 at D10 s10 hs10
      have E10 := E9.same (hd_same s10)
      have g110 := dp_same (hd_same s10) _ _ g19
      refine ⟨_, rfl, _, rfl, by show 2 ≤ sizeLine; decide, fun t11 ht11 => ?_⟩
      obtain ⟨D11, s11, b11⟩ := dp_new D10 (.cons (.str (Str.ofString "alike")) (.cons g110 .nil)) ht11
      have hs11 := s11 _ _ hs10
      generalize upd H10 t11 (.tup [.str (Str.ofString "alike"), v1]) = H11 at D11 s11 b11 hs11
      have E11 := E10.snoc (hd_same s11) (el_two b11 (fun s e => by cases e; decide +kernel) (.inr ⟨_, rfl⟩) len1)
      refine ⟨by show 1 ≤ sizeLine; decide, fun L12 hL12 => ?_⟩
      have s12 := same_new (o := .lst [V.ref t11]) hL12
      have D12 := D11.same s12
      have hs12 := s12 _ _ hs11
      have hn12 : upd H11 L12 (.lst [V.ref t11]) L12 = some (.lst [V.ref t11]) := upd_same
      generalize upd H11 L12 (.lst [V.ref t11]) = H12 at D12 s12 hs12 hn12
      have E12 := E11.same (hd_same s12)
      refine ⟨SL, L12, _, _, rfl, rfl, hs12, hn12, by show 8 ≤ sizeLine; decide, fun F hF => ?_⟩
      dsimp only [List.cons_append, List.nil_append]
      have s13 := same_new (o := .lst [V.ref t1, v4, V.ref L6, V.non, V.ref t7, V.ref t8, V.ref t9, V.ref t11]) hF
      have D13 := D12.same s13
      have hF13 := hd_at (o := .lst [V.ref t1, v4, V.ref L6, V.non, V.ref t7, V.ref t8, V.ref t9, V.ref t11]) D12 hF
      generalize upd H12 F (.lst [V.ref t1, v4, V.ref L6, V.non, V.ref t7, V.ref t8, V.ref t9, V.ref t11]) = H13 at D13 s13 hF13
      have E13 := E12.same (hd_same s13)
      have s113 := (((((((s16.trans s7).trans s8).trans s9).trans s10).trans s11).trans s12).trans s13)
      refine ⟨_, rfl, m, q, l1, k + 6, 8, rfl, by decide, by decide, D13.d, fun r l2 H14 r0 r1 k14 D14 => ?_⟩
      have D14 := D13.draw k14 D14
      have e14 := hd_step (S := S) k14
      obtain ⟨z, hz, ez⟩ := pick_v (xs := [V.ref t1, v4, V.ref L6, V.non, V.ref t7, V.ref t8, V.ref t9, V.ref t11]) r0 (by show r < 8; exact r1)
      refine ⟨F, _, r, z, rfl, rfl, SqL.of (hd_kp k14 _ _ hF13), ez, ?_⟩
      exact qq z l2 H14 (k1.trans ((kp_of s113).trans k14)) (D14.less (by omega)) ((E13 z hz).same e14)
    · refine ifNo (decide_eq_false fun z => w00 (V.int.inj z)) ?_
      have elp : ∀ {H' : Hp} {l' : Addr}, Dp K (hd S m l' H') (.ref pa) (.tuple [d0, d1]) → El K (hd S m l' H') (2 * n + 1) (.ref pa) := fun h => ⟨_, h, pn.mono (by omega)⟩
      cases hg : d1 with
      | tuple ds =>
        subst hg
        have w1 : Dw K (hd S m l1 H1) v1 n := ⟨ds, g1, pn.len d0 ds [] rfl⟩
        refine ⟨_, rfl, _, .ty "tuple", _, _, _, rfl, .ty _, tyx (dp_same hd_sub _ _ g1), kitT _, _, rfl, ?_⟩
        refine iteF ?_
        obtain ⟨ra, xs, rfl, hra, hds⟩ := dp_tup g1
        have hxl := dpAll_len hds
        have hdl := pn.len d0 ds [] rfl
        refine ⟨_, rfl, _, rfl, ra, xs, rfl, .inr (same_tup hd_sub hra), 1, _, rfl, ?_⟩
        refine ⟨m, q, l1, k + 6, _, rfl, by split <;> omega, by split <;> omega, D1.d, fun at_ l2 H2 a0 a1 k2 D2 => ?_⟩
        have D2 := D1.draw k2 D2
        have e2 := hd_step (S := S) k2
        have c2 := dp_same e2 _ _ hc1
        have o2 := dp_same e2 _ _ ho1
        refine ⟨_, rfl, _, rfl, m, q, l2, k + 4, c, C, rfl, O, dp_same hd_sub _ _ c2, D2.d, fun z3 st3 l3 H3 k3 D3 hs3 hz3 => ?_⟩
        have D3 := D2.draw k3 D3
        have e3 := hd_step (S := S) k3
        have hz3 := dp_hidep D3 hz3
        refine ⟨_, rfl, _, rfl, m, q, l3, k + 2, o, G, rfl, O', dp_same hd_sub _ _ (dp_same e3 _ _ o2), D3.d, fun z4 st4 l4 H4 k4 D4 hs4 hz4 => ?_⟩
        have D4 := D3.draw k4 D4
        have e4 := hd_step (S := S) k4
        have hz4 := dp_hidep D4 hz4
        have hz3 := dp_same e4 _ _ hz3
        refine ⟨by show 2 ≤ sizeLine; decide, fun t5 ht5 => ?_⟩
        obtain ⟨D5, s5, b5⟩ := dp_new D4 (.cons hz3 (.cons hz4 .nil)) ht5
        generalize upd H4 t5 (.tup [z3, z4]) = H5 at D5 s5 b5
        have e15 := ((e2.trans e3).trans e4).trans (hd_same s5)
        have w5 := w1.same e15
        have p5 := dp_same e15 _ _ hp1
        have k15 := ((k1.trans k2).trans k3).trans (k4.trans (kp_of s5))
        have c5 := dp_same ((e3.trans e4).trans (hd_same s5)) _ _ c2
        obtain ⟨pb, pys, epb, hpb, hpbd⟩ := dp_tup p5
        cases epb
        obtain ⟨u0, u1, rfl, q0, q1⟩ := dpAll_two hpbd
        have hv0 : u0 = .non ∨ ∃ s, u0 = .str s := by
          rcases hd0 with e | ⟨s, e⟩
          · subst e; cases q0; exact .inl rfl
          · subst e; cases q0; exact .inr ⟨s, rfl⟩
        refine ⟨_, rfl, pa, _, 0, u0, rfl, rfl, same_tup hd_sub hpb, atI_nat (j := 0) rfl, ?_, _, rfl, ?_⟩
        · rcases hv0 with rfl | ⟨s, rfl⟩ <;> rfl
        refine ite2 (fun e => ?_) (fun e => ?_)
        · obtain ⟨ca, cs, cm, ms, rfl, hca, hcs, hcm, hmd⟩ := cod_at (dp_same hd_sub _ _ c5)
          have hml := dpAll_len hmd
          rw [List.length_map] at hml
          have hM := O.m2
          have hM1 := O.m1
          refine ⟨_, rfl, _, rfl, ca, _, 3, _, rfl, rfl, hca, atI_nat (j := 3) rfl, cm, _, rfl, .inr hcm, ?_⟩
          refine ⟨m, q, l4, k + 1, _, rfl, by omega, by omega, D5.d, fun th l6 H6 th0 th1 k6 D6 => ?_⟩
          have D6 := D5.draw k6 D6
          have e6 := hd_step (S := S) k6
          have D20 := D6
          have W20 := w5.same e6
          have T20 : Dp K (hd S m l6 H6) (.int th) (.int th) := .int th
          have X20 : Scs K (hd S m l6 H6) (2 * n + 1) [] := Scs.nil
          have p20 := dp_same e6 _ _ p5
          have A20 := Same.refl H6
          have KK := k15.trans k6
          clear e15 w1 p5 c5 e6 w5 D5 D4 D3 D2 D1 D b5 hz3 hz4 e1 e2 e3 e4 hpbd hpb hpd hpa hp1 hc1 ho1 hp hc ho sc1 c2 o2 g0 q0 q1 k15 k6 k4 k3 k2 k1 s5
          generalize H6 = H20 at D20 W20 T20 X20 p20 A20 KK
          refine ⟨_, rfl, _, rfl, _, rfl, ?_⟩
          refine dw_cut D20 W20 fun v21 H21 s21 D21 z21 => ?_
          have W21 := W20.same (hd_same s21)
          have T21 := dp_same (hd_same s21) _ _ T20
          have X21 := X20.same (hd_same s21)
          have p21 := dp_same (hd_same s21) _ _ p20
          have A21 := A20.trans s21
          refine ⟨_, rfl, _, rfl, _, _, rfl, rfl, _, rfl, ?_⟩
          dsimp only [tNoPart]
          refine dw_cut D21 W21 fun v22 H22 s22 D22 z22 => ?_
          have W22 := W21.same (hd_same s22)
          have T22 := dp_same (hd_same s22) _ _ T21
          have X22 := X21.same (hd_same s22)
          have p22 := dp_same (hd_same s22) _ _ p21
          have A22 := A21.trans s22
          have z21 := z21.same (hd_same s22)
          refine dw_cat D22 z21 z22 (by omega) fun v23 H23 s23 D23 z23 => ?_
          have W23 := W22.same (hd_same s23)
          have T23 := dp_same (hd_same s23) _ _ T22
          have X23 := X22.same (hd_same s23)
          have p23 := dp_same (hd_same s23) _ _ p22
          have A23 := A22.trans s23
          have X23 := X23.snoc (Same.refl _) (z23.sc (n' := 2 * n + 1) (by omega))
          refine ⟨_, rfl, _, rfl, _, rfl, ?_⟩
          refine dw_cut D23 W23 fun v24 H24 s24 D24 z24 => ?_
          have W24 := W23.same (hd_same s24)
          have T24 := dp_same (hd_same s24) _ _ T23
          have X24 := X23.same (hd_same s24)
          have p24 := dp_same (hd_same s24) _ _ p23
          have A24 := A23.trans s24
          refine ⟨_, rfl, by show 1 ≤ sizeLine; decide, fun t25 ht25 => ?_⟩
          obtain ⟨D25, s25, y25⟩ := dp_new D24 (.cons T24 .nil) ht25
          generalize upd H24 t25 (.tup [V.int th]) = H25 at D25 s25 y25
          have z25 : Dw K (hd S m l6 H25) (.ref t25) 1 := ⟨_, y25, Nat.le_refl _⟩
          have W25 := W24.same (hd_same s25)
          have T25 := dp_same (hd_same s25) _ _ T24
          have X25 := X24.same (hd_same s25)
          have p25 := dp_same (hd_same s25) _ _ p24
          have A25 := A24.trans s25
          have z24 := z24.same (hd_same s25)
          refine dw_cat D25 z24 z25 (by omega) fun v26 H26 s26 D26 z26 => ?_
          have W26 := W25.same (hd_same s26)
          have T26 := dp_same (hd_same s26) _ _ T25
          have X26 := X25.same (hd_same s26)
          have p26 := dp_same (hd_same s26) _ _ p25
          have A26 := A25.trans s26
          refine ⟨_, rfl, _, rfl, _, rfl, ?_⟩
          dsimp only [tNoPart]
          refine dw_cut D26 W26 fun v27 H27 s27 D27 z27 => ?_
          have W27 := W26.same (hd_same s27)
          have T27 := dp_same (hd_same s27) _ _ T26
          have X27 := X26.same (hd_same s27)
          have p27 := dp_same (hd_same s27) _ _ p26
          have A27 := A26.trans s27
          have z26 := z26.same (hd_same s27)
          refine dw_cat D27 z26 z27 (by omega) fun v28 H28 s28 D28 z28 => ?_
          have W28 := W27.same (hd_same s28)
          have T28 := dp_same (hd_same s28) _ _ T27
          have X28 := X27.same (hd_same s28)
          have p28 := dp_same (hd_same s28) _ _ p27
          have A28 := A27.trans s28
          have X28 := X28.snoc (Same.refl _) (z28.sc (n' := 2 * n + 1) (by omega))
          refine ⟨_, rfl, _, rfl, _, rfl, ?_⟩
          refine dw_cut D28 W28 fun v29 H29 s29 D29 z29 => ?_
          have W29 := W28.same (hd_same s29)
          have T29 := dp_same (hd_same s29) _ _ T28
          have X29 := X28.same (hd_same s29)
          have p29 := dp_same (hd_same s29) _ _ p28
          have A29 := A28.trans s29
          refine ⟨_, rfl, by show 1 ≤ sizeLine; decide, fun t30 ht30 => ?_⟩
          obtain ⟨D30, s30, y30⟩ := dp_new D29 (.cons T29 .nil) ht30
          generalize upd H29 t30 (.tup [V.int th]) = H30 at D30 s30 y30
          have z30 : Dw K (hd S m l6 H30) (.ref t30) 1 := ⟨_, y30, Nat.le_refl _⟩
          have W30 := W29.same (hd_same s30)
          have T30 := dp_same (hd_same s30) _ _ T29
          have X30 := X29.same (hd_same s30)
          have p30 := dp_same (hd_same s30) _ _ p29
          have A30 := A29.trans s30
          have z29 := z29.same (hd_same s30)
          refine dw_cat D30 z29 z30 (by omega) fun v31 H31 s31 D31 z31 => ?_
          have W31 := W30.same (hd_same s31)
          have T31 := dp_same (hd_same s31) _ _ T30
          have X31 := X30.same (hd_same s31)
          have p31 := dp_same (hd_same s31) _ _ p30
          have A31 := A30.trans s31
          refine ⟨_, rfl, _, rfl, _, _, rfl, rfl, _, rfl, ?_⟩
          dsimp only [tNoPart]
          refine dw_cut D31 W31 fun v32 H32 s32 D32 z32 => ?_
          have W32 := W31.same (hd_same s32)
          have T32 := dp_same (hd_same s32) _ _ T31
          have X32 := X31.same (hd_same s32)
          have p32 := dp_same (hd_same s32) _ _ p31
          have A32 := A31.trans s32
          have z31 := z31.same (hd_same s32)
          refine dw_cat D32 z31 z32 (by omega) fun v33 H33 s33 D33 z33 => ?_
          have W33 := W32.same (hd_same s33)
          have T33 := dp_same (hd_same s33) _ _ T32
          have X33 := X32.same (hd_same s33)
          have p33 := dp_same (hd_same s33) _ _ p32
          have A33 := A32.trans s33
          have X33 := X33.snoc (Same.refl _) (z33.sc (n' := 2 * n + 1) (by omega))
          refine ⟨_, rfl, ?_⟩
          obtain ⟨ax, ay, ae, aq, ak⟩ := dw_rev D33 W33
          refine ⟨ax, ay, ae, aq, fun t34 ht34 => ?_⟩
          obtain ⟨D34, s34, z34⟩ := ak t34 ht34
          generalize upd H33 t34 (.tup ay.reverse) = H34 at D34 s34 z34
          have W34 := W33.same (hd_same s34)
          have T34 := dp_same (hd_same s34) _ _ T33
          have X34 := X33.same (hd_same s34)
          have p34 := dp_same (hd_same s34) _ _ p33
          have A34 := A33.trans s34
          have X34 := X34.snoc (Same.refl _) (z34.sc (n' := 2 * n + 1) (by omega))
          refine ⟨by show 0 ≤ sizeLine; decide, fun t35 ht35 => ?_⟩
          obtain ⟨D35, s35, y35⟩ := dp_new D34 .nil ht35
          generalize upd H34 t35 (.tup []) = H35 at D35 s35 y35
          have z35 : Dw K (hd S m l6 H35) (.ref t35) 0 := ⟨_, y35, Nat.le_refl _⟩
          have W35 := W34.same (hd_same s35)
          have T35 := dp_same (hd_same s35) _ _ T34
          have X35 := X34.same (hd_same s35)
          have p35 := dp_same (hd_same s35) _ _ p34
          have A35 := A34.trans s35
          have X35 := X35.snoc (Same.refl _) (z35.sc (n' := 2 * n + 1) (by omega))
          refine ⟨by show 5 ≤ sizeLine; decide, fun L36 hL36 => ?_⟩
          have s36 := same_new (o := .lst [v23, v28, v33, V.ref t34, V.ref t35]) hL36
          have D36 := D35.same s36
          have h36 : upd H35 L36 (.lst [v23, v28, v33, V.ref t34, V.ref t35]) L36 = some (.lst [v23, v28, v33, V.ref t34, V.ref t35]) := upd_same
          generalize upd H35 L36 (.lst [v23, v28, v33, V.ref t34, V.ref t35]) = H36 at D36 s36 h36
          have W36 := W35.same (hd_same s36)
          have T36 := dp_same (hd_same s36) _ _ T35
          have X36 := X35.same (hd_same s36)
          have p36 := dp_same (hd_same s36) _ _ p35
          have A36 := A35.trans s36
          refine ⟨_, rfl, ?_⟩
          refine ⟨_, rfl, _, rfl, _, rfl, ?_⟩
          refine dw_cut D36 W36 fun v37 H37 s37 D37 z37 => ?_
          have W37 := W36.same (hd_same s37)
          have T37 := dp_same (hd_same s37) _ _ T36
          have X37 := X36.same (hd_same s37)
          have p37 := dp_same (hd_same s37) _ _ p36
          have A37 := A36.trans s37
          refine ⟨by show 1 ≤ sizeLine; decide, fun t38 ht38 => ?_⟩
          obtain ⟨D38, s38, y38⟩ := dp_new D37 (.cons .non .nil) ht38
          generalize upd H37 t38 (.tup [V.non]) = H38 at D38 s38 y38
          have z38 : Dw K (hd S m l6 H38) (.ref t38) 1 := ⟨_, y38, Nat.le_refl _⟩
          have W38 := W37.same (hd_same s38)
          have T38 := dp_same (hd_same s38) _ _ T37
          have X38 := X37.same (hd_same s38)
          have p38 := dp_same (hd_same s38) _ _ p37
          have A38 := A37.trans s38
          have z37 := z37.same (hd_same s38)
          refine dw_cat D38 z37 z38 (by omega) fun v39 H39 s39 D39 z39 => ?_
          have W39 := W38.same (hd_same s39)
          have T39 := dp_same (hd_same s39) _ _ T38
          have X39 := X38.same (hd_same s39)
          have p39 := dp_same (hd_same s39) _ _ p38
          have A39 := A38.trans s39
          refine ⟨_, rfl, _, rfl, _, _, rfl, rfl, _, rfl, ?_⟩
          dsimp only [tNoPart]
          refine dw_cut D39 W39 fun v40 H40 s40 D40 z40 => ?_
          have W40 := W39.same (hd_same s40)
          have T40 := dp_same (hd_same s40) _ _ T39
          have X40 := X39.same (hd_same s40)
          have p40 := dp_same (hd_same s40) _ _ p39
          have A40 := A39.trans s40
          have z39 := z39.same (hd_same s40)
          refine dw_cat D40 z39 z40 (by omega) fun v41 H41 s41 D41 z41 => ?_
          have W41 := W40.same (hd_same s41)
          have T41 := dp_same (hd_same s41) _ _ T40
          have X41 := X40.same (hd_same s41)
          have p41 := dp_same (hd_same s41) _ _ p40
          have A41 := A40.trans s41
          have X41 := X41.snoc (Same.refl _) (z41.sc (n' := 2 * n + 1) (by omega))
          refine ⟨_, rfl, ?_⟩
          obtain ⟨bx, by_, be, bq, bk⟩ := dw_list D41 W41
          refine ⟨bx, by_, be, bq, fun t42 ht42 => ?_⟩
          obtain ⟨D42, s42, z42⟩ := bk t42 ht42
          generalize upd H41 t42 (.lst by_) = H42 at D42 s42 z42
          have W42 := W41.same (hd_same s42)
          have T42 := dp_same (hd_same s42) _ _ T41
          have X42 := X41.same (hd_same s42)
          have p42 := dp_same (hd_same s42) _ _ p41
          have A42 := A41.trans s42
          have X42 := X42.snoc (Same.refl _) (z42.mono (n' := 2 * n + 1) (by omega))
          refine ⟨_, rfl, ?_⟩
          refine ⟨_, rfl, _, rfl, _, rfl, _, rfl, _, _, rfl, rfl, _, rfl, ?_⟩
          refine dw_cut D42 W42 fun v43 H43 s43 D43 z43 => ?_
          have W43 := W42.same (hd_same s43)
          have T43 := dp_same (hd_same s43) _ _ T42
          have X43 := X42.same (hd_same s43)
          have p43 := dp_same (hd_same s43) _ _ p42
          have A43 := A42.trans s43
          refine dw_cat D43 W43 z43 (by omega) fun v44 H44 s44 D44 z44 => ?_
          have W44 := W43.same (hd_same s44)
          have T44 := dp_same (hd_same s44) _ _ T43
          have X44 := X43.same (hd_same s44)
          have p44 := dp_same (hd_same s44) _ _ p43
          have A44 := A43.trans s44
          have X44 := X44.snoc (Same.refl _) (z44.sc (n' := 2 * n + 1) (by omega))
          have X44 := X44.snoc (Same.refl _) ⟨_, .non, nofun⟩
          refine ⟨_, rfl, ?_⟩
          refine ⟨_, rfl, by show 1 ≤ sizeLine; decide, fun t45 ht45 => ?_⟩
          obtain ⟨D45, s45, y45⟩ := dp_new D44 (.cons (.int _) .nil) ht45
          generalize upd H44 t45 (.tup [V.int (-1)]) = H45 at D45 s45 y45
          have z45 : Dw K (hd S m l6 H45) (.ref t45) 1 := ⟨_, y45, Nat.le_refl _⟩
          have W45 := W44.same (hd_same s45)
          have T45 := dp_same (hd_same s45) _ _ T44
          have X45 := X44.same (hd_same s45)
          have p45 := dp_same (hd_same s45) _ _ p44
          have A45 := A44.trans s45
          refine dw_cat D45 W45 z45 (by omega) fun v46 H46 s46 D46 z46 => ?_
          have W46 := W45.same (hd_same s46)
          have T46 := dp_same (hd_same s46) _ _ T45
          have X46 := X45.same (hd_same s46)
          have p46 := dp_same (hd_same s46) _ _ p45
          have A46 := A45.trans s46
          have X46 := X46.snoc (Same.refl _) (z46.sc (n' := 2 * n + 1) (by omega))
          refine ⟨_, rfl, ?_⟩
          obtain ⟨cx, cy, ce, cq, cl, ck⟩ := dw_twice D46 W46 (by omega)
          refine ⟨cx, 2, cy, ce, rfl, cq, by decide, cl, fun t47 H47 s47 hb47 => ?_⟩
          obtain ⟨D47, z47⟩ := ck t47 H47 s47 hb47
          have W47 := W46.same (hd_same s47)
          have T47 := dp_same (hd_same s47) _ _ T46
          have X47 := X46.same (hd_same s47)
          have p47 := dp_same (hd_same s47) _ _ p46
          have A47 := A46.trans s47
          have X47 := X47.snoc (Same.refl _) (z47.sc (n' := 2 * n + 1) (by omega))
          refine ⟨by show 6 ≤ sizeLine; decide, fun L48 hL48 => ?_⟩
          have s48 := same_new (o := .lst [v41, V.ref t42, v44, V.non, v46, V.ref t47]) hL48
          have D48 := D47.same s48
          have h48 : upd H47 L48 (.lst [v41, V.ref t42, v44, V.non, v46, V.ref t47]) L48 = some (.lst [v41, V.ref t42, v44, V.non, v46, V.ref t47]) := upd_same
          generalize upd H47 L48 (.lst [v41, V.ref t42, v44, V.non, v46, V.ref t47]) = H48 at D48 s48 h48
          have W48 := W47.same (hd_same s48)
          have T48 := dp_same (hd_same s48) _ _ T47
          have X48 := X47.same (hd_same s48)
          have p48 := dp_same (hd_same s48) _ _ p47
          have A48 := A47.trans s48
          refine ⟨L36, L48, _, _, rfl, rfl, (((((((((((s37.trans s38).trans s39).trans s40).trans s41).trans s42).trans s43).trans s44).trans s45).trans s46).trans s47).trans s48) _ _ h36, h48, by show 11 ≤ sizeLine; decide, fun F hF => ?_⟩
          dsimp only [List.cons_append, List.nil_append]
          have sF := same_new (o := .lst [v23, v28, v33, V.ref t34, V.ref t35, v41, V.ref t42, v44, V.non, v46, V.ref t47]) hF
          have DF := D48.same sF
          have hF1 := hd_at (o := .lst [v23, v28, v33, V.ref t34, V.ref t35, v41, V.ref t42, v44, V.non, v46, V.ref t47]) D48 hF
          generalize upd H48 F (.lst [v23, v28, v33, V.ref t34, V.ref t35, v41, V.ref t42, v44, V.non, v46, V.ref t47]) = HF at DF sF hF1
          have XF := X48.same (hd_same sF)
          have pF := dp_same (hd_same sF) _ _ p48
          have AF := A48.trans sF
          obtain ⟨pz, pzs, epz, hpz, hpzd⟩ := dp_tup pF
          cases epz
          obtain ⟨x0, x1, rfl, r0, r1⟩ := dpAll_two hpzd
          refine ⟨_, rfl, pa, _, 0, x0, rfl, rfl, same_tup hd_sub hpz, atI_nat (j := 0) rfl, ?_⟩
          refine ⟨_, rfl, _, rfl, m, q, l6, k, 11, rfl, by decide, by decide, DF.d, fun r lz HZ rr0 rr1 kz DZ => ?_⟩
          have DZ := DF.draw kz DZ
          obtain ⟨z, hz, ez⟩ := pick_v (xs := [v23, v28, v33, V.ref t34, V.ref t35, v41, V.ref t42, v44, V.non, v46, V.ref t47]) rr0 (by show r < 11; exact rr1)
          refine ⟨F, _, r, z, rfl, rfl, SqL.of (hd_kp kz _ _ hF1), ez, ?_⟩
          refine ⟨by show 2 ≤ sizeLine; decide, fun tz htz => ?_⟩
          obtain ⟨y, hy1, hy2⟩ := (XF z hz).same (hd_step (S := S) kz)
          obtain ⟨DY, sY, bY⟩ := dp_new DZ (.cons (dp_same (hd_step (S := S) kz) _ _ r0) (.cons hy1 .nil)) htz
          exact qq _ _ _ (KK.trans ((kp_of AF).trans (kz.trans (kp_of sY)))) (DY.less (by omega)) (el_two bY lay0 hd0 hy2)
        · have D20 := D5
          have W20 := w5
          have T20 := b5
          have X20 : Scs K (hd S m l4 H5) (2 * n + 1) [] := Scs.nil
          have p20 := p5
          have A20 := Same.refl H5
          have KK := k15
          clear e15 w1 p5 c5 w5 D5 D4 D3 D2 D1 D b5 hz3 hz4 e1 e2 e3 e4 hpbd hpb hpd hpa hp1 hc1 ho1 hp hc ho sc1 c2 o2 g0 q0 q1 k15 k4 k3 k2 k1 s5
          generalize H5 = H20 at D20 W20 T20 X20 p20 A20 KK
          refine ⟨_, rfl, _, rfl, _, rfl, ?_⟩
          refine dw_cut D20 W20 fun v21 H21 s21 D21 z21 => ?_
          have W21 := W20.same (hd_same s21)
          have T21 := dp_same (hd_same s21) _ _ T20
          have X21 := X20.same (hd_same s21)
          have p21 := dp_same (hd_same s21) _ _ p20
          have A21 := A20.trans s21
          refine ⟨_, rfl, _, rfl, _, _, rfl, rfl, _, rfl, ?_⟩
          dsimp only [tNoPart]
          refine dw_cut D21 W21 fun v22 H22 s22 D22 z22 => ?_
          have W22 := W21.same (hd_same s22)
          have T22 := dp_same (hd_same s22) _ _ T21
          have X22 := X21.same (hd_same s22)
          have p22 := dp_same (hd_same s22) _ _ p21
          have A22 := A21.trans s22
          have z21 := z21.same (hd_same s22)
          refine dw_cat D22 z21 z22 (by omega) fun v23 H23 s23 D23 z23 => ?_
          have W23 := W22.same (hd_same s23)
          have T23 := dp_same (hd_same s23) _ _ T22
          have X23 := X22.same (hd_same s23)
          have p23 := dp_same (hd_same s23) _ _ p22
          have A23 := A22.trans s23
          have X23 := X23.snoc (Same.refl _) (z23.sc (n' := 2 * n + 1) (by omega))
          refine ⟨_, rfl, _, rfl, _, rfl, ?_⟩
          refine dw_cut D23 W23 fun v24 H24 s24 D24 z24 => ?_
          have W24 := W23.same (hd_same s24)
          have T24 := dp_same (hd_same s24) _ _ T23
          have X24 := X23.same (hd_same s24)
          have p24 := dp_same (hd_same s24) _ _ p23
          have A24 := A23.trans s24
          refine ⟨_, rfl, by show 1 ≤ sizeLine; decide, fun t25 ht25 => ?_⟩
          obtain ⟨D25, s25, y25⟩ := dp_new D24 (.cons T24 .nil) ht25
          generalize upd H24 t25 (.tup [V.ref t5]) = H25 at D25 s25 y25
          have z25 : Dw K (hd S m l4 H25) (.ref t25) 1 := ⟨_, y25, Nat.le_refl _⟩
          have W25 := W24.same (hd_same s25)
          have T25 := dp_same (hd_same s25) _ _ T24
          have X25 := X24.same (hd_same s25)
          have p25 := dp_same (hd_same s25) _ _ p24
          have A25 := A24.trans s25
          have z24 := z24.same (hd_same s25)
          refine dw_cat D25 z24 z25 (by omega) fun v26 H26 s26 D26 z26 => ?_
          have W26 := W25.same (hd_same s26)
          have T26 := dp_same (hd_same s26) _ _ T25
          have X26 := X25.same (hd_same s26)
          have p26 := dp_same (hd_same s26) _ _ p25
          have A26 := A25.trans s26
          refine ⟨_, rfl, _, rfl, _, rfl, ?_⟩
          dsimp only [tNoPart]
          refine dw_cut D26 W26 fun v27 H27 s27 D27 z27 => ?_
          have W27 := W26.same (hd_same s27)
          have T27 := dp_same (hd_same s27) _ _ T26
          have X27 := X26.same (hd_same s27)
          have p27 := dp_same (hd_same s27) _ _ p26
          have A27 := A26.trans s27
          have z26 := z26.same (hd_same s27)
          refine dw_cat D27 z26 z27 (by omega) fun v28 H28 s28 D28 z28 => ?_
          have W28 := W27.same (hd_same s28)
          have T28 := dp_same (hd_same s28) _ _ T27
          have X28 := X27.same (hd_same s28)
          have p28 := dp_same (hd_same s28) _ _ p27
          have A28 := A27.trans s28
          have X28 := X28.snoc (Same.refl _) (z28.sc (n' := 2 * n + 1) (by omega))
          refine ⟨_, rfl, _, rfl, _, rfl, ?_⟩
          refine dw_cut D28 W28 fun v29 H29 s29 D29 z29 => ?_
          have W29 := W28.same (hd_same s29)
          have T29 := dp_same (hd_same s29) _ _ T28
          have X29 := X28.same (hd_same s29)
          have p29 := dp_same (hd_same s29) _ _ p28
          have A29 := A28.trans s29
          refine ⟨_, rfl, by show 1 ≤ sizeLine; decide, fun t30 ht30 => ?_⟩
          obtain ⟨D30, s30, y30⟩ := dp_new D29 (.cons T29 .nil) ht30
          generalize upd H29 t30 (.tup [V.ref t5]) = H30 at D30 s30 y30
          have z30 : Dw K (hd S m l4 H30) (.ref t30) 1 := ⟨_, y30, Nat.le_refl _⟩
          have W30 := W29.same (hd_same s30)
          have T30 := dp_same (hd_same s30) _ _ T29
          have X30 := X29.same (hd_same s30)
          have p30 := dp_same (hd_same s30) _ _ p29
          have A30 := A29.trans s30
          have z29 := z29.same (hd_same s30)
          refine dw_cat D30 z29 z30 (by omega) fun v31 H31 s31 D31 z31 => ?_
          have W31 := W30.same (hd_same s31)
          have T31 := dp_same (hd_same s31) _ _ T30
          have X31 := X30.same (hd_same s31)
          have p31 := dp_same (hd_same s31) _ _ p30
          have A31 := A30.trans s31
          refine ⟨_, rfl, _, rfl, _, _, rfl, rfl, _, rfl, ?_⟩
          dsimp only [tNoPart]
          refine dw_cut D31 W31 fun v32 H32 s32 D32 z32 => ?_
          have W32 := W31.same (hd_same s32)
          have T32 := dp_same (hd_same s32) _ _ T31
          have X32 := X31.same (hd_same s32)
          have p32 := dp_same (hd_same s32) _ _ p31
          have A32 := A31.trans s32
          have z31 := z31.same (hd_same s32)
          refine dw_cat D32 z31 z32 (by omega) fun v33 H33 s33 D33 z33 => ?_
          have W33 := W32.same (hd_same s33)
          have T33 := dp_same (hd_same s33) _ _ T32
          have X33 := X32.same (hd_same s33)
          have p33 := dp_same (hd_same s33) _ _ p32
          have A33 := A32.trans s33
          have X33 := X33.snoc (Same.refl _) (z33.sc (n' := 2 * n + 1) (by omega))
          refine ⟨_, rfl, ?_⟩
          obtain ⟨ax, ay, ae, aq, ak⟩ := dw_rev D33 W33
          refine ⟨ax, ay, ae, aq, fun t34 ht34 => ?_⟩
          obtain ⟨D34, s34, z34⟩ := ak t34 ht34
          generalize upd H33 t34 (.tup ay.reverse) = H34 at D34 s34 z34
          have W34 := W33.same (hd_same s34)
          have T34 := dp_same (hd_same s34) _ _ T33
          have X34 := X33.same (hd_same s34)
          have p34 := dp_same (hd_same s34) _ _ p33
          have A34 := A33.trans s34
          have X34 := X34.snoc (Same.refl _) (z34.sc (n' := 2 * n + 1) (by omega))
          refine ⟨by show 0 ≤ sizeLine; decide, fun t35 ht35 => ?_⟩
          obtain ⟨D35, s35, y35⟩ := dp_new D34 .nil ht35
          generalize upd H34 t35 (.tup []) = H35 at D35 s35 y35
          have z35 : Dw K (hd S m l4 H35) (.ref t35) 0 := ⟨_, y35, Nat.le_refl _⟩
          have W35 := W34.same (hd_same s35)
          have T35 := dp_same (hd_same s35) _ _ T34
          have X35 := X34.same (hd_same s35)
          have p35 := dp_same (hd_same s35) _ _ p34
          have A35 := A34.trans s35
          have X35 := X35.snoc (Same.refl _) (z35.sc (n' := 2 * n + 1) (by omega))
          refine ⟨by show 5 ≤ sizeLine; decide, fun L36 hL36 => ?_⟩
          have s36 := same_new (o := .lst [v23, v28, v33, V.ref t34, V.ref t35]) hL36
          have D36 := D35.same s36
          have h36 : upd H35 L36 (.lst [v23, v28, v33, V.ref t34, V.ref t35]) L36 = some (.lst [v23, v28, v33, V.ref t34, V.ref t35]) := upd_same
          generalize upd H35 L36 (.lst [v23, v28, v33, V.ref t34, V.ref t35]) = H36 at D36 s36 h36
          have W36 := W35.same (hd_same s36)
          have T36 := dp_same (hd_same s36) _ _ T35
          have X36 := X35.same (hd_same s36)
          have p36 := dp_same (hd_same s36) _ _ p35
          have A36 := A35.trans s36
          refine ⟨_, rfl, ?_⟩
          refine ⟨_, rfl, _, rfl, _, rfl, ?_⟩
          refine dw_cut D36 W36 fun v37 H37 s37 D37 z37 => ?_
          have W37 := W36.same (hd_same s37)
          have T37 := dp_same (hd_same s37) _ _ T36
          have X37 := X36.same (hd_same s37)
          have p37 := dp_same (hd_same s37) _ _ p36
          have A37 := A36.trans s37
          refine ⟨by show 1 ≤ sizeLine; decide, fun t38 ht38 => ?_⟩
          obtain ⟨D38, s38, y38⟩ := dp_new D37 (.cons .non .nil) ht38
          generalize upd H37 t38 (.tup [V.non]) = H38 at D38 s38 y38
          have z38 : Dw K (hd S m l4 H38) (.ref t38) 1 := ⟨_, y38, Nat.le_refl _⟩
          have W38 := W37.same (hd_same s38)
          have T38 := dp_same (hd_same s38) _ _ T37
          have X38 := X37.same (hd_same s38)
          have p38 := dp_same (hd_same s38) _ _ p37
          have A38 := A37.trans s38
          have z37 := z37.same (hd_same s38)
          refine dw_cat D38 z37 z38 (by omega) fun v39 H39 s39 D39 z39 => ?_
          have W39 := W38.same (hd_same s39)
          have T39 := dp_same (hd_same s39) _ _ T38
          have X39 := X38.same (hd_same s39)
          have p39 := dp_same (hd_same s39) _ _ p38
          have A39 := A38.trans s39
          refine ⟨_, rfl, _, rfl, _, _, rfl, rfl, _, rfl, ?_⟩
          dsimp only [tNoPart]
          refine dw_cut D39 W39 fun v40 H40 s40 D40 z40 => ?_
          have W40 := W39.same (hd_same s40)
          have T40 := dp_same (hd_same s40) _ _ T39
          have X40 := X39.same (hd_same s40)
          have p40 := dp_same (hd_same s40) _ _ p39
          have A40 := A39.trans s40
          have z39 := z39.same (hd_same s40)
          refine dw_cat D40 z39 z40 (by omega) fun v41 H41 s41 D41 z41 => ?_
          have W41 := W40.same (hd_same s41)
          have T41 := dp_same (hd_same s41) _ _ T40
          have X41 := X40.same (hd_same s41)
          have p41 := dp_same (hd_same s41) _ _ p40
          have A41 := A40.trans s41
          have X41 := X41.snoc (Same.refl _) (z41.sc (n' := 2 * n + 1) (by omega))
          refine ⟨_, rfl, ?_⟩
          obtain ⟨bx, by_, be, bq, bk⟩ := dw_list D41 W41
          refine ⟨bx, by_, be, bq, fun t42 ht42 => ?_⟩
          obtain ⟨D42, s42, z42⟩ := bk t42 ht42
          generalize upd H41 t42 (.lst by_) = H42 at D42 s42 z42
          have W42 := W41.same (hd_same s42)
          have T42 := dp_same (hd_same s42) _ _ T41
          have X42 := X41.same (hd_same s42)
          have p42 := dp_same (hd_same s42) _ _ p41
          have A42 := A41.trans s42
          have X42 := X42.snoc (Same.refl _) (z42.mono (n' := 2 * n + 1) (by omega))
          refine ⟨_, rfl, ?_⟩
          refine ⟨_, rfl, _, rfl, _, rfl, _, rfl, _, _, rfl, rfl, _, rfl, ?_⟩
          refine dw_cut D42 W42 fun v43 H43 s43 D43 z43 => ?_
          have W43 := W42.same (hd_same s43)
          have T43 := dp_same (hd_same s43) _ _ T42
          have X43 := X42.same (hd_same s43)
          have p43 := dp_same (hd_same s43) _ _ p42
          have A43 := A42.trans s43
          refine dw_cat D43 W43 z43 (by omega) fun v44 H44 s44 D44 z44 => ?_
          have W44 := W43.same (hd_same s44)
          have T44 := dp_same (hd_same s44) _ _ T43
          have X44 := X43.same (hd_same s44)
          have p44 := dp_same (hd_same s44) _ _ p43
          have A44 := A43.trans s44
          have X44 := X44.snoc (Same.refl _) (z44.sc (n' := 2 * n + 1) (by omega))
          have X44 := X44.snoc (Same.refl _) ⟨_, .non, nofun⟩
          refine ⟨_, rfl, ?_⟩
          refine ⟨_, rfl, by show 1 ≤ sizeLine; decide, fun t45 ht45 => ?_⟩
          obtain ⟨D45, s45, y45⟩ := dp_new D44 (.cons (.int _) .nil) ht45
          generalize upd H44 t45 (.tup [V.int (-1)]) = H45 at D45 s45 y45
          have z45 : Dw K (hd S m l4 H45) (.ref t45) 1 := ⟨_, y45, Nat.le_refl _⟩
          have W45 := W44.same (hd_same s45)
          have T45 := dp_same (hd_same s45) _ _ T44
          have X45 := X44.same (hd_same s45)
          have p45 := dp_same (hd_same s45) _ _ p44
          have A45 := A44.trans s45
          refine dw_cat D45 W45 z45 (by omega) fun v46 H46 s46 D46 z46 => ?_
          have W46 := W45.same (hd_same s46)
          have T46 := dp_same (hd_same s46) _ _ T45
          have X46 := X45.same (hd_same s46)
          have p46 := dp_same (hd_same s46) _ _ p45
          have A46 := A45.trans s46
          have X46 := X46.snoc (Same.refl _) (z46.sc (n' := 2 * n + 1) (by omega))
          refine ⟨_, rfl, ?_⟩
          obtain ⟨cx, cy, ce, cq, cl, ck⟩ := dw_twice D46 W46 (by omega)
          refine ⟨cx, 2, cy, ce, rfl, cq, by decide, cl, fun t47 H47 s47 hb47 => ?_⟩
          obtain ⟨D47, z47⟩ := ck t47 H47 s47 hb47
          have W47 := W46.same (hd_same s47)
          have T47 := dp_same (hd_same s47) _ _ T46
          have X47 := X46.same (hd_same s47)
          have p47 := dp_same (hd_same s47) _ _ p46
          have A47 := A46.trans s47
          have X47 := X47.snoc (Same.refl _) (z47.sc (n' := 2 * n + 1) (by omega))
          refine ⟨by show 6 ≤ sizeLine; decide, fun L48 hL48 => ?_⟩
          have s48 := same_new (o := .lst [v41, V.ref t42, v44, V.non, v46, V.ref t47]) hL48
          have D48 := D47.same s48
          have h48 : upd H47 L48 (.lst [v41, V.ref t42, v44, V.non, v46, V.ref t47]) L48 = some (.lst [v41, V.ref t42, v44, V.non, v46, V.ref t47]) := upd_same
          generalize upd H47 L48 (.lst [v41, V.ref t42, v44, V.non, v46, V.ref t47]) = H48 at D48 s48 h48
          have W48 := W47.same (hd_same s48)
          have T48 := dp_same (hd_same s48) _ _ T47
          have X48 := X47.same (hd_same s48)
          have p48 := dp_same (hd_same s48) _ _ p47
          have A48 := A47.trans s48
          refine ⟨L36, L48, _, _, rfl, rfl, (((((((((((s37.trans s38).trans s39).trans s40).trans s41).trans s42).trans s43).trans s44).trans s45).trans s46).trans s47).trans s48) _ _ h36, h48, by show 11 ≤ sizeLine; decide, fun F hF => ?_⟩
          dsimp only [List.cons_append, List.nil_append]
          have sF := same_new (o := .lst [v23, v28, v33, V.ref t34, V.ref t35, v41, V.ref t42, v44, V.non, v46, V.ref t47]) hF
          have DF := D48.same sF
          have hF1 := hd_at (o := .lst [v23, v28, v33, V.ref t34, V.ref t35, v41, V.ref t42, v44, V.non, v46, V.ref t47]) D48 hF
          generalize upd H48 F (.lst [v23, v28, v33, V.ref t34, V.ref t35, v41, V.ref t42, v44, V.non, v46, V.ref t47]) = HF at DF sF hF1
          have XF := X48.same (hd_same sF)
          have pF := dp_same (hd_same sF) _ _ p48
          have AF := A48.trans sF
          obtain ⟨pz, pzs, epz, hpz, hpzd⟩ := dp_tup pF
          cases epz
          obtain ⟨x0, x1, rfl, r0, r1⟩ := dpAll_two hpzd
          refine ⟨_, rfl, pa, _, 0, x0, rfl, rfl, same_tup hd_sub hpz, atI_nat (j := 0) rfl, ?_⟩
          refine ⟨_, rfl, _, rfl, m, q, l4, k + 1, 11, rfl, by decide, by decide, DF.d, fun r lz HZ rr0 rr1 kz DZ => ?_⟩
          have DZ := DF.draw kz DZ
          obtain ⟨z, hz, ez⟩ := pick_v (xs := [v23, v28, v33, V.ref t34, V.ref t35, v41, V.ref t42, v44, V.non, v46, V.ref t47]) rr0 (by show r < 11; exact rr1)
          refine ⟨F, _, r, z, rfl, rfl, SqL.of (hd_kp kz _ _ hF1), ez, ?_⟩
          refine ⟨by show 2 ≤ sizeLine; decide, fun tz htz => ?_⟩
          obtain ⟨y, hy1, hy2⟩ := (XF z hz).same (hd_step (S := S) kz)
          obtain ⟨DY, sY, bY⟩ := dp_new DZ (.cons (dp_same (hd_step (S := S) kz) _ _ r0) (.cons hy1 .nil)) htz
          exact qq _ _ _ (KK.trans ((kp_of AF).trans (kz.trans (kp_of sY)))) (DY.less (by omega)) (el_two bY lay0 hd0 hy2)
      | none =>
        subst hg
        refine ⟨_, rfl, _, .ty "tuple", _, _, _, rfl, .ty _, tyx (dp_same hd_sub _ _ g1), kitT _, _, rfl, ?_⟩
        exact iteT ⟨_, rfl, qq _ _ _ k1 (D1.less (by omega)) (elp hp1)⟩
      | int z =>
        subst hg
        refine ⟨_, rfl, _, .ty "tuple", _, _, _, rfl, .ty _, tyx (dp_same hd_sub _ _ g1), kitT _, _, rfl, ?_⟩
        exact iteT ⟨_, rfl, qq _ _ _ k1 (D1.less (by omega)) (elp hp1)⟩
      | bool z =>
        subst hg
        refine ⟨_, rfl, _, .ty "tuple", _, _, _, rfl, .ty _, tyx (dp_same hd_sub _ _ g1), kitT _, _, rfl, ?_⟩
        exact iteT ⟨_, rfl, qq _ _ _ k1 (D1.less (by omega)) (elp hp1)⟩
      | str z =>
        subst hg
        refine ⟨_, rfl, _, .ty "tuple", _, _, _, rfl, .ty _, tyx (dp_same hd_sub _ _ g1), kitT _, _, rfl, ?_⟩
        exact iteT ⟨_, rfl, qq _ _ _ k1 (D1.less (by omega)) (elp hp1)⟩
      | list z =>
        subst hg
        refine ⟨_, rfl, _, .ty "tuple", _, _, _, rfl, .ty _, tyx (dp_same hd_sub _ _ g1), kitT _, _, rfl, ?_⟩
        exact iteT ⟨_, rfl, qq _ _ _ k1 (D1.less (by omega)) (elp hp1)⟩
      | dict z => subst hg; cases g1
end
end My

set_option pp.maxSteps 400
set_option pp.deepTerms false
/-! what cannot be compared is refused -/
namespace My
open PySem PySem.Spec PyProof.Rows L2
def greatC (ms : List (Int × Int)) : Cod := ⟨-128, 128, [1], ms, 0⟩
def lessC (C : Cod) : Cod := ⟨C.low, C.high, C.steps, C.moves ++ [(0, 0)], C.fade⟩
theorem great_ok {C : Cod} (O : C.Ok) : (greatC C.moves).Ok := ⟨show -32768 ≤ (-128 : Int) by decide, show (-128 : Int) ≤ 0 by decide, show 0 ≤ (128 : Int) by decide, show (128 : Int) ≤ 32767 by decide, show 1 ≤ 1 by decide, show 1 ≤ 16 by decide, show ∀ s ∈ ([1] : List Int), 1 ≤ s ∧ s ≤ 9999 by decide, O.m1, O.m2, O.m3, .inl rfl⟩
theorem out_place {C G : Cod} {dx dy d r : PyData} (h : OutA C G dx dy d r) (f1 : C.cnt ≤ 256) (f2 : G.cnt ≤ 256) (b : C.moves.length ≠ G.moves.length ∨ stateD C dx = false ∨ stateD G dy = false) : r = .str (Str.ofString "place") := by
  cases h with
  | great g => omega
  | place => rfl
  | res a b' _ _ hm ex ey ha hb =>
    subst ex ey
    rcases b with b | b | b
    · exact absurd hm b
    · rw [ha.ok] at b; cases b
    · rw [hb.ok] at b; cases b
theorem out_great {C G : Cod} {dx dy d r : PyData} (h : OutA C G dx dy d r) (g : 256 < C.cnt ∨ 256 < G.cnt) : r = .int 256 := by
  cases h with
  | great => rfl
  | place => omega
  | res => omega
theorem outC_place {C G : Cod} {dx dy r : PyData} (h : OutC C G dx dy r) (f1 : C.cnt ≤ 256) (f2 : G.cnt ≤ 256) (b : C.moves.length ≠ G.moves.length ∨ stateD C dx = false ∨ stateD G dy = false) : r = .str (Str.ofString "place") := by
  cases h with
  | great g => omega
  | place => rfl
  | none a b' _ _ hm ex ey ha hb =>
    subst ex ey
    rcases b with b | b | b
    · exact absurd hm b
    · rw [ha.ok] at b; cases b
    · rw [hb.ok] at b; cases b
theorem outC_great {C G : Cod} {dx dy r : PyData} (h : OutC C G dx dy r) (g : 256 < C.cnt ∨ 256 < G.cnt) : r = .int 256 := by
  cases h with
  | great => rfl
  | place => omega
  | none => omega
theorem pap_none : PapOk .none := ⟨nofun, nofun⟩
theorem st_neg (C : Cod) : stateD C (pairI (0, -1)) = false := by
  exact Bool.and_false (btw (.int 0) C.low C.high)
theorem less_ok {C : Cod} (O : C.Ok) (h : C.moves.length ≤ 15) : (lessC C).Ok := ⟨O.l1, O.l2, O.h1, O.h2, O.s1, O.s2, O.s3, by show 2 ≤ (C.moves ++ [(0, 0)]).length; rw [List.length_append]; have := O.m1; omega, by show (C.moves ++ [(0, 0)]).length ≤ 16; rw [List.length_append]; exact Nat.succ_le_succ h, fun p hp => by
  rcases List.mem_append.mp hp with h | h
  · exact O.m3 p h
  · rw [List.mem_singleton.mp h]; decide, O.f1⟩
theorem great_cnt (ms : List (Int × Int)) : 256 < (greatC ms).cnt := by
  show 256 < ((128 : Int) - -128 + 1) * (1 : Int)
  decide
section
variable {P : Program} {w : World} {K : PySem.W.Frag} {mg : Str → Option Value} {base : Heap}
def sp_law_wrong_right (K : PySem.W.Frag) : Sp := fun vs H Q _ => ∃ (m c x : V) (C : Cod) (a : Int × Int), vs = [m, c, x] ∧ C.Ok ∧ C.cnt ≤ 256 ∧ C.moves.length ≤ 15 ∧ Dp K H c C.dat ∧ Dp K H x (pairI a) ∧ C.St a ∧ ∀ H', Same H H' → Q (.bl true) H'
set_option maxHeartbeats 4000000 in
theorem ok_law_wrong_right (T : Txt K mg) : FnOk P w K mg base CX0 14 T.f__law_wrong_right T.d__law_wrong_right ["m", "coder", "one"] (sp_law_wrong_right K) := by
  refine T.F__law_wrong_right.ok sc_law_wrong_right (fun vs H Q E h => ?_) (fun cdv A outer s H vs Q E hr h => ?_)
  · obtain ⟨m, c, x, C, a, rfl, _⟩ := h
    rfl
  · obtain ⟨m, c, x, C, a, rfl, O, few, hm15, hc, hx, ha, q⟩ := h
    obtain ⟨ca, cs, cm, ms, rfl, hca, hcs, hcm, hmd⟩ := cod_at hc
    refine ⟨_,
(pss_cons (ps_par (i := 3) (j := 4) (by rfl) sc_law_wrong_right.nd rfl rfl (by decide) rfl rfl (pa_cons (pe_tup (pa_cons (pe_un un_neg pe_int) (pa_cons pe_int (pa_cons (pe_tup (pa_cons pe_int pa_nil)) (pa_cons (pe_ix ix_tup (pv 1) pe_int (fun _ _ => rfl)) (pa_cons pe_int pa_nil)))))) (pa_cons (pe_op op_catA (pe_slice sl_tupA (pv 1) po_none (po_some pe_int)) (pe_tup (pa_cons (pe_op op_catA (pe_ix ix_tup (pv 1) pe_int (fun _ _ => rfl)) (pe_tup (pa_cons (pe_tup (pa_cons pe_int (pa_cons pe_int pa_nil))) pa_nil))) (pa_cons (pe_ix ix_tup (pv 1) pe_int (fun _ _ => rfl)) pa_nil)))) pa_nil)) (by rfl))
      (pss_cons (ps_set (i := 5) sc_law_wrong_right.nd rfl (Or.inl rfl) (pe_lst (pa_cons (pe_call (ok_law_outcome T) (hr.mono (by decide)) (by rfl) T.g__law_outcome T.F__law_outcome.kp T.b__law_outcome .nil pass0 (pa_cons (pv 1) (pa_cons (pv 4) (pa_cons pe_non (pa_cons pe_non (pa_cons pe_non pa_nil)))))) (pa_cons (pe_call (ok_law_outcome T) (hr.mono (by decide)) (by rfl) T.g__law_outcome T.F__law_outcome.kp T.b__law_outcome .nil pass0 (pa_cons (pv 3) (pa_cons pe_non (pa_cons pe_non (pa_cons pe_non (pa_cons pe_non pa_nil)))))) pa_nil))))
      (pss_cons (ps_set (i := 5) sc_law_wrong_right.nd rfl (Or.inl rfl) (pe_op op_cat (pv 5) (pe_lst (pa_cons (pe_call (ok_law_outcome T) (hr.mono (by decide)) (by rfl) T.g__law_outcome T.F__law_outcome.kp T.b__law_outcome .nil pass0 (pa_cons (pv 1) (pa_cons (pv 3) (pa_cons pe_non (pa_cons pe_non (pa_cons pe_non pa_nil)))))) (pa_cons (pe_call (ok_law_outcome T) (hr.mono (by decide)) (by rfl) T.g__law_outcome T.F__law_outcome.kp T.b__law_outcome .nil pass0 (pa_cons (pv 1) (pa_cons (pv 1) (pa_cons pe_non (pa_cons (pv 2) (pa_cons pe_non pa_nil)))))) pa_nil)))))
      (pss_cons (ps_expr (pe_bm PySem.F.plainAttrs_list PySem.F.slot_list_append PySem.F.type_list_append mt_append (pv 5) (pa_cons (pe_call (ok_law_outcome T) (hr.mono (by decide)) (by rfl) T.g__law_outcome T.F__law_outcome.kp T.b__law_outcome .nil pass0 (pa_cons (pv 1) (pa_cons (pv 1) (pa_cons (pv 2) (pa_cons (pe_tup (pa_cons pe_int (pa_cons (pe_un un_neg pe_int) pa_nil))) (pa_cons pe_non pa_nil)))))) pa_nil)))
      (pss_cons (ps_set (i := 6) sc_law_wrong_right.nd rfl (Or.inl rfl) (pe_lst (pa_cons (pe_call (ok_law_compared T) (hr.mono (by decide)) (by rfl) T.g__law_compared T.F__law_compared.kp T.b__law_compared .nil pass0 (pa_cons (pv 1) (pa_cons (pv 4) (pa_cons pe_non (pa_cons pe_non pa_nil))))) (pa_cons (pe_call (ok_law_compared T) (hr.mono (by decide)) (by rfl) T.g__law_compared T.F__law_compared.kp T.b__law_compared .nil pass0 (pa_cons (pv 3) (pa_cons pe_non (pa_cons pe_non (pa_cons pe_non pa_nil))))) pa_nil))))
      (pss_cons (ps_set (i := 6) sc_law_wrong_right.nd rfl (Or.inl rfl) (pe_op op_cat (pv 6) (pe_lst (pa_cons (pe_call (ok_law_compared T) (hr.mono (by decide)) (by rfl) T.g__law_compared T.F__law_compared.kp T.b__law_compared .nil pass0 (pa_cons (pv 1) (pa_cons (pv 3) (pa_cons pe_non (pa_cons pe_non pa_nil))))) (pa_cons (pe_call (ok_law_compared T) (hr.mono (by decide)) (by rfl) T.g__law_compared T.F__law_compared.kp T.b__law_compared .nil pass0 (pa_cons (pv 1) (pa_cons (pv 1) (pa_cons pe_non (pa_cons (pv 2) pa_nil))))) pa_nil)))))
      (pss_cons (ps_expr (pe_bm PySem.F.plainAttrs_list PySem.F.slot_list_append PySem.F.type_list_append mt_append (pv 6) (pa_cons (pe_call (ok_law_compared T) (hr.mono (by decide)) (by rfl) T.g__law_compared T.F__law_compared.kp T.b__law_compared .nil pass0 (pa_cons (pv 1) (pa_cons (pv 1) (pa_cons (pv 2) (pa_cons (pe_tup (pa_cons pe_int (pa_cons (pe_un un_neg pe_int) pa_nil))) pa_nil))))) pa_nil)))
      (pss_cons (ps_set (i := 7) sc_law_wrong_right.nd rfl (Or.inl rfl) (pe_op op_catA (pe_slice sl_tupA (pv 3) po_none (po_some pe_int)) (pe_tup (pa_cons (pe_op op_catA (pe_ix ix_tup (pv 1) pe_int (fun _ _ => rfl)) (pe_tup (pa_cons (pe_tup (pa_cons pe_int (pa_cons pe_int pa_nil))) pa_nil))) (pa_cons pe_int pa_nil)))))
      (pss_cons (ps_if (pt_cmpR (op_neD hr.units) (pe_lst (pa_cons (pe_call (ok_law_compared T) (hr.mono (by decide)) (by rfl) T.g__law_compared T.F__law_compared.kp T.b__law_compared .nil pass0 (pa_cons (pv 1) (pa_cons (pv 7) (pa_cons pe_non (pa_cons pe_non pa_nil))))) (pa_cons (pe_call (ok_law_outcome T) (hr.mono (by decide)) (by rfl) T.g__law_outcome T.F__law_outcome.kp T.b__law_outcome .nil pass0 (pa_cons (pv 1) (pa_cons (pv 7) (pa_cons pe_non (pa_cons pe_non (pa_cons pe_non pa_nil)))))) pa_nil))) (pe_lst (pa_cons pe_int (pa_cons pe_int pa_nil))) (nomark _)) (pss_one (ps_ret pe_bl)) pss_nil)
      (pss_one (ps_ret (pe_cmpR (op_eqD hr.units) (pe_lst (pa_cons (pv 5) (pa_cons (pv 6) pa_nil))) (pe_op op_rep (pe_lst (pa_cons (pe_lst (pa_cons pe_str (pa_cons pe_int (pa_cons pe_int (pa_cons pe_str (pa_cons pe_str pa_nil)))))) pa_nil)) pe_int) (nomark _)))))))))))))
, ?_⟩
    -- great
    refine ⟨_, rfl, by show 1 ≤ sizeLine; decide, fun g1 hg1 => ?_⟩
    have s1 := same_new (o := .tup [V.int 1]) hg1
    have t1 : SqT K (upd H g1 (.tup [V.int 1])) g1 [V.int 1] := upd_tup
    generalize upd H g1 (.tup [V.int 1]) = H1 at s1 t1
    refine ⟨_, rfl, ca, _, 3, _, rfl, rfl, same_tup s1 hca, atI_nat (j := 3) rfl, by show 5 ≤ sizeLine; decide, fun g2 hg2 => ?_⟩
    have s2 := same_new (o := .tup [V.int (-128), V.int 128, V.ref g1, V.ref cm, V.int 0]) hg2
    have t2 : SqT K (upd H1 g2 (.tup [V.int (-128), V.int 128, V.ref g1, V.ref cm, V.int 0])) g2 [V.int (-128), V.int 128, V.ref g1, V.ref cm, V.int 0] := upd_tup
    generalize upd H1 g2 (.tup [V.int (-128), V.int 128, V.ref g1, V.ref cm, V.int 0]) = H2 at s2 t2
    have s02 := s1.trans s2
    have dg : Dp K H2 (.ref g2) (greatC C.moves).dat := .tup t2 (.cons (.int _) (.cons (.int _) (.cons (.tup (same_tup s2 t1) (.cons (.int _) .nil)) (.cons (.tup (same_tup s02 hcm) (dpAll_same s02 _ _ hmd)) (.cons (.int _) .nil)))))
    -- less
    refine ⟨_, rfl, 3, rfl, ca, _, rfl, same_tup s02 hca, fun hw => absurd (show (3 : Nat) = 5 from hw.2) (by decide), fun _ p3 hp3 => ?_⟩
    rw [cut3]
    have s3 := same_new (o := .tup [V.int C.low, V.int C.high, V.ref cs]) hp3
    have t3 : SqT K (upd H2 p3 (.tup [V.int C.low, V.int C.high, V.ref cs])) p3 [V.int C.low, V.int C.high, V.ref cs] := upd_tup
    generalize upd H2 p3 (.tup [V.int C.low, V.int C.high, V.ref cs]) = H3 at s3 t3
    have s03 := s02.trans s3
    refine ⟨_, rfl, ca, _, 3, _, rfl, rfl, same_tup s03 hca, atI_nat (j := 3) rfl, by show 2 ≤ sizeLine; decide, fun p4 hp4 => ?_⟩
    have s4 := same_new (o := .tup [V.int 0, V.int 0]) hp4
    have t4 : SqT K (upd H3 p4 (.tup [V.int 0, V.int 0])) p4 [V.int 0, V.int 0] := upd_tup
    generalize upd H3 p4 (.tup [V.int 0, V.int 0]) = H4 at s4 t4
    refine ⟨by show 1 ≤ sizeLine; decide, fun p5 hp5 => ?_⟩
    have s5 := same_new (o := .tup [V.ref p4]) hp5
    have t5 : SqT K (upd H4 p5 (.tup [V.ref p4])) p5 [V.ref p4] := upd_tup
    generalize upd H4 p5 (.tup [V.ref p4]) = H5 at s5 t5
    have s05 := (s03.trans s4).trans s5
    have hml := dpAll_len hmd
    rw [List.length_map] at hml
    refine cat_any (same_tup s05 hcm) t5 (Nat.le_trans (show ms.length + 1 ≤ 60000 by omega) (by decide)) fun p6 H6 s6 t6 => ?_
    have s06 := s05.trans s6
    refine ⟨_, rfl, ca, _, 4, _, rfl, rfl, same_tup s06 hca, atI_nat (j := 4) rfl, by show 2 ≤ sizeLine; decide, fun p7 hp7 => ?_⟩
    have s7 := same_new (o := .tup [V.ref p6, V.int C.fade]) hp7
    have t7 : SqT K (upd H6 p7 (.tup [V.ref p6, V.int C.fade])) p7 [V.ref p6, V.int C.fade] := upd_tup
    generalize upd H6 p7 (.tup [V.ref p6, V.int C.fade]) = H7 at s7 t7
    have s07 := s06.trans s7
    refine cat_any (same_tup (((((s4.trans s5).trans s6).trans s7))) t3) t7 (by show 5 ≤ sizeLine; decide) fun p8 H8 s8 t8 => ?_
    have s08 := s07.trans s8
    have dmv : DpAll K H8 (ms ++ [V.ref p4]) ((C.moves ++ [(0, 0)]).map pairI) := by
      rw [List.map_append]
      exact dpAll_app (dpAll_same s08 _ _ hmd) (.cons (.tup (same_tup (((s5.trans s6).trans s7).trans s8) t4) (.cons (.int _) (.cons (.int _) .nil))) .nil)
    have dl : Dp K H8 (.ref p8) (lessC C).dat := .tup t8 (.cons (.int _) (.cons (.int _) (.cons (dp_tints (same_tup s08 hcs)) (.cons (.tup (same_tup (s7.trans s8) t6) dmv) (.cons (.int _) .nil)))))
    have dg := dp_same ((((((s3.trans s4).trans s5).trans s6).trans s7).trans s8)) _ _ dg
    have hc8 := dp_same s08 _ _ hc
    have hx8 := dp_same s08 _ _ hx
    refine ⟨_, _, rfl, ?_⟩
    clear s1 s2 s3 s4 s5 s6 s7 s02 s03 s05 s06 s07 t1 t2 t3 t4 t5 t6 t7 t8 hg1 hg2 hp3 hp4 hp5 hp7 hc hx hmd hcm hcs hca
    have hms : C.moves.length ≠ (lessC C).moves.length := by
      show _ ≠ (C.moves ++ [(0, 0)]).length
      rw [List.length_append]
      exact Nat.ne_of_lt (Nat.lt_succ_self _)
    -- found
    refine ⟨_, rfl, _, rfl, .inr ⟨.ref ca, .ref p8, .non, .non, .non, C, lessC C, .none, .none, .none, rfl, O, less_ok O hm15, hc8, dl, .non, .non, .non, pap_none, fun z1 r1 H9 s9 o1 d1 => ?_⟩⟩
    obtain rfl := out_place o1 few few (.inl hms)
    cases d1
    refine ⟨_, rfl, .inl ⟨.ref g2, _, greatC C.moves, rfl, rfl, great_ok O, dp_same s9 _ _ dg, great_cnt _, fun H10 s10 => ?_⟩⟩
    refine ⟨by show 2 ≤ sizeLine; decide, fun L1 hL1 => ?_⟩
    have s11 := same_new (o := .lst [V.str (Str.ofString "place"), V.int 256]) hL1
    have l1 : upd H10 L1 (.lst [V.str (Str.ofString "place"), V.int 256]) L1 = some (.lst [V.str (Str.ofString "place"), V.int 256]) := upd_same
    generalize upd H10 L1 (.lst [V.str (Str.ofString "place"), V.int 256]) = H11 at s11 l1
    have b11 := (s9.trans s10).trans s11
    refine ⟨_, rfl, _, rfl, _, rfl, .inr ⟨.ref ca, .ref g2, .non, .non, .non, C, greatC C.moves, .none, .none, .none, rfl, O, great_ok O, dp_same b11 _ _ hc8, dp_same b11 _ _ dg, .non, .non, .non, pap_none, fun z1 r1 H12 s12 o1 d1 => ?_⟩⟩
    obtain rfl := out_great o1 (.inr (great_cnt _))
    cases d1
    have b12 := b11.trans s12
    refine ⟨_, rfl, _, rfl, _, rfl, .inr ⟨.ref ca, .ref ca, .non, x, .non, C, C, .none, pairI a, .none, rfl, O, O, dp_same b12 _ _ hc8, dp_same b12 _ _ hc8, .non, dp_same b12 _ _ hx8, .non, pap_none, fun z1 r1 H13 s13 o1 d1 => ?_⟩⟩
    obtain rfl := out_place o1 few few (.inr (.inl rfl))
    cases d1
    refine ⟨by show 2 ≤ sizeLine; decide, fun L2 hL2 => ?_⟩
    have s14 := same_new (o := .lst [V.int 256, V.str (Str.ofString "place")]) hL2
    have l2 : upd H13 L2 (.lst [V.int 256, V.str (Str.ofString "place")]) L2 = some (.lst [V.int 256, V.str (Str.ofString "place")]) := upd_same
    generalize upd H13 L2 (.lst [V.int 256, V.str (Str.ofString "place")]) = H14 at s14 l2
    refine ⟨L1, L2, _, _, rfl, rfl, ((s12.trans s13).trans s14) _ _ l1, l2, by show 4 ≤ sizeLine; decide, fun F1 hF1 => ?_⟩
    dsimp only [List.cons_append, List.nil_append]
    have b14 := (b12.trans s13).trans s14
    have hF8 : H8 F1 = none := by
      cases e : H8 F1 with
      | none => rfl
      | some o => rw [b14 _ _ e] at hF1; cases hF1
    have s15 := same_new (o := .lst [V.str (Str.ofString "place"), V.int 256, V.int 256, V.str (Str.ofString "place")]) hF1
    have f15 : upd H14 F1 (.lst [V.str (Str.ofString "place"), V.int 256, V.int 256, V.str (Str.ofString "place")]) F1 = some (.lst [V.str (Str.ofString "place"), V.int 256, V.int 256, V.str (Str.ofString "place")]) := upd_same
    generalize upd H14 F1 (.lst [V.str (Str.ofString "place"), V.int 256, V.int 256, V.str (Str.ofString "place")]) = H15 at s15 f15
    have b15 := b14.trans s15
    refine ⟨_, rfl, .inl ⟨rfl, _, SqL.of f15⟩, _, rfl, _, rfl, _, rfl, _, rfl, by show 2 ≤ sizeLine; decide, fun tz htz => ?_⟩
    have s16 := same_new (o := .tup [V.int 0, V.int (-1)]) htz
    have dz : Dp K (upd H15 tz (.tup [V.int 0, V.int (-1)])) (.ref tz) (pairI (0, -1)) := dp_mkpair upd_tup
    generalize upd H15 tz (.tup [V.int 0, V.int (-1)]) = H16 at s16 dz
    have b16 := b15.trans s16
    refine .inr ⟨.ref ca, .ref ca, x, .ref tz, .non, C, C, pairI a, pairI (0, -1), .none, rfl, O, O, dp_same b16 _ _ hc8, dp_same b16 _ _ hc8, dp_same b16 _ _ hx8, dz, .non, pap_none, fun z1 r1 H17 s17 o1 d1 => ?_⟩
    obtain rfl := out_place o1 few few (.inr (.inr (st_neg C)))
    cases d1
    have f17 := s17 _ _ (s16 _ _ f15)
    refine ⟨F1, _, _, rfl, rfl, f17, by show 4 < sizeLine; decide, ?_⟩
    dsimp only [List.cons_append, List.nil_append]
    have b18 := same_put (o := .lst [V.str (Str.ofString "place"), V.int 256, V.int 256, V.str (Str.ofString "place"), V.str (Str.ofString "place")]) (b16.trans s17) hF8
    have f18 : upd H17 F1 (.lst [V.str (Str.ofString "place"), V.int 256, V.int 256, V.str (Str.ofString "place"), V.str (Str.ofString "place")]) F1 = some (.lst [V.str (Str.ofString "place"), V.int 256, V.int 256, V.str (Str.ofString "place"), V.str (Str.ofString "place")]) := upd_same
    generalize upd H17 F1 (.lst [V.str (Str.ofString "place"), V.int 256, V.int 256, V.str (Str.ofString "place"), V.str (Str.ofString "place")]) = H18 at b18 f18
    clear s9 s10 s11 s12 s13 s14 s15 s16 s17 b11 b12 b14 b15 b16 f15 f17 l1 l2 hL1 hL2 hF1
    -- told
    refine ⟨_, rfl, _, rfl, .inr ⟨.ref ca, .ref p8, .non, .non, C, lessC C, .none, .none, rfl, O, less_ok O hm15, dp_same b18 _ _ hc8, dp_same b18 _ _ dl, .non, .non, fun z1 r1 H19 s19 o1 d1 => ?_⟩⟩
    obtain rfl := outC_place o1 few few (.inl hms)
    cases d1
    have b19 := b18.trans s19
    refine ⟨_, rfl, .inl ⟨.ref g2, _, greatC C.moves, rfl, rfl, great_ok O, dp_same b19 _ _ dg, great_cnt _, fun H20 s20 => ?_⟩⟩
    refine ⟨by show 2 ≤ sizeLine; decide, fun L3 hL3 => ?_⟩
    have s21 := same_new (o := .lst [V.str (Str.ofString "place"), V.int 256]) hL3
    have l3 : upd H20 L3 (.lst [V.str (Str.ofString "place"), V.int 256]) L3 = some (.lst [V.str (Str.ofString "place"), V.int 256]) := upd_same
    generalize upd H20 L3 (.lst [V.str (Str.ofString "place"), V.int 256]) = H21 at s21 l3
    have b21 := (b19.trans s20).trans s21
    have c21 := (s19.trans s20).trans s21
    refine ⟨_, rfl, _, rfl, _, rfl, .inr ⟨.ref ca, .ref g2, .non, .non, C, greatC C.moves, .none, .none, rfl, O, great_ok O, dp_same b21 _ _ hc8, dp_same b21 _ _ dg, .non, .non, fun z1 r1 H22 s22 o1 d1 => ?_⟩⟩
    obtain rfl := outC_great o1 (.inr (great_cnt _))
    cases d1
    have b22 := b21.trans s22
    refine ⟨_, rfl, _, rfl, _, rfl, .inr ⟨.ref ca, .ref ca, .non, x, C, C, .none, pairI a, rfl, O, O, dp_same b22 _ _ hc8, dp_same b22 _ _ hc8, .non, dp_same b22 _ _ hx8, fun z1 r1 H23 s23 o1 d1 => ?_⟩⟩
    obtain rfl := outC_place o1 few few (.inr (.inl rfl))
    cases d1
    refine ⟨by show 2 ≤ sizeLine; decide, fun L4 hL4 => ?_⟩
    have s24 := same_new (o := .lst [V.int 256, V.str (Str.ofString "place")]) hL4
    have l4 : upd H23 L4 (.lst [V.int 256, V.str (Str.ofString "place")]) L4 = some (.lst [V.int 256, V.str (Str.ofString "place")]) := upd_same
    generalize upd H23 L4 (.lst [V.int 256, V.str (Str.ofString "place")]) = H24 at s24 l4
    refine ⟨L3, L4, _, _, rfl, rfl, ((s22.trans s23).trans s24) _ _ l3, l4, by show 4 ≤ sizeLine; decide, fun F2 hF2 => ?_⟩
    dsimp only [List.cons_append, List.nil_append]
    have b24 := (b22.trans s23).trans s24
    have c24 := ((c21.trans s22).trans s23).trans s24
    have hG8 : H18 F2 = none := by
      cases e : H18 F2 with
      | none => rfl
      | some o => rw [c24 _ _ e] at hF2; cases hF2
    have s25 := same_new (o := .lst [V.str (Str.ofString "place"), V.int 256, V.int 256, V.str (Str.ofString "place")]) hF2
    have f25 : upd H24 F2 (.lst [V.str (Str.ofString "place"), V.int 256, V.int 256, V.str (Str.ofString "place")]) F2 = some (.lst [V.str (Str.ofString "place"), V.int 256, V.int 256, V.str (Str.ofString "place")]) := upd_same
    generalize upd H24 F2 (.lst [V.str (Str.ofString "place"), V.int 256, V.int 256, V.str (Str.ofString "place")]) = H25 at s25 f25
    have c25 := c24.trans s25
    refine ⟨_, rfl, .inl ⟨rfl, _, SqL.of f25⟩, _, rfl, _, rfl, _, rfl, _, rfl, by show 2 ≤ sizeLine; decide, fun tz htz => ?_⟩
    have s26 := same_new (o := .tup [V.int 0, V.int (-1)]) htz
    have dz : Dp K (upd H25 tz (.tup [V.int 0, V.int (-1)])) (.ref tz) (pairI (0, -1)) := dp_mkpair upd_tup
    generalize upd H25 tz (.tup [V.int 0, V.int (-1)]) = H26 at s26 dz
    have c26 := c25.trans s26
    have b26 := b18.trans c26
    refine .inr ⟨.ref ca, .ref ca, x, .ref tz, C, C, pairI a, pairI (0, -1), rfl, O, O, dp_same b26 _ _ hc8, dp_same b26 _ _ hc8, dp_same b26 _ _ hx8, dz, fun z1 r1 H27 s27 o1 d1 => ?_⟩
    obtain rfl := outC_place o1 few few (.inr (.inr (st_neg C)))
    cases d1
    have f27 := s27 _ _ (s26 _ _ f25)
    refine ⟨F2, _, _, rfl, rfl, f27, by show 4 < sizeLine; decide, ?_⟩
    dsimp only [List.cons_append, List.nil_append]
    have c28 := same_put (o := .lst [V.str (Str.ofString "place"), V.int 256, V.int 256, V.str (Str.ofString "place"), V.str (Str.ofString "place")]) (c26.trans s27) hG8
    have f28 : upd H27 F2 (.lst [V.str (Str.ofString "place"), V.int 256, V.int 256, V.str (Str.ofString "place"), V.str (Str.ofString "place")]) F2 = some (.lst [V.str (Str.ofString "place"), V.int 256, V.int 256, V.str (Str.ofString "place"), V.str (Str.ofString "place")]) := upd_same
    generalize upd H27 F2 (.lst [V.str (Str.ofString "place"), V.int 256, V.int 256, V.str (Str.ofString "place"), V.str (Str.ofString "place")]) = H28 at c28 f28
    have b28 := b18.trans c28
    have g28 := c28 _ _ f18
    clear s19 s20 s21 s22 s23 s24 s25 s26 s27 b19 b21 b22 b24 b26 c21 c24 c25 c26 f25 f27 l3 l4 hL3 hL4 hF2 c28 f18 b18
    -- more
    obtain ⟨ga, gxs, ega, hga, hgd⟩ := dp_tup (show Dp K H28 (.ref g2) (.tuple [.int (-128), .int 128, .tuple [.int 1], .tuple (C.moves.map pairI), .int 0]) from dp_same b28 _ _ dg)
    cases ega
    obtain ⟨x1, x2, x3, x4, x5, rfl, d1, d2, d3, d4, d5⟩ := dpAll5 hgd
    cases d1
    cases d2
    refine ⟨_, rfl, 3, rfl, g2, _, rfl, hga, fun hw => absurd (show (3 : Nat) = 5 from hw.2) (by decide), fun _ p3 hp3 => ?_⟩
    rw [cut3]
    have s3 := same_new (o := .tup [V.int (-128), V.int 128, x3]) hp3
    have t3 : SqT K (upd H28 p3 (.tup [V.int (-128), V.int 128, x3])) p3 [V.int (-128), V.int 128, x3] := upd_tup
    generalize upd H28 p3 (.tup [V.int (-128), V.int 128, x3]) = H29 at s3 t3
    obtain ⟨ca', cs, cm, ms, eca, hca, hcs, hcm, hmd⟩ := cod_at (dp_same (b28.trans s3) _ _ hc8)
    cases eca
    refine ⟨_, rfl, ca, _, 3, _, rfl, rfl, hca, atI_nat (j := 3) rfl, by show 2 ≤ sizeLine; decide, fun p4 hp4 => ?_⟩
    have s4 := same_new (o := .tup [V.int 0, V.int 0]) hp4
    have t4 : SqT K (upd H29 p4 (.tup [V.int 0, V.int 0])) p4 [V.int 0, V.int 0] := upd_tup
    generalize upd H29 p4 (.tup [V.int 0, V.int 0]) = H30 at s4 t4
    refine ⟨by show 1 ≤ sizeLine; decide, fun p5 hp5 => ?_⟩
    have s5 := same_new (o := .tup [V.ref p4]) hp5
    have t5 : SqT K (upd H30 p5 (.tup [V.ref p4])) p5 [V.ref p4] := upd_tup
    generalize upd H30 p5 (.tup [V.ref p4]) = H31 at s5 t5
    have s05 := s4.trans s5
    have hml := dpAll_len hmd
    rw [List.length_map] at hml
    refine cat_any (same_tup s05 hcm) t5 (Nat.le_trans (show ms.length + 1 ≤ 60000 by omega) (by decide)) fun p6 H32 s6 t6 => ?_
    refine ⟨by show 2 ≤ sizeLine; decide, fun p7 hp7 => ?_⟩
    have s7 := same_new (o := .tup [V.ref p6, V.int 0]) hp7
    have t7 : SqT K (upd H32 p7 (.tup [V.ref p6, V.int 0])) p7 [V.ref p6, V.int 0] := upd_tup
    generalize upd H32 p7 (.tup [V.ref p6, V.int 0]) = H33 at s7 t7
    refine cat_any (same_tup (((s4.trans s5).trans s6).trans s7) t3) t7 (by show 5 ≤ sizeLine; decide) fun p8' H34 s8 t8 => ?_
    have r34 := ((((s4.trans s5).trans s6).trans s7).trans s8)
    have c34 := s3.trans r34
    have b34 := b28.trans c34
    have dmv : DpAll K H34 (ms ++ [V.ref p4]) ((C.moves ++ [(0, 0)]).map pairI) := by
      rw [List.map_append]
      exact dpAll_app (dpAll_same r34 _ _ hmd) (.cons (.tup (same_tup (((s5.trans s6).trans s7).trans s8) t4) (.cons (.int _) (.cons (.int _) .nil))) .nil)
    have dmo : Dp K H34 (.ref p8') (greatC (C.moves ++ [(0, 0)])).dat := .tup t8 (.cons (.int _) (.cons (.int _) (.cons (dp_same c34 _ _ d3) (.cons (.tup (same_tup (s7.trans s8) t6) dmv) (.cons (.int _) .nil)))))
    have Om : (greatC (C.moves ++ [(0, 0)])).Ok := great_ok (C := lessC C) (less_ok O hm15)
    have g34 := c34 _ _ g28
    have f34 := c34 _ _ f28
    clear s3 s4 s5 s6 s7 s05 t3 t4 t5 t6 t7 t8 hp3 hp4 hp5 hp7 hmd hcm hcs hca hgd hga d3 d4 d5 g28 f28 dmv r34 c34 b28
    refine ⟨_, rfl, _, rfl, .inr ⟨.ref ca, .ref p8', .non, .non, C, _, .none, .none, rfl, O, Om, dp_same b34 _ _ hc8, dmo, .non, .non, fun z1 r1 H35 s35 o1 d1 => ?_⟩⟩
    obtain rfl := outC_great o1 (.inr (great_cnt _))
    cases d1
    refine ⟨_, rfl, _, rfl, .inr ⟨.ref ca, .ref p8', .non, .non, .non, C, _, .none, .none, .none, rfl, O, Om, dp_same (b34.trans s35) _ _ hc8, dp_same s35 _ _ dmo, .non, .non, .non, pap_none, fun z1 r1 H36 s36 o1 d1 => ?_⟩⟩
    obtain rfl := out_great o1 (.inr (great_cnt _))
    cases d1
    refine ⟨by show 2 ≤ sizeLine; decide, fun A1 h_A1 => ?_⟩
    have s_A1 := same_new (o := .lst [V.int 256, V.int 256]) h_A1
    have l_A1 : (upd H36 A1 (.lst [V.int 256, V.int 256])) A1 = some (.lst [V.int 256, V.int 256]) := upd_same
    generalize upd H36 A1 (.lst [V.int 256, V.int 256]) = H37 at s_A1 l_A1
    clear h_A1
    refine ⟨by show 2 ≤ sizeLine; decide, fun A2 h_A2 => ?_⟩
    have s_A2 := same_new (o := .lst [V.int 256, V.int 256]) h_A2
    have l_A2 : (upd H37 A2 (.lst [V.int 256, V.int 256])) A2 = some (.lst [V.int 256, V.int 256]) := upd_same
    generalize upd H37 A2 (.lst [V.int 256, V.int 256]) = H38 at s_A2 l_A2
    clear h_A2
    have sh2 : SeqAt.shaped (.list [.int 256, .int 256]) = true := by decide +kernel
    refine ⟨.list [.int 256, .int 256], .list [.int 256, .int 256], .lst (SqL.of (s_A2 _ _ l_A1)) (.cons (.int _) (.cons (.int _) .nil)), .lst (SqL.of l_A2) (.cons (.int _) (.cons (.int _) .nil)), sh2, sh2, _, rfl, ?_⟩
    refine ifNo (by decide +kernel) ?_
    have r38 := ((s35.trans s36).trans s_A1).trans s_A2
    have b38 := b34.trans r38
    have g38 := r38 _ _ g34
    have f38 := r38 _ _ f34
    clear s35 s36 s_A1 s_A2 l_A1 l_A2 g34 f34 b34
    refine ⟨_, rfl, _, rfl, by show 2 ≤ sizeLine; decide, fun A3 hA3 => ?_⟩
    have s39 := same_new (o := .lst [V.ref F1, V.ref F2]) hA3
    have l39 : upd H38 A3 (.lst [V.ref F1, V.ref F2]) A3 = some (.lst [V.ref F1, V.ref F2]) := upd_same
    generalize upd H38 A3 (.lst [V.ref F1, V.ref F2]) = H39 at s39 l39
    refine ⟨by show 5 ≤ sizeLine; decide, fun A4 h_A4 => ?_⟩
    have s_A4 := same_new (o := .lst [V.str (Str.ofString "place"), V.int 256, V.int 256, V.str (Str.ofString "place"), V.str (Str.ofString "place")]) h_A4
    have l_A4 : (upd H39 A4 (.lst [V.str (Str.ofString "place"), V.int 256, V.int 256, V.str (Str.ofString "place"), V.str (Str.ofString "place")])) A4 = some (.lst [V.str (Str.ofString "place"), V.int 256, V.int 256, V.str (Str.ofString "place"), V.str (Str.ofString "place")]) := upd_same
    generalize upd H39 A4 (.lst [V.str (Str.ofString "place"), V.int 256, V.int 256, V.str (Str.ofString "place"), V.str (Str.ofString "place")]) = H40 at s_A4 l_A4
    clear h_A4
    refine ⟨by show 1 ≤ sizeLine; decide, fun A5 h_A5 => ?_⟩
    have s_A5 := same_new (o := .lst [V.ref A4]) h_A5
    have l_A5 : (upd H40 A5 (.lst [V.ref A4])) A5 = some (.lst [V.ref A4]) := upd_same
    generalize upd H40 A5 (.lst [V.ref A4]) = H41 at s_A5 l_A5
    clear h_A5
    refine ⟨A5, 2, _, rfl, rfl, l_A5, by decide, by decide, by show 1 * 2 ≤ sizeLine; decide, fun A6 hA6 => ?_⟩
    rw [show (List.replicate (2 : Int).toNat [V.ref A4]).flatten = [V.ref A4, V.ref A4] from rfl]
    have s42 := same_new (o := .lst [V.ref A4, V.ref A4]) hA6
    have l42 : upd H41 A6 (.lst [V.ref A4, V.ref A4]) A6 = some (.lst [V.ref A4, V.ref A4]) := upd_same
    generalize upd H41 A6 (.lst [V.ref A4, V.ref A4]) = H42 at s42 l42
    have r42 := ((s39.trans s_A4).trans s_A5).trans s42
    have dd : ∀ {H'' : Hp}, DpAll K H'' [V.str (Str.ofString "place"), V.int 256, V.int 256, V.str (Str.ofString "place"), V.str (Str.ofString "place")] [.str (Str.ofString "place"), .int 256, .int 256, .str (Str.ofString "place"), .str (Str.ofString "place")] := .cons (.str _) (.cons (.int _) (.cons (.int _) (.cons (.str _) (.cons (.str _) .nil))))
    have d5 : Dp K H42 (.ref A4) (.list [.str (Str.ofString "place"), .int 256, .int 256, .str (Str.ofString "place"), .str (Str.ofString "place")]) := .lst (SqL.of (s42 _ _ (s_A5 _ _ l_A4))) dd
    have sh : SeqAt.shaped (.list [.list [.str (Str.ofString "place"), .int 256, .int 256, .str (Str.ofString "place"), .str (Str.ofString "place")], .list [.str (Str.ofString "place"), .int 256, .int 256, .str (Str.ofString "place"), .str (Str.ofString "place")]]) = true := by decide +kernel
    have ev : PyData.eqv (.list [.list [.str (Str.ofString "place"), .int 256, .int 256, .str (Str.ofString "place"), .str (Str.ofString "place")], .list [.str (Str.ofString "place"), .int 256, .int 256, .str (Str.ofString "place"), .str (Str.ofString "place")]]) (.list [.list [.str (Str.ofString "place"), .int 256, .int 256, .str (Str.ofString "place"), .str (Str.ofString "place")], .list [.str (Str.ofString "place"), .int 256, .int 256, .str (Str.ofString "place"), .str (Str.ofString "place")]]) = true := by decide +kernel
    refine ⟨_, _, .lst (SqL.of ((((s_A4.trans s_A5).trans s42)) _ _ l39)) (.cons (.lst (SqL.of (r42 _ _ g38)) dd) (.cons (.lst (SqL.of (r42 _ _ f38)) dd) .nil)), .lst (SqL.of l42) (.cons d5 (.cons d5 .nil)), sh, sh, ?_⟩
    rw [ev]
    exact q _ (s08.trans (b38.trans r42))
end
end My

set_option pp.maxSteps 400
set_option pp.deepTerms false
/-! what the law of k16 holds while it draws -/
namespace My
open PySem PySem.Spec PyProof.Rows L2
theorem fb_lt {p : Nat → Bool} {n i : Nat} (h : fstBad p n = some i) : i < n := List.mem_range.mp (List.find?_range_eq_some.mp h).2.1
theorem cplF_lt {C D : Cod} {c : Cpl} {ds : List PyData} {k : Nat} (h : couplesF C D c ds = some k) : k ≤ ds.length := by
  unfold couplesF at h
  split at h
  · rename_i e
    cases h
    exact Nat.le_of_lt (fb_lt e)
  · split at h
    · rename_i e
      cases h
      exact Nat.le_of_lt (fb_lt e)
    · split at h
      · cases h
      · cases h
        exact Nat.le_refl _
theorem sh_tiny {i : Int} (h : i.natAbs < 10 ^ 6) : Sh 0 12 (.int i) := by
  obtain ⟨a, b, c, _⟩ := sh_int (i := i) (by omega)
  exact ⟨a, b, c, by
    show (PySem.Str.ofString (toString i)).length ≤ 12
    rw [PySem.ofString_length]
    exact Nat.le_trans (PySem.int_text_length_le10 (k := 6) (by decide) h) (by decide)⟩
theorem sh_bad {w : Str} {n : Option Int} (hw : Sh 0 12 (.str w)) (hn : ∀ i, n = some i → i.natAbs < 10 ^ 6) : Sh 1 40 (Res.bad w n).dat :=
  (sh_tup (k := 0) (n := 12) (ds := [.str w, nD n]) fun d hd => by
    rcases List.mem_cons.mp hd with rfl | hd
    · exact hw
    · rw [List.mem_singleton.mp hd]
      cases n with
      | none => exact ⟨rfl, rfl, Nat.le_refl _, by decide +kernel⟩
      | some i => exact sh_tiny (hn i rfl)).mono (Nat.le_refl _) (by show 2 * (12 + 2) + 3 ≤ 40; decide)
theorem res_sh {C D : Cod} {c : Cpl} {d : PyData} (po : PapOk d) : Sh 1 40 (resA C D c d).dat := by
  have f1 : Sh 0 12 (.str (Str.ofString "form")) := ⟨by decide +kernel, rfl, Nat.le_refl _, by decide +kernel⟩
  have f2 : Sh 0 12 (.str (Str.ofString "row")) := ⟨by decide +kernel, rfl, Nat.le_refl _, by decide +kernel⟩
  have f3 : Sh 0 12 (.str (Str.ofString "couples")) := ⟨by decide +kernel, rfl, Nat.le_refl _, by decide +kernel⟩
  have fb : ∀ b, Sh 1 40 (Res.yes b).dat := fun b => by cases b <;> exact ⟨rfl, rfl, by decide, by decide +kernel⟩
  by_cases h : formD formsL d = true
  · obtain ⟨x, e | e⟩ := formA_out h
    · subst e
      rw [resA_alike]
      cases hc : cplsR C D c x with
      | none => exact fb _
      | some n =>
        refine sh_bad f3 fun i hi => ?_
        subst hi
        cases x with
        | tuple ds =>
          obtain ⟨k, hk, e⟩ := Option.map_eq_some_iff.mp (show (couplesF C D c ds).map (fun (k : Nat) => some (k : Int)) = some (some i) from hc)
          have h1 := cplF_lt hk
          have h2 := po.len _ ds [] rfl
          have : (k : Int) = i := Option.some.inj e
          omega
        | _ => cases hc
    · subst e
      rw [resA_apart]
      by_cases z : rowR C D c x = true
      · rw [if_pos z]; exact fb _
      · rw [if_neg z]; exact sh_bad f2 nofun
  · have h : formD formsL d = false := by
      cases z : formD formsL d with
      | false => rfl
      | true => exact absurd z h
    rw [formA_no h]
    exact sh_bad f1 nofun
/-- two coders and two states, for what the drawer hides -/
structure Fo (K : PySem.W.Frag) (H : Hp) (cv ov xv wv : V) (C G : Cod) (s t : Int × Int) : Prop where
  c : Dp K H cv C.dat
  o : Dp K H ov G.dat
  x : Dp K H xv (pairI s)
  w : Dp K H wv (pairI t)
theorem Fo.same {K : PySem.W.Frag} {H H' : Hp} {cv ov xv wv : V} {C G : Cod} {s t : Int × Int} (h : Fo K H cv ov xv wv C G s t) (e : Same H H') : Fo K H' cv ov xv wv C G s t := ⟨dp_same e _ _ h.c, dp_same e _ _ h.o, dp_same e _ _ h.x, dp_same e _ _ h.w⟩
theorem allQ_ok {C G : Cod} {H : Hp} {E : XK} {TG OP : Addr} {s t : Int × Int} (f1 : C.cnt ≤ 256) (f2 : G.cnt ≤ 256) (hm : C.moves.length = G.moves.length) (hs : C.St s) (ht : G.St t) : AllQ C G H E TG OP (pairI s) (pairI t) :=
  ⟨fun g => by omega, fun _ _ b => by
    rcases b with b | b | b
    · exact absurd hm b
    · rw [hs.ok] at b; cases b
    · rw [ht.ok] at b; cases b⟩
theorem noL_cpls (T : List Cpl) : noLs (T.map cplI) = true := noLs_all fun d hd => by
  obtain ⟨c, _, rfl⟩ := List.mem_map.mp hd
  rfl
theorem noL_rw (r : List Nat) : noL (rowI r) = true := noLs_all fun d hd => by
  obtain ⟨k, _, rfl⟩ := List.mem_map.mp hd
  rfl
theorem alk_noL {C D : Cod} {c : Cpl} {d : PyData} (a : AlkOut C D c d) : noL d = true := by
  unfold AlkOut at a
  split at a
  · subst a
    show (noL wApart && (noL (rowI _) && true)) = true
    rw [noL_rw]
    rfl
  · obtain ⟨T, _, rfl⟩ := a
    show (noL wAlike && (noLs (T.map cplI) && true)) = true
    rw [noL_cpls]
    rfl
end My

set_option pp.maxSteps 400
set_option pp.deepTerms false
/-! the law of k16 -/
namespace My
open PySem PySem.Spec PyProof.Rows L2
theorem ds_c {H : Hp} {m c l n : Nat} (D : Dr H m c l n) : Ds c H m c l n := by
  obtain ⟨cs, ls, k, h1, h2, h3, h4, _⟩ := D.ex
  exact ⟨D, ⟨_, h2⟩, (fun z => by rw [z, h1] at h2; cases h2), h4⟩
theorem ds_new {S p : Addr} {H : Hp} {m c l n : Nat} {xs : List V} (D : Ds S H m c l n) (h : H p = none) : Ds p (upd H p (.lst xs)) m c l n := by
  obtain ⟨a1, a2, a3⟩ := D.fresh h
  exact ⟨D.d.same (same_new h), ⟨_, upd_same⟩, a1, a2⟩
theorem hd_switch {S p m l : Addr} {H : Hp} {o : HO} (h : H p = none) : Same (hd S m l H) (hd p m l (upd H p o)) := fun b u e => by
  obtain ⟨a1, a2, a3⟩ := hd_ne e
  have e1 := hd_sub b u e
  exact hd_of (same_new h b u e1) a1 a2 (fun z => by rw [z, h] at e1; cases e1)
theorem hd_put {S m l : Addr} {H : Hp} {o : HO} : Same (hd S m l H) (hd S m l (upd H S o)) := fun b u e => by
  obtain ⟨a1, a2, a3⟩ := hd_ne e
  exact hd_of ((upd_ne a3).trans (hd_sub b u e)) a1 a2 a3
theorem ds_put {S : Addr} {H : Hp} {m c l n : Nat} {xs : List V} (D : Ds S H m c l n) (nc : S ≠ c) : Ds S (upd H S (.lst xs)) m c l n := ⟨D.d.set D.m nc D.l, ⟨_, upd_same⟩, D.m, D.l⟩
theorem units65 {k : Nat} {A : Around} (r : Room k A) : A.units + 65 < cLine := by have := r.un; omega
theorem op_catAK {X : Cx} {K : PySem.W.Frag} (h : X.K = K := by rfl) : OpR X (binaryOp .Add) (rCatA K) := by
  subst h
  exact op_catA
/-- a tuple times a number: any tuple and a small number, or one thing and a greater one -/
def rRepM (K : PySem.W.Frag) : R2 := fun x y H Q => rRepA K x y H Q ∨ rRepU K x y H Q
theorem op_repM {X : Cx} {K : PySem.W.Frag} (h : X.K = K := by rfl) : OpR X (binaryOp .Mult) (rRepM K) := by
  subst h
  intro pins st σ H x y v u Q I rx ry want
  rcases want with h | h
  · exact op_repA pins st σ H x y v u Q I rx ry h
  · exact op_repU pins st σ H x y v u Q I rx ry h
theorem out_res {C G : Cod} {a b : Int × Int} {d r : PyData} (h : OutA C G (pairI a) (pairI b) d r) (f1 : C.cnt ≤ 256) (f2 : G.cnt ≤ 256) (hm : C.moves.length = G.moves.length) (ha : C.St a) (hb : G.St b) : r = (resA C G (a, b) d).dat := by
  cases h with
  | great g => omega
  | place _ _ x =>
    rcases x with x | x | x
    · exact absurd hm x
    · rw [ha.ok] at x; cases x
    · rw [hb.ok] at x; cases x
  | res a' b' _ _ _ ex ey _ _ =>
    rw [pairI_inj _ _ ex, pairI_inj _ _ ey]
theorem noLs_mem : ∀ {ds : List PyData} {d : PyData}, noLs ds = true → d ∈ ds → noL d = true
  | e :: r, d, h, hd => by
    obtain ⟨h1, h2⟩ := Bool.and_eq_true_iff.mp (show (noL e && noLs r) = true from h)
    rcases List.mem_cons.mp hd with rfl | hd
    · exact h1
    · exact noLs_mem h2 hd
theorem rep_mul {K : PySem.W.Frag} {H : Hp} {a : Addr} {n : Nat} {z : V} {Q : VK} (h : SqT K H a [z]) (hn : n ≤ 9000) (q : ∀ b H', Same H H' → SqT K H' b (List.replicate n z) → Q (.ref b) H') : rRepM K (.ref a) (.int (n : Int)) H Q := by
  by_cases e : n = 0
  · subst e
    exact .inl ⟨a, 0, [z], rfl, rfl, h, by decide, by show 1 ≤ 1000; decide, fun b H' s hb => q b H' s hb⟩
  · exact .inr ⟨a, n, z, rfl, rfl, h, by omega, hn, q⟩
theorem dpAll_zeros {K : PySem.W.Frag} {H : Hp} : ∀ n : Nat, DpAll K H (List.replicate n (V.int 0)) (List.replicate n (.int 0))
  | 0 => .nil
  | n + 1 => .cons (.int 0) (dpAll_zeros n)
section
variable {P : Program} {w : World} {K : PySem.W.Frag} {mg : Str → Option Value} {base : Heap}
def sp_law : Sp := fun vs H Q _ => ∃ (a : Addr) (ns : List Int), vs = [.ref a] ∧ SqL K H a (ns.map V.int) ∧ ns.length ≤ 63 ∧ ∀ H', Q (.bl true) H'
set_option maxHeartbeats 8000000 in
theorem ok_law (T : Txt K mg) : FnG P w K mg base 16 T.f_law T.d_law ["script"] (sp_law (K := K)) := by
  refine okG T.F_law sc_law (fun vs H Q E h => ?_) (fun cdv A outer s H vs Q E hgd hr h => ?_)
  · obtain ⟨a, ns, rfl, _⟩ := h
    rfl
  · obtain ⟨a, ns, rfl, hS, hl, q⟩ := h
    refine ⟨_,
(pss_cons (ps_set (i := 1) sc_law.nd rfl (Or.inl rfl) (pe_call (ok_law_begun T) (hr.mono (by decide)) (by rfl) T.g__law_begun T.F__law_begun.kp T.b__law_begun .nil pass0 (pa_cons (pv 0) pa_nil)))
      (pss_cons (ps_for PassesOwn.never rfl (pi_range1 (by rfl) T.z_range (pa_cons (pe_op op_add pe_int (pe_callB (call_min2 rfl) (by rfl) T.z_min (by decide +kernel) (pa_cons (pe_callB (call_len_seq) (by rfl) T.z_len (by decide +kernel) (pa_cons (pv 0) pa_nil)) (pa_cons pe_int pa_nil)))) pa_nil)) (pg_name (i := 2) sc_law.nd rfl (Or.inl rfl)) (pss_cons (ps_set (i := 3) sc_law.nd rfl (Or.inl rfl) (pe_call (ok_law_coder T) (hr.mono (by decide)) (by rfl) T.g__law_coder T.F__law_coder.kp T.b__law_coder .nil pass0 (pa_cons (pv 1) (pa_cons pe_int (pa_cons pe_int (pa_cons pe_int pa_nil))))))
      (pss_cons (ps_set (i := 4) sc_law.nd rfl (Or.inl rfl) (pe_op op_catA (pe_op op_catA (pe_slice sl_tupA (pv 3) po_none (po_some pe_int)) (pe_tup (pa_cons (pe_op op_catA (pe_ix ix_tup (pv 3) pe_int (fun _ _ => rfl)) (pe_tup (pa_cons (pe_op op_add pe_int (pe_call (ok_law_next T) (hr.mono (by decide)) (by rfl) T.g__law_next T.F__law_next.kp T.b__law_next .nil pass0 (pa_cons (pv 1) (pa_cons pe_int pa_nil)))) pa_nil))) pa_nil))) (pe_slice sl_tupA (pv 3) (po_some pe_int) po_none)))
      (pss_cons (ps_par (i := 5) (j := 6) (by rfl) sc_law.nd rfl rfl (by decide) rfl rfl (pa_cons (pe_call (ok_law_some_state T) (hr.mono (by decide)) (by rfl) T.g__law_some_state T.F__law_some_state.kp T.b__law_some_state .nil pass0 (pa_cons (pv 1) (pa_cons (pv 3) pa_nil))) (pa_cons (pe_call (ok_law_some_state T) (hr.mono (by decide)) (by rfl) T.g__law_some_state T.F__law_some_state.kp T.b__law_some_state .nil pass0 (pa_cons (pv 1) (pa_cons (pv 4) pa_nil))) pa_nil)) (by rfl))
      (pss_cons (ps_if (pt_cmpR op_gt (pe_call (ok_law_next T) (hr.mono (by decide)) (by rfl) T.g__law_next T.F__law_next.kp T.b__law_next .nil pass0 (pa_cons (pv 1) (pa_cons pe_int pa_nil))) pe_int (nomark _)) (pss_one (ps_set (i := 6) sc_law.nd rfl (Or.inl rfl) (pv 5))) pss_nil)
      (pss_cons (ps_set (i := 7) sc_law.nd rfl (Or.inr rfl) (pe_call (ok_alike T) (hr.mono (by decide)) (by rfl) T.g_alike T.F_alike.kp T.b_alike .nil passL (pa_cons (pv 3) (pa_cons (pv 4) (pa_cons (pv 5) (pa_cons (pv 6) pa_nil))))))
      (pss_cons (ps_set (i := 8) sc_law.nd rfl (Or.inl rfl) (pe_lst (pa_cons (pv 7) (pa_cons (pe_call (ok_law_bent T) (hr.mono (by decide)) (by rfl) T.g__law_bent T.F__law_bent.kp T.b__law_bent .nil pass0 (pa_cons (pv 1) (pa_cons (pv 3) (pa_cons (pv 4) (pa_cons (pv 7) pa_nil))))) (pa_cons (pe_tup (pa_cons (pe_ix ix_tup (pv 7) pe_int (fun _ _ => rfl)) (pa_cons (pe_op op_catA (pe_ix ix_tup (pv 7) pe_int (fun _ _ => rfl)) (pe_slice sl_tupA (pe_ix ix_tup (pv 7) pe_int (fun _ _ => rfl)) po_none (po_some pe_int))) pa_nil))) pa_nil)))))
      (pss_cons (ps_if (PW.pt (pw_and (pt_val (pe_callB (call_isi) (by rfl) T.z_isinstance (by decide +kernel) (pa_cons (pe_ix ix_list (pv 8) pe_int (fun _ _ => rfl)) (pa_cons (pe_bltn (v := .ty "tuple") (by rfl) T.z_tuple (by decide +kernel) rfl) pa_nil)))) (pw_and1 (pt_cmpR op_eq (pe_callB (call_len_seq) (by rfl) T.z_len (by decide +kernel) (pa_cons (pe_ix ix_list (pv 8) pe_int (fun _ _ => rfl)) pa_nil)) pe_int (nomark _))))) (pss_one (ps_expr (pe_bm PySem.F.plainAttrs_list PySem.F.slot_list_append PySem.F.type_list_append mt_append (pv 8) (pa_cons (pe_call (ok_law_bent T) (hr.mono (by decide)) (by rfl) T.g__law_bent T.F__law_bent.kp T.b__law_bent .nil pass0 (pa_cons (pv 1) (pa_cons (pv 3) (pa_cons (pv 4) (pa_cons (pe_ix ix_list (pv 8) pe_int (fun _ _ => rfl)) pa_nil))))) pa_nil)))) pss_nil)
      (pss_cons (ps_if (pt_cmpR op_eq (pe_ix ix_tup (pv 7) pe_int (fun _ _ => rfl)) pe_str (nomark _)) (pss_one (ps_set (i := 8) sc_law.nd rfl (Or.inl rfl) (pe_op op_cat (pv 8) (pe_lc (own := [("many", 11)]) rfl sc_law.nd (pi_list (pe_lst (pa_cons pe_int (pa_cons pe_int (pa_cons pe_int (pa_cons pe_int pa_nil)))))) (blkOk_by (own := [("many", 11)]) (N := ["script", "m", "turn", "coder", "other", "one", "two", "told", "some", "paper", "due", "many"]) (sc := defScope s_law) (by decide +kernel)) (fun _ _ _ _ _ => (pg_name (i := 11) sc_law.nd rfl (Or.inl rfl))) (fun _ _ _ _ _ => pts_nil) (fun _ _ _ _ _ => (pe_tup (pa_cons pe_str (pa_cons (pe_op (My.op_catAK (K := K)) (pe_op (My.op_repM (K := K)) (pe_tup (pa_cons pe_int pa_nil)) (pv 11)) (pe_ix (My.ix_tupK (K := K)) (pv 7) pe_int (fun _ _ => rfl))) pa_nil)))))))) pss_nil)
      (pss_cons (ps_for PassesOwn.never rfl (pi_list (pe_op op_cat (pv 8) (pe_lst (pa_cons (pe_call (ok_alike T) (hr.mono (by decide)) (by rfl) T.g_alike T.F_alike.kp T.b_alike .nil passL (pa_cons (pv 3) (pa_cons (pv 4) (pa_cons (pe_ifExp (pt_cmpR (op_inD (My.units65 hr)) (pv 6) (pe_call (ok_law_states T) (hr.mono (by decide)) (by rfl) T.g__law_states T.F__law_states.kp T.b__law_states .nil pass0 (pa_cons (pv 3) pa_nil)) (by with_unfolding_all rfl)) (pv 6) (pv 5)) (pa_cons (pv 6) pa_nil))))) pa_nil)))) (pg_name (i := 9) sc_law.nd rfl (Or.inl rfl)) (pss_cons (ps_set (i := 10) sc_law.nd rfl (Or.inl rfl) (pe_call (ok_law_due T) (hr.mono (by decide)) (by rfl) T.g__law_due T.F__law_due.kp T.b__law_due .nil pass0 (pa_cons (pv 3) (pa_cons (pv 4) (pa_cons (pv 5) (pa_cons (pv 6) (pa_cons (pv 9) pa_nil)))))))
      (pss_one (ps_if (pt_cmpR op_ne (pe_callB ((call_repr hgd hr.units)) (by rfl) T.z_repr (by decide +kernel) (pa_cons (pe_call (ok_law_outcome T) (hr.mono (by decide)) (by rfl) T.g__law_outcome T.F__law_outcome.kp T.b__law_outcome .nil pass0 (pa_cons (pv 3) (pa_cons (pv 4) (pa_cons (pv 5) (pa_cons (pv 6) (pa_cons (pv 9) pa_nil)))))) pa_nil)) (pe_callB ((call_repr hgd hr.units)) (by rfl) T.z_repr (by decide +kernel) (pa_cons (pv 10) pa_nil)) (nomark _)) (pss_one (ps_ret pe_bl)) pss_nil))))
      (pss_one (ps_if (pt_not (pt_val (pe_call (ok_law_wrong_right T) (hr.mono (by decide)) (by rfl) T.g__law_wrong_right T.F__law_wrong_right.kp T.b__law_wrong_right .nil pass0 (pa_cons (pv 1) (pa_cons (pv 3) (pa_cons (pv 5) pa_nil)))))) (pss_one (ps_ret pe_bl)) pss_nil))))))))))))
      (pss_one (ps_ret pe_bl))))
, ?_⟩
    refine ⟨.ref a, rfl, a, ns, rfl, hS, hl, fun m c l H1 s1 hm hc hl0 D1 => ?_⟩
    have hS1 := s1.seq hS
    refine ⟨_, rfl, a, _, rfl, .inl hS1, ?_⟩
    refine ⟨_, 3, rfl, 1, _, rfl, rfl, _, rfl, ?_, ?_, ?_⟩
    · rw [List.length_map]; split <;> omega
    · rw [List.length_map]; split <;> omega
    have hn : (1 + if (3 : Int) < ((ns.map V.int).length : Int) then 3 else ((ns.map V.int).length : Int)).toNat ≤ 4 := by
      rw [List.length_map]
      split <;> omega
    refine for_range (lo := 0) (n := (1 + if (3 : Int) < ((ns.map V.int).length : Int) then 3 else ((ns.map V.int).length : Int)).toNat)
      (fun i σ H' => ∃ x3 x4 x5 x6 x7 x8 x9 x10 x11 l', σ = [some (.ref a), some (.ref m), x11, x3, x4, x5, x6, x7, x8, x9, x10, none] ∧ Dr H' m c l' (900000 - 200 * i)) ⟨none, none, none, none, none, none, none, none, none, l, rfl, D1⟩ ?_ ?_
    · rintro i σ H2 hi ⟨x3, x4, x5, x6, x7, x8, x9, x10, x11, l2, rfl, D2⟩
      have hi5 : i < 5 := by omega
      have D2 : Dr H2 m c l2 (900000 - 200 * (i + 1) + 40 + 2 + 2 + 1 + 60) := D2.less (by omega)
      refine ⟨_, rfl, m, c, l2, _, 4, 3, 4, rfl, by decide, by decide, by decide, D2, fun cv C l3 H3 kp3 D3 sm hcv => ?_⟩
      have O : C.Ok := sm.ok (by decide) (by decide) (by decide)
      have hcv3 := dp_keep (keep_hd (ds_c D3)) _ _ (noL_cod C) hcv
      obtain ⟨ca, cs, cm, ms, rfl, hca, hcs, hcm, hmd⟩ := cod_at hcv
      refine ⟨_, rfl, 2, rfl, ca, _, rfl, hca, fun hw => absurd (show (2 : Nat) = 5 from hw.2) (by decide), fun _ p4 hp4 => ?_⟩
      rw [show cutV [V.int C.low, V.int C.high, V.ref cs, V.ref cm, V.int C.fade] none (some 2) = [V.int C.low, V.int C.high] from rfl]
      have s4 := same_new (o := .tup [V.int C.low, V.int C.high]) hp4
      have D4 := D3.same s4
      have t4 : SqT K (upd H3 p4 (.tup [V.int C.low, V.int C.high])) p4 [V.int C.low, V.int C.high] := upd_tup
      generalize upd H3 p4 (.tup [V.int C.low, V.int C.high]) = H4 at s4 t4 D4
      refine ⟨_, rfl, ca, _, 2, _, rfl, rfl, same_tup s4 hca, atI_nat (j := 2) rfl, ?_⟩
      refine ⟨_, rfl, m, c, l3, _, 9, rfl, by decide, by decide, D4, fun r l5 H5 r0 r1 k5 D5 => ?_⟩
      have kk5 := keep_draw k5 D4
      have hca5 := kk5.tup (same_tup s4 hca)
      have hcs5 := kk5.tup (same_tup s4 hcs)
      have hcm5 := kk5.tup (same_tup s4 hcm)
      have hmd5 := dpAll_keep kk5 _ _ (noLs_pairs _) (dpAll_same s4 _ _ hmd)
      have t5 := kk5.tup t4
      have hcv5 : Dp K (hd c m l5 H5) (.ref ca) C.dat := dp_same (hd_step (S := c) k5) _ _ (dp_same (hd_same s4) _ _ hcv3)
      clear hca hcs hcm hmd t4 hcv hcv3 kk5
      refine ⟨_, _, rfl, rfl, by show 1 ≤ sizeLine; decide, fun p6 hp6 => ?_⟩
      have s6 := same_new (o := .tup [V.int (1 + r)]) hp6
      have t6 : SqT K (upd H5 p6 (.tup [V.int (1 + r)])) p6 [V.int (1 + r)] := upd_tup
      generalize upd H5 p6 (.tup [V.int (1 + r)]) = H6 at s6 t6
      have hsl : C.steps.length ≤ 16 := O.s2
      refine cat_any (same_tup s6 hcs5) t6 (Nat.le_trans (show (C.steps.map V.int).length + 1 ≤ 60000 by rw [List.length_map]; omega) (by decide)) fun p7 H7 s7 t7 => ?_
      refine ⟨by show 1 ≤ sizeLine; decide, fun p8 hp8 => ?_⟩
      have s8 := same_new (o := .tup [V.ref p7]) hp8
      have t8 : SqT K (upd H7 p8 (.tup [V.ref p7])) p8 [V.ref p7] := upd_tup
      generalize upd H7 p8 (.tup [V.ref p7]) = H8 at s8 t8
      refine cat_any (same_tup ((s6.trans s7).trans s8) t5) t8 (by show 3 ≤ sizeLine; decide) fun p9 H9 s9 t9 => ?_
      have s59 := ((s6.trans s7).trans s8).trans s9
      refine ⟨_, rfl, 3, rfl, ?_⟩
      dsimp only [tNoPart]
      refine ⟨ca, _, rfl, same_tup s59 hca5, fun hw => absurd (show (3 : Nat) = 0 from hw.1) (by decide), fun _ p10 hp10 => ?_⟩
      rw [show cutV [V.int C.low, V.int C.high, V.ref cs, V.ref cm, V.int C.fade] (some 3) none = [V.ref cm, V.int C.fade] from rfl]
      have s10 := same_new (o := .tup [V.ref cm, V.int C.fade]) hp10
      have t10 : SqT K (upd H9 p10 (.tup [V.ref cm, V.int C.fade])) p10 [V.ref cm, V.int C.fade] := upd_tup
      generalize upd H9 p10 (.tup [V.ref cm, V.int C.fade]) = H10 at s10 t10
      refine cat_any (same_tup s10 t9) t10 (by show 5 ≤ sizeLine; decide) fun p11 H11 s11 t11 => ?_
      have s511 := (s59.trans s10).trans s11
      have D11 := D5.same s511
      have hfo : Dp K H11 (.ref p11) (Cod.dat ⟨C.low, C.high, C.steps ++ [1 + r], C.moves, C.fade⟩) := by
        refine .tup t11 (.cons (.int _) (.cons (.int _) (.cons (dp_tints ?_) (.cons (.tup (same_tup s511 hcm5) (dpAll_same s511 _ _ hmd5)) (.cons (.int _) .nil)))))
        have := same_tup (((s8.trans s9).trans s10).trans s11) t7
        rw [List.map_append]
        exact this
      have O' : Cod.Ok ⟨C.low, C.high, C.steps ++ [1 + r], C.moves, C.fade⟩ := ⟨O.l1, O.l2, O.h1, O.h2, by show 1 ≤ (C.steps ++ [1 + r]).length; rw [List.length_append]; exact Nat.le_add_left _ _, by
        show (C.steps ++ [1 + r]).length ≤ 16
        rw [List.length_append]
        have h3 : (C.steps.length : Int) ≤ 3 := sm.st.2
        show C.steps.length + 1 ≤ 16
        omega, fun x hx => by
        rcases List.mem_append.mp hx with h | h
        · exact O.s3 x h
        · rw [List.mem_singleton.mp h]; omega, O.m1, O.m2, O.m3, O.f1⟩
      have hsz : C.cnt ≤ 256 ∧ Cod.cnt ⟨C.low, C.high, C.steps ++ [1 + r], C.moves, C.fade⟩ ≤ 256 ∧ alkM C ⟨C.low, C.high, C.steps ++ [1 + r], C.moves, C.fade⟩ ≤ 110 := by
        have e1 := O.cnt_len
        have := sm.lo.1
        have := sm.hi.2
        have h3 : (C.steps.length : Int) ≤ 3 := sm.st.2
        have := O.l2
        have := O.h1
        have m1 : (C.high - C.low + 1) * (C.steps.length : Int) ≤ 9 * 3 := Int.mul_le_mul (by omega) h3 (by omega) (by omega)
        have eg : (C.steps ++ [1 + r]).length = C.steps.length + 1 := List.length_append
        have m2 : (C.high - C.low + 1) * ((C.steps ++ [1 + r]).length : Int) ≤ 9 * 4 := Int.mul_le_mul (by omega) (by omega) (by omega) (by omega)
        refine ⟨by show (C.high - C.low + 1) * (C.steps.length : Int) ≤ 256; omega, by show (C.high - C.low + 1) * ((C.steps ++ [1 + r]).length : Int) ≤ 256; omega, ?_⟩
        unfold Cod.cnt at e1
        show C.sts.length * (C.steps ++ [1 + r]).length + 2 ≤ 110
        rw [eg]
        have := Nat.mul_le_mul (show C.sts.length ≤ 27 by omega) (show C.steps.length + 1 ≤ 4 by omega)
        omega
      have hm : C.moves.length = (Cod.mk C.low C.high (C.steps ++ [1 + r]) C.moves C.fade).moves.length := rfl
      have hm15 : C.moves.length ≤ 15 := by have h4 : (C.moves.length : Int) ≤ 4 := sm.mv.2; omega
      have hcv11 := dp_same (hd_same s511) _ _ hcv5
      have hov11 := dp_keep (keep_hd (ds_c D11)) _ _ (noL_cod _) hfo
      have hGs : ∀ s, C.St s → (Cod.mk C.low C.high (C.steps ++ [1 + r]) C.moves C.fade).St s := fun s h => ⟨h.1, h.2.1, h.2.2.1, by
        have := h.2.2.2
        show s.2 < ((C.steps ++ [1 + r]).length : Int)
        rw [List.length_append]
        show s.2 < ((C.steps.length + 1 : Nat) : Int)
        omega⟩
      generalize (Cod.mk C.low C.high (C.steps ++ [1 + r]) C.moves C.fade) = G at O' hsz hm hov11 hGs
      obtain ⟨f1, f2, hM⟩ := hsz
      clear hfo s511 s59 s11 s10 s9 s8 s7 s6 s4 t5 t6 t7 t8 t9 t10 t11 hca5 hcs5 hcm5 hmd5 hcv5 hp4 hp6 hp8 hp10 D5 D4 D3 k5 kp3 D2
      refine ⟨_, rfl, _, rfl, m, c, l5, _, .ref ca, C, rfl, O, dp_same hd_sub _ _ hcv11, D11, fun xv s l12 H12 kp12 D12 hs hxv => ?_⟩
      have hxv := dp_hidep (ds_c D12) hxv
      have hcv12 := dp_same (hd_step (S := c) kp12) _ _ hcv11
      have hov12 := dp_same (hd_step (S := c) kp12) _ _ hov11
      refine ⟨_, rfl, _, rfl, m, c, l12, _, .ref p11, G, rfl, O', dp_same hd_sub _ _ hov12, D12, fun yv t l13 H13 kp13 D13 ht hyv => ?_⟩
      have hyv := dp_hidep (ds_c D13) hyv
      have e13 := hd_step (S := c) kp13
      have fo13 : Fo K (hd c m l13 H13) (.ref ca) (.ref p11) xv yv C G s t := ⟨dp_same e13 _ _ hcv12, dp_same e13 _ _ hov12, dp_same e13 _ _ hxv, hyv⟩
      clear hcv11 hov11 hcv12 hov12 hxv hyv e13 kp12 kp13 D12 D11
      dsimp only [tNil]
      refine ⟨_, _, rfl, ?_⟩
      refine st_tail (fun σ H' => ∃ (wv : V) (t' : Int × Int) (l' : Addr), σ = [some (.ref a), some (.ref m), some (.int (0 + (i : Nat))), some (.ref ca), some (.ref p11), some xv, some wv, x7, x8, x9, x10, none] ∧ Fo K (hd c m l' H') (.ref ca) (.ref p11) xv wv C G s t' ∧ G.St t' ∧ Dr H' m c l' (900000 - 200 * (i + 1) + 38)) ?_ fun tail => ?_
      rotate_left
      · have D13 : Dr H13 m c l13 (900000 - 200 * (i + 1) + 38 + 1) := D13.less (by omega)
        refine ⟨_, rfl, m, c, l13, _, 3, rfl, by decide, by decide, D13, fun r l14 H14 r0 r1 k14 D14 => ?_⟩
        have fo14 := fo13.same (hd_step (S := c) k14)
        refine ⟨_, _, rfl, rfl, _, rfl, ?_⟩
        refine ite2 (fun e => ?_) (fun e => ?_)
        · exact ⟨xv, rfl, tail _ _ ⟨xv, s, l14, rfl, ⟨fo14.c, fo14.o, fo14.x, fo14.x⟩, hGs s hs, D14⟩⟩
        · exact tail _ _ ⟨yv, t, l14, rfl, fo14, ht, D14⟩
      rintro σ H20 ⟨wv, t', l20, rfl, fo20, ht', D20⟩
      clear fo13 D13 ht
      refine ⟨_, rfl, _, rfl, _, rfl, _, rfl, .inr ⟨.ref ca, .ref p11, xv, wv, C, G, pairI s, pairI t', rfl, O, O', dp_same hd_sub _ _ fo20.c, dp_same hd_sub _ _ fo20.o, dp_same hd_sub _ _ fo20.x, dp_same hd_sub _ _ fo20.w, allQ_ok f1 f2 hm hs ht', fun a0 b0 _ _ _ ea eb ha0 hb0 zt dt H21 s21 hdt hzt => ?_⟩⟩
      obtain rfl := pairI_inj _ _ ea
      obtain rfl := pairI_inj _ _ eb
      have hnl := alk_noL hdt
      obtain ⟨sw, ds, rfl, hdl, hw⟩ := alk_len O O' ⟨hs, ht'⟩ hdt
      have D21 := D20.same s21
      have fo21 := fo20.same (hd_same s21)
      have hzt := dp_keep (keep_hd (ds_c D21)) _ _ hnl hzt
      have pn0 : PapN 110 (.tuple [.str sw, .tuple ds]) := ⟨fun s r e => by cases e; rcases hw with rfl | rfl <;> decide +kernel, fun a es r e => by cases e; exact Nat.le_trans hdl hM, fun a r e => by cases e; exact .inr ⟨_, rfl⟩⟩
      clear fo20 D20 hdt
      have D21 : Dr H21 m c l20 (900000 - 200 * (i + 1) + 30 + 8) := D21.less (by omega)
      refine ⟨_, rfl, _, rfl, _, rfl, _, rfl, _, rfl, c, m, c, l20, _, 110, .ref ca, .ref p11, zt, C, G, .str sw, .tuple ds, rfl, O, O', ds_c D21, fo21.c, fo21.o, hzt, pn0, by decide, fun z2 l22 H22 k22 D22 el2 => ?_⟩
      have e22 := hd_step (S := c) k22
      have fo22 := fo21.same e22
      have hz22 := dp_same e22 _ _ hzt
      have el1 : El K (hd c m l22 H22) 400 zt := ⟨_, hz22, pn0.mono (by decide)⟩
      have el2 := el2.mono (n' := 400) (by decide)
      clear fo21 D21 k22 hzt e22
      obtain ⟨pz, pzs, rfl, hpz, hpzd⟩ := dp_tup hz22
      obtain ⟨u0, u1, rfl, q0, q1⟩ := dpAll_two hpzd
      cases q0
      refine ⟨_, rfl, pz, _, 0, _, rfl, rfl, same_tup hd_sub hpz, atI_nat (j := 0) rfl, _, rfl, pz, _, 1, u1, rfl, rfl, same_tup hd_sub hpz, atI_nat (j := 1) rfl, _, rfl, pz, _, 1, u1, rfl, rfl, same_tup hd_sub hpz, atI_nat (j := 1) rfl, 1, rfl, ?_⟩
      have w22 : Dw K (hd c m l22 H22) u1 110 := ⟨ds, q1, Nat.le_trans hdl hM⟩
      refine dw_cut D22 w22 fun v23 H23 s23 D23 w23 => ?_
      refine dw_cat D23 (w22.same (hd_same s23)) w23 (by decide) fun v24 H24 s24 D24 w24 => ?_
      have s224 := s23.trans s24
      refine ⟨by show 2 ≤ sizeLine; decide, fun t25 ht25 => ?_⟩
      obtain ⟨es, hes, hel⟩ := w24
      obtain ⟨D25, s25, b25⟩ := dp_new D24 (.cons (.str sw) (.cons hes .nil)) ht25
      generalize upd H24 t25 (.tup [.str sw, v24]) = H25 at D25 s25 b25
      have e225 := hd_same (S := c) (m := m) (l := l22) (s224.trans s25)
      have el3 : El K (hd c m l22 H25) 400 (.ref t25) := ⟨_, b25, fun s r e => by cases e; rcases hw with rfl | rfl <;> decide +kernel, fun a xs r e => by cases e; omega, fun a r e => by cases e; exact .inr ⟨_, rfl⟩⟩
      refine ⟨by show 3 ≤ sizeLine; decide, fun SL hSL => ?_⟩
      have hSc : SL ≠ c := fun z => by
        obtain ⟨xs, h⟩ := D25.s
        rw [z, h] at hSL
        cases hSL
      have D26 := ds_new (xs := [V.ref pz, z2, V.ref t25]) D25 hSL
      have w26 := hd_switch (S := c) (m := m) (l := l22) (o := .lst [V.ref pz, z2, V.ref t25]) hSL
      have h26 : upd H25 SL (.lst [V.ref pz, z2, V.ref t25]) SL = some (.lst [V.ref pz, z2, V.ref t25]) := upd_same
      generalize upd H25 SL (.lst [V.ref pz, z2, V.ref t25]) = H26 at D26 w26 h26
      have fo26 := (fo22.same e225).same w26
      have el1 := (el1.same e225).same w26
      have el2 := (el2.same e225).same w26
      have el3 := el3.same w26
      have hz26 := dp_same w26 _ _ (dp_same e225 _ _ hz22)
      have E26 : Els K (hd SL m l22 H26) 900 [V.ref pz, z2, V.ref t25] := ((Els.nil.snoc (Same.refl _) (el1.mono (by decide))).snoc (Same.refl _) (el2.mono (by decide))).snoc (Same.refl _) (el3.mono (by decide))
      clear el1 el3 fo22 e225 hz22 w26 b25 D25 D24 D23 D22 w22 w23 hes s23 s24 s224 s25 q1 hpz hpzd ht25 hSL
      dsimp only [gName]
      refine st_tail (fun σ H' => ∃ (xs : List V) (l' : Addr), σ = [some (.ref a), some (.ref m), some (.int (0 + (i : Nat))), some (.ref ca), some (.ref p11), some xv, some wv, some (.ref pz), some (.ref SL), x9, x10, none] ∧ H' SL = some (.lst xs) ∧ xs.length ≤ 4 ∧ Els K (hd SL m l' H') 900 xs ∧ Fo K (hd SL m l' H') (.ref ca) (.ref p11) xv wv C G s t' ∧ Dp K (hd SL m l' H') (.ref pz) (.tuple [.str sw, .tuple ds]) ∧ Ds SL H' m c l' (900000 - 200 * (i + 1) + 20)) ?_ fun tail => ?_
      rotate_left
      · obtain ⟨d2, hd2, pd2⟩ := el2
        have stay : _ := tail _ _ ⟨_, l22, rfl, h26, by show 3 ≤ 4; decide, E26, fo26, hz26, D26.less (by omega)⟩
        refine ⟨_, rfl, SL, _, 1, z2, rfl, rfl, SqL.of h26, atI_nat (j := 1) rfl, z2, .ty "tuple", _, _, _, rfl, .ty _, tyx (dp_same hd_sub _ _ hd2), kitT d2, _, rfl, ?_⟩
        cases hg : d2 with
        | tuple es2 =>
          subst hg
          refine iteT ?_
          obtain ⟨p2, xs2, rfl, hp2, hpd2⟩ := dp_tup hd2
          have hl2 := dpAll_len hpd2
          refine ⟨_, rfl, SL, _, 1, _, rfl, rfl, SqL.of h26, atI_nat (j := 1) rfl, p2, xs2, rfl, .inr (same_tup hd_sub hp2), rfl, _, rfl, ?_⟩
          by_cases h2' : es2.length = 2
          · refine ifYes (by rw [hl2, h2']; rfl) ?_
            match es2, h2' with
            | [da, db], _ =>
            have D26 : Ds SL H26 m c l22 (900000 - 200 * (i + 1) + 20 + 8) := D26.less (by omega)
            refine ⟨_, rfl, .inl ⟨rfl, _, SqL.of h26⟩, _, rfl, _, rfl, _, rfl, _, rfl, SL, _, 1, _, rfl, rfl, SqL.of h26, atI_nat (j := 1) rfl, ?_⟩
            refine ⟨SL, m, c, l22, _, 400, .ref ca, .ref p11, .ref p2, C, G, da, db, rfl, O, O', D26, fo26.c, fo26.o, hd2, pd2, by decide, fun z7 l27 H27 k27 D27 el7 => ?_⟩
            have h27 := k27.st _ _ h26 D26.m D26.l
            refine ⟨SL, _, _, rfl, rfl, h27, by show 3 < sizeLine; decide, ?_⟩
            have e27 := (hd_step (S := SL) k27).trans (hd_put (o := .lst ([V.ref pz, V.ref p2, V.ref t25] ++ [z7])))
            refine tail _ _ ⟨_, l27, rfl, upd_same, by show 4 ≤ 4; decide, (E26.same e27).snoc (Same.refl _) ((el7.mono (by decide)).same hd_put), fo26.same e27, dp_same e27 _ _ hz26, ds_put D27 hSc⟩
          · exact ifNo (decide_eq_false fun z => h2' (by have := V.int.inj z; omega)) stay
        | _ => exact iteF (iteF stay)
      rintro σ H30 ⟨xs, l30, rfl, h30, hx30, E30, fo30, hz30, D30⟩
      clear E26 fo26 hz26 D26 el2 h26
      refine st_tail (fun σ H' => ∃ (F : Addr) (xs : List V) (l' : Addr), σ = [some (.ref a), some (.ref m), some (.int (0 + (i : Nat))), some (.ref ca), some (.ref p11), some xv, some wv, some (.ref pz), some (.ref F), x9, x10, none] ∧ H' F = some (.lst xs) ∧ xs.length ≤ 8 ∧ Els K (hd SL m l' H') 3000 xs ∧ Fo K (hd SL m l' H') (.ref ca) (.ref p11) xv wv C G s t' ∧ Ds SL H' m c l' (900000 - 200 * (i + 1) + 20)) ?_ fun tail => ?_
      rotate_left
      · have stay := tail _ _ ⟨SL, xs, l30, rfl, h30, by omega, fun z hz => (E30 z hz).mono (by decide), fo30, D30⟩
        obtain ⟨pz', pzs, epz, hpz, hpzd⟩ := dp_tup hz30
        cases epz
        obtain ⟨u0, u1, rfl, q0, q1⟩ := dpAll_two hpzd
        cases q0
        refine ⟨_, rfl, pz, _, 0, _, rfl, rfl, same_tup hd_sub hpz, atI_nat (j := 0) rfl, rfl, _, rfl, ?_⟩
        refine ite2 (fun e => ?_) (fun e => ?_)
        · refine ⟨_, rfl, by show 4 ≤ sizeLine; decide, fun LQ hLQ => ?_⟩
          have sQ := same_new (o := .lst [V.int 0, V.int 1, V.int 2, V.int 2001]) hLQ
          have hQ : upd H30 LQ (.lst [V.int 0, V.int 1, V.int 2, V.int 2001]) LQ = some (.lst [V.int 0, V.int 1, V.int 2, V.int 2001]) := upd_same
          generalize upd H30 LQ (.lst [V.int 0, V.int 1, V.int 2, V.int 2001]) = H31 at sQ hQ
          have hpz31 := same_tup sQ (same_tup hd_sub hpz)
          have q31 := dp_same sQ _ _ (dp_same hd_sub _ _ q1)
          have hnd : noLs ds = true := by
            have h : (true && (noLs ds && true)) = true := hnl
            rw [Bool.true_and, Bool.and_true] at h
            exact h
          refine ⟨LQ, rfl, ⟨_, SqL.of hQ⟩, fun LC hLC => ?_⟩
          refine lc_list (K := K) (a := LQ) (xs := [V.int 0, V.int 1, V.int 2, V.int 2001]) (fun j H' => ∃ ys, H' LC = some (.lst ys) ∧ ys.length = j ∧ (∀ y ∈ ys, ∃ d, Dp K H' y d ∧ noL d = true ∧ PapN 3000 d) ∧ Same H31 H') ⟨[], upd_same, rfl, nofun, same_new hLC⟩ ?_ ?_ ?_
          · rintro j H' _ ⟨_, _, _, _, s7⟩
            exact SqL.of (s7 _ _ hQ)
          · rintro j mv H7 hj ⟨ys, hys, hyl, hyd, s7⟩
            obtain ⟨nn, rfl, hnn⟩ : ∃ nn : Nat, mv = .int (nn : Int) ∧ nn ≤ 2001 := by
              match j, hj with
              | 0, hj => cases hj; exact ⟨0, rfl, by decide⟩
              | 1, hj => cases hj; exact ⟨1, rfl, by decide⟩
              | 2, hj => cases hj; exact ⟨2, rfl, by decide⟩
              | 3, hj => cases hj; exact ⟨2001, rfl, by decide⟩
            refine ⟨rfl, yes_turn ?_⟩
            refine ⟨by show 1 ≤ sizeLine; decide, fun t1 ht1 => ⟨_, rfl, ?_⟩⟩
            have s8 := same_new (o := .tup [V.int 0]) ht1
            have t8 : SqT K (upd H7 t1 (.tup [V.int 0])) t1 [V.int 0] := upd_tup
            generalize upd H7 t1 (.tup [V.int 0]) = H8 at s8 t8
            refine rep_mul t8 (by omega) fun t9 H9 s9 h9 => ?_
            have s79 := (s7.trans s8).trans s9
            have q39 := dp_same s79 _ _ q31
            obtain ⟨pu, pus, epu, hpu, hpud⟩ := dp_tup q39
            have hpul := dpAll_len hpud
            refine ⟨_, rfl, pz, _, 1, u1, rfl, rfl, same_tup s79 hpz31, atI_nat (j := 1) rfl, ?_⟩
            subst epu
            refine cat_any h9 hpu (Nat.le_trans (show (List.replicate nn (V.int 0)).length + pus.length ≤ 60000 by rw [List.length_replicate]; omega) (by decide)) fun t10 H10 s10 h10 => ?_
            refine ⟨by show 2 ≤ sizeLine; decide, fun t11 ht11 => ?_⟩
            have s11 := same_new (o := .tup [V.str (Str.ofString "apart"), V.ref t10]) ht11
            have d11 : Dp K (upd H10 t11 (.tup [V.str (Str.ofString "apart"), V.ref t10])) (.ref t11) (.tuple [.str (Str.ofString "apart"), .tuple (List.replicate nn (.int 0) ++ ds)]) := .tup upd_tup (.cons (.str _) (.cons (.tup (same_tup s11 h10) (dpAll_app (dpAll_zeros nn) (dpAll_same (s10.trans s11) _ _ hpud))) .nil))
            generalize upd H10 t11 (.tup [V.str (Str.ofString "apart"), V.ref t10]) = H11 at s11 d11
            have s711 := ((s8.trans s9).trans s10).trans s11
            have hys11 := s711 _ _ hys
            refine ⟨ys, hys11, Nat.lt_of_le_of_lt (show ys.length ≤ 100 by have := (List.getElem?_eq_some_iff.mp hj).1; have h4 : j < 4 := this; omega) (by decide), ys ++ [.ref t11], upd_same, by rw [List.length_append, hyl]; rfl, fun y hy => ?_, same_put (s7.trans s711) hLC⟩
            rcases List.mem_append.mp hy with h | h
            · obtain ⟨d, g1, g2, g3⟩ := hyd y h
              exact ⟨d, dp_keep (keep_set hys11) _ _ g2 (dp_same s711 _ _ g1), g2, g3⟩
            · rw [List.mem_singleton.mp h]
              have nl : noL (.tuple [.str (Str.ofString "apart"), .tuple (List.replicate nn (.int 0) ++ ds)]) = true := by
                show (true && (noLs (List.replicate nn (.int 0) ++ ds) && true)) = true
                rw [Bool.true_and, Bool.and_true]
                refine noLs_all fun d hd => ?_
                rcases List.mem_append.mp hd with h | h
                · rw [(List.mem_replicate.mp h).2]; rfl
                · exact noLs_mem hnd h
              exact ⟨_, dp_keep (keep_set hys11) _ _ nl d11, nl, fun s r e => by cases e; decide +kernel, fun a es r e => by cases e; rw [List.length_append, List.length_replicate]; omega, fun a r e => by cases e; exact .inr ⟨_, rfl⟩⟩
          rintro H7 ⟨ys, hys, hyl, hyd, s7⟩
          have s37 := sQ.trans s7
          have hyl4 : ys.length = 4 := hyl
          refine ⟨SL, LC, _, _, rfl, rfl, s37 _ _ h30, hys, Nat.le_trans (show xs.length + ys.length ≤ 60000 by omega) (by decide), fun F hF => ?_⟩
          have sF := same_new (o := .lst (xs ++ ys)) hF
          have D7 := (D30.same s37).same sF
          refine tail _ _ ⟨F, xs ++ ys, l30, rfl, upd_same, by rw [List.length_append]; omega, fun z hz => ?_, fo30.same (hd_same (s37.trans sF)), D7⟩
          rcases List.mem_append.mp hz with h | h
          · exact ((E30 z h).mono (by decide)).same (hd_same (s37.trans sF))
          · obtain ⟨d, g1, g2, g3⟩ := hyd z h
            exact ⟨d, dp_keep (keep_hd D7) _ _ g2 (dp_same sF _ _ g1), g3⟩
        · exact stay
      rintro σ H40 ⟨F, xs, l40, rfl, h40, hx40, E40, fo40, D40⟩
      clear E30 fo30 hz30 D30 h30
      refine ⟨_, rfl, _, rfl, _, rfl, _, rfl, _, rfl, .ref ca, C, rfl, O, dp_same hd_sub _ _ fo40.c, by have := O.cnt_len; omega, fun SP sxs H41 s41 _ hSP hsx => ?_⟩
      have fo41 := fo40.same (hd_same s41)
      refine ⟨pairI t', _, dp_same hd_sub _ _ fo41.w, .lst (SqL.of hSP) hsx, shaped_pairI _, (PZ.lmap (f := pairI) pz_pairI).shaped, _, rfl, ?_⟩
      rw [PZ.any pairI_inj pz_pairI]
      refine ite2 (fun e => ?_) (fun e => ?_)
      · have hCt : C.St t' := sts_in O (by simpa using e)
        refine ⟨_, rfl, _, rfl, .inr ⟨.ref ca, .ref p11, wv, wv, C, G, pairI t', pairI t', rfl, O, O', dp_same hd_sub _ _ fo41.c, dp_same hd_sub _ _ fo41.o, dp_same hd_sub _ _ fo41.w, dp_same hd_sub _ _ fo41.w, allQ_ok f1 f2 hm hCt ht', fun a0 b0 _ _ _ ea eb ha0 hb0 z9 d9 H42 s42 hd9 hz9 => ?_⟩⟩
        obtain rfl := pairI_inj _ _ ea
        rw [pairI_inj _ _ eb.symm] at hd9
        skip

        have D42 := (D40.same s41).same s42
        have s402 := s41.trans s42
        have E42 := E40.same (hd_same s402)
        have ez : El K (hd SL m l40 H42) 3000 z9 := by
          have hnl2 := alk_noL hd9
          obtain ⟨sw2, ds2, rfl, hdl2, hw2⟩ := alk_len O O' ⟨hCt, ht'⟩ hd9
          exact ⟨_, dp_keep (keep_hd D42) _ _ hnl2 hz9, fun s r e => by cases e; rcases hw2 with rfl | rfl <;> decide +kernel, fun a es r e => by cases e; omega, fun a r e => by cases e; exact .inr ⟨_, rfl⟩⟩
        refine ⟨by show 1 ≤ sizeLine; decide, fun L1 hL1 => ?_⟩
        have s43 := same_new (o := .lst [z9]) hL1
        have h43 : upd H42 L1 (.lst [z9]) L1 = some (.lst [z9]) := upd_same
        generalize upd H42 L1 (.lst [z9]) = H43 at s43 h43
        have s403 := s402.trans s43
        refine ⟨F, L1, _, _, rfl, rfl, s403 _ _ h40, h43, Nat.le_trans (show xs.length + 1 ≤ 60000 by omega) (by decide), fun GG hGG => ?_⟩
        have s44 := same_new (o := .lst (xs ++ [z9])) hGG
        have h44 : upd H43 GG (.lst (xs ++ [z9])) GG = some (.lst (xs ++ [z9])) := upd_same
        generalize upd H43 GG (.lst (xs ++ [z9])) = H44 at s44 h44
        have s404 := s403.trans s44
        have E44 : Els K (hd SL m l40 H44) 3000 (xs ++ [z9]) := (E42.snoc (Same.refl _) ez).same (hd_same (s43.trans s44))
        have fo44 := fo40.same (hd_same s404)
        have D44 := D40.same s404
        refine ⟨GG, rfl, ⟨_, SqL.of h44⟩, ?_⟩
        refine for_list (K := K) (a := GG) (xs := xs ++ [z9]) (fun j σ H' => ∃ y9 y10, σ = [some (.ref a), some (.ref m), some (.int (0 + (i : Nat))), some (.ref ca), some (.ref p11), some xv, some wv, some (.ref pz), some (.ref F), y9, y10, none] ∧ Same H44 H') ⟨_, _, rfl, Same.refl _⟩ ?_ ?_ ?_
        · rintro j σ H' _ ⟨_, _, _, s7⟩
          exact SqL.of (s7 _ _ h44)
        · rintro j pv σ H5 hj ⟨y9, y10, rfl, s5⟩
          have ep := (E44 pv (List.mem_of_getElem? hj)).same (hd_same s5)
          obtain ⟨dp, hdp, pp⟩ := ep
          have fo5 := fo44.same (hd_same s5)
          have po := pp.ok (by decide)
          have sh := res_sh (C := C) (D := G) (c := (s, t')) po
          refine ⟨_, rfl, _, rfl, _, rfl, _, rfl, _, rfl, .ref ca, .ref p11, xv, wv, pv, C, G, s, t', dp, rfl, O, O', hm, dp_same hd_sub _ _ fo5.c, dp_same hd_sub _ _ fo5.o, dp_same hd_sub _ _ fo5.x, dp_same hd_sub _ _ fo5.w, hs, ht', dp_same hd_sub _ _ hdp, po, fun zd H6 s6 hzd => ?_⟩
          have fo6 := fo5.same (hd_same s6)
          refine ⟨_, rfl, _, rfl, _, rfl, _, rfl, _, rfl, .inr ⟨.ref ca, .ref p11, xv, wv, pv, C, G, pairI s, pairI t', dp, rfl, O, O', dp_same hd_sub _ _ fo6.c, dp_same hd_sub _ _ fo6.o, dp_same hd_sub _ _ fo6.x, dp_same hd_sub _ _ fo6.w, dp_same s6 _ _ (dp_same hd_sub _ _ hdp), po, fun zo r7 H7 s7 ho hzo => ?_⟩⟩
          obtain rfl := out_res ho f1 f2 hm hs ht'
          have hzd := dp_same s7 _ _ hzd
          refine ⟨_, _, rfl, hzo, sh.sh, sh.nd, Nat.le_trans sh.dp (by decide), sz_line (Nat.le_trans sh.le (by decide)), _, rfl, _, _, rfl, hzd, sh.sh, sh.nd, Nat.le_trans sh.dp (by decide), sz_line (Nat.le_trans sh.le (by decide)), ⟨rfl, _, rfl, iteNS rfl ?_⟩⟩
          exact ⟨_, _, rfl, (s5.trans s6).trans s7⟩
        · rintro σ H5 ⟨y9, y10, rfl, s5⟩
          have fo5 := fo44.same (hd_same s5)
          refine ⟨_, rfl, _, rfl, _, rfl, .ref m, .ref ca, xv, C, s, rfl, O, f1, hm15, dp_same hd_sub _ _ fo5.c, dp_same hd_sub _ _ fo5.x, hs, fun H6 s6 => ⟨_, rfl, iteF ?_⟩⟩
          exact ⟨_, _, _, _, _, _, _, _, _, l40, rfl, ((D44.same s5).same s6).d.less (by omega)⟩
      · refine ⟨_, rfl, _, rfl, .inr ⟨.ref ca, .ref p11, xv, wv, C, G, pairI s, pairI t', rfl, O, O', dp_same hd_sub _ _ fo41.c, dp_same hd_sub _ _ fo41.o, dp_same hd_sub _ _ fo41.x, dp_same hd_sub _ _ fo41.w, allQ_ok f1 f2 hm hs ht', fun a0 b0 _ _ _ ea eb ha0 hb0 z9 d9 H42 s42 hd9 hz9 => ?_⟩⟩
        obtain rfl := pairI_inj _ _ ea
        obtain rfl := pairI_inj _ _ eb

        have D42 := (D40.same s41).same s42
        have s402 := s41.trans s42
        have E42 := E40.same (hd_same s402)
        have ez : El K (hd SL m l40 H42) 3000 z9 := by
          have hnl2 := alk_noL hd9
          obtain ⟨sw2, ds2, rfl, hdl2, hw2⟩ := alk_len O O' ⟨hs, ht'⟩ hd9
          exact ⟨_, dp_keep (keep_hd D42) _ _ hnl2 hz9, fun s r e => by cases e; rcases hw2 with rfl | rfl <;> decide +kernel, fun a es r e => by cases e; omega, fun a r e => by cases e; exact .inr ⟨_, rfl⟩⟩
        refine ⟨by show 1 ≤ sizeLine; decide, fun L1 hL1 => ?_⟩
        have s43 := same_new (o := .lst [z9]) hL1
        have h43 : upd H42 L1 (.lst [z9]) L1 = some (.lst [z9]) := upd_same
        generalize upd H42 L1 (.lst [z9]) = H43 at s43 h43
        have s403 := s402.trans s43
        refine ⟨F, L1, _, _, rfl, rfl, s403 _ _ h40, h43, Nat.le_trans (show xs.length + 1 ≤ 60000 by omega) (by decide), fun GG hGG => ?_⟩
        have s44 := same_new (o := .lst (xs ++ [z9])) hGG
        have h44 : upd H43 GG (.lst (xs ++ [z9])) GG = some (.lst (xs ++ [z9])) := upd_same
        generalize upd H43 GG (.lst (xs ++ [z9])) = H44 at s44 h44
        have s404 := s403.trans s44
        have E44 : Els K (hd SL m l40 H44) 3000 (xs ++ [z9]) := (E42.snoc (Same.refl _) ez).same (hd_same (s43.trans s44))
        have fo44 := fo40.same (hd_same s404)
        have D44 := D40.same s404
        refine ⟨GG, rfl, ⟨_, SqL.of h44⟩, ?_⟩
        refine for_list (K := K) (a := GG) (xs := xs ++ [z9]) (fun j σ H' => ∃ y9 y10, σ = [some (.ref a), some (.ref m), some (.int (0 + (i : Nat))), some (.ref ca), some (.ref p11), some xv, some wv, some (.ref pz), some (.ref F), y9, y10, none] ∧ Same H44 H') ⟨_, _, rfl, Same.refl _⟩ ?_ ?_ ?_
        · rintro j σ H' _ ⟨_, _, _, s7⟩
          exact SqL.of (s7 _ _ h44)
        · rintro j pv σ H5 hj ⟨y9, y10, rfl, s5⟩
          have ep := (E44 pv (List.mem_of_getElem? hj)).same (hd_same s5)
          obtain ⟨dp, hdp, pp⟩ := ep
          have fo5 := fo44.same (hd_same s5)
          have po := pp.ok (by decide)
          have sh := res_sh (C := C) (D := G) (c := (s, t')) po
          refine ⟨_, rfl, _, rfl, _, rfl, _, rfl, _, rfl, .ref ca, .ref p11, xv, wv, pv, C, G, s, t', dp, rfl, O, O', hm, dp_same hd_sub _ _ fo5.c, dp_same hd_sub _ _ fo5.o, dp_same hd_sub _ _ fo5.x, dp_same hd_sub _ _ fo5.w, hs, ht', dp_same hd_sub _ _ hdp, po, fun zd H6 s6 hzd => ?_⟩
          have fo6 := fo5.same (hd_same s6)
          refine ⟨_, rfl, _, rfl, _, rfl, _, rfl, _, rfl, .inr ⟨.ref ca, .ref p11, xv, wv, pv, C, G, pairI s, pairI t', dp, rfl, O, O', dp_same hd_sub _ _ fo6.c, dp_same hd_sub _ _ fo6.o, dp_same hd_sub _ _ fo6.x, dp_same hd_sub _ _ fo6.w, dp_same s6 _ _ (dp_same hd_sub _ _ hdp), po, fun zo r7 H7 s7 ho hzo => ?_⟩⟩
          obtain rfl := out_res ho f1 f2 hm hs ht'
          have hzd := dp_same s7 _ _ hzd
          refine ⟨_, _, rfl, hzo, sh.sh, sh.nd, Nat.le_trans sh.dp (by decide), sz_line (Nat.le_trans sh.le (by decide)), _, rfl, _, _, rfl, hzd, sh.sh, sh.nd, Nat.le_trans sh.dp (by decide), sz_line (Nat.le_trans sh.le (by decide)), ⟨rfl, _, rfl, iteNS rfl ?_⟩⟩
          exact ⟨_, _, rfl, (s5.trans s6).trans s7⟩
        · rintro σ H5 ⟨y9, y10, rfl, s5⟩
          have fo5 := fo44.same (hd_same s5)
          refine ⟨_, rfl, _, rfl, _, rfl, .ref m, .ref ca, xv, C, s, rfl, O, f1, hm15, dp_same hd_sub _ _ fo5.c, dp_same hd_sub _ _ fo5.x, hs, fun H6 s6 => ⟨_, rfl, iteF ?_⟩⟩
          exact ⟨_, _, _, _, _, _, _, _, _, l40, rfl, ((D44.same s5).same s6).d.less (by omega)⟩
    · rintro σ H2 ⟨_, _, _, _, _, _, _, _, _, l2, rfl, D2⟩
      exact q _
end
end My

namespace My
open PySem PySem.Spec PyProof.Rows L2
theorem exm_of {K : PySem.W.Frag} {S C : Addr} {b : Bool} (base : PySem.W.subIn K (.ref C) (.type "BaseException") = some true) (isCls : PySem.W.isClsIn K C = true)
    (ty : PySem.W.typeIn K (.ref C) = some (.type "type")) (sub : PySem.W.subIn K (.ref S) (.ref C) = some b) : PySem.W.exmOne K (.ref S) (.ref C) = some b := by
  unfold PySem.W.exmOne
  rw [if_pos (by rw [base]; rfl)]
  show (if ((PySem.W.clsIn K C).isSome && PySem.W.typeIn K (.ref C) == some (.type "type")) = true then PySem.W.subIn K (.ref S) (.ref C) else none) = some b
  have h : (PySem.W.clsIn K C).isSome = true := isCls
  rw [if_pos (by rw [h, ty]; rfl)]
  exact sub
end My

namespace My
open PySem PySem.Spec PyProof.Rows L2
set_option maxHeartbeats 0 in
theorem all_mk {l : PySem.W.OpenLaw} {w : World} {K : PySem.W.Frag} {h : Heap} {mg : Str → Option Value} {fa : Addr} (X : K.In h) (G : h.Ns mainGlobals mg) (hfa : mg "law" = some (.ref fa))
    {oc0 kV0 dc0 pm0 cd0 ct0 : Value} {od0 an0 : Option Addr} {sl0 : Array (Option Value)} {f0 : Addr}
    {oc1 kV1 dc1 pm1 cd1 ct1 : Value} {od1 an1 : Option Addr} {sl1 : Array (Option Value)} {f1 : Addr}
    {oc2 kV2 dc2 pm2 cd2 ct2 : Value} {od2 an2 : Option Addr} {sl2 : Array (Option Value)} {f2 : Addr}
    {oc3 kV3 dc3 pm3 cd3 ct3 : Value} {od3 an3 : Option Addr} {sl3 : Array (Option Value)} {f3 : Addr}
    {oc4 kV4 dc4 pm4 cd4 ct4 : Value} {od4 an4 : Option Addr} {sl4 : Array (Option Value)} {f4 : Addr}
    {oc5 kV5 dc5 pm5 cd5 ct5 : Value} {od5 an5 : Option Addr} {sl5 : Array (Option Value)} {f5 : Addr}
    {oc6 kV6 dc6 pm6 cd6 ct6 : Value} {od6 an6 : Option Addr} {sl6 : Array (Option Value)} {f6 : Addr}
    {oc7 kV7 dc7 pm7 cd7 ct7 : Value} {od7 an7 : Option Addr} {sl7 : Array (Option Value)} {f7 : Addr}
    {oc8 kV8 dc8 pm8 cd8 ct8 : Value} {od8 an8 : Option Addr} {sl8 : Array (Option Value)} {f8 : Addr}
    {oc9 kV9 dc9 pm9 cd9 ct9 : Value} {od9 an9 : Option Addr} {sl9 : Array (Option Value)} {f9 : Addr}
    {oc10 kV10 dc10 pm10 cd10 ct10 : Value} {od10 an10 : Option Addr} {sl10 : Array (Option Value)} {f10 : Addr}
    {oc11 kV11 dc11 pm11 cd11 ct11 : Value} {od11 an11 : Option Addr} {sl11 : Array (Option Value)} {f11 : Addr}
    {oc12 kV12 dc12 pm12 cd12 ct12 : Value} {od12 an12 : Option Addr} {sl12 : Array (Option Value)} {f12 : Addr}
    {oc13 kV13 dc13 pm13 cd13 ct13 : Value} {od13 an13 : Option Addr} {sl13 : Array (Option Value)} {f13 : Addr}
    {oc14 kV14 dc14 pm14 cd14 ct14 : Value} {od14 an14 : Option Addr} {sl14 : Array (Option Value)} {f14 : Addr}
    {oc15 kV15 dc15 pm15 cd15 ct15 : Value} {od15 an15 : Option Addr} {sl15 : Array (Option Value)} {f15 : Addr}
    {oc16 kV16 dc16 pm16 cd16 ct16 : Value} {od16 an16 : Option Addr} {sl16 : Array (Option Value)} {f16 : Addr}
    {oc17 kV17 dc17 pm17 cd17 ct17 : Value} {od17 an17 : Option Addr} {sl17 : Array (Option Value)} {f17 : Addr}
    {oc18 kV18 dc18 pm18 cd18 ct18 : Value} {od18 an18 : Option Addr} {sl18 : Array (Option Value)} {f18 : Addr}
    {oc19 kV19 dc19 pm19 cd19 ct19 : Value} {od19 an19 : Option Addr} {sl19 : Array (Option Value)} {f19 : Addr}
    {oc20 kV20 dc20 pm20 cd20 ct20 : Value} {od20 an20 : Option Addr} {sl20 : Array (Option Value)} {f20 : Addr}
    {oc21 kV21 dc21 pm21 cd21 ct21 : Value} {od21 an21 : Option Addr} {sl21 : Array (Option Value)} {f21 : Addr}
    {oc22 kV22 dc22 pm22 cd22 ct22 : Value} {od22 an22 : Option Addr} {sl22 : Array (Option Value)} {f22 : Addr}
    {oc23 kV23 dc23 pm23 cd23 ct23 : Value} {od23 an23 : Option Addr} {sl23 : Array (Option Value)} {f23 : Addr}
    {oc24 kV24 dc24 pm24 cd24 ct24 : Value} {od24 an24 : Option Addr} {sl24 : Array (Option Value)} {f24 : Addr}
    {oc25 kV25 dc25 pm25 cd25 ct25 : Value} {od25 an25 : Option Addr} {sl25 : Array (Option Value)} {f25 : Addr}
    {oc26 kV26 dc26 pm26 cd26 ct26 : Value} {od26 an26 : Option Addr} {sl26 : Array (Option Value)} {f26 : Addr}
    {oc27 kV27 dc27 pm27 cd27 ct27 : Value} {od27 an27 : Option Addr} {sl27 : Array (Option Value)} {f27 : Addr}
    {oc28 kV28 dc28 pm28 cd28 ct28 : Value} {od28 an28 : Option Addr} {sl28 : Array (Option Value)} {f28 : Addr}
    {oc29 kV29 dc29 pm29 cd29 ct29 : Value} {od29 an29 : Option Addr} {sl29 : Array (Option Value)} {f29 : Addr}
    {oc30 kV30 dc30 pm30 cd30 ct30 : Value} {od30 an30 : Option Addr} {sl30 : Array (Option Value)} {f30 : Addr}
    {oc31 kV31 dc31 pm31 cd31 ct31 : Value} {od31 an31 : Option Addr} {sl31 : Array (Option Value)} {f31 : Addr}
    {oc32 kV32 dc32 pm32 cd32 ct32 : Value} {od32 an32 : Option Addr} {sl32 : Array (Option Value)} {f32 : Addr}
    {oc33 kV33 dc33 pm33 cd33 ct33 : Value} {od33 an33 : Option Addr} {sl33 : Array (Option Value)} {f33 : Addr}
    {oc34 kV34 dc34 pm34 cd34 ct34 : Value} {od34 an34 : Option Addr} {sl34 : Array (Option Value)} {f34 : Addr}
    {oc35 kV35 dc35 pm35 cd35 ct35 : Value} {od35 an35 : Option Addr} {sl35 : Array (Option Value)} {f35 : Addr}
    {oc36 kV36 dc36 pm36 cd36 ct36 : Value} {od36 an36 : Option Addr} {sl36 : Array (Option Value)} {f36 : Addr}
    {oc37 kV37 dc37 pm37 cd37 ct37 : Value} {od37 an37 : Option Addr} {sl37 : Array (Option Value)} {f37 : Addr}
    {oc38 kV38 dc38 pm38 cd38 ct38 : Value} {od38 an38 : Option Addr} {sl38 : Array (Option Value)} {f38 : Addr}
    {oc39 kV39 dc39 pm39 cd39 ct39 : Value} {od39 an39 : Option Addr} {sl39 : Array (Option Value)} {f39 : Addr}
    {oc40 kV40 dc40 pm40 cd40 ct40 : Value} {od40 an40 : Option Addr} {sl40 : Array (Option Value)} {f40 : Addr}
    {oc41 kV41 dc41 pm41 cd41 ct41 : Value} {od41 an41 : Option Addr} {sl41 : Array (Option Value)} {f41 : Addr}
    {oc42 kV42 dc42 pm42 cd42 ct42 : Value} {od42 an42 : Option Addr} {sl42 : Array (Option Value)} {f42 : Addr}
    {oc43 kV43 dc43 pm43 cd43 ct43 : Value} {od43 an43 : Option Addr} {sl43 : Array (Option Value)} {f43 : Addr}
    {oc44 kV44 dc44 pm44 cd44 ct44 : Value} {od44 an44 : Option Addr} {sl44 : Array (Option Value)} {f44 : Addr}
    {oc45 kV45 dc45 pm45 cd45 ct45 : Value} {od45 an45 : Option Addr} {sl45 : Array (Option Value)} {f45 : Addr}
    {oc46 kV46 dc46 pm46 cd46 ct46 : Value} {od46 an46 : Option Addr} {sl46 : Array (Option Value)} {f46 : Addr}
    {oc47 kV47 dc47 pm47 cd47 ct47 : Value} {od47 an47 : Option Addr} {sl47 : Array (Option Value)} {f47 : Addr}
    {oc48 kV48 dc48 pm48 cd48 ct48 : Value} {od48 an48 : Option Addr} {sl48 : Array (Option Value)} {f48 : Addr}
    {oc49 kV49 dc49 pm49 cd49 ct49 : Value} {od49 an49 : Option Addr} {sl49 : Array (Option Value)} {f49 : Addr}
    {oc50 kV50 dc50 pm50 cd50 ct50 : Value} {od50 an50 : Option Addr} {sl50 : Array (Option Value)} {f50 : Addr}
    {oc51 kV51 dc51 pm51 cd51 ct51 : Value} {od51 an51 : Option Addr} {sl51 : Array (Option Value)} {f51 : Addr}
    {oc52 kV52 dc52 pm52 cd52 ct52 : Value} {od52 an52 : Option Addr} {sl52 : Array (Option Value)} {f52 : Addr}
    {oc53 kV53 dc53 pm53 cd53 ct53 : Value} {od53 an53 : Option Addr} {sl53 : Array (Option Value)} {f53 : Addr}
    {C0 g0 N0 : Addr} {nmC0 qC0 : Str} {bsC0 subC0 : List Value} {snC0 : List Str} {abC0 : Bool} {colC0 : Option Bool} {ddC0 : Option Addr} {m0C0 m1C0 m2C0 m3C0 m5C0 : Option Value} {ocC0 kVC0 dcC0 pmC0 cdC0 ctC0 : Value} {odC0 anC0 : Option Addr} {slC0 : Array (Option Value)}
    {C1 g1 N1 : Addr} {nmC1 qC1 : Str} {bsC1 subC1 : List Value} {snC1 : List Str} {abC1 : Bool} {colC1 : Option Bool} {ddC1 : Option Addr} {m0C1 m1C1 m2C1 m3C1 m5C1 : Option Value} {ocC1 kVC1 dcC1 pmC1 cdC1 ctC1 : Value} {odC1 anC1 : Option Addr} {slC1 : Array (Option Value)}
    {C2 g2 N2 : Addr} {nmC2 qC2 : Str} {bsC2 subC2 : List Value} {snC2 : List Str} {abC2 : Bool} {colC2 : Option Bool} {ddC2 : Option Addr} {m0C2 m1C2 m2C2 m3C2 m5C2 : Option Value} {ocC2 kVC2 dcC2 pmC2 cdC2 ctC2 : Value} {odC2 anC2 : Option Addr} {slC2 : Array (Option Value)}
    {C3 g3 N3 : Addr} {nmC3 qC3 : Str} {bsC3 subC3 : List Value} {snC3 : List Str} {abC3 : Bool} {colC3 : Option Bool} {ddC3 : Option Addr} {m0C3 m1C3 m2C3 m3C3 m5C3 : Option Value} {ocC3 kVC3 dcC3 pmC3 cdC3 ctC3 : Value} {odC3 anC3 : Option Addr} {slC3 : Array (Option Value)}
    {qFORMS : Addr} {dFORMS : Option Addr} {nFORMS : Nat} {sFORMS : Array (Option Value)} {tFORMS0x0 tFORMS0x1 : Tok} {qFORMS0 : Addr} {dFORMS0 : Option Addr} {nFORMS0 : Nat} {sFORMS0 : Array (Option Value)} {tFORMS1x0 tFORMS1x1 : Tok} {qFORMS1 : Addr} {dFORMS1 : Option Addr} {nFORMS1 : Nat} {sFORMS1 : Array (Option Value)}
    (a0 : PySem.W.nsIn K mainGlobals "is_integer" = some (some (.ref f0)))
    (l0 : K.lookup f0 = some ⟨oc0, od0, .func (PySem.W.fnOf "is_integer" "is_integer" (defArgs s_is_integer) (defBody s_is_integer) (defScope s_is_integer) .none kV0 dc0 pm0 an0 cd0 ct0), sl0⟩)
    (c0 : PySem.W.codeIn K cd0 "is_integer" = true)
    (k0 : PySem.W.keepIn K (.ref f0) = true)
    (a1 : PySem.W.nsIn K mainGlobals "is_between" = some (some (.ref f1)))
    (l1 : K.lookup f1 = some ⟨oc1, od1, .func (PySem.W.fnOf "is_between" "is_between" (defArgs s_is_between) (defBody s_is_between) (defScope s_is_between) .none kV1 dc1 pm1 an1 cd1 ct1), sl1⟩)
    (c1 : PySem.W.codeIn K cd1 "is_between" = true)
    (k1 : PySem.W.keepIn K (.ref f1) = true)
    (a2 : PySem.W.nsIn K mainGlobals "is_pair" = some (some (.ref f2)))
    (l2 : K.lookup f2 = some ⟨oc2, od2, .func (PySem.W.fnOf "is_pair" "is_pair" (defArgs s_is_pair) (defBody s_is_pair) (defScope s_is_pair) .none kV2 dc2 pm2 an2 cd2 ct2), sl2⟩)
    (c2 : PySem.W.codeIn K cd2 "is_pair" = true)
    (k2 : PySem.W.keepIn K (.ref f2) = true)
    (a3 : PySem.W.nsIn K mainGlobals "is_code" = some (some (.ref f3)))
    (l3 : K.lookup f3 = some ⟨oc3, od3, .func (PySem.W.fnOf "is_code" "is_code" (defArgs s_is_code) (defBody s_is_code) (defScope s_is_code) .none kV3 dc3 pm3 an3 cd3 ct3), sl3⟩)
    (c3 : PySem.W.codeIn K cd3 "is_code" = true)
    (k3 : PySem.W.keepIn K (.ref f3) = true)
    (a4 : PySem.W.nsIn K mainGlobals "is_tuple_of_codes" = some (some (.ref f4)))
    (l4 : K.lookup f4 = some ⟨oc4, od4, .func (PySem.W.fnOf "is_tuple_of_codes" "is_tuple_of_codes" (defArgs s_is_tuple_of_codes) (defBody s_is_tuple_of_codes) (defScope s_is_tuple_of_codes) .none kV4 dc4 pm4 an4 cd4 ct4), sl4⟩)
    (c4 : PySem.W.codeIn K cd4 "is_tuple_of_codes" = true)
    (k4 : PySem.W.keepIn K (.ref f4) = true)
    (a5 : PySem.W.nsIn K mainGlobals "is_place" = some (some (.ref f5)))
    (l5 : K.lookup f5 = some ⟨oc5, od5, .func (PySem.W.fnOf "is_place" "is_place" (defArgs s_is_place) (defBody s_is_place) (defScope s_is_place) .none kV5 dc5 pm5 an5 cd5 ct5), sl5⟩)
    (c5 : PySem.W.codeIn K cd5 "is_place" = true)
    (k5 : PySem.W.keepIn K (.ref f5) = true)
    (a6 : PySem.W.nsIn K mainGlobals "is_state" = some (some (.ref f6)))
    (l6 : K.lookup f6 = some ⟨oc6, od6, .func (PySem.W.fnOf "is_state" "is_state" (defArgs s_is_state) (defBody s_is_state) (defScope s_is_state) .none kV6 dc6 pm6 an6 cd6 ct6), sl6⟩)
    (c6 : PySem.W.codeIn K cd6 "is_state" = true)
    (k6 : PySem.W.keepIn K (.ref f6) = true)
    (a7 : PySem.W.nsIn K mainGlobals "need_state" = some (some (.ref f7)))
    (l7 : K.lookup f7 = some ⟨oc7, od7, .func (PySem.W.fnOf "need_state" "need_state" (defArgs s_need_state) (defBody s_need_state) (defScope s_need_state) .none kV7 dc7 pm7 an7 cd7 ct7), sl7⟩)
    (c7 : PySem.W.codeIn K cd7 "need_state" = true)
    (k7 : PySem.W.keepIn K (.ref f7) = true)
    (a8 : PySem.W.nsIn K mainGlobals "need_few_states" = some (some (.ref f8)))
    (l8 : K.lookup f8 = some ⟨oc8, od8, .func (PySem.W.fnOf "need_few_states" "need_few_states" (defArgs s_need_few_states) (defBody s_need_few_states) (defScope s_need_few_states) .none kV8 dc8 pm8 an8 cd8 ct8), sl8⟩)
    (c8 : PySem.W.codeIn K cd8 "need_few_states" = true)
    (k8 : PySem.W.keepIn K (.ref f8) = true)
    (a9 : PySem.W.nsIn K mainGlobals "all_states" = some (some (.ref f9)))
    (l9 : K.lookup f9 = some ⟨oc9, od9, .func (PySem.W.fnOf "all_states" "all_states" (defArgs s_all_states) (defBody s_all_states) (defScope s_all_states) .none kV9 dc9 pm9 an9 cd9 ct9), sl9⟩)
    (c9 : PySem.W.codeIn K cd9 "all_states" = true)
    (k9 : PySem.W.keepIn K (.ref f9) = true)
    (a10 : PySem.W.nsIn K mainGlobals "rounded" = some (some (.ref f10)))
    (l10 : K.lookup f10 = some ⟨oc10, od10, .func (PySem.W.fnOf "rounded" "rounded" (defArgs s_rounded) (defBody s_rounded) (defScope s_rounded) .none kV10 dc10 pm10 an10 cd10 ct10), sl10⟩)
    (c10 : PySem.W.codeIn K cd10 "rounded" = true)
    (k10 : PySem.W.keepIn K (.ref f10) = true)
    (a11 : PySem.W.nsIn K mainGlobals "limited" = some (some (.ref f11)))
    (l11 : K.lookup f11 = some ⟨oc11, od11, .func (PySem.W.fnOf "limited" "limited" (defArgs s_limited) (defBody s_limited) (defScope s_limited) .none kV11 dc11 pm11 an11 cd11 ct11), sl11⟩)
    (c11 : PySem.W.codeIn K cd11 "limited" = true)
    (k11 : PySem.W.keepIn K (.ref f11) = true)
    (a12 : PySem.W.nsIn K mainGlobals "change_at" = some (some (.ref f12)))
    (l12 : K.lookup f12 = some ⟨oc12, od12, .func (PySem.W.fnOf "change_at" "change_at" (defArgs s_change_at) (defBody s_change_at) (defScope s_change_at) .none kV12 dc12 pm12 an12 cd12 ct12), sl12⟩)
    (c12 : PySem.W.codeIn K cd12 "change_at" = true)
    (k12 : PySem.W.keepIn K (.ref f12) = true)
    (a13 : PySem.W.nsIn K mainGlobals "faded" = some (some (.ref f13)))
    (l13 : K.lookup f13 = some ⟨oc13, od13, .func (PySem.W.fnOf "faded" "faded" (defArgs s_faded) (defBody s_faded) (defScope s_faded) .none kV13 dc13 pm13 an13 cd13 ct13), sl13⟩)
    (c13 : PySem.W.codeIn K cd13 "faded" = true)
    (k13 : PySem.W.keepIn K (.ref f13) = true)
    (a14 : PySem.W.nsIn K mainGlobals "state_behind" = some (some (.ref f14)))
    (l14 : K.lookup f14 = some ⟨oc14, od14, .func (PySem.W.fnOf "state_behind" "state_behind" (defArgs s_state_behind) (defBody s_state_behind) (defScope s_state_behind) .none kV14 dc14 pm14 an14 cd14 ct14), sl14⟩)
    (c14 : PySem.W.codeIn K cd14 "state_behind" = true)
    (k14 : PySem.W.keepIn K (.ref f14) = true)
    (a15 : PySem.W.nsIn K mainGlobals "state_behind_row" = some (some (.ref f15)))
    (l15 : K.lookup f15 = some ⟨oc15, od15, .func (PySem.W.fnOf "state_behind_row" "state_behind_row" (defArgs s_state_behind_row) (defBody s_state_behind_row) (defScope s_state_behind_row) .none kV15 dc15 pm15 an15 cd15 ct15), sl15⟩)
    (c15 : PySem.W.codeIn K cd15 "state_behind_row" = true)
    (k15 : PySem.W.keepIn K (.ref f15) = true)
    (a16 : PySem.W.nsIn K mainGlobals "need_coder" = some (some (.ref f16)))
    (l16 : K.lookup f16 = some ⟨oc16, od16, .func (PySem.W.fnOf "need_coder" "need_coder" (defArgs s_need_coder) (defBody s_need_coder) (defScope s_need_coder) .none kV16 dc16 pm16 an16 cd16 ct16), sl16⟩)
    (c16 : PySem.W.codeIn K cd16 "need_coder" = true)
    (k16 : PySem.W.keepIn K (.ref f16) = true)
    (a17 : PySem.W.nsIn K mainGlobals "_first_fault" = some (some (.ref f17)))
    (l17 : K.lookup f17 = some ⟨oc17, od17, .func (PySem.W.fnOf "_first_fault" "_first_fault" (defArgs s_first_fault) (defBody s_first_fault) (defScope s_first_fault) .none kV17 dc17 pm17 an17 cd17 ct17), sl17⟩)
    (c17 : PySem.W.codeIn K cd17 "_first_fault" = true)
    (k17 : PySem.W.keepIn K (.ref f17) = true)
    (a18 : PySem.W.nsIn K mainGlobals "_fault_of_steps" = some (some (.ref f18)))
    (l18 : K.lookup f18 = some ⟨oc18, od18, .func (PySem.W.fnOf "_fault_of_steps" "_fault_of_steps" (defArgs s_fault_of_steps) (defBody s_fault_of_steps) (defScope s_fault_of_steps) .none kV18 dc18 pm18 an18 cd18 ct18), sl18⟩)
    (c18 : PySem.W.codeIn K cd18 "_fault_of_steps" = true)
    (k18 : PySem.W.keepIn K (.ref f18) = true)
    (a19 : PySem.W.nsIn K mainGlobals "_fault_of_moves" = some (some (.ref f19)))
    (l19 : K.lookup f19 = some ⟨oc19, od19, .func (PySem.W.fnOf "_fault_of_moves" "_fault_of_moves" (defArgs s_fault_of_moves) (defBody s_fault_of_moves) (defScope s_fault_of_moves) .none kV19 dc19 pm19 an19 cd19 ct19), sl19⟩)
    (c19 : PySem.W.codeIn K cd19 "_fault_of_moves" = true)
    (k19 : PySem.W.keepIn K (.ref f19) = true)
    (a20 : PySem.W.nsIn K mainGlobals "_is_tuple_of" = some (some (.ref f20)))
    (l20 : K.lookup f20 = some ⟨oc20, od20, .func (PySem.W.fnOf "_is_tuple_of" "_is_tuple_of" (defArgs s_is_tuple_of) (defBody s_is_tuple_of) (defScope s_is_tuple_of) .none kV20 dc20 pm20 an20 cd20 ct20), sl20⟩)
    (c20 : PySem.W.codeIn K cd20 "_is_tuple_of" = true)
    (k20 : PySem.W.keepIn K (.ref f20) = true)
    (a21 : PySem.W.nsIn K mainGlobals "_is_move" = some (some (.ref f21)))
    (l21 : K.lookup f21 = some ⟨oc21, od21, .func (PySem.W.fnOf "_is_move" "_is_move" (defArgs s_is_move) (defBody s_is_move) (defScope s_is_move) .none kV21 dc21 pm21 an21 cd21 ct21), sl21⟩)
    (c21 : PySem.W.codeIn K cd21 "_is_move" = true)
    (k21 : PySem.W.keepIn K (.ref f21) = true)
    (a22 : PySem.W.nsIn K mainGlobals "_is_fade" = some (some (.ref f22)))
    (l22 : K.lookup f22 = some ⟨oc22, od22, .func (PySem.W.fnOf "_is_fade" "_is_fade" (defArgs s_is_fade) (defBody s_is_fade) (defScope s_is_fade) .none kV22 dc22 pm22 an22 cd22 ct22), sl22⟩)
    (c22 : PySem.W.codeIn K cd22 "_is_fade" = true)
    (k22 : PySem.W.keepIn K (.ref f22) = true)
    (a23 : PySem.W.nsIn K mainGlobals "row_along" = some (some (.ref f23)))
    (l23 : K.lookup f23 = some ⟨oc23, od23, .func (PySem.W.fnOf "row_along" "row_along" (defArgs s_row_along) (defBody s_row_along) (defScope s_row_along) .none kV23 dc23 pm23 an23 cd23 ct23), sl23⟩)
    (c23 : PySem.W.codeIn K cd23 "row_along" = true)
    (k23 : PySem.W.keepIn K (.ref f23) = true)
    (a24 : PySem.W.nsIn K mainGlobals "led_states" = some (some (.ref f24)))
    (l24 : K.lookup f24 = some ⟨oc24, od24, .func (PySem.W.fnOf "led_states" "led_states" (defArgs s_led_states) (defBody s_led_states) (defScope s_led_states) .none kV24 dc24 pm24 an24 cd24 ct24), sl24⟩)
    (c24 : PySem.W.codeIn K cd24 "led_states" = true)
    (k24 : PySem.W.keepIn K (.ref f24) = true)
    (a25 : PySem.W.nsIn K mainGlobals "need_form" = some (some (.ref f25)))
    (l25 : K.lookup f25 = some ⟨oc25, od25, .func (PySem.W.fnOf "need_form" "need_form" (defArgs s_need_form) (defBody s_need_form) (defScope s_need_form) .none kV25 dc25 pm25 an25 cd25 ct25), sl25⟩)
    (c25 : PySem.W.codeIn K cd25 "need_form" = true)
    (k25 : PySem.W.keepIn K (.ref f25) = true)
    (a26 : PySem.W.nsIn K mainGlobals "alike" = some (some (.ref f26)))
    (l26 : K.lookup f26 = some ⟨oc26, od26, .func (PySem.W.fnOf "alike" "alike" (defArgs s_alike) (defBody s_alike) (defScope s_alike) .none kV26 dc26 pm26 an26 cd26 ct26), sl26⟩)
    (c26 : PySem.W.codeIn K cd26 "alike" = true)
    (k26 : PySem.W.keepIn K (.ref f26) = true)
    (a27 : PySem.W.nsIn K mainGlobals "check_alike" = some (some (.ref f27)))
    (l27 : K.lookup f27 = some ⟨oc27, od27, .func (PySem.W.fnOf "check_alike" "check_alike" (defArgs s_check_alike) (defBody s_check_alike) (defScope s_check_alike) .none kV27 dc27 pm27 an27 cd27 ct27), sl27⟩)
    (c27 : PySem.W.codeIn K cd27 "check_alike" = true)
    (k27 : PySem.W.keepIn K (.ref f27) = true)
    (a28 : PySem.W.nsIn K mainGlobals "_need_all" = some (some (.ref f28)))
    (l28 : K.lookup f28 = some ⟨oc28, od28, .func (PySem.W.fnOf "_need_all" "_need_all" (defArgs s_need_all) (defBody s_need_all) (defScope s_need_all) .none kV28 dc28 pm28 an28 cd28 ct28), sl28⟩)
    (c28 : PySem.W.codeIn K cd28 "_need_all" = true)
    (k28 : PySem.W.keepIn K (.ref f28) = true)
    (a29 : PySem.W.nsIn K mainGlobals "_pairs_behind" = some (some (.ref f29)))
    (l29 : K.lookup f29 = some ⟨oc29, od29, .func (PySem.W.fnOf "_pairs_behind" "_pairs_behind" (defArgs s_pairs_behind) (defBody s_pairs_behind) (defScope s_pairs_behind) .none kV29 dc29 pm29 an29 cd29 ct29), sl29⟩)
    (c29 : PySem.W.codeIn K cd29 "_pairs_behind" = true)
    (k29 : PySem.W.keepIn K (.ref f29) = true)
    (a30 : PySem.W.nsIn K mainGlobals "_is_unlike" = some (some (.ref f30)))
    (l30 : K.lookup f30 = some ⟨oc30, od30, .func (PySem.W.fnOf "_is_unlike" "_is_unlike" (defArgs s_is_unlike) (defBody s_is_unlike) (defScope s_is_unlike) .none kV30 dc30 pm30 an30 cd30 ct30), sl30⟩)
    (c30 : PySem.W.codeIn K cd30 "_is_unlike" = true)
    (k30 : PySem.W.keepIn K (.ref f30) = true)
    (a31 : PySem.W.nsIn K mainGlobals "_check_couples" = some (some (.ref f31)))
    (l31 : K.lookup f31 = some ⟨oc31, od31, .func (PySem.W.fnOf "_check_couples" "_check_couples" (defArgs s_check_couples) (defBody s_check_couples) (defScope s_check_couples) .none kV31 dc31 pm31 an31 cd31 ct31), sl31⟩)
    (c31 : PySem.W.codeIn K cd31 "_check_couples" = true)
    (k31 : PySem.W.keepIn K (.ref f31) = true)
    (a32 : PySem.W.nsIn K mainGlobals "_is_pair_of_states" = some (some (.ref f32)))
    (l32 : K.lookup f32 = some ⟨oc32, od32, .func (PySem.W.fnOf "_is_pair_of_states" "_is_pair_of_states" (defArgs s_is_pair_of_states) (defBody s_is_pair_of_states) (defScope s_is_pair_of_states) .none kV32 dc32 pm32 an32 cd32 ct32), sl32⟩)
    (c32 : PySem.W.codeIn K cd32 "_is_pair_of_states" = true)
    (k32 : PySem.W.keepIn K (.ref f32) = true)
    (a33 : PySem.W.nsIn K mainGlobals "_check_row" = some (some (.ref f33)))
    (l33 : K.lookup f33 = some ⟨oc33, od33, .func (PySem.W.fnOf "_check_row" "_check_row" (defArgs s_check_row) (defBody s_check_row) (defScope s_check_row) .none kV33 dc33 pm33 an33 cd33 ct33), sl33⟩)
    (c33 : PySem.W.codeIn K cd33 "_check_row" = true)
    (k33 : PySem.W.keepIn K (.ref f33) = true)
    (a34 : PySem.W.nsIn K mainGlobals "_law_begun" = some (some (.ref f34)))
    (l34 : K.lookup f34 = some ⟨oc34, od34, .func (PySem.W.fnOf "_law_begun" "_law_begun" (defArgs s_law_begun) (defBody s_law_begun) (defScope s_law_begun) .none kV34 dc34 pm34 an34 cd34 ct34), sl34⟩)
    (c34 : PySem.W.codeIn K cd34 "_law_begun" = true)
    (k34 : PySem.W.keepIn K (.ref f34) = true)
    (a35 : PySem.W.nsIn K mainGlobals "_law_next" = some (some (.ref f35)))
    (l35 : K.lookup f35 = some ⟨oc35, od35, .func (PySem.W.fnOf "_law_next" "_law_next" (defArgs s_law_next) (defBody s_law_next) (defScope s_law_next) .none kV35 dc35 pm35 an35 cd35 ct35), sl35⟩)
    (c35 : PySem.W.codeIn K cd35 "_law_next" = true)
    (k35 : PySem.W.keepIn K (.ref f35) = true)
    (a36 : PySem.W.nsIn K mainGlobals "_law_coder" = some (some (.ref f36)))
    (l36 : K.lookup f36 = some ⟨oc36, od36, .func (PySem.W.fnOf "_law_coder" "_law_coder" (defArgs s_law_coder) (defBody s_law_coder) (defScope s_law_coder) .none kV36 dc36 pm36 an36 cd36 ct36), sl36⟩)
    (c36 : PySem.W.codeIn K cd36 "_law_coder" = true)
    (k36 : PySem.W.keepIn K (.ref f36) = true)
    (a37 : PySem.W.nsIn K mainGlobals "_law_parted" = some (some (.ref f37)))
    (l37 : K.lookup f37 = some ⟨oc37, od37, .func (PySem.W.fnOf "_law_parted" "_law_parted" (defArgs s_law_parted) (defBody s_law_parted) (defScope s_law_parted) .none kV37 dc37 pm37 an37 cd37 ct37), sl37⟩)
    (c37 : PySem.W.codeIn K cd37 "_law_parted" = true)
    (k37 : PySem.W.keepIn K (.ref f37) = true)
    (a38 : PySem.W.nsIn K mainGlobals "_law_limited" = some (some (.ref f38)))
    (l38 : K.lookup f38 = some ⟨oc38, od38, .func (PySem.W.fnOf "_law_limited" "_law_limited" (defArgs s_law_limited) (defBody s_law_limited) (defScope s_law_limited) .none kV38 dc38 pm38 an38 cd38 ct38), sl38⟩)
    (c38 : PySem.W.codeIn K cd38 "_law_limited" = true)
    (k38 : PySem.W.keepIn K (.ref f38) = true)
    (a39 : PySem.W.nsIn K mainGlobals "_law_led" = some (some (.ref f39)))
    (l39 : K.lookup f39 = some ⟨oc39, od39, .func (PySem.W.fnOf "_law_led" "_law_led" (defArgs s_law_led) (defBody s_law_led) (defScope s_law_led) .none kV39 dc39 pm39 an39 cd39 ct39), sl39⟩)
    (c39 : PySem.W.codeIn K cd39 "_law_led" = true)
    (k39 : PySem.W.keepIn K (.ref f39) = true)
    (a40 : PySem.W.nsIn K mainGlobals "_law_walked" = some (some (.ref f40)))
    (l40 : K.lookup f40 = some ⟨oc40, od40, .func (PySem.W.fnOf "_law_walked" "_law_walked" (defArgs s_law_walked) (defBody s_law_walked) (defScope s_law_walked) .none kV40 dc40 pm40 an40 cd40 ct40), sl40⟩)
    (c40 : PySem.W.codeIn K cd40 "_law_walked" = true)
    (k40 : PySem.W.keepIn K (.ref f40) = true)
    (a41 : PySem.W.nsIn K mainGlobals "_law_states" = some (some (.ref f41)))
    (l41 : K.lookup f41 = some ⟨oc41, od41, .func (PySem.W.fnOf "_law_states" "_law_states" (defArgs s_law_states) (defBody s_law_states) (defScope s_law_states) .none kV41 dc41 pm41 an41 cd41 ct41), sl41⟩)
    (c41 : PySem.W.codeIn K cd41 "_law_states" = true)
    (k41 : PySem.W.keepIn K (.ref f41) = true)
    (a42 : PySem.W.nsIn K mainGlobals "_law_some_state" = some (some (.ref f42)))
    (l42 : K.lookup f42 = some ⟨oc42, od42, .func (PySem.W.fnOf "_law_some_state" "_law_some_state" (defArgs s_law_some_state) (defBody s_law_some_state) (defScope s_law_some_state) .none kV42 dc42 pm42 an42 cd42 ct42), sl42⟩)
    (c42 : PySem.W.codeIn K cd42 "_law_some_state" = true)
    (k42 : PySem.W.keepIn K (.ref f42) = true)
    (a43 : PySem.W.nsIn K mainGlobals "_law_is_whole" = some (some (.ref f43)))
    (l43 : K.lookup f43 = some ⟨oc43, od43, .func (PySem.W.fnOf "_law_is_whole" "_law_is_whole" (defArgs s_law_is_whole) (defBody s_law_is_whole) (defScope s_law_is_whole) .none kV43 dc43 pm43 an43 cd43 ct43), sl43⟩)
    (c43 : PySem.W.codeIn K cd43 "_law_is_whole" = true)
    (k43 : PySem.W.keepIn K (.ref f43) = true)
    (a44 : PySem.W.nsIn K mainGlobals "_law_is_state" = some (some (.ref f44)))
    (l44 : K.lookup f44 = some ⟨oc44, od44, .func (PySem.W.fnOf "_law_is_state" "_law_is_state" (defArgs s_law_is_state) (defBody s_law_is_state) (defScope s_law_is_state) .none kV44 dc44 pm44 an44 cd44 ct44), sl44⟩)
    (c44 : PySem.W.codeIn K cd44 "_law_is_state" = true)
    (k44 : PySem.W.keepIn K (.ref f44) = true)
    (a45 : PySem.W.nsIn K mainGlobals "_law_are_codes" = some (some (.ref f45)))
    (l45 : K.lookup f45 = some ⟨oc45, od45, .func (PySem.W.fnOf "_law_are_codes" "_law_are_codes" (defArgs s_law_are_codes) (defBody s_law_are_codes) (defScope s_law_are_codes) .none kV45 dc45 pm45 an45 cd45 ct45), sl45⟩)
    (c45 : PySem.W.codeIn K cd45 "_law_are_codes" = true)
    (k45 : PySem.W.keepIn K (.ref f45) = true)
    (a46 : PySem.W.nsIn K mainGlobals "_law_is_pair" = some (some (.ref f46)))
    (l46 : K.lookup f46 = some ⟨oc46, od46, .func (PySem.W.fnOf "_law_is_pair" "_law_is_pair" (defArgs s_law_is_pair) (defBody s_law_is_pair) (defScope s_law_is_pair) .none kV46 dc46 pm46 an46 cd46 ct46), sl46⟩)
    (c46 : PySem.W.codeIn K cd46 "_law_is_pair" = true)
    (k46 : PySem.W.keepIn K (.ref f46) = true)
    (a47 : PySem.W.nsIn K mainGlobals "_law_pairs_fault" = some (some (.ref f47)))
    (l47 : K.lookup f47 = some ⟨oc47, od47, .func (PySem.W.fnOf "_law_pairs_fault" "_law_pairs_fault" (defArgs s_law_pairs_fault) (defBody s_law_pairs_fault) (defScope s_law_pairs_fault) .none kV47 dc47 pm47 an47 cd47 ct47), sl47⟩)
    (c47 : PySem.W.codeIn K cd47 "_law_pairs_fault" = true)
    (k47 : PySem.W.keepIn K (.ref f47) = true)
    (a48 : PySem.W.nsIn K mainGlobals "_law_due" = some (some (.ref f48)))
    (l48 : K.lookup f48 = some ⟨oc48, od48, .func (PySem.W.fnOf "_law_due" "_law_due" (defArgs s_law_due) (defBody s_law_due) (defScope s_law_due) .none kV48 dc48 pm48 an48 cd48 ct48), sl48⟩)
    (c48 : PySem.W.codeIn K cd48 "_law_due" = true)
    (k48 : PySem.W.keepIn K (.ref f48) = true)
    (a49 : PySem.W.nsIn K mainGlobals "_law_outcome" = some (some (.ref f49)))
    (l49 : K.lookup f49 = some ⟨oc49, od49, .func (PySem.W.fnOf "_law_outcome" "_law_outcome" (defArgs s_law_outcome) (defBody s_law_outcome) (defScope s_law_outcome) .none kV49 dc49 pm49 an49 cd49 ct49), sl49⟩)
    (c49 : PySem.W.codeIn K cd49 "_law_outcome" = true)
    (k49 : PySem.W.keepIn K (.ref f49) = true)
    (a50 : PySem.W.nsIn K mainGlobals "_law_compared" = some (some (.ref f50)))
    (l50 : K.lookup f50 = some ⟨oc50, od50, .func (PySem.W.fnOf "_law_compared" "_law_compared" (defArgs s_law_compared) (defBody s_law_compared) (defScope s_law_compared) .none kV50 dc50 pm50 an50 cd50 ct50), sl50⟩)
    (c50 : PySem.W.codeIn K cd50 "_law_compared" = true)
    (k50 : PySem.W.keepIn K (.ref f50) = true)
    (a51 : PySem.W.nsIn K mainGlobals "_law_bent" = some (some (.ref f51)))
    (l51 : K.lookup f51 = some ⟨oc51, od51, .func (PySem.W.fnOf "_law_bent" "_law_bent" (defArgs s_law_bent) (defBody s_law_bent) (defScope s_law_bent) .none kV51 dc51 pm51 an51 cd51 ct51), sl51⟩)
    (c51 : PySem.W.codeIn K cd51 "_law_bent" = true)
    (k51 : PySem.W.keepIn K (.ref f51) = true)
    (a52 : PySem.W.nsIn K mainGlobals "_law_wrong_right" = some (some (.ref f52)))
    (l52 : K.lookup f52 = some ⟨oc52, od52, .func (PySem.W.fnOf "_law_wrong_right" "_law_wrong_right" (defArgs s_law_wrong_right) (defBody s_law_wrong_right) (defScope s_law_wrong_right) .none kV52 dc52 pm52 an52 cd52 ct52), sl52⟩)
    (c52 : PySem.W.codeIn K cd52 "_law_wrong_right" = true)
    (k52 : PySem.W.keepIn K (.ref f52) = true)
    (a53 : PySem.W.nsIn K mainGlobals "law" = some (some (.ref f53)))
    (l53 : K.lookup f53 = some ⟨oc53, od53, .func (PySem.W.fnOf "law" "law" (defArgs s_law) (defBody s_law) (defScope s_law) .none kV53 dc53 pm53 an53 cd53 ct53), sl53⟩)
    (c53 : PySem.W.codeIn K cd53 "law" = true)
    (k53 : PySem.W.keepIn K (.ref f53) = true)
    (z_all : PySem.W.nsIn K mainGlobals "all" = some none)
    (z_bool : PySem.W.nsIn K mainGlobals "bool" = some none)
    (z_enumerate : PySem.W.nsIn K mainGlobals "enumerate" = some none)
    (z_int : PySem.W.nsIn K mainGlobals "int" = some none)
    (z_isinstance : PySem.W.nsIn K mainGlobals "isinstance" = some none)
    (z_len : PySem.W.nsIn K mainGlobals "len" = some none)
    (z_list : PySem.W.nsIn K mainGlobals "list" = some none)
    (z_max : PySem.W.nsIn K mainGlobals "max" = some none)
    (z_min : PySem.W.nsIn K mainGlobals "min" = some none)
    (z_range : PySem.W.nsIn K mainGlobals "range" = some none)
    (z_repr : PySem.W.nsIn K mainGlobals "repr" = some none)
    (z_sorted : PySem.W.nsIn K mainGlobals "sorted" = some none)
    (z_str : PySem.W.nsIn K mainGlobals "str" = some none)
    (z_tuple : PySem.W.nsIn K mainGlobals "tuple" = some none)
    (z_zip : PySem.W.nsIn K mainGlobals "zip" = some none)
    (aC0 : PySem.W.nsIn K mainGlobals "BadCoder" = some (some (.ref C0)))
    (xC0 : K.lookup C0 = some (excClassObj nmC0 qC0 C0 N0 bsC0 [.type "ValueError", .type "Exception", .type "BaseException", .type "object"] true snC0 subC0 abC0 colC0 ddC0 m0C0 m1C0 m2C0 m3C0 m5C0 "ValueError.__new__"))
    (saC0 : PySem.W.findIn K (.ref C0) "__setattr__" = some (some (.builtin "object.__setattr__")))
    (iC0 : PySem.W.findIn K (.ref C0) "__init__" = some (some (.ref g0)))
    (tI0 : PySem.W.typeIn K (.ref g0) = some (.type "function"))
    (lC0 : K.lookup g0 = some ⟨ocC0, odC0, .func (PySem.W.fnOf "__init__" "BadCoder.__init__" (defArgs si_BadCoder) (defBody si_BadCoder) (defScope si_BadCoder) .none kVC0 dcC0 pmC0 anC0 cdC0 ctC0), slC0⟩)
    (cC0 : PySem.W.codeIn K cdC0 "BadCoder.__init__" = true)
    (kI0 : PySem.W.keepIn K (.ref g0) = true)
    (kC0 : PySem.W.keepIn K (.ref C0) = true)
    (eC0 : PySem.W.subIn K (.ref C0) (.type "BaseException") = some true)
    (tC0 : PySem.W.typeIn K (.ref C0) = some (.type "type"))
    (isC0 : PySem.W.isClsIn K C0 = true)
    (sC0 : PySem.W.subIn K (.ref C0) (.ref C0) = some true)
    (gaC0 : PySem.W.findIn K (.ref C0) "__getattribute__" = some (some (.builtin "BaseException.__getattribute__")))
    (ggC0 : PySem.W.findIn K (.ref C0) "__getattr__" = some none)
    (hdC0 : PySem.W.hasDictIn K C0 = true)
    (nC0part : PySem.W.findIn K (.ref C0) "part" = some none)
    (nC0number : PySem.W.findIn K (.ref C0) "number" = some none)
    (aC1 : PySem.W.nsIn K mainGlobals "BadPaper" = some (some (.ref C1)))
    (xC1 : K.lookup C1 = some (excClassObj nmC1 qC1 C1 N1 bsC1 [.type "ValueError", .type "Exception", .type "BaseException", .type "object"] true snC1 subC1 abC1 colC1 ddC1 m0C1 m1C1 m2C1 m3C1 m5C1 "ValueError.__new__"))
    (saC1 : PySem.W.findIn K (.ref C1) "__setattr__" = some (some (.builtin "object.__setattr__")))
    (iC1 : PySem.W.findIn K (.ref C1) "__init__" = some (some (.ref g1)))
    (tI1 : PySem.W.typeIn K (.ref g1) = some (.type "function"))
    (lC1 : K.lookup g1 = some ⟨ocC1, odC1, .func (PySem.W.fnOf "__init__" "BadPaper.__init__" (defArgs si_BadPaper) (defBody si_BadPaper) (defScope si_BadPaper) .none kVC1 dcC1 pmC1 anC1 cdC1 ctC1), slC1⟩)
    (cC1 : PySem.W.codeIn K cdC1 "BadPaper.__init__" = true)
    (kI1 : PySem.W.keepIn K (.ref g1) = true)
    (kC1 : PySem.W.keepIn K (.ref C1) = true)
    (eC1 : PySem.W.subIn K (.ref C1) (.type "BaseException") = some true)
    (tC1 : PySem.W.typeIn K (.ref C1) = some (.type "type"))
    (isC1 : PySem.W.isClsIn K C1 = true)
    (sC1 : PySem.W.subIn K (.ref C1) (.ref C1) = some true)
    (gaC1 : PySem.W.findIn K (.ref C1) "__getattribute__" = some (some (.builtin "BaseException.__getattribute__")))
    (ggC1 : PySem.W.findIn K (.ref C1) "__getattr__" = some none)
    (hdC1 : PySem.W.hasDictIn K C1 = true)
    (nC1part : PySem.W.findIn K (.ref C1) "part" = some none)
    (nC1number : PySem.W.findIn K (.ref C1) "number" = some none)
    (aC2 : PySem.W.nsIn K mainGlobals "OutOfPlace" = some (some (.ref C2)))
    (xC2 : K.lookup C2 = some (excClassObj nmC2 qC2 C2 N2 bsC2 [.type "ValueError", .type "Exception", .type "BaseException", .type "object"] true snC2 subC2 abC2 colC2 ddC2 m0C2 m1C2 m2C2 m3C2 m5C2 "ValueError.__new__"))
    (saC2 : PySem.W.findIn K (.ref C2) "__setattr__" = some (some (.builtin "object.__setattr__")))
    (iC2 : PySem.W.findIn K (.ref C2) "__init__" = some (some (.ref g2)))
    (tI2 : PySem.W.typeIn K (.ref g2) = some (.type "function"))
    (lC2 : K.lookup g2 = some ⟨ocC2, odC2, .func (PySem.W.fnOf "__init__" "OutOfPlace.__init__" (defArgs si_OutOfPlace) (defBody si_OutOfPlace) (defScope si_OutOfPlace) .none kVC2 dcC2 pmC2 anC2 cdC2 ctC2), slC2⟩)
    (cC2 : PySem.W.codeIn K cdC2 "OutOfPlace.__init__" = true)
    (kI2 : PySem.W.keepIn K (.ref g2) = true)
    (kC2 : PySem.W.keepIn K (.ref C2) = true)
    (eC2 : PySem.W.subIn K (.ref C2) (.type "BaseException") = some true)
    (tC2 : PySem.W.typeIn K (.ref C2) = some (.type "type"))
    (isC2 : PySem.W.isClsIn K C2 = true)
    (sC2 : PySem.W.subIn K (.ref C2) (.ref C2) = some true)
    (aC3 : PySem.W.nsIn K mainGlobals "TooGreat" = some (some (.ref C3)))
    (xC3 : K.lookup C3 = some (excClassObj nmC3 qC3 C3 N3 bsC3 oeTail true snC3 subC3 abC3 colC3 ddC3 m0C3 m1C3 m2C3 m3C3 m5C3 "OverflowError.__new__"))
    (saC3 : PySem.W.findIn K (.ref C3) "__setattr__" = some (some (.builtin "object.__setattr__")))
    (iC3 : PySem.W.findIn K (.ref C3) "__init__" = some (some (.ref g3)))
    (tI3 : PySem.W.typeIn K (.ref g3) = some (.type "function"))
    (lC3 : K.lookup g3 = some ⟨ocC3, odC3, .func (PySem.W.fnOf "__init__" "TooGreat.__init__" (defArgs si_TooGreat) (defBody si_TooGreat) (defScope si_TooGreat) .none kVC3 dcC3 pmC3 anC3 cdC3 ctC3), slC3⟩)
    (cC3 : PySem.W.codeIn K cdC3 "TooGreat.__init__" = true)
    (kI3 : PySem.W.keepIn K (.ref g3) = true)
    (kC3 : PySem.W.keepIn K (.ref C3) = true)
    (eC3 : PySem.W.subIn K (.ref C3) (.type "BaseException") = some true)
    (tC3 : PySem.W.typeIn K (.ref C3) = some (.type "type"))
    (isC3 : PySem.W.isClsIn K C3 = true)
    (sC3 : PySem.W.subIn K (.ref C3) (.ref C3) = some true)
    (gaC3 : PySem.W.findIn K (.ref C3) "__getattribute__" = some (some (.builtin "BaseException.__getattribute__")))
    (ggC3 : PySem.W.findIn K (.ref C3) "__getattr__" = some none)
    (hdC3 : PySem.W.hasDictIn K C3 = true)
    (nC3most : PySem.W.findIn K (.ref C3) "most" = some none)
    (sC0x1 : PySem.W.subIn K (.ref C0) (.ref C1) = some false)
    (sC0x2 : PySem.W.subIn K (.ref C0) (.ref C2) = some false)
    (sC0x3 : PySem.W.subIn K (.ref C0) (.ref C3) = some false)
    (sC1x0 : PySem.W.subIn K (.ref C1) (.ref C0) = some false)
    (sC1x2 : PySem.W.subIn K (.ref C1) (.ref C2) = some false)
    (sC1x3 : PySem.W.subIn K (.ref C1) (.ref C3) = some false)
    (sC2x0 : PySem.W.subIn K (.ref C2) (.ref C0) = some false)
    (sC2x1 : PySem.W.subIn K (.ref C2) (.ref C1) = some false)
    (sC2x3 : PySem.W.subIn K (.ref C2) (.ref C3) = some false)
    (sC3x0 : PySem.W.subIn K (.ref C3) (.ref C0) = some false)
    (sC3x1 : PySem.W.subIn K (.ref C3) (.ref C1) = some false)
    (sC3x2 : PySem.W.subIn K (.ref C3) (.ref C2) = some false)
    (vV : PySem.W.findCls K (.type "ValueError") (.type "type") "__init__" = some (.val (.builtin "ValueError.__init__")))
    (zV : PySem.W.nsIn K mainGlobals "ValueError" = some none)
    (cFORMS : PySem.W.nsIn K mainGlobals "FORMS" = some (some (.ref qFORMS)))
    (lFORMS : K.lookup qFORMS = some ⟨.type "tuple", dFORMS, .seq #[.ref qFORMS0, .ref qFORMS1] nFORMS, sFORMS⟩)
    (lFORMS0 : K.lookup qFORMS0 = some ⟨.type "tuple", dFORMS0, .seq #[.str "alike" tFORMS0x0, .int 2 tFORMS0x1] nFORMS0, sFORMS0⟩)
    (lFORMS1 : K.lookup qFORMS1 = some ⟨.type "tuple", dFORMS1, .seq #[.str "apart" tFORMS1x0, .int 2 tFORMS1x1] nFORMS1, sFORMS1⟩) :
    ∃ fd : FuncData, (∀ (s : Shared) (v : Value), BindsTo s fd ⟨[v], []⟩ [("script", v)]) ∧ ∀ base : Heap, K.In base → base.Ns mainGlobals mg → FnG l.prog w K mg base 16 fa fd ["script"] (sp_law (K := K)) := by
  have e := hfa.symm.trans (PySem.W.mg_of X G a53)
  cases e
  have F0 := fun_mk (st := s_is_integer) l0 c0 k0
  have B0 := F0.binds (ps := ["thing"]) fun _ _ _ _ _ _ us hl => match us, hl with | [_], _ => rfl
  have F1 := fun_mk (st := s_is_between) l1 c1 k1
  have B1 := F1.binds (ps := ["thing", "least", "most"]) fun _ _ _ _ _ _ us hl => match us, hl with | [_, _, _], _ => rfl
  have F2 := fun_mk (st := s_is_pair) l2 c2 k2
  have B2 := F2.binds (ps := ["thing"]) fun _ _ _ _ _ _ us hl => match us, hl with | [_], _ => rfl
  have F3 := fun_mk (st := s_is_code) l3 c3 k3
  have B3 := F3.binds (ps := ["coder", "thing"]) fun _ _ _ _ _ _ us hl => match us, hl with | [_, _], _ => rfl
  have F4 := fun_mk (st := s_is_tuple_of_codes) l4 c4 k4
  have B4 := F4.binds (ps := ["coder", "thing"]) fun _ _ _ _ _ _ us hl => match us, hl with | [_, _], _ => rfl
  have F5 := fun_mk (st := s_is_place) l5 c5 k5
  have B5 := F5.binds (ps := ["coder", "thing"]) fun _ _ _ _ _ _ us hl => match us, hl with | [_, _], _ => rfl
  have F6 := fun_mk (st := s_is_state) l6 c6 k6
  have B6 := F6.binds (ps := ["coder", "thing"]) fun _ _ _ _ _ _ us hl => match us, hl with | [_, _], _ => rfl
  have F7 := fun_mk (st := s_need_state) l7 c7 k7
  have B7 := F7.binds (ps := ["coder", "thing"]) fun _ _ _ _ _ _ us hl => match us, hl with | [_, _], _ => rfl
  have F8 := fun_mk (st := s_need_few_states) l8 c8 k8
  have B8 := F8.binds (ps := ["coder", "most"]) fun _ _ _ _ _ _ us hl => match us, hl with | [_, _], _ => rfl
  have F9 := fun_mk (st := s_all_states) l9 c9 k9
  have B9 := F9.binds (ps := ["coder"]) fun _ _ _ _ _ _ us hl => match us, hl with | [_], _ => rfl
  have F10 := fun_mk (st := s_rounded) l10 c10 k10
  have B10 := F10.binds (ps := ["number", "divisor"]) fun _ _ _ _ _ _ us hl => match us, hl with | [_, _], _ => rfl
  have F11 := fun_mk (st := s_limited) l11 c11 k11
  have B11 := F11.binds (ps := ["number", "least", "most"]) fun _ _ _ _ _ _ us hl => match us, hl with | [_, _, _], _ => rfl
  have F12 := fun_mk (st := s_change_at) l12 c12 k12
  have B12 := F12.binds (ps := ["coder", "code", "place"]) fun _ _ _ _ _ _ us hl => match us, hl with | [_, _, _], _ => rfl
  have F13 := fun_mk (st := s_faded) l13 c13 k13
  have B13 := F13.binds (ps := ["level", "fade"]) fun _ _ _ _ _ _ us hl => match us, hl with | [_, _], _ => rfl
  have F14 := fun_mk (st := s_state_behind) l14 c14 k14
  have B14 := F14.binds (ps := ["coder", "state", "code"]) fun _ _ _ _ _ _ us hl => match us, hl with | [_, _, _], _ => rfl
  have F15 := fun_mk (st := s_state_behind_row) l15 c15 k15
  have B15 := F15.binds (ps := ["coder", "row", "state"]) fun _ _ _ _ _ _ us hl => match us, hl with | [_, _, _], _ => rfl
  have F16 := fun_mk (st := s_need_coder) l16 c16 k16
  have B16 := F16.binds (ps := ["thing"]) fun _ _ _ _ _ _ us hl => match us, hl with | [_], _ => rfl
  have F17 := fun_mk (st := s_first_fault) l17 c17 k17
  have B17 := F17.binds (ps := ["thing"]) fun _ _ _ _ _ _ us hl => match us, hl with | [_], _ => rfl
  have F18 := fun_mk (st := s_fault_of_steps) l18 c18 k18
  have B18 := F18.binds (ps := ["steps"]) fun _ _ _ _ _ _ us hl => match us, hl with | [_], _ => rfl
  have F19 := fun_mk (st := s_fault_of_moves) l19 c19 k19
  have B19 := F19.binds (ps := ["moves"]) fun _ _ _ _ _ _ us hl => match us, hl with | [_], _ => rfl
  have F20 := fun_mk (st := s_is_tuple_of) l20 c20 k20
  have B20 := F20.binds (ps := ["thing", "least", "most"]) fun _ _ _ _ _ _ us hl => match us, hl with | [_, _, _], _ => rfl
  have F21 := fun_mk (st := s_is_move) l21 c21 k21
  have B21 := F21.binds (ps := ["thing"]) fun _ _ _ _ _ _ us hl => match us, hl with | [_], _ => rfl
  have F22 := fun_mk (st := s_is_fade) l22 c22 k22
  have B22 := F22.binds (ps := ["thing"]) fun _ _ _ _ _ _ us hl => match us, hl with | [_], _ => rfl
  have F23 := fun_mk (st := s_row_along) l23 c23 k23
  have B23 := F23.binds (ps := ["leaders", "thing"]) fun _ _ _ _ _ _ us hl => match us, hl with | [_, _], _ => rfl
  have F24 := fun_mk (st := s_led_states) l24 c24 k24
  have B24 := F24.binds (ps := ["coder"]) fun _ _ _ _ _ _ us hl => match us, hl with | [_], _ => rfl
  have F25 := fun_mk (st := s_need_form) l25 c25 k25
  have B25 := F25.binds (ps := ["paper", "forms"]) fun _ _ _ _ _ _ us hl => match us, hl with | [_, _], _ => rfl
  have F26 := fun_mk (st := s_alike) l26 c26 k26
  have B26 := F26.binds (ps := ["coder", "other", "one", "two"]) fun _ _ _ _ _ _ us hl => match us, hl with | [_, _, _, _], _ => rfl
  have F27 := fun_mk (st := s_check_alike) l27 c27 k27
  have B27 := F27.binds (ps := ["coder", "other", "one", "two", "paper"]) fun _ _ _ _ _ _ us hl => match us, hl with | [_, _, _, _, _], _ => rfl
  have F28 := fun_mk (st := s_need_all) l28 c28 k28
  have B28 := F28.binds (ps := ["coder", "other", "one", "two"]) fun _ _ _ _ _ _ us hl => match us, hl with | [_, _, _, _], _ => rfl
  have F29 := fun_mk (st := s_pairs_behind) l29 c29 k29
  have B29 := F29.binds (ps := ["led", "led_other", "pair"]) fun _ _ _ _ _ _ us hl => match us, hl with | [_, _, _], _ => rfl
  have F30 := fun_mk (st := s_is_unlike) l30 c30 k30
  have B30 := F30.binds (ps := ["pair"]) fun _ _ _ _ _ _ us hl => match us, hl with | [_], _ => rfl
  have F31 := fun_mk (st := s_check_couples) l31 c31 k31
  have B31 := F31.binds (ps := ["coder", "other", "pair", "couples"]) fun _ _ _ _ _ _ us hl => match us, hl with | [_, _, _, _], _ => rfl
  have F32 := fun_mk (st := s_is_pair_of_states) l32 c32 k32
  have B32 := F32.binds (ps := ["coder", "other", "thing"]) fun _ _ _ _ _ _ us hl => match us, hl with | [_, _, _], _ => rfl
  have F33 := fun_mk (st := s_check_row) l33 c33 k33
  have B33 := F33.binds (ps := ["coder", "other", "pair", "row"]) fun _ _ _ _ _ _ us hl => match us, hl with | [_, _, _, _], _ => rfl
  have F34 := fun_mk (st := s_law_begun) l34 c34 k34
  have B34 := F34.binds (ps := ["script"]) fun _ _ _ _ _ _ us hl => match us, hl with | [_], _ => rfl
  have F35 := fun_mk (st := s_law_next) l35 c35 k35
  have B35 := F35.binds (ps := ["m", "many"]) fun _ _ _ _ _ _ us hl => match us, hl with | [_, _], _ => rfl
  have F36 := fun_mk (st := s_law_coder) l36 c36 k36
  have B36 := F36.binds (ps := ["m", "wide", "places", "codes"]) fun _ _ _ _ _ _ us hl => match us, hl with | [_, _, _, _], _ => rfl
  have F37 := fun_mk (st := s_law_parted) l37 c37 k37
  have B37 := F37.binds (ps := ["number", "by"]) fun _ _ _ _ _ _ us hl => match us, hl with | [_, _], _ => rfl
  have F38 := fun_mk (st := s_law_limited) l38 c38 k38
  have B38 := F38.binds (ps := ["number", "least", "most"]) fun _ _ _ _ _ _ us hl => match us, hl with | [_, _, _], _ => rfl
  have F39 := fun_mk (st := s_law_led) l39 c39 k39
  have B39 := F39.binds (ps := ["coder", "here", "code"]) fun _ _ _ _ _ _ us hl => match us, hl with | [_, _, _], _ => rfl
  have F40 := fun_mk (st := s_law_walked) l40 c40 k40
  have B40 := F40.binds (ps := ["coder", "here", "row"]) fun _ _ _ _ _ _ us hl => match us, hl with | [_, _, _], _ => rfl
  have F41 := fun_mk (st := s_law_states) l41 c41 k41
  have B41 := F41.binds (ps := ["coder"]) fun _ _ _ _ _ _ us hl => match us, hl with | [_], _ => rfl
  have F42 := fun_mk (st := s_law_some_state) l42 c42 k42
  have B42 := F42.binds (ps := ["m", "coder"]) fun _ _ _ _ _ _ us hl => match us, hl with | [_, _], _ => rfl
  have F43 := fun_mk (st := s_law_is_whole) l43 c43 k43
  have B43 := F43.binds (ps := ["thing", "least", "most"]) fun _ _ _ _ _ _ us hl => match us, hl with | [_, _, _], _ => rfl
  have F44 := fun_mk (st := s_law_is_state) l44 c44 k44
  have B44 := F44.binds (ps := ["coder", "thing"]) fun _ _ _ _ _ _ us hl => match us, hl with | [_, _], _ => rfl
  have F45 := fun_mk (st := s_law_are_codes) l45 c45 k45
  have B45 := F45.binds (ps := ["coder", "thing"]) fun _ _ _ _ _ _ us hl => match us, hl with | [_, _], _ => rfl
  have F46 := fun_mk (st := s_law_is_pair) l46 c46 k46
  have B46 := F46.binds (ps := ["coder", "other", "thing"]) fun _ _ _ _ _ _ us hl => match us, hl with | [_, _, _], _ => rfl
  have F47 := fun_mk (st := s_law_pairs_fault) l47 c47 k47
  have B47 := F47.binds (ps := ["coder", "other", "pair", "couples"]) fun _ _ _ _ _ _ us hl => match us, hl with | [_, _, _, _], _ => rfl
  have F48 := fun_mk (st := s_law_due) l48 c48 k48
  have B48 := F48.binds (ps := ["coder", "other", "one", "two", "paper"]) fun _ _ _ _ _ _ us hl => match us, hl with | [_, _, _, _, _], _ => rfl
  have F49 := fun_mk (st := s_law_outcome) l49 c49 k49
  have B49 := F49.binds (ps := ["coder", "other", "one", "two", "paper"]) fun _ _ _ _ _ _ us hl => match us, hl with | [_, _, _, _, _], _ => rfl
  have F50 := fun_mk (st := s_law_compared) l50 c50 k50
  have B50 := F50.binds (ps := ["coder", "other", "one", "two"]) fun _ _ _ _ _ _ us hl => match us, hl with | [_, _, _, _], _ => rfl
  have F51 := fun_mk (st := s_law_bent) l51 c51 k51
  have B51 := F51.binds (ps := ["m", "coder", "other", "paper"]) fun _ _ _ _ _ _ us hl => match us, hl with | [_, _, _, _], _ => rfl
  have F52 := fun_mk (st := s_law_wrong_right) l52 c52 k52
  have B52 := F52.binds (ps := ["m", "coder", "one"]) fun _ _ _ _ _ _ us hl => match us, hl with | [_, _, _], _ => rfl
  have F53 := fun_mk (st := s_law) l53 c53 k53
  have B53 := F53.binds (ps := ["script"]) fun _ _ _ _ _ _ us hl => match us, hl with | [_], _ => rfl
  have FI0 := fun_mk (st := si_BadCoder) lC0 cC0 kI0
  have BI0 := FI0.binds (ps := ["self", "part", "number"]) fun _ _ _ _ _ _ us hl => match us, hl with | [_, _, _], _ => rfl
  have FI1 := fun_mk (st := si_BadPaper) lC1 cC1 kI1
  have BI1 := FI1.binds (ps := ["self", "part", "number"]) fun _ _ _ _ _ _ us hl => match us, hl with | [_, _, _], _ => rfl
  have FI2 := fun_mk (st := si_OutOfPlace) lC2 cC2 kI2
  have BI2 := FI2.binds (ps := ["self", "text"]) fun _ _ _ _ _ _ us hl => match us, hl with | [_, _], _ => rfl
  have FI3 := fun_mk (st := si_TooGreat) lC3 cC3 kI3
  have BI3 := FI3.binds (ps := ["self", "most"]) fun _ _ _ _ _ _ us hl => match us, hl with | [_, _], _ => rfl
  let T : Txt K mg := {
    f_is_integer := f0, d_is_integer := _, F_is_integer := F0, b_is_integer := B0, g_is_integer := PySem.W.mg_of X G a0,
    f_is_between := f1, d_is_between := _, F_is_between := F1, b_is_between := B1, g_is_between := PySem.W.mg_of X G a1,
    f_is_pair := f2, d_is_pair := _, F_is_pair := F2, b_is_pair := B2, g_is_pair := PySem.W.mg_of X G a2,
    f_is_code := f3, d_is_code := _, F_is_code := F3, b_is_code := B3, g_is_code := PySem.W.mg_of X G a3,
    f_is_tuple_of_codes := f4, d_is_tuple_of_codes := _, F_is_tuple_of_codes := F4, b_is_tuple_of_codes := B4, g_is_tuple_of_codes := PySem.W.mg_of X G a4,
    f_is_place := f5, d_is_place := _, F_is_place := F5, b_is_place := B5, g_is_place := PySem.W.mg_of X G a5,
    f_is_state := f6, d_is_state := _, F_is_state := F6, b_is_state := B6, g_is_state := PySem.W.mg_of X G a6,
    f_need_state := f7, d_need_state := _, F_need_state := F7, b_need_state := B7, g_need_state := PySem.W.mg_of X G a7,
    f_need_few_states := f8, d_need_few_states := _, F_need_few_states := F8, b_need_few_states := B8, g_need_few_states := PySem.W.mg_of X G a8,
    f_all_states := f9, d_all_states := _, F_all_states := F9, b_all_states := B9, g_all_states := PySem.W.mg_of X G a9,
    f_rounded := f10, d_rounded := _, F_rounded := F10, b_rounded := B10, g_rounded := PySem.W.mg_of X G a10,
    f_limited := f11, d_limited := _, F_limited := F11, b_limited := B11, g_limited := PySem.W.mg_of X G a11,
    f_change_at := f12, d_change_at := _, F_change_at := F12, b_change_at := B12, g_change_at := PySem.W.mg_of X G a12,
    f_faded := f13, d_faded := _, F_faded := F13, b_faded := B13, g_faded := PySem.W.mg_of X G a13,
    f_state_behind := f14, d_state_behind := _, F_state_behind := F14, b_state_behind := B14, g_state_behind := PySem.W.mg_of X G a14,
    f_state_behind_row := f15, d_state_behind_row := _, F_state_behind_row := F15, b_state_behind_row := B15, g_state_behind_row := PySem.W.mg_of X G a15,
    f_need_coder := f16, d_need_coder := _, F_need_coder := F16, b_need_coder := B16, g_need_coder := PySem.W.mg_of X G a16,
    f__first_fault := f17, d__first_fault := _, F__first_fault := F17, b__first_fault := B17, g__first_fault := PySem.W.mg_of X G a17,
    f__fault_of_steps := f18, d__fault_of_steps := _, F__fault_of_steps := F18, b__fault_of_steps := B18, g__fault_of_steps := PySem.W.mg_of X G a18,
    f__fault_of_moves := f19, d__fault_of_moves := _, F__fault_of_moves := F19, b__fault_of_moves := B19, g__fault_of_moves := PySem.W.mg_of X G a19,
    f__is_tuple_of := f20, d__is_tuple_of := _, F__is_tuple_of := F20, b__is_tuple_of := B20, g__is_tuple_of := PySem.W.mg_of X G a20,
    f__is_move := f21, d__is_move := _, F__is_move := F21, b__is_move := B21, g__is_move := PySem.W.mg_of X G a21,
    f__is_fade := f22, d__is_fade := _, F__is_fade := F22, b__is_fade := B22, g__is_fade := PySem.W.mg_of X G a22,
    f_row_along := f23, d_row_along := _, F_row_along := F23, b_row_along := B23, g_row_along := PySem.W.mg_of X G a23,
    f_led_states := f24, d_led_states := _, F_led_states := F24, b_led_states := B24, g_led_states := PySem.W.mg_of X G a24,
    f_need_form := f25, d_need_form := _, F_need_form := F25, b_need_form := B25, g_need_form := PySem.W.mg_of X G a25,
    f_alike := f26, d_alike := _, F_alike := F26, b_alike := B26, g_alike := PySem.W.mg_of X G a26,
    f_check_alike := f27, d_check_alike := _, F_check_alike := F27, b_check_alike := B27, g_check_alike := PySem.W.mg_of X G a27,
    f__need_all := f28, d__need_all := _, F__need_all := F28, b__need_all := B28, g__need_all := PySem.W.mg_of X G a28,
    f__pairs_behind := f29, d__pairs_behind := _, F__pairs_behind := F29, b__pairs_behind := B29, g__pairs_behind := PySem.W.mg_of X G a29,
    f__is_unlike := f30, d__is_unlike := _, F__is_unlike := F30, b__is_unlike := B30, g__is_unlike := PySem.W.mg_of X G a30,
    f__check_couples := f31, d__check_couples := _, F__check_couples := F31, b__check_couples := B31, g__check_couples := PySem.W.mg_of X G a31,
    f__is_pair_of_states := f32, d__is_pair_of_states := _, F__is_pair_of_states := F32, b__is_pair_of_states := B32, g__is_pair_of_states := PySem.W.mg_of X G a32,
    f__check_row := f33, d__check_row := _, F__check_row := F33, b__check_row := B33, g__check_row := PySem.W.mg_of X G a33,
    f__law_begun := f34, d__law_begun := _, F__law_begun := F34, b__law_begun := B34, g__law_begun := PySem.W.mg_of X G a34,
    f__law_next := f35, d__law_next := _, F__law_next := F35, b__law_next := B35, g__law_next := PySem.W.mg_of X G a35,
    f__law_coder := f36, d__law_coder := _, F__law_coder := F36, b__law_coder := B36, g__law_coder := PySem.W.mg_of X G a36,
    f__law_parted := f37, d__law_parted := _, F__law_parted := F37, b__law_parted := B37, g__law_parted := PySem.W.mg_of X G a37,
    f__law_limited := f38, d__law_limited := _, F__law_limited := F38, b__law_limited := B38, g__law_limited := PySem.W.mg_of X G a38,
    f__law_led := f39, d__law_led := _, F__law_led := F39, b__law_led := B39, g__law_led := PySem.W.mg_of X G a39,
    f__law_walked := f40, d__law_walked := _, F__law_walked := F40, b__law_walked := B40, g__law_walked := PySem.W.mg_of X G a40,
    f__law_states := f41, d__law_states := _, F__law_states := F41, b__law_states := B41, g__law_states := PySem.W.mg_of X G a41,
    f__law_some_state := f42, d__law_some_state := _, F__law_some_state := F42, b__law_some_state := B42, g__law_some_state := PySem.W.mg_of X G a42,
    f__law_is_whole := f43, d__law_is_whole := _, F__law_is_whole := F43, b__law_is_whole := B43, g__law_is_whole := PySem.W.mg_of X G a43,
    f__law_is_state := f44, d__law_is_state := _, F__law_is_state := F44, b__law_is_state := B44, g__law_is_state := PySem.W.mg_of X G a44,
    f__law_are_codes := f45, d__law_are_codes := _, F__law_are_codes := F45, b__law_are_codes := B45, g__law_are_codes := PySem.W.mg_of X G a45,
    f__law_is_pair := f46, d__law_is_pair := _, F__law_is_pair := F46, b__law_is_pair := B46, g__law_is_pair := PySem.W.mg_of X G a46,
    f__law_pairs_fault := f47, d__law_pairs_fault := _, F__law_pairs_fault := F47, b__law_pairs_fault := B47, g__law_pairs_fault := PySem.W.mg_of X G a47,
    f__law_due := f48, d__law_due := _, F__law_due := F48, b__law_due := B48, g__law_due := PySem.W.mg_of X G a48,
    f__law_outcome := f49, d__law_outcome := _, F__law_outcome := F49, b__law_outcome := B49, g__law_outcome := PySem.W.mg_of X G a49,
    f__law_compared := f50, d__law_compared := _, F__law_compared := F50, b__law_compared := B50, g__law_compared := PySem.W.mg_of X G a50,
    f__law_bent := f51, d__law_bent := _, F__law_bent := F51, b__law_bent := B51, g__law_bent := PySem.W.mg_of X G a51,
    f__law_wrong_right := f52, d__law_wrong_right := _, F__law_wrong_right := F52, b__law_wrong_right := B52, g__law_wrong_right := PySem.W.mg_of X G a52,
    f_law := fa, d_law := _, F_law := F53, b_law := B53, g_law := hfa,
    z_all := PySem.W.mg_none_of X G z_all,
    z_bool := PySem.W.mg_none_of X G z_bool,
    z_enumerate := PySem.W.mg_none_of X G z_enumerate,
    z_int := PySem.W.mg_none_of X G z_int,
    z_isinstance := PySem.W.mg_none_of X G z_isinstance,
    z_len := PySem.W.mg_none_of X G z_len,
    z_list := PySem.W.mg_none_of X G z_list,
    z_max := PySem.W.mg_none_of X G z_max,
    z_min := PySem.W.mg_none_of X G z_min,
    z_range := PySem.W.mg_none_of X G z_range,
    z_repr := PySem.W.mg_none_of X G z_repr,
    z_sorted := PySem.W.mg_none_of X G z_sorted,
    z_str := PySem.W.mg_none_of X G z_str,
    z_tuple := PySem.W.mg_none_of X G z_tuple,
    z_zip := PySem.W.mg_none_of X G z_zip,
    x_BadCoder := ⟨gaC0, ggC0, eC0, hdC0⟩, n_BadCoder_part := nC0part, n_BadCoder_number := nC0number, e_BadCoder_BadPaper := exm_of eC1 isC1 tC1 sC0x1, e_BadCoder_OutOfPlace := exm_of eC2 isC2 tC2 sC0x2, e_BadCoder_TooGreat := exm_of eC3 isC3 tC3 sC0x3,
    C_BadCoder := C0, fi_BadCoder := g0, di_BadCoder := _, g_BadCoder := PySem.W.mg_of X G aC0, o_BadCoder := ⟨⟨_, _, _, _, _, _, _, _, _, _, _, _, _, _, _, xC0, by decide +kernel⟩, saC0, eC0, tC0, kC0⟩, i_BadCoder := iC0, t_BadCoder := tI0, Fi_BadCoder := FI0, bi_BadCoder := BI0, e_BadCoder := exm_of eC0 isC0 tC0 sC0,
    x_BadPaper := ⟨gaC1, ggC1, eC1, hdC1⟩, n_BadPaper_part := nC1part, n_BadPaper_number := nC1number, e_BadPaper_BadCoder := exm_of eC0 isC0 tC0 sC1x0, e_BadPaper_OutOfPlace := exm_of eC2 isC2 tC2 sC1x2, e_BadPaper_TooGreat := exm_of eC3 isC3 tC3 sC1x3,
    C_BadPaper := C1, fi_BadPaper := g1, di_BadPaper := _, g_BadPaper := PySem.W.mg_of X G aC1, o_BadPaper := ⟨⟨_, _, _, _, _, _, _, _, _, _, _, _, _, _, _, xC1, by decide +kernel⟩, saC1, eC1, tC1, kC1⟩, i_BadPaper := iC1, t_BadPaper := tI1, Fi_BadPaper := FI1, bi_BadPaper := BI1, e_BadPaper := exm_of eC1 isC1 tC1 sC1,
    e_OutOfPlace_BadCoder := exm_of eC0 isC0 tC0 sC2x0, e_OutOfPlace_BadPaper := exm_of eC1 isC1 tC1 sC2x1, e_OutOfPlace_TooGreat := exm_of eC3 isC3 tC3 sC2x3,
    C_OutOfPlace := C2, fi_OutOfPlace := g2, di_OutOfPlace := _, g_OutOfPlace := PySem.W.mg_of X G aC2, o_OutOfPlace := ⟨⟨_, _, _, _, _, _, _, _, _, _, _, _, _, _, _, xC2, by decide +kernel⟩, saC2, eC2, tC2, kC2⟩, i_OutOfPlace := iC2, t_OutOfPlace := tI2, Fi_OutOfPlace := FI2, bi_OutOfPlace := BI2, e_OutOfPlace := exm_of eC2 isC2 tC2 sC2,
    x_TooGreat := ⟨gaC3, ggC3, eC3, hdC3⟩, n_TooGreat_most := nC3most, e_TooGreat_BadCoder := exm_of eC0 isC0 tC0 sC3x0, e_TooGreat_BadPaper := exm_of eC1 isC1 tC1 sC3x1, e_TooGreat_OutOfPlace := exm_of eC2 isC2 tC2 sC3x2,
    C_TooGreat := C3, fi_TooGreat := g3, di_TooGreat := _, g_TooGreat := PySem.W.mg_of X G aC3, o_TooGreat := ⟨⟨_, _, _, _, _, _, _, _, _, _, _, _, _, _, xC3⟩, saC3, eC3, tC3, kC3⟩, i_TooGreat := iC3, t_TooGreat := tI3, Fi_TooGreat := FI3, bi_TooGreat := BI3, e_TooGreat := exm_of eC3 isC3 tC3 sC3,
    vV := vV, zV := PySem.W.mg_none_of X G zV,
    q_FORMS := qFORMS, qs_FORMS := fun H => .tup (xs := [.ref qFORMS0, .ref qFORMS1]) (.inr ⟨_, #[.ref qFORMS0, .ref qFORMS1], _, lFORMS, rfl, rfl, (by show 2 ≤ sizeLine; decide), (.cons rfl (.cons rfl .nil))⟩) (.cons (.tup (xs := [.str "alike", .int 2]) (.inr ⟨_, #[.str "alike" tFORMS0x0, .int 2 tFORMS0x1], _, lFORMS0, rfl, rfl, (by show 2 ≤ sizeLine; decide), (.cons ⟨_, rfl⟩ (.cons ⟨_, rfl⟩ .nil))⟩) (.cons (.str _) (.cons (.int _) .nil))) (.cons (.tup (xs := [.str "apart", .int 2]) (.inr ⟨_, #[.str "apart" tFORMS1x0, .int 2 tFORMS1x1], _, lFORMS1, rfl, rfl, (by show 2 ≤ sizeLine; decide), (.cons ⟨_, rfl⟩ (.cons ⟨_, rfl⟩ .nil))⟩) (.cons (.str _) (.cons (.int _) .nil))) .nil)), g_FORMS := PySem.W.mg_of X G cFORMS }
  exact ⟨_, fun s v => .of_eq rfl, fun base _ _ => ok_law T⟩
end My
open PySem PySem.W PyProof.Rows
set_option maxRecDepth 100000 in
set_option maxHeartbeats 0 in
theorem PySem.Challenge.cw_stepsound_k16_whole_alike_papers_judged_holds : PySem.Challenge.rw_stepsound_k16_whole_alike_papers_judged.Holds := by
  w_on; o_law; k_head; (case hw => w_witness2)
  k_fill
  refine My.walk_ofG (l := PySem.Challenge.rw_stepsound_k16_whole_alike_papers_judged) (n := 63) (k := 16) (x := "script") (sp := fun K => My.sp_law (K := K)) rfl (by decide) rfl ⟨rfl, by decide, by decide⟩ (fun w h Y => PySem.W.kIn_of Y) ?F (fun K H a ns hl _ hS => ⟨a, ns, rfl, hS, hl, fun _ => rfl⟩)
  case F =>
    intro w mg fa h KX G hmg
    refine' My.all_mk KX G hmg ?a0 ?l0 ?c0 ?k0 ?a1 ?l1 ?c1 ?k1 ?a2 ?l2 ?c2 ?k2 ?a3 ?l3 ?c3 ?k3 ?a4 ?l4 ?c4 ?k4 ?a5 ?l5 ?c5 ?k5 ?a6 ?l6 ?c6 ?k6 ?a7 ?l7 ?c7 ?k7 ?a8 ?l8 ?c8 ?k8 ?a9 ?l9 ?c9 ?k9 ?a10 ?l10 ?c10 ?k10 ?a11 ?l11 ?c11 ?k11 ?a12 ?l12 ?c12 ?k12 ?a13 ?l13 ?c13 ?k13 ?a14 ?l14 ?c14 ?k14 ?a15 ?l15 ?c15 ?k15 ?a16 ?l16 ?c16 ?k16 ?a17 ?l17 ?c17 ?k17 ?a18 ?l18 ?c18 ?k18 ?a19 ?l19 ?c19 ?k19 ?a20 ?l20 ?c20 ?k20 ?a21 ?l21 ?c21 ?k21 ?a22 ?l22 ?c22 ?k22 ?a23 ?l23 ?c23 ?k23 ?a24 ?l24 ?c24 ?k24 ?a25 ?l25 ?c25 ?k25 ?a26 ?l26 ?c26 ?k26 ?a27 ?l27 ?c27 ?k27 ?a28 ?l28 ?c28 ?k28 ?a29 ?l29 ?c29 ?k29 ?a30 ?l30 ?c30 ?k30 ?a31 ?l31 ?c31 ?k31 ?a32 ?l32 ?c32 ?k32 ?a33 ?l33 ?c33 ?k33 ?a34 ?l34 ?c34 ?k34 ?a35 ?l35 ?c35 ?k35 ?a36 ?l36 ?c36 ?k36 ?a37 ?l37 ?c37 ?k37 ?a38 ?l38 ?c38 ?k38 ?a39 ?l39 ?c39 ?k39 ?a40 ?l40 ?c40 ?k40 ?a41 ?l41 ?c41 ?k41 ?a42 ?l42 ?c42 ?k42 ?a43 ?l43 ?c43 ?k43 ?a44 ?l44 ?c44 ?k44 ?a45 ?l45 ?c45 ?k45 ?a46 ?l46 ?c46 ?k46 ?a47 ?l47 ?c47 ?k47 ?a48 ?l48 ?c48 ?k48 ?a49 ?l49 ?c49 ?k49 ?a50 ?l50 ?c50 ?k50 ?a51 ?l51 ?c51 ?k51 ?a52 ?l52 ?c52 ?k52 ?a53 ?l53 ?c53 ?k53 ?z_all ?z_bool ?z_enumerate ?z_int ?z_isinstance ?z_len ?z_list ?z_max ?z_min ?z_range ?z_repr ?z_sorted ?z_str ?z_tuple ?z_zip ?aC0 ?xC0 ?saC0 ?iC0 ?tI0 ?lC0 ?cC0 ?kI0 ?kC0 ?eC0 ?tC0 ?isC0 ?sC0 ?gaC0 ?ggC0 ?hdC0 ?nC0part ?nC0number ?aC1 ?xC1 ?saC1 ?iC1 ?tI1 ?lC1 ?cC1 ?kI1 ?kC1 ?eC1 ?tC1 ?isC1 ?sC1 ?gaC1 ?ggC1 ?hdC1 ?nC1part ?nC1number ?aC2 ?xC2 ?saC2 ?iC2 ?tI2 ?lC2 ?cC2 ?kI2 ?kC2 ?eC2 ?tC2 ?isC2 ?sC2 ?aC3 ?xC3 ?saC3 ?iC3 ?tI3 ?lC3 ?cC3 ?kI3 ?kC3 ?eC3 ?tC3 ?isC3 ?sC3 ?gaC3 ?ggC3 ?hdC3 ?nC3most ?sC0x1 ?sC0x2 ?sC0x3 ?sC1x0 ?sC1x2 ?sC1x3 ?sC2x0 ?sC2x1 ?sC2x3 ?sC3x0 ?sC3x1 ?sC3x2 ?vV ?zV ?cFORMS ?lFORMS ?lFORMS0 ?lFORMS1
    (case a0 => k_is)
    (case l0 => k_is)
    (case c0 => k_is)
    (case k0 => k_is)
    (case a1 => k_is)
    (case l1 => k_is)
    (case c1 => k_is)
    (case k1 => k_is)
    (case a2 => k_is)
    (case l2 => k_is)
    (case c2 => k_is)
    (case k2 => k_is)
    (case a3 => k_is)
    (case l3 => k_is)
    (case c3 => k_is)
    (case k3 => k_is)
    (case a4 => k_is)
    (case l4 => k_is)
    (case c4 => k_is)
    (case k4 => k_is)
    (case a5 => k_is)
    (case l5 => k_is)
    (case c5 => k_is)
    (case k5 => k_is)
    (case a6 => k_is)
    (case l6 => k_is)
    (case c6 => k_is)
    (case k6 => k_is)
    (case a7 => k_is)
    (case l7 => k_is)
    (case c7 => k_is)
    (case k7 => k_is)
    (case a8 => k_is)
    (case l8 => k_is)
    (case c8 => k_is)
    (case k8 => k_is)
    (case a9 => k_is)
    (case l9 => k_is)
    (case c9 => k_is)
    (case k9 => k_is)
    (case a10 => k_is)
    (case l10 => k_is)
    (case c10 => k_is)
    (case k10 => k_is)
    (case a11 => k_is)
    (case l11 => k_is)
    (case c11 => k_is)
    (case k11 => k_is)
    (case a12 => k_is)
    (case l12 => k_is)
    (case c12 => k_is)
    (case k12 => k_is)
    (case a13 => k_is)
    (case l13 => k_is)
    (case c13 => k_is)
    (case k13 => k_is)
    (case a14 => k_is)
    (case l14 => k_is)
    (case c14 => k_is)
    (case k14 => k_is)
    (case a15 => k_is)
    (case l15 => k_is)
    (case c15 => k_is)
    (case k15 => k_is)
    (case a16 => k_is)
    (case l16 => k_is)
    (case c16 => k_is)
    (case k16 => k_is)
    (case a17 => k_is)
    (case l17 => k_is)
    (case c17 => k_is)
    (case k17 => k_is)
    (case a18 => k_is)
    (case l18 => k_is)
    (case c18 => k_is)
    (case k18 => k_is)
    (case a19 => k_is)
    (case l19 => k_is)
    (case c19 => k_is)
    (case k19 => k_is)
    (case a20 => k_is)
    (case l20 => k_is)
    (case c20 => k_is)
    (case k20 => k_is)
    (case a21 => k_is)
    (case l21 => k_is)
    (case c21 => k_is)
    (case k21 => k_is)
    (case a22 => k_is)
    (case l22 => k_is)
    (case c22 => k_is)
    (case k22 => k_is)
    (case a23 => k_is)
    (case l23 => k_is)
    (case c23 => k_is)
    (case k23 => k_is)
    (case a24 => k_is)
    (case l24 => k_is)
    (case c24 => k_is)
    (case k24 => k_is)
    (case a25 => k_is)
    (case l25 => k_is)
    (case c25 => k_is)
    (case k25 => k_is)
    (case a26 => k_is)
    (case l26 => k_is)
    (case c26 => k_is)
    (case k26 => k_is)
    (case a27 => k_is)
    (case l27 => k_is)
    (case c27 => k_is)
    (case k27 => k_is)
    (case a28 => k_is)
    (case l28 => k_is)
    (case c28 => k_is)
    (case k28 => k_is)
    (case a29 => k_is)
    (case l29 => k_is)
    (case c29 => k_is)
    (case k29 => k_is)
    (case a30 => k_is)
    (case l30 => k_is)
    (case c30 => k_is)
    (case k30 => k_is)
    (case a31 => k_is)
    (case l31 => k_is)
    (case c31 => k_is)
    (case k31 => k_is)
    (case a32 => k_is)
    (case l32 => k_is)
    (case c32 => k_is)
    (case k32 => k_is)
    (case a33 => k_is)
    (case l33 => k_is)
    (case c33 => k_is)
    (case k33 => k_is)
    (case a34 => k_is)
    (case l34 => k_is)
    (case c34 => k_is)
    (case k34 => k_is)
    (case a35 => k_is)
    (case l35 => k_is)
    (case c35 => k_is)
    (case k35 => k_is)
    (case a36 => k_is)
    (case l36 => k_is)
    (case c36 => k_is)
    (case k36 => k_is)
    (case a37 => k_is)
    (case l37 => k_is)
    (case c37 => k_is)
    (case k37 => k_is)
    (case a38 => k_is)
    (case l38 => k_is)
    (case c38 => k_is)
    (case k38 => k_is)
    (case a39 => k_is)
    (case l39 => k_is)
    (case c39 => k_is)
    (case k39 => k_is)
    (case a40 => k_is)
    (case l40 => k_is)
    (case c40 => k_is)
    (case k40 => k_is)
    (case a41 => k_is)
    (case l41 => k_is)
    (case c41 => k_is)
    (case k41 => k_is)
    (case a42 => k_is)
    (case l42 => k_is)
    (case c42 => k_is)
    (case k42 => k_is)
    (case a43 => k_is)
    (case l43 => k_is)
    (case c43 => k_is)
    (case k43 => k_is)
    (case a44 => k_is)
    (case l44 => k_is)
    (case c44 => k_is)
    (case k44 => k_is)
    (case a45 => k_is)
    (case l45 => k_is)
    (case c45 => k_is)
    (case k45 => k_is)
    (case a46 => k_is)
    (case l46 => k_is)
    (case c46 => k_is)
    (case k46 => k_is)
    (case a47 => k_is)
    (case l47 => k_is)
    (case c47 => k_is)
    (case k47 => k_is)
    (case a48 => k_is)
    (case l48 => k_is)
    (case c48 => k_is)
    (case k48 => k_is)
    (case a49 => k_is)
    (case l49 => k_is)
    (case c49 => k_is)
    (case k49 => k_is)
    (case a50 => k_is)
    (case l50 => k_is)
    (case c50 => k_is)
    (case k50 => k_is)
    (case a51 => k_is)
    (case l51 => k_is)
    (case c51 => k_is)
    (case k51 => k_is)
    (case a52 => k_is)
    (case l52 => k_is)
    (case c52 => k_is)
    (case k52 => k_is)
    (case a53 => k_is)
    (case l53 => k_is)
    (case c53 => k_is)
    (case k53 => k_is)
    (case z_all => k_is)
    (case z_bool => k_is)
    (case z_enumerate => k_is)
    (case z_int => k_is)
    (case z_isinstance => k_is)
    (case z_len => k_is)
    (case z_list => k_is)
    (case z_max => k_is)
    (case z_min => k_is)
    (case z_range => k_is)
    (case z_repr => k_is)
    (case z_sorted => k_is)
    (case z_str => k_is)
    (case z_tuple => k_is)
    (case z_zip => k_is)
    (case aC0 => k_is)
    (case xC0 => k_is)
    (case saC0 => k_is)
    (case iC0 => k_is)
    (case tI0 => k_is)
    (case lC0 => k_is)
    (case cC0 => k_is)
    (case kI0 => k_is)
    (case kC0 => k_is)
    (case eC0 => k_is)
    (case tC0 => k_is)
    (case isC0 => k_is)
    (case sC0 => first | rfl | k_is | decide +kernel)
    (case gaC0 => k_is)
    (case ggC0 => k_is)
    (case hdC0 => k_is)
    (case nC0part => k_is)
    (case nC0number => k_is)
    (case aC1 => k_is)
    (case xC1 => k_is)
    (case saC1 => k_is)
    (case iC1 => k_is)
    (case tI1 => k_is)
    (case lC1 => k_is)
    (case cC1 => k_is)
    (case kI1 => k_is)
    (case kC1 => k_is)
    (case eC1 => k_is)
    (case tC1 => k_is)
    (case isC1 => k_is)
    (case sC1 => first | rfl | k_is | decide +kernel)
    (case gaC1 => k_is)
    (case ggC1 => k_is)
    (case hdC1 => k_is)
    (case nC1part => k_is)
    (case nC1number => k_is)
    (case aC2 => k_is)
    (case xC2 => k_is)
    (case saC2 => k_is)
    (case iC2 => k_is)
    (case tI2 => k_is)
    (case lC2 => k_is)
    (case cC2 => k_is)
    (case kI2 => k_is)
    (case kC2 => k_is)
    (case eC2 => k_is)
    (case tC2 => k_is)
    (case isC2 => k_is)
    (case sC2 => first | rfl | k_is | decide +kernel)
    (case aC3 => k_is)
    (case xC3 => k_is)
    (case saC3 => k_is)
    (case iC3 => k_is)
    (case tI3 => k_is)
    (case lC3 => k_is)
    (case cC3 => k_is)
    (case kI3 => k_is)
    (case kC3 => k_is)
    (case eC3 => k_is)
    (case tC3 => k_is)
    (case isC3 => k_is)
    (case sC3 => first | rfl | k_is | decide +kernel)
    (case gaC3 => k_is)
    (case ggC3 => k_is)
    (case hdC3 => k_is)
    (case nC3most => k_is)
    (case sC0x1 => first | rfl | k_is | decide +kernel)
    (case sC0x2 => first | rfl | k_is | decide +kernel)
    (case sC0x3 => first | rfl | k_is | decide +kernel)
    (case sC1x0 => first | rfl | k_is | decide +kernel)
    (case sC1x2 => first | rfl | k_is | decide +kernel)
    (case sC1x3 => first | rfl | k_is | decide +kernel)
    (case sC2x0 => first | rfl | k_is | decide +kernel)
    (case sC2x1 => first | rfl | k_is | decide +kernel)
    (case sC2x3 => first | rfl | k_is | decide +kernel)
    (case sC3x0 => first | rfl | k_is | decide +kernel)
    (case sC3x1 => first | rfl | k_is | decide +kernel)
    (case sC3x2 => first | rfl | k_is | decide +kernel)
    (case vV => first | rfl | k_is | decide +kernel)
    (case zV => k_is)
    (case cFORMS => k_is)
    (case lFORMS => k_is)
    (case lFORMS0 => k_is)
    (case lFORMS1 => k_is)


